import PyProof.Rows.All
import Wide.All
import OpenK.AllK
import Wide.FinOn
import PyProof.EqAt
import PyProof.EqKinds
import PyProof.TupleCall
import PyProof.DictCompW
import HandS.ForMost
import HandS.ForExc
import HandS.Flow
import HandS.Style
import HandS.Deep
import HandS.DictComp
import KE.KDictWalk
import PyProof.DictMoreH
import HandS.TupAny
import HandS.TupLe
import HandS.IsInst
import HandS.Conv
import KE.SortData
import KE.DataMinMax
import KE.DataCmp
import KE.DataFind
import KE.GoesMore
import HandS.WordsExc
import HandS.TupMul
import HandS.Star
import KE.KDictZip
import HandS.Zip
import HandS.Gcd
import HandS.Wide
import HandS.WideBits
import HandS.SetFor
import HandS.Strs
import HandS.Iter
import HandS.Text
import HandS.FStr
import HandS.ExcInit
import HandS.ExcField
import KE.GoesEnumKw
import HandS.ReplaceLit
import PyProof.StrReplace2
import KE.KDictSum
import HandS.Property
import PySem.Challenge.RW_restalike_k09_whole_desks
set_option Elab.async false
set_option linter.all false
set_option maxRecDepth 100000
set_option maxHeartbeats 4000000
section
/-! Dicts whose keys are tuples of ints, the tuples known to their objects. -/
namespace DL
open PySem PySem.Spec PyProof.Rows L2
abbrev DEs := List (List Int × Addr × Addr)
def hsh (ks : List Int) : Int := reduceHash (Builtin.Tuple.tupleHashOf (ks.map hashInt))
def rawE (es : DEs) : List DictEntry := es.map fun e => ⟨hsh e.1, .ref e.2.1, .ref e.2.2⟩
def trip (es : DEs) : List (List Int × Addr × Value) := es.map fun e => (e.1, e.2.1, Value.ref e.2.2)
def DctAt (a : Addr) (es : DEs) (h : Heap) : Prop := es.length ≤ sizeLine ∧ (a == sysModules) = false ∧ (es.map (·.1)).Nodup ∧ ∃ ar ep, h.DictRaw a ar ep ∧ ar.toList = rawE es
def dctO (a : Addr) (es : DEs) : HO := .ext (DctAt a es)
def KyAt (H : Hp) (b : Addr) (ks : List Int) : Prop := Rd H b (.tup (ks.map V.int))
def Kys (H : Hp) (es : DEs) : Prop := ∀ e ∈ es, KyAt H e.2.1 e.1
theorem raw_trip (P : Program) (w : World) (es : DEs) : (trip es).map (entryOfKey (tupleKind (PySem.intKind P w))) = rawE es := by
  unfold trip rawE
  rw [List.map_map]; rfl
theorem keys_trip (es : DEs) : (trip es).map (·.1) = es.map (·.1) := by
  unfold trip
  rw [List.map_map]; rfl
theorem ints_are {P : Program} {w : World} : ∀ {ks : List Int} {us : List Value}, Vals (ks.map V.int) us → PySem.ItemsAre (PySem.intKind P w) ks us
  | [], us, r => by cases r; exact .nil
  | k :: ks, us, r => by
    cases r with
    | cons h t =>
      obtain ⟨tk, e⟩ := (show ∃ t, _ = Value.int k t from h)
      subst e
      exact .cons (by show (k == k) = true; simp) (ints_are t)
section
variable {P : Program} {w : World} {H : Hp} {h h' : Heap} {a b : Addr} {ks : List Int} {es : DEs}
theorem ky_is (ok : HOk P w H h) (k : KyAt H b ks) : (tupleKind (PySem.intKind P w)).is h ks b := by
  obtain ⟨_, its, r, o, e1, e2, n, e3⟩ := (show ObjOk P w H h b (.tup (ks.map V.int)) from Rd.ok k ok)
  exact ⟨o, its.toArray, n, e1, e2, e3, by rw [List.toList_toArray]; exact ints_are r⟩
theorem dct_at (ok : HOk P w H h) (e : H a = some (dctO a es)) (hk : Kys H es) : DctAt a es h ∧ h.DictOfH (tupleKind (PySem.intKind P w)) a (trip es) := by
  obtain ⟨p, _, _⟩ := ok a _ e
  obtain ⟨p1, p2, p3, ar, ep, ⟨o, q1, q2, q3⟩, p5⟩ := p
  refine ⟨⟨p1, p2, p3, ar, ep, ⟨o, q1, q2, q3⟩, p5⟩, o, ar, ep, q1, q2, q3, by rw [raw_trip]; exact p5, fun x hx => ?_, by rw [keys_trip]; exact p3⟩
  obtain ⟨y, hy, rfl⟩ := List.mem_map.mp hx
  exact ky_is ok (hk y hy)
theorem dct_ok {P : Program} {w : World} {H' : Hp} (x : DctAt a es h') : ObjOk P w H' h' a (dctO a es) := by
  refine ⟨x, ?_, fun h1 h2 y k => ?_⟩
  · obtain ⟨_, _, _, ar, ep, ⟨o, q1, _⟩, _⟩ := x
    exact ⟨o, q1⟩
  · obtain ⟨p1, p2, p3, ar, ep, ⟨o, q1, q2, q3⟩, p5⟩ := y
    exact ⟨p1, p2, p3, ar, ep, ⟨o, k o q1, q2, q3⟩, p5⟩
theorem at_trip {es : DEs} {k : List Int} {c : Addr} {b : Addr} (hn : (es.map (·.1)).Nodup) (hm : (k, b, c) ∈ es) : atKey (trip es) k = some (b, Value.ref c) := by
  induction es with
  | nil => cases hm
  | cons e es ih =>
    rw [List.map_cons, List.nodup_cons] at hn
    show ((((e.1, e.2.1, Value.ref e.2.2) :: trip es).find? fun x => decide (x.1 = k)).map (·.2)) = _
    rcases List.mem_cons.mp hm with z | z
    · subst z
      rw [List.find?_cons_of_pos (by simp)]; rfl
    · have hne : ¬ e.1 = k := fun q => hn.1 (by rw [q]; exact List.mem_map.mpr ⟨_, z, rfl⟩)
      rw [List.find?_cons_of_neg (by simp [hne])]
      exact ih hn.2 z
theorem at_none {es : DEs} {k : List Int} (hn : k ∉ es.map (·.1)) : atKey (trip es) k = none := by
  unfold atKey
  rw [Option.map_eq_none_iff, List.find?_eq_none]
  intro x hx
  obtain ⟨y, hy, rfl⟩ := List.mem_map.mp hx
  have : ¬ y.1 = k := fun q => hn (List.mem_map.mpr ⟨y, hy, q⟩)
  simp [this]
theorem dct_new (h : Heap) (hb : sysModules < h.objs.size) : DctAt h.objs.size [] (h.push { cls := .type "dict", data := .dict #[] }) :=
  ⟨Nat.zero_le _, beq_eq_false_iff_ne.mpr (Nat.ne_of_gt hb), List.nodup_nil, #[], 0, ⟨_, Heap.get?_push_size _ rfl, ⟨rfl, rfl, rfl⟩, rfl⟩, rfl⟩
end
section
variable {X : Cx} {pins : List (Addr × Obj)} {σ : L2.St} {H : Hp} {s : Shared} {A : Around} {E : Value → Shared → Prop}
/-- d[k], k among the keys -/
theorem dct_get {a b b' c : Addr} {es : DEs} {ks : List Int} {Q : Value → Shared → Prop} (hu : A.units + 1 < cLine) (I : Inv X pins σ H s) (hD : H a = some (dctO a es)) (hk : Kys H es) (k : KyAt H b ks) (hm : (ks, b', c) ∈ es)
    (q : ∀ s', Inv X pins σ H s' → Q (.ref c) s') : wpAny (model X.prog X.w) A (getItem (.ref a) (.ref b)) Q E s := by
  obtain ⟨d, dd⟩ := dct_at I.hok hD hk
  exact wpAny_getItem_heap (tupleKind_room_in1 hu) (ky_is I.hok k) dd (at_trip d.2.2.1 hm) (q _ (I.tok _))
/-- {.., k: v}, by a comprehension -/
theorem dct_set {D b c : Addr} {es : DEs} {ks : List Int} {Q : Unit → Shared → Prop} (hu : X.A.units < cLine) (I : Inv X pins σ H s) (hD : H D = some (dctO D es)) (hk : Kys H es) (k : KyAt H b ks) (hn : ks ∉ es.map (·.1)) (hz : es.length < sizeLine)
    (q : ∀ s', Inv X pins σ (upd H D (dctO D (es ++ [(ks, b, c)]))) s' → Q () s') : wpAny (model X.prog X.w) X.A (dictSet D (.ref b) (.ref c)) Q E s := by
  obtain ⟨d, dd⟩ := dct_at I.hok hD hk
  have hl : (trip es).length ≤ sizeLine := by unfold trip; rw [List.length_map]; omega
  refine wpAny_dictSet_heap (hsz := hl) (knd := tupleKind (PySem.intKind X.prog X.w)) hu (ky_is I.hok k) dd fun h' dd' hs => q _ ?_
  rw [storedH_new (at_none hn)] at dd'
  obtain ⟨o, ar, ep, q1, q2, q3, q4, _, q5⟩ := dd'
  have e : trip es ++ [(ks, b, Value.ref c)] = trip (es ++ [(ks, b, c)]) := by unfold trip; rw [List.map_append]; rfl
  rw [e] at q4 q5
  rw [raw_trip] at q4
  rw [keys_trip] at q5
  exact I.write (x := D) (e := D) (by rw [hD]; exact True.intro) (.inl rfl) (fun y u hy z => (hs.2 y hy).trans z) ⟨o, q1⟩ (dct_ok ⟨by rw [List.length_append]; exact hz, d.2.1, q5, ar, ep, ⟨o, q1, q2, q3⟩, q4⟩)
theorem dct_type {a : Addr} {es : DEs} (I : Inv X pins σ H s) (hD : H a = some (dctO a es)) : s.TypeIs (.ref a) "dict" := by
  obtain ⟨⟨_, _, _, ar, ep, dr, _⟩, _⟩ := I.hok a _ hD
  exact dr.typeIs
end
section
variable {X : Cx} {o i : Expr} {pos : Pos} {td ty : TE}
def tMapGet (td ty : TE) : TE := fun σ H Q => td σ H fun x H1 => ty σ H1 fun y H2 => ∃ a b c b' es ks, x = .ref a ∧ y = .ref b ∧ H2 a = some (dctO a es) ∧ Kys H2 es ∧ KyAt H2 b ks ∧ (ks, b', c) ∈ es ∧ Q (.ref c) H2
theorem pe_mapGet (hu : X.A.units + 1 < cLine) (ho : PE X o td) (hi : PE X i ty) (hs : NoSl i) : PE X (.Subscript o i pos) (tMapGet td ty) := by
  refine ⟨fun pins s σ H Q I h => subD_of PySem.F.slot_dict_getitem.lookup hs (thn (ho.run pins s σ H _ I h) fun u s1 ⟨x, H1, I1, rx, q1⟩ => thn (hi.run pins s1 σ H1 _ I1 q1) fun iv s2 ⟨y, H2, I2, ry, a, b, c, b', es, ks, ex, ey, hD, hk, k, hm, q2⟩ => ?_)⟩
  subst ex ey
  obtain rfl : u = Value.ref a := rx
  obtain rfl : iv = Value.ref b := ry
  exact ⟨dct_type I2 hD, dct_get hu I2 hD hk k hm fun s3 I3 => ⟨.ref c, H2, I3, rfl, q2⟩⟩
end
end DL
end

section
/-! A dict whose keys are pairs of ints and whose values are all True: in, a key stored, a key taken out. -/
namespace DL
open PySem PySem.Spec PyProof.Rows L2
abbrev JEs := List ((Int × Int) × Addr)
abbrev kyL (p : Int × Int) : List Int := [p.1, p.2]
def rawJ (es : JEs) : List DictEntry := es.map fun e => ⟨hsh (kyL e.1), .ref e.2, .bool true⟩
def tripJ (es : JEs) : List (List Int × Addr × Value) := es.map fun e => (kyL e.1, e.2, Value.bool true)
def JAt (a : Addr) (es : JEs) (h : Heap) : Prop := es.length ≤ sizeLine ∧ (a == sysModules) = false ∧ (es.map (·.1)).Nodup ∧ ∃ ar ep, h.DictRaw a ar ep ∧ ar.toList = rawJ es
def joinO (a : Addr) (es : JEs) : HO := .ext (JAt a es)
def KysJ (H : Hp) (es : JEs) : Prop := ∀ e ∈ es, KyAt H e.2 (kyL e.1)
theorem kyL_inj {p q : Int × Int} (h : kyL p = kyL q) : p = q := by
  obtain ⟨a, b⟩ := p
  obtain ⟨c, d⟩ := q
  simp [kyL] at h
  rw [h.1, h.2]
theorem raw_tripJ (P : Program) (w : World) (es : JEs) : (tripJ es).map (entryOfKey (tupleKind (PySem.intKind P w))) = rawJ es := by
  unfold tripJ rawJ
  rw [List.map_map]; rfl
theorem keys_tripJ (es : JEs) : (tripJ es).map (·.1) = (es.map (·.1)).map kyL := by
  unfold tripJ
  rw [List.map_map, List.map_map]; rfl
theorem nodup_kyL {l : List (Int × Int)} (h : l.Nodup) : (l.map kyL).Nodup := by
  induction l with
  | nil => exact List.nodup_nil
  | cons p l ih =>
    obtain ⟨h1, h2⟩ := List.nodup_cons.mp h
    rw [List.map_cons, List.nodup_cons]
    refine ⟨fun z => ?_, ih h2⟩
    obtain ⟨q, hq, e⟩ := List.mem_map.mp z
    rw [← kyL_inj e] at h1
    exact h1 hq
theorem nodup_kyL_inv {l : List (Int × Int)} (h : (l.map kyL).Nodup) : l.Nodup := by
  induction l with
  | nil => exact List.nodup_nil
  | cons p l ih =>
    rw [List.map_cons, List.nodup_cons] at h
    exact List.nodup_cons.mpr ⟨fun z => h.1 (List.mem_map.mpr ⟨p, z, rfl⟩), ih h.2⟩
section
variable {P : Program} {w : World} {H : Hp} {h h' : Heap} {a b : Addr} {p : Int × Int} {es : JEs}
theorem j_at (ok : HOk P w H h) (e : H a = some (joinO a es)) (hk : KysJ H es) : JAt a es h ∧ h.DictOfH (tupleKind (PySem.intKind P w)) a (tripJ es) := by
  obtain ⟨x, _, _⟩ := ok a _ e
  obtain ⟨p1, p2, p3, ar, ep, ⟨o, q1, q2, q3⟩, p5⟩ := x
  refine ⟨⟨p1, p2, p3, ar, ep, ⟨o, q1, q2, q3⟩, p5⟩, o, ar, ep, q1, q2, q3, by rw [raw_tripJ]; exact p5, fun x hx => ?_, by rw [keys_tripJ]; exact nodup_kyL p3⟩
  obtain ⟨y, hy, rfl⟩ := List.mem_map.mp hx
  exact ky_is ok (hk y hy)
theorem j_ok {P : Program} {w : World} {H' : Hp} (x : JAt a es h') : ObjOk P w H' h' a (joinO a es) := by
  refine ⟨x, ?_, fun h1 h2 y k => ?_⟩
  · obtain ⟨_, _, _, ar, ep, ⟨o, q1, _⟩, _⟩ := x
    exact ⟨o, q1⟩
  · obtain ⟨p1, p2, p3, ar, ep, ⟨o, q1, q2, q3⟩, p5⟩ := y
    exact ⟨p1, p2, p3, ar, ep, ⟨o, k o q1, q2, q3⟩, p5⟩
theorem j_some {es : JEs} {p : Int × Int} (h : p ∈ es.map (·.1)) : ∃ x, atKey (tripJ es) (kyL p) = some x := by
  cases q : atKey (tripJ es) (kyL p) with
  | some x => exact ⟨x, rfl⟩
  | none =>
    unfold atKey at q
    rw [Option.map_eq_none_iff, List.find?_eq_none] at q
    obtain ⟨e, he, rfl⟩ := List.mem_map.mp h
    have := q (kyL e.1, e.2, Value.bool true) (List.mem_map.mpr ⟨e, he, rfl⟩)
    simp at this
theorem j_none {es : JEs} {p : Int × Int} (h : p ∉ es.map (·.1)) : atKey (tripJ es) (kyL p) = none := by
  unfold atKey
  rw [Option.map_eq_none_iff, List.find?_eq_none]
  intro x hx
  obtain ⟨y, hy, rfl⟩ := List.mem_map.mp hx
  have : ¬ kyL y.1 = kyL p := fun q => h (List.mem_map.mpr ⟨y, hy, kyL_inj q⟩)
  simpa using this
theorem j_isSome {es : JEs} {p : Int × Int} : (atKey (tripJ es) (kyL p)).isSome = decide (p ∈ es.map (·.1)) := by
  by_cases h : p ∈ es.map (·.1)
  · obtain ⟨x, e⟩ := j_some h
    rw [e, decide_eq_true h]; rfl
  · rw [j_none h, decide_eq_false h]; rfl
def outJ (es : JEs) (p : Int × Int) : JEs := es.filter fun e => decide (e.1 ≠ p)
theorem out_trip (es : JEs) (p : Int × Int) : withoutH (tripJ es) (kyL p) = tripJ (outJ es p) := by
  induction es with
  | nil => rfl
  | cons e es ih =>
    unfold withoutH tripJ outJ at *
    rw [List.map_cons, List.filter_cons, List.filter_cons, ih]
    by_cases h : e.1 = p
    · rw [if_neg (by simp [h]), if_neg (by simp [h])]
    · have hk : (kyL e.1, e.2, Value.bool true).1 ≠ kyL p := fun z => h (kyL_inj z)
      rw [if_pos (decide_eq_true hk), if_pos (decide_eq_true h)]; rfl
theorem app_trip (es : JEs) (p : Int × Int) (b : Addr) : tripJ es ++ [(kyL p, b, Value.bool true)] = tripJ (es ++ [(p, b)]) := by unfold tripJ; rw [List.map_append]; rfl
theorem j_new (h : Heap) (hb : sysModules < h.objs.size) : JAt h.objs.size [] (h.push { cls := .type "dict", data := .dict #[] }) :=
  ⟨Nat.zero_le _, beq_eq_false_iff_ne.mpr (Nat.ne_of_gt hb), List.nodup_nil, #[], 0, ⟨_, Heap.get?_push_size _ rfl, ⟨rfl, rfl, rfl⟩, rfl⟩, rfl⟩
end
section
variable {X : Cx}
theorem op_inJ (hu : X.A.units + 1 < cLine) : OpR X (compareOp .In) (fun x y H Q => ∃ a b es p, x = .ref b ∧ y = .ref a ∧ H a = some (joinO a es) ∧ KysJ H es ∧ KyAt H b (kyL p) ∧ Q (.bl (decide (p ∈ es.map (·.1)))) H) := by
  intro pn s σ H x y v u Q I rx ry h
  obtain ⟨a, b, es, p, rfl, rfl, hD, hk, k, q⟩ := h
  obtain rfl : v = Value.ref b := rx
  obtain rfl : u = Value.ref a := ry
  obtain ⟨d, dd⟩ := j_at I.hok hD hk
  refine wpAny_in_heap (tupleKind_room_in1 hu) (ky_is I.hok k) d.2.1 dd ⟨.bl _, H, I.tok _, ?_, q⟩
  show Value.bool _ = Value.bool _
  rw [j_isSome]
theorem set_J (hu : X.A.units + 1 < cLine) : PSet X (fun o i v H Q => ∃ a b es p, o = .ref a ∧ i = .ref b ∧ v = .bl true ∧ H a = some (joinO a es) ∧ KysJ H es ∧ KyAt H b (kyL p) ∧ p ∉ es.map (·.1) ∧ es.length < sizeLine ∧ Q (upd H a (joinO a (es ++ [(p, b)])))) := by
  intro pn s σ H x y v xv yv u Q I rx ry rv h
  obtain ⟨a, b, es, p, rfl, rfl, rfl, hD, hk, k, hn, hz, q⟩ := h
  obtain rfl : xv = Value.ref a := rx
  obtain rfl : yv = Value.ref b := ry
  obtain rfl : u = Value.bool true := rv
  obtain ⟨d, dd⟩ := j_at I.hok hD hk
  have hl : (tripJ es).length ≤ sizeLine := by unfold tripJ; rw [List.length_map]; omega
  refine wpAny_setItem_heap (hsz := hl) (knd := tupleKind (PySem.intKind X.prog X.w)) (tupleKind_room_in1 hu) (ky_is I.hok k) dd fun h' dd' hs => ⟨_, ?_, q⟩
  rw [storedH_new (j_none hn), app_trip] at dd'
  obtain ⟨o, ar, ep, q1, q2, q3, q4, _, q5⟩ := dd'
  rw [raw_tripJ] at q4
  rw [keys_tripJ] at q5
  exact I.write (x := a) (e := a) (by rw [hD]; exact True.intro) (.inl rfl) (fun y u hy z => (hs.2 y hy).trans z) ⟨o, q1⟩ (j_ok ⟨by rw [List.length_append]; exact hz, d.2.1, nodup_kyL_inv q5, ar, ep, ⟨o, q1, q2, q3⟩, q4⟩)
def sDelJ (td ty : TE) : TS := fun D σ H => td σ H fun x H1 => ty σ H1 fun y H2 => ∃ a b es p, x = .ref a ∧ y = .ref b ∧ H2 a = some (joinO a es) ∧ KysJ H2 es ∧ KyAt H2 b (kyL p) ∧ p ∈ es.map (·.1) ∧ D.nx σ (upd H2 a (joinO a (outJ es p)))
theorem ps_delJ {o i : Expr} {pos tpos : Pos} {td ty : TE} (hu : X.A.units + 1 < cLine) (ho : PE X o td) (hi : PE X i ty) : PS X (.Delete [.Subscript o i tpos] pos) (sDelJ td ty) := by
  refine ⟨fun pn s σ H D I hw => ?_⟩
  refine wpAny_Delete (wpAny_deleteEach_cons (wpAny_delete_Subscript (thn (ho.run pn s σ H _ I hw) fun xv s1 ⟨x, H1, I1, rx, q1⟩ => thn (hi.run pn s1 σ H1 _ I1 q1) fun yv s2 ⟨y, H2, I2, ry, a, b, es, p, ex, ey, hD, hk, k, hm, q2⟩ => ?_)))
  subst ex ey
  obtain rfl : xv = Value.ref a := rx
  obtain rfl : yv = Value.ref b := ry
  obtain ⟨d, dd⟩ := j_at I2.hok hD hk
  obtain ⟨pq, hp⟩ := j_some hm
  have hl : (tripJ es).length ≤ sizeLine := by unfold tripJ; rw [List.length_map]; exact d.1
  refine wpAny_delItem_heap (hsz := hl) (knd := tupleKind (PySem.intKind X.prog X.w)) (tupleKind_room_in1 hu) (ky_is I2.hok k) d.2.1 dd hp fun h' dd' hs => wpAny_deleteEach_nil ⟨σ, _, ?_, q2⟩
  rw [out_trip] at dd'
  obtain ⟨o, ar, ep, q1, q2, q3, q4, _, q5⟩ := dd'
  rw [raw_tripJ] at q4
  rw [keys_tripJ] at q5
  refine I2.write (x := a) (e := a) (by rw [hD]; exact True.intro) (.inl rfl) (fun y u hy z => (hs.2 y hy).trans z) ⟨o, q1⟩ (j_ok ⟨Nat.le_trans (List.length_filter_le _ _) d.1, d.2.1, nodup_kyL_inv q5, ar, ep, ⟨o, q1, q2, q3⟩, q4⟩)
/-- {} as such a dict -/
theorem pe_newJ {pos : Pos} : PE X (.Dict [] [] pos) (fun σ H Q => ∀ a, H a = none → Q (.ref a) (upd H a (joinO a []))) :=
  ⟨fun pn s σ H Q I hw => wpAny_Dict_empty ⟨.ref s.heap.objs.size, _, I.laid (a := s.heap.objs.size) (o := joinO s.heap.objs.size []) (t' := s.toks) (fun b u q => Heap.get?_push_of_some _ q) (Nat.le_refl _) (j_ok (j_new s.heap I.big)), rfl, hw _ (I.hok.fresh (Nat.le_refl _))⟩⟩
end
end DL
end

section
/-! A layer of data over the hand layer: what an expression is worth as data, with lists of the frame's own. -/
namespace DL
open PySem PySem.Spec PyProof.Rows L2

/-! ### heaps, data -/
def Ext (H H' : Hp) : Prop := ∀ a o, H a = some o → H' a = some o
theorem Ext.refl (H : Hp) : Ext H H := fun _ _ h => h
theorem Ext.trans {H H1 H2 : Hp} (a : Ext H H1) (b : Ext H1 H2) : Ext H H2 := fun x o h => b x o (a x o h)
theorem Ext.new {H : Hp} {p : Addr} {o : HO} (h : H p = none) : Ext H (upd H p o) := fun a u e => by
  rw [upd_ne (ne_of_none e h)]
  exact e
theorem Ext.free {F H : Hp} (e : Ext F H) {a : Addr} (h : H a = none) : F a = none := by
  cases q : F a with
  | none => rfl
  | some o => rw [e a o q] at h; cases h
theorem Ext.upd2 {F H : Hp} (e : Ext F H) (p : Addr) (o : HO) : Ext (upd F p o) (upd H p o) := fun a u h => by
  by_cases ha : a = p
  · subst ha; rw [upd_same] at h ⊢; exact h
  · rw [upd_ne ha] at h ⊢; exact e a u h
/-- below the heap, an address that the lower one does not know may change -/
theorem Ext.mut {F H : Hp} (e : Ext F H) {p : Addr} {o : HO} (h : F p = none) : Ext F (upd H p o) := fun a u ha => by
  rw [upd_ne (ne_of_none ha h)]
  exact e a u ha

abbrev scrD (ns : List Int) : PyData := .dict (ns.map fun n => (PyData.int n, PyData.none))
/-- two ints stand at b -/
def TwoAt (F : Hp) (b : Addr) (p : Int × Int) : Prop := ∃ ob : Obj, F b = some (.frz ob (.tup [V.int p.1, V.int p.2])) ∧ ob.dict = none
def MapE (F : Hp) (e : List Int × Addr × Addr) (p : (Int × Int) × (Int × Int)) : Prop := e.1 = [p.1.1, p.1.2] ∧ TwoAt F e.2.1 p.1 ∧ TwoAt F e.2.2 p.2
theorem TwoAt.up {F F' : Hp} (x : Ext F F') {b : Addr} {p : Int × Int} (h : TwoAt F b p) : TwoAt F' b p := let ⟨ob, h1, h2⟩ := h; ⟨ob, x _ _ h1, h2⟩
theorem MapE.up {F F' : Hp} (x : Ext F F') {e : List Int × Addr × Addr} {p : (Int × Int) × (Int × Int)} (h : MapE F e p) : MapE F' e p := ⟨h.1, h.2.1.up x, h.2.2.up x⟩
/-- the values of a dict whose keys are ints or texts: an int, or two ints -/
inductive LeafE (F : Hp) : V → PyData → Prop
  | int (i : Int) : LeafE F (.int i) (.int i)
  | two {b : Addr} {p : Int × Int} : TwoAt F b p → LeafE F (.ref b) (.tuple [.int p.1, .int p.2])
theorem LeafE.up {F F' : Hp} (x : Ext F F') {v : V} {d : PyData} : LeafE F v d → LeafE F' v d
  | .int i => .int i
  | .two h => .two (h.up x)
def KvE (F : Hp) (e : Key × V) (p : Key × PyData) : Prop := e.1 = p.1 ∧ LeafE F e.2 p.2
theorem KvE.up {F F' : Hp} (x : Ext F F') {e : Key × V} {p : Key × PyData} (h : KvE F e p) : KvE F' e p := ⟨h.1, h.2.up x⟩
def keyD : Key → PyData
  | .inl i => .int i
  | .inr x => .str x
/-- a pair's tuple -/
abbrev twoP (p : Int × Int) : PyData := .tuple [.int p.1, .int p.2]
def TwoV (F : Hp) (v : V) (p : Int × Int) : Prop := ∃ b, v = .ref b ∧ TwoAt F b p
theorem TwoV.up {F F' : Hp} (x : Ext F F') {v : V} {p : Int × Int} (h : TwoV F v p) : TwoV F' v p := let ⟨b, e, t⟩ := h; ⟨b, e, t.up x⟩
/-- an instance with a number, a dict of pairs, a list of pairs -/
def deskF (halls : Int) (dj dl : Addr) : List (Str × V) := [("_halls", .int halls), ("_joined", .ref dj), ("_done", .ref dl)]
abbrev deskD (C : Addr) (halls : Int) (ks dn : List (Int × Int)) : PyData := .dict [(PyData.bool true, PyData.int C), (PyData.int halls, PyData.tuple (ks.map twoP)), (PyData.bool false, PyData.tuple (dn.map twoP))]
mutual
inductive Dd (K : PySem.W.Frag) (F : Hp) : V → PyData → Prop
  | non : Dd K F .non .none
  | bl (b : Bool) : Dd K F (.bl b) (.bool b)
  | int (i : Int) : Dd K F (.int i) (.int i)
  | str (x : Str) : Dd K F (.str x) (.str x)
  | lst {a : Addr} {xs : List V} {ds : List PyData} : F a = some (.lst xs) → DdA K F xs ds → Dd K F (.ref a) (.list ds)
  | tup {a : Addr} {ob : Obj} {xs : List V} {ds : List PyData} : F a = some (.frz ob (.tup xs)) → ob.dict = none → DdA K F xs ds → Dd K F (.ref a) (.tuple ds)
  | scr {a : Addr} {ns : List Int} : SqL K F a (ns.map V.int) → Dd K F (.ref a) (.dict (ns.map fun n => (PyData.int n, PyData.none)))
  | dct {a : Addr} : F a = some (.dK []) → Dd K F (.ref a) (.dict [(PyData.none, PyData.none)])
  | map {a : Addr} {es : DEs} {kv : List ((Int × Int) × (Int × Int))} : F a = some (dctO a es) → Paired (MapE F) es kv → Dd K F (.ref a) (.dict ((PyData.none, PyData.bool true) :: kv.map fun p => (PyData.tuple [.int p.1.1, .int p.1.2], PyData.tuple [.int p.2.1, .int p.2.2])))
  | dkd {a : Addr} {es : List (Key × V)} {kv : List (Key × PyData)} : F a = some (.dK es) → Paired (KvE F) es kv → Dd K F (.ref a) (.dict ((PyData.none, PyData.bool false) :: kv.map fun p => (keyD p.1, p.2)))
  | dsk {a C dx dj dl : Addr} {halls : Int} {es : JEs} {xs : List V} {dn : List (Int × Int)} : F a = some (.ins C dx (deskF halls dj dl)) → F dj = some (joinO dj es) → (∀ e ∈ es, TwoAt F e.2 e.1) → F dl = some (.lst xs) → Paired (TwoV F) xs dn → Dd K F (.ref a) (deskD C halls (es.map (·.1)) dn)
inductive DdA (K : PySem.W.Frag) (F : Hp) : List V → List PyData → Prop
  | nil : DdA K F [] []
  | cons {v : V} {vs : List V} {d : PyData} {ds : List PyData} : Dd K F v d → DdA K F vs ds → DdA K F (v :: vs) (d :: ds)
end
theorem ext_l {K : PySem.W.Frag} {H H' : Hp} {a : Addr} {xs : List V} (e : Ext H H') (h : SqL K H a xs) : SqL K H' a xs := by
  rcases h with (h | ⟨o, h⟩) | h
  · exact .inl (.inl (e _ _ h))
  · exact .inl (.inr ⟨o, e _ _ h⟩)
  · exact .inr h
section
variable {K : PySem.W.Frag} {F F' H H' : Hp}
mutual
theorem Dd.mono (e : Ext F F') : ∀ (d : PyData) (v : V), Dd K F v d → Dd K F' v d
  | .none, _, h => by cases h; exact .non
  | .bool b, _, h => by cases h; exact .bl b
  | .int i, _, h => by cases h; exact .int i
  | .str x, _, h => by cases h; exact .str x
  | .list ds, _, h => by
    cases h with
    | lst h1 h2 => exact .lst (e _ _ h1) (DdA.mono e ds _ h2)
  | .tuple ds, _, h => by
    cases h with
    | tup h1 h0 h2 => exact .tup (e _ _ h1) h0 (DdA.mono e ds _ h2)
  | .dict _, _, h => by
    cases h with
    | scr h1 => exact .scr (ext_l e h1)
    | dct h1 => exact .dct (e _ _ h1)
    | map h1 h2 => exact .map (e _ _ h1) (Paired.mapP h2 fun _ _ z => z.up e)
    | dkd h1 h2 => exact .dkd (e _ _ h1) (Paired.mapP h2 fun _ _ z => z.up e)
    | dsk h1 h2 h3 h4 h5 => exact .dsk (e _ _ h1) (e _ _ h2) (fun y hy => (h3 y hy).up e) (e _ _ h4) (Paired.mapP h5 fun _ _ z => z.up e)
theorem DdA.mono (e : Ext F F') : ∀ (ds : List PyData) (vs : List V), DdA K F vs ds → DdA K F' vs ds
  | [], _, h => by cases h; exact .nil
  | d :: ds, _, h => by
    cases h with
    | cons h1 h2 => exact .cons (Dd.mono e d _ h1) (DdA.mono e ds _ h2)
end
theorem Dd.up (e : Ext F F') {d : PyData} {v : V} (h : Dd K F v d) : Dd K F' v d := Dd.mono e d v h
theorem DdA.up (e : Ext F F') {ds : List PyData} {vs : List V} (h : DdA K F vs ds) : DdA K F' vs ds := DdA.mono e ds vs h
mutual
theorem Dd.dp (e : Ext F H) : ∀ (d : PyData) (v : V), d.canLay0 = true → Dd K F v d → Dp K H v d
  | .none, _, _, h => by cases h; exact .non
  | .bool b, _, _, h => by cases h; exact .bl b
  | .int i, _, _, h => by cases h; exact .int i
  | .str x, _, _, h => by cases h; exact .str x
  | .list ds, _, q, h => by
    cases h with
    | lst h1 h2 => exact .lst (SqL.of (e _ _ h1)) (DdA.dp e ds _ (by simpa [PyData.canLay0] using q) h2)
  | .tuple ds, _, q, h => by
    cases h with
    | tup h1 h0 h2 => exact .tup (.inl (.inr ⟨_, e _ _ h1⟩)) (DdA.dp e ds _ (by simpa [PyData.canLay0] using q) h2)
  | .dict _, _, q, _ => by simp [PyData.canLay0] at q
theorem DdA.dp (e : Ext F H) : ∀ (ds : List PyData) (vs : List V), PyData.canLayAll0 ds = true → DdA K F vs ds → DpAll K H vs ds
  | [], _, _, h => by cases h; exact .nil
  | d :: ds, _, q, h => by
    cases h with
    | cons h1 h2 =>
      have q2 : d.canLay0 = true ∧ PyData.canLayAll0 ds = true := by simpa [PyData.canLayAll0] using q
      exact .cons (Dd.dp e d _ q2.1 h1) (DdA.dp e ds _ q2.2 h2)
end
theorem DdA.len : ∀ {ds : List PyData} {vs : List V}, DdA K F vs ds → vs.length = ds.length
  | [], _, h => by cases h; rfl
  | d :: ds, _, h => by
    cases h with
    | cons h1 h2 => rw [List.length_cons, List.length_cons, DdA.len h2]
theorem DdA.get : ∀ {ds : List PyData} {vs : List V} {i : Nat} {d : PyData}, DdA K F vs ds → ds[i]? = some d → ∃ v, vs[i]? = some v ∧ Dd K F v d
  | [], _, i, d, h, q => by simp at q
  | e :: ds, _, 0, d, h, q => by
    cases h with
    | cons h1 h2 =>
      have q' : e = d := Option.some.inj q
      subst q'
      exact ⟨_, rfl, h1⟩
  | e :: ds, _, i + 1, d, h, q => by
    cases h with
    | cons h1 h2 => exact DdA.get (i := i) h2 q
theorem DdA.getv : ∀ {ds : List PyData} {vs : List V} {i : Nat} {v : V}, DdA K F vs ds → vs[i]? = some v → ∃ d, ds[i]? = some d ∧ Dd K F v d
  | [], _, i, d, h, q => by cases h; simp at q
  | e :: ds, _, 0, d, h, q => by
    cases h with
    | cons h1 h2 =>
      have q' := Option.some.inj q
      subst q'
      exact ⟨_, rfl, h1⟩
  | e :: ds, _, i + 1, d, h, q => by
    cases h with
    | cons h1 h2 => exact DdA.getv (i := i) h2 q
theorem DdA.app : ∀ {ds es : List PyData} {vs ws : List V}, DdA K F vs ds → DdA K F ws es → DdA K F (vs ++ ws) (ds ++ es)
  | [], _, _, _, h, h' => by cases h; exact h'
  | d :: ds, _, _, _, h, h' => by
    cases h with
    | cons h1 h2 => exact .cons h1 (DdA.app h2 h')
theorem DdA.set : ∀ {ds : List PyData} {vs : List V} {i : Nat} {d : PyData} {v : V}, DdA K F vs ds → Dd K F v d → DdA K F (vs.set i v) (ds.set i d)
  | [], _, i, d, v, h, _ => by cases h; exact .nil
  | e :: ds, _, 0, d, v, h, q => by
    cases h with
    | cons h1 h2 => exact .cons q h2
  | e :: ds, _, i + 1, d, v, h, q => by
    cases h with
    | cons h1 h2 => exact .cons h1 (DdA.set (i := i) h2 q)
theorem DdA.erase : ∀ {ds : List PyData} {vs : List V} {i : Nat}, DdA K F vs ds → DdA K F (vs.eraseIdx i) (ds.eraseIdx i)
  | [], _, i, h => by cases h; exact .nil
  | e :: ds, _, 0, h => by
    cases h with
    | cons h1 h2 => exact h2
  | e :: ds, _, i + 1, h => by
    cases h with
    | cons h1 h2 => exact .cons h1 (DdA.erase (i := i) h2)
theorem DdA.drop : ∀ {ds : List PyData} {vs : List V} (n : Nat), DdA K F vs ds → DdA K F (vs.drop n) (ds.drop n)
  | _, _, 0, h => h
  | [], _, n + 1, h => by cases h; exact .nil
  | e :: ds, _, n + 1, h => by
    cases h with
    | cons h1 h2 => exact DdA.drop n h2
theorem DdA.take : ∀ {ds : List PyData} {vs : List V} (n : Nat), DdA K F vs ds → DdA K F (vs.take n) (ds.take n)
  | _, _, 0, h => .nil
  | [], _, n + 1, h => by cases h; exact .nil
  | e :: ds, _, n + 1, h => by
    cases h with
    | cons h1 h2 => exact .cons h1 (DdA.take n h2)
theorem DdA.ints : ∀ {ns : List Int} {vs : List V}, DdA K F vs (ns.map .int) → vs = ns.map V.int
  | [], _, h => by cases h; rfl
  | n :: ns, _, h => by
    cases h with
    | cons h1 h2 =>
      cases h1
      rw [DdA.ints (ns := ns) h2]
      rfl
theorem DdA.of_ints : ∀ (ns : List Int), DdA K F (ns.map V.int) (ns.map .int)
  | [] => .nil
  | n :: ns => .cons (.int n) (DdA.of_ints ns)
theorem DdA.rep {v : V} {d : PyData} (h : Dd K F v d) : ∀ n : Nat, DdA K F (List.replicate n v) (List.replicate n d)
  | 0 => .nil
  | n + 1 => .cons h (DdA.rep h n)
end

/-! ### the frame's slots as data -/
inductive Slot where
  | im (d : PyData)
  | ow (ds : List PyData)
  | pr (a : Addr) (ds : List PyData)
  | ad (v : V)
abbrev Gm := List (Option Slot)
def isOw : Slot → Bool
  | .im _ => false
  | .ad _ => false
  | _ => true
def SlotOk (K : PySem.W.Frag) (F H : Hp) (v : V) : Slot → Prop
  | .im d => Dd K F v d
  | .ad w => v = w
  | .ow ds => ∃ l xs, v = .ref l ∧ F l = none ∧ H l = some (.lst xs) ∧ DdA K F xs ds
  | .pr a ds => ∃ xs, v = .ref a ∧ F a = none ∧ H a = some (.lst xs) ∧ DdA K F xs ds
structure EnvOk (K : PySem.W.Frag) (F H : Hp) (σ : L2.St) (Γ : Gm) : Prop where
  len : σ.length = Γ.length
  ats : ∀ (i : Nat) (s : Slot), Γ[i]? = some (some s) → ∃ v, σ[i]? = some (some v) ∧ SlotOk K F H v s
  sep : ∀ (i j : Nat) (s t : Slot) (l : Addr), Γ[i]? = some (some s) → Γ[j]? = some (some t) → isOw s = true → isOw t = true → σ[i]? = some (some (.ref l)) → σ[j]? = some (some (.ref l)) → i = j
def Own (σ : L2.St) (Γ : Gm) (a : Addr) : Prop := ∃ (i : Nat) (s : Slot), Γ[i]? = some (some s) ∧ isOw s = true ∧ σ[i]? = some (some (.ref a))
structure Gr (F H : Hp) (A : Addr → Prop) (F' H' : Hp) (A' : Addr → Prop) : Prop where
  ff : Ext F F'
  fh : Ext F' H'
  hh : ∀ a o, H a = some o → H' a = some o ∨ A a
  nw : ∀ a, F' a ≠ none → F a ≠ none ∨ H a = none ∨ A a
  aa : ∀ a, A' a → A a ∨ H a = none
theorem Gr.refl {F H : Hp} {A : Addr → Prop} (e : Ext F H) : Gr F H A F H A := ⟨Ext.refl F, e, fun _ _ h => .inl h, fun _ h => .inl h, fun _ h => .inl h⟩
theorem Gr.trans {F H F1 H1 F2 H2 : Hp} {A A1 A2 : Addr → Prop} (g : Gr F H A F1 H1 A1) (k : Gr F1 H1 A1 F2 H2 A2) : Gr F H A F2 H2 A2 := by
  have free : ∀ a, H1 a = none → H a = none ∨ A a := fun a h1 => by
    cases q : H a with
    | none => exact .inl rfl
    | some o =>
      rcases g.hh a o q with z | z
      · rw [h1] at z; cases z
      · exact .inr z
  refine ⟨g.ff.trans k.ff, k.fh, fun a o h => ?_, fun a h => ?_, fun a h => ?_⟩
  · rcases g.hh a o h with z | z
    · rcases k.hh a o z with y | y
      · exact .inl y
      · rcases g.aa a y with x | x
        · exact .inr x
        · rw [h] at x; cases x
    · exact .inr z
  · rcases k.nw a h with z | z | z
    · exact g.nw a z
    · rcases free a z with y | y
      · exact .inr (.inl y)
      · exact .inr (.inr y)
    · rcases g.aa a z with y | y
      · exact .inr (.inr y)
      · exact .inr (.inl y)
  · rcases k.aa a h with z | z
    · exact g.aa a z
    · rcases free a z with y | y
      · exact .inr y
      · exact .inl y
/-- a growth that changes no list -/
theorem Gr.ext {F H F' H' : Hp} {A : Addr → Prop} (ff : Ext F F') (fh : Ext F' H') (hh : Ext H H') (nw : ∀ a, F' a ≠ none → F a ≠ none ∨ H a = none) : Gr F H A F' H' A :=
  ⟨ff, fh, fun a o h => .inl (hh a o h), fun a h => (nw a h).elim .inl fun z => .inr (.inl z), fun _ h => .inl h⟩
/-- a new object, data from now on -/
theorem Gr.new {F H : Hp} {A : Addr → Prop} (e : Ext F H) {p : Addr} {o : HO} (h : H p = none) : Gr F H A (upd F p o) (upd H p o) A :=
  Gr.ext (Ext.new (e.free h)) (e.upd2 p o) (Ext.new h) fun a q => by
    by_cases ha : a = p
    · subst ha; exact .inr h
    · rw [upd_ne ha] at q; exact .inl q
/-- a new object that is not data (yet) -/
theorem Gr.newH {F H : Hp} {A : Addr → Prop} (e : Ext F H) {p : Addr} {o : HO} (h : H p = none) : Gr F H A F (upd H p o) A :=
  Gr.ext (Ext.refl F) (e.mut (e.free h)) (Ext.new h) fun a q => .inl q
theorem Gr.free {F H F' H' : Hp} {A A' : Addr → Prop} (g : Gr F H A F' H' A') {a : Addr} (h : H' a = none) : H a = none ∨ A a := by
  cases q : H a with
  | none => exact .inl rfl
  | some o =>
    rcases g.hh a o q with z | z
    · rw [h] at z; cases z
    · exact .inr z
section
variable {K : PySem.W.Frag} {F H F' H' : Hp} {σ : L2.St} {Γ : Gm}
theorem EnvOk.own_at (e : EnvOk K F H σ Γ) {a : Addr} (h : Own σ Γ a) : F a = none ∧ ∃ xs, H a = some (.lst xs) := by
  obtain ⟨i, s, h1, h2, h3⟩ := h
  obtain ⟨v, q1, q2⟩ := e.ats i s h1
  rw [h3] at q1
  cases q1
  cases s with
  | im d => cases h2
  | ad u => cases h2
  | ow ds =>
    obtain ⟨l, xs, e1, e2, e3, _⟩ := q2
    cases e1
    exact ⟨e2, xs, e3⟩
  | pr a' ds =>
    obtain ⟨xs, e1, e2, e3, _⟩ := q2
    cases e1
    exact ⟨e2, xs, e3⟩
/-- behind a growth that changes no list the slots stand as they did -/
theorem EnvOk.keep (e : EnvOk K F H σ Γ) (ff : Ext F F') (hh : Ext H H') (nw : ∀ a, F' a ≠ none → F a ≠ none ∨ H a = none) : EnvOk K F' H' σ Γ := by
  refine ⟨e.len, fun i s h => ?_, e.sep⟩
  obtain ⟨v, q1, q2⟩ := e.ats i s h
  refine ⟨v, q1, ?_⟩
  have fr : ∀ l xs, F l = none → H l = some (.lst xs) → F' l = none := fun l xs h1 h2 => by
    cases q : F' l with
    | none => rfl
    | some o =>
      rcases nw l (by rw [q]; exact Option.some_ne_none o) with z | z
      · exact absurd h1 z
      · rw [h2] at z; cases z
  cases s with
  | im d => exact q2.up ff
  | ad u => exact q2
  | ow ds =>
    obtain ⟨l, xs, e1, e2, e3, e4⟩ := q2
    exact ⟨l, xs, e1, fr l xs e2 e3, hh _ _ e3, e4.up ff⟩
  | pr a ds =>
    obtain ⟨xs, e1, e2, e3, e4⟩ := q2
    exact ⟨xs, e1, fr a xs e2 e3, hh _ _ e3, e4.up ff⟩
theorem EnvOk.new (e : EnvOk K F H σ Γ) (x : Ext F H) {p : Addr} {o : HO} (h : H p = none) : EnvOk K (upd F p o) (upd H p o) σ Γ :=
  e.keep (Ext.new (x.free h)) (Ext.new h) fun a q => by
    by_cases ha : a = p
    · subst ha; exact .inr h
    · rw [upd_ne ha] at q; exact .inl q
theorem EnvOk.newH (e : EnvOk K F H σ Γ) {p : Addr} {o : HO} (h : H p = none) : EnvOk K F (upd H p o) σ Γ :=
  e.keep (Ext.refl F) (Ext.new h) fun a q => .inl q
/-- fewer slots are known -/
theorem EnvOk.less {Γ' : Gm} (e : EnvOk K F H σ Γ) (hl : Γ'.length = Γ.length) (h : ∀ (i : Nat) (s : Slot), Γ'[i]? = some (some s) → Γ[i]? = some (some s)) : EnvOk K F H σ Γ' :=
  ⟨by rw [e.len, hl], fun i s q => e.ats i s (h i s q), fun i j s t l a b => e.sep i j s t l (h i s a) (h j t b)⟩
theorem get_set_some {α : Type} {l : List α} {i j : Nat} {x y : α} (h : (l.set i x)[j]? = some y) : (i = j ∧ x = y ∧ i < l.length) ∨ (i ≠ j ∧ l[j]? = some y) := by
  by_cases e : i = j
  · subst e
    by_cases hl : i < l.length
    · rw [List.getElem?_set_self hl] at h
      exact .inl ⟨rfl, Option.some.inj h, hl⟩
    · rw [List.getElem?_eq_none (by simpa using hl)] at h; cases h
  · rw [List.getElem?_set_ne e] at h
    exact .inr ⟨e, h⟩
/-- a slot is given data -/
theorem EnvOk.store (e : EnvOk K F H σ Γ) {i : Nat} {v : V} {d : PyData} (h : Dd K F v d) (hi : i < Γ.length) : EnvOk K F H (σ.set i (some v)) (Γ.set i (some (.im d))) := by
  have hs : i < σ.length := by rw [e.len]; exact hi
  refine ⟨by rw [List.length_set, List.length_set, e.len], fun j s q => ?_, fun j k s t l a b hs ht c d' => ?_⟩
  · rcases get_set_some q with ⟨rfl, q2, _⟩ | ⟨ne, q2⟩
    · have q3 := Option.some.inj q2
      subst q3
      exact ⟨v, List.getElem?_set_self hs, h⟩
    · obtain ⟨w, w1, w2⟩ := e.ats j s q2
      exact ⟨w, by rw [List.getElem?_set_ne ne]; exact w1, w2⟩
  · rcases get_set_some a with ⟨rfl, q2, _⟩ | ⟨ne, q2⟩
    · have q3 := Option.some.inj q2
      subst q3
      cases hs
    · rcases get_set_some b with ⟨rfl, q3, _⟩ | ⟨ne2, q3⟩
      · have q4 := Option.some.inj q3
        subst q4
        cases ht
      · rw [List.getElem?_set_ne ne] at c
        rw [List.getElem?_set_ne ne2] at d'
        exact e.sep j k s t l q2 q3 hs ht c d'
theorem own_store {i : Nat} {v : V} {d : PyData} {a : Addr} (h : Own (σ.set i (some v)) (Γ.set i (some (.im d))) a) : Own σ Γ a := by
  obtain ⟨j, s, h1, h2, h3⟩ := h
  rcases get_set_some h1 with ⟨rfl, q2, _⟩ | ⟨ne, q2⟩
  · have q3 := Option.some.inj q2
    subst q3
    cases h2
  · rw [List.getElem?_set_ne ne] at h3
    exact ⟨j, s, q2, h2, h3⟩
theorem Gr.store {F0 H0 : Hp} {A : Addr → Prop} (g : Gr F0 H0 A F H (Own σ Γ)) {i : Nat} {v : V} {d : PyData} : Gr F0 H0 A F H (Own (σ.set i (some v)) (Γ.set i (some (.im d)))) :=
  ⟨g.ff, g.fh, g.hh, g.nw, fun a h => g.aa a (own_store h)⟩
/-- a slot is given a new list of the frame's own -/
theorem EnvOk.storeOw (e : EnvOk K F H σ Γ) {i : Nat} {l : Addr} {xs : List V} {ds : List PyData} (hF : F l = none) (hH : H l = some (.lst xs)) (hd : DdA K F xs ds) (hn : ¬ Own σ Γ l) (hi : i < Γ.length) :
    EnvOk K F H (σ.set i (some (.ref l))) (Γ.set i (some (.ow ds))) := by
  have hs : i < σ.length := by rw [e.len]; exact hi
  refine ⟨by rw [List.length_set, List.length_set, e.len], fun j s q => ?_, fun j k s t m a b hs' ht c d' => ?_⟩
  · rcases get_set_some q with ⟨rfl, q2, _⟩ | ⟨ne, q2⟩
    · have q3 := Option.some.inj q2
      subst q3
      exact ⟨_, List.getElem?_set_self hs, l, xs, rfl, hF, hH, hd⟩
    · obtain ⟨w, w1, w2⟩ := e.ats j s q2
      exact ⟨w, by rw [List.getElem?_set_ne ne]; exact w1, w2⟩
  · rcases get_set_some a with ⟨rfl, q2, _⟩ | ⟨ne, q2⟩
    · rcases get_set_some b with ⟨rfl, q3, _⟩ | ⟨ne2, q3⟩
      · rfl
      · rw [List.getElem?_set_self hs] at c
        rw [List.getElem?_set_ne ne2] at d'
        cases c
        exact absurd ⟨k, t, q3, ht, d'⟩ hn
    · rcases get_set_some b with ⟨rfl, q3, _⟩ | ⟨ne2, q3⟩
      · rw [List.getElem?_set_self hs] at d'
        rw [List.getElem?_set_ne ne] at c
        cases d'
        exact absurd ⟨j, s, q2, hs', c⟩ hn
      · rw [List.getElem?_set_ne ne] at c
        rw [List.getElem?_set_ne ne2] at d'
        exact e.sep j k s t m q2 q3 hs' ht c d'
theorem own_storeOw {i : Nat} {l : Addr} {ds : List PyData} {a : Addr} (hs : i < σ.length) (h : Own (σ.set i (some (.ref l))) (Γ.set i (some (.ow ds))) a) : Own σ Γ a ∨ a = l := by
  obtain ⟨j, s, h1, h2, h3⟩ := h
  rcases get_set_some h1 with ⟨rfl, q2, _⟩ | ⟨ne, q2⟩
  · rw [List.getElem?_set_self hs] at h3
    cases h3
    exact .inr rfl
  · rw [List.getElem?_set_ne ne] at h3
    exact .inl ⟨j, s, q2, h2, h3⟩
/-- a list of the frame's own changes -/
def reSlot (ds : List PyData) : Slot → Slot
  | .im d => .im d
  | .ad u => .ad u
  | .ow _ => .ow ds
  | .pr a _ => .pr a ds
theorem isOw_re {ds : List PyData} {s : Slot} : isOw (reSlot ds s) = isOw s := by cases s <;> rfl
theorem EnvOk.change (e : EnvOk K F H σ Γ) {i : Nat} {l : Addr} {s : Slot} {xs : List V} {ds : List PyData} (hs : Γ[i]? = some (some s)) (ho : isOw s = true) (hl : σ[i]? = some (some (.ref l))) (hd : DdA K F xs ds) :
    EnvOk K F (upd H l (.lst xs)) σ (Γ.set i (some (reSlot ds s))) := by
  obtain ⟨hi, _⟩ := List.getElem?_eq_some_iff.mp hs
  have hFl := (e.own_at ⟨i, s, hs, ho, hl⟩).1
  refine ⟨by rw [List.length_set, e.len], fun j t q => ?_, fun j k t u m a b ht hu c d' => ?_⟩
  · rcases get_set_some q with ⟨rfl, q2, _⟩ | ⟨ne, q2⟩
    · have q3 := Option.some.inj q2
      subst q3
      refine ⟨_, hl, ?_⟩
      obtain ⟨v, v1, v2⟩ := e.ats i s hs
      rw [hl] at v1
      cases v1
      cases s with
      | im d => cases ho
      | ad u => cases ho
      | ow es => exact ⟨l, xs, rfl, hFl, upd_same, hd⟩
      | pr a es =>
        obtain ⟨ys, y1, _⟩ := v2
        cases y1
        exact ⟨xs, rfl, hFl, upd_same, hd⟩
    · obtain ⟨w, w1, w2⟩ := e.ats j t q2
      refine ⟨w, w1, ?_⟩
      cases t with
      | im d => exact w2
      | ad u => exact w2
      | ow es =>
        obtain ⟨m, ys, y1, y2, y3, y4⟩ := w2
        subst y1
        have nml : m ≠ l := fun z => by
          subst z
          exact ne (e.sep i j s _ m hs q2 ho rfl hl w1)
        exact ⟨m, ys, rfl, y2, by rw [upd_ne nml]; exact y3, y4⟩
      | pr a es =>
        obtain ⟨ys, y1, y2, y3, y4⟩ := w2
        subst y1
        have nml : a ≠ l := fun z => by
          subst z
          exact ne (e.sep i j s _ a hs q2 ho rfl hl w1)
        exact ⟨ys, rfl, y2, by rw [upd_ne nml]; exact y3, y4⟩
  · rcases get_set_some a with ⟨rfl, q2, _⟩ | ⟨ne, q2⟩
    · rcases get_set_some b with ⟨rfl, q3, _⟩ | ⟨ne2, q3⟩
      · rfl
      · exact e.sep _ _ _ _ _ hs q3 ho hu c d'
    · rcases get_set_some b with ⟨rfl, q3, _⟩ | ⟨ne2, q3⟩
      · exact e.sep _ _ _ _ _ q2 hs ht ho c d'
      · exact e.sep j k t u m q2 q3 ht hu c d'
theorem own_change {i : Nat} {s : Slot} {ds : List PyData} {a : Addr} (hs : Γ[i]? = some (some s)) (h : Own σ (Γ.set i (some (reSlot ds s))) a) : Own σ Γ a := by
  obtain ⟨j, t, h1, h2, h3⟩ := h
  rcases get_set_some h1 with ⟨rfl, q2, _⟩ | ⟨ne, q2⟩
  · have q3 := Option.some.inj q2
    subst q3
    rw [isOw_re] at h2
    exact ⟨i, s, hs, h2, h3⟩
  · exact ⟨j, t, q2, h2, h3⟩
theorem Gr.change {i : Nat} {l : Addr} {s : Slot} {xs : List V} {ds : List PyData} (x : Ext F H) (e : EnvOk K F H σ Γ) (hs : Γ[i]? = some (some s)) (ho : isOw s = true) (hl : σ[i]? = some (some (.ref l))) :
    Gr F H (Own σ Γ) F (upd H l (.lst xs)) (Own σ (Γ.set i (some (reSlot ds s)))) := by
  have hFl := (e.own_at ⟨i, s, hs, ho, hl⟩).1
  refine ⟨Ext.refl F, x.mut hFl, fun a o h => ?_, fun a h => .inl h, fun a h => .inl (own_change hs h)⟩
  by_cases ha : a = l
  · subst ha; exact .inr ⟨i, s, hs, ho, hl⟩
  · left; rw [upd_ne ha]; exact h
/-- a list of the frame's own is data from now on -/
theorem EnvOk.freeze (e : EnvOk K F H σ Γ) {i : Nat} {l : Addr} {ds : List PyData} {xs : List V} (hs : Γ[i]? = some (some (.ow ds))) (hl : σ[i]? = some (some (.ref l))) (hH : H l = some (.lst xs)) (hd : DdA K F xs ds) :
    EnvOk K (upd F l (.lst xs)) H σ (Γ.set i (some (.im (.list ds)))) := by
  obtain ⟨hi, _⟩ := List.getElem?_eq_some_iff.mp hs
  have hFl := (e.own_at ⟨i, _, hs, rfl, hl⟩).1
  have ff : Ext F (upd F l (.lst xs)) := Ext.new hFl
  refine ⟨by rw [List.length_set, e.len], fun j t q => ?_, fun j k t u m a b ht hu c d' => ?_⟩
  · rcases get_set_some q with ⟨rfl, q2, _⟩ | ⟨ne, q2⟩
    · have q3 := Option.some.inj q2
      subst q3
      exact ⟨_, hl, .lst upd_same (hd.up ff)⟩
    · obtain ⟨w, w1, w2⟩ := e.ats j t q2
      refine ⟨w, w1, ?_⟩
      cases t with
      | im d => exact w2.up ff
      | ad u => exact w2
      | ow es =>
        obtain ⟨m, ys, y1, y2, y3, y4⟩ := w2
        subst y1
        have nml : m ≠ l := fun z => by
          subst z
          exact ne (e.sep i j _ _ m hs q2 rfl rfl hl w1)
        exact ⟨m, ys, rfl, by rw [upd_ne nml]; exact y2, y3, y4.up ff⟩
      | pr a es =>
        obtain ⟨ys, y1, y2, y3, y4⟩ := w2
        subst y1
        have nml : a ≠ l := fun z => by
          subst z
          exact ne (e.sep i j _ _ a hs q2 rfl rfl hl w1)
        exact ⟨ys, rfl, by rw [upd_ne nml]; exact y2, y3, y4.up ff⟩
  · rcases get_set_some a with ⟨rfl, q2, _⟩ | ⟨ne, q2⟩
    · have q3 := Option.some.inj q2
      subst q3
      cases ht
    · rcases get_set_some b with ⟨rfl, q3, _⟩ | ⟨ne2, q3⟩
      · have q4 := Option.some.inj q3
        subst q4
        cases hu
      · exact e.sep j k t u m q2 q3 ht hu c d'
theorem Gr.freeze (x : Ext F H) (e : EnvOk K F H σ Γ) {i : Nat} {l : Addr} {ds : List PyData} {xs : List V} (hs : Γ[i]? = some (some (.ow ds))) (hl : σ[i]? = some (some (.ref l))) (hH : H l = some (.lst xs)) :
    Gr F H (Own σ Γ) (upd F l (.lst xs)) H (Own σ (Γ.set i (some (.im (.list ds))))) := by
  have hFl := (e.own_at ⟨i, _, hs, rfl, hl⟩).1
  refine ⟨Ext.new hFl, fun a o h => ?_, fun a o h => .inl h, fun a h => ?_, fun a h => .inl ?_⟩
  · by_cases ha : a = l
    · subst ha; rw [upd_same] at h; cases h; exact hH
    · rw [upd_ne ha] at h; exact x a o h
  · by_cases ha : a = l
    · subst ha; exact .inr (.inr ⟨i, _, hs, rfl, hl⟩)
    · rw [upd_ne ha] at h; exact .inl h
  · obtain ⟨j, t, h1, h2, h3⟩ := h
    rcases get_set_some h1 with ⟨rfl, q2, _⟩ | ⟨ne, q2⟩
    · have q3 := Option.some.inj q2
      subst q3
      cases h2
    · exact ⟨j, t, q2, h2, h3⟩
theorem Dd.tupAt {K : PySem.W.Frag} {F H : Hp} {v : V} {ds : List PyData} (e : Ext F H) (h : Dd K F v (.tuple ds)) : ∃ a ob xs, v = .ref a ∧ H a = some (.frz ob (.tup xs)) ∧ ob.dict = none ∧ SqT K H a xs ∧ DdA K F xs ds := by
  cases h with
  | tup h1 h0 h2 => exact ⟨_, _, _, rfl, e _ _ h1, h0, .inl (.inr ⟨_, e _ _ h1⟩), h2⟩
theorem Dd.lstAt {K : PySem.W.Frag} {F H : Hp} {v : V} {ds : List PyData} (e : Ext F H) (h : Dd K F v (.list ds)) : ∃ a xs, v = .ref a ∧ H a = some (.lst xs) ∧ SqL K H a xs ∧ DdA K F xs ds := by
  cases h with
  | lst h1 h2 => exact ⟨_, _, rfl, e _ _ h1, SqL.of (e _ _ h1), h2⟩
end
end DL
end

section
namespace DL
open PySem PySem.Spec PyProof.Rows L2

/-! ### the judgements -/
def tE (K : PySem.W.Frag) (Γ : Gm) (d : PyData) (Γ' : Gm) : TE := fun σ H Q => ∃ F, EnvOk K F H σ Γ ∧ Ext F H ∧
  ∀ v F' H', Gr F H (Own σ Γ) F' H' (Own σ Γ') → EnvOk K F' H' σ Γ' → Dd K F' v d → Q v H'
/-- worth a new list of the data ds -/
def tN (K : PySem.W.Frag) (Γ : Gm) (ds : List PyData) (Γ' : Gm) : TE := fun σ H Q => ∃ F, EnvOk K F H σ Γ ∧ Ext F H ∧
  ∀ l xs F' H', Gr F H (Own σ Γ) F' H' (Own σ Γ') → EnvOk K F' H' σ Γ' → F' l = none → (H l = none ∨ Own σ Γ l) → H' l = some (.lst xs) → ¬ Own σ Γ' l → DdA K F' xs ds → Q (.ref l) H'
def tT (K : PySem.W.Frag) (Γ : Gm) (b : Bool) (Γ' : Gm) : TT := fun σ H Q => ∃ F, EnvOk K F H σ Γ ∧ Ext F H ∧
  ∀ F' H', Gr F H (Own σ Γ) F' H' (Own σ Γ') → EnvOk K F' H' σ Γ' → Q b H'
def tAs (K : PySem.W.Frag) (Γ : Gm) (ds : List PyData) (Γ' : Gm) : TA := fun σ H Q => ∃ F, EnvOk K F H σ Γ ∧ Ext F H ∧
  ∀ vs F' H', Gr F H (Own σ Γ) F' H' (Own σ Γ') → EnvOk K F' H' σ Γ' → DdA K F' vs ds → Q vs H'
def Ee (X : Cx) (Γ : Gm) (e : Expr) (d : PyData) (Γ' : Gm) : Prop := PE X e (tE X.K Γ d Γ')
def En (X : Cx) (Γ : Gm) (e : Expr) (ds : List PyData) (Γ' : Gm) : Prop := PE X e (tN X.K Γ ds Γ')
def Et (X : Cx) (Γ : Gm) (e : Expr) (b : Bool) (Γ' : Gm) : Prop := PT X e (tT X.K Γ b Γ')
def Ew (X : Cx) (Γ : Gm) (e : Expr) (b : Bool) (Γ' : Gm) : Prop := PW X e (tT X.K Γ b Γ')
def Ea (X : Cx) (Γ : Gm) (es : List Expr) (ds : List PyData) (Γ' : Gm) : Prop := PA X es (tAs X.K Γ ds Γ')

section
variable {X : Cx} {e : Expr} {es : List Expr}
theorem pe_imp {t t' : TE} (h : PE X e t) (q : ∀ σ H Q, t' σ H Q → t σ H Q) : PE X e t' := ⟨fun pins s σ H Q I hw => h.run pins s σ H Q I (q _ _ _ hw)⟩
theorem pt_imp {t t' : TT} (h : PT X e t) (q : ∀ σ H Q, t' σ H Q → t σ H Q) : PT X e t' := ⟨fun pins s σ H Q I hw => h.run pins s σ H Q I (q _ _ _ hw)⟩
theorem pw_imp {t t' : TT} (h : PW X e t) (q : ∀ σ H Q, t' σ H Q → t σ H Q) : PW X e t' := ⟨fun w pins s σ H Q I hw => h.run w pins s σ H Q I (q _ _ _ hw)⟩
theorem pa_imp {t t' : TA} (h : PA X es t) (q : ∀ σ H Q, t' σ H Q → t σ H Q) : PA X es t' := ⟨fun p pins s σ H Q I hw => h.run p pins s σ H Q I (q _ _ _ hw)⟩
theorem ps_imp {st : Stmt} {t t' : TS} (h : PS X st t) (q : ∀ D σ H, t' D σ H → t D σ H) : PS X st t' := ⟨fun pins s σ H D I hw => h.run pins s σ H D I (q _ _ _ hw)⟩
theorem pss_imp {st : List Stmt} {t t' : TS} (h : PSs X st t) (q : ∀ D σ H, t' D σ H → t D σ H) : PSs X st t' := ⟨fun pins s σ H D I hw => h.run pins s σ H D I (q _ _ _ hw)⟩
theorem pg_imp {tg : Expr} {t t' : TG} (h : PG X tg t) (q : ∀ v σ H Q, t' v σ H Q → t v σ H Q) : PG X tg t' := ⟨fun pins s σ H v u Q I r hw => h.run pins s σ H v u Q I r (q _ _ _ _ hw)⟩
theorem pi_imp {tg : Expr} {t t' : TI} (h : PI X tg e t) (q : ∀ σ H R, t' σ H R → t σ H R) : PI X tg e t' := ⟨fun pins s σ H R I hw => h.run pins s σ H R I (q _ _ _ hw)⟩
end

section
variable {X : Cx} {Γ Γ1 Γ2 Γ3 : Gm} {a b c e : Expr} {es : List Expr} {d d1 d2 d3 : PyData} {ds : List PyData} {pos : Pos}

/-! ### names, constants -/
theorem ee_var (i : Nat) {x : Str} (h : Γ[i]? = some (some (.im d)) := by rfl) (hN : X.N[i]? = some x := by rfl) (hv : Vis X.env.scope x := by first | exact Or.inl rfl | exact Or.inr (Or.inl rfl) | exact Or.inr (Or.inr rfl))
    (hd : (x == ("__debug__" : Str)) = false := by decide) (hcd : (x == ("__classdict__" : Str)) = false := by decide) : Ee X Γ (.Name x pos) d Γ :=
  pe_imp (pe_var hN hv hd hcd) fun σ H Q ⟨F, ev, x, q⟩ => by
    obtain ⟨v, v1, v2⟩ := ev.ats i _ h
    exact ⟨v, v1, q v F H (Gr.refl x) ev v2⟩
theorem ee_const {v : V} (h : PE X e (tC v)) (hd : ∀ F, Dd X.K F v d) : Ee X Γ e d Γ := pe_imp h fun σ H Q ⟨F, ev, x, q⟩ => q v F H (Gr.refl x) ev (hd F)
theorem ee_int {i : Int} {j : Nat} : Ee X Γ (.Constant (.int i) j pos) (.int i) Γ := ee_const pe_int fun _ => .int i
theorem ee_bl {b : Bool} {j : Nat} : Ee X Γ (.Constant (.bool b) j pos) (.bool b) Γ := ee_const pe_bl fun _ => .bl b
theorem ee_non {j : Nat} : Ee X Γ (.Constant .none j pos) .none Γ := ee_const pe_non fun _ => .non
theorem ee_str {x : Str} {j : Nat} : Ee X Γ (.Constant (.str x) j pos) (.str x) Γ := ee_const pe_str fun _ => .str x
theorem ee_gint {x : Str} {i : Int} {u : Value} (hm : X.mg x = some u) (r : RelV (.int i) u) (hg : Gl X x := by rfl) (hd : (x == ("__debug__" : Str)) = false := by decide) : Ee X Γ (.Name x pos) (.int i) Γ :=
  ee_const (pe_glob hg hm r hd) fun _ => .int i

/-! ### arguments, tuples, lists -/
theorem ea_nil : Ea X Γ [] [] Γ := pa_imp pa_nil fun σ H Q ⟨F, ev, x, q⟩ => q [] F H (Gr.refl x) ev .nil
theorem ea_cons (ha : Ee X Γ e d Γ1) (hr : Ea X Γ1 es ds Γ2) (hs : starEach (e :: es) X.env = (false, eval e X.env) :: starEach es X.env := by rfl) : Ea X Γ (e :: es) (d :: ds) Γ2 :=
  pa_imp (pa_cons ha hr hs) fun σ H Q ⟨F, ev, x, q⟩ => ⟨F, ev, x, fun v F1 H1 g1 e1 dv => ⟨F1, e1, g1.fh, fun vs F2 H2 g2 e2 dvs =>
    q (v :: vs) F2 H2 (g1.trans g2) e2 (.cons (dv.up g2.ff) dvs)⟩⟩
theorem line_of {K : PySem.W.Frag} {F : Hp} {vs : List V} {ds : List PyData} (h : DdA K F vs ds) (hl : ds.length ≤ 16777216) : vs.length ≤ sizeLine := by
  rw [h.len, sizeLine_eq]; exact hl
/-- tuples are laid with their object, which has no dict -/
def TupNew (H : Hp) (xs : List V) (Q : VK) : Prop := ∀ p ob, H p = none → ob.dict = none → Q (.ref p) (upd H p (.frz ob (.tup xs)))
def tTupF (t : TA) : TE := fun σ H Q => t σ H fun xs H1 => xs.length ≤ sizeLine ∧ TupNew H1 xs Q
theorem tup_end {pins : List (Addr × Obj)} {s1 : Shared} {σ : L2.St} {H1 : Hp} {us : List Value} {xs : List V} {Q : VK} {t' : Nat} (I1 : Inv X pins σ H1 s1) (r : Vals xs us) (z : xs.length ≤ sizeLine) (q : TupNew H1 xs Q) :
    EP X pins σ Q (.ref s1.heap.objs.size) { s1 with heap := s1.heap.push { cls := .type "tuple", data := .seq us.toArray }, toks := t' } := by
  have hf : H1 s1.heap.objs.size = none := I1.hok.fresh (Nat.le_refl _)
  refine ⟨.ref s1.heap.objs.size, upd H1 s1.heap.objs.size (.frz { cls := .type "tuple", data := .seq us.toArray } (.tup xs)), I1.laid (t' := t') (fun b u e => Heap.get?_push_of_some _ e) (Nat.le_refl _) ?_, rfl, q _ _ hf rfl⟩
  exact ⟨Heap.get?_push_size _ rfl, z, us, r, ⟨_, Heap.get?_push_size _ rfl, rfl, _, rfl⟩⟩
theorem pe_tupF {t : TA} {x1 : Nat} (h : PA X es t) : PE X (.Tuple es x1 pos) (tTupF t) := by
  refine ⟨fun pins s σ H Q I hq => ?_⟩
  refine wpAny_Tuple_spliced (thn (h.run pos pins s σ H _ I hq) fun us s1 ⟨xs, H1, I1, r, z, q⟩ => ⟨by rw [← r.length]; exact z, ?_⟩)
  exact tup_end I1 r z q
/-- a tuple newly laid is data -/
theorem tupNew_of {K : PySem.W.Frag} {F H F1 H1 : Hp} {σ : L2.St} {Γ Γ' : Gm} {xs : List V} {ds : List PyData} {Q : VK} (g1 : Gr F H (Own σ Γ) F1 H1 (Own σ Γ')) (e1 : EnvOk K F1 H1 σ Γ') (dv : DdA K F1 xs ds)
    (q : ∀ v F' H', Gr F H (Own σ Γ) F' H' (Own σ Γ') → EnvOk K F' H' σ Γ' → Dd K F' v (.tuple ds) → Q v H') : TupNew H1 xs Q := fun p ob hp hd =>
  q (.ref p) _ _ (g1.trans (Gr.new g1.fh hp)) (e1.new g1.fh hp) (.tup upd_same hd (dv.up (Ext.new (g1.fh.free hp))))
theorem ee_tup {k : Nat} (h : Ea X Γ es ds Γ1) (hl : ds.length ≤ 16777216 := by first | decide | (simp only [List.length_cons, List.length_nil]; omega)) : Ee X Γ (.Tuple es k pos) (.tuple ds) Γ1 :=
  pe_imp (pe_tupF h) fun σ H Q ⟨F, ev, x, q⟩ => ⟨F, ev, x, fun vs F1 H1 g1 e1 dv => ⟨line_of dv hl, tupNew_of g1 e1 dv q⟩⟩
/-- a new list made at p -/
theorem tN_new {K : PySem.W.Frag} {F H F1 H1 : Hp} {σ : L2.St} {Γ Γ' : Gm} {xs : List V} {ds : List PyData} {Q : VK} (g1 : Gr F H (Own σ Γ) F1 H1 (Own σ Γ')) (e1 : EnvOk K F1 H1 σ Γ') (dv : DdA K F1 xs ds)
    (q : ∀ l xs F' H', Gr F H (Own σ Γ) F' H' (Own σ Γ') → EnvOk K F' H' σ Γ' → F' l = none → (H l = none ∨ Own σ Γ l) → H' l = some (.lst xs) → ¬ Own σ Γ' l → DdA K F' xs ds → Q (.ref l) H') :
    ∀ p, H1 p = none → Q (.ref p) (upd H1 p (.lst xs)) := fun p hp => by
  refine q p xs F1 _ (g1.trans (Gr.newH g1.fh hp)) (e1.newH hp) (g1.fh.free hp) (g1.free hp) upd_same (fun o => ?_) dv
  obtain ⟨_, ys, h⟩ := e1.own_at o
  rw [hp] at h; cases h
theorem en_lst (h : Ea X Γ es ds Γ1) (hl : ds.length ≤ 16777216 := by first | decide | (simp only [List.length_cons, List.length_nil]; omega)) : En X Γ (.List es pos) ds Γ1 :=
  pe_imp (pe_lst h) fun σ H Q ⟨F, ev, x, q⟩ => ⟨F, ev, x, fun vs F1 H1 g1 e1 dv => ⟨line_of dv hl, tN_new g1 e1 dv q⟩⟩
theorem EnvOk.froz {K : PySem.W.Frag} {F H : Hp} {σ : L2.St} {Γ : Gm} {l : Addr} {xs : List V} (e : EnvOk K F H σ Γ) (hF : F l = none) (ho : ¬ Own σ Γ l) : EnvOk K (upd F l (.lst xs)) H σ Γ := by
  have ff : Ext F (upd F l (.lst xs)) := Ext.new hF
  refine ⟨e.len, fun i s h => ?_, e.sep⟩
  obtain ⟨v, v1, v2⟩ := e.ats i s h
  refine ⟨v, v1, ?_⟩
  cases s with
  | im d => exact v2.up ff
  | ad u => exact v2
  | ow ds =>
    obtain ⟨m, ys, y1, y2, y3, y4⟩ := v2
    subst y1
    have ne : m ≠ l := fun z => ho ⟨i, _, h, rfl, by rw [← z]; exact v1⟩
    exact ⟨m, ys, rfl, by rw [upd_ne ne]; exact y2, y3, y4.up ff⟩
  | pr m ds =>
    obtain ⟨ys, y1, y2, y3, y4⟩ := v2
    subst y1
    have ne : m ≠ l := fun z => ho ⟨i, _, h, rfl, by rw [← z]; exact v1⟩
    exact ⟨ys, rfl, by rw [upd_ne ne]; exact y2, y3, y4.up ff⟩
theorem Gr.froz {F H F' H' : Hp} {A A' : Addr → Prop} {l : Addr} {xs : List V} (g : Gr F H A F' H' A') (hF : F' l = none) (hH : H l = none ∨ A l) (hl : H' l = some (.lst xs)) : Gr F H A (upd F' l (.lst xs)) H' A' := by
  refine ⟨g.ff.trans (Ext.new hF), fun a o h => ?_, g.hh, fun a h => ?_, g.aa⟩
  · by_cases ha : a = l
    · subst ha; rw [upd_same] at h; cases h; exact hl
    · rw [upd_ne ha] at h; exact g.fh a o h
  · by_cases ha : a = l
    · subst ha; exact .inr hH
    · rw [upd_ne ha] at h; exact g.nw a h
theorem ee_new (h : En X Γ e ds Γ1) : Ee X Γ e (.list ds) Γ1 := pe_imp h fun σ H Q ⟨F, ev, x, q⟩ => ⟨F, ev, x, fun l xs F1 H1 g1 e1 hF hH hl ho dv =>
  q (.ref l) _ H1 (g1.froz hF hH hl) (e1.froz hF ho) (.lst upd_same (dv.up (Ext.new hF)))⟩

/-! ### operations on values -/
/-- what an operation on two values is worth -/
def RD (K : PySem.W.Frag) (r : R2) (d1 d2 d : PyData) : Prop := ∀ (F H : Hp) (x y : V) (Q : VK), Ext F H → Dd K F x d1 → Dd K F y d2 →
  (∀ v F' H', Ext F F' → Ext F' H' → Ext H H' → (∀ a, F' a ≠ none → F a ≠ none ∨ H a = none) → Dd K F' v d → Q v H') → r x y H Q
def RN (K : PySem.W.Frag) (r : R2) (d1 d2 : PyData) (ds : List PyData) : Prop := ∀ (F H : Hp) (x y : V) (Q : VK), Ext F H → Dd K F x d1 → Dd K F y d2 →
  (∃ xs, DdA K F xs ds ∧ ((∀ p, H p = none → Q (.ref p) (upd H p (.lst xs))) → r x y H Q))
theorem rd_here {r : R2} {K : PySem.W.Frag} (h : ∀ (F H : Hp) (x y : V) (Q : VK), Ext F H → Dd K F x d1 → Dd K F y d2 → ∃ v, Dd K F v d ∧ (Q v H → r x y H Q)) : RD K r d1 d2 d := fun F H x y Q e hx hy q => by
  obtain ⟨v, hv, k⟩ := h F H x y Q e hx hy
  exact k (q v F H (Ext.refl F) e (Ext.refl H) (fun a h => .inl h) hv)
theorem ee_binR {op : Operator} {r : R2} (ho : OpR X (binaryOp op) r) (ha : Ee X Γ a d1 Γ1) (hb : Ee X Γ1 b d2 Γ2) (hr : RD X.K r d1 d2 d) : Ee X Γ (.BinOp a op b pos) d Γ2 :=
  pe_imp (pe_op ho ha hb) fun σ H Q ⟨F, ev, x, q⟩ => ⟨F, ev, x, fun v F1 H1 g1 e1 dv => ⟨F1, e1, g1.fh, fun w F2 H2 g2 e2 dw =>
    hr F2 H2 v w Q g2.fh (dv.up g2.ff) dw fun z F3 H3 i1 i2 i3 i4 dz => q z F3 H3 ((g1.trans g2).trans (Gr.ext i1 i2 i3 i4)) (e2.keep i1 i3 i4) dz⟩⟩
theorem en_binR {op : Operator} {r : R2} (ho : OpR X (binaryOp op) r) (ha : Ee X Γ a d1 Γ1) (hb : Ee X Γ1 b d2 Γ2) (hr : RN X.K r d1 d2 ds) : En X Γ (.BinOp a op b pos) ds Γ2 :=
  pe_imp (pe_op ho ha hb) fun σ H Q ⟨F, ev, x, q⟩ => ⟨F, ev, x, fun v F1 H1 g1 e1 dv => ⟨F1, e1, g1.fh, fun w F2 H2 g2 e2 dw => by
    obtain ⟨xs, dx, k⟩ := hr F2 H2 v w Q g2.fh (dv.up g2.ff) dw
    exact k (tN_new (g1.trans g2) e2 dx q)⟩⟩
theorem ee_cmpR {op : CmpOp} {r : R2} (ho : OpR X (compareOp op) r) (ha : Ee X Γ a d1 Γ1) (hb : Ee X Γ1 b d2 Γ2) (hr : RD X.K r d1 d2 d) (hm : behindInMarks op b = false) : Ee X Γ (.Compare a [op] [b] pos) d Γ2 :=
  pe_imp (pe_cmpR ho ha hb hm) fun σ H Q ⟨F, ev, x, q⟩ => ⟨F, ev, x, fun v F1 H1 g1 e1 dv => ⟨F1, e1, g1.fh, fun w F2 H2 g2 e2 dw =>
    hr F2 H2 v w Q g2.fh (dv.up g2.ff) dw fun z F3 H3 i1 i2 i3 i4 dz => q z F3 H3 ((g1.trans g2).trans (Gr.ext i1 i2 i3 i4)) (e2.keep i1 i3 i4) dz⟩⟩
theorem et_cmpR {op : CmpOp} {r : R2} {k : Bool} (ho : OpR X (compareOp op) r) (ha : Ee X Γ a d1 Γ1) (hb : Ee X Γ1 b d2 Γ2) (hr : RD X.K r d1 d2 (.bool k)) (hm : behindInMarks op b = false) : Et X Γ (.Compare a [op] [b] pos) k Γ2 :=
  pt_imp (pt_cmpR ho ha hb hm) fun σ H Q ⟨F, ev, x, q⟩ => ⟨F, ev, x, fun v F1 H1 g1 e1 dv => ⟨F1, e1, g1.fh, fun w F2 H2 g2 e2 dw =>
    hr F2 H2 v w _ g2.fh (dv.up g2.ff) dw fun z F3 H3 i1 i2 i3 i4 dz => by
      cases dz
      exact ⟨k, rfl, q F3 H3 ((g1.trans g2).trans (Gr.ext i1 i2 i3 i4)) (e2.keep i1 i3 i4)⟩⟩⟩
theorem ee_unR {op : UnaryOp} {r : V → Hp → VK → Prop} (ho : UnR X (unaryOp op) r) (ha : Ee X Γ a d1 Γ1) (hr : ∀ (F H : Hp) (x : V) (Q : VK), Dd X.K F x d1 → ∃ v, Dd X.K F v d ∧ (Q v H → r x H Q)) : Ee X Γ (.UnaryOp op a pos) d Γ1 :=
  pe_imp (pe_un ho ha) fun σ H Q ⟨F, ev, x, q⟩ => ⟨F, ev, x, fun v F1 H1 g1 e1 dv => by
    obtain ⟨w, dw, k⟩ := hr F1 H1 v Q dv
    exact k (q w F1 H1 g1 e1 dw)⟩

/-! ### ints -/
theorem rd_I {K : PySem.W.Frag} {C : Int → Int → Prop} {g : Int → Int → V} {i j : Int} (hc : C i j) (hg : ∀ F, Dd K F (g i j) d) : RD K (rI C g) (.int i) (.int j) d := rd_here fun F H x y Q e hx hy => by
  cases hx; cases hy
  exact ⟨g i j, hg F, fun q => ⟨i, j, rfl, rfl, hc, q⟩⟩
theorem rd_I0 {K : PySem.W.Frag} {g : Int → Int → V} {i j : Int} (hg : ∀ F, Dd K F (g i j) d) : RD K (rI0 g) (.int i) (.int j) d := rd_here fun F H x y Q e hx hy => by
  cases hx; cases hy
  exact ⟨g i j, hg F, fun q => ⟨i, j, rfl, rfl, q⟩⟩
variable {i j : Int}
theorem ee_add (ha : Ee X Γ a (.int i) Γ1) (hb : Ee X Γ1 b (.int j) Γ2) : Ee X Γ (.BinOp a .Add b pos) (.int (i + j)) Γ2 := ee_binR op_add ha hb (rd_I0 fun _ => .int _)
theorem ee_sub (ha : Ee X Γ a (.int i) Γ1) (hb : Ee X Γ1 b (.int j) Γ2) : Ee X Γ (.BinOp a .Sub b pos) (.int (i - j)) Γ2 := ee_binR op_sub ha hb (rd_I0 fun _ => .int _)
theorem ee_mul (ha : Ee X Γ a (.int i) Γ1) (hb : Ee X Γ1 b (.int j) Γ2) (hc : CMul i j) : Ee X Γ (.BinOp a .Mult b pos) (.int (i * j)) Γ2 := ee_binR op_mul ha hb (rd_I hc fun _ => .int _)
theorem ee_mod (ha : Ee X Γ a (.int i) Γ1) (hb : Ee X Γ1 b (.int j) Γ2) (hc : j ≠ 0) : Ee X Γ (.BinOp a .Mod b pos) (.int (i.fmod j)) Γ2 := ee_binR op_modN ha hb (rd_I hc fun _ => .int _)
theorem ee_fdiv (ha : Ee X Γ a (.int i) Γ1) (hb : Ee X Γ1 b (.int j) Γ2) (hc : CDivN i j) : Ee X Γ (.BinOp a .FloorDiv b pos) (.int (i.fdiv j)) Γ2 := ee_binR op_fdivN ha hb (rd_I hc fun _ => .int _)
theorem ee_pow (ha : Ee X Γ a (.int i) Γ1) (hb : Ee X Γ1 b (.int j) Γ2) (hc : CPow i j) : Ee X Γ (.BinOp a .Pow b pos) (.int (i ^ j.toNat)) Γ2 := ee_binR op_pow ha hb (rd_I hc fun _ => .int _)
theorem ee_shl (ha : Ee X Γ a (.int i) Γ1) (hb : Ee X Γ1 b (.int j) Γ2) (hc : CPow i j) : Ee X Γ (.BinOp a .LShift b pos) (.int (i * 2 ^ j.toNat)) Γ2 := ee_binR op_shl ha hb (rd_I hc fun _ => .int _)
theorem ee_neg (ha : Ee X Γ a (.int i) Γ1) : Ee X Γ (.UnaryOp .USub a pos) (.int (-i)) Γ1 := ee_unR un_neg ha fun F H x Q hx => by
  cases hx
  exact ⟨_, .int (-i), fun q => ⟨i, rfl, q⟩⟩
theorem ee_lt (ha : Ee X Γ a (.int i) Γ1) (hb : Ee X Γ1 b (.int j) Γ2) : Ee X Γ (.Compare a [.Lt] [b] pos) (.bool (decide (i < j))) Γ2 := ee_cmpR op_lt ha hb (rd_I0 fun _ => .bl _) (nomark _)
theorem ee_le (ha : Ee X Γ a (.int i) Γ1) (hb : Ee X Γ1 b (.int j) Γ2) : Ee X Γ (.Compare a [.LtE] [b] pos) (.bool (decide (i ≤ j))) Γ2 := ee_cmpR op_le ha hb (rd_I0 fun _ => .bl _) (nomark _)
theorem ee_gt (ha : Ee X Γ a (.int i) Γ1) (hb : Ee X Γ1 b (.int j) Γ2) : Ee X Γ (.Compare a [.Gt] [b] pos) (.bool (decide (j < i))) Γ2 := ee_cmpR op_gt ha hb (rd_I0 fun _ => .bl _) (nomark _)
theorem ee_ge (ha : Ee X Γ a (.int i) Γ1) (hb : Ee X Γ1 b (.int j) Γ2) : Ee X Γ (.Compare a [.GtE] [b] pos) (.bool (decide (j ≤ i))) Γ2 := ee_cmpR op_ge ha hb (rd_I0 fun _ => .bl _) (nomark _)
theorem et_lt (ha : Ee X Γ a (.int i) Γ1) (hb : Ee X Γ1 b (.int j) Γ2) : Et X Γ (.Compare a [.Lt] [b] pos) (decide (i < j)) Γ2 := et_cmpR op_lt ha hb (rd_I0 fun _ => .bl _) (nomark _)
theorem et_le (ha : Ee X Γ a (.int i) Γ1) (hb : Ee X Γ1 b (.int j) Γ2) : Et X Γ (.Compare a [.LtE] [b] pos) (decide (i ≤ j)) Γ2 := et_cmpR op_le ha hb (rd_I0 fun _ => .bl _) (nomark _)
theorem et_gt (ha : Ee X Γ a (.int i) Γ1) (hb : Ee X Γ1 b (.int j) Γ2) : Et X Γ (.Compare a [.Gt] [b] pos) (decide (j < i)) Γ2 := et_cmpR op_gt ha hb (rd_I0 fun _ => .bl _) (nomark _)
theorem et_ge (ha : Ee X Γ a (.int i) Γ1) (hb : Ee X Γ1 b (.int j) Γ2) : Et X Γ (.Compare a [.GtE] [b] pos) (decide (j ≤ i)) Γ2 := et_cmpR op_ge ha hb (rd_I0 fun _ => .bl _) (nomark _)

/-! ### == and in of data -/
theorem dp_of {K : PySem.W.Frag} {F H : Hp} {v : V} (e : Ext F H) (hs : SeqAt.shaped d = true) (h : Dd K F v d) : Dp K H v d := Dd.dp e d v (SeqAt.canLay_of_shaped hs) h
theorem rd_eqD {K : PySem.W.Frag} (h1 : SeqAt.shaped d1 = true) (h2 : SeqAt.shaped d2 = true) : RD K (rEqD K) d1 d2 (.bool (PyData.eqv d1 d2)) := rd_here fun F H x y Q e hx hy =>
  ⟨.bl (PyData.eqv d1 d2), .bl _, fun q => ⟨d1, d2, dp_of e h1 hx, dp_of e h2 hy, h1, h2, q⟩⟩
theorem rd_neD {K : PySem.W.Frag} (h1 : SeqAt.shaped d1 = true) (h2 : SeqAt.shaped d2 = true) : RD K (rNeD K) d1 d2 (.bool (!PyData.eqv d1 d2)) := rd_here fun F H x y Q e hx hy =>
  ⟨.bl (!PyData.eqv d1 d2), .bl _, fun q => ⟨d1, d2, dp_of e h1 hx, dp_of e h2 hy, h1, h2, q⟩⟩
theorem ee_eqD {k : Nat} (hr : Room k X.A) (ha : Ee X Γ a d1 Γ1) (hb : Ee X Γ1 b d2 Γ2) (h1 : SeqAt.shaped d1 = true) (h2 : SeqAt.shaped d2 = true) : Ee X Γ (.Compare a [.Eq] [b] pos) (.bool (PyData.eqv d1 d2)) Γ2 :=
  ee_cmpR (op_eqD hr.units) ha hb (rd_eqD h1 h2) (nomark _)
theorem ee_neD {k : Nat} (hr : Room k X.A) (ha : Ee X Γ a d1 Γ1) (hb : Ee X Γ1 b d2 Γ2) (h1 : SeqAt.shaped d1 = true) (h2 : SeqAt.shaped d2 = true) : Ee X Γ (.Compare a [.NotEq] [b] pos) (.bool (!PyData.eqv d1 d2)) Γ2 :=
  ee_cmpR (op_neD hr.units) ha hb (rd_neD h1 h2) (nomark _)
theorem et_eqD {k : Nat} (hr : Room k X.A) (ha : Ee X Γ a d1 Γ1) (hb : Ee X Γ1 b d2 Γ2) (h1 : SeqAt.shaped d1 = true) (h2 : SeqAt.shaped d2 = true) : Et X Γ (.Compare a [.Eq] [b] pos) (PyData.eqv d1 d2) Γ2 :=
  et_cmpR (op_eqD hr.units) ha hb (rd_eqD h1 h2) (nomark _)
theorem et_neD {k : Nat} (hr : Room k X.A) (ha : Ee X Γ a d1 Γ1) (hb : Ee X Γ1 b d2 Γ2) (h1 : SeqAt.shaped d1 = true) (h2 : SeqAt.shaped d2 = true) : Et X Γ (.Compare a [.NotEq] [b] pos) (!PyData.eqv d1 d2) Γ2 :=
  et_cmpR (op_neD hr.units) ha hb (rd_neD h1 h2) (nomark _)
/-- x in c, x not in c, c a list or a tuple of data -/
def rInS (K : PySem.W.Frag) (neg : Bool) : R2 := fun x y H Q => ∃ d ds, Dp K H x d ∧ (Dp K H y (.list ds) ∨ Dp K H y (.tuple ds)) ∧ SeqAt.shaped d = true ∧ SeqAt.shaped (.list ds) = true ∧
  Q (.bl (if neg then !ds.any fun z => PyData.eqv z d else ds.any fun z => PyData.eqv z d)) H
theorem op_inS (hu : X.A.units + 65 < cLine) : OpR X (compareOp .In) (rInS X.K false) := by
  intro pins s σ H x y v u Q I rx ry h
  obtain ⟨d, ds, hd, he, sd, se, q⟩ := h
  obtain ⟨as, r1⟩ := Dp.reads I d x v hd rx
  rcases he with he | he
  · obtain ⟨bs, r2⟩ := Dp.reads I (.list ds) y u he ry
    exact SeqAt.in_list_reads r2 r1 (SeqAt.canLay_of_shaped se) (SeqAt.canLay_of_shaped sd) (room_in_shaped sd hu) ⟨.bl _, H, I, rfl, q⟩
  · obtain ⟨bs, r2⟩ := Dp.reads I (.tuple ds) y u he ry
    exact SeqAt.in_tuple_reads r2 r1 (SeqAt.canLay_of_shaped se) (SeqAt.canLay_of_shaped sd) (room_in_shaped sd hu) ⟨.bl _, H, I, rfl, q⟩
theorem op_notInS (hu : X.A.units + 65 < cLine) : OpR X (compareOp .NotIn) (rInS X.K true) := by
  intro pins s σ H x y v u Q I rx ry h
  obtain ⟨d, ds, hd, he, sd, se, q⟩ := h
  obtain ⟨as, r1⟩ := Dp.reads I d x v hd rx
  rcases he with he | he
  · obtain ⟨bs, r2⟩ := Dp.reads I (.list ds) y u he ry
    exact SeqAt.notIn_list_reads r2 r1 (SeqAt.canLay_of_shaped se) (SeqAt.canLay_of_shaped sd) (room_in_shaped sd hu) ⟨.bl _, H, I, rfl, q⟩
  · obtain ⟨bs, r2⟩ := Dp.reads I (.tuple ds) y u he ry
    exact SeqAt.notIn_tuple_reads r2 r1 (SeqAt.canLay_of_shaped se) (SeqAt.canLay_of_shaped sd) (room_in_shaped sd hu) ⟨.bl _, H, I, rfl, q⟩
/-- the items of a list or a tuple -/
def itemsOf : PyData → Option (List PyData)
  | .list ds => some ds
  | .tuple ds => some ds
  | _ => none
theorem rd_inS {K : PySem.W.Frag} {neg : Bool} (hi : itemsOf d2 = some ds) (h1 : SeqAt.shaped d1 = true) (h2 : SeqAt.shaped (.list ds) = true) :
    RD K (rInS K neg) d1 d2 (.bool (if neg then !ds.any fun z => PyData.eqv z d1 else ds.any fun z => PyData.eqv z d1)) := rd_here fun F H x y Q e hx hy =>
  ⟨.bl _, .bl _, fun q => ⟨d1, ds, dp_of e h1 hx, by
    cases d2 <;> simp [itemsOf] at hi
    · subst hi; exact .inl (dp_of e h2 hy)
    · subst hi; exact .inr (dp_of (d := .tuple _) e h2 hy), h1, h2, q⟩⟩
theorem units65 {k : Nat} (hr : Room k X.A) : X.A.units + 65 < cLine := by have := hr.un; omega
end
end DL
end

section
namespace DL
open PySem PySem.Spec PyProof.Rows L2

section
variable {X : Cx} {Γ Γ1 Γ2 Γ3 : Gm} {a b c e : Expr} {es rest : List Expr} {d d1 d2 d3 : PyData} {ds : List PyData} {pos : Pos} {p q : Bool} {i j k : Int}

/-! ### guards -/
theorem pe_guard {φ : Prop} {t : TE} (h : φ → PE X e t) : PE X e (fun σ H Q => φ ∧ t σ H Q) := ⟨fun pins s σ H Q I hw => (h hw.1).run pins s σ H Q I hw.2⟩
theorem pw_guard {φ : Prop} {t : TT} (h : φ → PW X e t) : PW X e (fun σ H Q => φ ∧ t σ H Q) := ⟨fun w pins s σ H Q I hw => (h hw.1).run w pins s σ H Q I hw.2⟩
theorem pss_guard {φ : Prop} {st : List Stmt} {t : TS} (h : φ → PSs X st t) : PSs X st (fun D σ H => φ ∧ t D σ H) := ⟨fun pins s σ H D I hw => (h hw.1).run pins s σ H D I hw.2⟩

/-! ### and, or, not; tests -/
theorem ee_one {op} (h : Ee X Γ a d Γ1) : Ee X Γ (.BoolOp op [a] pos) d Γ1 := pe_one h
theorem ee_and (ha : Ee X Γ a (.bool p) Γ1) (hb : p = true → Ee X Γ1 (.BoolOp .And (b :: rest) pos) (.bool q) Γ1) : Ee X Γ (.BoolOp .And (a :: b :: rest) pos) (.bool (p && q)) Γ1 :=
  pe_imp (pe_and ha (pe_guard hb)) fun σ H Q ⟨F, ev, x, k⟩ => ⟨F, ev, x, fun v F1 H1 g1 e1 dv => by
    cases dv
    cases p with
    | true => exact ⟨true, rfl, iteT ⟨rfl, F1, e1, g1.fh, fun w F2 H2 g2 e2 dw => k w F2 H2 (g1.trans g2) e2 dw⟩⟩
    | false => exact ⟨false, rfl, iteF (k _ F1 H1 g1 e1 (.bl false))⟩⟩
theorem ee_or (ha : Ee X Γ a (.bool p) Γ1) (hb : p = false → Ee X Γ1 (.BoolOp .Or (b :: rest) pos) (.bool q) Γ1) : Ee X Γ (.BoolOp .Or (a :: b :: rest) pos) (.bool (p || q)) Γ1 :=
  pe_imp (pe_or ha (pe_guard hb)) fun σ H Q ⟨F, ev, x, k⟩ => ⟨F, ev, x, fun v F1 H1 g1 e1 dv => by
    cases dv
    cases p with
    | true => exact ⟨true, rfl, iteT (k _ F1 H1 g1 e1 (.bl true))⟩
    | false => exact ⟨false, rfl, iteF ⟨rfl, F1, e1, g1.fh, fun w F2 H2 g2 e2 dw => k w F2 H2 (g1.trans g2) e2 dw⟩⟩⟩
theorem ee_not (ha : Ee X Γ a (.bool p) Γ1) : Ee X Γ (.UnaryOp .Not a pos) (.bool (!p)) Γ1 :=
  pe_imp (pe_not ha) fun σ H Q ⟨F, ev, x, k⟩ => ⟨F, ev, x, fun v F1 H1 g1 e1 dv => by
    cases dv
    exact ⟨p, rfl, k _ F1 H1 g1 e1 (.bl _)⟩⟩
theorem et_val (h : Ee X Γ e (.bool p) Γ1) (he : ∀ whole, isTrue e X.env whole = (do let v ← whole; standAt e.pos; holding [v] (truthy v)) := by intro _; rfl) : Et X Γ e p Γ1 :=
  pt_imp (pt_val h he) fun σ H Q ⟨F, ev, x, k⟩ => ⟨F, ev, x, fun v F1 H1 g1 e1 dv => by
    cases dv
    exact ⟨p, rfl, k F1 H1 g1 e1⟩⟩
/-- the truth of data -/
def tru : PyData → Bool
  | .none => false
  | .bool b => b
  | .int i => i != 0
  | .str x => (x.length : Int) != 0
  | .list xs => !xs.isEmpty
  | .tuple xs => !xs.isEmpty
  | .dict xs => !xs.isEmpty
theorem isEmpty_of {K : PySem.W.Frag} {F : Hp} {xs : List V} {ds : List PyData} (h : DdA K F xs ds) : xs.isEmpty = ds.isEmpty := by
  cases ds with
  | nil => cases h; rfl
  | cons d ds => cases h; rfl
theorem tru_of {K : PySem.W.Frag} {F H : Hp} {v : V} (e : Ext F H) (hd : SeqAt.shaped d = true) (hs : ∀ x, d ≠ .str x) (h : Dd K F v d) : TruV K v H (tru d) := by
  cases h with
  | non => rfl
  | bl b => rfl
  | int i => rfl
  | str x => exact absurd rfl (hs x)
  | lst h1 h2 => exact .inl ⟨_, SqL.of (e _ _ h1), by rw [isEmpty_of h2]; rfl⟩
  | tup h1 h0 h2 => exact .inr (.inl ⟨_, .inl (.inr ⟨_, e _ _ h1⟩), by rw [isEmpty_of h2]; rfl⟩)
  | scr h1 => simp [SeqAt.shaped, PyData.canLay0] at hd
  | dct h1 => simp [SeqAt.shaped, PyData.canLay0] at hd
  | map h1 h2 => simp [SeqAt.shaped, PyData.canLay0] at hd
  | dkd h1 h2 => simp [SeqAt.shaped, PyData.canLay0] at hd
  | dsk h1 h2 h3 h4 h5 => simp [SeqAt.shaped, PyData.canLay0] at hd
theorem et_tru (h : Ee X Γ e d Γ1) (hd : SeqAt.shaped d = true) (hs : ∀ x, d ≠ .str x) (he : ∀ whole, isTrue e X.env whole = (do let v ← whole; standAt e.pos; holding [v] (truthy v)) := by intro _; rfl) : Et X Γ e (tru d) Γ1 :=
  pt_imp (pt_truth h he) fun σ H Q ⟨F, ev, x, k⟩ => ⟨F, ev, x, fun v F1 H1 g1 e1 dv => ⟨tru d, tru_of g1.fh hd hs dv, k F1 H1 g1 e1⟩⟩
theorem ee_notT (ha : Ee X Γ a d Γ1) (hd : SeqAt.shaped d = true) (hs : ∀ x, d ≠ .str x) : Ee X Γ (.UnaryOp .Not a pos) (.bool (!tru d)) Γ1 :=
  pe_imp (pe_notT ha) fun σ H Q ⟨F, ev, x, k⟩ => ⟨F, ev, x, fun v F1 H1 g1 e1 dv => ⟨tru d, tru_of g1.fh hd hs dv, k _ F1 H1 g1 e1 (.bl _)⟩⟩
theorem et_not (h : Et X Γ a p Γ1) : Et X Γ (.UnaryOp .Not a pos) (!p) Γ1 := pt_imp (pt_not h) fun σ H Q ⟨F, ev, x, k⟩ => ⟨F, ev, x, fun F1 H1 g1 e1 => k F1 H1 g1 e1⟩
theorem et_w (h : Ew X Γ a p Γ1) : Et X Γ a p Γ1 := PW.pt h
theorem ew_and1 (h : Et X Γ a p Γ1) : Ew X Γ (.BoolOp .And [a] pos) p Γ1 := pw_and1 h
theorem ew_or1 (h : Et X Γ a p Γ1) : Ew X Γ (.BoolOp .Or [a] pos) p Γ1 := pw_or1 h
theorem ew_and (ha : Et X Γ a p Γ1) (hb : p = true → Ew X Γ1 (.BoolOp .And (b :: rest) pos) q Γ1) : Ew X Γ (.BoolOp .And (a :: b :: rest) pos) (p && q) Γ1 :=
  pw_imp (pw_and ha (pw_guard hb)) fun σ H Q ⟨F, ev, x, k⟩ => ⟨F, ev, x, fun F1 H1 g1 e1 => by
    cases p with
    | true => exact iteT ⟨rfl, F1, e1, g1.fh, fun F2 H2 g2 e2 => k F2 H2 (g1.trans g2) e2⟩
    | false => exact iteF (k F1 H1 g1 e1)⟩
theorem ew_or (ha : Et X Γ a p Γ1) (hb : p = false → Ew X Γ1 (.BoolOp .Or (b :: rest) pos) q Γ1) : Ew X Γ (.BoolOp .Or (a :: b :: rest) pos) (p || q) Γ1 :=
  pw_imp (pw_or ha (pw_guard hb)) fun σ H Q ⟨F, ev, x, k⟩ => ⟨F, ev, x, fun F1 H1 g1 e1 => by
    cases p with
    | true => exact iteT (k F1 H1 g1 e1)
    | false => exact iteF ⟨rfl, F1, e1, g1.fh, fun F2 H2 g2 e2 => k F2 H2 (g1.trans g2) e2⟩⟩
theorem et_is (h : Et X Γ e p Γ1) (hp : p = q) : Et X Γ e q Γ1 := hp ▸ h
theorem ee_is (h : Ee X Γ e d Γ1) (hp : d = d2) : Ee X Γ e d2 Γ1 := hp ▸ h
theorem en_is {ds' : List PyData} (h : En X Γ e ds Γ1) (hp : ds = ds') : En X Γ e ds' Γ1 := hp ▸ h
theorem pt_guard {φ : Prop} {t : TT} (h : φ → PT X e t) : PT X e (fun σ H Q => φ ∧ t σ H Q) := ⟨fun pins s σ H Q I hw => (h hw.1).run pins s σ H Q I hw.2⟩
theorem ee_ifexp {pos : Pos} (hc : Et X Γ c p Γ1) (ha : p = true → Ee X Γ1 a d Γ2) (hb : p = false → Ee X Γ1 b d Γ2) : Ee X Γ (.IfExp c a b pos) d Γ2 :=
  pe_imp (pe_ifExp hc (pe_guard ha) (pe_guard hb)) fun σ H Q ⟨F, ev, x, k⟩ => ⟨F, ev, x, fun F1 H1 g1 e1 => by
    cases p with
    | true => exact iteT ⟨rfl, F1, e1, g1.fh, fun v F2 H2 g2 e2 dv => k v F2 H2 (g1.trans g2) e2 dv⟩
    | false => exact iteF ⟨rfl, F1, e1, g1.fh, fun v F2 H2 g2 e2 dv => k v F2 H2 (g1.trans g2) e2 dv⟩⟩

/-! ### chains -/
theorem ee_chainR {op op' : CmpOp} {r r' : R2} (ho : OpR X (compareOp op) r) (ho' : OpR X (compareOp op') r') (ha : Ee X Γ a d1 Γ1) (hb : Ee X Γ1 b d2 Γ2) (hr : RD X.K r d1 d2 (.bool p)) (hc : p = true → Ee X Γ2 c d3 Γ2) (hr' : p = true → RD X.K r' d2 d3 (.bool q))
    (hm : lastMarks [op, op'] [b, c] = false := by with_unfolding_all rfl) : Ee X Γ (.Compare a [op, op'] [b, c] pos) (.bool (p && q)) Γ2 :=
  pe_imp (pe_chain ho ho' ha hb (pe_guard hc) hm) fun σ H Q ⟨F, ev, x, k⟩ => ⟨F, ev, x, fun v F1 H1 g1 e1 dv => ⟨F1, e1, g1.fh, fun w F2 H2 g2 e2 dw =>
    hr F2 H2 v w _ g2.fh (dv.up g2.ff) dw fun z F3 H3 i1 i2 i3 i4 dz => by
      cases dz
      have g3 := (g1.trans g2).trans (Gr.ext i1 i2 i3 i4)
      have e3 := e2.keep i1 i3 i4
      cases p with
      | false => exact ⟨false, rfl, iteF (k _ F3 H3 g3 e3 (.bl false))⟩
      | true => exact ⟨true, rfl, iteT ⟨rfl, F3, e3, i2, fun y F4 H4 g4 e4 dy =>
          hr' rfl F4 H4 w y Q g4.fh ((dw.up i1).up g4.ff) dy fun z F5 H5 j1 j2 j3 j4 dz => k z F5 H5 ((g3.trans g4).trans (Gr.ext j1 j2 j3 j4)) (e4.keep j1 j3 j4) dz⟩⟩⟩⟩
theorem et_chainR {op op' : CmpOp} {r r' : R2} (ho : OpR X (compareOp op) r) (ho' : OpR X (compareOp op') r') (ha : Ee X Γ a d1 Γ1) (hb : Ee X Γ1 b d2 Γ2) (hr : RD X.K r d1 d2 (.bool p)) (hc : p = true → Ee X Γ2 c d3 Γ2) (hr' : p = true → RD X.K r' d2 d3 (.bool q))
    (hm : lastMarks [op, op'] [b, c] = false := by with_unfolding_all rfl) : Et X Γ (.Compare a [op, op'] [b, c] pos) (p && q) Γ2 :=
  pt_imp (pt_chain ho ho' ha hb (pe_guard hc) hm) fun σ H Q ⟨F, ev, x, k⟩ => ⟨F, ev, x, fun v F1 H1 g1 e1 dv => ⟨F1, e1, g1.fh, fun w F2 H2 g2 e2 dw =>
    hr F2 H2 v w _ g2.fh (dv.up g2.ff) dw fun z F3 H3 i1 i2 i3 i4 dz => by
      cases dz
      have g3 := (g1.trans g2).trans (Gr.ext i1 i2 i3 i4)
      have e3 := e2.keep i1 i3 i4
      cases p with
      | false => exact ⟨false, rfl, iteF ⟨false, rfl, k F3 H3 g3 e3⟩⟩
      | true => exact ⟨true, rfl, iteT ⟨rfl, F3, e3, i2, fun y F4 H4 g4 e4 dy =>
          hr' rfl F4 H4 w y _ g4.fh ((dw.up i1).up g4.ff) dy fun z F5 H5 j1 j2 j3 j4 dz => by
            cases dz
            exact ⟨q, rfl, k F5 H5 ((g3.trans g4).trans (Gr.ext j1 j2 j3 j4)) (e4.keep j1 j3 j4)⟩⟩⟩⟩⟩
theorem ee_lele (ha : Ee X Γ a (.int i) Γ1) (hb : Ee X Γ1 b (.int j) Γ2) (hc : Ee X Γ2 c (.int k) Γ2) (hm : lastMarks [CmpOp.LtE, CmpOp.LtE] [b, c] = false := by with_unfolding_all rfl) :
    Ee X Γ (.Compare a [.LtE, .LtE] [b, c] pos) (.bool (decide (i ≤ j) && decide (j ≤ k))) Γ2 := ee_chainR op_le op_le ha hb (rd_I0 fun _ => .bl _) (fun _ => hc) (fun _ => rd_I0 fun _ => .bl _) hm
theorem et_lele (ha : Ee X Γ a (.int i) Γ1) (hb : Ee X Γ1 b (.int j) Γ2) (hc : Ee X Γ2 c (.int k) Γ2) (hm : lastMarks [CmpOp.LtE, CmpOp.LtE] [b, c] = false := by with_unfolding_all rfl) :
    Et X Γ (.Compare a [.LtE, .LtE] [b, c] pos) (decide (i ≤ j) && decide (j ≤ k)) Γ2 := et_chainR op_le op_le ha hb (rd_I0 fun _ => .bl _) (fun _ => hc) (fun _ => rd_I0 fun _ => .bl _) hm

/-! ### in, is -/
theorem ee_in {kk : Nat} (hr : Room kk X.A) (ha : Ee X Γ a d1 Γ1) (hb : Ee X Γ1 b d2 Γ2) (hi : itemsOf d2 = some ds) (h1 : SeqAt.shaped d1 = true) (h2 : SeqAt.shaped (.list ds) = true) (hm : behindInMarks .In b = false := by rfl) :
    Ee X Γ (.Compare a [.In] [b] pos) (.bool (ds.any fun z => PyData.eqv z d1)) Γ2 := ee_cmpR (op_inS (units65 hr)) ha hb (rd_inS hi h1 h2) hm
theorem ee_notIn {kk : Nat} (hr : Room kk X.A) (ha : Ee X Γ a d1 Γ1) (hb : Ee X Γ1 b d2 Γ2) (hi : itemsOf d2 = some ds) (h1 : SeqAt.shaped d1 = true) (h2 : SeqAt.shaped (.list ds) = true) (hm : behindInMarks .NotIn b = false := by rfl) :
    Ee X Γ (.Compare a [.NotIn] [b] pos) (.bool (!ds.any fun z => PyData.eqv z d1)) Γ2 := ee_cmpR (op_notInS (units65 hr)) ha hb (rd_inS hi h1 h2) hm
theorem et_in {kk : Nat} (hr : Room kk X.A) (ha : Ee X Γ a d1 Γ1) (hb : Ee X Γ1 b d2 Γ2) (hi : itemsOf d2 = some ds) (h1 : SeqAt.shaped d1 = true) (h2 : SeqAt.shaped (.list ds) = true) (hm : behindInMarks .In b = false := by rfl) :
    Et X Γ (.Compare a [.In] [b] pos) (ds.any fun z => PyData.eqv z d1) Γ2 := et_cmpR (op_inS (units65 hr)) ha hb (rd_inS hi h1 h2) hm
theorem et_notIn {kk : Nat} (hr : Room kk X.A) (ha : Ee X Γ a d1 Γ1) (hb : Ee X Γ1 b d2 Γ2) (hi : itemsOf d2 = some ds) (h1 : SeqAt.shaped d1 = true) (h2 : SeqAt.shaped (.list ds) = true) (hm : behindInMarks .NotIn b = false := by rfl) :
    Et X Γ (.Compare a [.NotIn] [b] pos) (!ds.any fun z => PyData.eqv z d1) Γ2 := et_cmpR (op_notInS (units65 hr)) ha hb (rd_inS hi h1 h2) hm
def isNo : PyData → Bool
  | .none => true
  | _ => false
theorem rd_isN {K : PySem.W.Frag} (hd : p = isNo d) : RD K (fun x y H Q => y = .non ∧ Q (.bl (decide (x = .non))) H) d .none (.bool p) := rd_here fun F H x y Q e hx hy => by
  cases hy
  refine ⟨.bl p, .bl p, fun k => ⟨rfl, ?_⟩⟩
  have : decide (x = V.non) = p := by rw [hd]; cases hx <;> simp [isNo]
  rw [this]; exact k
theorem rd_notN {K : PySem.W.Frag} (hd : p = !isNo d) : RD K (fun x y H Q => y = .non ∧ Q (.bl (!decide (x = .non))) H) d .none (.bool p) := rd_here fun F H x y Q e hx hy => by
  cases hy
  refine ⟨.bl p, .bl p, fun k => ⟨rfl, ?_⟩⟩
  have : (!decide (x = V.non)) = p := by rw [hd]; cases hx <;> simp [isNo]
  rw [this]; exact k
theorem et_isN (ha : Ee X Γ a d Γ1) (hb : Ee X Γ1 b .none Γ2) : Et X Γ (.Compare a [.Is] [b] pos) (isNo d) Γ2 := et_cmpR op_isN ha hb (rd_isN rfl) (nomark _)
theorem et_notN (ha : Ee X Γ a d Γ1) (hb : Ee X Γ1 b .none Γ2) : Et X Γ (.Compare a [.IsNot] [b] pos) (!isNo d) Γ2 := et_cmpR op_notN ha hb (rd_notN rfl) (nomark _)
theorem ee_isN (ha : Ee X Γ a d Γ1) (hb : Ee X Γ1 b .none Γ2) : Ee X Γ (.Compare a [.Is] [b] pos) (.bool (isNo d)) Γ2 := ee_cmpR op_isN ha hb (rd_isN rfl) (nomark _)
theorem ee_notN (ha : Ee X Γ a d Γ1) (hb : Ee X Γ1 b .none Γ2) : Ee X Γ (.Compare a [.IsNot] [b] pos) (.bool (!isNo d)) Γ2 := ee_cmpR op_notN ha hb (rd_notN rfl) (nomark _)
theorem rd_isB {K : PySem.W.Frag} : RD K rIsB (.bool p) (.bool q) (.bool (decide (p = q))) := rd_here fun F H x y Q e hx hy => by
  cases hx; cases hy
  exact ⟨_, .bl _, fun k => ⟨p, q, rfl, rfl, k⟩⟩
theorem ee_isB (ha : Ee X Γ a (.bool p) Γ1) (hb : Ee X Γ1 b (.bool q) Γ2) : Ee X Γ (.Compare a [.Is] [b] pos) (.bool (decide (p = q))) Γ2 := ee_cmpR op_isBl ha hb rd_isB (nomark _)
theorem rd_notB {K : PySem.W.Frag} : RD K rNotB (.bool p) (.bool q) (.bool (!decide (p = q))) := rd_here fun F H x y Q e hx hy => by
  cases hx; cases hy
  exact ⟨_, .bl _, fun k => ⟨p, q, rfl, rfl, k⟩⟩
theorem ee_notB (ha : Ee X Γ a (.bool p) Γ1) (hb : Ee X Γ1 b (.bool q) Γ2) : Ee X Γ (.Compare a [.IsNot] [b] pos) (.bool (!decide (p = q))) Γ2 := ee_cmpR op_notBl ha hb rd_notB (nomark _)
theorem et_isB (ha : Ee X Γ a (.bool p) Γ1) (hb : Ee X Γ1 b (.bool q) Γ2) : Et X Γ (.Compare a [.Is] [b] pos) (decide (p = q)) Γ2 := et_cmpR op_isBl ha hb rd_isB (nomark _)
theorem et_notB (ha : Ee X Γ a (.bool p) Γ1) (hb : Ee X Γ1 b (.bool q) Γ2) : Et X Γ (.Compare a [.IsNot] [b] pos) (!decide (p = q)) Γ2 := et_cmpR op_notBl ha hb rd_notB (nomark _)

/-! ### items -/
theorem atI_get {K : PySem.W.Frag} {F : Hp} {xs : List V} (h : DdA K F xs ds) (hi : atI ds i = some d) : ∃ v, atI xs i = some v ∧ Dd K F v d := by
  unfold atI at hi ⊢
  rw [h.len]
  cases e : ixN ds.length i with
  | none => rw [e] at hi; cases hi
  | some j =>
    rw [e] at hi
    exact h.get (i := j) hi
theorem ee_ixT (ha : Ee X Γ a (.tuple ds) Γ1) (hb : Ee X Γ1 b (.int i) Γ2) (hi : atI ds i = some d) (hs : PlainIx b := by exact fun _ _ => rfl) : Ee X Γ (.Subscript a b pos) d Γ2 :=
  pe_imp (pe_ix ix_tup ha hb hs) fun σ H Q ⟨F, ev, x, k⟩ => ⟨F, ev, x, fun v F1 H1 g1 e1 dv => ⟨F1, e1, g1.fh, fun w F2 H2 g2 e2 dw => by
    cases dw
    obtain ⟨p, ob, xs, rfl, _, _, hT, hA⟩ := (dv.up g2.ff).tupAt g2.fh
    obtain ⟨u, hu, du⟩ := atI_get hA hi
    exact ⟨p, xs, i, u, rfl, rfl, hT, hu, k u F2 H2 (g1.trans g2) e2 du⟩⟩⟩
theorem ee_ixL (ha : Ee X Γ a (.list ds) Γ1) (hb : Ee X Γ1 b (.int i) Γ2) (hi : atI ds i = some d) (hs : PlainIx b := by exact fun _ _ => rfl) : Ee X Γ (.Subscript a b pos) d Γ2 :=
  pe_imp (pe_ix ix_list ha hb hs) fun σ H Q ⟨F, ev, x, k⟩ => ⟨F, ev, x, fun v F1 H1 g1 e1 dv => ⟨F1, e1, g1.fh, fun w F2 H2 g2 e2 dw => by
    cases dw
    obtain ⟨p, xs, rfl, _, hT, hA⟩ := (dv.up g2.ff).lstAt g2.fh
    obtain ⟨u, hu, du⟩ := atI_get hA hi
    exact ⟨p, xs, i, u, rfl, rfl, hT, hu, k u F2 H2 (g1.trans g2) e2 du⟩⟩⟩
/-- an item of the script -/
theorem ee_ixS {ns : List Int} {n : Int} (ha : Ee X Γ a (scrD ns) Γ1) (hb : Ee X Γ1 b (.int i) Γ2) (hi : atI ns i = some n) (hs : PlainIx b := by exact fun _ _ => rfl) : Ee X Γ (.Subscript a b pos) (.int n) Γ2 :=
  pe_imp (pe_ix ix_list ha hb hs) fun σ H Q ⟨F, ev, x, k⟩ => ⟨F, ev, x, fun v F1 H1 g1 e1 dv => ⟨F1, e1, g1.fh, fun w F2 H2 g2 e2 dw => by
    cases dw
    have key : ∀ (m : PyData) (v : V), m = scrD ns → Dd X.K F2 v m → ∃ p, v = .ref p ∧ SqL X.K F2 p (ns.map V.int) := fun m v em hm => by
      cases hm with
      | dct h1 => cases ns with
        | nil => cases em
        | cons n r => simp [scrD] at em
      | map h1 h2 => cases ns with
        | nil => cases em
        | cons n r => simp [scrD] at em
      | dkd h1 h2 => cases ns with
        | nil => cases em
        | cons n r => simp [scrD] at em
      | dsk h1 h2 h3 h4 h5 => cases ns with
        | nil => cases em
        | cons n r => simp [scrD] at em
      | scr h1 =>
        rename_i a' ns'
        have e' : ns' = ns := by
          have := PyData.dict.inj em
          have h2 := congrArg (List.map fun p : PyData × PyData => match p.1 with | .int i => i | _ => 0) this
          simpa [List.map_map, Function.comp_def] using h2
        subst e'
        exact ⟨_, rfl, h1⟩
      | _ => cases em
    obtain ⟨p, rfl, hS⟩ := key _ _ rfl (dv.up g2.ff)
    refine ⟨p, ns.map V.int, i, .int n, rfl, rfl, ext_l g2.fh hS, ?_, k _ F2 H2 (g1.trans g2) e2 (.int n)⟩
    unfold atI at hi ⊢
    rw [List.length_map]
    cases q : ixN ns.length i with
    | none => rw [q] at hi; cases hi
    | some j =>
      rw [q] at hi
      show (ns.map V.int)[j]? = some (.int n)
      rw [List.getElem?_map, show ns[j]? = some n from hi]
      rfl⟩⟩
end
end DL
end

section
namespace DL
open PySem PySem.Spec PyProof.Rows L2

section
variable {X : Cx} {Γ Γ1 Γ2 Γ3 : Gm} {a b c e : Expr} {es rest : List Expr} {d d1 d2 d3 : PyData} {ds es' : List PyData} {pos : Pos} {p q : Bool} {i j k : Int}

/-! ### calls of built-ins -/
def CD (K : PySem.W.Frag) (r : List V → Hp → VK → Prop) (ds : List PyData) (d : PyData) : Prop := ∀ (F H : Hp) (vs : List V) (Q : VK), Ext F H → DdA K F vs ds →
  (∀ v F' H', Ext F F' → Ext F' H' → Ext H H' → (∀ a, F' a ≠ none → F a ≠ none ∨ H a = none) → Dd K F' v d → Q v H') → r vs H Q
/-- a new list -/
def CN (K : PySem.W.Frag) (r : List V → Hp → VK → Prop) (ds es : List PyData) : Prop := ∀ (F H : Hp) (vs : List V) (Q : VK), Ext F H → DdA K F vs ds →
  ∃ xs, DdA K F xs es ∧ ((∀ p, H p = none → Q (.ref p) (upd H p (.lst xs))) → r vs H Q)
/-- a new tuple -/
def CT (K : PySem.W.Frag) (r : List V → Hp → VK → Prop) (ds es : List PyData) : Prop := ∀ (F H : Hp) (vs : List V) (Q : VK), Ext F H → DdA K F vs ds →
  ∃ xs, DdA K F xs es ∧ (TupNew H xs Q → r vs H Q)
variable {r : List V → Hp → VK → Prop} {x : Str} {pp : Pos}
theorem tCB_D {ta : TA} {σ : L2.St} {H : Hp} {Q : VK} (hr : CD X.K r ds d) (h : tE X.K Γ d Γ1 σ H Q) : tAs X.K Γ ds Γ1 σ H (fun vs H1 => r vs H1 Q) := by
  obtain ⟨F, ev, x, k⟩ := h
  exact ⟨F, ev, x, fun vs F1 H1 g1 e1 dv => hr F1 H1 vs Q g1.fh dv fun z F3 H3 i1 i2 i3 i4 dz => k z F3 H3 (g1.trans (Gr.ext i1 i2 i3 i4)) (e1.keep i1 i3 i4) dz⟩
theorem tCB_N {σ : L2.St} {H : Hp} {Q : VK} (hr : CN X.K r ds es') (h : tN X.K Γ es' Γ1 σ H Q) : tAs X.K Γ ds Γ1 σ H (fun vs H1 => r vs H1 Q) := by
  obtain ⟨F, ev, x, k⟩ := h
  refine ⟨F, ev, x, fun vs F1 H1 g1 e1 dv => ?_⟩
  obtain ⟨xs, dx, kk⟩ := hr F1 H1 vs Q g1.fh dv
  exact kk (tN_new g1 e1 dx k)
theorem tCB_T {σ : L2.St} {H : Hp} {Q : VK} (hr : CT X.K r ds es') (h : tE X.K Γ (.tuple es') Γ1 σ H Q) : tAs X.K Γ ds Γ1 σ H (fun vs H1 => r vs H1 Q) := by
  obtain ⟨F, ev, x, k⟩ := h
  refine ⟨F, ev, x, fun vs F1 H1 g1 e1 dv => ?_⟩
  obtain ⟨xs, dx, kk⟩ := hr F1 H1 vs Q g1.fh dv
  exact kk (tupNew_of g1 e1 dx k)
theorem ee_cb {id : String} (hc : CallR X (.builtin id) r) (hm : X.mg x = none) (hv : bootBuiltins x = some (.builtin id)) (ha : Ea X Γ (e :: es) ds Γ1) (hr : CD X.K r ds d) (hg : Gl X x := by rfl) (hn : x ≠ "__name__" := by decide) (hdb : (x == ("__debug__" : Str)) = false := by decide)
    (he : starEach (e :: es) X.env = (false, eval e X.env) :: starEach es X.env := by rfl) (hpl : (backTo pos (starEach es X.env)).any (·.1) = false := by rfl) : Ee X Γ (.Call (.Name x pp) (e :: es) [] pos) d Γ1 :=
  pe_imp (pe_callB hc hg hm hv ha hn hdb he hpl) fun σ H Q h => tCB_D (ta := tNil) hr h
theorem en_cb {id : String} (hc : CallR X (.builtin id) r) (hm : X.mg x = none) (hv : bootBuiltins x = some (.builtin id)) (ha : Ea X Γ (e :: es) ds Γ1) (hr : CN X.K r ds es') (hg : Gl X x := by rfl) (hn : x ≠ "__name__" := by decide) (hdb : (x == ("__debug__" : Str)) = false := by decide)
    (he : starEach (e :: es) X.env = (false, eval e X.env) :: starEach es X.env := by rfl) (hpl : (backTo pos (starEach es X.env)).any (·.1) = false := by rfl) : En X Γ (.Call (.Name x pp) (e :: es) [] pos) es' Γ1 :=
  pe_imp (pe_callB hc hg hm hv ha hn hdb he hpl) fun σ H Q h => tCB_N hr h
theorem ee_cty {T : String} (hc : CallR X (.type T) r) (hm : X.mg x = none) (hv : bootBuiltins x = some (.type T)) (ha : Ea X Γ (e :: es) ds Γ1) (hr : CD X.K r ds d) (hg : Gl X x := by rfl) (hn : x ≠ "__name__" := by decide) (hdb : (x == ("__debug__" : Str)) = false := by decide)
    (he : starEach (e :: es) X.env = (false, eval e X.env) :: starEach es X.env := by rfl) (hpl : (backTo pos (starEach es X.env)).any (·.1) = false := by rfl) : Ee X Γ (.Call (.Name x pp) (e :: es) [] pos) d Γ1 :=
  pe_imp (pe_callTy hc hg hm hv ha hn hdb he hpl) fun σ H Q h => tCB_D (ta := tNil) hr h
theorem en_cty {T : String} (hc : CallR X (.type T) r) (hm : X.mg x = none) (hv : bootBuiltins x = some (.type T)) (ha : Ea X Γ (e :: es) ds Γ1) (hr : CN X.K r ds es') (hg : Gl X x := by rfl) (hn : x ≠ "__name__" := by decide) (hdb : (x == ("__debug__" : Str)) = false := by decide)
    (he : starEach (e :: es) X.env = (false, eval e X.env) :: starEach es X.env := by rfl) (hpl : (backTo pos (starEach es X.env)).any (·.1) = false := by rfl) : En X Γ (.Call (.Name x pp) (e :: es) [] pos) es' Γ1 :=
  pe_imp (pe_callTy hc hg hm hv ha hn hdb he hpl) fun σ H Q h => tCB_N hr h
theorem et_cty {T : String} (hc : CallR X (.type T) r) (hm : X.mg x = none) (hv : bootBuiltins x = some (.type T)) (ha : Ea X Γ (e :: es) ds Γ1) (hr : CT X.K r ds es') (hg : Gl X x := by rfl) (hn : x ≠ "__name__" := by decide) (hdb : (x == ("__debug__" : Str)) = false := by decide)
    (he : starEach (e :: es) X.env = (false, eval e X.env) :: starEach es X.env := by rfl) (hpl : (backTo pos (starEach es X.env)).any (·.1) = false := by rfl) : Ee X Γ (.Call (.Name x pp) (e :: es) [] pos) (.tuple es') Γ1 :=
  pe_imp (pe_callTy hc hg hm hv ha hn hdb he hpl) fun σ H Q h => tCB_T hr h
theorem cd_here {K : PySem.W.Frag} (h : ∀ (F H : Hp) (vs : List V) (Q : VK), Ext F H → DdA K F vs ds → ∃ v, Dd K F v d ∧ (Q v H → r vs H Q)) : CD K r ds d := fun F H vs Q e hx q => by
  obtain ⟨v, hv, k⟩ := h F H vs Q e hx
  exact k (q v F H (Ext.refl F) e (Ext.refl H) (fun a h => .inl h) hv)
theorem one_of {K : PySem.W.Frag} {F : Hp} {vs : List V} (h : DdA K F vs [d]) : ∃ v, vs = [v] ∧ Dd K F v d := by
  cases h with
  | cons h1 h2 => cases h2; exact ⟨_, rfl, h1⟩
theorem two_of {K : PySem.W.Frag} {F : Hp} {vs : List V} (h : DdA K F vs [d1, d2]) : ∃ v w, vs = [v, w] ∧ Dd K F v d1 ∧ Dd K F w d2 := by
  cases h with
  | cons h1 h2 =>
    cases h2 with
    | cons h3 h4 => cases h4; exact ⟨_, _, rfl, h1, h3⟩

/-! len, int, min, max, list, tuple -/
theorem cd_len (hi : itemsOf d = some ds) : CD X.K (fun xs H Q => ∃ p ys, xs = [.ref p] ∧ (SqL X.K H p ys ∨ SqT X.K H p ys) ∧ Q (.int ys.length) H) [d] (.int ds.length) := cd_here fun F H vs Q e hx => by
  obtain ⟨v, rfl, hv⟩ := one_of hx
  refine ⟨_, .int _, fun k => ?_⟩
  cases d <;> simp [itemsOf] at hi
  · subst hi
    obtain ⟨p, xs, rfl, _, hS, hA⟩ := hv.lstAt e
    exact ⟨p, xs, rfl, .inl hS, by rw [hA.len]; exact k⟩
  · subst hi
    obtain ⟨p, ob, xs, rfl, _, _, hS, hA⟩ := hv.tupAt e
    exact ⟨p, xs, rfl, .inr hS, by rw [hA.len]; exact k⟩
theorem ee_len (hm : X.mg "len" = none) (ha : Ea X Γ [e] [d] Γ1) (hi : itemsOf d = some ds) (hg : Gl X "len" := by rfl) (he : starEach [e] X.env = (false, eval e X.env) :: starEach [] X.env := by rfl) : Ee X Γ (.Call (.Name "len" pp) [e] [] pos) (.int ds.length) Γ1 :=
  ee_cb call_len_seq hm PySem.boot_len ha (cd_len hi) hg (by decide) (by decide) he rfl
theorem scr_of {K : PySem.W.Frag} {F : Hp} {ns : List Int} {v : V} (h : Dd K F v (scrD ns)) : ∃ p, v = .ref p ∧ SqL K F p (ns.map V.int) := by
  have key : ∀ (m : PyData) (v : V), m = scrD ns → Dd K F v m → ∃ p, v = .ref p ∧ SqL K F p (ns.map V.int) := fun m v em hm => by
    cases hm with
    | dct h1 => cases ns with
      | nil => cases em
      | cons n r => simp [scrD] at em
    | map h1 h2 => cases ns with
      | nil => cases em
      | cons n r => simp [scrD] at em
    | dkd h1 h2 => cases ns with
      | nil => cases em
      | cons n r => simp [scrD] at em
    | dsk h1 h2 h3 h4 h5 => cases ns with
      | nil => cases em
      | cons n r => simp [scrD] at em
    | scr h1 =>
      rename_i a' ns'
      have e' : ns' = ns := by
        have := PyData.dict.inj em
        have h2 := congrArg (List.map fun p : PyData × PyData => match p.1 with | .int i => i | _ => 0) this
        simpa [List.map_map, Function.comp_def] using h2
      subst e'
      exact ⟨_, rfl, h1⟩
    | _ => cases em
  exact key _ _ rfl h
theorem ee_lenS {ns : List Int} (hm : X.mg "len" = none) (ha : Ea X Γ [e] [scrD ns] Γ1) (hg : Gl X "len" := by rfl) (he : starEach [e] X.env = (false, eval e X.env) :: starEach [] X.env := by rfl) : Ee X Γ (.Call (.Name "len" pp) [e] [] pos) (.int ns.length) Γ1 :=
  ee_cb call_len_seq hm PySem.boot_len ha (cd_here fun F H vs Q e hx => by
    obtain ⟨v, rfl, hv⟩ := one_of hx
    obtain ⟨p, rfl, hS⟩ := scr_of hv
    exact ⟨_, .int _, fun k => ⟨p, _, rfl, .inl (ext_l e hS), by rw [List.length_map]; exact k⟩⟩) hg (by decide) (by decide) he rfl
theorem ee_intC (hm : X.mg "int" = none) (ha : Ea X Γ [e] [.int i] Γ1) (hg : Gl X "int" := by rfl) (he : starEach [e] X.env = (false, eval e X.env) :: starEach [] X.env := by rfl) : Ee X Γ (.Call (.Name "int" pp) [e] [] pos) (.int i) Γ1 :=
  ee_cty call_int1 hm (by decide +kernel) ha (cd_here fun F H vs Q e hx => by
    obtain ⟨v, rfl, hv⟩ := one_of hx
    cases hv
    exact ⟨_, .int i, fun k => .inl ⟨i, rfl, k⟩⟩) hg (by decide) (by decide) he rfl
theorem ee_min2 (hc : X.calm = true) (hm : X.mg "min" = none) (ha : Ea X Γ [a, b] [.int i, .int j] Γ1) (hg : Gl X "min" := by rfl) (he : starEach [a, b] X.env = (false, eval a X.env) :: starEach [b] X.env := by rfl) (hpl : (backTo pos (starEach [b] X.env)).any (·.1) = false := by rfl) :
    Ee X Γ (.Call (.Name "min" pp) [a, b] [] pos) (.int (if j < i then j else i)) Γ1 :=
  ee_cb (call_min2 hc) hm boot_min ha (cd_here fun F H vs Q e hx => by
    obtain ⟨v, w, rfl, hv, hw⟩ := two_of hx
    cases hv; cases hw
    exact ⟨_, .int _, fun k => ⟨i, j, rfl, k⟩⟩) hg (by decide) (by decide) he hpl
theorem ee_max2 (hc : X.calm = true) (hm : X.mg "max" = none) (ha : Ea X Γ [a, b] [.int i, .int j] Γ1) (hg : Gl X "max" := by rfl) (he : starEach [a, b] X.env = (false, eval a X.env) :: starEach [b] X.env := by rfl) (hpl : (backTo pos (starEach [b] X.env)).any (·.1) = false := by rfl) :
    Ee X Γ (.Call (.Name "max" pp) [a, b] [] pos) (.int (if j > i then j else i)) Γ1 :=
  ee_cb (call_max2 hc) hm (by decide +kernel) ha (cd_here fun F H vs Q e hx => by
    obtain ⟨v, w, rfl, hv, hw⟩ := two_of hx
    cases hv; cases hw
    exact ⟨_, .int _, fun k => ⟨i, j, rfl, k⟩⟩) hg (by decide) (by decide) he hpl
theorem cn_list (hi : itemsOf d = some ds) : CN X.K (fun xs H Q => ∃ p ys, xs = [.ref p] ∧ (SqL X.K H p ys ∨ SqT X.K H p ys) ∧ ∀ l, H l = none → Q (.ref l) (upd H l (.lst ys))) [d] ds := fun F H vs Q e hx => by
  obtain ⟨v, rfl, hv⟩ := one_of hx
  cases d <;> simp [itemsOf] at hi
  · subst hi
    obtain ⟨p, xs, rfl, _, hS, hA⟩ := hv.lstAt e
    exact ⟨xs, hA, fun k => ⟨p, xs, rfl, .inl hS, k⟩⟩
  · subst hi
    obtain ⟨p, ob, xs, rfl, _, _, hS, hA⟩ := hv.tupAt e
    exact ⟨xs, hA, fun k => ⟨p, xs, rfl, .inr hS, k⟩⟩
theorem en_list (hm : X.mg "list" = none) (ha : Ea X Γ [e] [d] Γ1) (hi : itemsOf d = some ds) (hg : Gl X "list" := by rfl) (he : starEach [e] X.env = (false, eval e X.env) :: starEach [] X.env := by rfl) : En X Γ (.Call (.Name "list" pp) [e] [] pos) ds Γ1 :=
  en_cty call_list_of hm (by decide +kernel) ha (cn_list hi) hg (by decide) (by decide) he rfl
/-- tuple(a list) -/
theorem call_tupleF : CallR X (.type "tuple") (fun xs H Q => ∃ p ys, xs = [.ref p] ∧ SqL X.K H p ys ∧ TupNew H ys Q) := by
  intro pins s σ H xs us Q I r h
  obtain ⟨p, ys, rfl, hq, q⟩ := h
  obtain ⟨u, rfl, rx⟩ := vals1 r
  cases rx
  obtain ⟨its, r', pl, hz⟩ := I.list hq
  have hlen := r'.length
  refine call_tuple_list pl.isList (fun h' kp => ?_) (by simp only [List.size_toArray] <;> omega)
  have I1 : Inv X pins σ H { s with heap := h' } := I.kept (t' := s.toks) kp
  exact tup_end I1 r' hz q
theorem ee_tupL (hm : X.mg "tuple" = none) (ha : Ea X Γ [e] [.list ds] Γ1) (hg : Gl X "tuple" := by rfl) (he : starEach [e] X.env = (false, eval e X.env) :: starEach [] X.env := by rfl) : Ee X Γ (.Call (.Name "tuple" pp) [e] [] pos) (.tuple ds) Γ1 :=
  et_cty call_tupleF hm (by decide +kernel) ha (fun F H vs Q e hx => by
    obtain ⟨v, rfl, hv⟩ := one_of hx
    obtain ⟨p, xs, rfl, _, hS, hA⟩ := hv.lstAt e
    exact ⟨xs, hA, fun k => ⟨p, xs, rfl, hS, k⟩⟩) hg (by decide) (by decide) he rfl
/-- list(range(n)) -/
theorem dda_range {K : PySem.W.Frag} {F : Hp} (a b : Int) : DdA K F (rgV a b) ((List.range (b - a).toNat).map fun i : Nat => PyData.int (a + i)) := by
  have : rgV a b = ((List.range (b - a).toNat).map fun i : Nat => a + (i : Int)).map V.int := by
    unfold rgV
    rw [List.map_map]
    rfl
  rw [this]
  have h2 : (List.range (b - a).toNat).map (fun i : Nat => PyData.int (a + i)) = ((List.range (b - a).toNat).map fun i : Nat => a + (i : Int)).map PyData.int := by
    rw [List.map_map]; rfl
  rw [h2]
  exact DdA.of_ints _
theorem en_listRg {p1 p2 : Pos} {n : Nat} (hc : X.calm = true) (hl : X.mg "list" = none) (hr : X.mg "range" = none) (ha : Ee X Γ e (.int n) Γ1) (hn : n ≤ 16777216) (hg : Gl X "list" := by rfl) (hg2 : Gl X "range" := by rfl) (na : starEach [e] X.env = (false, eval e X.env) :: starEach [] X.env := by rfl)
    (na2 : starEach [Expr.Call (.Name "range" p1) [e] [] p2] X.env = (false, eval (Expr.Call (.Name "range" p1) [e] [] p2) X.env) :: starEach [] X.env := by rfl) :
    En X Γ (.Call (.Name "list" pp) [.Call (.Name "range" p1) [e] [] p2] [] pos) ((List.range n).map fun i : Nat => PyData.int i) Γ1 :=
  pe_imp (pe_listRg hc hg hl (prg_1 hg2 hr ha na) na2) fun σ H Q ⟨F, ev, x, k⟩ => ⟨F, ev, x, fun v F1 H1 g1 e1 dv => by
    cases dv
    refine ⟨n, rfl, RgOk.of_le (by omega) (by omega) (by omega) (by omega), ?_⟩
    have h := dda_range (K := X.K) (F := F1) 0 (n : Int)
    have e2 : ((n : Int) - 0).toNat = n := by omega
    rw [e2] at h
    simp only [Int.zero_add] at h
    exact tN_new g1 e1 h k⟩
/-- isinstance against one built-in class -/
def tyName : PyData → String
  | .none => "NoneType"
  | .bool _ => "bool"
  | .int _ => "int"
  | .str _ => "str"
  | .list _ => "list"
  | .tuple _ => "tuple"
  | .dict _ => "dict"
theorem tyX_of {K : PySem.W.Frag} {F H : Hp} {v : V} (e : Ext F H) (hd : ∀ x, d ≠ .dict x) (h : Dd K F v d) : TyX K H v (.type (tyName d)) := by
  cases h with
  | non => exact .base .non
  | bl b => exact .base (.bl b)
  | int i => exact .base (.int i)
  | str x => exact .base (.str x)
  | lst h1 h2 => exact .base (.lst (e _ _ h1))
  | tup h1 h0 h2 => exact .fTuple (e _ _ h1)
  | scr h1 => exact absurd rfl (hd _)
  | dct h1 => exact absurd rfl (hd _)
  | map h1 h2 => exact absurd rfl (hd _)
  | dkd h1 h2 => exact absurd rfl (hd _)
  | dsk h1 h2 h3 h4 h5 => exact absurd rfl (hd _)
/-- a value beside its class -/
theorem ee_isi {T : Str} {TN : String} {p1 : Pos} (hm : X.mg "isinstance" = none) (hT : X.mg T = none) (hb : bootBuiltins T = some (.type TN)) (ha : Ee X Γ e d Γ1) (hd : ∀ x, d ≠ .dict x) (hk : kitB (tyName d) TN = some p) (hg : Gl X "isinstance" := by rfl) (hg2 : Gl X T := by rfl) (hn : T ≠ "__name__" := by decide) (hdb : (T == ("__debug__" : Str)) = false := by decide)
    (he : starEach [e, .Name T p1] X.env = (false, eval e X.env) :: starEach [.Name T p1] X.env := by rfl) (he2 : starEach [.Name T p1] X.env = (false, eval (.Name T p1) X.env) :: starEach [] X.env := by rfl) (hpl : (backTo pos (starEach [.Name T p1] X.env)).any (·.1) = false := by rfl) :
    Ee X Γ (.Call (.Name "isinstance" pp) [e, .Name T p1] [] pos) (.bool p) Γ1 :=
  pe_imp (pe_callB call_isi hg hm (by decide +kernel) (pa_cons ha (pa_cons (pe_bltn (v := .ty TN) hg2 hT hb rfl hn hdb) pa_nil he2) he) (by decide) (by decide) he hpl) fun σ H Q ⟨F, ev, x, k⟩ => ⟨F, ev, x, fun v F1 H1 g1 e1 dv =>
    ⟨v, .ty TN, .type (tyName d), .type TN, p, rfl, .ty TN, tyX_of g1.fh hd dv, kit_ty hk, k _ F1 H1 g1 e1 (.bl p)⟩⟩
theorem ee_isi2 {T U : Str} {TN UN : String} {p1 p2 p3 : Pos} {kk : Nat} {q : Bool} (hm : X.mg "isinstance" = none) (hT : X.mg T = none) (hb : bootBuiltins T = some (.type TN)) (hU : X.mg U = none) (hbU : bootBuiltins U = some (.type UN)) (ha : Ee X Γ e d Γ1) (hd : ∀ x, d ≠ .dict x) (hk : kitB (tyName d) TN = some p) (hk2 : kitB (tyName d) UN = some q)
    (hg : Gl X "isinstance" := by rfl) (hg2 : Gl X T := by rfl) (hg3 : Gl X U := by rfl) (hn : T ≠ "__name__" := by decide) (hdb : (T == ("__debug__" : Str)) = false := by decide) (hn3 : U ≠ "__name__" := by decide) (hdb3 : (U == ("__debug__" : Str)) = false := by decide)
    (he : starEach [e, .Tuple [.Name T p1, .Name U p2] kk p3] X.env = (false, eval e X.env) :: starEach [.Tuple [.Name T p1, .Name U p2] kk p3] X.env := by rfl) (he2 : starEach [.Tuple [.Name T p1, .Name U p2] kk p3] X.env = (false, eval (.Tuple [.Name T p1, .Name U p2] kk p3) X.env) :: starEach [] X.env := by rfl)
    (hpl : (backTo pos (starEach [.Tuple [.Name T p1, .Name U p2] kk p3] X.env)).any (·.1) = false := by rfl)
    (he4 : starEach [.Name T p1, .Name U p2] X.env = (false, eval (.Name T p1) X.env) :: starEach [.Name U p2] X.env := by rfl) (he5 : starEach [.Name U p2] X.env = (false, eval (.Name U p2) X.env) :: starEach [] X.env := by rfl) :
    Ee X Γ (.Call (.Name "isinstance" pp) [e, .Tuple [.Name T p1, .Name U p2] kk p3] [] pos) (.bool (p || q)) Γ1 :=
  pe_imp (pe_callB call_isiT hg hm (by decide +kernel) (pa_cons ha (pa_cons (pe_tup (pa_cons (pe_bltn (v := .ty TN) hg2 hT hb rfl hn hdb) (pa_cons (pe_bltn (v := .ty UN) hg3 hU hbU rfl hn3 hdb3) pa_nil he5) he4)) pa_nil he2) he) (by decide) (by decide) he hpl)
    fun σ H Q ⟨F, ev, x, k⟩ => ⟨F, ev, x, fun v F1 H1 g1 e1 dv => ⟨by show 2 ≤ sizeLine; decide, fun t ht => by
      have hx := tyX_of (Ext.trans g1.fh (Ext.new (o := .tup [.ty TN, .ty UN]) ht)) hd dv
      refine ⟨v, t, [.ty TN, .ty UN], .type (tyName d), [.type TN, .type UN], p || q, rfl, upd_same, .cons (.ty TN) (.cons (.ty UN) .nil), hx, ?_, k _ F1 _ (g1.trans (Gr.newH g1.fh ht)) (e1.newH ht) (.bl _)⟩
      cases p with
      | true => exact kitAny_cons (kit_ty hk) (fun z => by cases z) (fun _ => by simp)
      | false => exact kitAny_cons (kit_ty hk) (fun _ => kitAny_cons (r := q) (kit_ty hk2) (fun z => by rw [z]; exact kitAny_nil) (fun z => z)) (fun z => by cases z)⟩⟩

/-! sums, min, sorted, count -/
theorem reads_of {pins : List (Addr × Obj)} {σ : L2.St} {H F : Hp} {s : Shared} {u : Value} {v : V} (I : Inv X pins σ H s) (e : Ext F H) (hs : d.canLay0 = true) (h : Dd X.K F v d) (r : RelV v u) : ∃ as, Reads s.heap u d as := Dp.reads I d v u (Dd.dp e d v hs h) r
theorem readsAll_of {pins : List (Addr × Obj)} {σ : L2.St} {H F : Hp} {s : Shared} {us : List Value} {vs : List V} (I : Inv X pins σ H s) (e : Ext F H) (hs : PyData.canLayAll0 ds = true) (h : DdA X.K F vs ds) (r : Vals vs us) : ∃ as, ReadsAll s.heap us ds as := Dp.readsAll I ds vs us (DdA.dp e ds vs hs h) r
end
end DL
end

section
namespace DL
open PySem PySem.Spec PyProof.Rows L2
open PySem.W (AlikeAll minD AllAlike Sortable dataLe EachIs)

theorem dda_at {K : PySem.W.Frag} {F : Hp} {xs : List V} {ds : List PyData} (h : DdA K F xs ds) {i : Nat} {v : V} {d : PyData} (h1 : xs[i]? = some v) (h2 : ds[i]? = some d) : Dd K F v d := by
  obtain ⟨d', e1, e2⟩ := h.getv h1
  rw [h2] at e1; cases e1
  exact e2
theorem layAll_mem : ∀ {ds : List PyData} {d : PyData}, PyData.canLayAll0 ds = true → d ∈ ds → d.canLay0 = true
  | e :: ds, d, h, hm => by
    have h' : e.canLay0 = true ∧ PyData.canLayAll0 ds = true := by simpa [PyData.canLayAll0] using h
    rcases List.mem_cons.mp hm with rfl | hm
    · exact h'.1
    · exact layAll_mem h'.2 hm
theorem minD_mem : ∀ (ds : List PyData) (x : PyData), minD x ds ∈ x :: ds
  | [], x => List.mem_cons_self
  | y :: ds, x => by
    show (ds.foldl (fun a y => if PySem.W.dataLt y a then y else a) (if PySem.W.dataLt y x then y else x)) ∈ _
    have := minD_mem ds (if PySem.W.dataLt y x then y else x)
    unfold minD at this
    rcases List.mem_cons.mp this with h | h
    · rw [h]
      split
      · exact List.mem_cons_of_mem _ List.mem_cons_self
      · exact List.mem_cons_self
    · exact List.mem_cons_of_mem _ (List.mem_cons_of_mem _ h)

section
variable {X : Cx} {Γ Γ1 Γ2 Γ3 : Gm} {a b c e : Expr} {es rest : List Expr} {d d1 d2 d3 : PyData} {ds es' : List PyData} {pos pp : Pos} {p q : Bool} {i j k : Int}
/-- min(a list of alike data) -/
def rMinD (K : PySem.W.Frag) : List V → Hp → VK → Prop := fun xs H Q => ∃ (p : Addr) (ys : List V) (x : PyData) (ds : List PyData), xs = [.ref p] ∧ SqL K H p ys ∧ DpAll K H ys (x :: ds) ∧ AlikeAll (x :: ds) ∧ PyData.canLayAll0 (x :: ds) = true ∧ PyData.depthAll (x :: ds) ≤ 60 ∧
  ∀ (i : Nat) (y : V), ys[i]? = some y → (x :: ds)[i]? = some (minD x ds) → Q y H
theorem call_minD {kk : Nat} (hr : Room kk X.A) (hc : X.calm = true) : CallR X (.builtin "min") (rMinD X.K) := by
  intro pins s σ H xs us Q I r h
  obtain ⟨p, ys, x, ds, rfl, hs, hd, ha, hl, hdep, q⟩ := h
  obtain ⟨u, rfl, rx⟩ := vals1 r
  cases rx
  obtain ⟨its, rv, pl, hz⟩ := I.list hs
  obtain ⟨as, hR⟩ := Dp.readsAll I (x :: ds) ys its hd rv
  refine PySem.W.min_list_data (I.ok.hd hc) pl.isList hR ha (by have := hr.un; omega) fun i v h' tk bs hv hrd hk => ?_
  have hvi : its[i]? = some v := by rw [← Array.getElem?_toList] at hv; exact hv
  have hlen := rv.length
  have hlt : i < ys.length := by
    rw [hlen]; exact (List.getElem?_eq_some_iff.mp hvi).1
  obtain ⟨w, hw, rw'⟩ := rv.get (List.getElem?_eq_getElem hlt)
  rw [hvi] at hw
  cases hw
  have hdl : ∀ {ys : List V} {ds : List PyData}, DpAll X.K H ys ds → ∀ (i : Nat) (y : V), ys[i]? = some y → ∃ d, ds[i]? = some d ∧ Dp X.K H y d := by
    intro ys ds h
    induction ds generalizing ys with
    | nil => intro i y hy; cases h; simp at hy
    | cons d ds ih =>
      intro i y hy
      cases h with
      | cons h1 h2 =>
        cases i with
        | zero => cases hy; exact ⟨d, rfl, h1⟩
        | succ i => exact ih h2 i y hy
  obtain ⟨d, hdi, hdd⟩ := hdl hd i _ (List.getElem?_eq_getElem hlt)
  have I2 : Inv X pins σ H { s with heap := h', toks := tk } := I.kept hk
  obtain ⟨cs, hrd2⟩ := Dp.reads I2 d _ _ hdd rw'
  have lay : d.canLay0 = true := layAll_mem hl (List.mem_of_getElem? hdi)
  have e : d = minD x ds := PySem.SeqAt.Reads.unique d _ _ _ _ lay hrd2 hrd
  exact ⟨_, H, I2, rw', q i _ (List.getElem?_eq_getElem hlt) (by rw [hdi, e])⟩
theorem ee_minD {kk : Nat} {x : PyData} (hr : Room kk X.A) (hc : X.calm = true) (hm : X.mg "min" = none) (ha : Ea X Γ [e] [.list (x :: ds)] Γ1) (hal : AlikeAll (x :: ds)) (hl : PyData.canLayAll0 (x :: ds) = true) (hdep : PyData.depthAll (x :: ds) ≤ 60) (hg : Gl X "min" := by rfl)
    (he : starEach [e] X.env = (false, eval e X.env) :: starEach [] X.env := by rfl) : Ee X Γ (.Call (.Name "min" pp) [e] [] pos) (minD x ds) Γ1 :=
  ee_cb (call_minD hr hc) hm boot_min ha (fun F H vs Q e hx q => by
    obtain ⟨v, rfl, hv⟩ := one_of hx
    obtain ⟨p, xs, rfl, _, hS, hA⟩ := hv.lstAt e
    exact ⟨p, xs, x, ds, rfl, hS, DdA.dp e _ _ hl hA, hal, hl, hdep, fun i y h1 h2 => q y F H (Ext.refl F) e (Ext.refl H) (fun a h => .inl h) (dda_at hA h1 h2)⟩) hg (by decide) (by decide) he rfl

/-! ### sorted -/
theorem collect_seq {prog : Program} {w : World} {A : Around} {E : Value → Shared → Prop} {s : Shared} {l : Addr} {vs : List Value} {T : String} {o : Obj} {n : Nat} {Q : List Value → Shared → Prop} (hT : T = "list" ∨ T = "tuple") (ho : s.heap.get? l = some o) (hc : o.cls = .type T) (hd : o.data = .seq vs.toArray n)
    (h : Q vs { s with heap := (s.heap.push (seqObj "list" #[] 0)).update s.heap.objs.size (Obj.mapSeq (· ++ vs.toArray)) }) (hsz : vs.length ≤ sizeLine) :
    wpAny (model prog w) A (collect (.ref l)) Q E s := by
  unfold collect
  refine wpAny_bind (wpAny_runValue (codeAny_builtin entry_proto_collect' ?_))
  show wpAny _ _ (do again (.builtin "list.__iadd__" ⟨[← newList [], .ref l], []⟩)) _ _ s
  refine wpAny_bind (wpAny_newList (wpAny_pure ⟨Code.quiet_builtin _ (by decide +kernel), codeAny_builtin entry_list_iadd' ?_⟩))
  show wpAny _ _ (Builtin.List.listExtendWith (.ref s.heap.objs.size) (.ref l) (.ref s.heap.objs.size)) _ _ { s with heap := s.heap.push (seqObj "list" #[] 0) }
  unfold Builtin.List.listExtendWith
  have ho' : (s.heap.push (seqObj "list" #[] 0)).get? l = some o := Heap.get?_push_of_some _ ho
  refine wpAny_bind (wpAny_typeOf (T := T) ⟨o, ho', hc⟩ ?_)
  have ht : (Value.type T == Value.type "list" || Value.type T == Value.type "tuple") = true := by
    rcases hT with rfl | rfl <;> rfl
  rw [if_pos (by rw [Bool.or_assoc, ht]; simp)]
  refine wpAny_bind (listItems_at ho' hd ?_)
  refine wpAny_bind (listItems_at (xs := #[]) (n := 0) (Heap.get?_push_size _ rfl) rfl ?_)
  rw [if_neg (by simp)]
  refine wpAny_bind (listUpdate_at (xs := #[]) (n := 0) (Heap.get?_push_size _ rfl) rfl ?_ (Nat.zero_le _) (by show (#[] ++ vs.toArray).size ≤ sizeLine + 1; simp only [Array.size_append, List.size_toArray, List.length_nil]; omega))
  refine wpAny_pure ?_
  show wpAny (model prog w) A (do
      let o ← load s.heap.objs.size
      match o.data with
      | .seq xs _ => pure xs.toList
      | _ => unsupported "internal:collect") Q E { s with heap := (s.heap.push (seqObj "list" #[] 0)).update s.heap.objs.size (Obj.mapSeq (· ++ vs.toArray)) }
  refine wpAny_bind (wpAny_load (get?_update_seq (Heap.get?_push_size _ rfl) _) ?_)
  show wpAny _ _ (pure ((#[] : Array Value) ++ vs.toArray).toList) Q E _
  rw [show ((#[] : Array Value) ++ vs.toArray).toList = vs by simp]
  exact wpAny_pure h
open PySem.W in
theorem sorted_seq {prog : Program} {w : World} {A : Around} {E : Value → Shared → Prop} {s : Shared} {β : Type} {vs : List Value} {bs : List β} {enc : β → PyData} {R : Value → β → Prop} {l : Addr} {T : String} {o : Obj} {n : Nat} {Q : Value → Shared → Prop} (hT : T = "list" ∨ T = "tuple") (ho : s.heap.get? l = some o) (hc : o.cls = .type T) (hd : o.data = .seq vs.toArray n)
    (e : EachIs R vs bs) (er : EachIs (fun v b => ∃ as, Reads s.heap v (enc b) as) vs bs) (hal : AllAlike (bs.map enc)) (hk : Sortable (bs.map enc)) (hL : bs.length ≤ sizeLine)
    (hu : ∀ b, b ∈ bs → A.units + 2 + (enc b).depth < cLine) (h : ∀ out, out.length = bs.length → EachIs R out (bs.mergeSort (dataLe false enc)) → Q (.ref (s.heap.objs.size + 1)) { s with heap := sortedAll s.heap vs (List.toArray out) }) :
    wpAny (model prog w) A (call (.builtin "sorted") [.ref l]) Q E s := by
  have er' : EachIs (fun v b => ∃ as, Reads (sortingHeap (copyHeap s.heap vs) (s.heap.objs.size + 1) vs) v (enc b) as) vs bs := er.mono fun _ _ ⟨as, r⟩ => ⟨as, PyProof.Rows.Reads.keeps (fun _ _ => sorting_copy_old) r⟩
  have hLv : vs.length ≤ sizeLine := by rw [e.length]; exact hL
  refine call_function_entry_kw kind_sorted plain_sorted entry_sorted (args_sorted1 _) ?_
  unfold Builtin.«sorted»
  refine wpAny_bind (m := checkCount "sorted" 1 1 _) (wpAny_pure ?_)
  refine wpAny_bind (collect_seq hT ho hc hd ?_ hLv)
  refine wpAny_bind (wpAny_newList ?_ hLv)
  have hsz : ((s.heap.push (seqObj "list" #[] 0)).update s.heap.objs.size (Obj.mapSeq (· ++ vs.toArray))).objs.size = s.heap.objs.size + 1 := by
    rw [Heap.size_update, size_push']
  show wpAny _ _ _ _ _ { s with heap := copyHeap s.heap vs }
  rw [hsz]
  refine wpAny_bind (wpAny_holding (wpAny_call_entry_kw slot_list_sort ⟨_, copyHeap_at s.heap vs, rfl⟩ entry_list_sort ?body (args_list_sort _)))
  case body =>
    show wpAny (model prog w) A.in1.in1 (Builtin.«list.sort» ⟨[.ref (s.heap.objs.size + 1)], []⟩) _ _ _
    refine list_sort_vals (s := { s with heap := copyHeap s.heap vs }) (copyHeap_at s.heap vs) (SortsAt.data (s := { s with heap := sortingHeap (copyHeap s.heap vs) (s.heap.objs.size + 1) vs }) (each_map (R := fun v d => ∃ as, Reads (sortingHeap (copyHeap s.heap vs) (s.heap.objs.size + 1) vs) v d as) enc er') hal hk (bound_map hu)) hLv ?_
    exact ⟨_, rfl, wpAny_pure ⟨_, rfl, h _ (by rw [sortVals_length false rfl]; exact e.length) (sortVals_data false e er' hal)⟩⟩
/-- the order of data -/
abbrev dLe : PyData → PyData → Bool := PySem.W.dataLe false (fun d : PyData => d)
/-- sorted(a list or a tuple of alike data) -/
def rSortD (K : PySem.W.Frag) : List V → Hp → VK → Prop := fun xs H Q => ∃ (p : Addr) (zs : List (V × PyData)), xs = [.ref p] ∧ (SqL K H p (zs.map (·.1)) ∨ SqT K H p (zs.map (·.1))) ∧ DpAll K H (zs.map (·.1)) (zs.map (·.2)) ∧ AllAlike (zs.map (·.2)) ∧ Sortable (zs.map (·.2)) ∧
  PyData.canLayAll0 (zs.map (·.2)) = true ∧ PyData.depthAll (zs.map (·.2)) ≤ 60 ∧ ∀ p, H p = none → Q (.ref p) (upd H p (.lst ((zs.mergeSort (PySem.W.dataLe false (fun z : V × PyData => z.2))).map (·.1))))
theorem depth_le : ∀ {ds : List PyData} {d : PyData}, d ∈ ds → d.depth ≤ PyData.depthAll ds
  | e :: ds, d, h => by
    rw [PyData.depthAll]
    rcases List.mem_cons.mp h with rfl | h
    · exact Nat.le_max_left _ _
    · exact Nat.le_trans (depth_le h) (Nat.le_max_right _ _)
theorem each_of_vals : ∀ {zs : List (V × PyData)} {us : List Value}, Vals (zs.map (·.1)) us → EachIs (fun (u : Value) (z : V × PyData) => RelV z.1 u) us zs
  | [], _, h => by
    rw [List.map_nil] at h; cases h; exact .nil
  | z :: zs, _, h => by
    rw [List.map_cons] at h
    cases h with
    | cons h1 h2 => exact .cons h1 (each_of_vals h2)
theorem vals_of_each : ∀ {zs : List (V × PyData)} {us : List Value}, EachIs (fun (u : Value) (z : V × PyData) => RelV z.1 u) us zs → Vals (zs.map (·.1)) us
  | [], _, h => by cases h; exact .nil
  | z :: zs, _, h => by
    cases h with
    | cons h1 h2 => exact .cons h1 (vals_of_each h2)
theorem each_reads {pins : List (Addr × Obj)} {σ : L2.St} {H : Hp} {s : Shared} (I : Inv X pins σ H s) : ∀ {zs : List (V × PyData)} {us : List Value}, Vals (zs.map (·.1)) us → DpAll X.K H (zs.map (·.1)) (zs.map (·.2)) → EachIs (fun (u : Value) (z : V × PyData) => ∃ as, Reads s.heap u z.2 as) us zs
  | [], _, h, _ => by
    rw [List.map_nil] at h; cases h; exact .nil
  | z :: zs, _, h, hd => by
    rw [List.map_cons] at h
    rw [List.map_cons, List.map_cons] at hd
    cases h with
    | cons h1 h2 =>
      cases hd with
      | cons d1 d2 => exact .cons (Dp.reads I _ _ _ d1 h1) (each_reads I h2 d2)
theorem call_sortD {kk : Nat} (hr : Room kk X.A) : CallR X (.builtin "sorted") (rSortD X.K) := by
  intro pins s σ H xs us Q I r h
  obtain ⟨p, zs, rfl, hs, hd, ha, hk, hl, hdep, q⟩ := h
  obtain ⟨u, rfl, rx⟩ := vals1 r
  cases rx
  have go : ∀ (its : List Value) (T : String) (o : Obj) (n : Nat), (T = "list" ∨ T = "tuple") → s.heap.get? p = some o → o.cls = .type T → o.data = .seq its.toArray n → Vals (zs.map (·.1)) its → (zs.map (·.1)).length ≤ sizeLine →
      wpAny (model X.prog X.w) X.A (call (.builtin "sorted") [.ref p]) (EP X pins σ Q) X.xe s := fun its T o n hT ho hc hdt rv hz => by
    have hz' : zs.length ≤ sizeLine := by rw [List.length_map] at hz; exact hz
    refine sorted_seq (R := fun (u : Value) (z : V × PyData) => RelV z.1 u) (enc := fun z : V × PyData => z.2) hT ho hc hdt (each_of_vals rv) (each_reads I rv hd) ha hk hz' (fun z hz => ?_) fun out hlen hout => ?_
    · have := depth_le (List.mem_map.mpr ⟨z, hz, rfl⟩ : z.2 ∈ zs.map (·.2))
      have := hr.un
      omega
    · obtain ⟨ep, he'⟩ := PyProof.Rows.sortedAll_at s.heap its out.toArray
      have hlen2 : ((zs.mergeSort (PySem.W.dataLe false (fun z : V × PyData => z.2))).map (·.1)).length ≤ sizeLine := by
        rw [List.length_map, List.length_mergeSort]; exact hz'
      exact ⟨.ref _, upd H (s.heap.objs.size + 1) (.lst ((zs.mergeSort (PySem.W.dataLe false (fun z : V × PyData => z.2))).map (·.1))), I.laid (t' := s.toks) (fun _ _ => PyProof.Rows.sortedAll_old) (Nat.le_succ _) ⟨hlen2, out, ep, vals_of_each hout, he'⟩, rfl, q _ (I.hok.fresh (Nat.le_succ _))⟩
  rcases hs with hs | hs
  · obtain ⟨its, rv, pl, hz⟩ := I.list hs
    obtain ⟨o, ho, hc, n, hdt⟩ := pl.isList
    exact go its "list" o n (.inl rfl) ho hc hdt rv hz
  · obtain ⟨its, rv, pl, hz⟩ := I.tuple hs
    obtain ⟨o, ho, hc, n, hdt⟩ := pl
    exact go its "tuple" o n (.inr rfl) ho hc hdt rv hz
theorem zip_fst : ∀ {xs : List V} {ds : List PyData}, xs.length = ds.length → (xs.zip ds).map (·.1) = xs
  | [], [], _ => rfl
  | x :: xs, d :: ds, h => by
    rw [List.zip_cons_cons, List.map_cons, zip_fst (by simpa using h)]
theorem zip_snd : ∀ {xs : List V} {ds : List PyData}, xs.length = ds.length → (xs.zip ds).map (·.2) = ds
  | [], [], _ => rfl
  | x :: xs, d :: ds, h => by
    rw [List.zip_cons_cons, List.map_cons, zip_snd (by simpa using h)]
theorem dda_zip {K : PySem.W.Frag} {F : Hp} : ∀ {zs : List (V × PyData)}, (∀ z ∈ zs, Dd K F z.1 z.2) → DdA K F (zs.map (·.1)) (zs.map (·.2))
  | [], _ => .nil
  | z :: zs, h => .cons (h z List.mem_cons_self) (dda_zip fun y hy => h y (List.mem_cons_of_mem _ hy))
theorem zip_dd {K : PySem.W.Frag} {F : Hp} : ∀ {xs : List V} {ds : List PyData}, DdA K F xs ds → ∀ z ∈ xs.zip ds, Dd K F z.1 z.2
  | _, [], h, z, hz => by cases h; simp at hz
  | _, d :: ds, h, z, hz => by
    cases h with
    | cons h1 h2 =>
      rw [List.zip_cons_cons] at hz
      rcases List.mem_cons.mp hz with rfl | hz
      · exact h1
      · exact zip_dd h2 z hz
theorem cn_sort (hi : itemsOf d = some ds) (ha : AllAlike ds) (hk : Sortable ds) (hl : PyData.canLayAll0 ds = true) (hdep : PyData.depthAll ds ≤ 60) : CN X.K (rSortD X.K) [d] (ds.mergeSort dLe) := fun F H vs Q e hx => by
  obtain ⟨v, rfl, hv⟩ := one_of hx
  have go : ∀ (p : Addr) (xs : List V), (SqL X.K H p xs ∨ SqT X.K H p xs) → DdA X.K F xs ds → v = .ref p → ∃ ys, DdA X.K F ys (ds.mergeSort dLe) ∧ ((∀ p, H p = none → Q (.ref p) (upd H p (.lst ys))) → rSortD X.K [v] H Q) := fun p xs hS hA hv => by
    subst hv
    have hlen := hA.len
    refine ⟨((xs.zip ds).mergeSort (PySem.W.dataLe false (fun z : V × PyData => z.2))).map (·.1), ?_, fun k => ⟨p, xs.zip ds, rfl, by rw [zip_fst hlen]; exact hS, by rw [zip_fst hlen, zip_snd hlen]; exact DdA.dp e _ _ hl hA, by rw [zip_snd hlen]; exact ha, by rw [zip_snd hlen]; exact hk, by rw [zip_snd hlen]; exact hl, by rw [zip_snd hlen]; exact hdep, k⟩⟩
    have h1 : ((xs.zip ds).mergeSort (PySem.W.dataLe false (fun z : V × PyData => z.2))).map (·.2) = ds.mergeSort dLe := by
      have h2 := PySem.W.sort_maps (r := PySem.W.dataLe false (fun z : V × PyData => z.2)) (s := dLe) (fun z : V × PyData => z.2) (l := xs.zip ds) (fun a _ b _ => rfl)
      rw [zip_snd hlen] at h2
      exact h2
    rw [← h1]
    exact dda_zip fun z hz => zip_dd hA z (List.mem_mergeSort.mp hz)
  cases d <;> simp [itemsOf] at hi
  · subst hi
    obtain ⟨p, xs, rfl, _, hS, hA⟩ := hv.lstAt e
    exact go p xs (.inl hS) hA rfl
  · subst hi
    obtain ⟨p, ob, xs, rfl, _, _, hS, hA⟩ := hv.tupAt e
    exact go p xs (.inr hS) hA rfl
theorem en_sort {kk : Nat} (hr : Room kk X.A) (hm : X.mg "sorted" = none) (h : Ea X Γ [e] [d] Γ1) (hi : itemsOf d = some ds) (ha : AllAlike ds) (hk : Sortable ds) (hl : PyData.canLayAll0 ds = true) (hdep : PyData.depthAll ds ≤ 60) (hg : Gl X "sorted" := by rfl)
    (he : starEach [e] X.env = (false, eval e X.env) :: starEach [] X.env := by rfl) : En X Γ (.Call (.Name "sorted" pp) [e] [] pos) (ds.mergeSort dLe) Γ1 :=
  en_cb (call_sortD hr) hm (by decide +kernel) h (cn_sort hi ha hk hl hdep) hg (by decide) (by decide) he rfl
end
end DL
end

section
namespace DL
open PySem PySem.Spec PyProof.Rows L2

section
variable {X : Cx} {Γ Γ1 Γ2 Γ3 : Gm} {a b c e : Expr} {es rest : List Expr} {d d1 d2 d3 : PyData} {ds es' : List PyData} {pos pp : Pos} {p q : Bool} {i j k : Int}
/-! ### sum, count -/
theorem presum_take (ns : List Int) : ∀ n, n ≤ ns.length → preSum (fun i => ns.getD i 0) n = (ns.take n).sum
  | 0, _ => rfl
  | n + 1, h => by
    have ih := presum_take ns n (by omega)
    show preSum (fun i => ns.getD i 0) n + ns.getD n 0 = _
    rw [ih]
    have hn : ns[n]? = some ns[n] := List.getElem?_eq_getElem (by omega)
    rw [L2.sum_take hn, List.getD_eq_getElem?_getD, hn]
    rfl
theorem sum_tupI {prog : Program} {w : World} {A : Around} {E : Value → Shared → Prop} {s : Shared} {l : Addr} {its : List Value} {ns : List Int} {Q : Value → Shared → Prop} (hh : A.handled = none) (hl : s.heap.IsTuple l its.toArray) (hi : IntsAre its ns)
    (h : ∀ h' tk t', (∀ b o, s.heap.get? b = some o → h'.get? b = some o) → Q (.int ns.sum t') { s with heap := h', toks := tk }) : wpAny (model prog w) A (call (.builtin "sum") [.ref l]) Q E s := by
  refine call_sum_walkAnyS (PySem.W.iter_tupleW (A := A.in1) hh hl fun s₂ e W st hfp hw hk => ?_)
  have at_ : ∀ {its : List Value} {ns : List Int}, IntsAre its ns → ∀ (i : Nat) v, its[i]? = some v → ∃ t, v = .int (ns.getD i 0) t := by
    intro its ns hi
    induction hi with
    | nil => intro i v hv; simp at hv
    | cons n t r ih =>
      intro i v hv
      cases i with
      | zero =>
        cases hv
        exact ⟨t, rfl⟩
      | succ i =>
        obtain ⟨t', e'⟩ := ih i v hv
        exact ⟨t', by simpa using e'⟩
  refine ⟨_, _, _, _, _, _, _, fun i => ns.getD i 0, rfl, W, st, hfp, fun i v hv => at_ hi i v (by rw [← Array.getElem?_toList] at hv; exact hv), fun s' t' m => ?_⟩
  obtain ⟨h', tk, rfl, hk'⟩ := PySem.W.moved_old e rfl m
  have hsz : its.toArray.size = ns.length := by rw [List.size_toArray]; exact hi.length
  rw [hsz, presum_take ns ns.length (Nat.le_refl _), List.take_of_length_le (Nat.le_refl _)]
  exact h h' tk t' hk'
def rSumT (K : PySem.W.Frag) : List V → Hp → VK → Prop := fun vs H Q => ∃ (a : Addr) (ns : List Int), vs = [V.ref a] ∧ (SqL K H a (ns.map V.int) ∨ SqT K H a (ns.map V.int)) ∧ Q (.int ns.sum) H
theorem call_sumT (hc : X.calm = true) : CallR X (.builtin "sum") (rSumT X.K) := by
  intro pins s σ H vs us Q I r h
  obtain ⟨a, ns, rfl, hs, q⟩ := h
  rcases hs with hs | hs
  · exact cr_sum hc pins s σ H _ us Q I r ⟨a, ns, rfl, hs, q⟩
  · obtain ⟨its, rv, hl, _⟩ := I.tuple hs
    rw [Vals.ref1 r]
    exact sum_tupI (I.ok.hd hc) hl (intsAre_of rv) fun h' tk t' hk => ⟨.int _, H, I.kept hk, ⟨_, rfl⟩, q⟩
theorem ee_sum {ns : List Int} (hc : X.calm = true) (hm : X.mg "sum" = none) (ha : Ea X Γ [e] [d] Γ1) (hi : itemsOf d = some (ns.map PyData.int)) (hg : Gl X "sum" := by rfl) (he : starEach [e] X.env = (false, eval e X.env) :: starEach [] X.env := by rfl) : Ee X Γ (.Call (.Name "sum" pp) [e] [] pos) (.int ns.sum) Γ1 :=
  ee_cb (call_sumT hc) hm (by decide +kernel) ha (cd_here fun F H vs Q e hx => by
    obtain ⟨v, rfl, hv⟩ := one_of hx
    refine ⟨_, .int _, fun k => ?_⟩
    cases d <;> simp [itemsOf] at hi
    · subst hi
      obtain ⟨p, xs, rfl, _, hS, hA⟩ := hv.lstAt e
      have := hA.ints
      subst this
      exact ⟨p, ns, rfl, .inl hS, k⟩
    · subst hi
      obtain ⟨p, ob, xs, rfl, _, _, hS, hA⟩ := hv.tupAt e
      have := hA.ints
      subst this
      exact ⟨p, ns, rfl, .inr hS, k⟩) hg (by decide) (by decide) he rfl

/-- o.count(x), o a tuple of data -/
theorem ee_countT {kk : Nat} {apos : Pos} (hr : Room kk X.A) (ho : Ee X Γ a (.tuple ds) Γ1) (hb : Ea X Γ1 [b] [d] Γ2) (hl : PyData.canLayAll0 ds = true) (hl2 : d.canLay0 = true) (hdep : PyData.depthAll ds ≤ 60)
    (hbase : attributeBase a "count" X.env (eval a X.env) = eval a X.env := by rfl) (hline : (apos.endLine == pos.line) = true := by rfl) (hs : starEach [b] X.env = (false, eval b X.env) :: starEach [] X.env := by rfl) :
    Ee X Γ (.Call (.Attribute a "count" apos) [b] [] pos) (.int (ds.countP fun y => PyData.eqv y d : Nat)) Γ2 := by
  refine ⟨fun pins s σ H Q I h => ?_⟩
  obtain ⟨F, ev, x, k⟩ := h
  have htr : backTo pos (starEach [b] X.env) = [(false, eval b X.env)] := by rw [hs]; rfl
  refine wpAny_Call_method1_late hbase hline htr (thn (ho.run pins s σ H (fun v H1 => ∃ F1, Gr F H (Own σ Γ) F1 H1 (Own σ Γ1) ∧ EnvOk X.K F1 H1 σ Γ1 ∧ Dd X.K F1 v (.tuple ds)) I ⟨F, ev, x, fun v F1 H1 g1 e1 dv => ⟨F1, g1, e1, dv⟩⟩) fun v s1 hh => ?_)
  obtain ⟨w, H1, I1, r1, F1, g1, e1, dv⟩ := hh
  obtain ⟨p, ob, xs, rfl, hH, hd0, hS, hA⟩ := dv.tupAt g1.fh
  cases r1
  obtain ⟨hget, hz, its, rv, o2, ho2, hc2, n2, hd2⟩ : s1.heap.get? p = some ob ∧ xs.length ≤ sizeLine ∧ ∃ its : List Value, Vals xs its ∧ IsTup s1.heap p its.toArray := I1.hok p _ hH
  refine ⟨"tuple", "tuple.count", PySem.F.plainAttrs_tuple, PySem.F.slot_tuple_count, PySem.F.type_tuple_count, ⟨o2, ho2, hc2⟩, fun a ea => ?_, ?_⟩
  · cases ea
    exact ⟨ob, hget, hd0⟩
  refine Calls.callWith_builtin rfl (Calls.evalArgs_plain ?_)
  have hR := hb.run pos pins s1 σ H1 (fun vs H2 => ∃ F2, Gr F1 H1 (Own σ Γ1) F2 H2 (Own σ Γ2) ∧ EnvOk X.K F2 H2 σ Γ2 ∧ DdA X.K F2 vs [d]) I1 ⟨F1, e1, g1.fh, fun vs F2 H2 g2 e2 dv2 => ⟨F2, g2, e2, dv2⟩⟩
  rw [htr] at hR
  refine thn hR fun us s2 hh2 => ?_
  obtain ⟨vs, H2, I2, rvs, F2, g2, e2, dv2⟩ := hh2
  obtain ⟨z, rfl, dz⟩ := one_of dv2
  obtain ⟨u, rfl, ru⟩ := Vals.one rvs
  obtain ⟨p', ob', xs', ep, hH', hd0', hS', hA'⟩ := (dv.up g2.ff).tupAt g2.fh
  cases ep
  obtain ⟨its', rv', pl', hz'⟩ := I2.tuple hS'
  obtain ⟨as, ra⟩ := readsAll_of I2 g2.fh hl hA' rv'
  obtain ⟨bs, rb⟩ := reads_of I2 g2.fh hl2 dz ru
  refine PySem.SeqAt.count_tuple_data pl' ra rb (PySem.PyData.plainAll_of_canLay0 _ hl) (PySem.PyData.plain_of_canLay0 _ hl2) ?_ ⟨.int _, H2, I2.tok _, ⟨_, rfl⟩, k _ F2 H2 (g1.trans g2) e2 (.int _)⟩
  have := hr.un
  have : min (PyData.depthAll ds) d.depth ≤ PyData.depthAll ds := Nat.min_le_left _ _
  omega

/-! ### slices of lists, any written step -/
def pick {α : Type} (xs : List α) (lo hi st : Option Int) : List α := (sliceRange (sliceBounds lo hi st xs.length).1 (sliceBounds lo hi st xs.length).2.1 (sliceBounds lo hi st xs.length).2.2).filterMap (xs[·]?)
theorem dda_pick {K : PySem.W.Frag} {F : Hp} {xs : List V} (h : DdA K F xs ds) : ∀ is : List Nat, DdA K F (is.filterMap (xs[·]?)) (is.filterMap (ds[·]?))
  | [] => .nil
  | i :: is => by
    rw [List.filterMap_cons, List.filterMap_cons]
    cases e : ds[i]? with
    | none =>
      have : xs[i]? = none := by
        rw [List.getElem?_eq_none_iff] at e ⊢
        rw [h.len]; exact e
      rw [this]
      exact dda_pick h is
    | some d =>
      obtain ⟨v, hv, hd⟩ := h.get e
      rw [hv]
      exact .cons hd (dda_pick h is)
theorem vals_pick {xs : List V} {us : List Value} (r : Vals xs us) : ∀ is : List Nat, Vals (is.filterMap (xs[·]?)) (is.filterMap (us[·]?))
  | [] => .nil
  | i :: is => by
    rw [List.filterMap_cons, List.filterMap_cons]
    cases e : xs[i]? with
    | none =>
      have : us[i]? = none := r.none_of e
      rw [this]
      exact vals_pick r is
    | some x =>
      obtain ⟨u, hu, ru⟩ := r.get e
      rw [hu]
      exact .cons ru (vals_pick r is)
theorem en_sliceStep {n : Nat} {kk : Nat} {p2 p3 : Pos} {lo : Option Expr} {tl : TO} {l : Option Int} (hn : 0 < n) (he : Ee X Γ e (.list ds) Γ1) (hlo : PO X lo tl) (hl : ∀ σ H Q, Q l H → tl σ H Q)
    (hop : subscriptTail e (.Slice lo none (some (.Constant (.int n) kk p2)) p3) = subscriptTail e (.Slice lo none (some (.Constant (.int n) kk p2)) p3) := by rfl) : En X Γ (.Subscript e (.Slice lo none (some (.Constant (.int n) kk p2)) p3) pos) (pick ds l none (some (n : Int))) Γ1 := by
  refine ⟨fun pins s σ H Q I h => ?_⟩
  obtain ⟨F, ev, x, k⟩ := h
  refine Subscript_ (thn (he.run pins s σ H (fun v H1 => ∃ F1, Gr F H (Own σ Γ) F1 H1 (Own σ Γ1) ∧ EnvOk X.K F1 H1 σ Γ1 ∧ Dd X.K F1 v (.list ds)) I ⟨F, ev, x, fun v F1 H1 g1 e1 dv => ⟨F1, g1, e1, dv⟩⟩) fun v s1 hh => ?_)
  obtain ⟨w, H1, I1, r1, F1, g1, e1, dv⟩ := hh
  obtain ⟨p, xs, rfl, hH, hS, hA⟩ := dv.lstAt g1.fh
  cases r1
  refine wpAny_Slice (thn (hlo.run pins s1 σ H1 (fun o H2 => o = l ∧ H2 = H1) I1 (hl _ _ _ ⟨rfl, rfl⟩)) fun vl s2 ⟨ol, H2, I2, pl, el, e2⟩ => ?_)
  subst el e2
  refine thn (po_none.run pins s2 σ H2 (fun o H3 => o = none ∧ H3 = H2) I2 ⟨rfl, rfl⟩) fun vu s3 ⟨u, H3, I3, pu, eu, e3⟩ => ?_
  subst eu e3
  refine thn ((po_some (pe_int (X := X) (i := (n : Int)) (j := kk) (pos := p2))).run pins s3 σ H3 (fun o H4 => o = some (n : Int) ∧ H4 = H3) I3 ⟨n, rfl, rfl, rfl⟩) fun vs s4 ⟨o, H4, I4, ps, eo, e4⟩ => ?_
  subst eo e4
  have I5 : Inv X pins σ H4 { s4 with heap := s4.heap.push { cls := .type "slice", data := .fields #[vl, vu, vs] } } := I4.kept (t' := s4.toks) fun b ob q => Heap.get?_push_of_some _ q
  obtain ⟨its, r, ht, hz⟩ := I5.list hS
  have hlen := r.length
  show wpAny (model X.prog X.w) X.A (subscriptTail e (.Slice lo none (some (.Constant (.int n) kk p2)) p3) (.ref p) (.ref s4.heap.objs.size)) (EP X pins σ Q) X.xe { s4 with heap := s4.heap.push { cls := .type "slice", data := .fields #[vl, vu, vs] } }
  refine tail_any (ops := [.ref p, .ref s4.heap.objs.size]) ht.isList.typeIs (PySem.slot_list_getitem.lookup) ?_ (by with_unfolding_all rfl)
  have hn0 : (some (n : Int)) ≠ some 0 := by intro z; injection z with z; omega
  refine wpAny_getItem_list_slice ht.isList (Heap.IsSliceOf.new _ vl vu vs) pl pu ps hn0 ?_ (by rw [List.size_toArray]; omega)
  have hpk : slicePick its.toArray ol none (some (n : Int)) = (pick its ol none (some (n : Int))).toArray := by
    unfold slicePick pick
    rw [List.size_toArray]
    congr 1
    congr 1
    funext z
    simp
  rw [hpk]
  have hxs : (pick xs ol none (some (n : Int))).length ≤ sizeLine := by
    have h1 := slicePick_size_le its.toArray ol none (some (n : Int))
    rw [hpk, List.size_toArray, List.size_toArray] at h1
    have h2 : (pick xs ol none (some (n : Int))).length = (pick its ol none (some (n : Int))).length := by
      unfold pick
      rw [← hlen]
      exact (vals_pick r _).length
    omega
  have hv : Vals (pick xs ol none (some (n : Int))) (pick its ol none (some (n : Int))) := by
    unfold pick
    rw [← hlen]
    exact vals_pick r _
  have hd : DdA X.K F1 (pick xs ol none (some (n : Int))) (pick ds ol none (some (n : Int))) := by
    unfold pick
    rw [hA.len]
    exact dda_pick hA _
  exact ⟨.ref _, _, I5.laid (t' := s4.toks) (o := .lst (pick xs ol none (some (n : Int)))) (fun b ob q => Heap.get?_push_of_some _ q) (Nat.le_refl _) ⟨hxs, _, 0, hv, Heap.get?_push_size _ rfl⟩, rfl, tN_new g1 e1 hd k _ (I5.hok.fresh (Nat.le_refl _))⟩
end
end DL
end

section
namespace DL
open PySem PySem.Spec PyProof.Rows L2

section
variable {X : Cx} {Γ Γ1 Γ2 Γ3 : Gm} {a b c e : Expr} {es rest : List Expr} {d d1 d2 d3 : PyData} {ds ds2 es' : List PyData} {pos pp : Pos} {p q : Bool} {i j k : Int}
/-! ### + and * of lists and tuples -/
theorem en_cat (ha : Ee X Γ a (.list ds) Γ1) (hb : Ee X Γ1 b (.list ds2) Γ2) (hl : ds.length + ds2.length ≤ 16777216) : En X Γ (.BinOp a .Add b pos) (ds ++ ds2) Γ2 :=
  en_binR op_cat ha hb fun F H x y Q e hx hy => by
    obtain ⟨p1, xs, rfl, h1, _, a1⟩ := hx.lstAt e
    obtain ⟨p2, ys, rfl, h2, _, a2⟩ := hy.lstAt e
    exact ⟨xs ++ ys, a1.app a2, fun k => ⟨p1, p2, xs, ys, rfl, rfl, h1, h2, by rw [a1.len, a2.len, sizeLine_eq]; exact hl, k⟩⟩
theorem dda_flat {K : PySem.W.Frag} {F : Hp} {xs : List V} (h : DdA K F xs ds) : ∀ n : Nat, DdA K F (List.replicate n xs).flatten (List.replicate n ds).flatten
  | 0 => .nil
  | n + 1 => by
    rw [List.replicate_succ, List.replicate_succ, List.flatten_cons, List.flatten_cons]
    exact h.app (dda_flat h n)
theorem en_rep {n : Nat} (ha : Ee X Γ a (.list ds) Γ1) (hb : Ee X Γ1 b (.int n) Γ2) (hl : ds.length * n ≤ 16777216) (hn : n ≤ 16777216) : En X Γ (.BinOp a .Mult b pos) ((List.replicate n ds).flatten) Γ2 :=
  en_binR op_rep ha hb fun F H x y Q e hx hy => by
    obtain ⟨p1, xs, rfl, h1, _, a1⟩ := hx.lstAt e
    cases hy
    exact ⟨(List.replicate n xs).flatten, dda_flat a1 n, fun k => ⟨p1, n, xs, rfl, rfl, h1, by omega, by omega, by rw [a1.len, sizeLine_eq, Int.toNat_natCast]; exact hl, by rw [Int.toNat_natCast]; exact k⟩⟩
def rCatF (K : PySem.W.Frag) : R2 := fun x y H Q => ∃ a b xs ys, x = .ref a ∧ y = .ref b ∧ SqT K H a xs ∧ SqT K H b ys ∧ xs.length + ys.length ≤ sizeLine ∧
  (xs = [] → Q (.ref b) H) ∧ (xs ≠ [] → ys = [] → Q (.ref a) H) ∧ (xs ≠ [] → ys ≠ [] → TupNew H (xs ++ ys) Q)
theorem op_catF : OpR X (binaryOp .Add) (rCatF X.K) := by
  intro pins s σ H x y v u Q I rx ry h
  obtain ⟨a, b, xs, ys, rfl, rfl, ha, hb, hz, q0, q1, q2⟩ := h
  cases rx
  cases ry
  obtain ⟨its, r1, p1, _⟩ := I.tuple ha
  obtain ⟨its2, r2, p2, _⟩ := I.tuple hb
  by_cases hx : xs = []
  · subst hx
    cases r1
    exact cat_tup0 p1 p2 ⟨.ref b, H, I, rfl, q0 rfl⟩
  · refine HT.cat_tup p1 p2 (fun z => hx (r1.nil_iff.mp z)) (fun z => ⟨.ref a, H, I, rfl, q1 hx (r2.nil_iff.mp z)⟩) (fun z => ?_) (by rw [← r1.length, ← r2.length]; exact hz)
    exact tup_end I (r1.append r2) (by rw [List.length_append]; exact hz) (q2 hx (fun w => z (r2.nil_iff.mpr w)))
theorem dda_nil_iff {K : PySem.W.Frag} {F : Hp} {xs : List V} (h : DdA K F xs ds) : xs = [] ↔ ds = [] := by
  cases ds with
  | nil => cases h; simp
  | cons d ds => cases h; simp
theorem ee_catT (ha : Ee X Γ a (.tuple ds) Γ1) (hb : Ee X Γ1 b (.tuple ds2) Γ2) (hl : ds.length + ds2.length ≤ 16777216) : Ee X Γ (.BinOp a .Add b pos) (.tuple (ds ++ ds2)) Γ2 :=
  pe_imp (pe_op op_catF ha hb) fun σ H Q ⟨F, ev, x, k⟩ => ⟨F, ev, x, fun v F1 H1 g1 e1 dv => ⟨F1, e1, g1.fh, fun w F2 H2 g2 e2 dw => by
    obtain ⟨p1, ob1, xs, rfl, h1, _, s1, a1⟩ := (dv.up g2.ff).tupAt g2.fh
    obtain ⟨p2, ob2, ys, rfl, h2, _, s2, a2⟩ := dw.tupAt g2.fh
    refine ⟨p1, p2, xs, ys, rfl, rfl, s1, s2, by rw [a1.len, a2.len, sizeLine_eq]; exact hl, fun z => ?_, fun _ z => ?_, fun _ _ => tupNew_of (g1.trans g2) e2 (a1.app a2) k⟩
    · have hd := (dda_nil_iff a1).mp z
      subst hd
      exact k _ F2 H2 (g1.trans g2) e2 dw
    · have hd := (dda_nil_iff a2).mp z
      subst hd
      rw [List.append_nil] at k
      exact k _ F2 H2 (g1.trans g2) e2 (dv.up g2.ff)⟩⟩
/-- xs[lo:hi] of a list -/
def cutD (ds : List PyData) (lo hi : Option Int) : List PyData := (ds.drop (HT.sIx ds.length 0 lo)).take (HT.sIx ds.length ds.length hi - HT.sIx ds.length 0 lo)
theorem en_sliceHi {p2 : Pos} (ha : Ee X Γ a (.list ds) Γ1) (hb : Ee X Γ1 b (.int i) Γ1) : En X Γ (.Subscript a (.Slice none (some b) none p2) pos) (cutD ds none (some i)) Γ1 :=
  pe_imp (pe_slice sl_list ha po_none (po_some hb)) fun σ H Q ⟨F, ev, x, k⟩ => ⟨F, ev, x, fun v F1 H1 g1 e1 dv => by
    show tE X.K Γ1 (.int i) Γ1 σ H1 _
    refine ⟨F1, e1, g1.fh, fun w F2 H2 g2 e2 dw => ?_⟩
    cases dw
    obtain ⟨p1, xs, rfl, h1, s1, a1⟩ := (dv.up g2.ff).lstAt g2.fh
    refine ⟨i, rfl, p1, xs, rfl, s1, ?_⟩
    have hd : DdA X.K F2 (cutV xs none (some i)) (cutD ds none (some i)) := by
      unfold cutV cutD
      rw [a1.len]
      exact (a1.drop _).take _
    exact tN_new (g1.trans g2) e2 hd k⟩

/-! ### the frame's own lists -/
def slotDs : Slot → List PyData
  | .im _ => []
  | .ad _ => []
  | .ow ds => ds
  | .pr _ ds => ds
theorem own_get {K : PySem.W.Frag} {F H : Hp} {σ : L2.St} {s : Slot} {n : Nat} (ev : EnvOk K F H σ Γ) (h : Γ[n]? = some (some s)) (ho : isOw s = true) : ∃ l xs, σ[n]? = some (some (.ref l)) ∧ F l = none ∧ H l = some (.lst xs) ∧ DdA K F xs (slotDs s) := by
  obtain ⟨v, v1, v2⟩ := ev.ats n s h
  cases s with
  | im d => cases ho
  | ad u => cases ho
  | ow ds =>
    obtain ⟨l, xs, rfl, h1, h2, h3⟩ := v2
    exact ⟨l, xs, v1, h1, h2, h3⟩
  | pr l ds =>
    obtain ⟨xs, rfl, h1, h2, h3⟩ := v2
    exact ⟨l, xs, v1, h1, h2, h3⟩
/-- x[e], x the frame's own -/
theorem ee_ownIx {n : Nat} {s : Slot} {x : Str} {p1 : Pos} (hb : Ee X Γ b (.int i) Γ1) (h : Γ1[n]? = some (some s)) (ho : isOw s = true) (h0 : Γ[n]?.isSome = true) (hi : atI (slotDs s) i = some d) (hx : PE X (.Name x p1) (tVar n)) (hsame : ∀ K F H σ, EnvOk K F H σ Γ → ∃ v, σ[n]? = some (some v)) (hs : PlainIx b := by exact fun _ _ => rfl) :
    Ee X Γ (.Subscript (.Name x p1) b pos) d Γ1 :=
  pe_imp (pe_ix ix_list hx hb hs) fun σ H Q ⟨F, ev, x, k⟩ => by
    obtain ⟨v, hv⟩ := hsame _ _ _ _ ev
    refine ⟨v, hv, F, ev, x, fun w F2 H2 g2 e2 dw => ?_⟩
    cases dw
    obtain ⟨l, xs, h1, h2, h3, h4⟩ := own_get e2 h ho
    rw [hv] at h1
    cases h1
    obtain ⟨u, hu, du⟩ := atI_get h4 hi
    exact ⟨l, xs, i, u, rfl, rfl, SqL.of h3, hu, k u F2 H2 g2 e2 du⟩
theorem has_slot {K : PySem.W.Frag} {n : Nat} {s : Slot} (h : Γ[n]? = some (some s)) : ∀ K F H σ, EnvOk K F H σ Γ → ∃ v, σ[n]? = some (some v) := fun K F H σ ev => by
  obtain ⟨v, v1, _⟩ := ev.ats n s h
  exact ⟨v, v1⟩
/-- a list of the frame's own, read for a while as data: the answer holds no address -/
def flatD : PyData → Bool
  | .none => true
  | .bool _ => true
  | .int _ => true
  | .str _ => true
  | _ => false
theorem dd_flat {K : PySem.W.Frag} {F F' : Hp} {v : V} (hf : flatD d = true) (h : Dd K F v d) : Dd K F' v d := by
  cases h with
  | non => exact .non
  | bl b => exact .bl b
  | int i => exact .int i
  | str x => exact .str x
  | lst _ _ => cases hf
  | tup _ _ _ => cases hf
  | scr _ => cases hf
  | dct _ => cases hf
  | map _ _ => cases hf
  | dkd _ _ => cases hf
  | dsk _ _ _ _ _ => cases hf
/-- a comparison whose answer is a truth value, one side a list of the frame's own -/
theorem own_rd {K : PySem.W.Frag} {r : R2} {F H : Hp} {σ : L2.St} {x y : V} {Q : VK} {l : Addr} {xs : List V} (ev : EnvOk K F H σ Γ) (xt : Ext F H) (hF : F l = none) (hH : H l = some (.lst xs)) (hd : DdA K F xs ds)
    (hx : Dd K (upd F l (.lst xs)) x d1) (hy : Dd K (upd F l (.lst xs)) y d2) (hr : RD K r d1 d2 d) (hf : flatD d = true) (q : ∀ v H', Ext H H' → Dd K F v d → Q v H') : r x y H Q := by
  have xt' : Ext (upd F l (.lst xs)) H := fun a o h => by
    by_cases ha : a = l
    · subst ha; rw [upd_same] at h; cases h; exact hH
    · rw [upd_ne ha] at h; exact xt a o h
  exact hr _ H x y Q xt' hx hy fun v F' H' i1 i2 i3 i4 dv => q v H' i3 (dd_flat hf dv)
theorem et_cmpOwnR {op : CmpOp} {r : R2} {kk : Bool} {n : Nat} {s : Slot} {x : Str} {p1 : Pos} (ho : OpR X (compareOp op) r) (ha : Ee X Γ a d1 Γ1) (h : Γ1[n]? = some (some s)) (hw : isOw s = true) (hx : PE X (.Name x p1) (tVar n)) (hr : RD X.K r d1 (.list (slotDs s)) (.bool kk)) (hm : behindInMarks op (.Name x p1) = false) :
    Et X Γ (.Compare a [op] [.Name x p1] pos) kk Γ1 :=
  pt_imp (pt_cmpR ho ha hx hm) fun σ H Q ⟨F, ev, xt, q⟩ => ⟨F, ev, xt, fun v F1 H1 g1 e1 dv => by
    obtain ⟨l, xs, h1, h2, h3, h4⟩ := own_get e1 h hw
    refine ⟨.ref l, h1, ?_⟩
    refine own_rd e1 g1.fh h2 h3 h4 (dv.up (Ext.new h2)) (.lst upd_same (h4.up (Ext.new h2))) hr rfl fun z H' eh dz => ?_
    cases dz
    exact ⟨kk, rfl, q F1 H' (g1.trans (Gr.ext (Ext.refl F1) (g1.fh.trans eh) eh fun a h => .inl h)) (e1.keep (Ext.refl F1) eh fun a h => .inl h)⟩⟩
theorem et_cmpOwnL {op : CmpOp} {r : R2} {kk : Bool} {n : Nat} {s : Slot} {x : Str} {p1 : Pos} (ho : OpR X (compareOp op) r) (hb : Ee X Γ b d2 Γ1) (h0 : ∀ K F H σ, EnvOk K F H σ Γ → ∃ v, σ[n]? = some (some v)) (h : Γ1[n]? = some (some s)) (hw : isOw s = true) (hx : PE X (.Name x p1) (tVar n)) (hr : RD X.K r (.list (slotDs s)) d2 (.bool kk)) (hm : behindInMarks op b = false) :
    Et X Γ (.Compare (.Name x p1) [op] [b] pos) kk Γ1 :=
  pt_imp (pt_cmpR ho hx hb hm) fun σ H Q ⟨F, ev, xt, q⟩ => by
    obtain ⟨v, hv⟩ := h0 _ _ _ _ ev
    refine ⟨v, hv, F, ev, xt, fun w F1 H1 g1 e1 dw => ?_⟩
    obtain ⟨l, xs, h1, h2, h3, h4⟩ := own_get e1 h hw
    rw [hv] at h1
    cases h1
    refine own_rd e1 g1.fh h2 h3 h4 (.lst upd_same (h4.up (Ext.new h2))) (dw.up (Ext.new h2)) hr rfl fun z H' eh dz => ?_
    cases dz
    exact ⟨kk, rfl, q F1 H' (g1.trans (Gr.ext (Ext.refl F1) (g1.fh.trans eh) eh fun a h => .inl h)) (e1.keep (Ext.refl F1) eh fun a h => .inl h)⟩
theorem ee_lenOwn {n : Nat} {s : Slot} {x : Str} {p1 : Pos} (hm : X.mg "len" = none) (h : Γ[n]? = some (some s)) (hw : isOw s = true) (hx : PE X (.Name x p1) (tVar n)) (hg : Gl X "len" := by rfl) (he : starEach [Expr.Name x p1] X.env = (false, eval (Expr.Name x p1) X.env) :: starEach [] X.env := by rfl) :
    Ee X Γ (.Call (.Name "len" pp) [.Name x p1] [] pos) (.int (slotDs s).length) Γ :=
  pe_imp (pe_callB call_len_seq hg hm PySem.boot_len (pa_cons hx pa_nil he) (by decide) (by decide) he rfl) fun σ H Q ⟨F, ev, xt, q⟩ => by
    obtain ⟨l, xs, h1, h2, h3, h4⟩ := own_get ev h hw
    exact ⟨.ref l, h1, l, xs, rfl, .inl (SqL.of h3), by rw [h4.len]; exact q _ F H (Gr.refl xt) ev (.int _)⟩
end

/-! ### statements -/
inductive Out where
  | nx (Γ : Gm)
  | rt (d : PyData) (Γ : Gm)
  | bk (Γ : Gm)
  | ct (Γ : Gm)
def OutOk (K : PySem.W.Frag) (F H : Hp) (σ : L2.St) (Γ : Gm) (D : Ends) : Out → Prop
  | .nx Γ' => ∀ σ' F' H', Gr F H (Own σ Γ) F' H' (Own σ' Γ') → EnvOk K F' H' σ' Γ' → D.nx σ' H'
  | .rt d Γ' => ∀ v σ' F' H', Gr F H (Own σ Γ) F' H' (Own σ' Γ') → EnvOk K F' H' σ' Γ' → Dd K F' v d → D.rt v H'
  | .bk Γ' => ∀ σ' F' H', Gr F H (Own σ Γ) F' H' (Own σ' Γ') → EnvOk K F' H' σ' Γ' → D.bk σ' H'
  | .ct Γ' => ∀ σ' F' H', Gr F H (Own σ Γ) F' H' (Own σ' Γ') → EnvOk K F' H' σ' Γ' → D.ct σ' H'
def tS (K : PySem.W.Frag) (Γ : Gm) (o : Out) : TS := fun D σ H => ∃ F, EnvOk K F H σ Γ ∧ Ext F H ∧ OutOk K F H σ Γ D o
def Es (X : Cx) (Γ : Gm) (st : Stmt) (o : Out) : Prop := PS X st (tS X.K Γ o)
def Ess (X : Cx) (Γ : Gm) (sts : List Stmt) (o : Out) : Prop := PSs X sts (tS X.K Γ o)
/-- what is wanted behind, from a later state -/
theorem OutOk.later {K : PySem.W.Frag} {F H F1 H1 : Hp} {σ σ1 : L2.St} {Γ Γ1 : Gm} {D : Ends} {o : Out} (g : Gr F H (Own σ Γ) F1 H1 (Own σ1 Γ1)) (h : OutOk K F H σ Γ D o) : OutOk K F1 H1 σ1 Γ1 D o := by
  cases o with
  | nx Γ' => exact fun σ' F' H' g' e' => h σ' F' H' (g.trans g') e'
  | rt d Γ' => exact fun v σ' F' H' g' e' dv => h v σ' F' H' (g.trans g') e' dv
  | bk Γ' => exact fun σ' F' H' g' e' => h σ' F' H' (g.trans g') e'
  | ct Γ' => exact fun σ' F' H' g' e' => h σ' F' H' (g.trans g') e'
section
variable {X : Cx} {Γ Γ1 Γ2 Γ3 : Gm} {a b c e : Expr} {es : List Expr} {d d1 d2 d3 : PyData} {ds ds2 es' : List PyData} {pos pp : Pos} {p q : Bool} {i j k : Int} {o : Out} {st : Stmt} {sts rest body orelse : List Stmt}
theorem ess_nil : Ess X Γ [] (.nx Γ) := pss_imp pss_nil fun D σ H ⟨F, ev, x, k⟩ => k σ F H (Gr.refl x) ev
theorem ess_cons (h1 : Es X Γ st (.nx Γ1)) (h2 : Ess X Γ1 rest o) : Ess X Γ (st :: rest) o :=
  pss_imp (pss_cons h1 h2) fun D σ H ⟨F, ev, x, k⟩ => ⟨F, ev, x, fun σ' F' H' g' e' => ⟨F', e', g'.fh, k.later g'⟩⟩
theorem ess_one (h1 : Es X Γ st o) : Ess X Γ [st] o := pss_one h1
/-- a statement that isn't left by its end -/
theorem ess_stop (h1 : Es X Γ st o) (ho : ∀ Γ', o ≠ .nx Γ') : Ess X Γ (st :: rest) o :=
  pss_imp (pss_cons h1 pss_never) fun D σ H ⟨F, ev, x, k⟩ => ⟨F, ev, x, by
    cases o with
    | nx Γ' => exact absurd rfl (ho Γ')
    | rt d Γ' => exact k
    | bk Γ' => exact k
    | ct Γ' => exact k⟩
theorem es_ret (h : Ee X Γ e d Γ1) : Es X Γ (.Return (some e) pos) (.rt d Γ1) := ps_imp (ps_ret h) fun D σ H ⟨F, ev, x, k⟩ => ⟨F, ev, x, fun v F1 H1 g1 e1 dv => k v σ F1 H1 g1 e1 dv⟩
theorem es_retN : Es X Γ (.Return none pos) (.rt .none Γ) := ps_imp ps_retN fun D σ H ⟨F, ev, x, k⟩ => k .non σ F H (Gr.refl x) ev .non
theorem es_expr (h : Ee X Γ e d Γ1) (hs : swapsWith e none pos.line X.env = pure false := by rfl) : Es X Γ (.Expr e pos) (.nx Γ1) := ps_imp (ps_expr h hs) fun D σ H ⟨F, ev, x, k⟩ => ⟨F, ev, x, fun v F1 H1 g1 e1 dv => k σ F1 H1 g1 e1⟩
theorem es_if {pos : Pos} (hc : Et X Γ c p Γ1) (h1 : p = true → Ess X Γ1 body o) (h2 : p = false → Ess X Γ1 orelse o) : Es X Γ (.If c body orelse pos) o :=
  ps_imp (ps_if hc (pss_guard h1) (pss_guard h2)) fun D σ H ⟨F, ev, x, k⟩ => ⟨F, ev, x, fun F1 H1 g1 e1 => by
    cases p with
    | true => exact iteT ⟨rfl, F1, e1, g1.fh, k.later g1⟩
    | false => exact iteF ⟨rfl, F1, e1, g1.fh, k.later g1⟩⟩
theorem es_ifT {pos : Pos} (hc : Et X Γ c true Γ1) (h1 : Ess X Γ1 body o) : Es X Γ (.If c body orelse pos) o := es_if hc (fun _ => h1) (fun h => by cases h)
theorem es_ifF {pos : Pos} (hc : Et X Γ c false Γ1) (h2 : Ess X Γ1 orelse o) : Es X Γ (.If c body orelse pos) o := es_if hc (fun h => by cases h) (fun _ => h2)
theorem es_break : Es X Γ (.Break pos) (.bk Γ) := ps_imp ps_break fun D σ H ⟨F, ev, x, k⟩ => k σ F H (Gr.refl x) ev
theorem es_continue : Es X Γ (.Continue pos) (.ct Γ) := ps_imp ps_continue fun D σ H ⟨F, ev, x, k⟩ => k σ F H (Gr.refl x) ev
theorem es_pass : Es X Γ (.Pass pos) (.nx Γ) := ps_imp ps_pass fun D σ H ⟨F, ev, x, k⟩ => k σ F H (Gr.refl x) ev
/-- a list of the frame's own is data from here on -/
theorem ess_freeze (n : Nat) (h : Γ[n]? = some (some (.ow ds))) (h1 : Ess X (Γ.set n (some (.im (.list ds)))) sts o) : Ess X Γ sts o :=
  pss_imp h1 fun D σ H ⟨F, ev, x, k⟩ => by
    obtain ⟨l, xs, g1, g2, g3, g4⟩ := own_get ev h rfl
    have g := Gr.freeze x ev h g1 g3
    exact ⟨_, ev.freeze h g1 g3 g4, g.fh, k.later g⟩
/-- fewer slots are known -/
theorem ess_less {Γ' : Gm} (hl : Γ'.length = Γ.length) (h : ∀ (i : Nat) (s : Slot), Γ'[i]? = some (some s) → Γ[i]? = some (some s)) (h1 : Ess X Γ' sts o) : Ess X Γ sts o :=
  pss_imp h1 fun D σ H ⟨F, ev, x, k⟩ => ⟨F, ev.less hl h, x, k.later ⟨Ext.refl F, x, fun a o h => .inl h, fun a h => .inl h, fun a ⟨i, s, q1, q2, q3⟩ => .inl ⟨i, s, h i s q1, q2, q3⟩⟩⟩

/-! assignments -/
def tGt (K : PySem.W.Frag) (Γ : Gm) (d : PyData) (is : List Nat) (Γ' : Gm) : TG := fun v σ H Q => ∃ F, EnvOk K F H σ Γ ∧ Ext F H ∧ Dd K F v d ∧
  ∀ σ' F' H', Gr F H (Own σ Γ) F' H' (Own σ' Γ') → EnvOk K F' H' σ' Γ' → (∀ vs : List Nat, (∀ i ∈ is, i ∈ vs) → wipe σ' vs = wipe σ vs) → Q σ' H'
def Eg (X : Cx) (Γ : Gm) (tg : Expr) (d : PyData) (is : List Nat) (Γ' : Gm) : Prop := PG X tg (tGt X.K Γ d is Γ')
theorem wipe_get (σ : L2.St) : ∀ (vs : List Nat) (j : Nat), (wipe σ vs)[j]? = if j ∈ vs then (σ[j]?).map (fun _ => none) else σ[j]?
  | [], j => by simp [wipe]
  | v :: vs, j => by
    show ((wipe σ vs).set v none)[j]? = _
    by_cases h : v = j
    · subst h
      rw [if_pos List.mem_cons_self]
      by_cases hl : v < σ.length
      · rw [List.getElem?_set_self (by rw [wipe_length]; exact hl), List.getElem?_eq_getElem hl]; rfl
      · rw [List.getElem?_eq_none (by rw [List.length_set, wipe_length]; omega), List.getElem?_eq_none (by omega)]; rfl
    · rw [List.getElem?_set_ne h, wipe_get σ vs j]
      have : (j ∈ v :: vs) ↔ j ∈ vs := by
        rw [List.mem_cons]
        exact ⟨fun z => z.resolve_left (fun y => h y.symm), .inr⟩
      simp only [this]
theorem wipe_set {σ : L2.St} {i : Nat} {v : Option V} {vs : List Nat} (h : i ∈ vs) : wipe (σ.set i v) vs = wipe σ vs := by
  apply List.ext_getElem?
  intro j
  rw [wipe_get, wipe_get]
  by_cases hj : j ∈ vs
  · rw [if_pos hj, if_pos hj]
    by_cases hij : i = j
    · subst hij
      by_cases hl : i < σ.length
      · rw [List.getElem?_set_self hl, List.getElem?_eq_getElem hl]; rfl
      · rw [List.getElem?_eq_none (by rw [List.length_set]; omega), List.getElem?_eq_none (by omega)]
    · rw [List.getElem?_set_ne hij]
  · rw [if_neg hj, if_neg hj, List.getElem?_set_ne (fun (z : i = j) => hj (z ▸ h))]
theorem eg_name (n : Nat) {x : Str} (hN : X.N.Nodup) (hi : X.N[n]? = some x := by rfl) (hx : Loc X.env.scope x := by first | exact Or.inl rfl | exact Or.inr rfl) (hf : X.fn x = true ∨ X.env.scope.names.lookup x = some .local := by first | exact .inl rfl | exact .inr rfl) (hl : Γ[n]?.isSome = true := by rfl) :
    Eg X Γ (.Name x pos) d [n] (Γ.set n (some (.im d))) :=
  pg_imp (pg_name hN hi hx hf) fun v σ H Q ⟨F, ev, x, dv, k⟩ => by
    have hn : n < Γ.length := by
      cases h : Γ[n]? with
      | none => rw [h] at hl; cases hl
      | some z => exact (List.getElem?_eq_some_iff.mp h).1
    exact k (σ.set n (some v)) F H ((Gr.refl x).store) (ev.store dv hn) fun vs hv => wipe_set (hv n (by simp))
theorem eg_tup2 {t1 t2 : Expr} {kk : Nat} {is1 is2 : List Nat} (hc : X.calm = true) (h1 : Eg X Γ t1 d1 is1 Γ1) (h2 : Eg X Γ1 t2 d2 is2 Γ2) (hn : (assignEach [t1, t2] X.env).length = 2 := by rfl) (hst : (assignEach [t1, t2] X.env).findIdx? (·.1) = none := by rfl)
    (hs1 : (assignEach [t1, t2] X.env).map (·.2) = assign t1 X.env :: (assignEach [t2] X.env).map (·.2) := by rfl) (hs2 : (assignEach [t2] X.env).map (·.2) = assign t2 X.env :: (assignEach [] X.env).map (·.2) := by rfl) : Eg X Γ (.Tuple [t1, t2] kk pos) (.tuple [d1, d2]) (is1 ++ is2) Γ2 :=
  pg_imp (pg_tup (n := 2) hc (pgs_cons h1 (pgs_cons h2 pgs_nil hs2) hs1) hn hst) fun v σ H Q ⟨F, ev, x, dv, k⟩ => by
    obtain ⟨a, ob, xs, rfl, _, _, hS, hA⟩ := dv.tupAt x
    obtain ⟨v1, v2, rfl, hv1, hv2⟩ := two_of hA
    refine ⟨a, [v1, v2], rfl, hS, rfl, v1, [v2], rfl, F, ev, x, hv1, fun σ1 F1 H1 g1 e1 w1 => ⟨v2, [], rfl, F1, e1, g1.fh, hv2.up g1.ff, fun σ2 F2 H2 g2 e2 w2 => ⟨rfl, ?_⟩⟩⟩
    exact k σ2 F2 H2 (g1.trans g2) e2 fun vs hvs => (w2 vs fun i hi => hvs i (List.mem_append_right _ hi)).trans (w1 vs fun i hi => hvs i (List.mem_append_left _ hi))
theorem es_asg {tg : Expr} {is : List Nat} (he : Ee X Γ e d Γ1) (hg : Eg X Γ1 tg d is Γ2) (hs : swapsWithSole [tg] e pos.line X.env = pure false := by rfl) (hw : swappedStores [tg] e X.env = pure none := by rfl) (h1 : (assignEach [tg] X.env).map (·.2) = [assign tg X.env] := by rfl) : Es X Γ (.Assign [tg] e pos) (.nx Γ2) :=
  ps_imp (ps_asg he hg hs hw h1) fun D σ H ⟨F, ev, x, k⟩ => ⟨F, ev, x, fun v F1 H1 g1 e1 dv => ⟨F1, e1, g1.fh, dv, fun σ2 F2 H2 g2 e2 _ => k σ2 F2 H2 (g1.trans g2) e2⟩⟩
theorem es_set (n : Nat) {x : Str} {pos' : Pos} (hN : X.N.Nodup) (he : Ee X Γ e d Γ1) (hi : X.N[n]? = some x := by rfl) (hx : Loc X.env.scope x := by first | exact Or.inl rfl | exact Or.inr rfl) (hl : Γ1[n]?.isSome = true := by rfl) (hs : swapsWith e (some (.Name x pos')) pos.line X.env = pure false := by rfl) (hf : X.fn x = true ∨ X.env.scope.names.lookup x = some .local := by first | exact .inl rfl | exact .inr rfl) :
    Es X Γ (.Assign [.Name x pos'] e pos) (.nx (Γ1.set n (some (.im d)))) :=
  ps_imp (ps_set hN hi hx he hs hf) fun D σ H ⟨F, ev, x, k⟩ => ⟨F, ev, x, fun v F1 H1 g1 e1 dv => by
    have hn : n < Γ1.length := by
      cases h : Γ1[n]? with
      | none => rw [h] at hl; cases hl
      | some z => exact (List.getElem?_eq_some_iff.mp h).1
    exact k (σ.set n (some v)) F1 H1 g1.store (e1.store dv hn)⟩
/-- x = a new list, kept as the frame's own -/
theorem es_own (n : Nat) {x : Str} {pos' : Pos} (hN : X.N.Nodup) (he : En X Γ e ds Γ1) (hi : X.N[n]? = some x := by rfl) (hx : Loc X.env.scope x := by first | exact Or.inl rfl | exact Or.inr rfl) (hl : Γ1[n]?.isSome = true := by rfl) (hs : swapsWith e (some (.Name x pos')) pos.line X.env = pure false := by rfl) (hf : X.fn x = true ∨ X.env.scope.names.lookup x = some .local := by first | exact .inl rfl | exact .inr rfl) :
    Es X Γ (.Assign [.Name x pos'] e pos) (.nx (Γ1.set n (some (.ow ds)))) :=
  ps_imp (ps_set hN hi hx he hs hf) fun D σ H ⟨F, ev, x, k⟩ => ⟨F, ev, x, fun l xs F1 H1 g1 e1 hF hH hl' ho dv => by
    have hn : n < Γ1.length := by
      cases h : Γ1[n]? with
      | none => rw [h] at hl; cases hl
      | some z => exact (List.getElem?_eq_some_iff.mp h).1
    refine k (σ.set n (some (.ref l))) F1 H1 ⟨g1.ff, g1.fh, g1.hh, g1.nw, fun a h => ?_⟩ (e1.storeOw hF hl' dv ho hn)
    rcases own_storeOw (by rw [e1.len]; exact hn) h with z | z
    · exact g1.aa a z
    · subst z
      exact hH.elim .inr .inl⟩
/-- x.append(e), x the frame's own -/
theorem es_append {n : Nat} {s : Slot} {x : Str} {p1 apos cpos : Pos} (hx : PE X (.Name x p1) (tVar n)) (h0 : Γ[n]? = some (some s)) (ho0 : isOw s = true) {s1 : Slot} (ha : Ea X Γ [e] [d] Γ1) (h : Γ1[n]? = some (some s1)) (ho : isOw s1 = true) (hl : (slotDs s1).length < 16777216)
    (hbase : attributeBase (.Name x p1) "append" X.env (eval (.Name x p1) X.env) = eval (.Name x p1) X.env := by rfl)
    (hfew : ((backTo cpos (starEach [e] X.env)).all (fun x => !x.1) && (backToKw cpos (keywordEach [] X.env)).all (fun x => x.1.isSome) && decide ([e].length + ([] : List Keyword).length + (if ([] : List Keyword).isEmpty then 0 else 1) < 30)) = true := by rfl)
    (hline : (apos.endLine == cpos.line) = true := by rfl) (hs : starEach [e] X.env = (false, eval e X.env) :: starEach [] X.env := by rfl) (hplain : (backTo cpos (starEach [] X.env)).any (·.1) = false := by rfl) (hsw : swapsWith (.Call (.Attribute (.Name x p1) "append" apos) [e] [] cpos) none pos.line X.env = pure false := by rfl) :
    Es X Γ (.Expr (.Call (.Attribute (.Name x p1) "append" apos) [e] [] cpos) pos) (.nx (Γ1.set n (some (reSlot (slotDs s1 ++ [d]) s1)))) :=
  ps_imp (ps_expr (pe_bm PySem.F.plainAttrs_list PySem.F.slot_list_append PySem.F.type_list_append mt_append hx ha hbase hfew hline hs hplain) hsw) fun D σ H ⟨F, ev, xt, k⟩ => by
    obtain ⟨l0, xs0, a1, a2, a3, a4⟩ := own_get ev h0 ho0
    refine ⟨.ref l0, a1, .inl ⟨rfl, xs0, SqL.of a3⟩, F, ev, xt, fun vs F1 H1 g1 e1 dv => ?_⟩
    obtain ⟨z, rfl, dz⟩ := one_of dv
    obtain ⟨l, xs, b1, b2, b3, b4⟩ := own_get e1 h ho
    rw [a1] at b1
    cases b1
    refine ⟨l0, xs, z, rfl, rfl, b3, by rw [b4.len, sizeLine_eq]; exact hl, ?_⟩
    exact k σ F1 _ (g1.trans (Gr.change g1.fh e1 h ho a1)) (e1.change h ho a1 (b4.app (.cons dz .nil)))
end
end DL
end

section
namespace DL
open PySem PySem.Spec PyProof.Rows L2

/-! ### values that are data, or new lists -/
inductive Kd where
  | d (d : PyData)
  | n (ds : List PyData)
def Kd.slot : Kd → Slot
  | .d z => .im z
  | .n zs => .ow zs
/-- H0, A0: where the values' making began -/
def KdOk (K : PySem.W.Frag) (H0 : Hp) (A0 : Addr → Prop) (F H : Hp) (A : Addr → Prop) (v : V) : Kd → Prop
  | .d d => Dd K F v d
  | .n ds => ∃ l xs, v = .ref l ∧ F l = none ∧ H l = some (.lst xs) ∧ ¬ A l ∧ DdA K F xs ds ∧ (H0 l = none ∨ A0 l)
theorem KdOk.later {K : PySem.W.Frag} {H0 : Hp} {A0 : Addr → Prop} {F H F' H' : Hp} {A A' : Addr → Prop} {v : V} {k : Kd} (g : Gr F H A F' H' A') (h : KdOk K H0 A0 F H A v k) : KdOk K H0 A0 F' H' A' v k := by
  cases k with
  | d d => exact (show Dd K F v d from h).up g.ff
  | n ds =>
    obtain ⟨l, xs, e1, e2, e3, e4, e5, e6⟩ := h
    refine ⟨l, xs, e1, ?_, (g.hh l _ e3).resolve_right e4, fun z => ?_, e5.up g.ff, e6⟩
    · cases q : F' l with
      | none => rfl
      | some o =>
        rcases g.nw l (by rw [q]; exact Option.some_ne_none o) with z | z | z
        · exact absurd e2 z
        · rw [e3] at z; cases z
        · exact absurd z e4
    · rcases g.aa l z with y | y
      · exact e4 y
      · rw [e3] at y; cases y
def tK (K : PySem.W.Frag) (Γ : Gm) (k : Kd) (Γ' : Gm) : TE := fun σ H Q => ∃ F, EnvOk K F H σ Γ ∧ Ext F H ∧
  ∀ v F' H', Gr F H (Own σ Γ) F' H' (Own σ Γ') → EnvOk K F' H' σ Γ' → KdOk K H (Own σ Γ) F' H' (Own σ Γ') v k → Q v H'
def Ek (X : Cx) (Γ : Gm) (e : Expr) (k : Kd) (Γ' : Gm) : Prop := PE X e (tK X.K Γ k Γ')
section
variable {X : Cx} {Γ Γ1 Γ2 Γ3 : Gm} {a b c e : Expr} {es : List Expr} {d d1 d2 d3 : PyData} {ds ds2 es' : List PyData} {pos pp : Pos} {p q : Bool} {i j : Int} {k k1 k2 k3 : Kd} {o : Out} {st : Stmt} {sts rest body orelse : List Stmt}
theorem ek_d (h : Ee X Γ e d Γ1) : Ek X Γ e (.d d) Γ1 := pe_imp h fun σ H Q ⟨F, ev, x, q⟩ => ⟨F, ev, x, fun v F1 H1 g1 e1 dv => q v F1 H1 g1 e1 dv⟩
theorem ek_n (h : En X Γ e ds Γ1) : Ek X Γ e (.n ds) Γ1 := pe_imp h fun σ H Q ⟨F, ev, x, q⟩ => ⟨F, ev, x, fun l xs F1 H1 g1 e1 hF hH hl ho dv => q (.ref l) F1 H1 g1 e1 ⟨l, xs, rfl, hF, hl, ho, dv, hH⟩⟩
/-- a slot is given such a value -/
theorem EnvOk.storeK {K : PySem.W.Frag} {H0 : Hp} {A0 : Addr → Prop} {F H : Hp} {σ : L2.St} {n : Nat} {v : V} (ev : EnvOk K F H σ Γ) (h : KdOk K H0 A0 F H (Own σ Γ) v k) (hn : n < Γ.length) : EnvOk K F H (σ.set n (some v)) (Γ.set n (some k.slot)) := by
  cases k with
  | d d => exact ev.store h hn
  | n ds =>
    obtain ⟨l, xs, rfl, e2, e3, e4, e5, e6⟩ := h
    exact ev.storeOw e2 e3 e5 e4 hn
theorem Gr.storeK {K : PySem.W.Frag} {F0 H0 F H : Hp} {σ0 σ : L2.St} {Γ0 : Gm} {n : Nat} {v : V} (g : Gr F0 H0 (Own σ0 Γ0) F H (Own σ Γ)) (ev : EnvOk K F H σ Γ) (h : KdOk K H0 (Own σ0 Γ0) F H (Own σ Γ) v k) (hn : n < Γ.length) : Gr F0 H0 (Own σ0 Γ0) F H (Own (σ.set n (some v)) (Γ.set n (some k.slot))) := by
  cases k with
  | d d => exact g.store
  | n ds =>
    obtain ⟨l, xs, rfl, e2, e3, e4, e5, e6⟩ := h
    refine ⟨g.ff, g.fh, g.hh, g.nw, fun a q => ?_⟩
    rcases own_storeOw (by rw [ev.len]; exact hn) q with z | z
    · exact g.aa a z
    · subst z; exact e6.elim .inr .inl
/-- another such value beside it: still not owned -/
theorem KdOk.store {K : PySem.W.Frag} {H0 : Hp} {A0 : Addr → Prop} {F H : Hp} {σ : L2.St} {n : Nat} {v w : V} (ev : EnvOk K F H σ Γ) (hn : n < Γ.length) (h : KdOk K H0 A0 F H (Own σ Γ) v k1) (h2 : KdOk K H0 A0 F H (Own σ Γ) w k2) (ne : ∀ l, k1 ≠ .d .none → k2 ≠ .d .none → (∃ ds, k1 = .n ds) → (∃ ds, k2 = .n ds) → v = .ref l → w = .ref l → False) :
    KdOk K H0 A0 F H (Own (σ.set n (some v)) (Γ.set n (some k1.slot))) w k2 := by
  cases k2 with
  | d d => exact h2
  | n ds =>
    obtain ⟨l, xs, rfl, e2, e3, e4, e5, e6⟩ := h2
    refine ⟨l, xs, rfl, e2, e3, fun z => ?_, e5, e6⟩
    cases k1 with
    | d d => exact e4 (own_store z)
    | n ds1 =>
      obtain ⟨l1, xs1, rfl, _⟩ := h
      rcases own_storeOw (by rw [ev.len]; exact hn) z with y | y
      · exact e4 y
      · subst y; exact ne l (by intro q; cases q) (by intro q; cases q) ⟨_, rfl⟩ ⟨_, rfl⟩ rfl rfl
theorem some_lt {n : Nat} (hl : Γ[n]?.isSome = true) : n < Γ.length := by
  cases h : Γ[n]? with
  | none => rw [h] at hl; cases hl
  | some z => exact (List.getElem?_eq_some_iff.mp h).1
/-- a new list made later is another one -/
theorem kd_ne {K : PySem.W.Frag} {H0 : Hp} {A0 : Addr → Prop} {F H F' H' : Hp} {A A' : Addr → Prop} {v w : V} (h : KdOk K H0 A0 F H A v k1) (h2 : KdOk K H A F' H' A' w k2) : ∀ l, (∃ ds, k1 = .n ds) → (∃ ds, k2 = .n ds) → v = .ref l → w = .ref l → False := by
  rintro l ⟨ds, rfl⟩ ⟨ds2, rfl⟩ rfl rfl
  obtain ⟨l1, xs1, e1, e2, e3, e4, e5, e6⟩ := h
  obtain ⟨l2, xs2, f1, f2, f3, f4, f5, f6⟩ := h2
  cases e1; cases f1
  rcases f6 with z | z
  · rw [e3] at z; cases z
  · exact e4 z
/-- made from a later state: made from the earlier one -/
theorem KdOk.from {K : PySem.W.Frag} {F0 H0 F1 H1 F H : Hp} {A0 A1 A : Addr → Prop} {v : V} (g : Gr F0 H0 A0 F1 H1 A1) (h : KdOk K H1 A1 F H A v k) : KdOk K H0 A0 F H A v k := by
  cases k with
  | d d => exact h
  | n ds =>
    obtain ⟨l, xs, e1, e2, e3, e4, e5, e6⟩ := h
    refine ⟨l, xs, e1, e2, e3, e4, e5, ?_⟩
    rcases e6 with z | z
    · exact g.free z
    · rcases g.aa l z with y | y
      · exact .inr y
      · exact .inl y
/-- x = e, e data or a new list -/
theorem es_setK (n : Nat) {x : Str} {pos' : Pos} (hN : X.N.Nodup) (he : Ek X Γ e k Γ1) (hi : X.N[n]? = some x := by rfl) (hx : Loc X.env.scope x := by first | exact Or.inl rfl | exact Or.inr rfl) (hl : Γ1[n]?.isSome = true := by rfl) (hs : swapsWith e (some (.Name x pos')) pos.line X.env = pure false := by rfl) (hf : X.fn x = true ∨ X.env.scope.names.lookup x = some .local := by first | exact .inl rfl | exact .inr rfl) :
    Es X Γ (.Assign [.Name x pos'] e pos) (.nx (Γ1.set n (some k.slot))) :=
  ps_imp (ps_set hN hi hx he hs hf) fun D σ H ⟨F, ev, x, kk⟩ => ⟨F, ev, x, fun v F1 H1 g1 e1 hk => kk _ F1 H1 (g1.storeK e1 hk (some_lt hl)) (e1.storeK hk (some_lt hl))⟩
/-- a, b = e1, e2 : plain locals -/
theorem es_par2 (n m : Nat) {x y : Str} {px py pt pt2 : Pos} {kt kt2 : Nat} (hc : X.calm = true) (hN : X.N.Nodup) (hnm : n ≠ m) (h1 : Ek X Γ a k1 Γ1) (h2 : Ek X Γ1 b k2 Γ2) (hi : X.N[n]? = some x := by rfl) (hj : X.N[m]? = some y := by rfl)
    (hx : X.env.scope.names.lookup x = some .local := by rfl) (hy : X.env.scope.names.lookup y = some .local := by rfl) (hl : Γ2[n]?.isSome = true := by rfl) (hl2 : Γ2[m]?.isSome = true := by rfl) (he1 : starEach [a, b] X.env = (false, eval a X.env) :: starEach [b] X.env := by rfl) (he2 : starEach [b] X.env = (false, eval b X.env) :: starEach [] X.env := by rfl)
    (hw : swappedStores [.Tuple [.Name x px, .Name y py] kt pt] (.Tuple [a, b] kt2 pt2) X.env = pure (some [x, y]) := by rfl) (hs : swapsWithSole [.Tuple [.Name x px, .Name y py] kt pt] (.Tuple [a, b] kt2 pt2) pos.line X.env = pure false := by rfl) :
    Es X Γ (.Assign [.Tuple [.Name x px, .Name y py] kt pt] (.Tuple [a, b] kt2 pt2) pos) (.nx ((Γ2.set n (some k1.slot)).set m (some k2.slot))) :=
  ps_imp (ps_par hc hN hi hj hnm hx hy (pa_cons h1 (pa_cons h2 pa_nil he2) he1) hw hs) fun D σ H ⟨F, ev, xt, kk⟩ => ⟨F, ev, xt, fun v F1 H1 g1 e1 hk1 => ⟨F1, e1, g1.fh, fun w F2 H2 g2 e2 hk2 => by
    refine ⟨v, w, rfl, ?_⟩
    have hk1' := hk1.later g2
    have hk2' := KdOk.from g1 hk2
    have g := g1.trans g2
    have l1 := some_lt hl
    have l2 : m < (Γ2.set n (some k1.slot)).length := by rw [List.length_set]; exact some_lt hl2
    have hk3 := KdOk.store e2 l1 hk1' hk2' fun l _ _ => kd_ne hk1 hk2 l
    exact kk _ F2 H2 ((g.storeK e2 hk1' l1).storeK (e2.storeK hk1' l1) hk3 l2) ((e2.storeK hk1' l1).storeK hk3 l2)⟩⟩
/-- a, b = e1, e2 by way of the tuple (a name may be captured) -/
theorem es_tup2 (n m : Nat) {x y : Str} {px py pt pt2 : Pos} {kt kt2 : Nat} (hc : X.calm = true) (hN : X.N.Nodup) (h1 : Ek X Γ a k1 Γ1) (h2 : Ek X Γ1 b k2 Γ2) (hi : X.N[n]? = some x := by rfl) (hj : X.N[m]? = some y := by rfl)
    (hx : Loc X.env.scope x := by first | exact Or.inl rfl | exact Or.inr rfl) (hy : Loc X.env.scope y := by first | exact Or.inl rfl | exact Or.inr rfl) (hf : X.fn x = true ∨ X.env.scope.names.lookup x = some .local := by first | exact .inl rfl | exact .inr rfl) (hf2 : X.fn y = true ∨ X.env.scope.names.lookup y = some .local := by first | exact .inl rfl | exact .inr rfl)
    (hl : Γ2[n]?.isSome = true := by rfl) (hl2 : Γ2[m]?.isSome = true := by rfl) (he1 : starEach [a, b] X.env = (false, eval a X.env) :: starEach [b] X.env := by rfl) (he2 : starEach [b] X.env = (false, eval b X.env) :: starEach [] X.env := by rfl)
    (hs1 : (assignEach [Expr.Name x px, .Name y py] X.env).map (·.2) = assign (.Name x px) X.env :: (assignEach [Expr.Name y py] X.env).map (·.2) := by rfl) (hs2 : (assignEach [Expr.Name y py] X.env).map (·.2) = assign (.Name y py) X.env :: (assignEach [] X.env).map (·.2) := by rfl)
    (hna : (assignEach [Expr.Name x px, .Name y py] X.env).length = 2 := by rfl) (hst : (assignEach [Expr.Name x px, .Name y py] X.env).findIdx? (·.1) = none := by rfl)
    (hs : swapsWithSole [.Tuple [.Name x px, .Name y py] kt pt] (.Tuple [a, b] kt2 pt2) pos.line X.env = pure false := by rfl) (hw : swappedStores [.Tuple [.Name x px, .Name y py] kt pt] (.Tuple [a, b] kt2 pt2) X.env = pure none := by rfl) (h1' : (assignEach [.Tuple [.Name x px, .Name y py] kt pt] X.env).map (·.2) = [assign (.Tuple [.Name x px, .Name y py] kt pt) X.env] := by rfl) :
    Es X Γ (.Assign [.Tuple [.Name x px, .Name y py] kt pt] (.Tuple [a, b] kt2 pt2) pos) (.nx ((Γ2.set n (some k1.slot)).set m (some k2.slot))) :=
  ps_imp (ps_asg (pe_tup (pa_cons h1 (pa_cons h2 pa_nil he2) he1)) (pg_tup (n := 2) hc (pgs_cons (pg_name hN hi hx hf) (pgs_cons (pg_name hN hj hy hf2) pgs_nil hs2) hs1) hna hst) hs hw h1') fun D σ H ⟨F, ev, xt, kk⟩ => ⟨F, ev, xt, fun v F1 H1 g1 e1 hk1 => ⟨F1, e1, g1.fh, fun w F2 H2 g2 e2 hk2 => by
    refine ⟨by show 2 ≤ sizeLine; decide, fun t ht => ⟨t, [v, w], rfl, SqT.of upd_same, rfl, v, [w], rfl, w, [], rfl, rfl, ?_⟩⟩
    have gt : Gr F2 H2 (Own σ Γ2) F2 (upd H2 t (.tup [v, w])) (Own σ Γ2) := Gr.newH g2.fh ht
    have e3 : EnvOk X.K F2 (upd H2 t (.tup [v, w])) σ Γ2 := e2.newH ht
    have hk1' := (hk1.later g2).later gt
    have hk2' := (KdOk.from g1 hk2).later gt
    have g := (g1.trans g2).trans gt
    have l1 := some_lt hl
    have l2 : m < (Γ2.set n (some k1.slot)).length := by rw [List.length_set]; exact some_lt hl2
    have hk3 := KdOk.store e3 l1 hk1' hk2' fun l _ _ => kd_ne hk1 hk2 l
    exact kk _ F2 _ ((g.storeK e3 hk1' l1).storeK (e3.storeK hk1' l1) hk3 l2) ((e3.storeK hk1' l1).storeK hk3 l2)⟩⟩
/-- a, b, c = e1, e2, e3 : plain locals -/
theorem es_par3 (n m l : Nat) {x y z : Str} {px py pz pt pt2 : Pos} {kt kt2 : Nat} (hc : X.calm = true) (hN : X.N.Nodup) (hnm : n ≠ m) (hnl : n ≠ l) (hml : m ≠ l) (h1 : Ek X Γ a k1 Γ1) (h2 : Ek X Γ1 b k2 Γ2) (h3 : Ek X Γ2 c k3 Γ3) (hi : X.N[n]? = some x := by rfl) (hj : X.N[m]? = some y := by rfl) (hk : X.N[l]? = some z := by rfl)
    (hx : X.env.scope.names.lookup x = some .local := by rfl) (hy : X.env.scope.names.lookup y = some .local := by rfl) (hz : X.env.scope.names.lookup z = some .local := by rfl) (hl : Γ3[n]?.isSome = true := by rfl) (hl2 : Γ3[m]?.isSome = true := by rfl) (hl3 : Γ3[l]?.isSome = true := by rfl)
    (he1 : starEach [a, b, c] X.env = (false, eval a X.env) :: starEach [b, c] X.env := by rfl) (he2 : starEach [b, c] X.env = (false, eval b X.env) :: starEach [c] X.env := by rfl) (he3 : starEach [c] X.env = (false, eval c X.env) :: starEach [] X.env := by rfl)
    (hw : swappedStores [.Tuple [.Name x px, .Name y py, .Name z pz] kt pt] (.Tuple [a, b, c] kt2 pt2) X.env = pure (some [x, y, z]) := by rfl) (hs : swapsWithSole [.Tuple [.Name x px, .Name y py, .Name z pz] kt pt] (.Tuple [a, b, c] kt2 pt2) pos.line X.env = pure false := by rfl) :
    Es X Γ (.Assign [.Tuple [.Name x px, .Name y py, .Name z pz] kt pt] (.Tuple [a, b, c] kt2 pt2) pos) (.nx (((Γ3.set n (some k1.slot)).set m (some k2.slot)).set l (some k3.slot))) :=
  ps_imp (ps_par3 hc hN hi hj hk hnm hnl hml hx hy hz (pa_cons h1 (pa_cons h2 (pa_cons h3 pa_nil he3) he2) he1) hw hs) fun D σ H ⟨F, ev, xt, kk⟩ => ⟨F, ev, xt, fun u F1 H1 g1 e1 hk1 => ⟨F1, e1, g1.fh, fun v F2 H2 g2 e2 hk2 => ⟨F2, e2, g2.fh, fun w F3 H3 g3 e3 hk3 => by
    refine ⟨u, v, w, rfl, ?_⟩
    have a1 := (hk1.later g2).later g3
    have a2 := (KdOk.from g1 hk2).later g3
    have a3 := KdOk.from (g1.trans g2) hk3
    have g := (g1.trans g2).trans g3
    have l1 := some_lt hl
    have l2 : m < (Γ3.set n (some k1.slot)).length := by rw [List.length_set]; exact some_lt hl2
    have l3 : l < ((Γ3.set n (some k1.slot)).set m (some k2.slot)).length := by rw [List.length_set, List.length_set]; exact some_lt hl3
    have b2 := KdOk.store e3 l1 a1 a2 fun l _ _ => kd_ne hk1 hk2 l
    have b3 := KdOk.store e3 l1 a1 a3 fun l _ _ => kd_ne (hk1.later g2) hk3 l
    have ev1 := e3.storeK a1 l1
    have c3 := KdOk.store ev1 l2 b2 b3 fun l _ _ => kd_ne hk2 hk3 l
    exact kk _ F3 H3 (((g.storeK e3 a1 l1).storeK ev1 b2 l2).storeK (ev1.storeK b2 l2) c3 l3) ((ev1.storeK b2 l2).storeK c3 l3)⟩⟩⟩

/-! ### x.pop(e), x[i] = e of the frame's own -/
theorem ee_popAt {n j : Nat} {s s1 : Slot} {x : Str} {p1 apos cpos : Pos} (hx : PE X (.Name x p1) (tVar n)) (h0 : Γ[n]? = some (some s)) (ho0 : isOw s = true) (ha : Ea X Γ [e] [.int i] Γ1) (h : Γ1[n]? = some (some s1)) (ho : isOw s1 = true) (h1 : -(2 ^ 63) ≤ i) (h2 : i < 2 ^ 63) (hj : seqIndex? i (slotDs s1).length = some j) (hd : (slotDs s1)[j]? = some d)
    (hbase : attributeBase (.Name x p1) "pop" X.env (eval (.Name x p1) X.env) = eval (.Name x p1) X.env := by rfl)
    (hfew : ((backTo cpos (starEach [e] X.env)).all (fun x => !x.1) && (backToKw cpos (keywordEach [] X.env)).all (fun x => x.1.isSome) && decide ([e].length + ([] : List Keyword).length + (if ([] : List Keyword).isEmpty then 0 else 1) < 30)) = true := by rfl)
    (hline : (apos.endLine == cpos.line) = true := by rfl) (hs : starEach [e] X.env = (false, eval e X.env) :: starEach [] X.env := by rfl) (hplain : (backTo cpos (starEach [] X.env)).any (·.1) = false := by rfl) :
    Ee X Γ (.Call (.Attribute (.Name x p1) "pop" apos) [e] [] cpos) d (Γ1.set n (some (reSlot ((slotDs s1).eraseIdx j) s1))) :=
  pe_imp (pe_bm PySem.F.plainAttrs_list PySem.F.slot_list_pop PySem.F.type_list_pop (fun pins s σ H x xs v us Q => mt_popAt pins s σ H x xs v us Q) hx ha hbase hfew hline hs hplain) fun σ H Q ⟨F, ev, xt, k⟩ => by
    obtain ⟨l0, xs0, a1, a2, a3, a4⟩ := own_get ev h0 ho0
    refine ⟨.ref l0, a1, .inl ⟨rfl, xs0, SqL.of a3⟩, F, ev, xt, fun vs F1 H1 g1 e1 dv => ?_⟩
    obtain ⟨z, rfl, dz⟩ := one_of dv
    cases dz
    obtain ⟨l, xs, b1, b2, b3, b4⟩ := own_get e1 h ho
    rw [a1] at b1
    cases b1
    obtain ⟨y, hy, dy⟩ := b4.get hd
    refine ⟨l0, xs, i, j, y, rfl, rfl, b3, h1, h2, by rw [b4.len]; exact hj, hy, ?_⟩
    exact k y F1 _ (g1.trans (Gr.change g1.fh e1 h ho a1)) (e1.change h ho a1 b4.erase) dy
theorem es_setIx {n j : Nat} {s s1 : Slot} {x : Str} {p1 ps : Pos} (hx : PE X (.Name x p1) (tVar n)) (he : Ee X Γ e d Γ1) (h0 : Γ1[n]? = some (some s)) (ho0 : isOw s = true) (hb : Ee X Γ1 b (.int i) Γ2) (h : Γ2[n]? = some (some s1)) (ho : isOw s1 = true) (hj : ixN (slotDs s1).length i = some j)
    (hq : ∀ v, assign (.Subscript (.Name x p1) b ps) X.env v = (do
      let ov ← holding [v] (eval (.Name x p1) X.env)
      let iv ← holding [v, ov] (eval b X.env)
      standAt ps
      holding [v, ov, iv] (setItem ov iv v)
      release [v, ov, iv] []) := by intro _; rfl)
    (hs : swapsWithSole [.Subscript (.Name x p1) b ps] e pos.line X.env = pure false := by rfl) (hw : swappedStores [.Subscript (.Name x p1) b ps] e X.env = pure none := by rfl) (h1 : (assignEach [.Subscript (.Name x p1) b ps] X.env).map (·.2) = [assign (.Subscript (.Name x p1) b ps) X.env] := by rfl) :
    Es X Γ (.Assign [.Subscript (.Name x p1) b ps] e pos) (.nx (Γ2.set n (some (reSlot ((slotDs s1).set j d) s1)))) :=
  ps_imp (ps_asg he (pg_sub hx hb set_list hq) hs hw h1) fun D σ H ⟨F, ev, xt, k⟩ => ⟨F, ev, xt, fun v F1 H1 g1 e1 dv => by
    obtain ⟨l0, xs0, a1, a2, a3, a4⟩ := own_get e1 h0 ho0
    refine ⟨.ref l0, a1, F1, e1, g1.fh, fun w F2 H2 g2 e2 dw => ?_⟩
    cases dw
    obtain ⟨l, xs, b1, b2, b3, b4⟩ := own_get e2 h ho
    rw [a1] at b1
    cases b1
    refine ⟨l0, xs, i, j, rfl, rfl, b3, by rw [b4.len]; exact hj, ?_⟩
    exact k σ F2 _ ((g1.trans g2).trans (Gr.change g2.fh e2 h ho a1)) (e2.change h ho a1 (b4.set (dv.up g2.ff)))⟩

/-! ### while -/
/-- what a loop's turn that leaves it is worth -/
def exitOut : Out → Option Out
  | .bk Γ => some (.nx Γ)
  | .rt d Γ => some (.rt d Γ)
  | _ => none
/-- a turn that goes on -/
def goesOn (o : Out) (Γ : Gm) : Prop := o = .nx Γ ∨ o = .ct Γ
theorem es_while {pos : Pos} (G G' : Nat → Gm) (ob : Nat → Out) (n : Nat) (t : Bool) (hp : PassesOwn (model X.prog X.w) X.A X.env X.xe) (hc : ∀ i, i < n → Et X (G i) c true (G' i)) (hb : ∀ i, i < n → Ess X (G' i) body (ob i) ∧ goesOn (ob i) (G (i + 1)))
    (hl : Et X (G n) c t (G' n)) (hlb : t = true → Ess X (G' n) body (ob n) ∧ exitOut (ob n) = some o) (ho : t = false → o = .nx (G' n)) : Es X (G 0) (.While c body [] pos) o := by
  have hcT : ∀ i, i ≤ n → Et X (G i) c (if i < n then true else t) (G' i) := fun i hi => by
    by_cases h : i < n
    · rw [if_pos h]; exact hc i h
    · have : i = n := by omega
      subst this
      rw [if_neg h]; exact hl
  have hcA : PT X c (fun σ H Q => ∃ i, i ≤ n ∧ tT X.K (G i) (if i < n then true else t) (G' i) σ H Q) := ⟨fun pins s σ H Q I ⟨i, hi, h⟩ => (hcT i hi).run pins s σ H Q I h⟩
  have hbA : PSs X body (fun D σ H => ∃ i, i ≤ n ∧ (i < n ∨ t = true) ∧ tS X.K (G' i) (ob i) D σ H) := ⟨fun pins s σ H D I ⟨i, hi, h1, h⟩ => by
    by_cases hlt : i < n
    · exact (hb i hlt).1.run pins s σ H D I h
    · have : i = n := by omega
      subst this
      exact (hlb (h1.resolve_left hlt)).1.run pins s σ H D I h⟩
  refine ps_imp (ps_while hp hcA hbA) fun D σ H ⟨F, ev, x, k⟩ => ?_
  refine ⟨fun m σ' H' => ∃ i, m = n - i ∧ i ≤ n ∧ ∃ F', EnvOk X.K F' H' σ' (G i) ∧ Gr F H (Own σ (G 0)) F' H' (Own σ' (G i)), ⟨n, 0, by omega, Nat.zero_le _, F, ev, Gr.refl x⟩, ?_⟩
  rintro m σ' H' ⟨i, rfl, hi, F', ev', g'⟩
  refine ⟨i, hi, F', ev', g'.fh, fun F1 H1 g1 e1 => ?_⟩
  have g := g'.trans g1
  by_cases hlt : i < n
  · rw [if_pos hlt]
    refine iteT ⟨fun σ2 H2 => ∃ F2, EnvOk X.K F2 H2 σ2 (G (i + 1)) ∧ Gr F H (Own σ (G 0)) F2 H2 (Own σ2 (G (i + 1))), fun σ2 H2 ⟨F2, e2, g2⟩ => ⟨n - (i + 1), by omega, i + 1, rfl, hlt, F2, e2, g2⟩, i, hi, .inl hlt, F1, e1, g1.fh, ?_⟩
    rcases (hb i hlt).2 with e | e <;> rw [e] <;> exact fun σ2 F2 H2 g2 e2 => ⟨F2, e2, g.trans g2⟩
  · have hin : i = n := by omega
    subst hin
    rw [if_neg hlt]
    cases t with
    | false =>
      refine iteF ?_
      have := ho rfl
      subst this
      exact k σ' F1 H1 g e1
    | true =>
      obtain ⟨_, hx⟩ := hlb rfl
      refine iteT ⟨fun _ _ => False, fun _ _ z => z.elim, i, hi, .inr rfl, F1, e1, g1.fh, ?_⟩
      cases hob : ob i with
      | nx Γ => rw [hob] at hx; cases hx
      | ct Γ => rw [hob] at hx; cases hx
      | bk Γ =>
        rw [hob] at hx; cases hx
        exact fun σ2 F2 H2 g2 e2 => k σ2 F2 H2 (g.trans g2) e2
      | rt d Γ =>
        rw [hob] at hx; cases hx
        exact fun v σ2 F2 H2 g2 e2 dv => k v σ2 F2 H2 (g.trans g2) e2 dv

/-! ### for -/
def WalkD (K : PySem.W.Frag) (J : It) (F : Hp) (ds : List PyData) : Prop := ∀ (i : Nat) (F2 H2 : Hp), Ext F F2 → Ext F2 H2 →
  (∀ d, ds[i]? = some d → J.go i H2 ∧ ∀ x H3, J.yld i H2 x H3 → ∃ F3, Ext F2 F3 ∧ Ext F3 H3 ∧ Ext H2 H3 ∧ (∀ a, F3 a ≠ none → F2 a ≠ none ∨ H2 a = none) ∧ Dd K F3 x d) ∧ (ds.length ≤ i → J.stop i H2)
def tIt (K : PySem.W.Frag) (Γ : Gm) (ds : List PyData) (Γ' : Gm) : TI := fun σ H R => ∃ F, EnvOk K F H σ Γ ∧ Ext F H ∧ ∀ J F' H', Gr F H (Own σ Γ) F' H' (Own σ Γ') → EnvOk K F' H' σ Γ' → WalkD K J F' ds → R J H'
def Ei (X : Cx) (Γ : Gm) (tg e : Expr) (ds : List PyData) (Γ' : Gm) : Prop := PI X tg e (tIt X.K Γ ds Γ')
theorem ei_list {tg : Expr} (h : Ee X Γ e (.list ds) Γ1) : Ei X Γ tg e ds Γ1 := pi_imp (pi_list h) fun σ H R ⟨F, ev, x, k⟩ => ⟨F, ev, x, fun v F1 H1 g1 e1 dv => by
  cases dv with
  | @lst a xs _ h1 h2 =>
    refine ⟨a, rfl, ⟨xs, SqL.of (g1.fh _ _ h1)⟩, k _ F1 H1 g1 e1 fun i F2 H2 x1 x2 => ⟨fun d hd => ?_, fun hle => ⟨xs, SqL.of (x2 _ _ (x1 _ _ h1)), by rw [h2.len]; exact hle⟩⟩⟩
    have hS : SqL X.K H2 a xs := SqL.of (x2 _ _ (x1 _ _ h1))
    obtain ⟨v, hv, dv⟩ := h2.get hd
    refine ⟨⟨xs, v, hS, hv⟩, fun y H3 ⟨e3, hy⟩ => ?_⟩
    subst e3
    have := hy xs hS
    rw [hv] at this; cases this
    exact ⟨F2, Ext.refl _, x2, Ext.refl _, fun a h => .inl h, dv.up x1⟩⟩
theorem ei_tup {tg : Expr} (h : Ee X Γ e (.tuple ds) Γ1) : Ei X Γ tg e ds Γ1 := pi_imp (pi_tup h) fun σ H R ⟨F, ev, x, k⟩ => ⟨F, ev, x, fun v F1 H1 g1 e1 dv => by
  cases dv with
  | @tup a ob xs _ h1 h0 h2 =>
    refine ⟨a, rfl, ⟨xs, .inl (.inr ⟨ob, g1.fh _ _ h1⟩)⟩, k _ F1 H1 g1 e1 fun i F2 H2 x1 x2 => ⟨fun d hd => ?_, fun hle => ⟨xs, .inl (.inr ⟨ob, x2 _ _ (x1 _ _ h1)⟩), by rw [h2.len]; exact hle⟩⟩⟩
    have hS : SqT X.K H2 a xs := .inl (.inr ⟨ob, x2 _ _ (x1 _ _ h1)⟩)
    obtain ⟨v, hv, dv⟩ := h2.get hd
    refine ⟨⟨xs, v, hS, hv⟩, fun y H3 ⟨e3, hy⟩ => ?_⟩
    subst e3
    have := hy xs hS
    rw [hv] at this; cases this
    exact ⟨F2, Ext.refl _, x2, Ext.refl _, fun a h => .inl h, dv.up x1⟩⟩
/-- the rngD lo, lo + 1, .., n of them -/
def rngD (lo : Int) (n : Nat) : List PyData := (List.range n).map fun i : Nat => PyData.int (lo + i)
theorem walk_rng {K : PySem.W.Frag} {F : Hp} (lo : Int) (n : Nat) : WalkD K (Itr lo n) F (rngD lo n) := fun i F2 H2 x1 x2 => by
  refine ⟨fun d hd => ?_, fun hle => by unfold rngD at hle; rw [List.length_map, List.length_range] at hle; exact hle⟩
  unfold rngD at hd
  rw [List.getElem?_map] at hd
  by_cases h : i < n
  · rw [List.getElem?_range h] at hd
    cases hd
    refine ⟨h, fun y H3 ⟨e3, hy⟩ => ?_⟩
    subst e3 hy
    exact ⟨F2, Ext.refl _, x2, Ext.refl _, fun a h => .inl h, .int _⟩
  · rw [List.getElem?_eq_none (by rw [List.length_range]; omega)] at hd; cases hd
theorem ei_range1 {tg : Expr} {p1 : Pos} (hm : X.mg "range" = none) (h : Ea X Γ [e] [.int i] Γ1) (h1 : -(2 ^ 62) ≤ i) (h2 : i < 2 ^ 62) (hg : Gl X "range" := by rfl) (hs : starEach [e] X.env = [(false, eval e X.env)] := by rfl) : Ei X Γ tg (.Call (.Name "range" p1) [e] [] pos) (rngD 0 i.toNat) Γ1 :=
  pi_imp (pi_range1 hg hm h hs) fun σ H R ⟨F, ev, x, k⟩ => ⟨F, ev, x, fun vs F1 H1 g1 e1 dv => by
    obtain ⟨v, e0, dv1⟩ := one_of dv
    cases dv1
    exact ⟨i, e0, h1, h2, k _ F1 H1 g1 e1 (walk_rng 0 _)⟩⟩
theorem ei_range2 {tg : Expr} {p1 : Pos} (hm : X.mg "range" = none) (h : Ea X Γ [a, b] [.int i, .int j] Γ1) (h1 : -(2 ^ 62) ≤ i ∧ i < 2 ^ 62 ∧ -(2 ^ 62) ≤ j ∧ j < 2 ^ 62) (hg : Gl X "range" := by rfl) (hs : starEach [a, b] X.env = [(false, eval a X.env), (false, eval b X.env)] := by rfl) (hs2 : starEach [b] X.env = [(false, eval b X.env)] := by rfl) :
    Ei X Γ tg (.Call (.Name "range" p1) [a, b] [] pos) (rngD i (j - i).toNat) Γ1 :=
  pi_imp (pi_range2 hg hm h hs hs2) fun σ H R ⟨F, ev, x, k⟩ => ⟨F, ev, x, fun vs F1 H1 g1 e1 dv => by
    obtain ⟨v, w, rfl, dv, dw⟩ := two_of dv
    cases dv; cases dw
    exact ⟨i, j, rfl, h1, k _ F1 H1 g1 e1 (walk_rng i _)⟩⟩
theorem es_for {tg iter : Expr} {pos : Pos} {is : List Nat} (G G' : Nat → Gm) (ob : Nat → Out) (n : Nat) (hp : PassesOwn (model X.prog X.w) X.A X.env X.xe) (hcm : X.calm = true) (hi : Ei X Γ tg iter ds (G 0)) (hn : n ≤ ds.length) (hg : ∀ i d, ds[i]? = some d → i ≤ n → Eg X (G i) tg d is (G' i))
    (hb : ∀ i, i < n → Ess X (G' i) body (ob i) ∧ goesOn (ob i) (G (i + 1))) (hend : (n = ds.length ∧ o = .nx (G n)) ∨ (n < ds.length ∧ Ess X (G' n) body (ob n) ∧ exitOut (ob n) = some o)) (hs : ∀ x, foldedSetIterable iter X.env x = pure x := by intro _; rfl) : Es X Γ (.For tg iter body [] pos) o := by
  have hgA : PG X tg (fun v σ H Q => ∃ i d, ds[i]? = some d ∧ i ≤ n ∧ tGt X.K (G i) d is (G' i) v σ H Q) := ⟨fun pins s σ H v u Q I r ⟨i, d, h1, h2, h⟩ => (hg i d h1 h2).run pins s σ H v u Q I r h⟩
  have hbA : PSs X body (fun D σ H => ∃ i, (i < n ∨ (i = n ∧ n < ds.length ∧ exitOut (ob n) = some o ∧ Ess X (G' n) body (ob n))) ∧ tS X.K (G' i) (ob i) D σ H) := ⟨fun pins s σ H D I ⟨i, h1, h⟩ => by
    rcases h1 with h1 | ⟨rfl, _, _, hE⟩
    · exact (hb i h1).1.run pins s σ H D I h
    · exact hE.run pins s σ H D I h⟩
  refine ps_imp (ps_for hp hcm hi hgA hbA hs) fun D σ H ⟨F, ev, x, k⟩ => ⟨F, ev, x, fun J F0 H0 g0 e0 hW => ?_⟩
  refine ⟨fun i m σ' H' => m = ds.length - i ∧ i ≤ n ∧ ∃ F', EnvOk X.K F' H' σ' (G i) ∧ Gr F0 H0 (Own σ (G 0)) F' H' (Own σ' (G i)), ⟨ds.length, by omega, Nat.zero_le _, F0, e0, Gr.refl g0.fh⟩, ?_⟩
  rintro i m σ' H' ⟨rfl, hin, F', ev', g'⟩
  have wk := hW i F' H' g'.ff g'.fh
  by_cases hlt : i < ds.length ∧ (i < n ∨ n < ds.length)
  · obtain ⟨hid, hor⟩ := hlt
    have hd : ds[i]? = some ds[i] := List.getElem?_eq_getElem hid
    obtain ⟨go, yl⟩ := wk.1 _ hd
    by_cases h1 : i < n
    · refine .inr ⟨go, fun σ2 H2 => ∃ F2, EnvOk X.K F2 H2 σ2 (G (i + 1)) ∧ Gr F0 H0 (Own σ (G 0)) F2 H2 (Own σ2 (G (i + 1))), fun σ2 H2 ⟨F2, e2, g2⟩ => ⟨ds.length - (i + 1), by omega, rfl, h1, F2, e2, g2⟩, fun y H3 hy => ?_⟩
      obtain ⟨F3, y1, y2, y3, y4, dy⟩ := yl y H3 hy
      have gy := g'.trans (Gr.ext y1 y2 y3 y4)
      refine ⟨i, _, hd, hin, F3, ev'.keep y1 y3 y4, y2, dy, fun σ4 F4 H4 g4 e4 _ => ⟨i, .inl h1, F4, e4, g4.fh, ?_⟩⟩
      rcases (hb i h1).2 with e | e <;> rw [e] <;> exact fun σ5 F5 H5 g5 e5 => ⟨F5, e5, (gy.trans g4).trans g5⟩
    · have hi' : i = n := by omega
      subst hi'
      rcases hend with ⟨z, _⟩ | ⟨z, hE, hx⟩
      · omega
      refine .inr ⟨go, fun _ _ => False, fun _ _ z => z.elim, fun y H3 hy => ?_⟩
      obtain ⟨F3, y1, y2, y3, y4, dy⟩ := yl y H3 hy
      have gy := g'.trans (Gr.ext y1 y2 y3 y4)
      refine ⟨i, _, hd, hin, F3, ev'.keep y1 y3 y4, y2, dy, fun σ4 F4 H4 g4 e4 _ => ⟨i, .inr ⟨rfl, z, hx, hE⟩, F4, e4, g4.fh, ?_⟩⟩
      have gz := g0.trans (gy.trans g4)
      cases hob : ob i with
      | nx Γ => rw [hob] at hx; cases hx
      | ct Γ => rw [hob] at hx; cases hx
      | bk Γ =>
        rw [hob] at hx; cases hx
        exact fun σ2 F2 H2 g2 e2 => k σ2 F2 H2 (gz.trans g2) e2
      | rt d Γ =>
        rw [hob] at hx; cases hx
        exact fun v σ2 F2 H2 g2 e2 dv => k v σ2 F2 H2 (gz.trans g2) e2 dv
  · have hi' : i = n ∧ n = ds.length := by omega
    obtain ⟨rfl, hnd⟩ := hi'
    rcases hend with ⟨_, ho⟩ | ⟨z, _⟩
    · subst ho
      exact .inl ⟨wk.2 (by omega), k σ' F' H' (g0.trans g') ev'⟩
    · omega
end
end DL
end

section
namespace DL
open PySem PySem.Spec PyProof.Rows L2

/-! ### comprehensions -/
def noV (Γ : Gm) (vs : List Nat) : Bool := vs.all fun i => match Γ[i]? with
  | some (some _) => false
  | _ => true
theorem noV_out {Γ : Gm} {vs : List Nat} (h : noV Γ vs = true) {i : Nat} {s : Slot} (hs : Γ[i]? = some (some s)) : i ∉ vs := fun hi => by
  have := List.all_eq_true.mp h i hi
  rw [hs] at this
  cases this
theorem agree_get {σ τ : L2.St} {vs : List Nat} (h : wipe σ vs = wipe τ vs) {i : Nat} (hi : i ∉ vs) : σ[i]? = τ[i]? := by
  have := congrArg (fun l : L2.St => l[i]?) h
  simp only [wipe_get, if_neg hi] at this
  exact this
theorem agree_len {σ τ : L2.St} {vs : List Nat} (h : wipe σ vs = wipe τ vs) : σ.length = τ.length := by
  have := congrArg List.length h
  rw [wipe_length, wipe_length] at this
  exact this
section
variable {K : PySem.W.Frag} {F H F' H' : Hp} {σ τ : L2.St} {Γ Γ' : Gm} {vs : List Nat}
/-- the slots outside vs tell all -/
theorem EnvOk.agree (e : EnvOk K F H σ Γ) (hv : noV Γ vs = true) (h : wipe σ vs = wipe τ vs) : EnvOk K F H τ Γ :=
  ⟨by rw [← agree_len h]; exact e.len, fun i s q => by rw [← agree_get h (noV_out hv q)]; exact e.ats i s q,
    fun i j s t l a b hs ht c d => e.sep i j s t l a b hs ht (by rw [agree_get h (noV_out hv a)]; exact c) (by rw [agree_get h (noV_out hv b)]; exact d)⟩
theorem own_agree (hv : noV Γ vs = true) (h : wipe σ vs = wipe τ vs) {a : Addr} (o : Own σ Γ a) : Own τ Γ a := by
  obtain ⟨i, s, q1, q2, q3⟩ := o
  exact ⟨i, s, q1, q2, by rw [← agree_get h (noV_out hv q1)]; exact q3⟩
theorem wipe_idem (σ : L2.St) (vs : List Nat) : wipe (wipe σ vs) vs = wipe σ vs := by
  apply List.ext_getElem?
  intro j
  rw [wipe_get, wipe_get]
  by_cases h : j ∈ vs
  · rw [if_pos h, if_pos h]; cases σ[j]? <;> rfl
  · rw [if_neg h, if_neg h]
theorem Gr.left {A B A' : Addr → Prop} (g : Gr F H A F' H' A') (h : ∀ a, A a → B a) : Gr F H B F' H' A' := ⟨g.ff, g.fh, fun a o q => (g.hh a o q).imp id (h a), fun a q => (g.nw a q).imp id fun z => z.imp id (h a), fun a q => (g.aa a q).imp (h a) id⟩
theorem Gr.right {A A' B' : Addr → Prop} (g : Gr F H A F' H' A') (h : ∀ a, B' a → A' a) : Gr F H A F' H' B' := ⟨g.ff, g.fh, g.hh, g.nw, fun a q => g.aa a (h a q)⟩
theorem Gr.mutNew {A A' : Addr → Prop} (g : Gr F H A F' H' A') {D : Addr} {o : HO} (h : H D = none) (hF : F' D = none) : Gr F H A F' (upd H' D o) A' :=
  ⟨g.ff, g.fh.mut hF, fun a u q => by
    rw [upd_ne (ne_of_none q h)]
    exact g.hh a u q, g.nw, g.aa⟩
theorem EnvOk.mutOther (e : EnvOk K F H σ Γ) {D : Addr} {o : HO} (h : ¬ Own σ Γ D) : EnvOk K F (upd H D o) σ Γ := by
  refine ⟨e.len, fun i s q => ?_, e.sep⟩
  obtain ⟨v, v1, v2⟩ := e.ats i s q
  refine ⟨v, v1, ?_⟩
  cases s with
  | im d => exact v2
  | ad u => exact v2
  | ow ds =>
    obtain ⟨l, xs, rfl, y1, y2, y3⟩ := v2
    have ne : l ≠ D := fun z => h ⟨i, _, q, rfl, by rw [← z]; exact v1⟩
    exact ⟨l, xs, rfl, y1, by rw [upd_ne ne]; exact y2, y3⟩
  | pr l ds =>
    obtain ⟨xs, rfl, y1, y2, y3⟩ := v2
    have ne : l ≠ D := fun z => h ⟨i, _, q, rfl, by rw [← z]; exact v1⟩
    exact ⟨xs, rfl, y1, by rw [upd_ne ne]; exact y2, y3⟩
theorem Gr.keepD {A A' : Addr → Prop} (g : Gr F H A F' H' A') {D : Addr} {o : HO} (h : H D = some o) (hF : F D = none) (ho : ¬ A D) : H' D = some o ∧ F' D = none := by
  refine ⟨(g.hh D o h).resolve_right ho, ?_⟩
  cases q : F' D with
  | none => rfl
  | some u =>
    rcases g.nw D (by rw [q]; exact Option.some_ne_none u) with z | z | z
    · exact absurd hF z
    · rw [h] at z; cases z
    · exact absurd z ho
end
def Less (Γ Γ' : Gm) : Prop := Γ'.length = Γ.length ∧ ∀ (i : Nat) (s : Slot), Γ[i]? = some (some s) → Γ'[i]? = some (some s)
theorem less_set {Γ : Gm} {n : Nat} {z : Option Slot} (h : noV Γ [n] = true) : Less Γ (Γ.set n z) := ⟨by rw [List.length_set], fun i s q => by
  rw [List.getElem?_set_ne (fun e => noV_out h q (by rw [← e]; simp))]; exact q⟩
theorem Less.trans {Γ Γ1 Γ2 : Gm} (a : Less Γ Γ1) (b : Less Γ1 Γ2) : Less Γ Γ2 := ⟨b.1.trans a.1, fun i s q => b.2 i s (a.2 i s q)⟩
theorem Less.own {Γ Γ' : Gm} (l : Less Γ Γ') {σ : L2.St} {a : Addr} (o : Own σ Γ a) : Own σ Γ' a := by
  obtain ⟨i, s, q1, q2, q3⟩ := o
  exact ⟨i, s, l.2 i s q1, q2, q3⟩
theorem Less.env {Γ Γ' : Gm} (l : Less Γ Γ') {K : PySem.W.Frag} {F H : Hp} {σ : L2.St} (e : EnvOk K F H σ Γ') : EnvOk K F H σ Γ := e.less l.1.symm l.2
def Ets (X : Cx) (Γ : Gm) (ifs : List Expr) (b : Bool) : Prop := PTs X ifs (tT X.K Γ b Γ)
section
variable {X : Cx} {Γ Γ1 Γ2 Γ3 : Gm} {a b c e : Expr} {es : List Expr} {d d1 d2 d3 : PyData} {ds ds2 es' : List PyData} {pos pp : Pos} {p q : Bool} {i j : Int}
theorem pts_imp {ifs : List Expr} {t t' : TT} (h : PTs X ifs t) (q : ∀ σ H Q, t' σ H Q → t σ H Q) : PTs X ifs t' := ⟨fun pins s σ H Q I hw => h.run pins s σ H Q I (q _ _ _ hw)⟩
theorem ets_nil : Ets X Γ [] true := pts_imp pts_nil fun σ H Q ⟨F, ev, x, k⟩ => k F H (Gr.refl x) ev
theorem ets_one (h : Et X Γ c p Γ) : Ets X Γ [c] p := pts_one h
variable {α : Type}
/-- the reading of a comprehension -/
theorem lc_read {xs : List α} {enc : α → PyData} {f : α → Bool} {h : α → PyData} {Γt : α → Gm} {vs is : List Nat} {g : TG} {tt : TT} {te : TE} {wi : TI} (hv : noV Γ1 vs = true) (hless : ∀ x, x ∈ xs → Less Γ1 (Γt x)) (his : ∀ i ∈ is, i ∈ vs) (hsz : xs.length ≤ 16777216)
    (hw : ∀ σ H R, tIt X.K Γ (xs.map enc) Γ1 σ H R → wi σ H R) (hg : ∀ x, x ∈ xs → ∀ v σ H Q, tGt X.K Γ1 (enc x) is (Γt x) v σ H Q → g v σ H Q) (ht : ∀ x, x ∈ xs → ∀ σ H Q, tT X.K (Γt x) (f x) (Γt x) σ H Q → tt σ H Q) (he : ∀ x, x ∈ xs → f x = true → ∀ σ H Q, tE X.K (Γt x) (h x) (Γt x) σ H Q → te σ H Q) :
    ∀ σ H Q, tN X.K Γ ((xs.filter f).map h) Γ1 σ H Q → tLc wi g tt te vs σ H Q := by
  intro σ H Q ⟨F, ev, x, k⟩
  refine hw σ H _ ⟨F, ev, x, fun J F1 H1 g1 e1 hW => fun D hD => ?_⟩
  have nD : ¬ Own σ Γ1 D := fun o => by
    obtain ⟨_, ys, z⟩ := e1.own_at o
    rw [hD] at z; cases z
  have ag : wipe (wipe σ vs) vs = wipe σ vs := wipe_idem σ vs
  refine ⟨fun i m H2 => m = xs.length - i ∧ i ≤ xs.length ∧ ∃ F2 acc, EnvOk X.K F2 H2 σ Γ1 ∧ Gr F1 H1 (Own σ Γ1) F2 H2 (Own σ Γ1) ∧ F2 D = none ∧ H2 D = some (.lst acc) ∧ DdA X.K F2 acc (((xs.take i).filter f).map h), ⟨xs.length, by omega, Nat.zero_le _, F1, [], e1.newH hD, Gr.newH g1.fh hD, g1.fh.free hD, upd_same, .nil⟩, ?_⟩
  rintro i m H2 ⟨rfl, hi, F2, acc, e2, g2, hF2, hH2, hd2⟩
  have wk := hW i F2 H2 g2.ff g2.fh
  by_cases hlt : i < xs.length
  · have hx : xs[i]? = some xs[i] := List.getElem?_eq_getElem hlt
    have hxm : xs[i] ∈ xs := List.getElem_mem hlt
    obtain ⟨go, yl⟩ := wk.1 (enc xs[i]) (by rw [List.getElem?_map, hx]; rfl)
    refine .inr ⟨go, fun H3 => ∃ F3 acc, EnvOk X.K F3 H3 σ Γ1 ∧ Gr F1 H1 (Own σ Γ1) F3 H3 (Own σ Γ1) ∧ F3 D = none ∧ H3 D = some (.lst acc) ∧ DdA X.K F3 acc (((xs.take (i + 1)).filter f).map h), fun H3 ⟨F3, acc, z⟩ => ⟨xs.length - (i + 1), by omega, rfl, hlt, F3, acc, z⟩, fun y H3 hy => ?_⟩
    obtain ⟨F3, y1, y2, y3, y4, dy⟩ := yl y H3 hy
    have e3 := e2.keep y1 y3 y4
    have g3 := g2.trans (Gr.ext (A := Own σ Γ1) y1 y2 y3 y4)
    have hD3 : H3 D = some (.lst acc) ∧ F3 D = none := (Gr.ext (A := Own σ Γ1) y1 y2 y3 y4).keepD hH2 hF2 nD
    refine hg xs[i] hxm y _ H3 _ ⟨F3, e3.agree hv ag.symm, y2, dy, fun σ4 F4 H4 g4 e4 w4 => ?_⟩
    have w4' := w4 vs his
    rw [ag] at w4'
    refine ⟨w4', ?_⟩
    have l4 := hless xs[i] hxm
    have g4' : Gr F3 H3 (Own σ Γ1) F4 H4 (Own σ4 (Γt xs[i])) := g4.left fun a o => own_agree hv ag o
    have back : ∀ a, Own σ Γ1 a → Own σ4 (Γt xs[i]) a := fun a o => l4.own (own_agree hv w4'.symm o)
    have nD4 : ¬ Own σ4 (Γt xs[i]) D := fun o => by
      rcases g4'.aa D o with z | z
      · exact nD z
      · rw [hD3.1] at z; cases z
    have hD4 := g4'.keepD hD3.1 hD3.2 nD
    refine ht xs[i] hxm σ4 H4 _ ⟨F4, e4, g4'.fh, fun F5 H5 g5 e5 => ?_⟩
    have hD5 := g5.keepD hD4.1 hD4.2 nD4
    have g5' := g4'.trans g5
    have htake : (xs.take (i + 1)).filter f = (xs.take i).filter f ++ (if f xs[i] = true then [xs[i]] else []) := by
      rw [List.take_add_one, hx, List.filter_append]
      congr 1
      show [xs[i]].filter f = _
      by_cases hf : f xs[i] = true
      · rw [if_pos hf, List.filter_cons_of_pos hf]; rfl
      · rw [if_neg hf, List.filter_cons_of_neg hf]; rfl
    cases hf : f xs[i] with
    | false =>
      refine iteF ⟨F5, acc, (l4.env e5).agree hv w4', (g3.trans g5').right back, hD5.2, hD5.1, ?_⟩
      rw [htake, hf]
      simp only [Bool.false_eq_true, if_false, List.append_nil]
      exact hd2.up (y1.trans g5'.ff)
    | true =>
      refine iteT (he xs[i] hxm hf σ4 H5 _ ⟨F5, e5, g5'.fh, fun v F6 H6 g6 e6 dv => ?_⟩)
      have hD6 := g6.keepD hD5.1 hD5.2 nD4
      have g6' := g5'.trans g6
      have hlen : acc.length < sizeLine := by
        rw [hd2.len, List.length_map, sizeLine_eq]
        have h1 : ((xs.take i).filter f).length ≤ (xs.take i).length := List.length_filter_le _ _
        rw [List.length_take] at h1
        omega
      refine ⟨acc, hD6.1, hlen, F6, acc ++ [v], ((l4.env e6).agree hv w4').mutOther nD, ((g3.trans g6').right back).mutNew hD hD6.2, hD6.2, upd_same, ?_⟩
      rw [htake, hf]
      simp only [if_true, List.map_append]
      exact (hd2.up (y1.trans g6'.ff)).app (.cons dv .nil)
  · have hie : i = xs.length := by omega
    subst hie
    refine .inl ⟨wk.2 (by rw [List.length_map]; exact Nat.le_refl _), ?_⟩
    rw [List.take_of_length_le (Nat.le_refl _)] at hd2
    exact k D acc F2 H2 (g1.trans g2) e2 hF2 (g1.free hD) hH2 nD hd2
theorem en_lc {elt tg iter : Expr} {ifs : List Expr} {scope : Scope} {own : List (Str × Nat)} (xs : List α) (enc : α → PyData) (f : α → Bool) (h : α → PyData) (Γt : α → Gm) (is : List Nat) (hc : X.calm = true) (hN : X.N.Nodup) (ok : BlkOk X.N X.env.scope scope own) (hv : noV Γ1 (own.map (·.2)) = true)
    (his : ∀ i ∈ is, i ∈ own.map (·.2)) (hsz : xs.length ≤ 16777216) (hless : ∀ x, x ∈ xs → Less Γ1 (Γt x)) (hi : Ei X Γ tg iter (xs.map enc) Γ1)
    (hg : ∀ x, x ∈ xs → ∀ (s : Shared) (H : Hp) (C : Addr) (cl : List (Str × Addr)) (fp : List Addr), Eg (X.blk s H scope (compEnvC scope cl C X.env) fp) Γ1 tg (enc x) is (Γt x))
    (ht : ∀ x, x ∈ xs → ∀ (s : Shared) (H : Hp) (C : Addr) (cl : List (Str × Addr)) (fp : List Addr), Ets (X.blk s H scope (compEnvC scope cl C X.env) fp) (Γt x) ifs (f x))
    (he : ∀ x, x ∈ xs → f x = true → ∀ (s : Shared) (H : Hp) (C : Addr) (cl : List (Str × Addr)) (fp : List Addr), Ee (X.blk s H scope (compEnvC scope cl C X.env) fp) (Γt x) elt (h x) (Γt x)) (hs : ∀ x, foldedSetIterable iter X.env x = pure x := by intro _; rfl) :
    En X Γ (.ListComp elt [⟨tg, iter, ifs, 0⟩] scope pos) ((xs.filter f).map h) Γ1 :=
  pe_imp (pe_lc (g := fun v σ H Q => ∃ x, x ∈ xs ∧ tGt X.K Γ1 (enc x) is (Γt x) v σ H Q) (tt := fun σ H Q => ∃ x, x ∈ xs ∧ tT X.K (Γt x) (f x) (Γt x) σ H Q) (te := fun σ H Q => ∃ x, x ∈ xs ∧ f x = true ∧ tE X.K (Γt x) (h x) (Γt x) σ H Q) hc hN hi ok
    (fun s H C cl fp => ⟨fun pins s' σ H' v u Q I r ⟨x, hx, hh⟩ => (hg x hx s H C cl fp).run pins s' σ H' v u Q I r hh⟩) (fun s H C cl fp => ⟨fun pins s' σ H' Q I ⟨x, hx, hh⟩ => (ht x hx s H C cl fp).run pins s' σ H' Q I hh⟩)
    (fun s H C cl fp => ⟨fun pins s' σ H' Q I ⟨x, hx, hf, hh⟩ => (he x hx hf s H C cl fp).run pins s' σ H' Q I hh⟩) hs)
    (lc_read hv hless his hsz (fun σ H R z => z) (fun x hx v σ H Q z => ⟨x, hx, z⟩) (fun x hx σ H Q z => ⟨x, hx, z⟩) (fun x hx hf σ H Q z => ⟨x, hx, hf, z⟩))
/-- y = [..], y a local: kept as the frame's own or as data -/
theorem es_setLc {elt tg iter : Expr} {ifs : List Expr} {scope : Scope} {own : List (Str × Nat)} (n : Nat) {y : Str} {py spos : Pos} (xs : List α) (enc : α → PyData) (f : α → Bool) (h : α → PyData) (Γt : α → Gm) (is : List Nat) (hc : X.calm = true) (hN : X.N.Nodup) (ok : BlkOk X.N X.env.scope scope own) (hv : noV Γ1 (own.map (·.2)) = true)
    (his : ∀ i ∈ is, i ∈ own.map (·.2)) (hsz : xs.length ≤ 16777216) (hless : ∀ x, x ∈ xs → Less Γ1 (Γt x)) (hi : Ei X Γ tg iter (xs.map enc) Γ1)
    (hg : ∀ x, x ∈ xs → ∀ (s : Shared) (H : Hp) (C : Addr) (cl : List (Str × Addr)) (fp : List Addr), Eg (X.blk s H scope (compEnvC scope cl C X.env) fp) Γ1 tg (enc x) is (Γt x))
    (ht : ∀ x, x ∈ xs → ∀ (s : Shared) (H : Hp) (C : Addr) (cl : List (Str × Addr)) (fp : List Addr), Ets (X.blk s H scope (compEnvC scope cl C X.env) fp) (Γt x) ifs (f x))
    (he : ∀ x, x ∈ xs → f x = true → ∀ (s : Shared) (H : Hp) (C : Addr) (cl : List (Str × Addr)) (fp : List Addr), Ee (X.blk s H scope (compEnvC scope cl C X.env) fp) (Γt x) elt (h x) (Γt x))
    (hy : X.N[n]? = some y := by rfl) (hyl : X.env.scope.names.lookup y = some .local := by rfl) (hl : Γ1[n]?.isSome = true := by rfl) (hsw : swapsWith (.ListComp elt [⟨tg, iter, ifs, 0⟩] scope pos) (some (.Name y py)) spos.line X.env = pure true := by exact sw_true rfl rfl rfl (by decide +kernel)) (hs : ∀ x, foldedSetIterable iter X.env x = pure x := by intro _; rfl) :
    Es X Γ (.Assign [.Name y py] (.ListComp elt [⟨tg, iter, ifs, 0⟩] scope pos) spos) (.nx (Γ1.set n (some (.ow ((xs.filter f).map h))))) :=
  ps_imp (ps_setLc (g := fun v σ H Q => ∃ x, x ∈ xs ∧ tGt X.K Γ1 (enc x) is (Γt x) v σ H Q) (tt := fun σ H Q => ∃ x, x ∈ xs ∧ tT X.K (Γt x) (f x) (Γt x) σ H Q) (te := fun σ H Q => ∃ x, x ∈ xs ∧ f x = true ∧ tE X.K (Γt x) (h x) (Γt x) σ H Q) hc hN hy hyl hsw hi ok
    (fun s H C cl fp => ⟨fun pins s' σ H' v u Q I r ⟨x, hx, hh⟩ => (hg x hx s H C cl fp).run pins s' σ H' v u Q I r hh⟩) (fun s H C cl fp => ⟨fun pins s' σ H' Q I ⟨x, hx, hh⟩ => (ht x hx s H C cl fp).run pins s' σ H' Q I hh⟩)
    (fun s H C cl fp => ⟨fun pins s' σ H' Q I ⟨x, hx, hf, hh⟩ => (he x hx hf s H C cl fp).run pins s' σ H' Q I hh⟩) hs) fun D σ H ⟨F, ev, x, kk⟩ =>
    lc_read hv hless his hsz (fun σ H R z => z) (fun x hx v σ H Q z => ⟨x, hx, z⟩) (fun x hx σ H Q z => ⟨x, hx, z⟩) (fun x hx hf σ H Q z => ⟨x, hx, hf, z⟩) σ H _ ⟨F, ev, x, fun l ys F1 H1 g1 e1 hF hH hl' ho dv => by
      have hk : KdOk X.K H (Own σ Γ) F1 H1 (Own σ Γ1) (.ref l) (.n ((xs.filter f).map h)) := ⟨l, ys, rfl, hF, hl', ho, dv, hH⟩
      exact kk _ F1 H1 (g1.storeK e1 hk (some_lt hl)) (e1.storeK hk (some_lt hl))⟩
end
end DL
end

section
namespace DL
open PySem PySem.Spec PyProof.Rows L2
section
variable {X : Cx} {Γ Γ1 Γ2 Γ3 : Gm} {a b c e : Expr} {es : List Expr} {d d1 d2 d3 : PyData} {ds ds2 es' : List PyData} {pos pp : Pos} {p q : Bool} {i j : Int}
variable {α β : Type}
theorem take_flat {xs : List α} {i : Nat} (hlt : i < xs.length) (g : α → List PyData) : (xs.take (i + 1)).flatMap g = (xs.take i).flatMap g ++ g xs[i] := by
  rw [List.take_add_one, List.getElem?_eq_getElem hlt, List.flatMap_append]
  simp
/-- the reading of a comprehension of two clauses, without tests -/
theorem lc2_read {xs : List α} {enc : α → PyData} {ys : α → List β} {enc1 : α → β → PyData} {h : α → β → PyData} {Γt : α → Gm} {Γu : α → β → Gm} {vs vs1 is is1 : List Nat} {g g1 : TG} {te : TE} {wi wi1 : TI} (hv : noV Γ1 vs = true) (hv1 : ∀ x, x ∈ xs → noV (Γt x) vs1 = true) (hless : ∀ x, x ∈ xs → Less Γ1 (Γt x)) (hless1 : ∀ x, x ∈ xs → ∀ y, y ∈ ys x → Less (Γt x) (Γu x y))
    (his : ∀ i ∈ is, i ∈ vs) (his1 : ∀ i ∈ is1, i ∈ vs1) (hvs : ∀ i ∈ vs1, i ∈ vs) (hsz : (xs.flatMap ys).length ≤ 16777216)
    (hw : ∀ σ H R, tIt X.K Γ (xs.map enc) Γ1 σ H R → wi σ H R) (hg : ∀ x, x ∈ xs → ∀ v σ H Q, tGt X.K Γ1 (enc x) is (Γt x) v σ H Q → g v σ H Q)
    (hw1 : ∀ x, x ∈ xs → ∀ σ H R, tIt X.K (Γt x) ((ys x).map (enc1 x)) (Γt x) σ H R → wi1 σ H R) (hg1 : ∀ x, x ∈ xs → ∀ y, y ∈ ys x → ∀ v σ H Q, tGt X.K (Γt x) (enc1 x y) is1 (Γu x y) v σ H Q → g1 v σ H Q)
    (he : ∀ x, x ∈ xs → ∀ y, y ∈ ys x → ∀ σ H Q, tE X.K (Γu x y) (h x y) (Γu x y) σ H Q → te σ H Q) :
    ∀ σ H Q, tN X.K Γ (xs.flatMap fun x => (ys x).map (h x)) Γ1 σ H Q → tLc2 wi g tYes wi1 g1 tYes te vs vs1 σ H Q := by
  intro σ H Q ⟨F, ev, x, k⟩
  refine hw σ H _ ⟨F, ev, x, fun J F1 H1 g1' e1 hW => fun D hD => ?_⟩
  have nD : ¬ Own σ Γ1 D := fun o => by
    obtain ⟨_, ys, z⟩ := e1.own_at o
    rw [hD] at z; cases z
  have ag : wipe (wipe σ vs) vs = wipe σ vs := wipe_idem σ vs
  refine ⟨fun i m H2 => m = xs.length - i ∧ i ≤ xs.length ∧ ∃ F2 acc, EnvOk X.K F2 H2 σ Γ1 ∧ Gr F1 H1 (Own σ Γ1) F2 H2 (Own σ Γ1) ∧ F2 D = none ∧ H2 D = some (.lst acc) ∧ DdA X.K F2 acc ((xs.take i).flatMap fun x => (ys x).map (h x)), ⟨xs.length, by omega, Nat.zero_le _, F1, [], e1.newH hD, Gr.newH g1'.fh hD, g1'.fh.free hD, upd_same, .nil⟩, ?_⟩
  rintro i m H2 ⟨rfl, hi, F2, acc, e2, g2, hF2, hH2, hd2⟩
  have wk := hW i F2 H2 g2.ff g2.fh
  by_cases hlt : i < xs.length
  · have hx : xs[i]? = some xs[i] := List.getElem?_eq_getElem hlt
    have hxm : xs[i] ∈ xs := List.getElem_mem hlt
    obtain ⟨go, yl⟩ := wk.1 (enc xs[i]) (by rw [List.getElem?_map, hx]; rfl)
    refine .inr ⟨go, fun H3 => ∃ F3 acc, EnvOk X.K F3 H3 σ Γ1 ∧ Gr F1 H1 (Own σ Γ1) F3 H3 (Own σ Γ1) ∧ F3 D = none ∧ H3 D = some (.lst acc) ∧ DdA X.K F3 acc ((xs.take (i + 1)).flatMap fun x => (ys x).map (h x)), fun H3 ⟨F3, acc, z⟩ => ⟨xs.length - (i + 1), by omega, rfl, hlt, F3, acc, z⟩, fun y H3 hy => ?_⟩
    obtain ⟨F3, y1, y2, y3, y4, dy⟩ := yl y H3 hy
    have e3 := e2.keep y1 y3 y4
    have g3 := g2.trans (Gr.ext (A := Own σ Γ1) y1 y2 y3 y4)
    have hD3 : H3 D = some (.lst acc) ∧ F3 D = none := (Gr.ext (A := Own σ Γ1) y1 y2 y3 y4).keepD hH2 hF2 nD
    refine hg xs[i] hxm y _ H3 _ ⟨F3, e3.agree hv ag.symm, y2, dy, fun σ4 F4 H4 g4 e4 w4 => ?_⟩
    have w4' := w4 vs his
    rw [ag] at w4'
    refine ⟨w4', ?_⟩
    unfold tYes
    refine iteT ?_
    have l4 := hless xs[i] hxm
    have g4' : Gr F3 H3 (Own σ Γ1) F4 H4 (Own σ4 (Γt xs[i])) := g4.left fun a o => own_agree hv ag o
    have back : ∀ a, Own σ Γ1 a → Own σ4 (Γt xs[i]) a := fun a o => l4.own (own_agree hv w4'.symm o)
    have nD4 : ¬ Own σ4 (Γt xs[i]) D := fun o => by
      rcases g4'.aa D o with z | z
      · exact nD z
      · rw [hD3.1] at z; cases z
    have hD4 := g4'.keepD hD3.1 hD3.2 nD
    -- the second walk
    refine hw1 xs[i] hxm σ4 H4 _ ⟨F4, e4, g4'.fh, fun J1 F5 H5 g5 e5 hW1 => ?_⟩
    have hD5 := g5.keepD hD4.1 hD4.2 nD4
    have gA := g3.trans (g4'.trans g5)
    have ag1 : wipe (wipe σ4 vs1) vs1 = wipe σ4 vs1 := wipe_idem σ4 vs1
    refine ⟨fun j m H6 => m = (ys xs[i]).length - j ∧ j ≤ (ys xs[i]).length ∧ ∃ F6 acc6, EnvOk X.K F6 H6 σ4 (Γt xs[i]) ∧ Gr F1 H1 (Own σ Γ1) F6 H6 (Own σ4 (Γt xs[i])) ∧ Ext F5 F6 ∧ F6 D = none ∧ H6 D = some (.lst acc6) ∧ DdA X.K F6 acc6 (((xs.take i).flatMap fun x => (ys x).map (h x)) ++ ((ys xs[i]).take j).map (h xs[i])),
      ⟨(ys xs[i]).length, by omega, Nat.zero_le _, F5, acc, e5, gA, Ext.refl _, hD5.2, hD5.1, ?_⟩, ?_⟩
    · simpa using hd2.up ((y1.trans g4'.ff).trans g5.ff)
    rintro j m H6 ⟨rfl, hj, F6, acc6, e6, g6, x56, hF6, hH6, hd6⟩
    have wk1 := hW1 j F6 H6 x56 g6.fh
    by_cases hjt : j < (ys xs[i]).length
    · have hyj : (ys xs[i])[j]? = some (ys xs[i])[j] := List.getElem?_eq_getElem hjt
      have hym : (ys xs[i])[j] ∈ ys xs[i] := List.getElem_mem hjt
      obtain ⟨go1, yl1⟩ := wk1.1 (enc1 xs[i] (ys xs[i])[j]) (by rw [List.getElem?_map, hyj]; rfl)
      refine .inr ⟨go1, fun H7 => ∃ F6 acc6, EnvOk X.K F6 H7 σ4 (Γt xs[i]) ∧ Gr F1 H1 (Own σ Γ1) F6 H7 (Own σ4 (Γt xs[i])) ∧ Ext F5 F6 ∧ F6 D = none ∧ H7 D = some (.lst acc6) ∧ DdA X.K F6 acc6 (((xs.take i).flatMap fun x => (ys x).map (h x)) ++ ((ys xs[i]).take (j + 1)).map (h xs[i])), fun H7 ⟨F7, acc7, z⟩ => ⟨(ys xs[i]).length - (j + 1), by omega, rfl, hjt, F7, acc7, z⟩, fun y7 H7 hy7 => ?_⟩
      obtain ⟨F7, z1, z2, z3, z4, dz⟩ := yl1 y7 H7 hy7
      have e7 := e6.keep z1 z3 z4
      have g7 := g6.trans (Gr.ext (A := Own σ4 (Γt xs[i])) z1 z2 z3 z4)
      have hD7 : H7 D = some (.lst acc6) ∧ F7 D = none := (Gr.ext (A := Own σ4 (Γt xs[i])) z1 z2 z3 z4).keepD hH6 hF6 nD4
      refine hg1 xs[i] hxm _ hym y7 _ H7 _ ⟨F7, e7.agree (hv1 xs[i] hxm) ag1.symm, z2, dz, fun σ8 F8 H8 g8 e8 w8 => ?_⟩
      have w8' := w8 vs1 his1
      rw [ag1] at w8'
      refine ⟨w8', ?_⟩
      skip
      refine iteT ?_
      have l8 := hless1 xs[i] hxm _ hym
      have g8' : Gr F7 H7 (Own σ4 (Γt xs[i])) F8 H8 (Own σ8 (Γu xs[i] (ys xs[i])[j])) := g8.left fun a o => own_agree (hv1 xs[i] hxm) ag1 o
      have back1 : ∀ a, Own σ4 (Γt xs[i]) a → Own σ8 (Γu xs[i] (ys xs[i])[j]) a := fun a o => l8.own (own_agree (hv1 xs[i] hxm) w8'.symm o)
      have nD8 : ¬ Own σ8 (Γu xs[i] (ys xs[i])[j]) D := fun o => by
        rcases g8'.aa D o with z | z
        · exact nD4 z
        · rw [hD7.1] at z; cases z
      have hD8 := g8'.keepD hD7.1 hD7.2 nD4
      refine he xs[i] hxm _ hym σ8 H8 _ ⟨F8, e8, g8'.fh, fun v F9 H9 g9 e9 dv => ?_⟩
      have hD9 := g9.keepD hD8.1 hD8.2 nD8
      have g9' := g8'.trans g9
      have hlen : acc6.length < sizeLine := by
        rw [hd6.len, sizeLine_eq]
        have h1 : (((xs.take i).flatMap fun x => (ys x).map (h x)) ++ ((ys xs[i]).take j).map (h xs[i])).length < (xs.flatMap ys).length := by
          have h2 : ((xs.take (i + 1)).flatMap ys).length ≤ (xs.flatMap ys).length := by
            conv => rhs; rw [← List.take_append_drop (i + 1) xs, List.flatMap_append]
            rw [List.length_append]; omega
          have h3 : ((xs.take (i + 1)).flatMap ys).length = ((xs.take i).flatMap ys).length + (ys xs[i]).length := by
            rw [List.take_add_one, hx, List.flatMap_append, List.length_append]; simp
          have h4 : ((xs.take i).flatMap fun x => (ys x).map (h x)).length = ((xs.take i).flatMap ys).length := by
            rw [List.length_flatMap, List.length_flatMap]; simp
          rw [List.length_append, List.length_map, List.length_take, h4]
          omega
        omega
      refine ⟨acc6, hD9.1, hlen, F9, acc6 ++ [v], ((l8.env e9).agree (hv1 xs[i] hxm) w8').mutOther nD4, ((g7.trans g9').right back1).mutNew hD hD9.2, (x56.trans z1).trans g9'.ff, hD9.2, upd_same, ?_⟩
      rw [List.take_add_one, hyj, List.map_append, ← List.append_assoc]
      exact (hd6.up (z1.trans g9'.ff)).app (.cons dv .nil)
    · have hje : j = (ys xs[i]).length := by omega
      subst hje
      refine .inl ⟨wk1.2 (by rw [List.length_map]; exact Nat.le_refl _), F6, acc6, (l4.env e6).agree hv w4', g6.right back, hF6, hH6, ?_⟩
      rw [List.take_of_length_le (Nat.le_refl _)] at hd6
      rw [take_flat hlt]
      exact hd6
  · have hie : i = xs.length := by omega
    subst hie
    refine .inl ⟨wk.2 (by rw [List.length_map]; exact Nat.le_refl _), ?_⟩
    rw [List.take_of_length_le (Nat.le_refl _)] at hd2
    exact k D acc F2 H2 (g1'.trans g2) e2 hF2 (g1'.free hD) hH2 nD hd2
theorem en_lc2 {elt tg iter tg1 iter1 : Expr} {scope : Scope} {own : List (Str × Nat)} {vs1 : List Nat} (xs : List α) (enc : α → PyData) (ys : α → List β) (enc1 : α → β → PyData) (h : α → β → PyData) (Γt : α → Gm) (Γu : α → β → Gm) (is is1 : List Nat) (hc : X.calm = true) (hN : X.N.Nodup) (ok : BlkOk X.N X.env.scope scope own) (hvs : ∀ i ∈ vs1, i ∈ own.map (·.2)) (hv : noV Γ1 (own.map (·.2)) = true)
    (hv1 : ∀ x, x ∈ xs → noV (Γt x) vs1 = true) (his : ∀ i ∈ is, i ∈ own.map (·.2)) (his1 : ∀ i ∈ is1, i ∈ vs1) (hsz : (xs.flatMap ys).length ≤ 16777216) (hless : ∀ x, x ∈ xs → Less Γ1 (Γt x)) (hless1 : ∀ x, x ∈ xs → ∀ y, y ∈ ys x → Less (Γt x) (Γu x y)) (hi : Ei X Γ tg iter (xs.map enc) Γ1)
    (hg : ∀ x, x ∈ xs → ∀ (s : Shared) (H : Hp) (C : Addr) (cl : List (Str × Addr)) (fp : List Addr), Eg (X.blk s H scope (compEnvC scope cl C X.env) fp) Γ1 tg (enc x) is (Γt x))
    (hi1 : ∀ x, x ∈ xs → ∀ (s : Shared) (H : Hp) (C : Addr) (cl : List (Str × Addr)) (fp : List Addr), Ei (X.blk s H scope (compEnvC scope cl C X.env) fp) (Γt x) tg1 iter1 ((ys x).map (enc1 x)) (Γt x))
    (hg1 : ∀ x, x ∈ xs → ∀ y, y ∈ ys x → ∀ (s : Shared) (H : Hp) (C : Addr) (cl : List (Str × Addr)) (fp : List Addr), Eg (X.blk s H scope (compEnvC scope cl C X.env) fp) (Γt x) tg1 (enc1 x y) is1 (Γu x y))
    (he : ∀ x, x ∈ xs → ∀ y, y ∈ ys x → ∀ (s : Shared) (H : Hp) (C : Addr) (cl : List (Str × Addr)) (fp : List Addr), Ee (X.blk s H scope (compEnvC scope cl C X.env) fp) (Γu x y) elt (h x y) (Γu x y))
    (hs : ∀ x, foldedSetIterable iter X.env x = pure x := by intro _; rfl) (hs1 : ∀ env x, foldedSetIterable iter1 env x = pure x := by intro _ _; rfl) :
    En X Γ (.ListComp elt [⟨tg, iter, [], 0⟩, ⟨tg1, iter1, [], 0⟩] scope pos) (xs.flatMap fun x => (ys x).map (h x)) Γ1 :=
  pe_imp (pe_lc2 (g := fun v σ H Q => ∃ x, x ∈ xs ∧ tGt X.K Γ1 (enc x) is (Γt x) v σ H Q) (wi1 := fun σ H R => ∃ x, x ∈ xs ∧ tIt X.K (Γt x) ((ys x).map (enc1 x)) (Γt x) σ H R) (g1 := fun v σ H Q => ∃ x y, x ∈ xs ∧ y ∈ ys x ∧ tGt X.K (Γt x) (enc1 x y) is1 (Γu x y) v σ H Q) (te := fun σ H Q => ∃ x y, x ∈ xs ∧ y ∈ ys x ∧ tE X.K (Γu x y) (h x y) (Γu x y) σ H Q) hc hN hi ok hvs
    (fun s H C cl fp => ⟨fun pins s' σ H' v u Q I r ⟨x, hx, hh⟩ => (hg x hx s H C cl fp).run pins s' σ H' v u Q I r hh⟩) (fun s H C cl fp => pts_nil) (fun s H C cl fp => ⟨fun pins s' σ H' R I ⟨x, hx, hh⟩ => (hi1 x hx s H C cl fp).run pins s' σ H' R I hh⟩)
    (fun s H C cl fp => ⟨fun pins s' σ H' v u Q I r ⟨x, y, hx, hy, hh⟩ => (hg1 x hx y hy s H C cl fp).run pins s' σ H' v u Q I r hh⟩) (fun s H C cl fp => pts_nil)
    (fun s H C cl fp => ⟨fun pins s' σ H' Q I ⟨x, y, hx, hy, hh⟩ => (he x hx y hy s H C cl fp).run pins s' σ H' Q I hh⟩) hs hs1)
    (lc2_read hv hv1 hless hless1 his his1 hvs hsz (fun σ H R z => z) (fun x hx v σ H Q z => ⟨x, hx, z⟩) (fun x hx σ H R z => ⟨x, hx, z⟩) (fun x hx y hy v σ H Q z => ⟨x, y, hx, hy, z⟩) (fun x hx y hy σ H Q z => ⟨x, y, hx, hy, z⟩))
end

/-! ### what a def promises -/
/-- a def of data -/
def spD (K : PySem.W.Frag) (R : List PyData → PyData → Prop) : Sp := fun vs H Q _ => ∃ (F : Hp) (ds : List PyData) (d : PyData), Ext F H ∧ DdA K F vs ds ∧ R ds d ∧
  ∀ v F' H', Ext F F' → Ext F' H' → Ext H H' → (∀ a, F' a ≠ none → F a ≠ none ∨ H a = none) → Dd K F' v d → Q v H'
/-- a def whose first argument is a list that it may change, the others data -/
def spR (K : PySem.W.Frag) (R : List PyData → List PyData → PyData → List PyData → Prop) : Sp := fun vs H Q _ => ∃ (F : Hp) (r : Addr) (xs : List V) (row : List PyData) (ws : List V) (ds : List PyData) (d : PyData) (row' : List PyData),
  vs = .ref r :: ws ∧ Ext F H ∧ F r = none ∧ H r = some (.lst xs) ∧ DdA K F xs row ∧ DdA K F ws ds ∧ R row ds d row' ∧
  ∀ v F' H' xs', Ext F F' → Ext F' H' → (∀ a o, a ≠ r → H a = some o → H' a = some o) → (∀ a, F' a ≠ none → F a ≠ none ∨ H a = none) → H' r = some (.lst xs') → DdA K F' xs' row' → Dd K F' v d → Q v H'
def slots0 (N : List Str) (ds : List PyData) : Gm := ds.map (fun d => some (.im d)) ++ List.replicate (N.length - ds.length) none
def slotsR (N : List Str) (r : Addr) (row ds : List PyData) : Gm := some (.pr r row) :: (ds.map (fun d => some (.im d)) ++ List.replicate (N.length - ds.length - 1) none)
/-- how a def's block ends with the value d -/
def endsWith (o : Out) (d : PyData) : Prop := (∃ Γ', o = .rt d Γ') ∨ (d = .none ∧ ∃ Γ', o = .nx Γ')
theorem env_args {K : PySem.W.Frag} {F H : Hp} : ∀ {vs : List V} {ds : List PyData}, DdA K F vs ds → ∀ (i : Nat) (s : Slot), (ds.map fun d => some (Slot.im d))[i]? = some (some s) → ∃ v, (vs.map some)[i]? = some (some v) ∧ SlotOk K F H v s
  | _, [], h, i, s, q => by simp at q
  | _, d :: ds, h, 0, s, q => by
    cases h with
    | cons h1 h2 =>
      cases q
      exact ⟨_, rfl, h1⟩
  | _, d :: ds, h, i + 1, s, q => by
    cases h with
    | cons h1 h2 => exact env_args h2 i s q
theorem slots_im {N : List Str} {ds : List PyData} {i : Nat} {s : Slot} (h : (slots0 N ds)[i]? = some (some s)) : (ds.map fun d => some (Slot.im d))[i]? = some (some s) := by
  unfold slots0 at h
  by_cases hi : i < ds.length
  · rw [List.getElem?_append_left (by simpa using hi)] at h; exact h
  · rw [List.getElem?_append_right (by simpa using hi), List.getElem?_replicate] at h
    split at h <;> cases h
theorem im_of {ds : List PyData} {i : Nat} {s : Slot} (h : (ds.map fun d => some (Slot.im d))[i]? = some (some s)) : isOw s = false := by
  rw [List.getElem?_map] at h
  cases e : ds[i]? with
  | none => rw [e] at h; cases h
  | some d => rw [e] at h; cases h; rfl
theorem env_start {K : PySem.W.Frag} {F H : Hp} {N : List Str} {vs : List V} {ds : List PyData} (h : DdA K F vs ds) (hl : ds.length ≤ N.length) : EnvOk K F H (L2.start N vs) (slots0 N ds) := by
  refine ⟨?_, fun i s q => ?_, fun i j s t l a b hs ht _ _ => ?_⟩
  · unfold L2.start slots0
    rw [List.length_append, List.length_append, List.length_map, List.length_map, List.length_replicate, List.length_replicate, h.len]
  · obtain ⟨v, v1, v2⟩ := env_args (H := H) h i s (slots_im q)
    refine ⟨v, ?_, v2⟩
    unfold L2.start
    rw [List.getElem?_append_left (List.getElem?_eq_some_iff.mp v1).1]
    exact v1
  · rw [im_of (slots_im a)] at hs; cases hs
theorem own_start {N : List Str} {vs : List V} {ds : List PyData} {a : Addr} (h : Own (L2.start N vs) (slots0 N ds) a) : False := by
  obtain ⟨i, s, q1, q2, _⟩ := h
  rw [im_of (slots_im q1)] at q2; cases q2
section
variable {P : Program} {w : World} {K : PySem.W.Frag} {mg : Str → Option Value} {base : Heap}
/-- THE RULE for a def of data -/
theorem ok_D {x qual : Str} {st : Stmt} {f : Addr} {fd : FuncData} {N ps : List Str} {k : Nat} {R : List PyData → PyData → Prop} (F : Fun K x qual st f fd) (S : FnScope N ps (defScope st)) (hlen : ∀ ds d, R ds d → ds.length = ps.length)
    (hbody : ∀ (cdv : Value) (A : Around) (outer : List Env) (s : Shared) (H : Hp) (E : XK) (ds : List PyData) (d : PyData), Room k (A.deeper (envOfC qual (defScope st) s.heap.objs.size f cdv)) → R ds d →
      ∃ o, Ess (cxOf CX0 P w K mg base N qual (defScope st) f cdv A outer s H E).nox (slots0 N ds) (defBody st) o ∧ endsWith o d) : FnOk P w K mg base CX0 (k + 1) f fd ps (spD K R) := by
  have hpl : ps.length ≤ N.length := by have := congrArg List.length S.pre; rw [List.length_take] at this; omega
  refine F.ok S (fun vs H Q E h => ?_) (fun cdv A outer s H vs Q E hr h => ?_)
  · obtain ⟨F, ds, d, _, hA, hR, _⟩ := h
    rw [hA.len]; exact hlen ds d hR
  · obtain ⟨F, ds, d, xt, hA, hR, q⟩ := h
    obtain ⟨o, ho, he⟩ := hbody cdv A outer s H E ds d hr hR
    refine ⟨_, ho, F, env_start hA (by rw [hlen ds d hR]; exact hpl), xt, ?_⟩
    have fin : ∀ (v : V) (σ' : L2.St) (F' H' : Hp) (Γ' : Gm), Gr F H (Own (L2.start N vs) (slots0 N ds)) F' H' (Own σ' Γ') → Dd K F' v d → Q v H' := fun v σ' F' H' Γ' g dv =>
      q v F' H' g.ff g.fh (fun a o' h => (g.hh a o' h).resolve_right fun z => own_start z) (fun a h => (g.nw a h).imp id fun z => z.resolve_right fun z => own_start z) dv
    rcases he with ⟨Γ', rfl⟩ | ⟨rfl, Γ', rfl⟩
    · exact fun v σ' F' H' g e dv => fin v σ' F' H' Γ' g dv
    · exact fun σ' F' H' g e => fin .non σ' F' H' Γ' g .non
theorem env_startR {F H : Hp} {N : List Str} {r : Addr} {xs ws : List V} {row ds : List PyData} (hr : F r = none) (hH : H r = some (.lst xs)) (hx : DdA K F xs row) (h : DdA K F ws ds) : EnvOk K F H (L2.start N (.ref r :: ws)) (slotsR N r row ds) := by
  have low : ∀ (i : Nat) (s : Slot), (slotsR N r row ds)[i + 1]? = some (some s) → (ds.map fun d => some (Slot.im d))[i]? = some (some s) := fun i s q => by
    unfold slotsR at q
    rw [List.getElem?_cons_succ] at q
    by_cases hi : i < ds.length
    · rw [List.getElem?_append_left (by simpa using hi)] at q; exact q
    · rw [List.getElem?_append_right (by simpa using hi), List.getElem?_replicate] at q
      split at q <;> cases q
  refine ⟨?_, fun i s q => ?_, fun i j s t l a b hs ht _ _ => ?_⟩
  · have := h.len
    unfold L2.start slotsR
    simp only [List.length_append, List.length_cons, List.length_map, List.length_replicate]
    omega
  · cases i with
    | zero =>
      cases q
      exact ⟨.ref r, rfl, xs, rfl, hr, hH, hx⟩
    | succ i =>
      obtain ⟨v, v1, v2⟩ := env_args (H := H) h i s (low i s q)
      refine ⟨v, ?_, v2⟩
      unfold L2.start
      rw [List.map_cons, List.cons_append, List.getElem?_cons_succ, List.getElem?_append_left (List.getElem?_eq_some_iff.mp v1).1]
      exact v1
  · cases i with
    | succ i => rw [im_of (low i s a)] at hs; cases hs
    | zero =>
      cases j with
      | zero => rfl
      | succ j => rw [im_of (low j t b)] at ht; cases ht
theorem own_startR {N : List Str} {r : Addr} {ws : List V} {row ds : List PyData} {a : Addr} (h : Own (L2.start N (.ref r :: ws)) (slotsR N r row ds) a) : a = r := by
  obtain ⟨i, s, q1, q2, q3⟩ := h
  cases i with
  | zero =>
    cases q3
    rfl
  | succ i =>
    unfold slotsR at q1
    rw [List.getElem?_cons_succ] at q1
    by_cases hi : i < ds.length
    · rw [List.getElem?_append_left (by simpa using hi)] at q1
      rw [im_of q1] at q2; cases q2
    · rw [List.getElem?_append_right (by simpa using hi), List.getElem?_replicate] at q1
      split at q1 <;> cases q1
/-- THE RULE for a def that changes its first argument; the first name holds it to the end -/
theorem ok_R {x qual : Str} {st : Stmt} {f : Addr} {fd : FuncData} {N ps : List Str} {k : Nat} {R : List PyData → List PyData → PyData → List PyData → Prop} (F : Fun K x qual st f fd) (S : FnScope N ps (defScope st)) (hlen : ∀ row ds d row', R row ds d row' → ds.length + 1 = ps.length)
    (hbody : ∀ (cdv : Value) (A : Around) (outer : List Env) (s : Shared) (H : Hp) (E : XK) (r : Addr) (row ds : List PyData) (d : PyData) (row' : List PyData), Room k (A.deeper (envOfC qual (defScope st) s.heap.objs.size f cdv)) → R row ds d row' →
      ∃ Γ', Ess (cxOf CX0 P w K mg base N qual (defScope st) f cdv A outer s H E).nox (slotsR N r row ds) (defBody st) (.rt d Γ') ∧ Γ'[0]? = some (some (.pr r row'))) : FnOk P w K mg base CX0 (k + 1) f fd ps (spR K R) := by
  refine F.ok S (fun vs H Q E h => ?_) (fun cdv A outer s H vs Q E hr h => ?_)
  · obtain ⟨F, r, xs, row, ws, ds, d, row', rfl, _, _, _, _, hA, hR, _⟩ := h
    rw [List.length_cons, hA.len]; exact hlen row ds d row' hR
  · obtain ⟨F, r, xs, row, ws, ds, d, row', rfl, xt, hF, hH, hx, hA, hR, q⟩ := h
    obtain ⟨Γ', ho, he⟩ := hbody cdv A outer s H E r row ds d row' hr hR
    refine ⟨_, ho, F, env_startR hF hH hx hA, xt, fun v σ' F' H' g e dv => ?_⟩
    obtain ⟨v', v1, xs', rfl, h1, h2, h3⟩ := e.ats 0 _ he
    refine q v F' H' xs' g.ff g.fh (fun a o' ha h => (g.hh a o' h).resolve_right fun z => ha (own_startR z)) (fun a h => ?_) h2 h3 dv
    rcases g.nw a h with z | z | z
    · exact .inl z
    · exact .inr z
    · exact absurd h1 (by rw [← own_startR z]; exact h)
end
section
variable {X : Cx} {Γ Γ1 Γ2 Γ3 : Gm} {a b c e : Expr} {es : List Expr} {d d1 d2 d3 : PyData} {ds ds2 es' : List PyData} {pos pp : Pos} {p q : Bool} {i j : Int} {k : Nat} {f : Addr} {fd : FuncData} {ps : List Str} {x : Str}
/-- f(e, ..) of data -/
theorem ee_call {R : List PyData → PyData → Prop} (F : FnOk X.prog X.w X.K X.mg X.base CX0 k f fd ps (spD X.K R)) (hr : Room k X.A) (hm : X.mg x = some (.ref f)) (hk : PySem.W.keepIn X.K (.ref f) = true) (hb : Binds X.K fd ps []) (ha : Ea X Γ (e :: es) ds Γ1) (hR : R ds d) (hg : Gl X x := by rfl) (hdb : (x == ("__debug__" : Str)) = false := by decide)
    (he : starEach (e :: es) X.env = (false, eval e X.env) :: starEach es X.env := by rfl) (hpl : (backTo pos (starEach es X.env)).any (·.1) = false := by rfl) : Ee X Γ (.Call (.Name x pp) (e :: es) [] pos) d Γ1 :=
  pe_imp (pe_call F hr hg hm hk hb .nil pass0 ha hdb he hpl) fun σ H Q ⟨F, ev, xt, kk⟩ => ⟨F, ev, xt, fun vs F1 H1 g1 e1 dv => by
    show spD X.K R (vs ++ []) H1 Q _
    rw [List.append_nil]
    exact ⟨F1, ds, d, g1.fh, dv, hR, fun v F' H' i1 i2 i3 i4 dv' => kk v F' H' (g1.trans (Gr.ext i1 i2 i3 i4)) (e1.keep i1 i3 i4) dv'⟩⟩
/-- f(row, e, ..): row the frame's own -/
theorem ee_callR {R : List PyData → List PyData → PyData → List PyData → Prop} {n : Nat} {y : Str} {py : Pos} {s s1 : Slot} {row' : List PyData} (F : FnOk X.prog X.w X.K X.mg X.base CX0 k f fd ps (spR X.K R)) (hr : Room k X.A) (hm : X.mg x = some (.ref f)) (hk : PySem.W.keepIn X.K (.ref f) = true) (hb : Binds X.K fd ps []) (hx : PE X (.Name y py) (tVar n)) (h0 : Γ[n]? = some (some s)) (ho0 : isOw s = true)
    (ha : Ea X Γ es ds Γ1) (h : Γ1[n]? = some (some s1)) (ho : isOw s1 = true) (hR : R (slotDs s1) ds d row') (hg : Gl X x := by rfl) (hdb : (x == ("__debug__" : Str)) = false := by decide)
    (he : starEach (Expr.Name y py :: es) X.env = (false, eval (Expr.Name y py) X.env) :: starEach es X.env := by rfl) (hpl : (backTo pos (starEach es X.env)).any (·.1) = false := by rfl) : Ee X Γ (.Call (.Name x pp) (.Name y py :: es) [] pos) d (Γ1.set n (some (reSlot row' s1))) :=
  pe_imp (pe_call F hr hg hm hk hb .nil pass0 (pa_cons hx ha he) hdb he hpl) fun σ H Q ⟨F, ev, xt, kk⟩ => by
    obtain ⟨l0, xs0, a1, a2, a3, a4⟩ := own_get ev h0 ho0
    refine ⟨.ref l0, a1, F, ev, xt, fun vs F1 H1 g1 e1 dv => ?_⟩
    obtain ⟨l, xs, b1, b2, b3, b4⟩ := own_get e1 h ho
    rw [a1] at b1
    cases b1
    show spR X.K R ((.ref l0 :: vs) ++ []) H1 Q _
    rw [List.append_nil]
    refine ⟨F1, l0, xs, slotDs s1, vs, ds, d, row', rfl, g1.fh, b2, b3, b4, dv, hR, fun v F' H' xs' i1 i2 i3 i4 i5 i6 dv' => ?_⟩
    have hF' : F' l0 = none := by
      cases q : F' l0 with
      | none => rfl
      | some o =>
        rcases i4 l0 (by rw [q]; exact Option.some_ne_none o) with z | z
        · exact absurd b2 z
        · rw [b3] at z; cases z
    -- first the growth with the list as it was, then the change
    have hi : n < Γ1.length := (List.getElem?_eq_some_iff.mp h).1
    have hold : Ext H1 (upd H' l0 (.lst xs)) := fun a o q => by
      by_cases hal : a = l0
      · subst hal; rw [upd_same]; rw [b3] at q; exact q
      · rw [upd_ne hal]; exact i3 a o hal q
    have fold : Ext F' (upd H' l0 (.lst xs)) := i2.mut hF'
    have e2 := e1.keep i1 hold i4
    have g2 : Gr F1 H1 (Own σ Γ1) F' (upd H' l0 (.lst xs)) (Own σ Γ1) := Gr.ext i1 fold hold i4
    have e3 := e2.change (xs := xs') (ds := row') h ho a1 i6
    have g3 := Gr.change (xs := xs') (ds := row') fold e2 h ho a1
    have eH : upd (upd H' l0 (.lst xs)) l0 (.lst xs') = H' := by
      funext a
      by_cases hal : a = l0
      · subst hal; rw [upd_same]; exact i5.symm
      · rw [upd_ne hal, upd_ne hal]
    rw [eH] at e3 g3
    exact kk v F' H' ((g1.trans g2).trans g3) e3 dv'
end
end DL
end

section
namespace PySem
open Sem (wp)
open AutoSeq1 (wpAny_loadPart')
theorem meets_enumerate_newTup (l : Addr) (items : Array Value) (n : Nat) (dct : Option Addr) (sl : Array (Option Value)) :
    Meets (Builtin.«enumerate.__new__» ⟨[.type "enumerate", .ref l], []⟩) (fun _ R s => s.heap.get? l = some { cls := .type "tuple", dict := dct, data := .seq items n, slots := sl } ∧
      R (.ok (.ret (.ref (s.heap.push { cls := .type "tuple_iterator", data := .fields #[.ref l, .int 0 0] }).objs.size)))
        { s with heap := (s.heap.push { cls := .type "tuple_iterator", data := .fields #[.ref l, .int 0 0] }).push { cls := .type "enumerate", data := .fields #[.none, .bool false, .ref s.heap.objs.size, rawInt 0, .none, .none] } }) :=
  .of_wp fun prog w A R s h => by
    obtain ⟨hp, g, d, tk, os⟩ := s; obtain ⟨hl, h⟩ := h
    have hsub := sub_enumerate
    have hL : Heap.IsTuple (Shared.heap ⟨hp, g, d, tk, os⟩) l items := ⟨_, hl, rfl, n, rfl⟩
    wp_walk using wpAny_loadPart' hl
    refine wpAny_stack_any fun st => wpAny_pure ?_
    split
    · rename_i c _ _ _ _ _
      cases (c == Value.type "enumerate")
      · wp_walk using wpAny_loadPart' hl, wpAny_pyIter_tuple hL
        exact ⟨_, rfl, h⟩
      · wp_walk using wpAny_loadPart' hl, wpAny_pyIter_tuple hL
        exact ⟨_, rfl, h⟩
    · wp_walk using wpAny_loadPart' hl, wpAny_pyIter_tuple hL
      exact ⟨_, rfl, h⟩
theorem call_enumerate_tup {prog : Program} {w : World} {A : Around} {E : Value → Shared → Prop} {s : Shared} {l : Addr} {items : Array Value} {Q : Value → Shared → Prop} (hL : s.heap.IsTuple l items)
    (h : ∀ h', IsEnum h' (s.heap.objs.size + 1) s.heap.objs.size 0 .none → h'.IsTupleIter s.heap.objs.size l 0 →
      (∀ b o, s.heap.get? b = some o → h'.get? b = some o) → Q (.ref (s.heap.objs.size + 1)) { s with heap := h' }) :
    wpAny (model prog w) A (call (.type "enumerate") [.ref l]) Q E s := by
  obtain ⟨⟨c, dct, dt, sl⟩, hl, hc, n, hd⟩ := hL
  replace hc : c = .type "tuple" := hc
  replace hd : dt = .seq items n := hd
  subst hc hd
  refine callType_new F.called_enumerate (by decide) (F.typeCall_enumerate_1 _) (F.newCall_enumerate_1 _) (fun obj => F.args_object_init_2 obj _) F.entry_enumerate_new
    (meets_enumerate_newTup l items n dct sl) ⟨hl, ?_⟩
  have hz : (s.heap.push { cls := .type "tuple_iterator", data := .fields #[.ref l, .int 0 0] }).objs.size = s.heap.objs.size + 1 := Heap.size_push ..
  show _ ∧ _
  rw [hz]
  have he : IsEnum ((s.heap.push { cls := .type "tuple_iterator", data := .fields #[.ref l, .int 0 0] }).push
      { cls := .type "enumerate", data := .fields #[.none, .bool false, .ref s.heap.objs.size, rawInt 0, .none, .none] }) (s.heap.objs.size + 1) s.heap.objs.size 0 .none := by
    have q := Heap.get?_push_size (s.heap.push { cls := .type "tuple_iterator", data := .fields #[.ref l, .int 0 0] })
      (o := { cls := .type "enumerate", data := .fields #[.none, .bool false, .ref s.heap.objs.size, rawInt 0, .none, .none] }) rfl
    rw [hz] at q
    exact q
  refine ⟨⟨_, he, rfl⟩, h _ he ⟨_, Heap.get?_push_of_some _ (Heap.get?_push_size _ rfl), rfl, rfl⟩ fun b o x => Heap.get?_push_of_some _ (Heap.get?_push_of_some _ x)⟩
end PySem
namespace DL
open PySem PySem.Spec PyProof.Rows L2
/-- the tuple at a, each item in a new pair -/
def Itf (a : Addr) : It :=
  ⟨fun i H => ∃ (ob : Obj) (xs : List V) (x : V), H a = some (.frz ob (.tup xs)) ∧ xs[i]? = some x, fun i H v H' => ∃ T x ob, v = .ref T ∧ H T = none ∧ ob.dict = none ∧ H' = upd H T (.frz ob (.tup [.int (i : Nat), x])) ∧ ∀ ob xs, H a = some (.frz ob (.tup xs)) → xs[i]? = some x,
    fun i H => ∃ (ob : Obj) (xs : List V), H a = some (.frz ob (.tup xs)) ∧ xs.length ≤ i⟩
theorem turn_enumT {P : Program} {w : World} {K : PySem.W.Frag} {elts : List Expr} {kk : Nat} {tpos : Pos} (a e it : Addr) :
    Turn P w K (.Tuple elts kk tpos) (Itf a) [e, it] e (fun i h => (∃ old, IsEnum h e it ((i : Nat) : Int) old) ∧ h.IsTupleIter it a i ∧ e ≠ it) where
  mem := by simp
  obj := fun i h st b hb => by
    obtain ⟨⟨old, he⟩, ⟨o, ho, hc, hd⟩, _⟩ := st
    have e' : b = e ∨ b = it := by simpa using hb
    rcases e' with z | z
    · rw [z]; exact ⟨_, he, fun v q => nomatch q⟩
    · rw [z]; exact ⟨o, ho, fun v q => by rw [hd] at q; cases q⟩
  keep := fun i h h' st k => let ⟨⟨old, he⟩, ⟨o, ho, hc, hd⟩, hne⟩ := st; ⟨⟨old, k e (by simp) _ he⟩, ⟨o, k it (by simp) o ho, hc, hd⟩, hne⟩
  item := by
    intro X hP hw hK hc i pins s σ H E I hf st hg
    subst hP hw hK
    obtain ⟨⟨old, he⟩, hit, hne⟩ := st
    obtain ⟨ob, xs, x, hq, hx⟩ := hg
    obtain ⟨its, rv, p, hz⟩ := I.tuple (.inl (.inr ⟨ob, hq⟩))
    obtain ⟨u, hu, ru⟩ := rv.get hx
    have hil : it < s.heap.objs.size := by obtain ⟨_, q, _⟩ := hit; exact Heap.lt_size q
    have nea : a ≠ e := ne_of_none hq (hf e (by simp)).1
    have nia : a ≠ it := ne_of_none hq (hf it (by simp)).1
    have D := PySem.Draws.tuple (prog := X.prog) (w := X.w) (A := X.A.in1) (I.ok.hd hc) it a nia its.toArray
    have hlt : i < its.toArray.size := by
      have := (List.getElem?_eq_some_iff.mp hu).1
      simpa using this
    refine wpAny_pyNext_enum_itemD D he ⟨hit, p⟩ hlt hne (by simp [hne, nea.symm]) fun x' h' tk hx' ho hst' hT hsz hk => ?_
    have hx2 : its[i]? = some x' := by rw [← Array.getElem?_toList] at hx'; exact hx'
    rw [hu] at hx2
    cases hx2
    refine ⟨_, rfl, wpAny_letOwnedTupleGo_enum (s := { s with heap := h', toks := tk + 1 }) ho fun h'' he' sb => ?_⟩
    have hel : e < s.heap.objs.size := Heap.lt_size he
    have hT2 : h''.get? s.heap.objs.size = some { cls := .type "tuple", data := .seq #[.int i tk, u] } := (sb.2 _ (Nat.ne_of_gt hel)).trans hT
    have new : ObjOk X.prog X.w (upd H s.heap.objs.size (.frz { cls := .type "tuple", data := .seq #[.int i tk, u] } (.tup [.int (i : Nat), x]))) h'' s.heap.objs.size (.frz { cls := .type "tuple", data := .seq #[.int i tk, u] } (.tup [.int (i : Nat), x])) :=
      ⟨hT2, by show 2 ≤ sizeLine; decide, [.int i tk, u], .cons ⟨_, rfl⟩ (.cons ru .nil), ⟨_, hT2, rfl, _, rfl⟩⟩
    have I1 : Inv X pins σ (upd H s.heap.objs.size (.frz { cls := .type "tuple", data := .seq #[.int i tk, u] } (.tup [.int (i : Nat), x]))) { s with heap := h'', toks := tk + 1 } :=
      I.turnedNew (ch := [e, it]) (fun b ob hb q => (sb.2 b (fun z => hb (by simp [z]))).trans (hk b ob (fun z => hb (by simp [z])) (fun z => hb (by simp [z])) q)) hf (Nat.le_refl _) new
    refine ⟨.ref s.heap.objs.size, _, I1, rfl, ⟨_, x, _, rfl, I.hok.fresh (Nat.le_refl _), rfl, rfl, fun ob' ys hy => ?_⟩, ⟨⟨u, ?_⟩, ?_, hne⟩, fun b hb => ?_⟩
    · rw [hq] at hy; cases hy; exact hx
    · have e1 : ((i + 1 : Nat) : Int) = (i : Int) + 1 := by omega
      rw [e1]; exact he'
    · obtain ⟨⟨o, ho2, hc2, hd2⟩, _⟩ := hst'
      exact ⟨o, (sb.2 it (Ne.symm hne)).trans ho2, hc2, hd2⟩
    · have hb' : b < s.heap.objs.size := by
        have e' : b = e ∨ b = it := by simpa using hb
        rcases e' with z | z
        · rw [z]; exact hel
        · rw [z]; exact hil
      rw [upd_ne (Nat.ne_of_lt hb')]
      exact (hf b hb).1
  done := by
    intro X hP hw hK hc i pins s σ H E I hf st hg
    subst hP hw hK
    obtain ⟨⟨old, he⟩, hit, hne⟩ := st
    obtain ⟨ob, xs, hq, hx⟩ := hg
    obtain ⟨its, rv, p, hz⟩ := I.tuple (.inl (.inr ⟨ob, hq⟩))
    obtain ⟨f0, f1, f2, f3, f4, f5⟩ := hf it (by simp)
    have hl := rv.length
    have nia : a ≠ it := ne_of_none hq (hf it (by simp)).1
    have D := PySem.Draws.tuple (prog := X.prog) (w := X.w) (A := X.A.in1) (I.ok.hd hc) it a nia its.toArray
    have fin : ∀ Q : Option Value → Shared → Prop, (∀ h', Heap.ExtBut it s.heap h' → Q none { s with heap := h' }) → wpAny (model X.prog X.w) X.A (pyNext (.ref e)) Q E s := fun Q hQ => by
      have hT : s.TypeIs (.ref e) "enumerate" := ⟨_, he, rfl⟩
      unfold pyNext
      refine wpAny_bind (wpAny_attempt (wpAny_callSpecial?_slot (name := Str.ofString "__next__") hT F.slot_enumerate_next
        (wpAny_call_entry F.slot_enumerate_next hT F.entry_enumerate_next ?_ (F.args_enumerate_next_1 _))))
      show wpAny _ _ (field (.ref e) 2 >>= _) _ _ _
      refine wpAny_bind (wpAny_field he rfl (x := .ref it) rfl ?_)
      refine wpAny_bind (PySem.wpAny_nextOf_tuple_end (I.ok.hd hc) hit p (by rw [List.getElem?_toArray]; rw [List.getElem?_eq_none_iff]; omega) fun h' x he' hx' => ?_)
      obtain ⟨o, ho, hc'⟩ := hx'
      refine wpAny_bind (wpAny_isInstance (T := "StopIteration") (b := true) ⟨o, ho, hc'⟩ isSubtype_stop ?_)
      exact wpAny_pure (hQ _ he')
    exact fin _ fun h' eb => ⟨rfl, I.turned (t' := s.toks) (fun b o hb q => eb b o hb q) f0 f1 f3 f4 f5⟩
  self := fun A i s Q E st h => let ⟨⟨_, he⟩, _⟩ := st; wpAny_pyIter_enum he h
section
variable {X : Cx} {Γ Γ1 : Gm} {e : Expr} {ds : List PyData} {pos : Pos}
theorem ei_enumT {elts : List Expr} {kk : Nat} {p tpos : Pos} (hm : X.mg "enumerate" = none) (h : Ee X Γ e (.tuple ds) Γ1) (hg : Gl X "enumerate" := by rfl) (hs0 : starEach [e] X.env = (false, eval e X.env) :: starEach [] X.env := by rfl) (hs : starEach [e] X.env = [(false, eval e X.env)] := by rfl) :
    Ei X Γ (.Tuple elts kk tpos) (.Call (.Name "enumerate" p) [e] [] pos) ((List.range ds.length).map fun i => .tuple [.int (i : Nat), ds.getD i .none]) Γ1 := by
  refine ⟨fun pins s σ H R I hR => ?_⟩
  obtain ⟨F, ev, x, k⟩ := hR
  have ha : PA X [e] (tCons (tE X.K Γ (.tuple ds) Γ1) tNil) := pa_cons h pa_nil hs0
  refine Call_ (ld_blt I hg hm boot_enumerate (PyProof.Rows.callWith_type1 (thn (ha.run pos pins s σ H (fun vs H1 => ∃ v F1, vs = [v] ∧ Gr F H (Own σ Γ) F1 H1 (Own σ Γ1) ∧ EnvOk X.K F1 H1 σ Γ1 ∧ Dd X.K F1 v (.tuple ds)) I ⟨F, ev, x, fun v F1 H1 g1 e1 dv => ⟨v, F1, rfl, g1, e1, dv⟩⟩) fun us s1 hh => ?_) hs rfl))
  obtain ⟨vs, H1, I1, r1, v, F1, rfl, g1, e1, dv⟩ := hh
  obtain ⟨u, rfl, ru⟩ := Vals.one r1
  cases dv with
  | @tup a ob xs _ h1 h0 hA =>
    cases ru
    have hH1 := g1.fh _ _ h1
    obtain ⟨its, rv, p', hz⟩ := I1.tuple (.inl (.inr ⟨ob, hH1⟩))
    refine call_enumerate_tup p' fun h' he hit hk => wpAny_pyIter_enum he ?_
    have I2 : Inv X pins σ H1 { s1 with heap := h' } := I1.kept (t' := s1.toks) hk
    refine ⟨s1.heap.objs.size + 1, [s1.heap.objs.size + 1, s1.heap.objs.size], _, _, H1, rfl, I2, turn_enumT a (s1.heap.objs.size + 1) s1.heap.objs.size, ⟨⟨.none, he⟩, hit, Nat.succ_ne_self _⟩, fun b hb => ?_, ?_⟩
    · have e' : b = s1.heap.objs.size + 1 ∨ b = s1.heap.objs.size := by simpa using hb
      have hle : s1.heap.objs.size ≤ b := by
        rcases e' with z | z
        · rw [z]; exact Nat.le_add_right _ _
        · rw [z]; exact Nat.le_refl _
      exact I1.fpOk hle (I1.hok.fresh hle)
    · refine k _ F1 H1 g1 e1 fun i F2 H2 x1 x2 => ⟨fun d hd => ?_, fun hle => ⟨ob, xs, x2 _ _ (x1 _ _ h1), by rw [hA.len]; simpa using hle⟩⟩
      have hi : i < ds.length := by
        have := (List.getElem?_eq_some_iff.mp hd).1
        simpa using this
      have hdi : ds[i]? = some ds[i] := List.getElem?_eq_getElem hi
      rw [List.getElem?_map, List.getElem?_range hi] at hd
      cases hd
      obtain ⟨w, hw, dw⟩ := hA.get hdi
      refine ⟨⟨ob, xs, w, x2 _ _ (x1 _ _ h1), hw⟩, fun y H3 hy => ?_⟩
      obtain ⟨T, z, ob2, rfl, hT, hd2, rfl, hz2⟩ := hy
      have := hz2 ob xs (x2 _ _ (x1 _ _ h1))
      rw [hw] at this
      cases this
      have gn : Gr F2 H2 (fun _ => False) (upd F2 T (.frz ob2 (.tup [.int (i : Nat), w]))) (upd H2 T (.frz ob2 (.tup [.int (i : Nat), w]))) (fun _ => False) := Gr.new x2 hT
      refine ⟨_, gn.ff, gn.fh, fun a o q => (gn.hh a o q).resolve_right id, fun a q => (gn.nw a q).imp id fun z => z.resolve_right id, .tup upd_same hd2 (.cons (.int _) (.cons ?_ .nil))⟩
      rw [List.getD_eq_getElem?_getD, hdi]
      exact (dw.up x1).up gn.ff
end
end DL
end

section
namespace DL
open PySem PySem.Spec PyProof.Rows L2

/-- a def of the text where the top has put it -/
structure Fn (K : PySem.W.Frag) (mg : Str → Option Value) (x : Str) (st : Stmt) (ps : List Str) : Prop where
  ex : ∃ f fd, mg x = some (.ref f) ∧ Fun K x x st f fd ∧ L2.Binds K fd ps []
/-- a def of the text, with its promise -/
structure Ca (P : Program) (w : World) (K : PySem.W.Frag) (mg : Str → Option Value) (base : Heap) (k : Nat) (x : Str) (ps : List Str) (sp : Sp) : Prop where
  ex : ∃ f fd, mg x = some (.ref f) ∧ PySem.W.keepIn K (.ref f) = true ∧ L2.Binds K fd ps [] ∧ FnOk P w K mg base CX0 k f fd ps sp
section
variable {P : Program} {w : World} {K : PySem.W.Frag} {mg : Str → Option Value} {base : Heap} {k : Nat} {x : Str} {ps : List Str}
theorem ca_D {st : Stmt} {N : List Str} {R : List PyData → PyData → Prop} (F : Fn K mg x st ps) (S : FnScope N ps (defScope st)) (hlen : ∀ ds d, R ds d → ds.length = ps.length)
    (hbody : ∀ (f : Addr) (cdv : Value) (A : Around) (outer : List Env) (s : Shared) (H : Hp) (E : XK) (ds : List PyData) (d : PyData), Room k (A.deeper (envOfC x (defScope st) s.heap.objs.size f cdv)) → R ds d →
      ∃ o, Ess (cxOf CX0 P w K mg base N x (defScope st) f cdv A outer s H E).nox (slots0 N ds) (defBody st) o ∧ endsWith o d) : Ca P w K mg base (k + 1) x ps (spD K R) := by
  obtain ⟨f, fd, hm, hF, hb⟩ := F.ex
  exact ⟨f, fd, hm, hF.kp, hb, ok_D hF S hlen fun cdv A outer s H E ds d hr hR => hbody f cdv A outer s H E ds d hr hR⟩
theorem ca_R {st : Stmt} {N : List Str} {R : List PyData → List PyData → PyData → List PyData → Prop} (F : Fn K mg x st ps) (S : FnScope N ps (defScope st)) (hlen : ∀ row ds d row', R row ds d row' → ds.length + 1 = ps.length)
    (hbody : ∀ (f : Addr) (cdv : Value) (A : Around) (outer : List Env) (s : Shared) (H : Hp) (E : XK) (r : Addr) (row ds : List PyData) (d : PyData) (row' : List PyData), Room k (A.deeper (envOfC x (defScope st) s.heap.objs.size f cdv)) → R row ds d row' →
      ∃ Γ', Ess (cxOf CX0 P w K mg base N x (defScope st) f cdv A outer s H E).nox (slotsR N r row ds) (defBody st) (.rt d Γ') ∧ Γ'[0]? = some (some (.pr r row'))) : Ca P w K mg base (k + 1) x ps (spR K R) := by
  obtain ⟨f, fd, hm, hF, hb⟩ := F.ex
  exact ⟨f, fd, hm, hF.kp, hb, ok_R hF S hlen fun cdv A outer s H E r row ds d row' hr hR => hbody f cdv A outer s H E r row ds d row' hr hR⟩
end
section
variable {X : Cx} {Γ Γ1 Γ2 : Gm} {e : Expr} {es : List Expr} {d : PyData} {ds : List PyData} {pos pp : Pos} {k j : Nat} {ps : List Str} {x : Str}
theorem ee_ca {R : List PyData → PyData → Prop} (C : Ca X.prog X.w X.K X.mg X.base k x ps (spD X.K R)) (hr : Room j X.A) (ha : Ea X Γ (e :: es) ds Γ1) (hR : R ds d) (hj : k ≤ j := by decide) (hg : Gl X x := by rfl) (hdb : (x == ("__debug__" : Str)) = false := by decide)
    (he : starEach (e :: es) X.env = (false, eval e X.env) :: starEach es X.env := by rfl) (hpl : (backTo pos (starEach es X.env)).any (·.1) = false := by rfl) : Ee X Γ (.Call (.Name x pp) (e :: es) [] pos) d Γ1 := by
  obtain ⟨f, fd, hm, hk, hb, F⟩ := C.ex
  exact ee_call F (hr.mono hj) hm hk hb ha hR hg hdb he hpl
theorem ee_caR {R : List PyData → List PyData → PyData → List PyData → Prop} {n : Nat} {y : Str} {py : Pos} {s s1 : Slot} {row' : List PyData} (C : Ca X.prog X.w X.K X.mg X.base k x ps (spR X.K R)) (hr : Room j X.A) (hx : PE X (.Name y py) (tVar n)) (h0 : Γ[n]? = some (some s)) (ho0 : isOw s = true)
    (ha : Ea X Γ es ds Γ1) (h : Γ1[n]? = some (some s1)) (ho : isOw s1 = true) (hR : R (slotDs s1) ds d row') (hj : k ≤ j := by decide) (hg : Gl X x := by rfl) (hdb : (x == ("__debug__" : Str)) = false := by decide)
    (he : starEach (Expr.Name y py :: es) X.env = (false, eval (Expr.Name y py) X.env) :: starEach es X.env := by rfl) (hpl : (backTo pos (starEach es X.env)).any (·.1) = false := by rfl) : Ee X Γ (.Call (.Name x pp) (.Name y py :: es) [] pos) d (Γ1.set n (some (reSlot row' s1))) := by
  obtain ⟨f, fd, hm, hk, hb, F⟩ := C.ex
  exact ee_callR F (hr.mono hj) hm hk hb hx h0 ho0 ha h ho hR hg hdb he hpl
end

/-! ### numbers, pairs, tuples of them as data -/
def iN (n : Nat) : PyData := .int (n : Int)
def pN (p : Nat × Nat) : PyData := .tuple [iN p.1, iN p.2]
theorem shaped_of {d : PyData} (h1 : d.canLay0 = true) (h2 : d.depth ≤ 64) : SeqAt.shaped d = true := by
  unfold SeqAt.shaped
  rw [h1, decide_eq_true h2]; rfl
theorem lay_all {α : Type} {enc : α → PyData} : ∀ {xs : List α}, (∀ x ∈ xs, (enc x).canLay0 = true) → PyData.canLayAll0 (xs.map enc) = true
  | [], _ => by simp [PyData.canLayAll0]
  | x :: xs, h => by
    rw [List.map_cons, PyData.canLayAll0, h x List.mem_cons_self, lay_all fun y hy => h y (List.mem_cons_of_mem _ hy)]; rfl
theorem dep_all {α : Type} {enc : α → PyData} {n : Nat} : ∀ {xs : List α}, (∀ x ∈ xs, (enc x).depth ≤ n) → PyData.depthAll (xs.map enc) ≤ n
  | [], _ => by simp [PyData.depthAll]
  | x :: xs, h => by
    rw [List.map_cons, PyData.depthAll]
    exact Nat.max_le.mpr ⟨h x List.mem_cons_self, dep_all fun y hy => h y (List.mem_cons_of_mem _ hy)⟩
theorem iN_lay (n : Nat) : (iN n).canLay0 = true := by simp [iN, PyData.canLay0]
theorem iN_dep (n : Nat) : (iN n).depth = 0 := by simp [iN, PyData.depth]
theorem pN_lay (p : Nat × Nat) : (pN p).canLay0 = true := by simp [pN, iN, PyData.canLay0, PyData.canLayAll0]
theorem pN_dep (p : Nat × Nat) : (pN p).depth = 1 := by simp [pN, iN, PyData.depth, PyData.depthAll]
theorem iN_eqv (a b : Nat) : PyData.eqv (iN a) (iN b) = decide (a = b) := by
  show ((a : Int) == (b : Int)) = _
  by_cases h : a = b
  · subst h; simp
  · rw [decide_eq_false h]; exact beq_eq_false_iff_ne.mpr (fun z => h (by omega))
theorem pN_eqv (a b : Nat × Nat) : PyData.eqv (pN a) (pN b) = decide (a = b) := by
  obtain ⟨a1, a2⟩ := a
  obtain ⟨b1, b2⟩ := b
  have : PyData.eqv (pN (a1, a2)) (pN (b1, b2)) = (PyData.eqv (iN a1) (iN b1) && (PyData.eqv (iN a2) (iN b2) && true)) := by simp only [pN, PyData.eqv, PyData.eqvAll]
  rw [this, iN_eqv, iN_eqv]
  by_cases h1 : a1 = b1 <;> by_cases h2 : a2 = b2 <;> simp [h1, h2]
theorem any_eqv {α : Type} [DecidableEq α] {enc : α → PyData} (he : ∀ a b, PyData.eqv (enc a) (enc b) = decide (a = b)) (xs : List α) (x : α) : ((xs.map enc).any fun z => PyData.eqv z (enc x)) = decide (x ∈ xs) := by
  induction xs with
  | nil => simp
  | cons y ys ih =>
    rw [List.map_cons, List.any_cons, ih, he]
    by_cases h : y = x
    · subst h; simp
    · simp [h, Ne.symm h, eq_comm]
theorem eqvAll_map {α : Type} [DecidableEq α] {enc : α → PyData} (he : ∀ a b, PyData.eqv (enc a) (enc b) = decide (a = b)) : ∀ (xs ys : List α), PyData.eqvAll (xs.map enc) (ys.map enc) = decide (xs = ys)
  | [], [] => by simp [PyData.eqvAll]
  | [], _ :: _ => by simp [PyData.eqvAll]
  | _ :: _, [] => by simp [PyData.eqvAll]
  | x :: xs, y :: ys => by
    rw [List.map_cons, List.map_cons, PyData.eqvAll, he, eqvAll_map he xs ys]
    by_cases h1 : x = y <;> by_cases h2 : xs = ys <;> simp [h1, h2]
theorem eqv_list {α : Type} [DecidableEq α] {enc : α → PyData} (he : ∀ a b, PyData.eqv (enc a) (enc b) = decide (a = b)) (xs ys : List α) : PyData.eqv (.list (xs.map enc)) (.list (ys.map enc)) = decide (xs = ys) := by
  rw [PyData.eqv, eqvAll_map he]
theorem eqv_tup {α : Type} [DecidableEq α] {enc : α → PyData} (he : ∀ a b, PyData.eqv (enc a) (enc b) = decide (a = b)) (xs ys : List α) : PyData.eqv (.tuple (xs.map enc)) (.tuple (ys.map enc)) = decide (xs = ys) := by
  rw [PyData.eqv, eqvAll_map he]
theorem atI_map {α : Type} {enc : α → PyData} {xs : List α} {i : Nat} {x : α} (h : xs[i]? = some x) : atI (xs.map enc) (i : Int) = some (enc x) := atI_nat (by rw [List.getElem?_map, h]; rfl)
abbrev tn (t : List Nat) : PyData := .tuple (t.map iN)
theorem lay_tup {α : Type} {enc : α → PyData} {xs : List α} (h : ∀ x, (enc x).canLay0 = true) : PyData.canLay0 (.tuple (xs.map enc)) = true := by
  rw [PyData.canLay0]; exact lay_all fun x _ => h x
theorem lay_lst {α : Type} {enc : α → PyData} {xs : List α} (h : ∀ x, (enc x).canLay0 = true) : PyData.canLay0 (.list (xs.map enc)) = true := by
  rw [PyData.canLay0]; exact lay_all fun x _ => h x
theorem dep_tup {α : Type} {enc : α → PyData} {xs : List α} {n : Nat} (h : ∀ x, (enc x).depth ≤ n) : PyData.depth (.tuple (xs.map enc)) ≤ n + 1 := by
  rw [PyData.depth]; exact Nat.succ_le_succ (dep_all fun x _ => h x)
theorem dep_lst {α : Type} {enc : α → PyData} {xs : List α} {n : Nat} (h : ∀ x, (enc x).depth ≤ n) : PyData.depth (.list (xs.map enc)) ≤ n + 1 := by
  rw [PyData.depth]; exact Nat.succ_le_succ (dep_all fun x _ => h x)
theorem sh_int (i : Int) : SeqAt.shaped (.int i) = true := shaped_of (by simp [PyData.canLay0]) (by simp [PyData.depth])
theorem sh_bool (b : Bool) : SeqAt.shaped (.bool b) = true := shaped_of (by simp [PyData.canLay0]) (by simp [PyData.depth])
theorem sh_iN (n : Nat) : SeqAt.shaped (iN n) = true := sh_int _
theorem sh_pN (p : Nat × Nat) : SeqAt.shaped (pN p) = true := shaped_of (pN_lay p) (by rw [pN_dep]; decide)
theorem sh_lst {α : Type} {enc : α → PyData} (xs : List α) (h1 : ∀ x, (enc x).canLay0 = true) (h2 : ∀ x, (enc x).depth ≤ 60) : SeqAt.shaped (.list (xs.map enc)) = true := shaped_of (lay_lst h1) (Nat.le_trans (dep_lst h2) (by decide))
theorem sh_tup {α : Type} {enc : α → PyData} (xs : List α) (h1 : ∀ x, (enc x).canLay0 = true) (h2 : ∀ x, (enc x).depth ≤ 60) : SeqAt.shaped (.tuple (xs.map enc)) = true := shaped_of (lay_tup h1) (Nat.le_trans (dep_tup h2) (by decide))
theorem sh_nil : SeqAt.shaped (.list []) = true := shaped_of (by simp [PyData.canLay0, PyData.canLayAll0]) (by simp [PyData.depth, PyData.depthAll])
theorem int_eqv (i j : Int) : PyData.eqv (.int i) (.int j) = decide (i = j) := by
  show (i == j) = _
  exact Bool.beq_eq_decide_eq i j
theorem bool_eqv (i j : Bool) : PyData.eqv (.bool i) (.bool j) = decide (i = j) := by
  cases i <;> cases j <;> rfl
end DL
end

section
namespace DL
open PySem PySem.Spec PyProof.Rows L2
/-- a block that hands back d -/
def Er (X : Cx) (Γ : Gm) (sts : List Stmt) (d : PyData) : Prop := ∃ Γ', Ess X Γ sts (.rt d Γ')
/-- a block that is walked to its end -/
def Ez (X : Cx) (Γ : Gm) (sts : List Stmt) : Prop := ∃ Γ', Ess X Γ sts (.nx Γ')
section
variable {X : Cx} {Γ Γ1 : Gm} {c e : Expr} {d d1 : PyData} {ds : List PyData} {pos : Pos} {st : Stmt} {rest body orelse : List Stmt} {p : Bool}
theorem er_cons (h1 : Es X Γ st (.nx Γ1)) (h2 : Er X Γ1 rest d) : Er X Γ (st :: rest) d := let ⟨g, h⟩ := h2; ⟨g, ess_cons h1 h⟩
theorem er_stop (h1 : Es X Γ st (.rt d Γ1)) : Er X Γ (st :: rest) d := ⟨Γ1, ess_stop h1 (by intro _ z; cases z)⟩
theorem er_ret (h : Ee X Γ e d Γ1) : Er X Γ (.Return (some e) pos :: rest) d := er_stop (es_ret h)
theorem er_retN : Er X Γ (.Return none pos :: rest) .none := er_stop es_retN
theorem er_ifT {pos : Pos} (hc : Et X Γ c true Γ1) (h : Er X Γ1 body d) : Er X Γ (.If c body orelse pos :: rest) d := let ⟨g, h⟩ := h; ⟨g, ess_stop (es_ifT hc h) (by intro _ z; cases z)⟩
theorem er_ifF {pos : Pos} (hc : Et X Γ c false Γ1) (h : Er X Γ1 rest d) : Er X Γ (.If c body [] pos :: rest) d := er_cons (es_ifF hc ess_nil) h
theorem er_freeze (n : Nat) (h : Γ[n]? = some (some (.ow ds)) := by rfl) (h1 : Er X (Γ.set n (some (.im (.list ds)))) rest d) : Er X Γ rest d := let ⟨g, z⟩ := h1; ⟨g, ess_freeze n h z⟩
theorem ez_nil : Ez X Γ [] := ⟨Γ, ess_nil⟩
theorem ez_cons (h1 : Es X Γ st (.nx Γ1)) (h2 : Ez X Γ1 rest) : Ez X Γ (st :: rest) := let ⟨g, h⟩ := h2; ⟨g, ess_cons h1 h⟩
theorem ez_ifF {pos : Pos} (hc : Et X Γ c false Γ1) (h : Ez X Γ1 rest) : Ez X Γ (.If c body [] pos :: rest) := ez_cons (es_ifF hc ess_nil) h
theorem er_is (h : Er X Γ rest d) (e : d = d1) : Er X Γ rest d1 := e ▸ h
end
section
variable {P : Program} {w : World} {K : PySem.W.Frag} {mg : Str → Option Value} {base : Heap} {k : Nat} {x : Str} {ps : List Str}
theorem ca_Er {st : Stmt} {N : List Str} {R : List PyData → PyData → Prop} (F : Fn K mg x st ps) (S : FnScope N ps (defScope st)) (hlen : ∀ ds d, R ds d → ds.length = ps.length)
    (hbody : ∀ (f : Addr) (cdv : Value) (A : Around) (outer : List Env) (s : Shared) (H : Hp) (E : XK) (ds : List PyData) (d : PyData), Room k (A.deeper (envOfC x (defScope st) s.heap.objs.size f cdv)) → R ds d →
      Er (cxOf CX0 P w K mg base N x (defScope st) f cdv A outer s H E).nox (slots0 N ds) (defBody st) d) : Ca P w K mg base (k + 1) x ps (spD K R) :=
  ca_D F S hlen fun f cdv A outer s H E ds d hr hR => let ⟨g, h⟩ := hbody f cdv A outer s H E ds d hr hR; ⟨_, h, .inl ⟨g, rfl⟩⟩
theorem ca_Ez {st : Stmt} {N : List Str} {R : List PyData → PyData → Prop} (F : Fn K mg x st ps) (S : FnScope N ps (defScope st)) (hlen : ∀ ds d, R ds d → ds.length = ps.length)
    (hbody : ∀ (f : Addr) (cdv : Value) (A : Around) (outer : List Env) (s : Shared) (H : Hp) (E : XK) (ds : List PyData) (d : PyData), Room k (A.deeper (envOfC x (defScope st) s.heap.objs.size f cdv)) → R ds d →
      d = .none ∧ Ez (cxOf CX0 P w K mg base N x (defScope st) f cdv A outer s H E).nox (slots0 N ds) (defBody st)) : Ca P w K mg base (k + 1) x ps (spD K R) :=
  ca_D F S hlen fun f cdv A outer s H E ds d hr hR => let ⟨hd, g, h⟩ := hbody f cdv A outer s H E ds d hr hR; ⟨_, h, .inr ⟨hd, g, rfl⟩⟩
end
theorem ei_is {X : Cx} {Γ Γ1 : Gm} {tg e : Expr} {ds ds' : List PyData} (h : Ei X Γ tg e ds Γ1) (hp : ds = ds') : Ei X Γ tg e ds' Γ1 := hp ▸ h
theorem rngD_N (n : Nat) : rngD 0 (n : Int).toNat = (List.range n).map iN := by
  unfold rngD
  rw [Int.toNat_natCast]
  apply List.map_congr_left
  intro i _
  show PyData.int (0 + (i : Int)) = PyData.int (i : Int)
  rw [Int.zero_add]
theorem rngD_from (a b : Nat) : rngD (a : Int) ((b : Int) - (a : Int)).toNat = (List.range (b - a)).map fun j => iN (a + j) := by
  unfold rngD
  have : ((b : Int) - (a : Int)).toNat = b - a := by omega
  rw [this]
  apply List.map_congr_left
  intro i _
  show PyData.int ((a : Int) + (i : Int)) = PyData.int ((a + i : Nat) : Int)
  rw [Int.natCast_add]
/-! the built-in classes -/
theorem bt_bool : bootBuiltins "bool" = some (.type "bool") := by decide +kernel
theorem bt_int : bootBuiltins "int" = some (.type "int") := by decide +kernel
theorem bt_str : bootBuiltins "str" = some (.type "str") := by decide +kernel
theorem bt_tuple : bootBuiltins "tuple" = some (.type "tuple") := by decide +kernel
theorem bt_list : bootBuiltins "list" = some (.type "list") := by decide +kernel
def isBoolD : PyData → Bool
  | .bool _ => true
  | _ => false
def isIntD : PyData → Bool
  | .bool _ => true
  | .int _ => true
  | _ => false
def isStrD : PyData → Bool
  | .str _ => true
  | _ => false
def isTupD : PyData → Bool
  | .tuple _ => true
  | _ => false
def isListD : PyData → Bool
  | .list _ => true
  | _ => false
theorem kit_bool (d : PyData) : kitB (tyName d) "bool" = some (isBoolD d) := by
  cases d
  · show kitB "NoneType" "bool" = some false; decide +kernel
  · show kitB "bool" "bool" = some true; decide +kernel
  · show kitB "int" "bool" = some false; decide +kernel
  · show kitB "str" "bool" = some false; decide +kernel
  · show kitB "list" "bool" = some false; decide +kernel
  · show kitB "tuple" "bool" = some false; decide +kernel
  · show kitB "dict" "bool" = some false; decide +kernel
theorem kit_int (d : PyData) : kitB (tyName d) "int" = some (isIntD d) := by
  cases d
  · show kitB "NoneType" "int" = some false; decide +kernel
  · show kitB "bool" "int" = some true; decide +kernel
  · show kitB "int" "int" = some true; decide +kernel
  · show kitB "str" "int" = some false; decide +kernel
  · show kitB "list" "int" = some false; decide +kernel
  · show kitB "tuple" "int" = some false; decide +kernel
  · show kitB "dict" "int" = some false; decide +kernel
theorem kit_str (d : PyData) : kitB (tyName d) "str" = some (isStrD d) := by
  cases d
  · show kitB "NoneType" "str" = some false; decide +kernel
  · show kitB "bool" "str" = some false; decide +kernel
  · show kitB "int" "str" = some false; decide +kernel
  · show kitB "str" "str" = some true; decide +kernel
  · show kitB "list" "str" = some false; decide +kernel
  · show kitB "tuple" "str" = some false; decide +kernel
  · show kitB "dict" "str" = some false; decide +kernel
theorem kit_tuple (d : PyData) : kitB (tyName d) "tuple" = some (isTupD d) := by
  cases d
  · show kitB "NoneType" "tuple" = some false; decide +kernel
  · show kitB "bool" "tuple" = some false; decide +kernel
  · show kitB "int" "tuple" = some false; decide +kernel
  · show kitB "str" "tuple" = some false; decide +kernel
  · show kitB "list" "tuple" = some false; decide +kernel
  · show kitB "tuple" "tuple" = some true; decide +kernel
  · show kitB "dict" "tuple" = some false; decide +kernel
theorem kit_list (d : PyData) : kitB (tyName d) "list" = some (isListD d) := by
  cases d
  · show kitB "NoneType" "list" = some false; decide +kernel
  · show kitB "bool" "list" = some false; decide +kernel
  · show kitB "int" "list" = some false; decide +kernel
  · show kitB "str" "list" = some false; decide +kernel
  · show kitB "list" "list" = some true; decide +kernel
  · show kitB "tuple" "list" = some false; decide +kernel
  · show kitB "dict" "list" = some false; decide +kernel
end DL
end

section
/-! The mathematics: pairs of halls, turns, rings. Plain Lean. -/
namespace RM
/-- all pairs of halls, ascending -/
def allPairs (n : Nat) : List (Nat × Nat) := (List.range n).flatMap fun x => (List.range (n - (x + 1))).map fun j => (x, x + 1 + j)
def at_ (t : List Nat) (h : Nat) : Nat := t.getD h 0
def ledPair (t : List Nat) (p : Nat × Nat) : Nat × Nat := (min (at_ t p.1) (at_ t p.2), max (at_ t p.1) (at_ t p.2))
/-- a turn of 1 to 9 halls -/
def IsTurn (t : List Nat) : Prop := 1 ≤ t.length ∧ t.length ≤ 9 ∧ t.Nodup ∧ ∀ x ∈ t, x < t.length
/-- f done n times -/
def itr {α : Type} (f : α → α) : Nat → α → α
  | 0, a => a
  | n + 1, a => f (itr f n a)
/-- n is the first positive number of times that lead back -/
def IsPer {α : Type} (f : α → α) (a : α) (n : Nat) : Prop := 1 ≤ n ∧ itr f n a = a ∧ ∀ i, 1 ≤ i → i < n → itr f i a ≠ a
def ringN {α : Type} (f : α → α) (a : α) (n : Nat) : List α := (List.range n).map fun i => itr f i a
theorem flatLen (n : Nat) (h : n ≤ 9) : ((List.range n).flatMap fun x => List.range (n - (x + 1))).length ≤ 81 := by
  rw [List.length_flatMap]
  have : ∀ (l : List Nat), (∀ x ∈ l, x ≤ 9) → (l.map fun x => (List.range (n - (x + 1))).length).sum ≤ 9 * l.length := by
    intro l
    induction l with
    | nil => intro _; simp
    | cons a r ih =>
      intro hl
      have h1 := ih fun x hx => hl x (List.mem_cons_of_mem _ hx)
      rw [List.map_cons, List.sum_cons, List.length_cons, List.length_range]
      omega
  have h2 := this (List.range n) (fun x hx => by have := List.mem_range.mp hx; omega)
  rw [List.length_range] at h2
  omega
theorem allPairs_len (n : Nat) (h : n ≤ 9) : (allPairs n).length ≤ 81 := by
  have := flatLen n h
  unfold allPairs
  rw [List.length_flatMap] at this ⊢
  simpa using this
theorem mem_allPairs {n : Nat} {p : Nat × Nat} : p ∈ allPairs n ↔ p.1 < p.2 ∧ p.2 < n := by
  obtain ⟨x, y⟩ := p
  unfold allPairs
  simp only [List.mem_flatMap, List.mem_range, List.mem_map, Prod.mk.injEq]
  constructor
  · rintro ⟨a, ha, j, hj, rfl, rfl⟩
    omega
  · rintro ⟨h1, h2⟩
    exact ⟨x, by omega, y - (x + 1), by omega, rfl, by omega⟩
end RM
end

section
namespace DL
open PySem PySem.Spec PyProof.Rows L2 RM
def prog1 : Program := PySem.Challenge.pw_restalike_k09_whole_desks
def topS (i : Nat) : Stmt := prog1.main.body.getD i (.Pass ⟨0, 0, 0, 0⟩)
/-- the built-ins' names are not the module's -/
abbrev MostH (mg : Str → Option Value) : Prop := ∃ t, mg "MOST_HALLS" = some (.int 9 t)
structure Tx (mg : Str → Option Value) : Prop where
  isinstance : mg "isinstance" = none
  bool : mg "bool" = none
  int : mg "int" = none
  str : mg "str" = none
  tuple : mg "tuple" = none
  list : mg "list" = none
  len : mg "len" = none
  range : mg "range" = none
  min : mg "min" = none
  max : mg "max" = none
  sorted : mg "sorted" = none
  all : mg "all" = none
  sum : mg "sum" = none
  enumerate : mg "enumerate" = none
  zip : mg "zip" = none
abbrev s_is_number : Stmt := topS 8
abbrev N_is_number : List Str := ["value", "least", "most"]
theorem sc_is_number : FnScope N_is_number ["value", "least", "most"] (defScope s_is_number) := ⟨rfl, rfl, rfl, by decide +kernel, rfl, by decide +kernel, by decide +kernel⟩
section
variable {P : Program} {w : World} {K : PySem.W.Frag} {mg : Str → Option Value} {base : Heap}
def isNum (d : PyData) (a b : Int) : Bool := match d with
  | .int i => decide (a ≤ i) && decide (i ≤ b)
  | _ => false
def R_is_number (ds : List PyData) (d : PyData) : Prop := ∃ v a b, ds = [v, .int a, .int b] ∧ (∀ x, v ≠ .dict x) ∧ d = .bool (isNum v a b)
theorem ok_is_number (T : Tx mg) (F : Fn K mg "is_number" s_is_number ["value", "least", "most"]) : Ca P w K mg base 1 "is_number" ["value", "least", "most"] (spD K R_is_number) := by
  have S := sc_is_number
  refine ca_Er F S (fun ds d ⟨v, a, b, e, _⟩ => by rw [e]; rfl) fun f cdv A outer s H E ds d hr ⟨v, a, b, e1, hv, e2⟩ => ?_
  subst e1 e2
  by_cases hc : (isBoolD v || !isIntD v) = true
  · have e : isNum v a b = false := by
      cases v <;> first | rfl | (simp [isBoolD, isIntD] at hc)
    rw [e]
    exact er_ifT (et_is (et_w (ew_or (et_val (ee_isi T.isinstance T.bool bt_bool (ee_var 0) hv (kit_bool v))) fun _ => (ew_or1 (et_not (et_val (ee_isi T.isinstance T.int bt_int (ee_var 0) hv (kit_int v))))))) hc) (er_ret ee_bl)
  · obtain ⟨i, rfl⟩ : ∃ i, v = .int i := by
      cases v <;> first | exact ⟨_, rfl⟩ | (simp [isBoolD, isIntD] at hc)
    exact er_ifF (et_w (ew_or (et_val (ee_isi T.isinstance T.bool bt_bool (ee_var 0) hv (kit_bool _))) fun _ => (ew_or1 (et_not (et_val (ee_isi T.isinstance T.int bt_int (ee_var 0) hv (kit_int _)))))))
      (er_ret (ee_lele (ee_var 1) (ee_var 0) (ee_var 2)))

end
end DL
end

section
namespace DL
open PySem PySem.Spec PyProof.Rows L2 RM
abbrev s_check_number : Stmt := topS 9
abbrev N_check_number : List Str := ["value", "most"]
theorem sc_check_number : FnScope N_check_number ["value", "most"] (defScope s_check_number) := ⟨rfl, rfl, rfl, by decide +kernel, rfl, by decide +kernel, by decide +kernel⟩
section
variable {P : Program} {w : World} {K : PySem.W.Frag} {mg : Str → Option Value} {base : Heap}
def R_check_number (ds : List PyData) (d : PyData) : Prop := ∃ n m : Nat, 1 ≤ n ∧ n ≤ m ∧ ds = [iN n, iN m] ∧ d = .none
theorem ok_check_number (F : Fn K mg "check_number" s_check_number ["value", "most"]) (C : Ca P w K mg base 1 "is_number" ["value", "least", "most"] (spD K R_is_number)) : Ca P w K mg base 2 "check_number" ["value", "most"] (spD K R_check_number) := by
  have S := sc_check_number
  refine ca_Ez F S (fun ds d ⟨_, _, _, _, e, _⟩ => by rw [e]; rfl) fun f cdv A outer s H E ds d hr ⟨n, m, h1, h2, e1, e2⟩ => ?_
  subst e1 e2
  refine ⟨rfl, ez_cons (es_ifF (et_is (et_not (et_val (ee_ca C hr (ea_cons (ee_var 0) (ea_cons ee_int (ea_cons (ee_var 1) ea_nil))) ⟨iN n, 1, (m : Int), rfl, (fun x z => by cases z), rfl⟩))) ?q) ess_nil) ez_nil⟩
  case q =>
    show (!(decide ((1 : Int) ≤ n) && decide ((n : Int) ≤ m))) = false
    rw [decide_eq_true (by omega), decide_eq_true (by omega)]; rfl
end
end DL
end

section
namespace DL
open PySem PySem.Spec PyProof.Rows L2
section
variable {X : Cx} {Γ Γ1 Γ2 : Gm} {a b c e tg iter : Expr} {d d1 d2 : PyData} {ds : List PyData} {pos : Pos} {st : Stmt} {sts rest body orelse : List Stmt} {p : Bool} {is : List Nat}
/-- fewer slots are told behind a block -/
theorem ess_wk (h : Ess X Γ sts (.nx Γ1)) (hl : Less Γ2 Γ1) : Ess X Γ sts (.nx Γ2) :=
  pss_imp h fun D σ H ⟨F, ev, x, k⟩ => ⟨F, ev, x, fun σ' F' H' g e => k σ' F' H' (g.right fun a o => hl.own o) (hl.env e)⟩
theorem es_wk (h : Es X Γ st (.nx Γ1)) (hl : Less Γ2 Γ1) : Es X Γ st (.nx Γ2) :=
  ps_imp h fun D σ H ⟨F, ev, x, k⟩ => ⟨F, ev, x, fun σ' F' H' g e => k σ' F' H' (g.right fun a o => hl.own o) (hl.env e)⟩
theorem less_set2 {n m : Nat} {z y : Option Slot} (h : noV Γ [n, m] = true) : Less Γ ((Γ.set n z).set m y) := ⟨by rw [List.length_set, List.length_set], fun i s q => by
  rw [List.getElem?_set_ne (fun e => noV_out h q (by rw [← e]; simp)), List.getElem?_set_ne (fun e => noV_out h q (by rw [← e]; simp))]; exact q⟩
theorem less_set3 {n m l : Nat} {z y x : Option Slot} (h : noV Γ [n, m, l] = true) : Less Γ (((Γ.set n z).set m y).set l x) := ⟨by rw [List.length_set, List.length_set, List.length_set], fun i s q => by
  rw [List.getElem?_set_ne (fun e => noV_out h q (by rw [← e]; simp)), List.getElem?_set_ne (fun e => noV_out h q (by rw [← e]; simp)), List.getElem?_set_ne (fun e => noV_out h q (by rw [← e]; simp))]; exact q⟩
theorem Less.refl (Γ : Gm) : Less Γ Γ := ⟨rfl, fun _ _ h => h⟩
/-- a loop that carries nothing, run through -/
theorem es_forThru (G' : Nat → Gm) (hi : Ei X Γ tg iter ds Γ1) (hg : ∀ i d, ds[i]? = some d → Eg X Γ1 tg d is (G' i)) (hb : ∀ i, i < ds.length → ∃ Γ2, Ess X (G' i) body (.nx Γ2) ∧ Less Γ1 Γ2)
    (hp : PassesOwn (model X.prog X.w) X.A X.env X.xe := by exact PassesOwn.never) (hcm : X.calm = true := by rfl) (hs : ∀ x, foldedSetIterable iter X.env x = pure x := by intro _; rfl) : Es X Γ (.For tg iter body [] pos) (.nx Γ1) :=
  es_for (fun _ => Γ1) G' (fun _ => .nx Γ1) ds.length hp hcm hi (Nat.le_refl _) (fun i d h _ => hg i d h) (fun i h => let ⟨g2, h1, h2⟩ := hb i h; ⟨ess_wk h1 h2, .inl rfl⟩) (.inl ⟨rfl, rfl⟩) hs
/-- a loop that carries nothing, left by a return in its turn n -/
theorem er_forRet (G' : Nat → Gm) (n : Nat) (hi : Ei X Γ tg iter ds Γ1) (hn : n < ds.length) (hg : ∀ i d, ds[i]? = some d → Eg X Γ1 tg d is (G' i)) (hb : ∀ i, i < n → ∃ Γ2, Ess X (G' i) body (.nx Γ2) ∧ Less Γ1 Γ2) (hx : Er X (G' n) body d)
    (hp : PassesOwn (model X.prog X.w) X.A X.env X.xe := by exact PassesOwn.never) (hcm : X.calm = true := by rfl) (hs : ∀ x, foldedSetIterable iter X.env x = pure x := by intro _; rfl) : Er X Γ (.For tg iter body [] pos :: rest) d := by
  obtain ⟨g, hx⟩ := hx
  refine ⟨g, ess_stop (es_for (fun _ => Γ1) G' (fun i => if i < n then .nx Γ1 else .rt d g) n hp hcm hi (Nat.le_of_lt hn) (fun i d h _ => hg i d h) (fun i h => ?_) (.inr ⟨hn, ?_, ?_⟩) hs) (by intro _ z; cases z)⟩
  · obtain ⟨g2, h1, h2⟩ := hb i h
    rw [if_pos h]
    exact ⟨ess_wk h1 h2, .inl rfl⟩
  · rw [if_neg (Nat.lt_irrefl n)]
    exact hx
  · rw [if_neg (Nat.lt_irrefl n)]
    rfl
def forBody (s : Stmt) : List Stmt := match s with
  | .For _ _ b _ _ => b
  | _ => []
def whileBody (s : Stmt) : List Stmt := match s with
  | .While _ b _ _ => b
  | _ => []
def ifBody (s : Stmt) : List Stmt := match s with
  | .If _ b _ _ => b
  | _ => []
def stAt (l : List Stmt) (i : Nat) : Stmt := l.getD i (.Pass ⟨0, 0, 0, 0⟩)
/-- the first place where a test fails -/
theorem first_fail (f : Nat → Bool) : ∀ n, (∀ i, i < n → f i = true) ∨ ∃ m, m < n ∧ f m = false ∧ ∀ i, i < m → f i = true
  | 0 => .inl fun i h => absurd h (Nat.not_lt_zero i)
  | n + 1 => by
    rcases first_fail f n with h | ⟨m, h1, h2, h3⟩
    · cases hf : f n with
      | true =>
        left
        intro i hi
        by_cases e : i = n
        · subst e; exact hf
        · exact h i (by omega)
      | false => exact .inr ⟨n, Nat.lt_succ_self n, hf, h⟩
    · exact .inr ⟨m, by omega, h2, h3⟩
/-! order of data -/
def rLeDd (K : PySem.W.Frag) : R2 := fun x y H Q => ∃ d e, Dp K H x d ∧ Dp K H y e ∧ PySem.W.alike d e = true ∧ d ≠ .none ∧ d.depth ≤ 60 ∧ Q (.bl (!PySem.W.dataLt e d)) H
theorem op_leDd {k : Nat} (hr : Room k X.A) : OpR X (compareOp .LtE) (rLeDd X.K) := by
  intro pins s σ H x y v u Q I rx ry h
  obtain ⟨d, e, hd, he, ha, hn, hdep, q⟩ := h
  obtain ⟨as, r1⟩ := Dp.reads I d x v hd rx
  obtain ⟨bs, r2⟩ := Dp.reads I e y u he ry
  refine PySem.W.le_data r1 r2 ha hn ?_ ⟨.bl _, H, I, rfl, q⟩
  have := hr.un
  have : min d.depth e.depth ≤ d.depth := Nat.min_le_left _ _
  omega
theorem et_leD {k : Nat} (hr : Room k X.A) (ha : Ee X Γ a d1 Γ1) (hb : Ee X Γ1 b d2 Γ2) (h1 : d1.canLay0 = true) (h2 : d2.canLay0 = true) (hal : PySem.W.alike d1 d2 = true) (hn : d1 ≠ .none) (hdep : d1.depth ≤ 60) : Et X Γ (.Compare a [.LtE] [b] pos) (!PySem.W.dataLt d2 d1) Γ2 :=
  et_cmpR (op_leDd hr) ha hb (rd_here fun F H x y Q e hx hy => ⟨.bl _, .bl _, fun q => ⟨d1, d2, Dd.dp e _ _ h1 hx, Dd.dp e _ _ h2 hy, hal, hn, hdep, q⟩⟩) (nomark _)
theorem alike_ii (x y x' y' : Int) : PySem.W.alike (.tuple [.int x, .int y]) (.tuple [.int x', .int y']) = true := by simp [PySem.W.alike, PySem.W.alikeAll]
end
end DL
end

section
/-! Orders on pairs and rows of pairs; how often a map is done to come back. -/
namespace RM
def pLt (a b : Nat × Nat) : Bool := decide (a.1 < b.1 ∨ (a.1 = b.1 ∧ a.2 < b.2))
def rLt {α : Type} [DecidableEq α] (lt : α → α → Bool) : List α → List α → Bool
  | [], [] => false
  | [], _ :: _ => true
  | _ :: _, [] => false
  | x :: xs, y :: ys => if x = y then rLt lt xs ys else lt x y
/-- a strict order on all -/
structure Ordd {α : Type} (lt : α → α → Bool) : Prop where
  ir : ∀ a, lt a a = false
  tr : ∀ a b c, lt a b = true → lt b c = true → lt a c = true
  tri : ∀ a b, lt a b = false → lt b a = false → a = b
abbrev le_ {α : Type} (lt : α → α → Bool) (a b : α) : Bool := !lt b a
theorem ordN : Ordd (fun a b : Nat => decide (a < b)) := ⟨fun a => by simp, fun a b c h1 h2 => by simp at *; omega, fun a b h1 h2 => by simp at *; omega⟩
theorem ordP : Ordd pLt := ⟨fun a => by simp [pLt], fun a b c h1 h2 => by simp [pLt] at *; omega, fun a b h1 h2 => by
  simp [pLt] at *
  exact Prod.ext (by omega) (by omega)⟩
section
variable {α : Type} [DecidableEq α] {lt : α → α → Bool}
theorem rLt_ir (o : Ordd lt) : ∀ xs : List α, rLt lt xs xs = false
  | [] => rfl
  | x :: xs => by rw [rLt, if_pos rfl, rLt_ir o xs]
theorem rLt_tr (o : Ordd lt) : ∀ xs ys zs : List α, rLt lt xs ys = true → rLt lt ys zs = true → rLt lt xs zs = true
  | [], [], _, h, _ => by simp [rLt] at h
  | _ :: _, [], _, h, _ => by simp [rLt] at h
  | _, _ :: _, [], _, h => by simp [rLt] at h
  | [], _ :: _, _ :: _, _, _ => rfl
  | x :: xs, y :: ys, z :: zs, h1, h2 => by
    simp only [rLt] at *
    by_cases e1 : x = y
    · subst e1
      rw [if_pos rfl] at h1
      by_cases e2 : x = z
      · subst e2
        rw [if_pos rfl] at h2 ⊢
        exact rLt_tr o _ _ _ h1 h2
      · rw [if_neg e2] at h2 ⊢
        exact h2
    · rw [if_neg e1] at h1
      by_cases e2 : y = z
      · subst e2
        rw [if_neg e1]
        exact h1
      · rw [if_neg e2] at h2
        have h3 := o.tr _ _ _ h1 h2
        rw [if_neg (fun e => by subst e; rw [o.ir] at h3; cases h3)]
        exact h3
theorem rLt_tri (o : Ordd lt) : ∀ xs ys : List α, rLt lt xs ys = false → rLt lt ys xs = false → xs = ys
  | [], [], _, _ => rfl
  | [], _ :: _, h, _ => by simp [rLt] at h
  | _ :: _, [], _, h => by simp [rLt] at h
  | x :: xs, y :: ys, h1, h2 => by
    simp only [rLt] at *
    by_cases e : x = y
    · subst e
      rw [if_pos rfl] at h1 h2
      rw [rLt_tri o _ _ h1 h2]
    · rw [if_neg e] at h1
      rw [if_neg (Ne.symm e)] at h2
      exact absurd (o.tri _ _ h1 h2) e
theorem ordR (o : Ordd lt) : Ordd (rLt lt) := ⟨rLt_ir o, rLt_tr o, rLt_tri o⟩
end
section
variable {α : Type} {lt : α → α → Bool}
theorem Ordd.asym (o : Ordd lt) {a b : α} (h : lt a b = true) : lt b a = false := by
  cases h2 : lt b a with
  | false => rfl
  | true => have := o.tr _ _ _ h h2; rw [o.ir] at this; cases this
theorem Ordd.letr (o : Ordd lt) (a b c : α) (h1 : le_ lt a b = true) (h2 : le_ lt b c = true) : le_ lt a c = true := by
  simp only [le_, Bool.not_eq_true'] at *
  cases h : lt c a with
  | false => rfl
  | true =>
    cases h3 : lt a b with
    | true => rw [o.tr _ _ _ h h3] at h2; cases h2
    | false => rw [o.tri _ _ h3 h1] at h; rw [h2] at h; cases h
theorem Ordd.tot (o : Ordd lt) (a b : α) : (le_ lt a b || le_ lt b a) = true := by
  simp only [le_]
  cases h : lt b a with
  | false => rfl
  | true => rw [o.asym h]; rfl
theorem sort_up (o : Ordd lt) (l : List α) : (l.mergeSort (le_ lt)).Pairwise (fun a b => le_ lt a b = true) := List.pairwise_mergeSort (o.letr) (o.tot) l
theorem sort_same (o : Ordd lt) {l m : List α} (hp : l.Perm m) : l.mergeSort (le_ lt) = m.mergeSort (le_ lt) :=
  List.Perm.eq_of_pairwise (le := fun a b => le_ lt a b = true) (fun a b _ _ h1 h2 => by
    simp only [le_, Bool.not_eq_true'] at h1 h2
    exact o.tri _ _ h2 h1) (sort_up o l) (sort_up o m) ((List.mergeSort_perm l _).trans (hp.trans (List.mergeSort_perm m _).symm))
theorem le_of_lt (o : Ordd lt) {l : List α} (h : l.Pairwise fun a b => lt a b = true) : l.Pairwise (fun a b => le_ lt a b = true) := h.imp fun {a b} h => by simp only [le_]; rw [o.asym h]; rfl
/-- an ascending row is what sorting gives of a row with the same things -/
theorem sort_is (o : Ordd lt) {l m : List α} (hp : l.Perm m) (h : l.Pairwise fun a b => lt a b = true) : m.mergeSort (le_ lt) = l := by
  rw [← sort_same o hp]
  exact List.mergeSort_of_pairwise (le_of_lt o h)
theorem asc_nodup (o : Ordd lt) {l : List α} (h : l.Pairwise fun a b => lt a b = true) : l.Nodup := h.imp fun {a b} h e => by subst e; rw [o.ir] at h; cases h
theorem sort_asc (o : Ordd lt) {l : List α} (h : l.Nodup) : (l.mergeSort (le_ lt)).Pairwise fun a b => lt a b = true := by
  have h1 := sort_up o l
  have h2 : (l.mergeSort (le_ lt)).Nodup := (List.mergeSort_perm l _).nodup_iff.mpr h
  exact (h1.and h2).imp fun {a b} ⟨h, n⟩ => by
    simp only [le_, Bool.not_eq_true'] at h
    cases h3 : lt a b with
    | true => rfl
    | false => exact absurd (o.tri _ _ h3 h) n
end
theorem allPairs_asc (n : Nat) : (allPairs n).Pairwise fun a b => pLt a b = true := by
  unfold allPairs
  rw [List.pairwise_flatMap]
  constructor
  · intro x _
    rw [List.pairwise_map]
    exact List.pairwise_lt_range.imp fun {a b} h => by simp [pLt]; omega
  · exact List.pairwise_lt_range.imp fun {a b} h x hx y hy => by
      rw [List.mem_map] at hx hy
      obtain ⟨_, _, rfl⟩ := hx
      obtain ⟨_, _, rfl⟩ := hy
      simp [pLt]; omega
theorem perm_range {t : List Nat} (h1 : t.Nodup) (h2 : ∀ x ∈ t, x < t.length) : t.Perm (List.range t.length) := by
  rw [List.perm_ext_iff_of_nodup h1 List.nodup_range]
  intro a
  rw [List.mem_range]
  constructor
  · exact h2 a
  · intro ha
    apply Classical.byContradiction
    intro hn
    have h3 : (a :: t).Nodup := List.nodup_cons.mpr ⟨hn, h1⟩
    have h4 := h3.length_le_of_subset (l₂ := List.range t.length) (fun x hx => by
      rw [List.mem_range]
      rcases List.mem_cons.mp hx with e | e
      · subst e; exact ha
      · exact h2 x e)
    rw [List.length_range, List.length_cons] at h4
    omega
theorem turn_sorted {t : List Nat} (h : IsTurn t) : t.mergeSort (le_ fun a b : Nat => decide (a < b)) = List.range t.length :=
  sort_is ordN (perm_range h.2.2.1 h.2.2.2).symm (List.pairwise_lt_range.imp fun {a b} h => decide_eq_true h)
/-! ### coming back -/
section
variable {α : Type} {f : α → α} {a : α}
theorem itr_add (n m : Nat) : itr f (n + m) a = itr f n (itr f m a) := by
  induction n with
  | zero => rw [Nat.zero_add]; rfl
  | succ n ih => rw [Nat.succ_add]; show f _ = f _; rw [ih]
theorem itr_succ (n : Nat) : itr f (n + 1) a = itr f n (f a) := itr_add n 1
theorem itr_mem {L : List α} (h : ∀ x ∈ L, f x ∈ L) (ha : a ∈ L) : ∀ n, itr f n a ∈ L
  | 0 => ha
  | n + 1 => h _ (itr_mem h ha n)
theorem itr_inj {L : List α} (h : ∀ x ∈ L, f x ∈ L) (hi : ∀ x ∈ L, ∀ y ∈ L, f x = f y → x = y) {b : α} (ha : a ∈ L) (hb : b ∈ L) : ∀ n, itr f n a = itr f n b → a = b
  | 0, e => e
  | n + 1, e => itr_inj h hi ha hb n (hi _ (itr_mem h ha n) _ (itr_mem h hb n) e)
theorem ex_back {L : List α} (h : ∀ x ∈ L, f x ∈ L) (hi : ∀ x ∈ L, ∀ y ∈ L, f x = f y → x = y) (ha : a ∈ L) : ∃ k, 1 ≤ k ∧ k ≤ L.length ∧ itr f k a = a := by
  have hn : ¬ ((List.range (L.length + 1)).map fun i => itr f i a).Nodup := fun hn => by
    have := hn.length_le_of_subset (l₂ := L) (fun x hx => by
      obtain ⟨i, _, rfl⟩ := List.mem_map.mp hx
      exact itr_mem h ha i)
    rw [List.length_map, List.length_range] at this
    omega
  have : ∃ i j, i < j ∧ j ≤ L.length ∧ itr f i a = itr f j a := by
    apply Classical.byContradiction
    intro hc
    apply hn
    rw [List.nodup_iff_pairwise_ne, List.pairwise_map]
    rw [List.pairwise_iff_getElem]
    intro i j hi hj hij e
    rw [List.length_range] at hi hj
    rw [List.getElem_range, List.getElem_range] at e
    exact hc ⟨i, j, hij, by omega, e⟩
  obtain ⟨i, j, hij, hj, e⟩ := this
  refine ⟨j - i, by omega, by omega, ?_⟩
  rw [show j = i + (j - i) by omega, itr_add] at e
  exact (itr_inj h hi ha (itr_mem h ha _) i e).symm
theorem least {p : Nat → Prop} : ∀ n, p n → ∃ m, m ≤ n ∧ p m ∧ ∀ i, i < m → ¬ p i := by
  intro n
  induction n using Nat.strongRecOn with
  | ind n ih =>
    intro hp
    by_cases h : ∃ m, m < n ∧ p m
    · obtain ⟨m, hm, hpm⟩ := h
      obtain ⟨l, hl, hpl, hh⟩ := ih m hm hpm
      exact ⟨l, by omega, hpl, hh⟩
    · exact ⟨n, Nat.le_refl n, hp, fun i hi hpi => h ⟨i, hi, hpi⟩⟩
theorem ex_per {L : List α} (h : ∀ x ∈ L, f x ∈ L) (hi : ∀ x ∈ L, ∀ y ∈ L, f x = f y → x = y) (ha : a ∈ L) : ∃ k, k ≤ L.length ∧ IsPer f a k := by
  obtain ⟨k, k1, k2, k3⟩ := ex_back h hi ha
  obtain ⟨m, m1, ⟨m2, m3⟩, m4⟩ := least (p := fun k => 1 ≤ k ∧ itr f k a = a) k ⟨k1, k3⟩
  exact ⟨m, by omega, m2, m3, fun i i1 i2 e => m4 i i2 ⟨i1, e⟩⟩
end
/-- how often, worked out -/
def perN {α : Type} [DecidableEq α] (f : α → α) (a : α) (m : Nat) : Nat := (((List.range m).find? fun k => decide (itr f (k + 1) a = a)).getD 0) + 1
theorem per_is {α : Type} [DecidableEq α] {f : α → α} {a : α} {k m : Nat} (h : IsPer f a k) (hm : k ≤ m) : perN f a m = k := by
  obtain ⟨h1, h2, h3⟩ := h
  have : (List.range m).find? (fun k => decide (itr f (k + 1) a = a)) = some (k - 1) := by
    rw [List.find?_range_eq_some]
    refine ⟨decide_eq_true (by rw [show k - 1 + 1 = k by omega]; exact h2), List.mem_range.mpr (by omega), fun j hj => ?_⟩
    rw [decide_eq_false (h3 (j + 1) (by omega) (by omega))]
    rfl
  unfold perN
  rw [this]
  show k - 1 + 1 = k
  omega
theorem at_mem {t : List Nat} (h : IsTurn t) : ∀ x ∈ List.range t.length, at_ t x ∈ List.range t.length := fun x hx => by
  have hx := List.mem_range.mp hx
  unfold at_
  rw [List.mem_range, List.getD_eq_getElem?_getD, List.getElem?_eq_getElem hx]
  exact h.2.2.2 _ (List.getElem_mem hx)
theorem at_inj {t : List Nat} (h : IsTurn t) : ∀ x ∈ List.range t.length, ∀ y ∈ List.range t.length, at_ t x = at_ t y → x = y := fun x hx y hy e => by
  have hx := List.mem_range.mp hx
  have hy := List.mem_range.mp hy
  unfold at_ at e
  rw [List.getD_eq_getElem?_getD, List.getElem?_eq_getElem hx, List.getD_eq_getElem?_getD, List.getElem?_eq_getElem hy] at e
  exact (List.getElem_inj h.2.2.1).mp e
theorem led_mem {t : List Nat} (h : IsTurn t) : ∀ p ∈ allPairs t.length, ledPair t p ∈ allPairs t.length := fun p hp => by
  obtain ⟨h1, h2⟩ := mem_allPairs.mp hp
  have a1 := List.mem_range.mp (at_mem h p.1 (List.mem_range.mpr (by omega)))
  have a2 := List.mem_range.mp (at_mem h p.2 (List.mem_range.mpr h2))
  have ne : at_ t p.1 ≠ at_ t p.2 := fun e => by
    have := at_inj h p.1 (List.mem_range.mpr (by omega)) p.2 (List.mem_range.mpr h2) e
    omega
  rw [mem_allPairs]
  unfold ledPair
  simp only
  omega
theorem led_inj {t : List Nat} (h : IsTurn t) : ∀ p ∈ allPairs t.length, ∀ q ∈ allPairs t.length, ledPair t p = ledPair t q → p = q := fun p hp q hq e => by
  obtain ⟨p1, p2⟩ := mem_allPairs.mp hp
  obtain ⟨q1, q2⟩ := mem_allPairs.mp hq
  have inj := fun x y (hx : x < t.length) (hy : y < t.length) => at_inj h x (List.mem_range.mpr hx) y (List.mem_range.mpr hy)
  have i1 := inj p.1 q.1 (by omega) (by omega)
  have i2 := inj p.1 q.2 (by omega) (by omega)
  have i3 := inj p.2 q.1 (by omega) (by omega)
  have i4 := inj p.2 q.2 (by omega) (by omega)
  unfold ledPair at e
  injection e with e1 e2
  have : (at_ t p.1 = at_ t q.1 ∧ at_ t p.2 = at_ t q.2) ∨ (at_ t p.1 = at_ t q.2 ∧ at_ t p.2 = at_ t q.1) := by omega
  rcases this with ⟨a, b⟩ | ⟨a, b⟩
  · exact Prod.ext (i1 a) (i4 b)
  · have := i2 a; have := i3 b; omega
/-- how often a hall, a pair comes back -/
def hPer (t : List Nat) (x : Nat) : Nat := perN (at_ t) x t.length
def pPer (t : List Nat) (p : Nat × Nat) : Nat := perN (ledPair t) p (allPairs t.length).length
theorem hPer_is {t : List Nat} (h : IsTurn t) {x : Nat} (hx : x < t.length) : IsPer (at_ t) x (hPer t x) ∧ hPer t x ≤ t.length := by
  obtain ⟨k, h1, h2⟩ := ex_per (at_mem h) (at_inj h) (List.mem_range.mpr hx)
  rw [List.length_range] at h1
  have : hPer t x = k := per_is h2 h1
  rw [this]; exact ⟨h2, h1⟩
theorem pPer_is {t : List Nat} (h : IsTurn t) {p : Nat × Nat} (hp : p ∈ allPairs t.length) : IsPer (ledPair t) p (pPer t p) ∧ pPer t p ≤ (allPairs t.length).length := by
  obtain ⟨k, h1, h2⟩ := ex_per (led_mem h) (led_inj h) hp
  have : pPer t p = k := per_is h2 h1
  rw [this]; exact ⟨h2, h1⟩
def hRing (t : List Nat) (x : Nat) : List Nat := ringN (at_ t) x (hPer t x)
def pRing (t : List Nat) (p : Nat × Nat) : List (Nat × Nat) := ringN (ledPair t) p (pPer t p)
end RM
end

section
namespace DL
open PySem PySem.Spec PyProof.Rows L2 RM
open PySem.W (AlikeAll minD AllAlike Sortable dataLe alike alikeAll dataLt rowLt)
/-! order of encoded things -/
theorem dLe_is {α : Type} {enc : α → PyData} {lt : α → α → Bool} (h : ∀ a b, dataLt (enc a) (enc b) = lt a b) (a b : α) : dLe (enc a) (enc b) = le_ lt a b := by
  show (!dataLt (enc b) (enc a)) = _
  rw [h]
theorem sort_enc {α : Type} {enc : α → PyData} {lt : α → α → Bool} (h : ∀ a b, dataLt (enc a) (enc b) = lt a b) (xs : List α) : (xs.map enc).mergeSort dLe = (xs.mergeSort (le_ lt)).map enc :=
  (PySem.W.sort_maps (r := le_ lt) (s := dLe) enc (l := xs) (fun a _ b _ => (dLe_is h a b).symm)).symm
theorem min_enc {α : Type} {enc : α → PyData} {lt : α → α → Bool} (h : ∀ a b, dataLt (enc a) (enc b) = lt a b) : ∀ (xs : List α) (x : α), minD (enc x) (xs.map enc) = enc (xs.foldl (fun a y => if lt y a = true then y else a) x)
  | [], x => rfl
  | y :: ys, x => by
    have e : minD (enc x) ((y :: ys).map enc) = minD (if dataLt (enc y) (enc x) = true then enc y else enc x) (ys.map enc) := rfl
    rw [e, h, ← apply_ite enc, min_enc h ys]
    rfl
theorem lt_iN (a b : Nat) : dataLt (iN a) (iN b) = decide (a < b) := by
  unfold iN
  rw [PySem.W.dataLt_int]
  by_cases h : a < b
  · rw [decide_eq_true h, decide_eq_true (by omega)]
  · rw [decide_eq_false h, decide_eq_false (by omega)]
theorem lt_pN (a b : Nat × Nat) : dataLt (pN a) (pN b) = pLt a b := by
  unfold pN iN pLt
  rw [PySem.W.dataLt_ii]
  by_cases h : a.1 < b.1 ∨ (a.1 = b.1 ∧ a.2 < b.2)
  · rw [decide_eq_true h, decide_eq_true (by omega)]
  · rw [decide_eq_false h, decide_eq_false (by omega)]
theorem al_iN (a b : Nat) : alike (iN a) (iN b) = true := by simp [iN, alike]
theorem al_pN (a b : Nat × Nat) : alike (pN a) (pN b) = true := by simp [pN, iN, alike, alikeAll]
theorem al_all {α : Type} {enc : α → PyData} (h : ∀ a b, alike (enc a) (enc b) = true) : ∀ xs ys : List α, alikeAll (xs.map enc) (ys.map enc) = true
  | [], _ => by simp [alikeAll]
  | _ :: _, [] => by simp [alikeAll]
  | x :: xs, y :: ys => by
    rw [List.map_cons, List.map_cons, alikeAll, h, al_all h xs ys]; rfl
theorem al_tup {α : Type} {enc : α → PyData} (h : ∀ a b, alike (enc a) (enc b) = true) (xs ys : List α) : alike (.tuple (xs.map enc)) (.tuple (ys.map enc)) = true := by
  rw [alike]; exact al_all h xs ys
theorem al_lst {α : Type} {enc : α → PyData} (h : ∀ a b, alike (enc a) (enc b) = true) (xs ys : List α) : alike (.list (xs.map enc)) (.list (ys.map enc)) = true := by
  rw [alike]; exact al_all h xs ys
theorem row_nil_cons (y : PyData) (ys : List PyData) : rowLt [] (y :: ys) = true := by
  unfold rowLt
  rw [PySem.W.toks_all_cons]
  simp only [PySem.W.keyToksAll]
  rw [PyProof.Rows.lex_diff (O := itemOrd) (by simp)]
  rfl
theorem row_cons_nil (y : PyData) (ys : List PyData) : rowLt (y :: ys) [] = false := by
  unfold rowLt
  rw [PySem.W.toks_all_cons]
  simp only [PySem.W.keyToksAll]
  rw [PyProof.Rows.lex_diff (O := itemOrd) (by simp)]
  rfl
theorem lt_row {α : Type} [DecidableEq α] {enc : α → PyData} {lt : α → α → Bool} (h : ∀ a b, dataLt (enc a) (enc b) = lt a b) (he : ∀ a b, PyData.eqv (enc a) (enc b) = decide (a = b)) (ha : ∀ a b, alike (enc a) (enc b) = true) : ∀ xs ys : List α, rowLt (xs.map enc) (ys.map enc) = rLt lt xs ys
  | [], [] => by unfold rowLt; exact PyProof.Rows.lex_irrefl _
  | [], _ :: _ => row_nil_cons _ _
  | _ :: _, [] => row_cons_nil _ _
  | x :: xs, y :: ys => by
    have e := PySem.W.dataLt_cons (ha x y) (xs.map enc) (ys.map enc)
    rw [he, h] at e
    have ih := lt_row h he ha xs ys
    unfold rowLt at ih ⊢
    rw [List.map_cons, List.map_cons, e, ih, rLt]
    by_cases h1 : x = y <;> simp [h1]
theorem lt_tup {α : Type} [DecidableEq α] {enc : α → PyData} {lt : α → α → Bool} (h : ∀ a b, dataLt (enc a) (enc b) = lt a b) (he : ∀ a b, PyData.eqv (enc a) (enc b) = decide (a = b)) (ha : ∀ a b, alike (enc a) (enc b) = true) (xs ys : List α) : dataLt (.tuple (xs.map enc)) (.tuple (ys.map enc)) = rLt lt xs ys := by
  rw [PySem.W.dataLt_tuple]; exact lt_row h he ha xs ys
/-! rows of pairs, nets of n halls -/
abbrev rN (S : List (Nat × Nat)) : PyData := .tuple (S.map pN)
def nN (n : Nat) (S : List (Nat × Nat)) : PyData := .tuple [iN n, rN S]
theorem rN_eqv (S U : List (Nat × Nat)) : PyData.eqv (rN S) (rN U) = decide (S = U) := eqv_tup pN_eqv S U
theorem lt_rN (S U : List (Nat × Nat)) : dataLt (rN S) (rN U) = rLt pLt S U := lt_tup lt_pN pN_eqv al_pN S U
theorem al_rN (S U : List (Nat × Nat)) : alike (rN S) (rN U) = true := al_tup al_pN S U
theorem nN_eqv (n : Nat) (S U : List (Nat × Nat)) : PyData.eqv (nN n S) (nN n U) = decide (S = U) := by
  have : PyData.eqv (nN n S) (nN n U) = (PyData.eqv (iN n) (iN n) && (PyData.eqv (rN S) (rN U) && true)) := by simp only [nN, PyData.eqv, PyData.eqvAll]
  rw [this, iN_eqv, rN_eqv, decide_eq_true rfl, Bool.true_and, Bool.and_true]
theorem al_nN (n : Nat) (S U : List (Nat × Nat)) : alike (nN n S) (nN n U) = true := by
  unfold nN
  rw [alike]
  simp only [alikeAll]
  rw [al_iN, al_rN]; rfl
theorem lt_nN (n : Nat) (S U : List (Nat × Nat)) : dataLt (nN n S) (nN n U) = rLt pLt S U := by
  unfold nN
  rw [PySem.W.dataLt_pair (al_iN n n) (al_rN S U), iN_eqv, decide_eq_true rfl, if_pos rfl, rN_eqv, lt_rN]
  by_cases h : S = U
  · subst h; rw [decide_eq_true rfl, if_pos rfl, rLt_ir ordP]
  · rw [decide_eq_false h, if_neg (by simp)]
theorem rN_lay (S : List (Nat × Nat)) : (rN S).canLay0 = true := lay_tup pN_lay
theorem rN_dep (S : List (Nat × Nat)) : (rN S).depth ≤ 2 := dep_tup fun x => by rw [pN_dep]; decide
theorem nN_lay (n : Nat) (S : List (Nat × Nat)) : (nN n S).canLay0 = true := by
  unfold nN
  rw [PyData.canLay0, PyData.canLayAll0, iN_lay, PyData.canLayAll0, rN_lay, PyData.canLayAll0]; rfl
theorem nN_dep (n : Nat) (S : List (Nat × Nat)) : (nN n S).depth ≤ 3 := by
  unfold nN
  rw [PyData.depth, PyData.depthAll, iN_dep, PyData.depthAll, PyData.depthAll]
  have := rN_dep S
  omega
theorem sh_rN (S : List (Nat × Nat)) : SeqAt.shaped (rN S) = true := shaped_of (rN_lay S) (Nat.le_trans (rN_dep S) (by decide))
theorem sh_nN (n : Nat) (S : List (Nat × Nat)) : SeqAt.shaped (nN n S) = true := shaped_of (nN_lay n S) (Nat.le_trans (nN_dep n S) (by decide))
theorem sh_pNs (S : List (Nat × Nat)) : SeqAt.shaped (.list (S.map pN)) = true := sh_lst S pN_lay fun x => by rw [pN_dep]; decide
theorem sh_iNs (t : List Nat) : SeqAt.shaped (.list (t.map iN)) = true := sh_lst t iN_lay (fun x => by rw [iN_dep]; decide)
theorem sh_tn (t : List Nat) : SeqAt.shaped (tn t) = true := sh_tup t iN_lay (fun x => by rw [iN_dep]; decide)
theorem sb_iN (t : List Nat) : Sortable (t.map iN) := .others fun b => ⟨(by intro z; cases z), fun xs z => by cases z⟩
theorem sb_pN (S : List (Nat × Nat)) : Sortable (S.map pN) := .tuples fun b => ⟨_, _, rfl⟩
theorem sb_nN (n : Nat) (L : List (List (Nat × Nat))) : Sortable (L.map (nN n)) := .tuples fun b => ⟨_, _, rfl⟩
section
variable {X : Cx} {Γ Γ1 : Gm} {e : Expr} {d : PyData} {pos pp : Pos} {kk : Nat}
/-- sorted, of encoded things -/
theorem en_sortE {α : Type} {enc : α → PyData} {lt : α → α → Bool} {xs : List α} (hlt : ∀ a b, dataLt (enc a) (enc b) = lt a b) (hal : ∀ a b, alike (enc a) (enc b) = true) (hlay : ∀ a, (enc a).canLay0 = true) (hdp : ∀ a, (enc a).depth ≤ 60) (hk : Sortable (xs.map enc)) (hr : Room kk X.A) (hm : X.mg "sorted" = none) (h : Ea X Γ [e] [d] Γ1) (hi : itemsOf d = some (xs.map enc)) (hg : Gl X "sorted" := by rfl)
    (he : starEach [e] X.env = (false, eval e X.env) :: starEach [] X.env := by rfl) : En X Γ (.Call (.Name "sorted" pp) [e] [] pos) ((xs.mergeSort (le_ lt)).map enc) Γ1 :=
  sort_enc hlt xs ▸ en_sort hr hm h hi (.of hal) hk (lay_all fun x _ => hlay x) (dep_all fun x _ => hdp x) hg he
theorem en_sortI {t : List Nat} (hr : Room kk X.A) (hm : X.mg "sorted" = none) (h : Ea X Γ [e] [d] Γ1) (hi : itemsOf d = some (t.map iN)) (hg : Gl X "sorted" := by rfl)
    (he : starEach [e] X.env = (false, eval e X.env) :: starEach [] X.env := by rfl) : En X Γ (.Call (.Name "sorted" pp) [e] [] pos) ((t.mergeSort (le_ fun a b : Nat => decide (a < b))).map iN) Γ1 :=
  en_sortE lt_iN al_iN iN_lay (fun a => by rw [iN_dep]; decide) (sb_iN t) hr hm h hi hg he
theorem en_sortP {S : List (Nat × Nat)} (hr : Room kk X.A) (hm : X.mg "sorted" = none) (h : Ea X Γ [e] [d] Γ1) (hi : itemsOf d = some (S.map pN)) (hg : Gl X "sorted" := by rfl)
    (he : starEach [e] X.env = (false, eval e X.env) :: starEach [] X.env := by rfl) : En X Γ (.Call (.Name "sorted" pp) [e] [] pos) ((S.mergeSort (le_ pLt)).map pN) Γ1 :=
  en_sortE lt_pN al_pN pN_lay (fun a => by rw [pN_dep]; decide) (sb_pN S) hr hm h hi hg he
theorem en_sortN {n : Nat} {L : List (List (Nat × Nat))} (hr : Room kk X.A) (hm : X.mg "sorted" = none) (h : Ea X Γ [e] [d] Γ1) (hi : itemsOf d = some (L.map (nN n))) (hg : Gl X "sorted" := by rfl)
    (he : starEach [e] X.env = (false, eval e X.env) :: starEach [] X.env := by rfl) : En X Γ (.Call (.Name "sorted" pp) [e] [] pos) ((L.mergeSort (le_ (rLt pLt))).map (nN n)) Γ1 :=
  en_sortE (lt_nN n) (al_nN n) (nN_lay n) (fun a => Nat.le_trans (nN_dep n a) (by decide)) (sb_nN n L) hr hm h hi hg he
end
end DL
end

section
namespace DL
open PySem PySem.Spec PyProof.Rows L2 RM
section
variable {X : Cx} {Γ Γ1 Γ2 : Gm} {a b c e tg iter : Expr} {d d1 d2 : PyData} {ds : List PyData} {pos : Pos} {st : Stmt} {sts rest body orelse : List Stmt} {p : Bool} {is : List Nat}
theorem getD_map {α : Type} {enc : α → PyData} {xs : List α} {i : Nat} (hi : i < xs.length) : (xs.map enc).getD i .none = enc xs[i] := by
  rw [List.getD_eq_getElem?_getD, List.getElem?_map, List.getElem?_eq_getElem hi]; rfl
/-- a loop that hands back d1 at the first thing that fails -/
theorem er_search {α : Type} {xs : List α} {enc : α → PyData} {f : α → Bool} (Γt : α → Gm) (hi : Ei X Γ tg iter (xs.map enc) Γ1) (hg : ∀ x, x ∈ xs → Eg X Γ1 tg (enc x) is (Γt x))
    (hok : ∀ x, x ∈ xs → f x = true → ∃ Γ2, Ess X (Γt x) body (.nx Γ2) ∧ Less Γ1 Γ2) (hbad : ∀ x, x ∈ xs → f x = false → Er X (Γt x) body d1) (hrest : Er X Γ1 rest d2)
    (hp : PassesOwn (model X.prog X.w) X.A X.env X.xe := by exact PassesOwn.never) (hcm : X.calm = true := by rfl) (hs : ∀ x, foldedSetIterable iter X.env x = pure x := by intro _; rfl) : Er X Γ (.For tg iter body [] pos :: rest) (if xs.all f = true then d2 else d1) := by
  by_cases hne : xs = []
  · subst hne
    exact er_cons (es_forThru (is := is) (fun _ => Γ1) hi (fun i d hd => by simp at hd) (fun i hi => absurd hi (Nat.not_lt_zero i)) hp hcm hs) hrest
  obtain ⟨x0, hx0⟩ : ∃ x, xs.head? = some x := by
    cases xs with
    | nil => exact absurd rfl hne
    | cons x _ => exact ⟨x, rfl⟩
  let g : Nat → Gm := fun i => Γt (xs.getD i x0)
  have ge : ∀ i (hi : i < xs.length), g i = Γt xs[i] := fun i hi => by
    show Γt (xs.getD i x0) = _
    rw [List.getD_eq_getElem?_getD, List.getElem?_eq_getElem hi]; rfl
  have hgt : ∀ i d, (xs.map enc)[i]? = some d → Eg X Γ1 tg d is (g i) := fun i d hd => by
    rw [List.getElem?_map] at hd
    cases h : xs[i]? with
    | none => rw [h] at hd; cases hd
    | some x =>
      rw [h] at hd
      cases hd
      obtain ⟨hl, e⟩ := List.getElem?_eq_some_iff.mp h
      rw [ge i hl, e]
      exact hg x (e ▸ List.getElem_mem hl)
  rcases first_fail (fun i => match xs[i]? with | some x => f x | none => true) xs.length with hall | ⟨m, hm, hf, hlt⟩
  · have ha : xs.all f = true := by
      rw [List.all_eq_true]
      intro x hx
      obtain ⟨i, hi, e⟩ := List.getElem_of_mem hx
      have := hall i hi
      rw [List.getElem?_eq_getElem hi, e] at this
      exact this
    rw [if_pos ha]
    refine er_cons (es_forThru (is := is) g hi hgt (fun i hi => ?_) hp hcm hs) hrest
    rw [List.length_map] at hi
    have := hall i hi
    rw [List.getElem?_eq_getElem hi] at this
    rw [ge i hi]
    exact hok _ (List.getElem_mem hi) this
  · rw [List.getElem?_eq_getElem hm] at hf
    have ha : xs.all f = false := by
      rw [List.all_eq_false]
      exact ⟨xs[m], List.getElem_mem hm, by rw [show f xs[m] = false from hf]; decide⟩
    rw [ha, if_neg (by decide)]
    refine er_forRet (is := is) g m hi (by rw [List.length_map]; exact hm) hgt (fun i hi => ?_) ?_ hp hcm hs
    · have := hlt i hi
      rw [List.getElem?_eq_getElem (by omega)] at this
      rw [ge i (by omega)]
      exact hok _ (List.getElem_mem _) this
    · rw [ge m hm]
      exact hbad _ (List.getElem_mem hm) hf
theorem pe_nm (n : Nat) {x : Str} (hN : X.N[n]? = some x := by rfl) (hv : Vis X.env.scope x := by first | exact Or.inl rfl | exact Or.inr (Or.inl rfl) | exact Or.inr (Or.inr rfl)) (hd : (x == ("__debug__" : Str)) = false := by decide) (hcd : (x == ("__classdict__" : Str)) = false := by decide) : PE X (.Name x pos) (tVar n) := pe_var hN hv hd hcd
/-- `return a` of a comparison's words -/
theorem shp_beq {a b : Bool} : PyData.eqv (.bool a) (.bool b) = (a == b) := by cases a <;> cases b <;> rfl
end
end DL
end

section
namespace DL
open PySem PySem.Spec PyProof.Rows L2
section
variable {X : Cx} {Γ Γ1 Γ2 : Gm} {pos : Pos} {α β : Type}
/-- y = [.. for .. for ..], y a local -/
theorem es_setLc2 {elt tg iter tg1 iter1 : Expr} {scope : Scope} {own : List (Str × Nat)} {vs1 : List Nat} (n : Nat) {y : Str} {py spos : Pos} (xs : List α) (enc : α → PyData) (ys : α → List β) (enc1 : α → β → PyData) (h : α → β → PyData) (Γt : α → Gm) (Γu : α → β → Gm) (is is1 : List Nat) (hc : X.calm = true) (hN : X.N.Nodup) (ok : BlkOk X.N X.env.scope scope own) (hvs : ∀ i ∈ vs1, i ∈ own.map (·.2)) (hv : noV Γ1 (own.map (·.2)) = true)
    (hv1 : ∀ x, x ∈ xs → noV (Γt x) vs1 = true) (his : ∀ i ∈ is, i ∈ own.map (·.2)) (his1 : ∀ i ∈ is1, i ∈ vs1) (hsz : (xs.flatMap ys).length ≤ 16777216) (hless : ∀ x, x ∈ xs → Less Γ1 (Γt x)) (hless1 : ∀ x, x ∈ xs → ∀ y, y ∈ ys x → Less (Γt x) (Γu x y)) (hi : Ei X Γ tg iter (xs.map enc) Γ1)
    (hg : ∀ x, x ∈ xs → ∀ (s : Shared) (H : Hp) (C : Addr) (cl : List (Str × Addr)) (fp : List Addr), Eg (X.blk s H scope (compEnvC scope cl C X.env) fp) Γ1 tg (enc x) is (Γt x))
    (hi1 : ∀ x, x ∈ xs → ∀ (s : Shared) (H : Hp) (C : Addr) (cl : List (Str × Addr)) (fp : List Addr), Ei (X.blk s H scope (compEnvC scope cl C X.env) fp) (Γt x) tg1 iter1 ((ys x).map (enc1 x)) (Γt x))
    (hg1 : ∀ x, x ∈ xs → ∀ y, y ∈ ys x → ∀ (s : Shared) (H : Hp) (C : Addr) (cl : List (Str × Addr)) (fp : List Addr), Eg (X.blk s H scope (compEnvC scope cl C X.env) fp) (Γt x) tg1 (enc1 x y) is1 (Γu x y))
    (he : ∀ x, x ∈ xs → ∀ y, y ∈ ys x → ∀ (s : Shared) (H : Hp) (C : Addr) (cl : List (Str × Addr)) (fp : List Addr), Ee (X.blk s H scope (compEnvC scope cl C X.env) fp) (Γu x y) elt (h x y) (Γu x y))
    (hy : X.N[n]? = some y := by rfl) (hyl : X.env.scope.names.lookup y = some .local := by rfl) (hl : Γ1[n]?.isSome = true := by rfl) (hsw : swapsWith (.ListComp elt [⟨tg, iter, [], 0⟩, ⟨tg1, iter1, [], 0⟩] scope pos) (some (.Name y py)) spos.line X.env = pure true := by exact sw_true rfl rfl rfl (by decide +kernel)) (hs : ∀ x, foldedSetIterable iter X.env x = pure x := by intro _; rfl) (hs1 : ∀ env x, foldedSetIterable iter1 env x = pure x := by intro _ _; rfl) :
    Es X Γ (.Assign [.Name y py] (.ListComp elt [⟨tg, iter, [], 0⟩, ⟨tg1, iter1, [], 0⟩] scope pos) spos) (.nx (Γ1.set n (some (.ow (xs.flatMap fun x => (ys x).map (h x)))))) :=
  ps_imp (ps_setLc2 (g := fun v σ H Q => ∃ x, x ∈ xs ∧ tGt X.K Γ1 (enc x) is (Γt x) v σ H Q) (wi1 := fun σ H R => ∃ x, x ∈ xs ∧ tIt X.K (Γt x) ((ys x).map (enc1 x)) (Γt x) σ H R) (g1 := fun v σ H Q => ∃ x y, x ∈ xs ∧ y ∈ ys x ∧ tGt X.K (Γt x) (enc1 x y) is1 (Γu x y) v σ H Q) (te := fun σ H Q => ∃ x y, x ∈ xs ∧ y ∈ ys x ∧ tE X.K (Γu x y) (h x y) (Γu x y) σ H Q) hc hN hy hyl hsw hi ok hvs
    (fun s H C cl fp => ⟨fun pins s' σ H' v u Q I r ⟨x, hx, hh⟩ => (hg x hx s H C cl fp).run pins s' σ H' v u Q I r hh⟩) (fun s H C cl fp => pts_nil) (fun s H C cl fp => ⟨fun pins s' σ H' R I ⟨x, hx, hh⟩ => (hi1 x hx s H C cl fp).run pins s' σ H' R I hh⟩)
    (fun s H C cl fp => ⟨fun pins s' σ H' v u Q I r ⟨x, y, hx, hy, hh⟩ => (hg1 x hx y hy s H C cl fp).run pins s' σ H' v u Q I r hh⟩) (fun s H C cl fp => pts_nil)
    (fun s H C cl fp => ⟨fun pins s' σ H' Q I ⟨x, y, hx, hy, hh⟩ => (he x hx y hy s H C cl fp).run pins s' σ H' Q I hh⟩) hs hs1) fun D σ H ⟨F, ev, x, kk⟩ =>
    lc2_read hv hv1 hless hless1 his his1 hvs hsz (fun σ H R z => z) (fun x hx v σ H Q z => ⟨x, hx, z⟩) (fun x hx σ H R z => ⟨x, hx, z⟩) (fun x hx y hy v σ H Q z => ⟨x, y, hx, hy, z⟩) (fun x hx y hy σ H Q z => ⟨x, y, hx, hy, z⟩) σ H _ ⟨F, ev, x, fun l zs F1 H1 g1 e1 hF hH hl' ho dv => by
      have hk : KdOk X.K H (Own σ Γ) F1 H1 (Own σ Γ1) (.ref l) (.n (xs.flatMap fun x => (ys x).map (h x))) := ⟨l, zs, rfl, hF, hl', ho, dv, hH⟩
      exact kk _ F1 H1 (g1.storeK e1 hk (some_lt hl)) (e1.storeK hk (some_lt hl))⟩
end
end DL
end

section
/-! What the functions answer. -/
namespace RM
/-- the least of some things -/
def leastOf {α : Type} (lt : α → α → Bool) (x : α) (xs : List α) : α := xs.foldl (fun a y => if lt y a = true then y else a) x
/-- the first is the least -/
def headMin {α : Type} [DecidableEq α] (lt : α → α → Bool) : List α → Bool
  | [] => false
  | x :: xs => decide (x = leastOf lt x xs)
def hRings (t : List Nat) : List (List Nat) := ((List.range t.length).map (hRing t)).filter (headMin fun a b => decide (a < b))
def ringsM (t : List Nat) : List Nat := ((hRings t).map List.length).mergeSort (le_ fun a b : Nat => decide (a < b))
def othersM (t : List Nat) : List Nat := (ringsM t).filter fun n => decide (n % 4 ≠ 0)
def canLeadM (t : List Nat) : Bool := decide (othersM t = []) || decide (othersM t = [1])
def pairRingsM (t : List Nat) : List (List (Nat × Nat)) := ((allPairs t.length).map (pRing t)).filter (headMin pLt)
def countLedM (t : List Nat) : Nat := if canLeadM t = true then 2 ^ (pairRingsM t).length else 0
theorem ring_ne {α : Type} {f : α → α} {a : α} {n : Nat} (h : 1 ≤ n) : ∃ r, ringN f a n = a :: r := by
  obtain ⟨m, rfl⟩ : ∃ m, n = m + 1 := ⟨n - 1, by omega⟩
  unfold ringN
  rw [List.range_succ_eq_map]
  exact ⟨_, rfl⟩
theorem hRing_ne (t : List Nat) (x : Nat) : ∃ r, hRing t x = x :: r := ring_ne (by unfold hPer perN; omega)
theorem pRing_ne (t : List Nat) (p : Nat × Nat) : ∃ r, pRing t p = p :: r := ring_ne (by unfold pPer perN; omega)
theorem ring_len {α : Type} {f : α → α} {a : α} {n : Nat} : (ringN f a n).length = n := by
  unfold ringN
  rw [List.length_map, List.length_range]
/-- every other thing, from the first; from the second -/
def evens {α : Type} : List α → List α
  | [] => []
  | [x] => [x]
  | x :: _ :: r => x :: evens r
def odds {α : Type} (l : List α) : List α := evens l.tail
def ledNetM (t : List Nat) : List (Nat × Nat) := ((pairRingsM t).flatMap evens).mergeSort (le_ pLt)
/-- the lots, ring by ring -/
def lotsStep {α : Type} (L : List (List α)) (r : List α) : List (List α) := L.flatMap fun l => [evens r, odds r].map fun h => l ++ h
def lotsM {α : Type} (R : List (List α)) : List (List α) := R.foldl lotsStep [[]]
def ledNetsM (t : List Nat) : List (List (Nat × Nat)) := if canLeadM t = true then ((lotsM (pairRingsM t)).map fun l => l.mergeSort (le_ pLt)).mergeSort (le_ (rLt pLt)) else []
theorem lots_len {α : Type} (R : List (List α)) : (lotsM R).length = 2 ^ R.length := by
  have step : ∀ (L : List (List α)) (r : List α), (lotsStep L r).length = 2 * L.length := by
    intro L r
    unfold lotsStep
    induction L with
    | nil => rfl
    | cons l L ih => rw [List.flatMap_cons, List.length_append, ih, List.length_cons]; simp; omega
  have go : ∀ (R : List (List α)) (L : List (List α)), (R.foldl lotsStep L).length = L.length * 2 ^ R.length := by
    intro R
    induction R with
    | nil => intro L; simp
    | cons r R ih => intro L; rw [List.foldl_cons, ih, step, List.length_cons, Nat.pow_succ]; rw [Nat.mul_comm 2 L.length, Nat.mul_assoc, Nat.mul_comm 2]
  unfold lotsM
  rw [go]; simp
end RM
end

section
namespace DL
open PySem PySem.Spec PyProof.Rows L2 RM
theorem evens_ix {α : Type} : ∀ (l : List α), (List.range ((l.length + 1) / 2)).filterMap (fun k => l[2 * k]?) = evens l
  | [] => by simp [evens]
  | [x] => by simp [evens]
  | x :: y :: r => by
    have e : ((x :: y :: r).length + 1) / 2 = (r.length + 1) / 2 + 1 := by
      show (r.length + 1 + 1 + 1) / 2 = _
      omega
    rw [e, List.range_succ_eq_map, List.filterMap_cons]
    show x :: _ = x :: evens r
    rw [List.filterMap_map, ← evens_ix r]
    congr 1
theorem odds_ix {α : Type} (l : List α) : (List.range (l.length / 2)).filterMap (fun k => l[1 + 2 * k]?) = odds l := by
  cases l with
  | nil => simp [odds, evens]
  | cons x r =>
    unfold odds
    rw [List.tail_cons, ← evens_ix r]
    show (List.range ((r.length + 1) / 2)).filterMap _ = _
    congr 1
    funext k
    rw [show 1 + 2 * k = 2 * k + 1 by omega, List.getElem?_cons_succ]
theorem pick_evens {α : Type} (l : List α) : pick l none none (some 2) = evens l := by
  unfold pick
  have e1 : sliceBounds none none (some 2) l.length = (0, (l.length : Int), 2) := rfl
  rw [e1, ← evens_ix]
  have e2 : sliceRange 0 (l.length : Int) 2 = (List.range ((l.length + 1) / 2)).map fun k => 2 * k := by
    unfold sliceRange
    have h1 : (if (2 : Int) > 0 then (if (0 : Int) < (l.length : Int) then ((l.length : Int) - 0 + 2 - 1) / 2 else 0) else (if (0 : Int) > l.length then (0 - (l.length : Int) - 2 - 1) / -2 else 0)).toNat = (l.length + 1) / 2 := by
      rw [if_pos (by decide)]
      split <;> omega
    show List.map _ (List.range (_ : Int).toNat) = _
    rw [h1]
    apply List.map_congr_left
    intro k _
    omega
  rw [e2, List.filterMap_map]
  rfl
theorem pick_odds {α : Type} (l : List α) : pick l (some 1) none (some 2) = odds l := by
  unfold pick
  rw [← odds_ix]
  cases l with
  | nil => simp
  | cons x r =>
    have e1 : sliceBounds (some 1) none (some 2) (x :: r).length = (1, ((x :: r).length : Int), 2) := by
      unfold sliceBounds
      have : max 0 (min (1 : Int) ((x :: r).length : Int)) = 1 := by rw [List.length_cons]; omega
      show (max 0 (min (1 : Int) ((x :: r).length : Int)), _, _) = _
      rw [this]; rfl
    rw [e1]
    generalize x :: r = l at *
    have e2 : sliceRange 1 (l.length : Int) 2 = (List.range (l.length / 2)).map fun k => 1 + 2 * k := by
      unfold sliceRange
      have h1 : (if (2 : Int) > 0 then (if (1 : Int) < (l.length : Int) then ((l.length : Int) - 1 + 2 - 1) / 2 else 0) else (if (1 : Int) > l.length then (1 - (l.length : Int) - 2 - 1) / -2 else 0)).toNat = l.length / 2 := by
        rw [if_pos (by decide)]
        split <;> omega
      show List.map _ (List.range (_ : Int).toNat) = _
      rw [h1]
      apply List.map_congr_left
      intro k _
      omega
    rw [e2, List.filterMap_map]
    rfl
theorem evens_map {α β : Type} (f : α → β) : ∀ l : List α, evens (l.map f) = (evens l).map f
  | [] => rfl
  | [_] => rfl
  | x :: y :: r => by
    show f x :: evens (r.map f) = f x :: (evens r).map f
    rw [evens_map f r]
theorem odds_map {α β : Type} (f : α → β) (l : List α) : odds (l.map f) = (odds l).map f := by
  unfold odds
  rw [← List.map_tail, evens_map]
theorem evens_sub {α : Type} : ∀ l : List α, (evens l).Sublist l
  | [] => .slnil
  | [x] => List.Sublist.refl _
  | x :: y :: r => .cons_cons x (.cons y (evens_sub r))
theorem odds_sub {α : Type} (l : List α) : (odds l).Sublist l := (evens_sub _).trans (List.tail_sublist l)
section
variable {X : Cx} {Γ Γ1 : Gm} {e : Expr} {pos : Pos} {α : Type} {enc : α → PyData} {xs : List α}
/-- r[::2], r[1::2] -/
theorem ee_evens {kk : Nat} {p2 p3 : Pos} (he : Ee X Γ e (.list (xs.map enc)) Γ1) (hop : subscriptTail e (.Slice none none (some (.Constant (.int (2 : Nat)) kk p2)) p3) = subscriptTail e (.Slice none none (some (.Constant (.int (2 : Nat)) kk p2)) p3) := by rfl) :
    Ee X Γ (.Subscript e (.Slice none none (some (.Constant (.int 2) kk p2)) p3) pos) (.list ((evens xs).map enc)) Γ1 :=
  ee_is (ee_new (en_sliceStep (n := 2) (l := none) (tl := fun σ H Q => Q none H) (by decide) he po_none (fun _ _ _ q => q) hop)) (by rw [show ((2 : Nat) : Int) = 2 from rfl, pick_evens, evens_map])
theorem ee_odds {kk k2 : Nat} {p2 p3 p4 : Pos} (he : Ee X Γ e (.list (xs.map enc)) Γ1) (hop : subscriptTail e (.Slice (some (.Constant (.int 1) k2 p4)) none (some (.Constant (.int (2 : Nat)) kk p2)) p3) = subscriptTail e (.Slice (some (.Constant (.int 1) k2 p4)) none (some (.Constant (.int (2 : Nat)) kk p2)) p3) := by rfl) :
    Ee X Γ (.Subscript e (.Slice (some (.Constant (.int 1) k2 p4)) none (some (.Constant (.int 2) kk p2)) p3) pos) (.list ((odds xs).map enc)) Γ1 :=
  ee_is (ee_new (en_sliceStep (n := 2) (l := some 1) (by decide) he (po_some pe_int) (fun _ _ _ q => ⟨_, rfl, q⟩) hop)) (by rw [show ((2 : Nat) : Int) = 2 from rfl, pick_odds, odds_map])
end
end DL
end

section
namespace DL
open PySem PySem.Spec PyProof.Rows L2
/-! errors without fields: a def that may raise one; try with one clause -/
section
variable {X : Cx} {Γ Γ1 : Gm} {c : Expr} {st : Stmt} {rest body orelse : List Stmt} {pos : Pos} {C : Addr} {E : XK}
/-- out of a block by an error of the class at C -/
def Rx (X : Cx) (Γ : Gm) (sts : List Stmt) (C : Addr) (E : XK) : Prop := PSs X sts (fun _ σ H => ∃ F, EnvOk X.K F H σ Γ ∧ Ext F H ∧ ∀ σ' Γ' F' H', Gr F H (Own σ Γ) F' H' (Own σ' Γ') → E (.ref C) none H')
theorem rx_cons (h1 : Es X.nox Γ st (.nx Γ1)) (h2 : Rx X Γ1 rest C E) : Rx X Γ (st :: rest) C E := by
  have h3 : PS X st (tS X.K Γ (.nx Γ1)) := by
    refine ⟨fun pins s σ H D I hw => ?_⟩
    refine wpAny_mono (h1.run pins s σ H D (I.wish _) hw) (fun _ _ q => ?_) (fun _ _ z => ?_)
    · exact q.unwish
    · exact False.elim z
  exact pss_imp (pss_cons h3 h2) fun D σ H ⟨F, ev, x, k⟩ => ⟨F, ev, x, fun σ1 F1 H1 g1 e1 => ⟨F1, e1, g1.fh, fun σ2 Γ2 F2 H2 g2 => k σ2 Γ2 F2 H2 (g1.trans g2)⟩⟩
theorem rx_if (hc : Et X.nox Γ c true Γ1) (h : Rx X Γ1 body C E) : Rx X Γ (.If c body orelse pos :: rest) C E := by
  have hc' : PT X c (tT X.K Γ true Γ1) := PT.nox hc
  exact pss_imp (pss_cons (ps_if hc' h pss_never) pss_never) fun D σ H ⟨F, ev, x, k⟩ => ⟨F, ev, x, fun F1 H1 g1 e1 => by
    show (if true = true then _ else _)
    rw [if_pos rfl]
    exact ⟨F1, e1, g1.fh, fun σ2 Γ2 F2 H2 g2 => k σ2 Γ2 F2 H2 (g1.trans g2)⟩⟩
theorem rx_raise {e : Expr} (hc : X.calm = true) (tk : Takes X (fun cls d _ H => E cls d H)) (he : PMk X e (fun _ H Q => Q (.ref C) none H)) : Rx X Γ (.Raise (some e) none pos :: rest) C E :=
  pss_imp (pss_cons (ps_raise hc tk he) pss_never) fun D σ H ⟨F, ev, x, k⟩ => k σ Γ F H (Gr.refl x)
/-- C(), a class of its own over a built-in one, without __init__ -/
theorem pmk_zero {B newId initId : String} {bmB : List Value} {x : Str} {p : Pos} (Fx : ExcBaseFacts B newId initId bmB) (hq : PySem.W.excIn X.K C bmB newId = true) (hm : X.mg x = some (.ref C)) (hk : PySem.W.keepIn X.K (.ref C) = true)
    (hr : Raises X (.ref C)) (hg : Gl X x := by rfl) (hdb : (x == ("__debug__" : Str)) = false := by decide) : PMk X (.Call (.Name x p) [] [] pos) (fun _ H Q => Q (.ref C) none H) := by
  intro pn s0 σ0 H0 Q0 J hw
  refine wpAny_Call_Name_kw (ld_glob J hg hm ?_ hdb)
  refine PySem.W.callWith_K0 J.kIn hk ?_
  show wpAny _ _ (call (.ref C) []) _ _ _
  obtain ⟨z1, z2, z3, z4, z5, z6, z7, z8, z9, y1, y2, y3, y4, y5, y6, y7, y8, hC, hN, hni, tl⟩ := exc_obj J.kIn hq
  refine wpAny_call_exc_subT Fx tl hC hN hni (fun hp a made => ?_) (Nat.zero_le _)
  exact mk_of J made hr hw (J.hok.gone made.new)
end
/-- a def of data that hands one back or raises the error of the class at C -/
def spX (K : PySem.W.Frag) (C : Addr) (R : List PyData → Option PyData → Prop) : Sp := fun vs H Q E => ∃ (F : Hp) (ds : List PyData) (od : Option PyData), Ext F H ∧ DdA K F vs ds ∧ R ds od ∧
  (∀ d, od = some d → ∀ v F' H', Ext F F' → Ext F' H' → Ext H H' → (∀ a, F' a ≠ none → F a ≠ none ∨ H a = none) → Dd K F' v d → Q v H') ∧ (od = none → ∀ H', Ext H H' → E (.ref C) none H')
structure CaX (P : Program) (w : World) (K : PySem.W.Frag) (mg : Str → Option Value) (base : Heap) (k : Nat) (x : Str) (ps : List Str) (C : Addr) (R : List PyData → Option PyData → Prop) : Prop where
  ex : ∃ f fd, mg x = some (.ref f) ∧ PySem.W.keepIn K (.ref f) = true ∧ L2.Binds K fd ps [] ∧ FnOk P w K mg base (L2.CX P w) k f fd ps (spX K C R)
section
variable {P : Program} {w : World} {K : PySem.W.Frag} {mg : Str → Option Value} {base : Heap} {k : Nat} {x : Str} {ps : List Str} {C : Addr}
theorem ca_X {st : Stmt} {N : List Str} {R : List PyData → Option PyData → Prop} (F : Fn K mg x st ps) (S : FnScope N ps (defScope st)) (hlen : ∀ ds d, R ds d → ds.length = ps.length)
    (hyes : ∀ (f : Addr) (cdv : Value) (A : Around) (outer : List Env) (s : Shared) (H : Hp) (E : XK) (ds : List PyData) (d : PyData), Room k (A.deeper (envOfC x (defScope st) s.heap.objs.size f cdv)) → R ds (some d) →
      Er (cxOf (L2.CX P w) P w K mg base N x (defScope st) f cdv A outer s H E).nox (slots0 N ds) (defBody st) d)
    (hno : ∀ (f : Addr) (cdv : Value) (A : Around) (outer : List Env) (s : Shared) (H : Hp) (E : XK) (ds : List PyData), Room k (A.deeper (envOfC x (defScope st) s.heap.objs.size f cdv)) → R ds none →
      Rx (cxOf (L2.CX P w) P w K mg base N x (defScope st) f cdv A outer s H E) (slots0 N ds) (defBody st) C E) : CaX P w K mg base (k + 1) x ps C R := by
  obtain ⟨f, fd, hm, hF, hb⟩ := F.ex
  refine ⟨f, fd, hm, hF.kp, hb, hF.okX S (fun vs H Q E h => ?_) (fun cdv A outer s H vs Q E hr h => ?_)⟩
  · obtain ⟨F, ds, d, _, hA, hR, _⟩ := h
    rw [hA.len]; exact hlen ds d hR
  · have hpl : ps.length ≤ N.length := by have := congrArg List.length S.pre; rw [List.length_take] at this; omega
    obtain ⟨F, ds, od, xt, hA, hR, q1, q2⟩ := h
    have ev := env_start (N := N) (H := H) hA (by rw [hlen ds od hR]; exact hpl)
    cases od with
    | some d =>
      obtain ⟨Γ', ho⟩ := hyes f cdv A outer s H E ds d hr hR
      refine ⟨_, PSs.nox ho, F, ev, xt, fun v σ' F' H' g e dv => ?_⟩
      exact q1 d rfl v F' H' g.ff g.fh (fun a o' h => (g.hh a o' h).resolve_right fun z => own_start z) (fun a h => (g.nw a h).imp id fun z => z.resolve_right fun z => own_start z) dv
    | none =>
      refine ⟨_, hno f cdv A outer s H E ds hr hR, F, ev, xt, fun σ' Γ' F' H' g => ?_⟩
      exact q2 rfl H' fun a o' h => (g.hh a o' h).resolve_right fun z => own_start z
end
end DL
end

section
namespace DL
open PySem PySem.Spec PyProof.Rows L2
section
variable {X : Cx} {Γ Γ1 : Gm} {e : Expr} {es : List Expr} {ds : List PyData} {k j i m : Nat} {g n y xn : Str} {ps : List Str} {C : Addr} {R : List PyData → Option PyData → Prop} {od : Option PyData} {o : Out} {pg cp ap py np pos pos' : Pos} {b0 : Stmt} {suite : List Stmt}
/-- try: y = g(e, ..), except C as n: a suite that hands something back -/
theorem es_try1 (hs : X.stack = X.env :: X.outer) (hf : X.env.frame = some X.env.locals) (hN : X.N.Nodup) (i m : Nat) (hc : Names X xn (.ref C)) (hexm : PySem.W.exmOne X.K (.ref C) (.ref C) = some true)
    (F : CaX X.prog X.w X.K X.mg X.base k g ps C R) (hr : Room j X.A) (hj : k ≤ j) (ha : ∀ pn xe, Ea (X.tr pn xe) Γ (e :: es) ds Γ1) (hR : R ds od)
    (hyes : ∀ d, od = some d → o = .nx (Γ1.set m (some (.im d)))) (hno : od = none → (∃ d Γ', o = .rt d Γ') ∧ noV Γ1 [i] = true ∧ ∀ a pn, Ess (X.suite a pn) Γ1 (b0 :: suite) o)
    (hi : X.N[i]? = some n := by rfl) (hln : X.env.kindOf n = some .local := by rfl) (hy : X.N[m]? = some y := by rfl) (hyl : Loc X.env.scope y := by first | exact Or.inl rfl | exact Or.inr rfl) (hyf : X.fn y = true ∨ X.env.scope.names.lookup y = some .local := by first | exact .inl rfl | exact .inr rfl) (hl : Γ1[m]?.isSome = true := by rfl)
    (hsw : swapsWith (.Call (.Name g pg) (e :: es) [] cp) (some (.Name y py)) ap.line X.env = pure false := by rfl) (hg : Gl X g := by rfl) (hdb : (g == ("__debug__" : Str)) = false := by decide)
    (he : starEach (e :: es) X.env = (false, eval e X.env) :: starEach es X.env := by rfl) (hpl : (backTo cp (starEach es X.env)).any (·.1) = false := by rfl) :
    Es X Γ (.Try [.Assign [.Name y py] (.Call (.Name g pg) (e :: es) [] cp) ap] [.ExceptHandler (some (.Name xn np)) (some n) (b0 :: suite) pos'] [] [] pos) o := by
  obtain ⟨f, fd, hm, hk, hb, hF⟩ := F.ex
  refine ps_imp (ps_try_as (i := i) (tb := fun W => tAsg (tCallS (spX X.K C R) (WE W) (tAs X.K Γ ds Γ1)) (gName m)) (ts := fun a cls d => fun D σ H => od = none ∧ tS X.K Γ1 o D σ H) (Wout := fun _ _ _ _ => False) hs hf hN hi hln hc takes0
    (fun W pn xe tk _ => pss_one (ps_set (X := X.tr pn xe) hN hy hyl (pe_callS (X := X.tr pn xe) hF (hr.mono hj) hg hm hk hb (fun σ => passAt tk σ) (ha pn xe) hdb he hpl) hsw hyf))
    (fun a oe cls d pn _ _ => ⟨fun pins s σ H D I ⟨h0, h⟩ => ((hno h0).2.2 a _).run pins s σ H D I h⟩)) fun D σ H ⟨F0, ev, xt, kk⟩ => ?_
  refine ⟨F0, ev, xt, fun vs F1 H1 g1 e1 dv => ⟨F1, ds, od, g1.fh, dv, hR, fun d hd v F' H' i1 i2 i3 i4 dv' => ?_, fun h0 H' x1 => ?_⟩⟩
  · have ho := hyes d hd
    subst ho
    have g2 := g1.trans (Gr.ext i1 i2 i3 i4)
    have e2 := e1.keep i1 i3 i4
    have hk : KdOk X.K H (Own σ Γ) F' H' (Own σ Γ1) v (.d d) := dv'
    exact kk _ F' H' (g2.storeK e2 hk (some_lt hl)) (e2.storeK hk (some_lt hl))
  · obtain ⟨⟨d, Γ', ho⟩, hv, _⟩ := hno h0
    subst ho
    refine ⟨true, hexm, fun _ a na => ⟨h0, F1, ?_, g1.fh.trans x1, ?_⟩, fun z => by cases z⟩
    · exact (e1.keep (Ext.refl F1) x1 fun a h => .inl h).agree hv (wipe_set (List.mem_singleton.mpr rfl)).symm
    · intro v σ' F' H2 g2 e2 dv'
      refine kk v σ' F' H2 ?_ e2 dv'
      have g3 : Gr F0 H (Own σ Γ) F1 H' (Own σ Γ1) := g1.trans (Gr.ext (Ext.refl F1) (g1.fh.trans x1) x1 fun a h => .inl h)
      exact (g3.right fun a q => own_agree hv (wipe_set (List.mem_singleton.mpr rfl)) q).trans g2
end
end DL
end

section
namespace DL
open PySem PySem.Spec PyProof.Rows L2
section
variable {X : Cx} {Γ Γ1 Γ2 : Gm} {a b : Expr} {rest : List Expr} {pos : Pos} {q : Bool}
/-- and, the first part known -/
theorem ew_andT (ha : Et X Γ a true Γ1) (hb : Ew X Γ1 (.BoolOp .And (b :: rest) pos) q Γ2) : Ew X Γ (.BoolOp .And (a :: b :: rest) pos) q Γ2 :=
  pw_imp (pw_and ha (pw_guard fun _ : true = true => hb)) fun σ H Q ⟨F, ev, x, k⟩ => ⟨F, ev, x, fun F1 H1 g1 e1 =>
    iteT ⟨rfl, F1, e1, g1.fh, fun F2 H2 g2 e2 => k F2 H2 (g1.trans g2) e2⟩⟩
theorem ew_andF (ha : Et X Γ a false Γ1) : Ew X Γ (.BoolOp .And (a :: b :: rest) pos) false Γ1 :=
  pw_imp (pw_and ha (pw_guard (t := tT X.K Γ1 true Γ1) fun z : false = true => by cases z)) fun σ H Q ⟨F, ev, x, k⟩ => ⟨F, ev, x, fun F1 H1 g1 e1 =>
    iteF (k F1 H1 g1 e1)⟩
end
theorem cut_take (ds : List PyData) (k : Nat) : cutD ds none (some (k : Int)) = ds.take k := by
  unfold cutD
  rw [HT.sIx_none, HT.sIx_nat, Nat.sub_zero, List.drop_zero]
  by_cases h : k ≤ ds.length
  · rw [Nat.min_eq_left h]
  · rw [Nat.min_eq_right (by omega), List.take_of_length_le (Nat.le_refl _), List.take_of_length_le (by omega)]
end DL
end

section
namespace DL
open PySem PySem.Spec PyProof.Rows L2
section
variable {X : Cx} {Γ Γ1 : Gm} {c : Expr} {p : Bool} {pos : Pos}
/-- the tests of a clause, that may change lists of the frame's own -/
def Ezs (X : Cx) (Γ : Gm) (ifs : List Expr) (b : Bool) (Γ' : Gm) : Prop := PTs X ifs (tT X.K Γ b Γ')
theorem ezs_one (h : Et X Γ c p Γ1) : Ezs X Γ [c] p Γ1 := pts_one h
def keptOf (n : Nat) (f : Nat → Bool) (h : Nat → PyData) : List PyData := ((List.range n).filter f).map h
theorem kept_step (n : Nat) (f : Nat → Bool) (h : Nat → PyData) : keptOf (n + 1) f h = keptOf n f h ++ (if f n = true then [h n] else []) := by
  unfold keptOf
  rw [List.range_succ, List.filter_append, List.map_append]
  congr 1
  cases hf : f n <;> simp [hf]
theorem kept_len (n : Nat) (f : Nat → Bool) (h : Nat → PyData) : (keptOf n f h).length ≤ n := by
  unfold keptOf
  rw [List.length_map]
  exact Nat.le_trans (List.length_filter_le _ _) (by rw [List.length_range]; exact Nat.le_refl n)
/-- the reading of a comprehension whose test changes lists of the frame's own: G i is told behind i turns -/
theorem lcS_read {ds : List PyData} {f : Nat → Bool} {h : Nat → PyData} {G Γt Γu : Nat → Gm} {vs is : List Nat} {g : TG} {tt : TT} {te : TE} {wi : TI} (hv : ∀ i, noV (G i) vs = true) (hown : ∀ i (σ : L2.St) a, Own σ (G i) a → Own σ (G 0) a) (hless : ∀ i, i < ds.length → Less (G (i + 1)) (Γu i)) (his : ∀ i ∈ is, i ∈ vs) (hsz : ds.length ≤ 16777216)
    (hut : ∀ i, i < ds.length → ∀ (σ : L2.St) a, Own σ (Γt i) a → Own σ (G i) a)
    (hw : ∀ σ H R, tIt X.K Γ ds (G 0) σ H R → wi σ H R) (hg : ∀ i d, ds[i]? = some d → ∀ v σ H Q, tGt X.K (G i) d is (Γt i) v σ H Q → g v σ H Q) (ht : ∀ i, i < ds.length → ∀ σ H Q, tT X.K (Γt i) (f i) (Γu i) σ H Q → tt σ H Q) (he : ∀ i, i < ds.length → f i = true → ∀ σ H Q, tE X.K (Γu i) (h i) (Γu i) σ H Q → te σ H Q)
    (huu : ∀ i, i < ds.length → ∀ (σ : L2.St) a, Own σ (Γu i) a → Own σ (Γt i) a) :
    ∀ σ H Q, tN X.K Γ (keptOf ds.length f h) (G ds.length) σ H Q → tLc wi g tt te vs σ H Q := by
  intro σ H Q ⟨F, ev, x, k⟩
  refine hw σ H _ ⟨F, ev, x, fun J F1 H1 g1 e1 hW => fun D hD => ?_⟩
  have nD0 : ¬ Own σ (G 0) D := fun o => by
    obtain ⟨_, ys, z⟩ := e1.own_at o
    rw [hD] at z; cases z
  have nD : ∀ i, ¬ Own σ (G i) D := fun i o => nD0 (hown i σ D o)
  have ag : wipe (wipe σ vs) vs = wipe σ vs := wipe_idem σ vs
  refine ⟨fun i m H2 => m = ds.length - i ∧ i ≤ ds.length ∧ ∃ F2 acc, EnvOk X.K F2 H2 σ (G i) ∧ Gr F1 H1 (Own σ (G 0)) F2 H2 (Own σ (G i)) ∧ F2 D = none ∧ H2 D = some (.lst acc) ∧ DdA X.K F2 acc (keptOf i f h), ⟨ds.length, by omega, Nat.zero_le _, F1, [], e1.newH hD, Gr.newH g1.fh hD, g1.fh.free hD, upd_same, .nil⟩, ?_⟩
  rintro i m H2 ⟨rfl, hi, F2, acc, e2, g2, hF2, hH2, hd2⟩
  have wk := hW i F2 H2 g2.ff g2.fh
  by_cases hlt : i < ds.length
  · have hx : ds[i]? = some ds[i] := List.getElem?_eq_getElem hlt
    obtain ⟨go, yl⟩ := wk.1 ds[i] hx
    refine .inr ⟨go, fun H3 => ∃ F3 acc, EnvOk X.K F3 H3 σ (G (i + 1)) ∧ Gr F1 H1 (Own σ (G 0)) F3 H3 (Own σ (G (i + 1))) ∧ F3 D = none ∧ H3 D = some (.lst acc) ∧ DdA X.K F3 acc (keptOf (i + 1) f h), fun H3 ⟨F3, acc, z⟩ => ⟨ds.length - (i + 1), by omega, rfl, hlt, F3, acc, z⟩, fun y H3 hy => ?_⟩
    obtain ⟨F3, y1, y2, y3, y4, dy⟩ := yl y H3 hy
    have e3 := e2.keep y1 y3 y4
    have g3 := g2.trans (Gr.ext (A := Own σ (G i)) y1 y2 y3 y4)
    have hD3 : H3 D = some (.lst acc) ∧ F3 D = none := (Gr.ext (A := Own σ (G i)) y1 y2 y3 y4).keepD hH2 hF2 (nD i)
    refine hg i ds[i] hx y _ H3 _ ⟨F3, e3.agree (hv i) ag.symm, y2, dy, fun σ4 F4 H4 g4 e4 w4 => ?_⟩
    have w4' := w4 vs his
    rw [ag] at w4'
    refine ⟨w4', ?_⟩
    have l4 := hless i hlt
    have g4' : Gr F3 H3 (Own σ (G i)) F4 H4 (Own σ4 (Γt i)) := g4.left fun a o => own_agree (hv i) ag o
    have back : ∀ a, Own σ (G (i + 1)) a → Own σ4 (Γu i) a := fun a o => l4.own (own_agree (hv (i + 1)) w4'.symm o)
    have nD4 : ¬ Own σ4 (Γt i) D := fun o => nD i (own_agree (hv i) w4' (hut i hlt σ4 D o))
    have hD4 := g4'.keepD hD3.1 hD3.2 (nD i)
    refine ht i hlt σ4 H4 _ ⟨F4, e4, g4'.fh, fun F5 H5 g5 e5 => ?_⟩
    have hD5 := g5.keepD hD4.1 hD4.2 nD4
    have nD5 : ¬ Own σ4 (Γu i) D := fun o => nD4 (huu i hlt σ4 D o)
    have g5' := g4'.trans g5
    have hst := kept_step i f h
    cases hf : f i with
    | false =>
      refine iteF ⟨F5, acc, (l4.env e5).agree (hv (i + 1)) w4', (g3.trans g5').right back, hD5.2, hD5.1, ?_⟩
      rw [hst, hf, if_neg (by decide), List.append_nil]
      exact hd2.up (y1.trans g5'.ff)
    | true =>
      refine iteT (he i hlt hf σ4 H5 _ ⟨F5, e5, g5'.fh, fun v F6 H6 g6 e6 dv => ?_⟩)
      have hD6 := g6.keepD hD5.1 hD5.2 nD5
      have g6' := g5'.trans g6
      have hlen : acc.length < sizeLine := by
        rw [hd2.len, sizeLine_eq]
        have h1 := kept_len i f h
        omega
      refine ⟨acc, hD6.1, hlen, F6, acc ++ [v], ((l4.env e6).agree (hv (i + 1)) w4').mutOther (nD (i + 1)), ((g3.trans g6').right back).mutNew hD hD6.2, hD6.2, upd_same, ?_⟩
      rw [hst, hf, if_pos rfl]
      exact (hd2.up (y1.trans g6'.ff)).app (.cons dv .nil)
  · have hie : i = ds.length := by omega
    subst hie
    refine .inl ⟨wk.2 (Nat.le_refl _), ?_⟩
    exact k D acc F2 H2 (g1.trans g2) e2 hF2 (g1.free hD) hH2 (nD _) hd2
/-- which slots hold lists of the frame's own -/
def ownIx (Γ : Gm) : List Bool := Γ.map fun o => match o with
  | some s => isOw s
  | none => false
theorem own_ix {Γ Γ' : Gm} (h : ownIx Γ = ownIx Γ') {σ : L2.St} {a : Addr} (o : Own σ Γ a) : Own σ Γ' a := by
  obtain ⟨i, s, h1, h2, h3⟩ := o
  have e : (ownIx Γ)[i]? = some true := by
    unfold ownIx
    rw [List.getElem?_map, h1]
    show some (isOw s) = _
    rw [h2]
  rw [h] at e
  unfold ownIx at e
  rw [List.getElem?_map] at e
  cases q : Γ'[i]? with
  | none => rw [q] at e; cases e
  | some z =>
    rw [q] at e
    cases z with
    | none => cases e
    | some s' => exact ⟨i, s', q, Option.some.inj e, h3⟩
theorem en_lcS {elt tg iter : Expr} {ifs : List Expr} {scope : Scope} {own : List (Str × Nat)} {ds : List PyData} (f : Nat → Bool) (h : Nat → PyData) (G Γt Γu : Nat → Gm) (is : List Nat) (hc : X.calm = true) (hN : X.N.Nodup) (ok : BlkOk X.N X.env.scope scope own) (hv : ∀ i, noV (G i) (own.map (·.2)) = true)
    (his : ∀ i ∈ is, i ∈ own.map (·.2)) (hsz : ds.length ≤ 16777216) (hless : ∀ i, i < ds.length → Less (G (i + 1)) (Γu i)) (hi : Ei X Γ tg iter ds (G 0))
    (hg : ∀ i d, ds[i]? = some d → ∀ (s : Shared) (H : Hp) (C : Addr) (cl : List (Str × Addr)) (fp : List Addr), Eg (X.blk s H scope (compEnvC scope cl C X.env) fp) (G i) tg d is (Γt i))
    (ht : ∀ i, i < ds.length → ∀ (s : Shared) (H : Hp) (C : Addr) (cl : List (Str × Addr)) (fp : List Addr), Ezs (X.blk s H scope (compEnvC scope cl C X.env) fp) (Γt i) ifs (f i) (Γu i))
    (he : ∀ i, i < ds.length → f i = true → ∀ (s : Shared) (H : Hp) (C : Addr) (cl : List (Str × Addr)) (fp : List Addr), Ee (X.blk s H scope (compEnvC scope cl C X.env) fp) (Γu i) elt (h i) (Γu i))
    (oG : ∀ i, ownIx (G i) = ownIx (G 0) := by intro _; rfl) (oT : ∀ i, ownIx (Γt i) = ownIx (G i) := by intro _; rfl) (oU : ∀ i, ownIx (Γu i) = ownIx (Γt i) := by intro _; rfl) (hs : ∀ x, foldedSetIterable iter X.env x = pure x := by intro _; rfl) :
    En X Γ (.ListComp elt [⟨tg, iter, ifs, 0⟩] scope pos) (keptOf ds.length f h) (G ds.length) :=
  pe_imp (pe_lc (g := fun v σ H Q => ∃ i d, ds[i]? = some d ∧ tGt X.K (G i) d is (Γt i) v σ H Q) (tt := fun σ H Q => ∃ i, i < ds.length ∧ tT X.K (Γt i) (f i) (Γu i) σ H Q) (te := fun σ H Q => ∃ i, (i < ds.length ∧ f i = true) ∧ tE X.K (Γu i) (h i) (Γu i) σ H Q) hc hN hi ok
    (fun s H C cl fp => ⟨fun pins s' σ H' v u Q I r ⟨i, d, hd, hh⟩ => (hg i d hd s H C cl fp).run pins s' σ H' v u Q I r hh⟩) (fun s H C cl fp => ⟨fun pins s' σ H' Q I ⟨i, hl, hh⟩ => (ht i hl s H C cl fp).run pins s' σ H' Q I hh⟩)
    (fun s H C cl fp => ⟨fun pins s' σ H' Q I ⟨i, hl, hh⟩ => (he i hl.1 hl.2 s H C cl fp).run pins s' σ H' Q I hh⟩) hs)
    (lcS_read hv (fun i σ a o => own_ix (oG i) o) hless his hsz (fun i _ σ a o => own_ix (oT i) o) (fun σ H R z => z) (fun i d hd v σ H Q z => ⟨i, d, hd, z⟩) (fun i hl σ H Q z => ⟨i, hl, z⟩) (fun i hl hf σ H Q z => ⟨i, ⟨hl, hf⟩, z⟩) (fun i _ σ a o => own_ix (oU i) o))
/-- the same as y = [..], y a local -/
theorem es_setLcS {elt tg iter : Expr} {ifs : List Expr} {scope : Scope} {own : List (Str × Nat)} {ds : List PyData} (n : Nat) {y : Str} {py spos : Pos} (f : Nat → Bool) (h : Nat → PyData) (G Γt Γu : Nat → Gm) (is : List Nat) (hc : X.calm = true) (hN : X.N.Nodup) (ok : BlkOk X.N X.env.scope scope own) (hv : ∀ i, noV (G i) (own.map (·.2)) = true)
    (his : ∀ i ∈ is, i ∈ own.map (·.2)) (hsz : ds.length ≤ 16777216) (hless : ∀ i, i < ds.length → Less (G (i + 1)) (Γu i)) (hi : Ei X Γ tg iter ds (G 0))
    (hg : ∀ i d, ds[i]? = some d → ∀ (s : Shared) (H : Hp) (C : Addr) (cl : List (Str × Addr)) (fp : List Addr), Eg (X.blk s H scope (compEnvC scope cl C X.env) fp) (G i) tg d is (Γt i))
    (ht : ∀ i, i < ds.length → ∀ (s : Shared) (H : Hp) (C : Addr) (cl : List (Str × Addr)) (fp : List Addr), Ezs (X.blk s H scope (compEnvC scope cl C X.env) fp) (Γt i) ifs (f i) (Γu i))
    (he : ∀ i, i < ds.length → f i = true → ∀ (s : Shared) (H : Hp) (C : Addr) (cl : List (Str × Addr)) (fp : List Addr), Ee (X.blk s H scope (compEnvC scope cl C X.env) fp) (Γu i) elt (h i) (Γu i))
    (oG : ∀ i, ownIx (G i) = ownIx (G 0) := by intro _; rfl) (oT : ∀ i, ownIx (Γt i) = ownIx (G i) := by intro _; rfl) (oU : ∀ i, ownIx (Γu i) = ownIx (Γt i) := by intro _; rfl)
    (hy : X.N[n]? = some y := by rfl) (hyl : X.env.scope.names.lookup y = some .local := by rfl) (hl : (G ds.length)[n]?.isSome = true := by rfl) (hsw : swapsWith (.ListComp elt [⟨tg, iter, ifs, 0⟩] scope pos) (some (.Name y py)) spos.line X.env = pure true := by exact sw_true rfl rfl rfl (by decide +kernel)) (hs : ∀ x, foldedSetIterable iter X.env x = pure x := by intro _; rfl) :
    Es X Γ (.Assign [.Name y py] (.ListComp elt [⟨tg, iter, ifs, 0⟩] scope pos) spos) (.nx ((G ds.length).set n (some (.ow (keptOf ds.length f h))))) :=
  ps_imp (ps_setLc (g := fun v σ H Q => ∃ i d, ds[i]? = some d ∧ tGt X.K (G i) d is (Γt i) v σ H Q) (tt := fun σ H Q => ∃ i, i < ds.length ∧ tT X.K (Γt i) (f i) (Γu i) σ H Q) (te := fun σ H Q => ∃ i, (i < ds.length ∧ f i = true) ∧ tE X.K (Γu i) (h i) (Γu i) σ H Q) hc hN hy hyl hsw hi ok
    (fun s H C cl fp => ⟨fun pins s' σ H' v u Q I r ⟨i, d, hd, hh⟩ => (hg i d hd s H C cl fp).run pins s' σ H' v u Q I r hh⟩) (fun s H C cl fp => ⟨fun pins s' σ H' Q I ⟨i, hl, hh⟩ => (ht i hl s H C cl fp).run pins s' σ H' Q I hh⟩)
    (fun s H C cl fp => ⟨fun pins s' σ H' Q I ⟨i, hl, hh⟩ => (he i hl.1 hl.2 s H C cl fp).run pins s' σ H' Q I hh⟩) hs) fun D σ H ⟨F, ev, x, kk⟩ =>
    lcS_read hv (fun i σ a o => own_ix (oG i) o) hless his hsz (fun i _ σ a o => own_ix (oT i) o) (fun σ H R z => z) (fun i d hd v σ H Q z => ⟨i, d, hd, z⟩) (fun i hl σ H Q z => ⟨i, hl, z⟩) (fun i hl hf σ H Q z => ⟨i, ⟨hl, hf⟩, z⟩) (fun i _ σ a o => own_ix (oU i) o) σ H _ ⟨F, ev, x, fun l ys F1 H1 g1 e1 hF hH hl' ho dv => by
      have hk : KdOk X.K H (Own σ Γ) F1 H1 (Own σ (G ds.length)) (.ref l) (.n (keptOf ds.length f h)) := ⟨l, ys, rfl, hF, hl', ho, dv, hH⟩
      exact kk _ F1 H1 (g1.storeK e1 hk (some_lt hl)) (e1.storeK hk (some_lt hl))⟩
end
end DL
end

section
namespace DL
open PySem PySem.Spec PyProof.Rows L2
section
variable {X : Cx} {Γ Γ1 Γ2 Γ3 : Gm} {a b c : Expr} {pos : Pos} {k1 k2 k3 : Kd} {ds : List PyData}
/-- a, b, c = e1, e2, e3 : names that inner blocks may read -/
theorem es_tup3 (n m l : Nat) {x y z : Str} {px py pz pt pt2 : Pos} {kt kt2 : Nat} (hc : X.calm = true) (hN : X.N.Nodup) (h1 : Ek X Γ a k1 Γ1) (h2 : Ek X Γ1 b k2 Γ2) (h3 : Ek X Γ2 c k3 Γ3) (hi : X.N[n]? = some x := by rfl) (hj : X.N[m]? = some y := by rfl) (hk : X.N[l]? = some z := by rfl)
    (hx : Loc X.env.scope x := by first | exact Or.inl rfl | exact Or.inr rfl) (hy : Loc X.env.scope y := by first | exact Or.inl rfl | exact Or.inr rfl) (hz : Loc X.env.scope z := by first | exact Or.inl rfl | exact Or.inr rfl) (hf : X.fn x = true ∨ X.env.scope.names.lookup x = some .local := by first | exact .inl rfl | exact .inr rfl) (hf2 : X.fn y = true ∨ X.env.scope.names.lookup y = some .local := by first | exact .inl rfl | exact .inr rfl) (hf3 : X.fn z = true ∨ X.env.scope.names.lookup z = some .local := by first | exact .inl rfl | exact .inr rfl)
    (hl : Γ3[n]?.isSome = true := by rfl) (hl2 : Γ3[m]?.isSome = true := by rfl) (hl3 : Γ3[l]?.isSome = true := by rfl) (he1 : starEach [a, b, c] X.env = (false, eval a X.env) :: starEach [b, c] X.env := by rfl) (he2 : starEach [b, c] X.env = (false, eval b X.env) :: starEach [c] X.env := by rfl) (he3 : starEach [c] X.env = (false, eval c X.env) :: starEach [] X.env := by rfl)
    (hs1 : (assignEach [Expr.Name x px, .Name y py, .Name z pz] X.env).map (·.2) = assign (.Name x px) X.env :: (assignEach [Expr.Name y py, .Name z pz] X.env).map (·.2) := by rfl) (hs2 : (assignEach [Expr.Name y py, .Name z pz] X.env).map (·.2) = assign (.Name y py) X.env :: (assignEach [Expr.Name z pz] X.env).map (·.2) := by rfl) (hs3 : (assignEach [Expr.Name z pz] X.env).map (·.2) = assign (.Name z pz) X.env :: (assignEach [] X.env).map (·.2) := by rfl)
    (hna : (assignEach [Expr.Name x px, .Name y py, .Name z pz] X.env).length = 3 := by rfl) (hst : (assignEach [Expr.Name x px, .Name y py, .Name z pz] X.env).findIdx? (·.1) = none := by rfl)
    (hs : swapsWithSole [.Tuple [.Name x px, .Name y py, .Name z pz] kt pt] (.Tuple [a, b, c] kt2 pt2) pos.line X.env = pure false := by rfl) (hw : swappedStores [.Tuple [.Name x px, .Name y py, .Name z pz] kt pt] (.Tuple [a, b, c] kt2 pt2) X.env = pure none := by rfl) (h1' : (assignEach [.Tuple [.Name x px, .Name y py, .Name z pz] kt pt] X.env).map (·.2) = [assign (.Tuple [.Name x px, .Name y py, .Name z pz] kt pt) X.env] := by rfl) :
    Es X Γ (.Assign [.Tuple [.Name x px, .Name y py, .Name z pz] kt pt] (.Tuple [a, b, c] kt2 pt2) pos) (.nx (((Γ3.set n (some k1.slot)).set m (some k2.slot)).set l (some k3.slot))) :=
  ps_imp (ps_asg (pe_tup (pa_cons h1 (pa_cons h2 (pa_cons h3 pa_nil he3) he2) he1)) (pg_tup (n := 3) hc (pgs_cons (pg_name hN hi hx hf) (pgs_cons (pg_name hN hj hy hf2) (pgs_cons (pg_name hN hk hz hf3) pgs_nil hs3) hs2) hs1) hna hst) hs hw h1') fun D σ H ⟨F, ev, xt, kk⟩ => ⟨F, ev, xt, fun u F1 H1 g1 e1 hk1 => ⟨F1, e1, g1.fh, fun v F2 H2 g2 e2 hk2 => ⟨F2, e2, g2.fh, fun w F3 H3 g3 e3 hk3 => by
    refine ⟨by show 3 ≤ sizeLine; decide, fun t ht => ⟨t, [u, v, w], rfl, SqT.of upd_same, rfl, u, [v, w], rfl, v, [w], rfl, w, [], rfl, rfl, ?_⟩⟩
    have gt : Gr F3 H3 (Own σ Γ3) F3 (upd H3 t (.tup [u, v, w])) (Own σ Γ3) := Gr.newH g3.fh ht
    have e4 : EnvOk X.K F3 (upd H3 t (.tup [u, v, w])) σ Γ3 := e3.newH ht
    have a1 := ((hk1.later g2).later g3).later gt
    have a2 := ((KdOk.from g1 hk2).later g3).later gt
    have a3 := (KdOk.from (g1.trans g2) hk3).later gt
    have g := ((g1.trans g2).trans g3).trans gt
    have l1 := some_lt hl
    have l2 : m < (Γ3.set n (some k1.slot)).length := by rw [List.length_set]; exact some_lt hl2
    have l3 : l < ((Γ3.set n (some k1.slot)).set m (some k2.slot)).length := by rw [List.length_set, List.length_set]; exact some_lt hl3
    have b2 := KdOk.store e4 l1 a1 a2 fun l _ _ => kd_ne hk1 hk2 l
    have b3 := KdOk.store e4 l1 a1 a3 fun l _ _ => kd_ne (hk1.later g2) hk3 l
    have ev1 := e4.storeK a1 l1
    have c3 := KdOk.store ev1 l2 b2 b3 fun l _ _ => kd_ne hk2 hk3 l
    exact kk _ F3 _ (((g.storeK e4 a1 l1).storeK ev1 b2 l2).storeK (ev1.storeK b2 l2) c3 l3) ((ev1.storeK b2 l2).storeK c3 l3)⟩⟩⟩
end
end DL
end

section
namespace DL
open PySem PySem.Spec PyProof.Rows L2
section
variable {X : Cx} {Γ Γ1 : Gm} {e : Expr} {ds : List PyData} {pos : Pos}
/-- xs[::st] of a list of data, st written as any term worth k -/
theorem en_sliceBy {st : Expr} {k : Int} {ts : TE} {p3 : Pos} (hk : k ≠ 0) (he : Ee X Γ e (.list ds) Γ1) (hst : PE X st ts) (hs : ∀ σ H Q, Q (.int k) H → ts σ H Q)
    (hop : subscriptTail e (.Slice none none (some st) p3) = subscriptTail e (.Slice none none (some st) p3) := by rfl) : En X Γ (.Subscript e (.Slice none none (some st) p3) pos) (pick ds none none (some k)) Γ1 := by
  refine ⟨fun pins s σ H Q I h => ?_⟩
  obtain ⟨F, ev, x, kk⟩ := h
  refine Subscript_ (thn (he.run pins s σ H (fun v H1 => ∃ F1, Gr F H (Own σ Γ) F1 H1 (Own σ Γ1) ∧ EnvOk X.K F1 H1 σ Γ1 ∧ Dd X.K F1 v (.list ds)) I ⟨F, ev, x, fun v F1 H1 g1 e1 dv => ⟨F1, g1, e1, dv⟩⟩) fun v s1 hh => ?_)
  obtain ⟨w, H1, I1, r1, F1, g1, e1, dv⟩ := hh
  obtain ⟨p, xs, rfl, hH, hS, hA⟩ := dv.lstAt g1.fh
  cases r1
  refine wpAny_Slice (thn (po_none.run pins s1 σ H1 (fun o H2 => o = none ∧ H2 = H1) I1 ⟨rfl, rfl⟩) fun vl s2 ⟨ol, H2, I2, pl, el, e2⟩ => ?_)
  subst el e2
  refine thn (po_none.run pins s2 σ H2 (fun o H3 => o = none ∧ H3 = H2) I2 ⟨rfl, rfl⟩) fun vu s3 ⟨u, H3, I3, pu, eu, e3⟩ => ?_
  subst eu e3
  refine thn ((po_some hst).run pins s3 σ H3 (fun o H4 => o = some k ∧ H4 = H3) I3 (hs _ _ _ ⟨k, rfl, rfl, rfl⟩)) fun vs s4 ⟨o, H4, I4, ps, eo, e4⟩ => ?_
  subst eo e4
  have I5 : Inv X pins σ H4 { s4 with heap := s4.heap.push { cls := .type "slice", data := .fields #[vl, vu, vs] } } := I4.kept (t' := s4.toks) fun b ob q => Heap.get?_push_of_some _ q
  obtain ⟨its, r, ht, hz⟩ := I5.list hS
  have hlen := r.length
  show wpAny (model X.prog X.w) X.A (subscriptTail e (.Slice none none (some st) p3) (.ref p) (.ref s4.heap.objs.size)) (EP X pins σ Q) X.xe { s4 with heap := s4.heap.push { cls := .type "slice", data := .fields #[vl, vu, vs] } }
  refine tail_any (ops := [.ref p, .ref s4.heap.objs.size]) ht.isList.typeIs (PySem.slot_list_getitem.lookup) ?_ (by with_unfolding_all rfl)
  have hn0 : (some k) ≠ some 0 := by intro z; injection z with z; exact hk z
  refine wpAny_getItem_list_slice ht.isList (Heap.IsSliceOf.new _ vl vu vs) pl pu ps hn0 ?_ (by rw [List.size_toArray]; omega)
  have hpk : slicePick its.toArray none none (some k) = (pick its none none (some k)).toArray := by
    unfold slicePick pick
    rw [List.size_toArray]
    congr 1
    congr 1
    funext z
    simp
  rw [hpk]
  have hxs : (pick xs none none (some k)).length ≤ sizeLine := by
    have h1 := slicePick_size_le its.toArray none none (some k)
    rw [hpk, List.size_toArray, List.size_toArray] at h1
    have h2 : (pick xs none none (some k)).length = (pick its none none (some k)).length := by
      unfold pick
      rw [← hlen]
      exact (vals_pick r _).length
    omega
  have hv : Vals (pick xs none none (some k)) (pick its none none (some k)) := by
    unfold pick
    rw [← hlen]
    exact vals_pick r _
  have hd : DdA X.K F1 (pick xs none none (some k)) (pick ds none none (some k)) := by
    unfold pick
    rw [hA.len]
    exact dda_pick hA _
  exact ⟨.ref _, _, I5.laid (t' := s4.toks) (o := .lst (pick xs none none (some k))) (fun b ob q => Heap.get?_push_of_some _ q) (Nat.le_refl _) ⟨hxs, _, 0, hv, Heap.get?_push_size _ rfl⟩, rfl, tN_new g1 e1 hd kk _ (I5.hok.fresh (Nat.le_refl _))⟩
theorem range_get {α : Type} : ∀ l : List α, (List.range l.length).filterMap (fun k => l[k]?) = l
  | [] => rfl
  | x :: r => by
    rw [List.length_cons, List.range_succ_eq_map, List.filterMap_cons]
    show x :: _ = _
    rw [List.filterMap_map]
    congr 1
    exact range_get r
theorem pick_rev {α : Type} (l : List α) : pick l none none (some (-1)) = l.reverse := by
  have e0 := range_get l.reverse
  rw [List.length_reverse] at e0
  rw [← e0]
  unfold pick
  have e1 : sliceBounds none none (some (-1)) l.length = ((l.length : Int) - 1, -1, -1) := rfl
  rw [e1]
  have e2 : sliceRange ((l.length : Int) - 1) (-1) (-1) = (List.range l.length).map fun k => l.length - 1 - k := by
    unfold sliceRange
    have h1 : (if (-1 : Int) > 0 then (if (l.length : Int) - 1 < -1 then (-1 - ((l.length : Int) - 1) + -1 - 1) / -1 else 0) else (if (l.length : Int) - 1 > -1 then ((l.length : Int) - 1 - -1 - -1 - 1) / - -1 else 0)).toNat = l.length := by
      rw [if_neg (by decide)]
      split
      · rw [show (- -1 : Int) = 1 by decide, Int.ediv_one]; omega
      · omega
    show List.map _ (List.range (_ : Int).toNat) = _
    rw [h1]
    apply List.map_congr_left
    intro k hk
    have := List.mem_range.mp hk
    omega
  rw [e2, List.filterMap_map]
  have cong : ∀ (ks : List Nat), (∀ k ∈ ks, k < l.length) → ks.filterMap ((fun x => l[x]?) ∘ fun k => l.length - 1 - k) = ks.filterMap fun k => l.reverse[k]? := by
    intro ks
    induction ks with
    | nil => intro _; rfl
    | cons k ks ih =>
      intro h
      have hk := h k List.mem_cons_self
      have e : ((fun x => l[x]?) ∘ fun k => l.length - 1 - k) k = l.reverse[k]? := by
        show l[l.length - 1 - k]? = _
        rw [List.getElem?_reverse hk]
      rw [List.filterMap_cons, List.filterMap_cons, e, ih fun y hy => h y (List.mem_cons_of_mem _ hy)]
  exact cong _ fun k hk => List.mem_range.mp hk
section
variable {X : Cx} {Γ Γ1 : Gm} {e : Expr} {ds : List PyData} {pos : Pos}
/-- xs[::-1] -/
theorem en_rev {kk : Nat} {p1 p2 p3 : Pos} (he : Ee X Γ e (.list ds) Γ1) (hop : subscriptTail e (.Slice none none (some (.UnaryOp .USub (.Constant (.int 1) kk p1) p2)) p3) = subscriptTail e (.Slice none none (some (.UnaryOp .USub (.Constant (.int 1) kk p1) p2)) p3) := by rfl) :
    En X Γ (.Subscript e (.Slice none none (some (.UnaryOp .USub (.Constant (.int 1) kk p1) p2)) p3) pos) ds.reverse Γ1 := by
  rw [← pick_rev]
  exact en_sliceBy (by decide) he (pe_un un_neg pe_int) (fun σ H Q q => ⟨1, rfl, q⟩) hop
end
end
end DL
end

section
namespace DL
open PySem PySem.Spec PyProof.Rows L2
/-- a tuple once is the tuple itself -/
theorem once_same (l : Addr) (its : Array Value) (n : Nat) (dd : Option Addr) (sl : Array (Option Value)) (u : Tok) :
    Meets (Builtin.«tuple.__mul__» ⟨[.ref l, .int 1 u], []⟩) (fun _ R s => s.heap.get? l = some { cls := .type "tuple", dict := dd, data := .seq its n, slots := sl } ∧ R (.ok (.ret (Value.ref l))) s) :=
  .of_wp fun prog w A R s0 h0 => by
    obtain ⟨hp0, g0, d0, tk0, os0⟩ := s0
    obtain ⟨hl0, hR⟩ := h0
    have ix := AutoSeq1.idx_int
    have c1 : (its.isEmpty || (1 : Int) == 1) = true := by simp
    wp_walk using wpAny_loadPart' hl0
    repeat (first
      | (refine wpAny_ite_false (by decide) ?_; wp_walk using wpAny_loadPart' hl0)
      | (refine wpAny_ite_true (by simp) ?_; wp_walk using wpAny_loadPart' hl0))
    exact ⟨_, rfl, hR⟩
def rOnce (K : PySem.W.Frag) : R2 := fun x y H Q => ∃ l xs, x = .ref l ∧ y = .int 1 ∧ SqT K H l xs ∧ Q (.ref l) H
section
variable {X : Cx} {Γ Γ1 Γ2 : Gm} {a b : Expr} {ds : List PyData} {pos : Pos}
theorem op_once : OpR X (binaryOp .Mult) (rOnce X.K) := by
  intro pins s0 σ0 H0 x y v u Q J rx ry h
  obtain ⟨l, xs, rfl, rfl, hT, q⟩ := h
  cases rx
  obtain ⟨tk, rfl⟩ := ry
  obtain ⟨its, r, ⟨⟨cl, dd, da, sl⟩, ho, hc, n, hd⟩, _⟩ := J.tuple hT
  simp only at hc hd
  subst hc hd
  refine wpAny_binaryOp_repeat_ref (T := "tuple") (U := "int") (by decide) ⟨_, ho, rfl⟩ (fun s' => typeIs_int s' 1 tk) noFill_tuple_mul F.fills_int_mul F.slot_int_rmul repeat_tuple F.slot_int_index.lookup
    (call_meets F.slot_int_rmul (typeIs_int s0 1 tk) F.entry_int_rmul (F.args_int_rmul_2 _ _) (int_rmul_tuple 1 tk l its.toArray n dd sl)
      ⟨ho, rfl, ⟨_, ho, rfl⟩, call_meets F.slot_tuple_mul ⟨_, ho, rfl⟩ F.entry_tuple_mul (F.args_tuple_mul_2 _ _) (once_same l its.toArray n dd sl tk) ⟨ho, ?_⟩⟩)
  exact ⟨.ref l, H0, J, rfl, q⟩
def rRepF (K : PySem.W.Frag) : R2 := fun x y H Q => ∃ l k xs, x = .ref l ∧ y = .int k ∧ SqT K H l xs ∧ xs ≠ [] ∧ 2 ≤ k ∧ k ≤ 1000 ∧ xs.length ≤ 1000 ∧ TupNew H (List.replicate k.toNat xs).flatten Q
theorem op_repF : OpR X (binaryOp .Mult) (rRepF X.K) := by
  intro pins s0 σ0 H0 x y v u Q J rx ry h
  obtain ⟨l, k, xs, rfl, rfl, hT, hne, k1, k2, hz, q⟩ := h
  cases rx
  obtain ⟨tk, rfl⟩ := ry
  obtain ⟨its, r, ⟨⟨cl, dd, da, sl⟩, ho, hc, n, hd⟩, _⟩ := J.tuple hT
  simp only at hc hd
  subst hc hd
  have len : its.length = xs.length := r.length.symm
  have nn : its ≠ [] := fun e => hne (List.eq_nil_of_length_eq_zero (by rw [← len, e]; rfl))
  have emp : its.toArray.isEmpty = false := by
    cases its with
    | nil => exact absurd rfl nn
    | cons _ _ => rfl
  have sz : its.toArray.size = xs.length := by rw [List.size_toArray, len]
  have few : ((its.toArray.size : Nat) : Int) * k ≤ 1000000 := by
    rw [sz]
    have : ((xs.length : Nat) : Int) * k ≤ 1000 * k := Int.mul_le_mul_of_nonneg_right (by omega) (by omega)
    omega
  have fl : (List.replicate k.toNat its).flatten.length ≤ sizeLine := by
    rw [PyProof.Rows.lm_len_rep_flat, len, sizeLine_eq]
    have : k.toNat * xs.length ≤ 1000 * 1000 := Nat.mul_le_mul (by omega) hz
    omega
  have b0 : (decide (k < -(2 ^ 63)) || decide (k ≥ 2 ^ 63)) = false := by rw [decide_eq_false (by omega), decide_eq_false (by omega)]; rfl
  have b1 : (its.toArray.isEmpty || k == 1) = false := by rw [emp, Bool.false_or]; exact beq_eq_false_iff_ne.mpr (by omega)
  have b2 : (decide (k ≤ 0) || its.toArray.isEmpty) = false := by rw [emp, decide_eq_false (by omega)]; rfl
  have b4 : Builtin.Tuple.tupleTooMany (((its.toArray.size : Nat) : Int) * k) = false := by
    unfold Builtin.Tuple.tupleTooMany
    exact decide_eq_false (by rw [sizeLine_eq]; omega)
  refine wpAny_binaryOp_repeat_ref (T := "tuple") (U := "int") (by decide) ⟨_, ho, rfl⟩ (fun s' => typeIs_int s' k tk) noFill_tuple_mul F.fills_int_mul F.slot_int_rmul repeat_tuple F.slot_int_index.lookup
    (call_meets F.slot_int_rmul (typeIs_int s0 k tk) F.entry_int_rmul (F.args_int_rmul_2 _ _) (int_rmul_tuple k tk l its.toArray n dd sl)
      ⟨ho, rfl, ⟨_, ho, rfl⟩, call_meets F.slot_tuple_mul ⟨_, ho, rfl⟩ F.entry_tuple_mul (F.args_tuple_mul_2 _ _) (tuple_mulW l its.toArray n dd sl k tk b0 b1 b2 (by omega) b4 (by rw [size_rep, List.size_toArray]; exact fl)) ⟨ho, ?_⟩⟩)
  rw [size_rep]
  exact tup_end J (r.rep k.toNat) (by rw [PyProof.Rows.lm_len_rep_flat, ← len, ← PyProof.Rows.lm_len_rep_flat]; exact fl) q
/-- (e, ..) * n, n from 1 to 1000 -/
theorem ee_repT {n : Nat} (ha : Ee X Γ a (.tuple ds) Γ1) (hb : Ee X Γ1 b (.int n) Γ2) (h0 : ds ≠ []) (h1 : 1 ≤ n) (h2 : n ≤ 1000) (h3 : ds.length ≤ 1000) : Ee X Γ (.BinOp a .Mult b pos) (.tuple ((List.replicate n ds).flatten)) Γ2 := by
  by_cases hn : n = 1
  · subst hn
    refine pe_imp (pe_op op_once ha hb) fun σ H Q ⟨F, ev, x, k⟩ => ⟨F, ev, x, fun v F1 H1 g1 e1 dv => ⟨F1, e1, g1.fh, fun w F2 H2 g2 e2 dw => ?_⟩⟩
    have dv2 := dv.up g2.ff
    obtain ⟨p1, ob1, xs, rfl, hh, _, s1, a1⟩ := dv2.tupAt g2.fh
    cases dw
    have e : (List.replicate 1 ds).flatten = ds := by simp
    rw [e] at k
    exact ⟨p1, xs, rfl, rfl, s1, k _ F2 H2 (g1.trans g2) e2 dv2⟩
  · refine pe_imp (pe_op op_repF ha hb) fun σ H Q ⟨F, ev, x, k⟩ => ⟨F, ev, x, fun v F1 H1 g1 e1 dv => ⟨F1, e1, g1.fh, fun w F2 H2 g2 e2 dw => ?_⟩⟩
    obtain ⟨p1, ob1, xs, rfl, hh, _, s1, a1⟩ := (dv.up g2.ff).tupAt g2.fh
    cases dw
    exact ⟨p1, n, xs, rfl, rfl, s1, fun z => h0 ((dda_nil_iff a1).mp z), by omega, by omega, by rw [a1.len]; exact h3, tupNew_of (g1.trans g2) e2 (dda_flat a1 n) k⟩
end
end DL
end

section
namespace DL
open PySem PySem.Spec PyProof.Rows L2
/-- {} : a dict without keys, only made and passed on -/
def emptyD : PyData := .dict [(.none, .none)]
theorem dct_of {K : PySem.W.Frag} {F : Hp} {v : V} (h : Dd K F v emptyD) : ∃ p, v = .ref p ∧ F p = some (.dK []) := by
  have key : ∀ (m : PyData), m = emptyD → Dd K F v m → ∃ p, v = .ref p ∧ F p = some (.dK []) := fun m em hm => by
    cases hm with
    | dct h1 => exact ⟨_, rfl, h1⟩
    | scr h1 =>
      rename_i a ns
      cases ns with
      | nil => cases em
      | cons n r => simp [emptyD] at em
    | _ => cases em
  exact key _ rfl h
section
variable {X : Cx} {Γ Γ1 : Gm} {e : Expr} {pos pp : Pos} {p : Bool}
theorem ee_emptyD : Ee X Γ (.Dict [] [] pos) emptyD Γ :=
  pe_imp pe_dnewK fun σ H Q ⟨F, ev, x, k⟩ => fun a ha => by
    have hF : F a = none := x.free ha
    have nw : ∀ b, (upd F a (.dK [])) b ≠ none → F b ≠ none ∨ H b = none := fun b h => by
      by_cases hb : b = a
      · subst hb; exact .inr ha
      · rw [upd_ne hb] at h; exact .inl h
    have fh : Ext (upd F a (.dK [])) (upd H a (.dK [])) := fun b o h => by
      by_cases hb : b = a
      · subst hb; rw [upd_same] at h ⊢; exact h
      · rw [upd_ne hb] at h ⊢; exact x b o h
    exact k (.ref a) _ _ (Gr.ext (Ext.new hF) fh (Ext.new ha) nw) (ev.keep (Ext.new hF) (Ext.new ha) nw) (.dct upd_same)
theorem ee_isiE {T : Str} {TN : String} {p1 : Pos} (hm : X.mg "isinstance" = none) (hT : X.mg T = none) (hb : bootBuiltins T = some (.type TN)) (ha : Ee X Γ e emptyD Γ1) (hk : kitB "dict" TN = some p) (hg : Gl X "isinstance" := by rfl) (hg2 : Gl X T := by rfl) (hn : T ≠ "__name__" := by decide) (hdb : (T == ("__debug__" : Str)) = false := by decide)
    (he : starEach [e, .Name T p1] X.env = (false, eval e X.env) :: starEach [.Name T p1] X.env := by rfl) (he2 : starEach [.Name T p1] X.env = (false, eval (.Name T p1) X.env) :: starEach [] X.env := by rfl) (hpl : (backTo pos (starEach [.Name T p1] X.env)).any (·.1) = false := by rfl) :
    Ee X Γ (.Call (.Name "isinstance" pp) [e, .Name T p1] [] pos) (.bool p) Γ1 :=
  pe_imp (pe_callB call_isi hg hm (by decide +kernel) (pa_cons ha (pa_cons (pe_bltn (v := .ty TN) hg2 hT hb rfl hn hdb) pa_nil he2) he) (by decide) (by decide) he hpl) fun σ H Q ⟨F, ev, x, k⟩ => ⟨F, ev, x, fun v F1 H1 g1 e1 dv => by
    obtain ⟨a, rfl, h1⟩ := dct_of dv
    exact ⟨.ref a, .ty TN, .type "dict", .type TN, p, rfl, .ty TN, .base (.dK (g1.fh _ _ h1)), kit_ty hk, k _ F1 H1 g1 e1 (.bl p)⟩⟩
end
end DL
end

section
namespace DL
open PySem PySem.Spec PyProof.Rows L2
section
variable {X : Cx} {Γ Γ1 Γ2 Γ3 : Gm} {a b c e : Expr} {es : List Expr} {d d1 d2 d3 : PyData} {ds ds2 es' : List PyData} {pos pp : Pos} {p q : Bool} {i j : Int}
variable {α β : Type}
/-- the reading of a comprehension of two clauses, a test behind the second -/
theorem lc2T_read {xs : List α} {enc : α → PyData} {ys : α → List β} {enc1 : α → β → PyData} {h : α → β → PyData} {pf : α → β → Bool} {Γt : α → Gm} {Γu : α → β → Gm} {vs vs1 is is1 : List Nat} {g g1 : TG} {tt1 : TT} {te : TE} {wi wi1 : TI} (hv : noV Γ1 vs = true) (hv1 : ∀ x, x ∈ xs → noV (Γt x) vs1 = true) (hless : ∀ x, x ∈ xs → Less Γ1 (Γt x)) (hless1 : ∀ x, x ∈ xs → ∀ y, y ∈ ys x → Less (Γt x) (Γu x y))
    (his : ∀ i ∈ is, i ∈ vs) (his1 : ∀ i ∈ is1, i ∈ vs1) (hvs : ∀ i ∈ vs1, i ∈ vs) (hsz : (xs.flatMap ys).length ≤ 16777216)
    (hw : ∀ σ H R, tIt X.K Γ (xs.map enc) Γ1 σ H R → wi σ H R) (hg : ∀ x, x ∈ xs → ∀ v σ H Q, tGt X.K Γ1 (enc x) is (Γt x) v σ H Q → g v σ H Q)
    (hw1 : ∀ x, x ∈ xs → ∀ σ H R, tIt X.K (Γt x) ((ys x).map (enc1 x)) (Γt x) σ H R → wi1 σ H R) (hg1 : ∀ x, x ∈ xs → ∀ y, y ∈ ys x → ∀ v σ H Q, tGt X.K (Γt x) (enc1 x y) is1 (Γu x y) v σ H Q → g1 v σ H Q)
    (ht : ∀ x, x ∈ xs → ∀ y, y ∈ ys x → ∀ σ H Q, tT X.K (Γu x y) (pf x y) (Γu x y) σ H Q → tt1 σ H Q)
    (he : ∀ x, x ∈ xs → ∀ y, y ∈ ys x → pf x y = true → ∀ σ H Q, tE X.K (Γu x y) (h x y) (Γu x y) σ H Q → te σ H Q) :
    ∀ σ H Q, tN X.K Γ (xs.flatMap fun x => ((ys x).filter (pf x)).map (h x)) Γ1 σ H Q → tLc2 wi g tYes wi1 g1 tt1 te vs vs1 σ H Q := by
  intro σ H Q ⟨F, ev, x, k⟩
  refine hw σ H _ ⟨F, ev, x, fun J F1 H1 g1' e1 hW => fun D hD => ?_⟩
  have nD : ¬ Own σ Γ1 D := fun o => by
    obtain ⟨_, ys, z⟩ := e1.own_at o
    rw [hD] at z; cases z
  have ag : wipe (wipe σ vs) vs = wipe σ vs := wipe_idem σ vs
  refine ⟨fun i m H2 => m = xs.length - i ∧ i ≤ xs.length ∧ ∃ F2 acc, EnvOk X.K F2 H2 σ Γ1 ∧ Gr F1 H1 (Own σ Γ1) F2 H2 (Own σ Γ1) ∧ F2 D = none ∧ H2 D = some (.lst acc) ∧ DdA X.K F2 acc ((xs.take i).flatMap fun x => ((ys x).filter (pf x)).map (h x)), ⟨xs.length, by omega, Nat.zero_le _, F1, [], e1.newH hD, Gr.newH g1'.fh hD, g1'.fh.free hD, upd_same, .nil⟩, ?_⟩
  rintro i m H2 ⟨rfl, hi, F2, acc, e2, g2, hF2, hH2, hd2⟩
  have wk := hW i F2 H2 g2.ff g2.fh
  by_cases hlt : i < xs.length
  · have hx : xs[i]? = some xs[i] := List.getElem?_eq_getElem hlt
    have hxm : xs[i] ∈ xs := List.getElem_mem hlt
    obtain ⟨go, yl⟩ := wk.1 (enc xs[i]) (by rw [List.getElem?_map, hx]; rfl)
    refine .inr ⟨go, fun H3 => ∃ F3 acc, EnvOk X.K F3 H3 σ Γ1 ∧ Gr F1 H1 (Own σ Γ1) F3 H3 (Own σ Γ1) ∧ F3 D = none ∧ H3 D = some (.lst acc) ∧ DdA X.K F3 acc ((xs.take (i + 1)).flatMap fun x => ((ys x).filter (pf x)).map (h x)), fun H3 ⟨F3, acc, z⟩ => ⟨xs.length - (i + 1), by omega, rfl, hlt, F3, acc, z⟩, fun y H3 hy => ?_⟩
    obtain ⟨F3, y1, y2, y3, y4, dy⟩ := yl y H3 hy
    have e3 := e2.keep y1 y3 y4
    have g3 := g2.trans (Gr.ext (A := Own σ Γ1) y1 y2 y3 y4)
    have hD3 : H3 D = some (.lst acc) ∧ F3 D = none := (Gr.ext (A := Own σ Γ1) y1 y2 y3 y4).keepD hH2 hF2 nD
    refine hg xs[i] hxm y _ H3 _ ⟨F3, e3.agree hv ag.symm, y2, dy, fun σ4 F4 H4 g4 e4 w4 => ?_⟩
    have w4' := w4 vs his
    rw [ag] at w4'
    refine ⟨w4', ?_⟩
    unfold tYes
    refine iteT ?_
    have l4 := hless xs[i] hxm
    have g4' : Gr F3 H3 (Own σ Γ1) F4 H4 (Own σ4 (Γt xs[i])) := g4.left fun a o => own_agree hv ag o
    have back : ∀ a, Own σ Γ1 a → Own σ4 (Γt xs[i]) a := fun a o => l4.own (own_agree hv w4'.symm o)
    have nD4 : ¬ Own σ4 (Γt xs[i]) D := fun o => by
      rcases g4'.aa D o with z | z
      · exact nD z
      · rw [hD3.1] at z; cases z
    have hD4 := g4'.keepD hD3.1 hD3.2 nD
    -- the second walk
    refine hw1 xs[i] hxm σ4 H4 _ ⟨F4, e4, g4'.fh, fun J1 F5 H5 g5 e5 hW1 => ?_⟩
    have hD5 := g5.keepD hD4.1 hD4.2 nD4
    have gA := g3.trans (g4'.trans g5)
    have ag1 : wipe (wipe σ4 vs1) vs1 = wipe σ4 vs1 := wipe_idem σ4 vs1
    refine ⟨fun j m H6 => m = (ys xs[i]).length - j ∧ j ≤ (ys xs[i]).length ∧ ∃ F6 acc6, EnvOk X.K F6 H6 σ4 (Γt xs[i]) ∧ Gr F1 H1 (Own σ Γ1) F6 H6 (Own σ4 (Γt xs[i])) ∧ Ext F5 F6 ∧ F6 D = none ∧ H6 D = some (.lst acc6) ∧ DdA X.K F6 acc6 (((xs.take i).flatMap fun x => ((ys x).filter (pf x)).map (h x)) ++ (((ys xs[i]).take j).filter (pf xs[i])).map (h xs[i])),
      ⟨(ys xs[i]).length, by omega, Nat.zero_le _, F5, acc, e5, gA, Ext.refl _, hD5.2, hD5.1, ?_⟩, ?_⟩
    · simpa using hd2.up ((y1.trans g4'.ff).trans g5.ff)
    rintro j m H6 ⟨rfl, hj, F6, acc6, e6, g6, x56, hF6, hH6, hd6⟩
    have wk1 := hW1 j F6 H6 x56 g6.fh
    by_cases hjt : j < (ys xs[i]).length
    · have hyj : (ys xs[i])[j]? = some (ys xs[i])[j] := List.getElem?_eq_getElem hjt
      have hym : (ys xs[i])[j] ∈ ys xs[i] := List.getElem_mem hjt
      obtain ⟨go1, yl1⟩ := wk1.1 (enc1 xs[i] (ys xs[i])[j]) (by rw [List.getElem?_map, hyj]; rfl)
      refine .inr ⟨go1, fun H7 => ∃ F6 acc6, EnvOk X.K F6 H7 σ4 (Γt xs[i]) ∧ Gr F1 H1 (Own σ Γ1) F6 H7 (Own σ4 (Γt xs[i])) ∧ Ext F5 F6 ∧ F6 D = none ∧ H7 D = some (.lst acc6) ∧ DdA X.K F6 acc6 (((xs.take i).flatMap fun x => ((ys x).filter (pf x)).map (h x)) ++ (((ys xs[i]).take (j + 1)).filter (pf xs[i])).map (h xs[i])), fun H7 ⟨F7, acc7, z⟩ => ⟨(ys xs[i]).length - (j + 1), by omega, rfl, hjt, F7, acc7, z⟩, fun y7 H7 hy7 => ?_⟩
      obtain ⟨F7, z1, z2, z3, z4, dz⟩ := yl1 y7 H7 hy7
      have e7 := e6.keep z1 z3 z4
      have g7 := g6.trans (Gr.ext (A := Own σ4 (Γt xs[i])) z1 z2 z3 z4)
      have hD7 : H7 D = some (.lst acc6) ∧ F7 D = none := (Gr.ext (A := Own σ4 (Γt xs[i])) z1 z2 z3 z4).keepD hH6 hF6 nD4
      refine hg1 xs[i] hxm _ hym y7 _ H7 _ ⟨F7, e7.agree (hv1 xs[i] hxm) ag1.symm, z2, dz, fun σ8 F8 H8 g8 e8 w8 => ?_⟩
      have w8' := w8 vs1 his1
      rw [ag1] at w8'
      refine ⟨w8', ?_⟩
      have l8 := hless1 xs[i] hxm _ hym
      have g8' : Gr F7 H7 (Own σ4 (Γt xs[i])) F8 H8 (Own σ8 (Γu xs[i] (ys xs[i])[j])) := g8.left fun a o => own_agree (hv1 xs[i] hxm) ag1 o
      have back1 : ∀ a, Own σ4 (Γt xs[i]) a → Own σ8 (Γu xs[i] (ys xs[i])[j]) a := fun a o => l8.own (own_agree (hv1 xs[i] hxm) w8'.symm o)
      have nD8 : ¬ Own σ8 (Γu xs[i] (ys xs[i])[j]) D := fun o => by
        rcases g8'.aa D o with z | z
        · exact nD4 z
        · rw [hD7.1] at z; cases z
      have hD8 := g8'.keepD hD7.1 hD7.2 nD4
      refine ht xs[i] hxm _ hym σ8 H8 _ ⟨F8, e8, g8'.fh, fun F8b H8b g8b e8b => ?_⟩
      have hD8b := g8b.keepD hD8.1 hD8.2 nD8
      have htake : ((ys xs[i]).take (j + 1)).filter (pf xs[i]) = ((ys xs[i]).take j).filter (pf xs[i]) ++ (if pf xs[i] (ys xs[i])[j] = true then [(ys xs[i])[j]] else []) := by
        rw [List.take_add_one, hyj, List.filter_append]
        congr 1
        show [(ys xs[i])[j]].filter (pf xs[i]) = _
        by_cases hf : pf xs[i] (ys xs[i])[j] = true
        · rw [if_pos hf, List.filter_cons_of_pos hf]; rfl
        · rw [if_neg hf, List.filter_cons_of_neg hf]; rfl
      cases hf : pf xs[i] (ys xs[i])[j] with
      | false =>
        have g9' := g8'.trans g8b
        refine iteF ⟨F8b, acc6, (l8.env e8b).agree (hv1 xs[i] hxm) w8', (g7.trans g9').right back1, (x56.trans z1).trans g9'.ff, hD8b.2, hD8b.1, ?_⟩
        rw [htake, hf]
        simp only [Bool.false_eq_true, if_false, List.append_nil]
        exact hd6.up (z1.trans g9'.ff)
      | true =>
        refine iteT (he xs[i] hxm _ hym hf σ8 H8b _ ⟨F8b, e8b, (g8'.trans g8b).fh, fun v F9 H9 g9 e9 dv => ?_⟩)
        have hD9 := g9.keepD hD8b.1 hD8b.2 nD8
        have g9' := (g8'.trans g8b).trans g9
        have hlen : acc6.length < sizeLine := by
          rw [hd6.len, sizeLine_eq]
          have h1 : (((xs.take i).flatMap fun x => ((ys x).filter (pf x)).map (h x)) ++ (((ys xs[i]).take j).filter (pf xs[i])).map (h xs[i])).length < (xs.flatMap ys).length := by
            have h2 : ((xs.take (i + 1)).flatMap ys).length ≤ (xs.flatMap ys).length := by
              conv => rhs; rw [← List.take_append_drop (i + 1) xs, List.flatMap_append]
              rw [List.length_append]; omega
            have h3 : ((xs.take (i + 1)).flatMap ys).length = ((xs.take i).flatMap ys).length + (ys xs[i]).length := by
              rw [List.take_add_one, hx, List.flatMap_append, List.length_append]; simp
            have h4 : ∀ L : List α, (L.flatMap fun x => ((ys x).filter (pf x)).map (h x)).length ≤ (L.flatMap ys).length := fun L => by
              induction L with
              | nil => exact Nat.le_refl _
              | cons a L ih =>
                rw [List.flatMap_cons, List.flatMap_cons, List.length_append, List.length_append, List.length_map]
                have := List.length_filter_le (pf a) (ys a)
                omega
            have h5 := List.length_filter_le (pf xs[i]) ((ys xs[i]).take j)
            have h6 := h4 (xs.take i)
            rw [List.length_take] at h5
            rw [List.length_append, List.length_map]
            omega
          omega
        refine ⟨acc6, hD9.1, hlen, F9, acc6 ++ [v], ((l8.env e9).agree (hv1 xs[i] hxm) w8').mutOther nD4, ((g7.trans g9').right back1).mutNew hD hD9.2, (x56.trans z1).trans g9'.ff, hD9.2, upd_same, ?_⟩
        rw [htake, hf]
        simp only [if_true, List.map_append]
        rw [← List.append_assoc]
        exact (hd6.up (z1.trans g9'.ff)).app (.cons dv .nil)
    · have hje : j = (ys xs[i]).length := by omega
      subst hje
      refine .inl ⟨wk1.2 (by rw [List.length_map]; exact Nat.le_refl _), F6, acc6, (l4.env e6).agree hv w4', g6.right back, hF6, hH6, ?_⟩
      rw [List.take_of_length_le (Nat.le_refl _)] at hd6
      rw [take_flat hlt]
      exact hd6
  · have hie : i = xs.length := by omega
    subst hie
    refine .inl ⟨wk.2 (by rw [List.length_map]; exact Nat.le_refl _), ?_⟩
    rw [List.take_of_length_le (Nat.le_refl _)] at hd2
    exact k D acc F2 H2 (g1'.trans g2) e2 hF2 (g1'.free hD) hH2 nD hd2
theorem en_lc2T {elt tg iter tg1 iter1 : Expr} {ifs1 : List Expr} {scope : Scope} {own : List (Str × Nat)} {vs1 : List Nat} (xs : List α) (enc : α → PyData) (ys : α → List β) (enc1 : α → β → PyData) (pf : α → β → Bool) (h : α → β → PyData) (Γt : α → Gm) (Γu : α → β → Gm) (is is1 : List Nat) (hc : X.calm = true) (hN : X.N.Nodup) (ok : BlkOk X.N X.env.scope scope own) (hvs : ∀ i ∈ vs1, i ∈ own.map (·.2)) (hv : noV Γ1 (own.map (·.2)) = true)
    (hv1 : ∀ x, x ∈ xs → noV (Γt x) vs1 = true) (his : ∀ i ∈ is, i ∈ own.map (·.2)) (his1 : ∀ i ∈ is1, i ∈ vs1) (hsz : (xs.flatMap ys).length ≤ 16777216) (hless : ∀ x, x ∈ xs → Less Γ1 (Γt x)) (hless1 : ∀ x, x ∈ xs → ∀ y, y ∈ ys x → Less (Γt x) (Γu x y)) (hi : Ei X Γ tg iter (xs.map enc) Γ1)
    (hg : ∀ x, x ∈ xs → ∀ (s : Shared) (H : Hp) (C : Addr) (cl : List (Str × Addr)) (fp : List Addr), Eg (X.blk s H scope (compEnvC scope cl C X.env) fp) Γ1 tg (enc x) is (Γt x))
    (hi1 : ∀ x, x ∈ xs → ∀ (s : Shared) (H : Hp) (C : Addr) (cl : List (Str × Addr)) (fp : List Addr), Ei (X.blk s H scope (compEnvC scope cl C X.env) fp) (Γt x) tg1 iter1 ((ys x).map (enc1 x)) (Γt x))
    (hg1 : ∀ x, x ∈ xs → ∀ y, y ∈ ys x → ∀ (s : Shared) (H : Hp) (C : Addr) (cl : List (Str × Addr)) (fp : List Addr), Eg (X.blk s H scope (compEnvC scope cl C X.env) fp) (Γt x) tg1 (enc1 x y) is1 (Γu x y))
    (ht : ∀ x, x ∈ xs → ∀ y, y ∈ ys x → ∀ (s : Shared) (H : Hp) (C : Addr) (cl : List (Str × Addr)) (fp : List Addr), Ets (X.blk s H scope (compEnvC scope cl C X.env) fp) (Γu x y) ifs1 (pf x y))
    (he : ∀ x, x ∈ xs → ∀ y, y ∈ ys x → pf x y = true → ∀ (s : Shared) (H : Hp) (C : Addr) (cl : List (Str × Addr)) (fp : List Addr), Ee (X.blk s H scope (compEnvC scope cl C X.env) fp) (Γu x y) elt (h x y) (Γu x y))
    (hs : ∀ x, foldedSetIterable iter X.env x = pure x := by intro _; rfl) (hs1 : ∀ env x, foldedSetIterable iter1 env x = pure x := by intro _ _; rfl) :
    En X Γ (.ListComp elt [⟨tg, iter, [], 0⟩, ⟨tg1, iter1, ifs1, 0⟩] scope pos) (xs.flatMap fun x => ((ys x).filter (pf x)).map (h x)) Γ1 :=
  pe_imp (pe_lc2 (g := fun v σ H Q => ∃ x, x ∈ xs ∧ tGt X.K Γ1 (enc x) is (Γt x) v σ H Q) (wi1 := fun σ H R => ∃ x, x ∈ xs ∧ tIt X.K (Γt x) ((ys x).map (enc1 x)) (Γt x) σ H R) (g1 := fun v σ H Q => ∃ x y, x ∈ xs ∧ y ∈ ys x ∧ tGt X.K (Γt x) (enc1 x y) is1 (Γu x y) v σ H Q) (tt1 := fun σ H Q => ∃ x y, x ∈ xs ∧ y ∈ ys x ∧ tT X.K (Γu x y) (pf x y) (Γu x y) σ H Q) (te := fun σ H Q => ∃ x y, x ∈ xs ∧ y ∈ ys x ∧ pf x y = true ∧ tE X.K (Γu x y) (h x y) (Γu x y) σ H Q) hc hN hi ok hvs
    (fun s H C cl fp => ⟨fun pins s' σ H' v u Q I r ⟨x, hx, hh⟩ => (hg x hx s H C cl fp).run pins s' σ H' v u Q I r hh⟩) (fun s H C cl fp => pts_nil) (fun s H C cl fp => ⟨fun pins s' σ H' R I ⟨x, hx, hh⟩ => (hi1 x hx s H C cl fp).run pins s' σ H' R I hh⟩)
    (fun s H C cl fp => ⟨fun pins s' σ H' v u Q I r ⟨x, y, hx, hy, hh⟩ => (hg1 x hx y hy s H C cl fp).run pins s' σ H' v u Q I r hh⟩) (fun s H C cl fp => ⟨fun pins s' σ H' Q I ⟨x, y, hx, hy, hh⟩ => (ht x hx y hy s H C cl fp).run pins s' σ H' Q I hh⟩)
    (fun s H C cl fp => ⟨fun pins s' σ H' Q I ⟨x, y, hx, hy, hf, hh⟩ => (he x hx y hy hf s H C cl fp).run pins s' σ H' Q I hh⟩) hs hs1)
    (lc2T_read hv hv1 hless hless1 his his1 hvs hsz (fun σ H R z => z) (fun x hx v σ H Q z => ⟨x, hx, z⟩) (fun x hx σ H R z => ⟨x, hx, z⟩) (fun x hx y hy v σ H Q z => ⟨x, y, hx, hy, z⟩) (fun x hx y hy σ H Q z => ⟨x, y, hx, hy, z⟩) (fun x hx y hy hf σ H Q z => ⟨x, y, hx, hy, hf, z⟩))
end
end DL
end

section
namespace DL
open PySem PySem.Spec PyProof.Rows L2 StX
section
variable {X : Cx} {Γ Γ1 Γ2 : Gm} {e : Expr} {es : List Expr} {ds ds2 : List PyData} {p : Pos}
/-- (*xs, ..), xs a tuple -/
theorem ea_star (he : Ee X Γ e (.tuple ds) Γ1) (hr : Ea X Γ1 es ds2 Γ2) (hs : starEach (.Starred e p :: es) X.env = (true, eval e X.env) :: starEach es X.env := by rfl) : Ea X Γ (.Starred e p :: es) (ds ++ ds2) Γ2 :=
  pa_imp (pa_star he hr hs) fun σ H Q ⟨F, ev, x, q⟩ => ⟨F, ev, x, fun v F1 H1 g1 e1 dv => by
    obtain ⟨a, ob, xs, rfl, _, _, hS, hA⟩ := dv.tupAt g1.fh
    exact ⟨a, xs, rfl, .inl hS, F1, e1, g1.fh, fun vs F2 H2 g2 e2 dvs => q (xs ++ vs) F2 H2 (g1.trans g2) e2 ((hA.up g2.ff).app dvs)⟩⟩
end
def lcScope : Expr → Scope
  | .ListComp _ _ sc _ => sc
  | _ => ⟨.function, [], false, false, []⟩
/-- the scope of a block as a block within it sees it -/
def relB (sc0 sc : Scope) : Scope := { sc with names := sc.names.map fun p => if (p.2 == .free && sc0.names.lookup p.1 == some .cell) then (p.1, .cell) else p }
def asgVal : Stmt → Expr
  | .Assign _ v _ => v
  | _ => .Constant .none 0 ⟨0, 0, 0, 0⟩
end DL
end

section
namespace DL
open PySem PySem.Spec PyProof.Rows L2
section
variable {X : Cx} {Γ Γ1 : Gm} {e : Expr} {pos pp p1 p2 : Pos} {te : L2.St → Hp → (Int → Int → Hp → Prop) → Prop}
/-- tuple(range(..)), laid with its object -/
theorem pe_tupRgF {p : Pos} (hc : X.calm = true) (hg : Gl X "tuple") (hm : X.mg "tuple" = none) (he : PRg X e te) (na : starEach [e] X.env = (false, eval e X.env) :: starEach [] X.env := by rfl) : PE X (.Call (.Name "tuple" p) [e] [] pos) (fun σ H Q => te σ H fun a b H1 => RgOk a b ∧ TupNew H1 (rgV a b) Q) := by
  refine ⟨fun pins s σ H Q I h => Call_ (ld_blt I hg hm boot_tuple (PyProof.Rows.callWith_type1 (args_cons (thn (he pins s σ H _ I h) fun x s1 ⟨r, a, b, t, u, v, H1, ex, hr, I1, ok, q⟩ => args_nil ?_) na) na))⟩
  subst ex
  obtain ⟨b1, b2, b3, b4, b5⟩ := ok
  refine call_tuple_range (n := (b - a).toNat) (I1.ok.hd hc) hr (small_one b1 b2 b3 b4) (rangeSize_nat a b) b5 fun h' tk acc hk hi => ?_
  have I2 : Inv X pins σ H1 { s1 with heap := h', toks := tk } := I1.kept hk
  have hf : H1 h'.objs.size = none := I2.hok.fresh (Nat.le_refl _)
  have hz : (rgV a b).length ≤ sizeLine := by rw [rgV_length, sizeLine_eq]; omega
  refine ⟨.ref h'.objs.size, upd H1 h'.objs.size (.frz { cls := .type "tuple", data := .seq acc } (.tup (rgV a b))), I2.laid (t' := tk) (fun c o z => Heap.get?_push_of_some _ z) (Nat.le_refl _) ⟨Heap.get?_push_size _ rfl, hz, acc.toList, vals_rg hi, ?_⟩, rfl, q _ _ hf rfl⟩
  rw [Array.toArray_toList]
  exact ⟨_, Heap.get?_push_size _ rfl, rfl, _, rfl⟩
theorem ee_tupRg {n : Nat} (hc : X.calm = true) (hl : X.mg "tuple" = none) (hr : X.mg "range" = none) (ha : Ee X Γ e (.int n) Γ1) (hn : n ≤ 16777216) (hg : Gl X "tuple" := by rfl) (hg2 : Gl X "range" := by rfl) (na : starEach [e] X.env = (false, eval e X.env) :: starEach [] X.env := by rfl)
    (na2 : starEach [Expr.Call (.Name "range" p1) [e] [] p2] X.env = (false, eval (Expr.Call (.Name "range" p1) [e] [] p2) X.env) :: starEach [] X.env := by rfl) :
    Ee X Γ (.Call (.Name "tuple" pp) [.Call (.Name "range" p1) [e] [] p2] [] pos) (.tuple ((List.range n).map fun i : Nat => PyData.int i)) Γ1 :=
  pe_imp (pe_tupRgF hc hg hl (prg_1 hg2 hr ha na) na2) fun σ H Q ⟨F, ev, x, k⟩ => ⟨F, ev, x, fun v F1 H1 g1 e1 dv => by
    cases dv
    refine ⟨n, rfl, RgOk.of_le (by omega) (by omega) (by omega) (by omega), ?_⟩
    have h := dda_range (K := X.K) (F := F1) 0 (n : Int)
    have e2 : ((n : Int) - 0).toNat = n := by omega
    rw [e2] at h
    refine tupNew_of g1 e1 ?_ k
    simpa using h⟩
end
end DL
end

section
namespace DL
open PySem PySem.Spec PyProof.Rows L2
section
variable {X : Cx} {Γ : Gm} {b e : Expr} {pos ps p1 : Pos}
def rGetN (K : PySem.W.Frag) : V → V → Hp → VK → Prop := fun o i H Q => ∃ (p : Addr) (xs : List V) (j : Nat) (v : V), o = .ref p ∧ i = .int (j : Nat) ∧ SqL K H p xs ∧ j < 16777216 ∧ xs[j]? = some v ∧ Q v H
theorem get_listN : PGet X (rGetN X.K) := by
  intro pins s σ H o i ov iv Q I ro ri h
  obtain ⟨p, xs, j, v, rfl, rfl, hq, hj, hx, q⟩ := h
  cases ro
  obtain ⟨t, rfl⟩ := ri
  obtain ⟨its, r, pl, _⟩ := I.list hq
  obtain ⟨u, hu, ru⟩ := r.get hx
  exact wpAny_getItem_list pl.isList (Int.natCast_nonneg j) (by omega) (by rw [Int.toNat_natCast]; simpa using hu) ⟨v, H, I, ru, q⟩
/-- x[j] += c, x a list of the frame's own -/
theorem es_augIx {n j : Nat} {a c : Int} {s : Slot} {x : Str} (hx : PE X (.Name x p1) (tVar n)) (h : Γ[n]? = some (some s)) (ho : isOw s = true) (hb : Ee X Γ b (.int (j : Nat)) Γ) (hd : (slotDs s)[j]? = some (.int a)) (hl : (slotDs s).length ≤ 16777216) (he : Ee X Γ e (.int c) Γ)
    (ha : ∀ ov iv new, augStore b ov iv new = (do holding [new, ov, iv] (setItem ov iv new); release [new, ov, iv] []; pure .next) := by intros; rfl) :
    Es X Γ (.AugAssign (.Subscript (.Name x p1) b ps) .Add e pos) (.nx (Γ.set n (some (reSlot ((slotDs s).set j (.int (a + c))) s)))) :=
  ps_imp (ps_augS hx hb get_listN he ip_add set_list ha) fun D σ H ⟨F, ev, xt, k⟩ => by
    obtain ⟨l0, xs0, a1, a2, a3, a4⟩ := own_get ev h ho
    have hjl : j < (slotDs s).length := (List.getElem?_eq_some_iff.mp hd).1
    refine ⟨.ref l0, a1, F, ev, xt, fun w F1 H1 g1 e1 dw => ?_⟩
    cases dw
    obtain ⟨l, xs, b1, b2, b3, b4⟩ := own_get e1 h ho
    rw [a1] at b1
    cases b1
    obtain ⟨y, hy, dy⟩ := b4.get hd
    cases dy
    refine ⟨l0, xs, j, _, rfl, rfl, SqL.of b3, by omega, hy, F1, e1, g1.fh, fun w F2 H2 g2 e2 dw => ?_⟩
    cases dw
    obtain ⟨l, xs2, c1, c2, c3, c4⟩ := own_get e2 h ho
    rw [a1] at c1
    cases c1
    refine ⟨a, c, rfl, rfl, l0, xs2, j, j, rfl, rfl, c3, ?_, ?_⟩
    · unfold ixN
      rw [if_pos (by omega), if_pos (by rw [c4.len]; omega), Int.toNat_natCast]
    · exact k σ F2 _ ((g1.trans g2).trans (Gr.change g2.fh e2 h ho a1)) (e2.change h ho a1 (c4.set (.int (a + c))))
end
end DL
end

section
/-! zip of two lists, its pairs kept by a name. -/
namespace DL
open PySem PySem.Spec PyProof.Rows L2
section
variable {prog : Program} {w : World} {A : Around} {E : Value → Shared → Prop} {s : Shared}
/-- the tuple that was handed out is gone: the zip is free again -/
theorem zip_gone {z TI TO T : Addr} {f : Bool} {Q : Bool → Shared → Prop} (hz : IsZipHeld s.heap z TI TO T f) (hT : s.heap.get? T = none) (h : Q true s) : wpAny (model prog w) A (Builtin.SmallTypes.ownedTupleIsFree (.ref z)) Q E s := by
  unfold Builtin.SmallTypes.ownedTupleIsFree
  refine wpAny_bind (wpAny_field (x := rawInt T) hz rfl rfl ?_)
  have e : ((T : Int).toNat) = T := Int.toNat_natCast T
  show wpAny _ _ (loadIfAlive ((T : Int).toNat) >>= _) _ _ s
  rw [e]
  refine wpAny_bind (Q := _) (show wpAny _ _ (loadIfAlive T) _ _ s from ?_)
  have hh : (fun (o : Option Obj) (s' : Shared) => o = none ∧ s' = s) (s.heap.get? T) s := ⟨hT, rfl⟩
  refine wpAny_mono (Q := fun o s' => o = none ∧ s' = s) (fun _ _ _ => hh) (fun o s' ⟨ho, hs'⟩ => ?_) fun _ _ z => z
  subst ho hs'
  exact wpAny_pure h
abbrev ZipF (h : Heap) (z TI TO : Addr) (f0 f1 : Value) : Prop := h.get? z = some { cls := .type "zip", dict := none, data := .fields #[f0, f1, .bool false, .ref TI, .ref TO], slots := #[] }
/-- a free zip gives its next pair -/
theorem zip_item_free {z TI TO i1 i2 l1 l2 : Addr} {k1 k2 : Nat} {xs ys : Array Value} {x y a b f0 f1 : Value} {Q : Value → Shared → Prop} (D : ZipApart z TI TO i1 i2 l1 l2)
    (hfree : ∀ (Q : Bool → Shared → Prop) (E : Value → Shared → Prop), Q true s → wpAny (model prog w) A (Builtin.SmallTypes.ownedTupleIsFree (.ref z)) Q E s)
    (hz : ZipF s.heap z TI TO f0 f1) (hTI : IsPair s.heap TI (.ref i1) (.ref i2)) (hTO : IsPair s.heap TO a b) (h1 : s.heap.IsListIter i1 l1 k1) (h2 : s.heap.IsListIter i2 l2 k2) (hl1 : s.heap.IsList l1 xs) (hl2 : s.heap.IsList l2 ys) (hx : xs[k1]? = some x) (hy : ys[k2]? = some y)
    (hQ : ∀ h', IsZipHeld h' z TI TO s.heap.objs.size false → IsPair h' TO x y → h'.IsListIter i1 l1 (k1 + 1) → h'.IsListIter i2 l2 (k2 + 1) → IsPair h' s.heap.objs.size x y → h'.objs.size = s.heap.objs.size + 1 → (∀ c o, c ≠ z → c ≠ TO → c ≠ i1 → c ≠ i2 → s.heap.get? c = some o → h'.get? c = some o) → Q (.ref s.heap.objs.size) { s with heap := h' }) :
    wpAny (model prog w) A (Builtin.«zip.__next__» ⟨[.ref z], []⟩) (fun fin s' => ∃ v, fin = .done (.ret v) ∧ Q v s') E s := by
  show wpAny _ _ (field (.ref z) 2 >>= fun _ => _) _ _ s
  refine wpAny_bind (wpAny_field (x := .bool false) hz rfl rfl ?_); show wpAny _ _ (field (.ref z) 3 >>= fun _ => _) _ _ s
  refine wpAny_bind (wpAny_field (x := .ref TI) hz rfl rfl (wpAny_bind (wpAny_seqItems hTI rfl ?_))); show wpAny _ _ (Builtin.SmallTypes.ownedTupleIsFree (.ref z) >>= fun _ => _) _ _ s
  refine wpAny_bind (hfree _ _ ?_); simp only [if_true]
  refine wpAny_bind (wpAny_rule (wpAny_bind (wpAny_field (x := .ref TO) hz rfl rfl (wpAny_bind (wpAny_setField_rec hz (by simp) fun g1 hz1 s1 => ?_))))); replace hz1 : ZipF g1 z TI TO .ellipsis f1 := hz1
  refine wpAny_bind ?_; simp only [List.forIn_cons, List.forIn_nil, List.zipIdx_cons, List.zipIdx_nil]; refine wpAny_bind (wpAny_bind (wpAny_onRaise ?_)); show wpAny _ _ (Builtin.SmallTypes.nextOf (.ref i1) >>= fun _ => _) _ _ _
  refine wpAny_bind (wpAny_nextOf_list_item (h1.extBut s1.extBut D.i1z) (hl1.extBut s1.extBut D.l1z) hx fun g2 a2 s2 => wpAny_pure ?_)
  have t2 : IsPair g2 TO a b := s2.extBut _ _ D.TOi1 (s1.extBut _ _ D.TOz hTO)
  refine wpAny_bind (wpAny_seqItems t2 rfl (wpAny_bind (wpAny_updateSeq_pair t2 fun g3 t3 s3 => ?_))); replace t3 : IsPair g3 TO x b := t3
  refine wpAny_bind (wpAny_letGo (wpAny_pure (wpAny_bind (wpAny_bind (wpAny_onRaise ?_))))); show wpAny _ _ (Builtin.SmallTypes.nextOf (.ref i2) >>= fun _ => _) _ _ _
  have b3 : g3.IsListIter i2 l2 k2 := ((h2.extBut s1.extBut D.i2z).extBut s2.extBut D.i12.symm).extBut s3.extBut D.TOi2.symm
  have c3 : g3.IsList l2 ys := ((hl2.extBut s1.extBut D.l2z).extBut s2.extBut D.l2i1).extBut s3.extBut D.l2TO
  refine wpAny_bind (wpAny_nextOf_list_item b3 c3 hy fun g4 b4 s4 => wpAny_pure ?_)
  have t4 : IsPair g4 TO x b := s4.extBut _ _ D.TOi2 t3
  refine wpAny_bind (wpAny_seqItems t4 rfl (wpAny_bind (wpAny_updateSeq_pair t4 fun g5 t5 s5 => ?_))); replace t5 : IsPair g5 TO x y := t5
  refine wpAny_bind (wpAny_letGo (wpAny_pure (wpAny_pure (wpAny_bind (wpAny_seqItems t5 rfl (wpAny_bind (wpAny_newTuple ?_)))))))
  have size5 : g5.objs.size = s.heap.objs.size := s5.1.trans (s4.1.trans (s3.1.trans (s2.1.trans s1.1)))
  have z5 : ZipF g5 z TI TO .ellipsis f1 := s5.extBut _ _ D.TOz.symm (s4.extBut _ _ D.i2z.symm (s3.extBut _ _ D.TOz.symm (s2.extBut _ _ D.i1z.symm hz1)))
  have k5 : ∀ c o, c ≠ z → c ≠ TO → c ≠ i1 → c ≠ i2 → s.heap.get? c = some o → g5.get? c = some o := fun c o n1 n2 n3 n4 e => s5.extBut _ _ n2 (s4.extBut _ _ n4 (s3.extBut _ _ n2 (s2.extBut _ _ n3 (s1.extBut _ _ n1 e))))
  have a5 : g5.IsListIter i1 l1 (k1 + 1) := ((a2.extBut s3.extBut D.TOi1.symm).extBut s4.extBut D.i12).extBut s5.extBut D.TOi1.symm
  have b5 : g5.IsListIter i2 l2 (k2 + 1) := b4.extBut s5.extBut D.TOi2.symm
  have zlt : z < g5.objs.size := Heap.lt_size z5
  show wpAny _ _ (Builtin.SmallTypes.ownedTupleHandOut (.ref z) (.ref g5.objs.size) >>= fun _ => _) _ _ _; refine wpAny_bind ?_; unfold Builtin.SmallTypes.ownedTupleHandOut
  have z6 : ZipF (g5.push { cls := .type "tuple", data := .seq #[x, y] }) z TI TO .ellipsis f1 := Heap.get?_push_of_some _ z5
  refine wpAny_bind (wpAny_setField_rec z6 (by simp) fun g7 z7 s7 => ?_); replace z7 : ZipF g7 z TI TO (rawInt g5.objs.size) f1 := z7
  refine wpAny_setField_rec z7 (by simp) fun g8 z8 s8 => ?_; replace z8 : IsZipHeld g8 z TI TO g5.objs.size false := z8
  have up : ∀ c o, c ≠ z → g5.get? c = some o → g8.get? c = some o := fun c o n1 e => s8.extBut _ _ n1 (s7.extBut _ _ n1 (Heap.get?_push_of_some _ e))
  have t8 : IsPair g8 g5.objs.size x y := s8.extBut _ _ (Nat.ne_of_gt zlt) (s7.extBut _ _ (Nat.ne_of_gt zlt) (Heap.get?_push_size _ rfl))
  have size8 : g8.objs.size = g5.objs.size + 1 := by rw [s8.1, s7.1, Heap.size_push]
  rw [size5] at z8 t8 size8; refine wpAny_pure ⟨_, rfl, ?_⟩; show Q (.ref g5.objs.size) _; rw [size5]
  exact hQ g8 z8 (up _ _ D.TOz t5) (a5.at fun o e => up _ o D.i1z e) (b5.at fun o e => up _ o D.i2z e) t8 size8 fun c o n1 n2 n3 n4 e => up c o n1 (k5 c o n1 n2 n3 n4 e)
/-- a free zip comes to its end, both lists being of one length -/
theorem zip_end_free {z TI TO i1 i2 l1 l2 : Addr} {k1 : Nat} {xs : Array Value} {f0 f1 : Value} {Q : Fin → Shared → Prop} (hh : A.handled = none) (D : ZipApart z TI TO i1 i2 l1 l2)
    (hfree : ∀ (Q : Bool → Shared → Prop) (E : Value → Shared → Prop), Q true s → wpAny (model prog w) A (Builtin.SmallTypes.ownedTupleIsFree (.ref z)) Q E s)
    (hz : ZipF s.heap z TI TO f0 f1) (hTI : IsPair s.heap TI (.ref i1) (.ref i2)) (h1 : s.heap.IsListIter i1 l1 k1) (hl1 : s.heap.IsList l1 xs) (hx : xs[k1]? = none)
    (hE : ∀ h' e, (∀ c o, c ≠ z → c ≠ i1 → s.heap.get? c = some o → h'.get? c = some o) → (∃ o, h'.get? e = some o ∧ o.cls = .type "StopIteration") → E (.ref e) { s with heap := h' }) :
    wpAny (model prog w) A (Builtin.«zip.__next__» ⟨[.ref z], []⟩) Q E s := by
  show wpAny _ _ (field (.ref z) 2 >>= fun _ => _) _ _ s
  refine wpAny_bind (wpAny_field (x := .bool false) hz rfl rfl ?_); show wpAny _ _ (field (.ref z) 3 >>= fun _ => _) _ _ s
  refine wpAny_bind (wpAny_field (x := .ref TI) hz rfl rfl (wpAny_bind (wpAny_seqItems hTI rfl ?_))); show wpAny _ _ (Builtin.SmallTypes.ownedTupleIsFree (.ref z) >>= fun _ => _) _ _ s
  refine wpAny_bind (hfree _ _ ?_); simp only [if_true]
  refine wpAny_bind (wpAny_rule (wpAny_bind (wpAny_field (x := .ref TO) hz rfl rfl (wpAny_bind (wpAny_setField_rec hz (by simp) fun g1 hz1 s1 => ?_))))); replace hz1 : ZipF g1 z TI TO .ellipsis f1 := hz1
  refine wpAny_bind ?_; simp only [List.forIn_cons, List.forIn_nil, List.zipIdx_cons, List.zipIdx_nil]; refine wpAny_bind (wpAny_bind (wpAny_onRaise ?_)); show wpAny _ _ (Builtin.SmallTypes.nextOf (.ref i1) >>= fun _ => _) _ _ _
  refine wpAny_bind (wpAny_nextOf_list_end hh (h1.extBut s1.extBut D.i1z) (hl1.extBut s1.extBut D.l1z) hx fun g2 e s2 ⟨oe, hoe, hce⟩ => ?_)
  have z2 : ZipF g2 z TI TO .ellipsis f1 := s2 _ _ D.i1z.symm hz1
  have ez : e ≠ z := fun q => by subst q; rw [z2] at hoe; cases hoe; simp at hce
  exact wpAny_setField_rec z2 (by simp) fun g3 _ s3 => hE g3 e (fun c o n1 n2 q => s3.extBut _ _ n1 (s2 _ _ n2 (s1.extBut _ _ n1 q))) ⟨oe, s3.extBut _ _ ez hoe, hce⟩
end
end DL
end

section
namespace DL
open PySem PySem.Spec PyProof.Rows L2
section
variable {prog : Program} {w : World} {A : Around} {E : Value → Shared → Prop} {s : Shared}
/-- a zip that is free, or whose last pair is held -/
def ZipAny (h : Heap) (z TI TO : Addr) : Prop := IsZip h z TI TO .none ∨ ∃ T f, IsZipHeld h z TI TO T f
theorem zip_none_free {z TI TO : Addr} (hz : IsZip s.heap z TI TO .none) : ∀ (Q : Bool → Shared → Prop) (E : Value → Shared → Prop), Q true s → wpAny (model prog w) A (Builtin.SmallTypes.ownedTupleIsFree (.ref z)) Q E s := fun Q E h => by
  unfold Builtin.SmallTypes.ownedTupleIsFree
  exact wpAny_bind (wpAny_field (x := .none) hz rfl rfl (wpAny_pure h))
theorem any_next {z TI TO i1 i2 l1 l2 : Addr} {k : Nat} {xs ys : Array Value} {x y : Value} {Q : Option Value → Shared → Prop} (D : ZipApart z TI TO i1 i2 l1 l2) (hz : ZipAny s.heap z TI TO) (hTI : IsPair s.heap TI (.ref i1) (.ref i2)) (hTO : ∃ a b, IsPair s.heap TO a b)
    (h1 : s.heap.IsListIter i1 l1 k) (h2 : s.heap.IsListIter i2 l2 k) (hl1 : s.heap.IsList l1 xs) (hl2 : s.heap.IsList l2 ys) (hx : xs[k]? = some x) (hy : ys[k]? = some y)
    (hQ : ∀ h', ZipAny h' z TI TO → (∃ a b, IsPair h' TO a b) → h'.IsListIter i1 l1 (k + 1) → h'.IsListIter i2 l2 (k + 1) → IsPair h' s.heap.objs.size x y → (∀ c o, c ≠ z → c ≠ TO → c ≠ i1 → c ≠ i2 → s.heap.get? c = some o → h'.get? c = some o) → Q (some (.ref s.heap.objs.size)) { s with heap := h' }) :
    wpAny (model prog w) A (pyNext (.ref z)) Q E s := by
  obtain ⟨a, b, hTO⟩ := hTO
  have free : ∀ f0 f1, ZipF s.heap z TI TO f0 f1 → (∀ (Q : Bool → Shared → Prop) (E : Value → Shared → Prop), Q true s → wpAny (model prog w) A.in1 (Builtin.SmallTypes.ownedTupleIsFree (.ref z)) Q E s) → wpAny (model prog w) A (pyNext (.ref z)) Q E s := fun f0 f1 hz hf => by
    have ty : s.TypeIs (.ref z) "zip" := ⟨_, hz, rfl⟩
    unfold pyNext
    exact wpAny_bind (wpAny_attempt (wpAny_callSpecial?_slot (name := Str.ofString "__next__") ty F.slot_zip_next (wpAny_call_entry F.slot_zip_next ty F.entry_zip_next
      (zip_item_free D hf hz hTI hTO h1 h2 hl1 hl2 hx hy fun h' a1 a2 a3 a4 a5 a6 a7 => wpAny_pure (hQ h' (.inr ⟨_, _, a1⟩) ⟨_, _, a2⟩ a3 a4 a5 a7)) (F.args_zip_next_1 _))))
  rcases hz with hz | ⟨T, f, hz⟩
  · exact free _ _ hz (zip_none_free hz)
  · cases hT : s.heap.get? T with
    | none => exact free _ _ hz fun Q E h => zip_gone hz hT h
    | some oT => exact wpAny_pyNext_zip_item_held D hz hT hTI h1 h2 hl1 hl2 hx hy fun h' a1 a3 a4 a5 a6 a7 => hQ h' (.inr ⟨_, _, a1⟩) ⟨a, b, a7 TO _ D.TOz D.TOi1 D.TOi2 hTO⟩ a3 a4 a5 fun c o n1 _ n3 n4 e => a7 c o n1 n3 n4 e
theorem any_end {z TI TO i1 i2 l1 l2 : Addr} {k : Nat} {xs ys : Array Value} {Q : Option Value → Shared → Prop} (hh : A.handled = none) (D : ZipApart z TI TO i1 i2 l1 l2) (hz : ZipAny s.heap z TI TO) (hTI : IsPair s.heap TI (.ref i1) (.ref i2))
    (h1 : s.heap.IsListIter i1 l1 k) (h2 : s.heap.IsListIter i2 l2 k) (hl1 : s.heap.IsList l1 xs) (hl2 : s.heap.IsList l2 ys) (hx : xs[k]? = none)
    (hQ : ∀ h', (∀ c o, c ≠ z → c ≠ i1 → c ≠ i2 → s.heap.get? c = some o → h'.get? c = some o) → Q none { s with heap := h' }) : wpAny (model prog w) A (pyNext (.ref z)) Q E s := by
  have free : ∀ f0 f1, ZipF s.heap z TI TO f0 f1 → (∀ (Q : Bool → Shared → Prop) (E : Value → Shared → Prop), Q true s → wpAny (model prog w) A.in1 (Builtin.SmallTypes.ownedTupleIsFree (.ref z)) Q E s) → wpAny (model prog w) A (pyNext (.ref z)) Q E s := fun f0 f1 hz hf => by
    have ty : s.TypeIs (.ref z) "zip" := ⟨_, hz, rfl⟩
    unfold pyNext
    refine wpAny_bind (wpAny_attempt (wpAny_callSpecial?_slot (name := Str.ofString "__next__") ty F.slot_zip_next (wpAny_call_entry F.slot_zip_next ty F.entry_zip_next (zip_end_free hh D hf hz hTI h1 hl1 hx fun h' e hk he => ?_) (F.args_zip_next_1 _))))
    obtain ⟨o, ho, hc⟩ := he
    exact wpAny_bind (wpAny_isInstance (T := "StopIteration") (b := true) ⟨o, ho, hc⟩ isSubtype_stop (wpAny_pure (hQ _ fun c o n1 n2 _ e => hk c o n1 n2 e)))
  rcases hz with hz | ⟨T, f, hz⟩
  · exact free _ _ hz (zip_none_free hz)
  · cases hT : s.heap.get? T with
    | none => exact free _ _ hz fun Q E h => zip_gone hz hT h
    | some oT => exact wpAny_pyNext_zip_end_held hh D hz hT hTI h1 h2 hl1 hl2 (.inl hx) hQ
end
/-- two lists of one length side by side, the pairs laid with their objects -/
def ItzF (K : PySem.W.Frag) (a b : Addr) : It :=
  ⟨fun i H => ∃ (xs ys : List V) (x y : V), SqL K H a xs ∧ SqL K H b ys ∧ xs[i]? = some x ∧ ys[i]? = some y,
    fun i H v H' => ∃ T ob x y, v = .ref T ∧ H T = none ∧ ob.dict = none ∧ H' = upd H T (.frz ob (.tup [x, y])) ∧ (∀ xs, SqL K H a xs → xs[i]? = some x) ∧ ∀ ys, SqL K H b ys → ys[i]? = some y,
    fun i H => ∃ xs ys : List V, SqL K H a xs ∧ SqL K H b ys ∧ xs.length ≤ i⟩
theorem turn_zipN {P : Program} {w : World} {K : PySem.W.Frag} {n : Str} {np : Pos} {a b z TI TO i1 i2 : Addr} (D : ZipApart z TI TO i1 i2 a b) :
    Turn P w K (.Name n np) (ItzF K a b) [z, TI, TO, i1, i2] z (fun i h => ZipAny h z TI TO ∧ IsPair h TI (.ref i1) (.ref i2) ∧ (∃ x y, IsPair h TO x y) ∧ h.IsListIter i1 a i ∧ h.IsListIter i2 b i) where
  mem := by simp
  obj := fun i h st c hc => by
    obtain ⟨hz, hTI, ⟨x, y, hTO⟩, ⟨o1, e1, _, d1⟩, ⟨o2, e2, _, d2⟩⟩ := st
    have zo : ∃ o, h.get? z = some o ∧ ∀ v, o.data ≠ .cell v := by
      rcases hz with hz | ⟨T, f, hz⟩
      · exact ⟨_, hz, fun v q => nomatch q⟩
      · exact ⟨_, hz, fun v q => nomatch q⟩
    simp only [List.mem_cons, List.not_mem_nil, or_false] at hc
    rcases hc with rfl | rfl | rfl | rfl | rfl
    · exact zo
    · exact ⟨_, hTI, fun v q => nomatch q⟩
    · exact ⟨_, hTO, fun v q => nomatch q⟩
    · exact ⟨o1, e1, fun v q => by rw [d1] at q; cases q⟩
    · exact ⟨o2, e2, fun v q => by rw [d2] at q; cases q⟩
  keep := fun i h h' st k => by
    obtain ⟨hz, hTI, ⟨x, y, hTO⟩, h1, h2⟩ := st
    refine ⟨?_, k TI (by simp) _ hTI, ⟨x, y, k TO (by simp) _ hTO⟩, h1.at fun o q => k i1 (by simp) o q, h2.at fun o q => k i2 (by simp) o q⟩
    rcases hz with hz | ⟨T, f, hz⟩
    · exact .inl (k z (by simp) _ hz)
    · exact .inr ⟨T, f, k z (by simp) _ hz⟩
  item := by
    intro X hP hw hK hc i pins s σ H E I hf st hg
    subst hP hw hK
    obtain ⟨hz, hTI, hTO, h1, h2⟩ := st
    obtain ⟨xs, ys, x, y, hqx, hqy, hx, hy⟩ := hg
    obtain ⟨its, rv, p, _⟩ := I.list hqx
    obtain ⟨its2, rv2, p2, _⟩ := I.list hqy
    obtain ⟨u, hu, ru⟩ := rv.get hx
    obtain ⟨u2, hu2, ru2⟩ := rv2.get hy
    refine any_next D hz hTI hTO h1 h2 p.isList p2.isList (x := u) (y := u2) (by simpa using hu) (by simpa using hu2) fun h' z' TO' h1' h2' hT hk => ?_
    refine ⟨_, rfl, wpAny_pure ?_⟩
    let ob : Obj := { cls := .type "tuple", data := .seq #[u, u2] }
    have new : ObjOk X.prog X.w (upd H s.heap.objs.size (.frz ob (.tup [x, y]))) h' s.heap.objs.size (.frz ob (.tup [x, y])) := ⟨hT, by show 2 ≤ sizeLine; decide, [u, u2], .cons ru (.cons ru2 .nil), ⟨_, hT, rfl, _, rfl⟩⟩
    have I1 : Inv X pins σ (upd H s.heap.objs.size (.frz ob (.tup [x, y]))) { s with heap := h' } :=
      I.turnedNew (t' := s.toks) (ch := [z, TI, TO, i1, i2]) (fun c o hb q => hk c o (fun e => hb (by simp [e])) (fun e => hb (by simp [e])) (fun e => hb (by simp [e])) (fun e => hb (by simp [e])) q) hf (Nat.le_refl _) new
    have hTIk := hk TI _ D.TIz D.TITO D.TIi1 D.TIi2 hTI
    refine ⟨.ref s.heap.objs.size, _, I1, rfl, ⟨_, ob, x, y, rfl, I.hok.fresh (Nat.le_refl _), rfl, rfl, fun l hl => by rw [I.list_inj hl hqx]; exact hx, fun l hl => by rw [I.list_inj hl hqy]; exact hy⟩, ⟨z', hTIk, TO', h1', h2'⟩, fun c hcm => ?_⟩
    have hlt : c < s.heap.objs.size := by
      obtain ⟨a0, b0, hTO⟩ := hTO
      simp only [List.mem_cons, List.not_mem_nil, or_false] at hcm
      rcases hcm with rfl | rfl | rfl | rfl | rfl
      · rcases hz with hz | ⟨T, f, hz⟩ <;> exact Heap.lt_size hz
      · exact Heap.lt_size hTI
      · exact Heap.lt_size hTO
      · obtain ⟨_, e1, _⟩ := h1; exact Heap.lt_size e1
      · obtain ⟨_, e2, _⟩ := h2; exact Heap.lt_size e2
    rw [upd_ne (Nat.ne_of_lt hlt)]
    exact (hf c hcm).1
  done := by
    intro X hP hw hK hc i pins s σ H E I hf st hg
    subst hP hw hK
    obtain ⟨hz, hTI, hTO, h1, h2⟩ := st
    obtain ⟨xs, ys, hqx, hqy, hend⟩ := hg
    obtain ⟨its, rv, p, _⟩ := I.list hqx
    obtain ⟨its2, rv2, p2, _⟩ := I.list hqy
    have ll := rv.length
    refine any_end (I.ok.hd hc) D hz hTI h1 h2 p.isList p2.isList (by simp; omega) fun h' hk => ⟨rfl, I.turnedL (t' := s.toks) (ch := [z, TI, TO, i1, i2]) (fun c o hb q => hk c o (fun e => hb (by simp [e])) (fun e => hb (by simp [e])) (fun e => hb (by simp [e])) q) hf⟩
  self := fun A i s Q E st h => by
    have ty : s.TypeIs (.ref z) "zip" := by
      obtain ⟨hz | ⟨T, f, hz⟩, _⟩ := st
      · exact ⟨_, hz, rfl⟩
      · exact ⟨_, hz, rfl⟩
    refine wpAny_pyIter_slot ty F.slot_zip_iter (wpAny_call_entry F.slot_zip_iter ty F.entry_zip_iter ?_ (F.args_zip_iter_1 _))
    show wpAny _ _ (ret (.ref z)) _ _ s
    exact wpAny_pure ⟨_, rfl, "zip", _, ty, F.slot_zip_next.lookup, h⟩
section
variable {X : Cx} {Γ Γ1 : Gm} {e e2 : Expr} {ds es : List PyData} {pos : Pos}
theorem ei_zipN {n : Str} {np p : Pos} (hm : X.mg "zip" = none) (h : Ea X Γ [e, e2] [.list ds, .list es] Γ1) (hl : es.length = ds.length) (hg : Gl X "zip" := by rfl) (hs : starEach [e, e2] X.env = (false, eval e X.env) :: starEach [e2] X.env := by rfl) (hs2 : starEach [e2] X.env = [(false, eval e2 X.env)] := by rfl) :
    Ei X Γ (.Name n np) (.Call (.Name "zip" p) [e, e2] [] pos) ((List.range ds.length).map fun i => .tuple [ds.getD i .none, es.getD i .none]) Γ1 := by
  refine ⟨fun pins s σ H R I hR => ?_⟩
  obtain ⟨F, ev, x, k⟩ := hR
  refine Call_ (ld_blt I hg hm boot_zip (PyProof.Rows.callWith_type1 (thn (h.run pos pins s σ H (fun vs H1 => ∃ v u F1, vs = [v, u] ∧ Gr F H (Own σ Γ) F1 H1 (Own σ Γ1) ∧ EnvOk X.K F1 H1 σ Γ1 ∧ Dd X.K F1 v (.list ds) ∧ Dd X.K F1 u (.list es)) I ⟨F, ev, x, fun vs F1 H1 g1 e1 dv => by
    obtain ⟨v, u, rfl, dv, du⟩ := two_of dv
    exact ⟨v, u, F1, rfl, g1, e1, dv, du⟩⟩) fun us s1 hh => ?_) hs (by rw [hs2]; rfl)))
  obtain ⟨vs, H1, I1, r1, v, u, F1, rfl, g1, e1, dv, du⟩ := hh
  obtain ⟨va, ub, rfl, ru, rv⟩ := Vals.two r1
  cases dv with
  | @lst a xs _ h1 hA =>
  cases du with
  | @lst b ys _ h2 hB =>
    cases ru
    cases rv
    have qa : H1 a = some (.lst xs) := g1.fh _ _ h1
    have qb : H1 b = some (.lst ys) := g1.fh _ _ h2
    obtain ⟨its, _, p1, _⟩ := I1.list (SqL.of (K := X.K) qa)
    obtain ⟨its2, _, p2, _⟩ := I1.list (SqL.of (K := X.K) qb)
    have la : a < s1.heap.objs.size := by obtain ⟨_, e0, _⟩ := p1.isList; exact Heap.lt_size e0
    have lb : b < s1.heap.objs.size := by obtain ⟨_, e0, _⟩ := p2.isList; exact Heap.lt_size e0
    refine call_zip_2 p1.isList p2.isList fun h' hz hTI hTO hi1 hi2 hsz hk => ?_
    have D := PySem.W.ktu_apart s1.heap.objs.size a b la lb
    have TT := turn_zipN (P := X.prog) (w := X.w) (K := X.K) (n := n) (np := np) D
    have I2 : Inv X pins σ H1 { s1 with heap := h' } := I1.kept (t' := s1.toks) hk
    have st0 : ZipAny h' (s1.heap.objs.size + 4) (s1.heap.objs.size + 2) (s1.heap.objs.size + 3) ∧ IsPair h' (s1.heap.objs.size + 2) (.ref s1.heap.objs.size) (.ref (s1.heap.objs.size + 1)) ∧ (∃ x y, IsPair h' (s1.heap.objs.size + 3) x y) ∧ h'.IsListIter s1.heap.objs.size a 0 ∧ h'.IsListIter (s1.heap.objs.size + 1) b 0 := ⟨.inl hz, hTI, ⟨_, _, hTO⟩, hi1, hi2⟩
    refine TT.self _ 0 _ _ _ st0 ?_
    refine ⟨s1.heap.objs.size + 4, _, _, _, H1, rfl, I2, TT, st0, fun c hc => ?_, ?_⟩
    · have hle : s1.heap.objs.size ≤ c := by
        simp only [List.mem_cons, List.not_mem_nil, or_false] at hc
        rcases hc with rfl | rfl | rfl | rfl | rfl
        · exact Nat.le_add_right _ _
        · exact Nat.le_add_right _ _
        · exact Nat.le_add_right _ _
        · exact Nat.le_refl _
        · exact Nat.le_add_right _ _
      exact I1.fpOk hle (I1.hok.fresh hle)
    · refine k _ F1 H1 g1 e1 fun i F2 H2 x1 x2 => ⟨fun d hd => ?_, fun hle => ⟨xs, ys, SqL.of (x2 _ _ (x1 _ _ h1)), SqL.of (x2 _ _ (x1 _ _ h2)), by rw [hA.len]; simpa using hle⟩⟩
      have hi : i < ds.length := by
        have := (List.getElem?_eq_some_iff.mp hd).1
        simpa using this
      have hdi : ds[i]? = some ds[i] := List.getElem?_eq_getElem hi
      have hei : es[i]? = some (es[i]'(by rw [hl]; exact hi)) := List.getElem?_eq_getElem (by rw [hl]; exact hi)
      rw [List.getElem?_map, List.getElem?_range hi] at hd
      cases hd
      obtain ⟨w, hw, dw⟩ := hA.get hdi
      obtain ⟨w2, hw2, dw2⟩ := hB.get hei
      have sa : SqL X.K H2 a xs := SqL.of (x2 _ _ (x1 _ _ h1))
      have sb : SqL X.K H2 b ys := SqL.of (x2 _ _ (x1 _ _ h2))
      refine ⟨⟨xs, ys, w, w2, sa, sb, hw, hw2⟩, fun y H3 hy => ?_⟩
      obtain ⟨T, ob, z, z2, rfl, hT, hd2, rfl, hz1, hz2⟩ := hy
      have q1 := hz1 xs sa
      have q2 := hz2 ys sb
      rw [hw] at q1
      rw [hw2] at q2
      cases q1; cases q2
      have gn : Gr F2 H2 (fun _ => False) (upd F2 T (.frz ob (.tup [w, w2]))) (upd H2 T (.frz ob (.tup [w, w2]))) (fun _ => False) := Gr.new x2 hT
      refine ⟨_, gn.ff, gn.fh, fun a o q => (gn.hh a o q).resolve_right id, fun a q => (gn.nw a q).imp id fun z => z.resolve_right id, .tup upd_same hd2 (.cons ?_ (.cons ?_ .nil))⟩
      · rw [List.getD_eq_getElem?_getD, hdi]
        exact (dw.up x1).up gn.ff
      · rw [List.getD_eq_getElem?_getD, hei]
        exact (dw2.up x1).up gn.ff
end
end DL
end

section
/-! gcd, factorial; great ints; x += c, x //= c. -/
namespace DL
open PySem PySem.Spec PyProof.Rows L2
section
variable {X : Cx} {Γ Γ1 Γ2 : Gm} {a b e : Expr} {es : List Expr} {ds : List PyData} {d : PyData} {pos pp : Pos} {i j : Int} {x : Str}
/-- f(e, ..), f a name of the module for a built-in function -/
theorem ee_cbG {id : String} {r : List V → Hp → VK → Prop} (hc : CallR X (.builtin id) r) (hm : X.mg x = some (.builtin id)) (ha : Ea X Γ (e :: es) ds Γ1) (hr : CD X.K r ds d) (hg : Gl X x := by rfl) (hdb : (x == ("__debug__" : Str)) = false := by decide)
    (he : starEach (e :: es) X.env = (false, eval e X.env) :: starEach es X.env := by rfl) (hpl : (backTo pos (starEach es X.env)).any (·.1) = false := by rfl) : Ee X Γ (.Call (.Name x pp) (e :: es) [] pos) d Γ1 :=
  pe_imp (pe_callBfun hc hg hm ha hdb he hpl) fun σ H Q h => tCB_D (ta := tNil) hr h
theorem ee_gcd (hm : X.mg x = some (.builtin "math.gcd")) (ha : Ea X Γ [a, b] [.int i, .int j] Γ1) (hg : Gl X x := by rfl) (hdb : (x == ("__debug__" : Str)) = false := by decide)
    (he : starEach [a, b] X.env = (false, eval a X.env) :: starEach [b] X.env := by rfl) (hpl : (backTo pos (starEach [b] X.env)).any (·.1) = false := by rfl) : Ee X Γ (.Call (.Name x pp) [a, b] [] pos) (.int ((Nat.gcd i.natAbs j.natAbs : Nat) : Int)) Γ1 :=
  ee_cbG cr_gcd hm ha (cd_here fun F H vs Q e hx => by
    obtain ⟨v, w, rfl, hv, hw⟩ := two_of hx
    cases hv; cases hw
    exact ⟨_, .int _, fun k => ⟨i, j, rfl, k⟩⟩) hg hdb he hpl
def rFact : List V → Hp → VK → Prop := fun vs H Q => ∃ n : Nat, vs = [.int (n : Int)] ∧ n ≤ 20000 ∧ (((Builtin.Math.factorialNat n : Nat) : Int)).natAbs.log2 < bitsLine ∧ Q (.int ((Builtin.Math.factorialNat n : Nat) : Int)) H
theorem cr_fact : CallR X (.builtin "math.factorial") rFact := by
  intro pins s σ H vs us Q I r h
  obtain ⟨n, rfl, h1, h2, q⟩ := h
  obtain ⟨u, rfl, ru⟩ := Vals.one r
  obtain ⟨t, rfl⟩ := ru
  have e : ((n : Int)).toNat = n := Int.toNat_natCast n
  exact PySem.W.mg_factorial (by unfold Builtin.Math.maxSsize; omega) (by omega) (by unfold Builtin.Math.manyFactors; omega) (by rw [e]; exact h2) ⟨.int _, H, I.tok _, ⟨_, rfl⟩, by rw [e]; exact q⟩
theorem ee_fact {n : Nat} (hm : X.mg x = some (.builtin "math.factorial")) (ha : Ea X Γ [a] [.int (n : Int)] Γ1) (h1 : n ≤ 20000) (h2 : (((Builtin.Math.factorialNat n : Nat) : Int)).natAbs.log2 < bitsLine) (hg : Gl X x := by rfl) (hdb : (x == ("__debug__" : Str)) = false := by decide)
    (he : starEach [a] X.env = (false, eval a X.env) :: starEach [] X.env := by rfl) : Ee X Γ (.Call (.Name x pp) [a] [] pos) (.int ((Builtin.Math.factorialNat n : Nat) : Int)) Γ1 :=
  ee_cbG cr_fact hm ha (cd_here fun F H vs Q e hx => by
    obtain ⟨v, rfl, hv⟩ := one_of hx
    cases hv
    exact ⟨_, .int _, fun k => ⟨n, rfl, h1, h2, k⟩⟩) hg hdb he rfl
theorem ee_fdivW (ha : Ee X Γ a (.int i) Γ1) (hb : Ee X Γ1 b (.int j) Γ2) (hc : CDivW i j) : Ee X Γ (.BinOp a .FloorDiv b pos) (.int (i / j)) Γ2 := ee_binR op_fdivW ha hb (rd_I hc fun _ => .int _)
theorem ee_shlW (ha : Ee X Γ a (.int i) Γ1) (hb : Ee X Γ1 b (.int j) Γ2) (hc : CShl i j) : Ee X Γ (.BinOp a .LShift b pos) (.int (i * 2 ^ j.toNat)) Γ2 := ee_binR op_shlW ha hb (rd_I hc fun _ => .int _)
theorem ee_mulW (ha : Ee X Γ a (.int i) Γ1) (hb : Ee X Γ1 b (.int j) Γ2) (hc : CMulW i j) : Ee X Γ (.BinOp a .Mult b pos) (.int (i * j)) Γ2 := ee_binR op_mulW ha hb (rd_I hc fun _ => .int _)
theorem ip_fdivW : PIp X .FloorDiv fun x y H Q => ∃ i j, x = .int i ∧ y = .int j ∧ CDivW i j ∧ Q (.int (i / j)) H := by
  intro pins s σ H x y v u Q I r1 r2 h
  obtain ⟨i, j, e1, e2, hc, q⟩ := h
  subst e1; subst e2
  obtain ⟨t, rfl⟩ := r1
  obtain ⟨t', rfl⟩ := r2
  have h1 : (0 : Int) < j := hc.1
  exact ifloordiv_int (by omega) (by rw [Int.fdiv_eq_ediv_of_nonneg i (by omega)]; exact ⟨.int _, H, I.tok _, ⟨_, rfl⟩, q⟩) (.inl (PyProof.noPylong_of_log2 hc.2))
/-- x += c -/
theorem es_augAdd (n : Nat) {px : Pos} (hN : X.N.Nodup) (h : Γ[n]? = some (some (.im (.int i)))) (he : Ee X Γ e (.int j) Γ1) (hi : X.N[n]? = some x := by rfl) (hx : Loc X.env.scope x := by first | exact Or.inl rfl | exact Or.inr rfl) (hl : Γ1[n]?.isSome = true := by rfl) (hf : X.fn x = true ∨ X.env.scope.names.lookup x = some .local := by first | exact .inl rfl | exact .inr rfl) :
    Es X Γ (.AugAssign (.Name x px) .Add e pos) (.nx (Γ1.set n (some (.im (.int (i + j)))))) :=
  ps_imp (ps_aug hN hi hx he ip_add hf) fun D σ H ⟨F, ev, xt, k⟩ => by
    obtain ⟨v, v1, v2⟩ := ev.ats n _ h
    cases v2
    refine ⟨_, v1, F, ev, xt, fun w F1 H1 g1 e1 dw => ?_⟩
    cases dw
    have hn : n < Γ1.length := by
      cases h : Γ1[n]? with
      | none => rw [h] at hl; cases hl
      | some z => exact (List.getElem?_eq_some_iff.mp h).1
    exact ⟨i, j, rfl, rfl, k (σ.set n (some (.int (i + j)))) F1 H1 g1.store (e1.store (.int _) hn)⟩
/-- x //= c -/
theorem es_augDiv (n : Nat) {px : Pos} (hN : X.N.Nodup) (h : Γ[n]? = some (some (.im (.int i)))) (he : Ee X Γ e (.int j) Γ1) (hc : CDivW i j) (hi : X.N[n]? = some x := by rfl) (hx : Loc X.env.scope x := by first | exact Or.inl rfl | exact Or.inr rfl) (hl : Γ1[n]?.isSome = true := by rfl) (hf : X.fn x = true ∨ X.env.scope.names.lookup x = some .local := by first | exact .inl rfl | exact .inr rfl) :
    Es X Γ (.AugAssign (.Name x px) .FloorDiv e pos) (.nx (Γ1.set n (some (.im (.int (i / j)))))) :=
  ps_imp (ps_aug hN hi hx he ip_fdivW hf) fun D σ H ⟨F, ev, xt, k⟩ => by
    obtain ⟨v, v1, v2⟩ := ev.ats n _ h
    cases v2
    refine ⟨_, v1, F, ev, xt, fun w F1 H1 g1 e1 dw => ?_⟩
    cases dw
    have hn : n < Γ1.length := by
      cases h : Γ1[n]? with
      | none => rw [h] at hl; cases hl
      | some z => exact (List.getElem?_eq_some_iff.mp h).1
    exact ⟨i, j, rfl, rfl, hc, k (σ.set n (some (.int (i / j)))) F1 H1 g1.store (e1.store (.int _) hn)⟩
end
end DL
end

section
/-! sorted(set(t)), t a tuple of whole numbers. -/
namespace DL
open PySem PySem.Spec PyProof.Rows L2
/-- the numbers of a row, ascending, each once -/
def uniqN (t : List Nat) : List Nat := (List.range (t.foldl max 0 + 1)).filter fun k => decide (k ∈ t)
theorem le_foldmax : ∀ (t : List Nat) (a x : Nat), (x ≤ a ∨ x ∈ t) → x ≤ t.foldl max a
  | [], a, x, h => h.elim id fun z => by cases z
  | y :: t, a, x, h => by
    rw [List.foldl_cons]
    refine le_foldmax t (max a y) x ?_
    rcases h with h | h
    · exact .inl (Nat.le_trans h (Nat.le_max_left _ _))
    · rcases List.mem_cons.mp h with e | e
      · exact .inl (by rw [e]; exact Nat.le_max_right _ _)
      · exact .inr e
theorem mem_uniqN {t : List Nat} {x : Nat} : x ∈ uniqN t ↔ x ∈ t := by
  unfold uniqN
  rw [List.mem_filter, List.mem_range, decide_eq_true_iff]
  exact ⟨fun h => h.2, fun h => ⟨Nat.lt_succ_of_le (le_foldmax t 0 x (.inr h)), h⟩⟩
theorem uniqN_asc (t : List Nat) : (uniqN t).Pairwise (· < ·) := List.pairwise_lt_range.sublist List.filter_sublist
theorem uniq_ints {ns : List Int} {t : List Nat} (h1 : ns.Pairwise (· < ·)) (h2 : ∀ k : Int, k ∈ ns ↔ k ∈ t.map fun n : Nat => (n : Int)) : ns = (uniqN t).map fun n : Nat => (n : Int) := by
  have h3 : ((uniqN t).map fun n : Nat => (n : Int)).Pairwise (· < ·) := List.pairwise_map.mpr ((uniqN_asc t).imp fun {a b} h => by omega)
  have n1 : ns.Nodup := h1.imp fun {a b} h e => by omega
  have n3 : ((uniqN t).map fun n : Nat => (n : Int)).Nodup := h3.imp fun {a b} h e => by omega
  refine List.Perm.eq_of_pairwise (le := fun a b : Int => a < b) (fun a b _ _ x y => by omega) h1 h3 ((List.perm_ext_iff_of_nodup n1 n3).mpr fun k => ?_)
  rw [h2, List.mem_map, List.mem_map]
  constructor
  · rintro ⟨n, hn, rfl⟩; exact ⟨n, mem_uniqN.mpr hn, rfl⟩
  · rintro ⟨n, hn, rfl⟩; exact ⟨n, mem_uniqN.mp hn, rfl⟩
section
variable {X : Cx} {Γ Γ1 : Gm} {e : Expr} {pos p1 p2 pos2 : Pos}
def rSetT (K : PySem.W.Frag) (w : World) : List V → Hp → VK → Prop := fun vs H Q => ∃ (l : Addr) (ns : List Int), vs = [.ref l] ∧ SqT K H l (ns.map V.int) ∧ ns.length ≤ 1000 ∧ ∀ p c, H p = none → c ≤ ns.length → Q (.ref p) (upd H p (SetO w p (fun j => decide (j ∈ ns)) c))
theorem cr_setT (hc : X.calm = true) : CallR X (.type "set") (rSetT X.K X.w) := by
  intro pins s σ H vs us Q I r h
  obtain ⟨l, ns, rfl, hq, hl, q⟩ := h
  rw [Vals.ref1 r]
  obtain ⟨its, rv, pt, hz⟩ := I.tuple hq
  have hi : IntsAre its.toArray.toList ns := ints_of_vals rv
  refine call_set_tupI ns (I.ok.hd hc) (show s.heap.IsTuple l its.toArray from pt) hi (by unfold scanBound; omega) fun h' tk c R1 hcn k => ?_
  exact ⟨.ref _, upd H s.heap.objs.size (SetO X.w s.heap.objs.size (fun j => decide (j ∈ ns)) c), I.laid (t' := tk) (fun b u e => k b u e) (Nat.le_refl _) (setO_new R1), rfl, q _ _ (I.hok.fresh (Nat.le_refl _)) hcn⟩
theorem en_sortSet {t : List Nat} (hc : X.calm = true) (hm1 : X.mg "sorted" = none) (hm2 : X.mg "set" = none) (h : Ee X Γ e (.tuple (t.map iN)) Γ1) (hl : t.length < 64) (hg1 : Gl X "sorted" := by rfl) (hg2 : Gl X "set" := by rfl) (hs : starEach [e] X.env = (false, eval e X.env) :: starEach [] X.env := by rfl)
    (hs2 : starEach [.Call (.Name "set" p2) [e] [] pos2] X.env = (false, eval (.Call (.Name "set" p2) [e] [] pos2) X.env) :: starEach [] X.env := by rfl) :
    En X Γ (.Call (.Name "sorted" p1) [.Call (.Name "set" p2) [e] [] pos2] [] pos) ((uniqN t).map iN) Γ1 :=
  pe_imp (pe_callB (cr_sortedSet hc) hg1 hm1 (by decide +kernel) (pa_cons (pe_callTy (cr_setT hc) hg2 hm2 PyProof.Rows.boot_set (pa_cons h pa_nil hs) (by decide) (by decide) hs rfl) pa_nil hs2) (by decide) (by decide) hs2 rfl) fun σ H Q ⟨F, ev, x, k⟩ => by
    refine ⟨F, ev, x, fun v F1 H1 g1 e1 dv => ?_⟩
    cases dv with
    | @tup a ob xs _ h1 h0 hA =>
      have hx : xs = (t.map fun n : Nat => (n : Int)).map V.int := by
        have e : t.map iN = (t.map fun n : Nat => (n : Int)).map PyData.int := by rw [List.map_map]; rfl
        rw [e] at hA
        exact hA.ints
      subst hx
      refine ⟨a, t.map fun n : Nat => (n : Int), rfl, .inl (.inr ⟨ob, g1.fh _ _ h1⟩), by rw [List.length_map]; omega, fun p c hp hcn => ?_⟩
      rw [List.length_map] at hcn
      refine ⟨p, _, c, rfl, upd_same, by omega, fun ns q o1 o2 o3 hq => ?_⟩
      have hns := uniq_ints (t := t) o1 fun j => by rw [o2, decide_eq_true_iff]
      subst hns
      have g2 := g1.trans (Gr.newH (A := Own σ Γ1) (o := SetO X.w p (fun j => decide (j ∈ t.map fun n : Nat => (n : Int))) c) g1.fh hp)
      refine tN_new (ds := (uniqN t).map iN) g2 (e1.newH hp) ?_ k q hq
      have dI : ∀ (K : PySem.W.Frag) (F : Hp) (l : List Nat), DdA K F ((l.map fun n : Nat => (n : Int)).map V.int) (l.map iN) := fun K F l => by
        induction l with
        | nil => exact .nil
        | cons y l ih => exact .cons (.int _) ih
      exact dI _ _ _
end
end DL
end

section
/-! t[:i] of a tuple; t * 0. -/
namespace DL
open PySem PySem.Spec PyProof.Rows L2
/-- a tuple taken no times is a new empty one -/
theorem none_new (l : Addr) (its : Array Value) (n : Nat) (dd : Option Addr) (sl : Array (Option Value)) (u : Tok) (hne : its.isEmpty = false) :
    Meets (Builtin.«tuple.__mul__» ⟨[.ref l, .int 0 u], []⟩) (fun _ R s => s.heap.get? l = some { cls := .type "tuple", dict := dd, data := .seq its n, slots := sl } ∧
      R (.ok (.ret (Value.ref s.heap.objs.size))) { s with heap := s.heap.push { cls := Value.type "tuple", data := Data.seq #[] }, toks := s.toks }) :=
  .of_wp fun prog w A R s0 h0 => by
    obtain ⟨hp0, g0, d0, tk0, os0⟩ := s0
    obtain ⟨hl0, hR⟩ := h0
    have ix := AutoSeq1.idx_int
    have c1 : (its.isEmpty || (0 : Int) == 1) = false := by rw [hne]; rfl
    have c2 : (decide ((0 : Int) ≤ 0) || its.isEmpty) = true := by simp
    wp_walk using wpAny_loadPart' hl0
    repeat (first
      | (refine wpAny_ite_false (by decide) ?_; wp_walk using wpAny_loadPart' hl0)
      | (refine wpAny_ite_false (decide_eq_false (by rw [c1]; exact Bool.false_ne_true)) ?_; wp_walk using wpAny_loadPart' hl0)
      | (refine wpAny_ite_true (by simp) ?_; wp_walk using wpAny_loadPart' hl0))
    exact ⟨_, rfl, hR⟩
def rSlTF (K : PySem.W.Frag) : V → Option Int → Option Int → Hp → VK → Prop := fun x lo hi H Q => ∃ a xs, x = .ref a ∧ SqT K H a xs ∧
  ¬ (HT.sIx xs.length 0 lo = 0 ∧ HT.sIx xs.length xs.length hi = xs.length) ∧ TupNew H (cutV xs lo hi) Q
section
variable {X : Cx} {Γ Γ1 Γ2 : Gm} {a b : Expr} {ds : List PyData} {pos p2 : Pos}
theorem sl_tupF : SlR X (rSlTF X.K) := by
  intro pins s σ H x v vl vu lo hi sl Q I rx hs pl pu h
  obtain ⟨a, xs, rfl, hx, hw, q⟩ := h
  cases rx
  obtain ⟨its, r, ht, hz⟩ := I.tuple hx
  have hlen : its.toArray.size = xs.length := by rw [List.size_toArray]; exact r.length.symm
  refine ⟨"tuple", _, PyProof.Rows.slot_tuple_getitem.lookup, ht.typeIs, ?_⟩
  refine HT.getItem_tuple_cut ht hs pl pu (by rw [hlen]; exact hw) ?_ (by rw [hlen]; exact hz)
  rw [hlen]
  exact tup_end I ((r.drop (HT.sIx xs.length 0 lo)).take (HT.sIx xs.length xs.length hi - HT.sIx xs.length 0 lo)) (Nat.le_trans (cutV_length xs lo hi) hz) q
/-- t[:i], i smaller than its length -/
theorem ee_sliceHiT {i : Nat} (ha : Ee X Γ a (.tuple ds) Γ1) (hb : Ee X Γ1 b (.int (i : Int)) Γ1) (hi : i < ds.length) : Ee X Γ (.Subscript a (.Slice none (some b) none p2) pos) (.tuple (ds.take i)) Γ1 :=
  pe_imp (pe_slice sl_tupF ha po_none (po_some hb)) fun σ H Q ⟨F, ev, x, k⟩ => ⟨F, ev, x, fun v F1 H1 g1 e1 dv => by
    show tE X.K Γ1 (.int i) Γ1 σ H1 _
    refine ⟨F1, e1, g1.fh, fun w F2 H2 g2 e2 dw => ?_⟩
    cases dw
    obtain ⟨p1, ob1, xs, rfl, hh, _, s1, a1⟩ := (dv.up g2.ff).tupAt g2.fh
    have hl := a1.len
    have e0 : HT.sIx xs.length 0 none = 0 := rfl
    have e1' : HT.sIx xs.length xs.length (some (i : Int)) = i := by
      have hn : ¬ ((i : Int) < 0) := by omega
      unfold HT.sIx
      simp [hn]
      omega
    refine ⟨(i : Int), rfl, p1, xs, rfl, s1, fun z => ?_, ?_⟩
    · have := z.2
      rw [e1'] at this
      omega
    · have hd : DdA X.K F2 (cutV xs none (some (i : Int))) (ds.take i) := by
        unfold cutV
        rw [e0, e1', List.drop_zero, Nat.sub_zero]
        exact a1.take i
      exact tupNew_of (g1.trans g2) e2 hd k⟩
def rZero (K : PySem.W.Frag) : R2 := fun x y H Q => ∃ l xs, x = .ref l ∧ y = .int 0 ∧ SqT K H l xs ∧ xs ≠ [] ∧ TupNew H [] Q
theorem op_zero : OpR X (binaryOp .Mult) (rZero X.K) := by
  intro pins s0 σ0 H0 x y v u Q J rx ry h
  obtain ⟨l, xs, rfl, rfl, hT, hne, q⟩ := h
  cases rx
  obtain ⟨tk, rfl⟩ := ry
  obtain ⟨its, r, ⟨⟨cl, dd, da, sl⟩, ho, hc, n, hd⟩, _⟩ := J.tuple hT
  simp only at hc hd
  subst hc hd
  have len : its.length = xs.length := r.length.symm
  have nn : its ≠ [] := fun e => hne (List.eq_nil_of_length_eq_zero (by rw [← len, e]; rfl))
  have emp : its.toArray.isEmpty = false := by
    cases its with
    | nil => exact absurd rfl nn
    | cons _ _ => rfl
  refine wpAny_binaryOp_repeat_ref (T := "tuple") (U := "int") (by decide) ⟨_, ho, rfl⟩ (fun s' => typeIs_int s' 0 tk) noFill_tuple_mul F.fills_int_mul F.slot_int_rmul repeat_tuple F.slot_int_index.lookup
    (call_meets F.slot_int_rmul (typeIs_int s0 0 tk) F.entry_int_rmul (F.args_int_rmul_2 _ _) (int_rmul_tuple 0 tk l its.toArray n dd sl)
      ⟨ho, rfl, ⟨_, ho, rfl⟩, call_meets F.slot_tuple_mul ⟨_, ho, rfl⟩ F.entry_tuple_mul (F.args_tuple_mul_2 _ _) (none_new l its.toArray n dd sl tk emp) ⟨ho, ?_⟩⟩)
  exact tup_end (us := []) J .nil (Nat.zero_le _) q
theorem ee_zeroT (ha : Ee X Γ a (.tuple ds) Γ1) (hb : Ee X Γ1 b (.int 0) Γ2) (h0 : ds ≠ []) : Ee X Γ (.BinOp a .Mult b pos) (.tuple []) Γ2 :=
  pe_imp (pe_op op_zero ha hb) fun σ H Q ⟨F, ev, x, k⟩ => ⟨F, ev, x, fun v F1 H1 g1 e1 dv => ⟨F1, e1, g1.fh, fun w F2 H2 g2 e2 dw => by
    have dv2 := dv.up g2.ff
    obtain ⟨p1, ob1, xs, rfl, hh, _, s1, a1⟩ := dv2.tupAt g2.fh
    cases dw
    exact ⟨p1, xs, rfl, rfl, s1, fun z => h0 ((dda_nil_iff a1).mp z), tupNew_of (g1.trans g2) e2 .nil k⟩⟩⟩
end
end DL
end

section
/-! range(a, 0, -1). -/
namespace DL
open PySem PySem.Spec PyProof.Rows L2
theorem walk_stp {K : PySem.W.Frag} {F : Hp} (lo c : Int) (n : Nat) : WalkD K (Itc lo c n) F ((List.range n).map fun i : Nat => PyData.int (lo + (i : Nat) * c)) := fun i F2 H2 x1 x2 => by
  refine ⟨fun d hd => ?_, fun hle => by rw [List.length_map, List.length_range] at hle; exact hle⟩
  rw [List.getElem?_map] at hd
  by_cases h : i < n
  · rw [List.getElem?_range h] at hd
    cases hd
    refine ⟨h, fun y H3 ⟨e3, hy⟩ => ?_⟩
    subst e3 hy
    exact ⟨F2, Ext.refl _, x2, Ext.refl _, fun a h => .inl h, .int _⟩
  · rw [List.getElem?_eq_none (by rw [List.length_range]; omega)] at hd; cases hd
theorem three_of {K : PySem.W.Frag} {F : Hp} {vs : List V} {d1 d2 d3 : PyData} (h : DdA K F vs [d1, d2, d3]) : ∃ u v w, vs = [u, v, w] ∧ Dd K F u d1 ∧ Dd K F v d2 ∧ Dd K F w d3 := by
  cases h with
  | cons h1 h =>
    cases h with
    | cons h2 h =>
      cases h with
      | cons h3 h => cases h; exact ⟨_, _, _, rfl, h1, h2, h3⟩
section
variable {X : Cx} {Γ Γ1 : Gm} {a b c : Expr} {pos : Pos}
/-- range(n, 0, -1): n, n - 1, .., 1 -/
theorem ei_rangeDn {tg : Expr} {p1 : Pos} {n : Nat} (hm : X.mg "range" = none) (h : Ea X Γ [a, b, c] [.int (n : Int), .int 0, .int (-1)] Γ1) (hn : n ≤ 1000000) (hg : Gl X "range" := by rfl)
    (hs : starEach [a, b, c] X.env = (false, eval a X.env) :: starEach [b, c] X.env := by rfl) (hpl : (backTo pos (starEach [b, c] X.env)).any (·.1) = false := by rfl) :
    Ei X Γ tg (.Call (.Name "range" p1) [a, b, c] [] pos) ((List.range n).map fun i => iN (n - i)) Γ1 := by
  have h0 : Ei X Γ tg (.Call (.Name "range" p1) [a, b, c] [] pos) ((List.range n).map fun i : Nat => PyData.int ((n : Int) + (i : Nat) * (-1))) Γ1 := pi_imp (pi_range3 hg hm h hs hpl) fun σ H R ⟨F, ev, x, k⟩ => ⟨F, ev, x, fun vs F1 H1 g1 e1 dv => by
    obtain ⟨u, v, w, rfl, h1, h2, h3⟩ := three_of dv
    cases h1; cases h2; cases h3
    have hR : RgC (n : Int) 0 (-1) n := by
      have := RgC.neg (i := (n : Int)) (j := 0) (by omega) (by omega) (by omega) (by omega)
      rw [show ((n : Int) - 0).toNat = n by omega] at this
      exact this
    exact ⟨n, 0, -1, n, rfl, hR, k _ F1 H1 g1 e1 (walk_stp (n : Int) (-1) n)⟩⟩
  exact ei_is h0 (List.map_congr_left fun i hi => by
    have := List.mem_range.mp hi
    show PyData.int ((n : Int) + (i : Nat) * (-1)) = PyData.int ((n - i : Nat) : Int)
    congr 1; omega)
end
end DL
end

section
/-! x < y of data; max of a list. -/
namespace DL
open PySem PySem.Spec PyProof.Rows L2
open PySem.W (AlikeAll minD AllAlike Sortable dataLe EachIs)
section
variable {X : Cx} {Γ Γ1 Γ2 Γ3 : Gm} {a b c e : Expr} {es rest : List Expr} {d d1 d2 d3 : PyData} {ds es' : List PyData} {pos pp : Pos} {p q : Bool} {i j k : Int}
def rLtDd (K : PySem.W.Frag) : R2 := fun x y H Q => ∃ d e, Dp K H x d ∧ Dp K H y e ∧ PySem.W.alike d e = true ∧ d ≠ .none ∧ d.depth ≤ 60 ∧ Q (.bl (PySem.W.dataLt d e)) H
theorem op_ltDd {k : Nat} (hr : Room k X.A) : OpR X (compareOp .Lt) (rLtDd X.K) := by
  intro pins s σ H x y v u Q I rx ry h
  obtain ⟨d, e, hd, he, ha, hn, hdep, q⟩ := h
  obtain ⟨as, r1⟩ := Dp.reads I d x v hd rx
  obtain ⟨bs, r2⟩ := Dp.reads I e y u he ry
  refine PySem.W.lt_data r1 r2 ha hn ?_ ⟨.bl _, H, I, rfl, q⟩
  have := hr.un
  have : min d.depth e.depth ≤ d.depth := Nat.min_le_left _ _
  omega
theorem ee_ltD {k : Nat} (hr : Room k X.A) (ha : Ee X Γ a d1 Γ1) (hb : Ee X Γ1 b d2 Γ2) (h1 : d1.canLay0 = true) (h2 : d2.canLay0 = true) (hal : PySem.W.alike d1 d2 = true) (hn : d1 ≠ .none) (hdep : d1.depth ≤ 60) : Ee X Γ (.Compare a [.Lt] [b] pos) (.bool (PySem.W.dataLt d1 d2)) Γ2 :=
  ee_cmpR (op_ltDd hr) ha hb (rd_here fun F H x y Q e hx hy => ⟨.bl _, .bl _, fun q => ⟨d1, d2, Dd.dp e _ _ h1 hx, Dd.dp e _ _ h2 hy, hal, hn, hdep, q⟩⟩) (nomark _)
/-- max(a list of alike data) -/
def rMaxD (K : PySem.W.Frag) : List V → Hp → VK → Prop := fun xs H Q => ∃ (p : Addr) (ys : List V) (x : PyData) (ds : List PyData), xs = [.ref p] ∧ SqL K H p ys ∧ DpAll K H ys (x :: ds) ∧ AlikeAll (x :: ds) ∧ PyData.canLayAll0 (x :: ds) = true ∧ PyData.depthAll (x :: ds) ≤ 60 ∧
  ∀ (i : Nat) (y : V), ys[i]? = some y → (x :: ds)[i]? = some (PySem.W.maxD x ds) → Q y H
theorem call_maxD {kk : Nat} (hr : Room kk X.A) (hc : X.calm = true) : CallR X (.builtin "max") (rMaxD X.K) := by
  intro pins s σ H xs us Q I r h
  obtain ⟨p, ys, x, ds, rfl, hs, hd, ha, hl, hdep, q⟩ := h
  obtain ⟨u, rfl, rx⟩ := vals1 r
  cases rx
  obtain ⟨its, rv, pl, hz⟩ := I.list hs
  obtain ⟨as, hR⟩ := Dp.readsAll I (x :: ds) ys its hd rv
  refine PySem.W.max_list_data (I.ok.hd hc) pl.isList hR ha (by have := hr.un; omega) fun i v h' tk bs hv hrd hk => ?_
  have hvi : its[i]? = some v := by rw [← Array.getElem?_toList] at hv; exact hv
  have hlen := rv.length
  have hlt : i < ys.length := by
    rw [hlen]; exact (List.getElem?_eq_some_iff.mp hvi).1
  obtain ⟨w, hw, rw'⟩ := rv.get (List.getElem?_eq_getElem hlt)
  rw [hvi] at hw
  cases hw
  have hdl : ∀ {ys : List V} {ds : List PyData}, DpAll X.K H ys ds → ∀ (i : Nat) (y : V), ys[i]? = some y → ∃ d, ds[i]? = some d ∧ Dp X.K H y d := by
    intro ys ds h
    induction ds generalizing ys with
    | nil => intro i y hy; cases h; simp at hy
    | cons d ds ih =>
      intro i y hy
      cases h with
      | cons h1 h2 =>
        cases i with
        | zero => cases hy; exact ⟨d, rfl, h1⟩
        | succ i => exact ih h2 i y hy
  obtain ⟨d, hdi, hdd⟩ := hdl hd i _ (List.getElem?_eq_getElem hlt)
  have I2 : Inv X pins σ H { s with heap := h', toks := tk } := I.kept hk
  obtain ⟨cs, hrd2⟩ := Dp.reads I2 d _ _ hdd rw'
  have lay : d.canLay0 = true := layAll_mem hl (List.mem_of_getElem? hdi)
  have e : d = PySem.W.maxD x ds := PySem.SeqAt.Reads.unique d _ _ _ _ lay hrd2 hrd
  exact ⟨_, H, I2, rw', q i _ (List.getElem?_eq_getElem hlt) (by rw [hdi, e])⟩
theorem ee_maxD {kk : Nat} {x : PyData} (hr : Room kk X.A) (hc : X.calm = true) (hm : X.mg "max" = none) (ha : Ea X Γ [e] [.list (x :: ds)] Γ1) (hal : AlikeAll (x :: ds)) (hl : PyData.canLayAll0 (x :: ds) = true) (hdep : PyData.depthAll (x :: ds) ≤ 60) (hg : Gl X "max" := by rfl)
    (he : starEach [e] X.env = (false, eval e X.env) :: starEach [] X.env := by rfl) : Ee X Γ (.Call (.Name "max" pp) [e] [] pos) (PySem.W.maxD x ds) Γ1 :=
  ee_cb (call_maxD hr hc) hm (by decide +kernel) ha (fun F H vs Q e hx q => by
    obtain ⟨v, rfl, hv⟩ := one_of hx
    obtain ⟨p, xs, rfl, _, hS, hA⟩ := hv.lstAt e
    exact ⟨p, xs, x, ds, rfl, hS, DdA.dp e _ _ hl hA, hal, hl, hdep, fun i y h1 h2 => q y F H (Ext.refl F) e (Ext.refl H) (fun a h => .inl h) (dda_at hA h1 h2)⟩) hg (by decide) (by decide) he rfl

end
end DL
end

section
/-! {k: v for x in xs}, keys tuples of ints. -/
namespace DL
open PySem PySem.Spec PyProof.Rows L2
def tMapC (wi : TI) (g : TG) (tk tv : TE) (vs : List Nat) : TE := fun σ H Q => wi σ H fun J H1 => ∀ D, H1 D = none → ∃ W : Nat → Nat → Hp → Prop, (∃ m, W 0 m (upd H1 D (dctO D []))) ∧
  ∀ i m H, W i m H → (J.stop i H ∧ Q (.ref D) H) ∨ (J.go i H ∧ ∃ Nx : Hp → Prop, (∀ H', Nx H' → ∃ m', m' < m ∧ W (i + 1) m' H') ∧
    ∀ x H', J.yld i H x H' → g x (wipe σ vs) H' fun σ2 H2 => wipe σ2 vs = wipe σ vs ∧ tk σ2 H2 fun y H4 => tv σ2 H4 fun z H5 =>
      ∃ es ks b c, y = .ref b ∧ z = .ref c ∧ H5 D = some (dctO D es) ∧ Kys H5 es ∧ KyAt H5 b ks ∧ ks ∉ es.map (·.1) ∧ es.length < sizeLine ∧ Nx (upd H5 D (dctO D (es ++ [(ks, b, c)]))))
section
variable {X : Cx}
abbrev InBlk (X : Cx) (scope : Scope) (p : Cx → Prop) : Prop := ∀ (s : Shared) (H : Hp) (C : Addr) (cl : List (Str × Addr)) (fp : List Addr), p (X.blk s H scope (compEnvC scope cl C X.env) fp)
theorem pe_mapC {kx vx tg iter : Expr} {scope : Scope} {own : List (Str × Nat)} {pos : Pos} {wi : TI} {g : TG} {tk tv : TE} (hc : X.calm = true) (hu : X.A.units < cLine) (hN : X.N.Nodup) (hi : PI X tg iter wi) (ok : BlkOk X.N X.env.scope scope own)
    (hg : InBlk X scope fun Y => PG Y tg g) (hk : InBlk X scope fun Y => PE Y kx tk) (hv : InBlk X scope fun Y => PE Y vx tv) (hs : ∀ x, foldedSetIterable iter X.env x = pure x := by intro _; rfl) :
    PE X (.DictComp kx vx [⟨tg, iter, [], 0⟩] scope pos) (tMapC wi g tk tv (own.map (·.2))) := by
  refine ⟨fun pins s σ H Q I h => ?_⟩
  rw [arm_eval_DictComp]
  have cells : ∀ y ∈ scope.names, y.2 = .free → ∃ c, X.env.cells.lookup y.1 = some c := fun y hy e => (ok.free y hy e).elim (fun z => I.ok.has _ (.inl z)) fun z => I.ok.has _ (.inr z)
  refine wpAny_comprehension_free rfl hs (closure_ok cells) ok.kind (fun y hy e => by rw [ok.uniq y hy, e]) (thn (hi.run pins s σ H _ I h) fun xv s1 hx => thn hx fun itv s2 h2 => ?_)
  obtain ⟨it, fp, tn, J, H2, e, I2, T, st2, f2, q⟩ := h2
  subst e
  refine wpAny_newObj_type (newEnv_comp ?_)
  obtain ⟨D, hD⟩ : ∃ D, D = s2.heap.objs.size := ⟨_, rfl⟩
  obtain ⟨W, ⟨m0, w0⟩, turn⟩ := q D (I2.hok.fresh (Nat.le_of_eq hD.symm))
  obtain ⟨s3, h3⟩ : ∃ s3 : Shared, s3 = { s2 with heap := s2.heap.push { cls := .type "dict", data := .dict #[] } } := ⟨_, rfl⟩
  have hh3 : s3.heap = s2.heap.push { cls := .type "dict", data := .dict #[] } := by rw [h3]
  have I3 : Inv X pins σ (upd H2 D (dctO D [])) s3 := by
    subst h3 hD
    exact I2.laid (t' := s2.toks) (fun b o z => Heap.get?_push_of_some _ z) (Nat.le_refl _) (dct_ok (dct_new s2.heap I2.big))
  have f3 : ∀ b ∈ fp, FpOk X pins (upd H2 D (dctO D [])) b ∧ b < s3.heap.objs.size := fun b hb => by
    obtain ⟨o, z, _⟩ := T.obj _ _ st2 b hb
    have lt := Heap.lt_size z
    exact ⟨⟨by rw [upd_ne (by rw [hD]; exact Nat.ne_of_lt lt)]; exact (f2 b hb).1, (f2 b hb).2⟩, by rw [hh3, Heap.size_push]; exact Nat.lt_succ_of_lt lt⟩
  have st3 : tn 0 s3.heap := T.keep _ _ _ st2 fun b _ o z => by rw [hh3]; exact Heap.get?_push_of_some _ z
  have I4 := block_start I3 ok hN f3
  have pg := hg s3 (upd H2 D (dctO D [])) s3.heap.objs.size (cellsFrom (s3.heap.objs.size + 1) scope.names (cloFrom X.env.cells scope.names [])) fp
  have pk := hk s3 (upd H2 D (dctO D [])) s3.heap.objs.size (cellsFrom (s3.heap.objs.size + 1) scope.names (cloFrom X.env.cells scope.names [])) fp
  have pv := hv s3 (upd H2 D (dctO D [])) s3.heap.objs.size (cellsFrom (s3.heap.objs.size + 1) scope.names (cloFrom X.env.cells scope.names [])) fp
  have nfp : ∀ b ∈ fp, (upd H2 D (dctO D [])) b = none := fun b hb => (f3 b hb).1.1
  obtain ⟨ce, hce⟩ : ∃ ce, ce = compEnvC scope (cellsFrom (s3.heap.objs.size + 1) scope.names (cloFrom X.env.cells scope.names [])) s3.heap.objs.size X.env := ⟨_, rfl⟩
  have cL : ce.locals = s3.heap.objs.size := by rw [hce]; rfl
  obtain ⟨s4, hs4⟩ : ∃ s4 : Shared, s4 = { s3 with heap := pushCells (s3.heap.push { cls := .type "dict", data := .dict #[] }) scope.names } := ⟨_, rfl⟩
  rw [← hs4, ← hce] at I4
  rw [← hce] at pg pk pv
  have goal : codeAny (model X.prog X.w) X.A (.compStart (.DictComp kx vx [⟨tg, iter, [], 0⟩] scope pos) 0 (.ref it) (.ref D) ce) (compPost (model X.prog X.w) X.A X.xe none (EP X pins σ Q) (.ref D) s3.heap.objs.size) s4 := by
    have st4 : tn 0 s4.heap := T.keep _ _ _ st3 fun b _ o z => by rw [hs4]; exact pushCells_keeps _ _ _ _ (Heap.get?_push_of_some _ z)
    clear hs4
    obtain ⟨H3, hH3⟩ : ∃ H3, H3 = upd H2 D (dctO D []) := ⟨_, rfl⟩
    rw [← hH3] at I3 I4 pg pk pv w0 nfp f3
    have stat : ∀ {σ' : L2.St} {H' : Hp} {s' : Shared}, Inv (X.blk s3 H3 scope ce fp) [] σ' H' s' → (∀ b ∈ fp, H' b = none) → ∀ b ∈ fp, FpOk (X.blk s3 H3 scope ce fp) [] H' b := fun {σ' H' s'} I' hn b hb =>
      ⟨hn b hb, (I'.ok.exf b hb).1, I'.ok.exfs b hb, .inl hb, fun x c z => (I'.ok.exf b hb).2 x c z, fun p hp => by cases (show p ∈ ([] : List (Addr × Obj)) from hp)⟩
    have loop : codeAny (model X.prog X.w) X.A (.compLoop (.DictComp kx vx [⟨tg, iter, [], 0⟩] scope pos) 0 (.ref it) (.ref D) ce) (compPost (model X.prog X.w) X.A X.xe none (EP X pins σ Q) (.ref D) s3.heap.objs.size) s4 := by
      refine compLoop_anyD (fun n s' => ∃ i H', Inv (X.blk s3 H3 scope ce fp) [] (wipe σ (own.map (·.2))) H' s' ∧ tn i s'.heap ∧ (∀ b ∈ fp, H' b = none) ∧ W i n H') ?_ m0 ⟨0, H3, I4, st4, nfp, w0⟩
      rintro n s5 ⟨i, H5, I5, st5, n5, w5⟩
      rcases turn i n H5 w5 with ⟨stop, qq⟩ | ⟨go, Nx, hNx, step⟩
      · refine thnF (T.done (X.blk s3 H3 scope ce fp) rfl rfl rfl hc i [] s5 _ H5 (fun _ _ => False) I5 (stat I5 n5) st5 stop) fun r s6 ⟨hr, I6⟩ => ?_
        subst hr
        have I7 : Inv X pins σ H5 s6 := I3.call' (ch := fp) I6.os I6.base I6.hok I6.bare fun b hb => ⟨(f3 b hb).1.2.2.2.1, (f3 b hb).1.2.1, (f3 b hb).1.2.2.2.2.1, (f3 b hb).1.2.2.2.2.2⟩
        have nC : H5 s3.heap.objs.size = none := cL ▸ (show H5 ce.locals = none from I6.free)
        obtain ⟨m, hn, _⟩ := I6.loc
        have hn : s6.heap.Ns s3.heap.objs.size m := cL ▸ (show s6.heap.Ns ce.locals m from hn)
        refine ⟨m, hn, fun h'' sb => ?_⟩
        obtain ⟨g0, g1, g2, g3, g4, g5⟩ := I3.fpOk (Nat.le_refl _) nC
        exact ⟨.ref D, H5, I7.turned (t' := s6.toks) (fun b o hb z => (sb.2 b hb).trans z) g0 g1 g3 g4 g5, rfl, qq⟩
      · refine thnF (T.item (X.blk s3 H3 scope ce fp) rfl rfl rfl hc i [] s5 _ H5 (fun _ _ => False) I5 (stat I5 n5) st5 go) fun r s6 ⟨u, hr, h6⟩ => ?_
        subst hr
        refine thnF h6 fun _ s7 ⟨x, H7, I7, r7, y7, st7, n7⟩ => ?_
        refine thnF (pg.run _ s7 _ H7 x u _ (I7.pinned (stat I7 n7) (T.obj _ _ st7)) r7 (step x H7 y7)) fun _ s8 ⟨σ8, H8, I8, hw8, q8⟩ => ?_
        refine thnF ((pts_nil (X := X.blk s3 H3 scope ce fp)).run _ s8 σ8 H8 (fun b K' => b = true ∧ K' = H8) I8 ⟨rfl, rfl⟩) fun b s9 ⟨H9, I9, hb9, hh9⟩ => ?_
        subst hb9 hh9
        have fin : ∀ {s' : Shared} {H' : Hp}, Inv (X.blk s3 H3 scope ce fp) ([] ++ pinsAt fp s7.heap) σ8 H' s' → Nx H' → ∃ m, m < n ∧ ∃ i H', Inv (X.blk s3 H3 scope ce fp) [] (wipe σ (own.map (·.2))) H' s' ∧ tn i s'.heap ∧ (∀ b ∈ fp, H' b = none) ∧ W i m H' := fun {s' H'} I' nx => by
          obtain ⟨m', hm, w'⟩ := hNx H' nx
          have pin : ∀ b ∈ fp, ∀ o, s7.heap.get? b = some o → s'.heap.get? b = some o ∧ H' b = none := fun b hb o z =>
            have k := I'.pin (b, o) (List.mem_append_right _ (List.mem_append_right _ (mem_pinsAt hb z)))
            ⟨k.1, k.2.1⟩
          exact ⟨m', hm, i + 1, H', (I'.unpinned (pins := [])).weak (by rw [← hw8, wipe_length]) (fun j v z => (wipe_some (vs := own.map (·.2)) (by rw [hw8]; exact z)).1), T.keep _ _ _ st7 fun b hb o z => (pin b hb o z).1,
            fun b hb => by obtain ⟨o, z, _⟩ := T.obj _ _ st7 b hb; exact (pin b hb o z).2, w'⟩
        rw [if_pos rfl]
        refine thnF (pk.run _ s9 σ8 H9 _ I9 q8) fun z s10 ⟨yk, H10, I10, r10, q10⟩ => thnF (pv.run _ s10 σ8 H10 _ I10 q10) fun z2 s11 ⟨yv, H11, I11, r11, es, ks, b, c, e1, e2, hD11, hK, k11, hno, hz, nx⟩ => ?_
        subst e1 e2
        obtain rfl : z = Value.ref b := r10
        obtain rfl : z2 = Value.ref c := r11
        exact dct_set (X := X.blk s3 H3 scope ce fp) hu I11 hD11 hK k11 hno hz fun s12 I12 => fin I12 nx
    exact codeAny_compStart_dict loop (T.self X.A 0 _ _ _ st4 loop)
  subst hs4 hce h3 hD
  exact goal
end
end DL
end

section
/-! Dicts from pairs to pairs, as data. -/
namespace DL
open PySem PySem.Spec PyProof.Rows L2
abbrev twoD (p : Int × Int) : PyData := .tuple [.int p.1, .int p.2]
abbrev mapD (kv : List ((Int × Int) × (Int × Int))) : PyData := .dict ((PyData.none, PyData.bool true) :: kv.map fun p => (PyData.tuple [.int p.1.1, .int p.1.2], PyData.tuple [.int p.2.1, .int p.2.2]))
theorem paired_mem {α β : Type} {R : α → β → Prop} : ∀ {l : List α} {m : List β} {y : β}, Paired R l m → y ∈ m → ∃ x ∈ l, R x y
  | _, _, y, .nil, h => by cases h
  | _, _, y, .cons r t, h => by
    rcases List.mem_cons.mp h with e | h
    · subst e; exact ⟨_, List.mem_cons_self, r⟩
    · obtain ⟨x, hx, hr⟩ := paired_mem t h
      exact ⟨x, List.mem_cons_of_mem _ hx, hr⟩
theorem paired_memL {α β : Type} {R : α → β → Prop} : ∀ {l : List α} {m : List β} {x : α}, Paired R l m → x ∈ l → ∃ y ∈ m, R x y
  | _, _, x, .nil, h => by cases h
  | _, _, x, .cons r t, h => by
    rcases List.mem_cons.mp h with e | h
    · subst e; exact ⟨_, List.mem_cons_self, r⟩
    · obtain ⟨y, hy, hr⟩ := paired_memL t h
      exact ⟨y, List.mem_cons_of_mem _ hy, hr⟩
theorem paired_snoc {α β : Type} {R : α → β → Prop} {x : α} {y : β} (h : R x y) : ∀ {l : List α} {m : List β}, Paired R l m → Paired R (l ++ [x]) (m ++ [y])
  | _, _, .nil => .cons h .nil
  | _, _, .cons r t => .cons r (paired_snoc h t)
section
variable {K : PySem.W.Frag} {F H F' H' : Hp} {σ : L2.St} {Γ Γ' : Gm} {v : V} {l : Addr} {o : HO}
theorem pair_of {p : Int × Int} (h : Dd K F v (twoD p)) : ∃ b, v = .ref b ∧ TwoAt F b p := by
  cases h with
  | tup h1 h0 h2 =>
    cases h2 with
    | cons a t => cases t with
      | cons b t => cases t; cases a; cases b; exact ⟨_, rfl, _, h1, h0⟩
theorem dd_two {b : Addr} {p : Int × Int} (h : TwoAt F b p) : Dd K F (.ref b) (twoD p) := let ⟨_, h1, h0⟩ := h; .tup h1 h0 (.cons (.int _) (.cons (.int _) .nil))
theorem TwoAt.ky {b : Addr} {p : Int × Int} (x : Ext F H) (h : TwoAt F b p) : KyAt H b [p.1, p.2] := let ⟨ob, h1, _⟩ := h; .inr ⟨ob, x _ _ h1⟩
theorem map_of {kv : List ((Int × Int) × (Int × Int))} (h : Dd K F v (mapD kv)) : ∃ a es, v = .ref a ∧ F a = some (dctO a es) ∧ Paired (MapE F) es kv := by
  have key : ∀ m : PyData, m = mapD kv → Dd K F v m → ∃ a es, v = .ref a ∧ F a = some (dctO a es) ∧ Paired (MapE F) es kv := fun m em hm => by
    cases hm with
    | map h1 h2 =>
      rename_i a es kv'
      have e : kv' = kv := by
        have e1 := (List.cons.inj (PyData.dict.inj em)).2
        have e2 := congrArg (List.map fun p : PyData × PyData => match p with
          | (.tuple [.int i, .int j], .tuple [.int m, .int n]) => ((i, j), (m, n))
          | _ => ((0, 0), (0, 0))) e1
        simpa [List.map_map, Function.comp_def] using e2
      subst e
      exact ⟨a, es, rfl, h1, h2⟩
    | dct h1 => cases em
    | scr h1 =>
      rename_i a ns
      cases ns with
      | nil => cases em
      | cons n r => cases em
    | _ => cases em
  exact key _ rfl h
theorem EnvOk.frozO (e : EnvOk K F H σ Γ) (hF : F l = none) (ho : ¬ Own σ Γ l) : EnvOk K (upd F l o) H σ Γ := by
  have ff : Ext F (upd F l o) := Ext.new hF
  refine ⟨e.len, fun i s h => ?_, e.sep⟩
  obtain ⟨v, v1, v2⟩ := e.ats i s h
  refine ⟨v, v1, ?_⟩
  have ne : ∀ m, isOw s = true → v = .ref m → m ≠ l := fun m hs hm z => ho ⟨i, s, h, hs, by rw [v1, hm, z]⟩
  cases s with
  | im d => exact v2.up ff
  | ad u => exact v2
  | ow ds =>
    obtain ⟨m, ys, y1, y2, y3, y4⟩ := v2
    exact ⟨m, ys, y1, by rw [upd_ne (ne m rfl y1)]; exact y2, y3, y4.up ff⟩
  | pr m ds =>
    obtain ⟨ys, y1, y2, y3, y4⟩ := v2
    exact ⟨ys, y1, by rw [upd_ne (ne m rfl y1)]; exact y2, y3, y4.up ff⟩
theorem Gr.frozO {A A' : Addr → Prop} (g : Gr F H A F' H' A') (hF : F' l = none) (hH : H l = none ∨ A l) (hl : H' l = some o) : Gr F H A (upd F' l o) H' A' := by
  refine ⟨g.ff.trans (Ext.new hF), fun a u h => ?_, g.hh, fun a h => ?_, g.aa⟩
  all_goals
    by_cases ha : a = l
    · subst ha
      first | exact .inr hH | (rw [upd_same] at h; cases h; exact hl)
    · rw [upd_ne ha] at h
      first | exact g.nw a h | exact g.fh a u h
end
section
variable {X : Cx} {Γ Γ1 Γ2 : Gm} {a b : Expr} {pos : Pos}
theorem ee_mapGet {kv : List ((Int × Int) × (Int × Int))} {p q : Int × Int} {kk : Nat} (hr : Room kk X.A) (ha : Ee X Γ a (mapD kv) Γ1) (hb : Ee X Γ1 b (twoD p) Γ2) (hm : (p, q) ∈ kv) (hs : NoSl b := by exact fun _ _ => rfl) : Ee X Γ (.Subscript a b pos) (twoD q) Γ2 :=
  pe_imp (pe_mapGet (by have := hr.un; omega) ha hb hs) fun σ H Q ⟨F, ev, x, k⟩ => ⟨F, ev, x, fun v F1 H1 g1 e1 dv => ⟨F1, e1, g1.fh, fun w F2 H2 g2 e2 dw => by
    obtain ⟨c, es, rfl, h1, h2⟩ := map_of (dv.up g2.ff)
    obtain ⟨b, rfl, hb2⟩ := pair_of dw
    obtain ⟨e, he, z1, z2, z3⟩ := paired_mem h2 hm
    obtain ⟨e1', b', c'⟩ := e
    cases z1
    refine ⟨c, b, c', b', es, _, rfl, rfl, g2.fh _ _ h1, fun e he => ?_, hb2.ky g2.fh, he, k _ F2 H2 (g1.trans g2) e2 (dd_two z3)⟩
    obtain ⟨y, _, y1, y2, _⟩ := paired_memL h2 he
    rw [y1]
    exact y2.ky g2.fh⟩⟩
end
end DL
end

section
namespace DL
open PySem PySem.Spec PyProof.Rows L2
section
variable {X : Cx} {Γ Γ1 : Gm} {α : Type}
theorem map_read {xs : List α} {enc : α → PyData} {kf vf : α → Int × Int} {Γt : α → Gm} {vs is : List Nat} {g : TG} {tk tv : TE} {wi : TI} (hv : noV Γ1 vs = true) (hless : ∀ x, x ∈ xs → Less Γ1 (Γt x)) (his : ∀ i ∈ is, i ∈ vs) (hsz : xs.length ≤ 16777216) (hnd : (xs.map kf).Nodup)
    (hw : ∀ σ H R, tIt X.K Γ (xs.map enc) Γ1 σ H R → wi σ H R) (hg : ∀ x, x ∈ xs → ∀ v σ H Q, tGt X.K Γ1 (enc x) is (Γt x) v σ H Q → g v σ H Q)
    (hk : ∀ x, x ∈ xs → ∀ σ H Q, tE X.K (Γt x) (twoD (kf x)) (Γt x) σ H Q → tk σ H Q) (he : ∀ x, x ∈ xs → ∀ σ H Q, tE X.K (Γt x) (twoD (vf x)) (Γt x) σ H Q → tv σ H Q) :
    ∀ σ H Q, tE X.K Γ (mapD (xs.map fun x => (kf x, vf x))) Γ1 σ H Q → tMapC wi g tk tv vs σ H Q := by
  intro σ H Q ⟨F, ev, x, k⟩
  refine hw σ H _ ⟨F, ev, x, fun J F1 H1 g1 e1 hW => fun D hD => ?_⟩
  have nD : ¬ Own σ Γ1 D := fun o => by
    obtain ⟨_, ys, z⟩ := e1.own_at o
    rw [hD] at z; cases z
  have ag : wipe (wipe σ vs) vs = wipe σ vs := wipe_idem σ vs
  let kv : α → (Int × Int) × (Int × Int) := fun x => (kf x, vf x)
  let St : Nat → Hp → Prop := fun i H2 => ∃ F2 es, EnvOk X.K F2 H2 σ Γ1 ∧ Gr F1 H1 (Own σ Γ1) F2 H2 (Own σ Γ1) ∧ F2 D = none ∧ H2 D = some (dctO D es) ∧ Paired (MapE F2) es ((xs.take i).map kv)
  refine ⟨fun i m H2 => m = xs.length - i ∧ i ≤ xs.length ∧ St i H2, ⟨xs.length, by omega, Nat.zero_le _, F1, [], e1.newH hD, Gr.newH g1.fh hD, g1.fh.free hD, upd_same, .nil⟩, ?_⟩
  rintro i m H2 ⟨rfl, hi, F2, es, e2, g2, hF2, hH2, hd2⟩
  have wk := hW i F2 H2 g2.ff g2.fh
  by_cases hlt : i < xs.length
  · have hx : xs[i]? = some xs[i] := List.getElem?_eq_getElem hlt
    have hxm : xs[i] ∈ xs := List.getElem_mem hlt
    obtain ⟨go, yl⟩ := wk.1 (enc xs[i]) (by rw [List.getElem?_map, hx]; rfl)
    refine .inr ⟨go, St (i + 1), fun H3 z => ⟨xs.length - (i + 1), by omega, rfl, hlt, z⟩, fun y H3 hy => ?_⟩
    obtain ⟨F3, y1, y2, y3, y4, dy⟩ := yl y H3 hy
    have g23 : Gr F2 H2 (Own σ Γ1) F3 H3 (Own σ Γ1) := Gr.ext y1 y2 y3 y4
    have hD3 := g23.keepD hH2 hF2 nD
    refine hg xs[i] hxm y _ H3 _ ⟨F3, (e2.keep y1 y3 y4).agree hv ag.symm, y2, dy, fun σ4 F4 H4 g4 e4 w4 => ?_⟩
    have w4' := w4 vs his
    rw [ag] at w4'
    refine ⟨w4', ?_⟩
    have l4 := hless xs[i] hxm
    have g34 : Gr F3 H3 (Own σ Γ1) F4 H4 (Own σ4 (Γt xs[i])) := g4.left fun a o => own_agree hv ag o
    have back : ∀ a, Own σ Γ1 a → Own σ4 (Γt xs[i]) a := fun a o => l4.own (own_agree hv w4'.symm o)
    have nD4 : ¬ Own σ4 (Γt xs[i]) D := fun o => (g34.aa D o).elim nD fun z => by rw [hD3.1] at z; cases z
    have hD4 := g34.keepD hD3.1 hD3.2 nD
    refine hk xs[i] hxm σ4 H4 _ ⟨F4, e4, g34.fh, fun v5 F5 H5 g5 e5 dv5 => ?_⟩
    have hD5 := g5.keepD hD4.1 hD4.2 nD4
    refine he xs[i] hxm σ4 H5 _ ⟨F5, e5, g5.fh, fun v6 F6 H6 g6 e6 dv6 => ?_⟩
    have hD6 := g6.keepD hD5.1 hD5.2 nD4
    have g26 := g23.trans ((g34.trans g5).trans g6)
    obtain ⟨b, rfl, tb⟩ := pair_of dv5
    obtain ⟨c, rfl, tc⟩ := pair_of dv6
    have tb6 := tb.up g6.ff
    have hes : Paired (MapE F6) es ((xs.take i).map kv) := Paired.mapP hd2 fun _ _ z => z.up g26.ff
    have hel : es.length = i := by
      rw [Paired.length hes, List.length_map, List.length_take]
      omega
    refine ⟨es, [(kf xs[i]).1, (kf xs[i]).2], b, c, rfl, rfl, hD6.1, fun e hh => ?_, tb6.ky g6.fh, fun hin => ?_, by rw [sizeLine_eq]; omega, F6, es ++ [([(kf xs[i]).1, (kf xs[i]).2], b, c)], ((l4.env e6).agree hv w4').mutOther nD, ((g2.trans g26).right back).mutNew hD hD6.2, hD6.2, upd_same, ?_⟩
    · obtain ⟨y, _, y1, y2, _⟩ := paired_memL hes hh
      rw [y1]
      exact y2.ky g6.fh
    · obtain ⟨e, hh, q⟩ := List.mem_map.mp hin
      obtain ⟨y, hy, y1, _, _⟩ := paired_memL hes hh
      obtain ⟨z, hz, rfl⟩ := List.mem_map.mp hy
      rw [y1] at q
      have q1 : kf z = kf xs[i] := Prod.ext (List.cons.inj q).1 (List.cons.inj (List.cons.inj q).2).1
      obtain ⟨j, hj, hzj⟩ := List.getElem_of_mem hz
      rw [List.length_take] at hj
      rw [List.getElem_take] at hzj
      have := (List.getElem_inj (i := j) (j := i) (h₀ := by rw [List.length_map]; omega) (h₁ := by rw [List.length_map]; omega) hnd).mp (by rw [List.getElem_map, List.getElem_map, hzj]; exact q1)
      omega
    · rw [List.take_add_one, hx, List.map_append]
      exact paired_snoc ⟨rfl, tb6, tc⟩ hes
  · have hie : i = xs.length := by omega
    subst hie
    refine .inl ⟨wk.2 (by rw [List.length_map]; exact Nat.le_refl _), ?_⟩
    rw [List.take_of_length_le (Nat.le_refl _)] at hd2
    exact k (.ref D) _ H2 ((g1.trans g2).frozO hF2 (g1.free hD) hH2) (e2.frozO hF2 nD) (.map upd_same (Paired.mapP hd2 fun _ _ z => z.up (Ext.new hF2)))
/-- {k: v for x in xs} -/
theorem ee_mapC {kx vx tg iter : Expr} {scope : Scope} {own : List (Str × Nat)} {pos : Pos} {kk : Nat} (xs : List α) (enc : α → PyData) (kf vf : α → Int × Int) (Γt : α → Gm) (is : List Nat) (hr : Room kk X.A) (hc : X.calm = true) (hN : X.N.Nodup) (ok : BlkOk X.N X.env.scope scope own) (hv : noV Γ1 (own.map (·.2)) = true)
    (his : ∀ i ∈ is, i ∈ own.map (·.2)) (hsz : xs.length ≤ 16777216) (hnd : (xs.map kf).Nodup) (hless : ∀ x, x ∈ xs → Less Γ1 (Γt x)) (hi : Ei X Γ tg iter (xs.map enc) Γ1)
    (hg : ∀ x, x ∈ xs → InBlk X scope fun Y => Eg Y Γ1 tg (enc x) is (Γt x)) (hk : ∀ x, x ∈ xs → InBlk X scope fun Y => Ee Y (Γt x) kx (twoD (kf x)) (Γt x)) (he : ∀ x, x ∈ xs → InBlk X scope fun Y => Ee Y (Γt x) vx (twoD (vf x)) (Γt x))
    (hs : ∀ x, foldedSetIterable iter X.env x = pure x := by intro _; rfl) : Ee X Γ (.DictComp kx vx [⟨tg, iter, [], 0⟩] scope pos) (mapD (xs.map fun x => (kf x, vf x))) Γ1 :=
  pe_imp (pe_mapC (g := fun v σ H Q => ∃ x, x ∈ xs ∧ tGt X.K Γ1 (enc x) is (Γt x) v σ H Q) (tk := fun σ H Q => ∃ x, x ∈ xs ∧ tE X.K (Γt x) (twoD (kf x)) (Γt x) σ H Q) (tv := fun σ H Q => ∃ x, x ∈ xs ∧ tE X.K (Γt x) (twoD (vf x)) (Γt x) σ H Q) hc (by have := hr.un; omega) hN hi ok
    (fun s H C cl fp => ⟨fun pins s' σ H' v u Q I r ⟨x, hx, hh⟩ => (hg x hx s H C cl fp).run pins s' σ H' v u Q I r hh⟩)
    (fun s H C cl fp => ⟨fun pins s' σ H' Q I ⟨x, hx, hh⟩ => (hk x hx s H C cl fp).run pins s' σ H' Q I hh⟩)
    (fun s H C cl fp => ⟨fun pins s' σ H' Q I ⟨x, hx, hh⟩ => (he x hx s H C cl fp).run pins s' σ H' Q I hh⟩) hs)
    (map_read hv hless his hsz hnd (fun σ H R z => z) (fun x hx v σ H Q z => ⟨x, hx, z⟩) (fun x hx σ H Q z => ⟨x, hx, z⟩) (fun x hx σ H Q z => ⟨x, hx, z⟩))
end
end DL
end

section
namespace DL
open PySem PySem.Spec PyProof.Rows L2
section
variable {X : Cx} {Γ Γ1 : Gm} {e : Expr} {pos pp : Pos}
theorem bools_of {K : PySem.W.Frag} {F : Hp} : ∀ {bs : List Bool} {vs : List V}, DdA K F vs (bs.map .bool) → vs = bs.map V.bl
  | [], _, h => by cases h; rfl
  | b :: bs, _, h => by
    cases h with
    | cons h1 h2 =>
      cases h1
      rw [bools_of h2]; rfl
/-- all([..]) -/
theorem ee_all {bs : List Bool} (hc : X.calm = true) (hm : X.mg "all" = none) (ha : Ea X Γ [e] [.list (bs.map .bool)] Γ1) (hg : Gl X "all" := by rfl) (he : starEach [e] X.env = (false, eval e X.env) :: starEach [] X.env := by rfl) :
    Ee X Γ (.Call (.Name "all" pp) [e] [] pos) (.bool (bs.all id)) Γ1 :=
  ee_cb (id := "all") (cr_all hc) hm (by decide +kernel) ha (cd_here fun F H vs Q x hx => by
    obtain ⟨v, rfl, hv⟩ := one_of hx
    obtain ⟨a, xs, rfl, _, hS, hA⟩ := hv.lstAt x
    rw [bools_of hA] at hS
    exact ⟨_, .bl _, fun k => ⟨a, bs, rfl, hS, k⟩⟩) hg (by decide) (by decide) he rfl
end
end DL
end

section
namespace DL
open PySem PySem.Spec PyProof.Rows L2 RM
abbrev s_is_way : Stmt := topS 11
abbrev N_is_way : List Str := ["value", "halls", "x", "y"]
theorem sc_is_way : FnScope N_is_way ["value", "halls"] (defScope s_is_way) := ⟨rfl, rfl, rfl, by decide +kernel, rfl, by decide +kernel, by decide +kernel⟩

abbrev s_are_ways : Stmt := topS 13
abbrev N_are_ways : List Str := ["value", "halls", "way"]
theorem sc_are_ways : FnScope N_are_ways ["value", "halls"] (defScope s_are_ways) := ⟨rfl, rfl, rfl, by decide +kernel, rfl, by decide +kernel, by decide +kernel⟩

abbrev s_ascends : Stmt := topS 12
abbrev N_ascends : List Str := ["members", "at"]
theorem sc_ascends : FnScope N_ascends ["members"] (defScope s_ascends) := ⟨rfl, rfl, rfl, by decide +kernel, rfl, by decide +kernel, by decide +kernel⟩

abbrev s_wrong_frame : Stmt := topS 15
abbrev N_wrong_frame : List Str := ["value"]
theorem sc_wrong_frame : FnScope N_wrong_frame ["value"] (defScope s_wrong_frame) := ⟨rfl, rfl, rfl, by decide +kernel, rfl, by decide +kernel, by decide +kernel⟩

section
variable {P : Program} {w : World} {K : PySem.W.Frag} {mg : Str → Option Value} {base : Heap}

theorem sh_dict {d : PyData} (h : SeqAt.shaped d = true) : ∀ x, d ≠ .dict x := fun x e => by
  subst e
  simp [SeqAt.shaped, PyData.canLay0] at h
theorem sh_item {ds : List PyData} {d : PyData} (h : SeqAt.shaped (.tuple ds) = true) (hd : d ∈ ds) : SeqAt.shaped d = true := by
  have h1 := SeqAt.canLay_of_shaped h
  have h2 := SeqAt.depth_of_shaped h
  rw [PyData.canLay0] at h1
  rw [PyData.depth] at h2
  exact shaped_of (layAll_mem h1 hd) (by have := depth_le hd; omega)
theorem isNum_int {v : PyData} {a b : Int} (h : isNum v a b = true) : ∃ i, v = .int i := by
  cases v <;> first | exact ⟨_, rfl⟩ | (simp [isNum] at h)
/-- is_way, of any data -/
def isWayD (v : PyData) (h : Int) : Bool := match v with
  | .tuple [x, y] => isNum x 0 (h - 1) && (isNum y 0 (h - 1) && !PyData.eqv x y)
  | _ => false
def R_is_way (ds : List PyData) (d : PyData) : Prop := ∃ v h, ds = [v, .int h] ∧ SeqAt.shaped v = true ∧ d = .bool (isWayD v h)
theorem ok_is_way (T : Tx mg) (F : Fn K mg "is_way" s_is_way ["value", "halls"]) (C : Ca P w K mg base 1 "is_number" ["value", "least", "most"] (spD K R_is_number)) : Ca P w K mg base 2 "is_way" ["value", "halls"] (spD K R_is_way) := by
  have S := sc_is_way
  refine ca_Er F S (fun ds d ⟨v, h, e, _⟩ => by rw [e]; rfl) fun f cdv A outer s H E ds d hr ⟨v, h, e1, hv, e2⟩ => ?_
  subst e1 e2
  by_cases hT : ∃ xs, v = .tuple xs
  · obtain ⟨xs, rfl⟩ := hT
    by_cases h2 : xs.length = 2
    · obtain ⟨x, y, rfl⟩ : ∃ x y, xs = [x, y] := by
        match xs, h2 with
        | [x, y], _ => exact ⟨x, y, rfl⟩
      have sx := sh_item hv (show x ∈ [x, y] by simp)
      have sy := sh_item hv (show y ∈ [x, y] by simp)
      have hx := sh_dict sx
      have hy := sh_dict sy
      refine er_ifF (et_is (et_w (ew_or (et_not (et_val (ee_isi T.isinstance T.tuple bt_tuple (ee_var 0) (sh_dict hv) (kit_tuple _)))) fun _ => (ew_or1 (et_neD hr (ee_len T.len (ea_cons (ee_var 0) ea_nil) rfl) ee_int (sh_int _) (sh_int _))))) (by rw [int_eqv]; rfl)) ?_
      refine er_cons (es_asg (ee_var 0) (eg_tup2 rfl (eg_name 2 S.nd) (eg_name 3 S.nd))) ?_
      rw [show isWayD (.tuple [x, y]) h = (isNum x 0 (h - 1) && (isNum y 0 (h - 1) && !PyData.eqv x y)) from rfl]
      exact er_ret (ee_and (ee_ca C hr (ea_cons (ee_var 2) (ea_cons ee_int (ea_cons (ee_sub (ee_var 1) ee_int) ea_nil))) ⟨x, 0, h - 1, rfl, hx, rfl⟩) fun _ => ee_and (ee_ca C hr (ea_cons (ee_var 3) (ea_cons ee_int (ea_cons (ee_sub (ee_var 1) ee_int) ea_nil))) ⟨y, 0, h - 1, rfl, hy, rfl⟩) fun _ => ee_one (ee_neD hr (ee_var 2) (ee_var 3) sx sy))
    · have e : isWayD (.tuple xs) h = false := by
        match xs, h2 with
        | [], _ => rfl
        | [_], _ => rfl
        | [_, _], h2 => exact absurd rfl h2
        | _ :: _ :: _ :: _, _ => rfl
      rw [e]
      refine er_ifT (et_is (q := true) (et_w (ew_or (et_not (et_val (ee_isi T.isinstance T.tuple bt_tuple (ee_var 0) (sh_dict hv) (kit_tuple _)))) fun _ => (ew_or1 (et_neD hr (ee_len T.len (ea_cons (ee_var 0) ea_nil) rfl) ee_int (sh_int _) (sh_int _))))) ?_) (er_ret ee_bl)
      rw [int_eqv, decide_eq_false (fun z => h2 (by omega))]
      simp
  · have e : isWayD v h = false := by
      cases v <;> first | rfl | exact absurd ⟨_, rfl⟩ hT
    rw [e]
    have e3 : isTupD v = false := by
      cases v <;> first | rfl | exact absurd ⟨_, rfl⟩ hT
    exact er_ifT (et_is (p := !isTupD v || true) (et_w (ew_or (et_not (et_val (ee_isi T.isinstance T.tuple bt_tuple (ee_var 0) (sh_dict hv) (kit_tuple _)))) fun z => absurd z (by rw [e3]; decide))) (by simp)) (er_ret ee_bl)
end
section
variable {P : Program} {w : World} {K : PySem.W.Frag} {mg : Str → Option Value} {base : Heap}

/-- turn i of are_ways finds nothing wrong -/
def okWay (ds : List PyData) (h : Int) (i : Nat) : Bool := isWayD (ds.getD i .none) h && (i == 0 || PySem.W.dataLt (ds.getD (i - 1) .none) (ds.getD i .none))
def areWaysD (v : PyData) (h : Int) : Bool := match v with
  | .tuple ds => (List.range ds.length).all (okWay ds h)
  | _ => false
theorem isWay_form {v : PyData} {h : Int} (hp : isWayD v h = true) : ∃ x y, v = .tuple [.int x, .int y] := by
  unfold isWayD at hp
  split at hp
  · rename_i x y
    rw [Bool.and_eq_true, Bool.and_eq_true] at hp
    obtain ⟨i, rfl⟩ := isNum_int hp.1
    obtain ⟨j, rfl⟩ := isNum_int hp.2.1
    exact ⟨i, j, rfl⟩
  · cases hp
theorem ii_lay (x y : Int) : PyData.canLay0 (.tuple [.int x, .int y]) = true := by simp [PyData.canLay0, PyData.canLayAll0]
theorem ii_dep (x y : Int) : PyData.depth (.tuple [.int x, .int y]) ≤ 60 := by simp [PyData.depth, PyData.depthAll]
/-- members ascend -/
def ascD (xs : List PyData) : Bool := (List.range (xs.length - 1)).all fun j => PySem.W.dataLt (xs.getD j .none) (xs.getD (j + 1) .none)
def AscOk (xs : List PyData) : Prop := xs.length ≤ 1000 ∧ (∀ x ∈ xs, x.canLay0 = true ∧ x.depth ≤ 60 ∧ x ≠ .none) ∧ ∀ x ∈ xs, ∀ y ∈ xs, PySem.W.alike x y = true
def R_ascends (ds : List PyData) (d : PyData) : Prop := ∃ xs : List PyData, AscOk xs ∧ ds = [.tuple xs] ∧ d = .bool (ascD xs)
theorem getD_mem {xs : List PyData} {i : Nat} (hi : i < xs.length) : xs.getD i .none ∈ xs := by
  rw [List.getD_eq_getElem?_getD, List.getElem?_eq_getElem hi]; exact List.getElem_mem hi
theorem at_here {xs : List PyData} {i : Nat} (hi : i < xs.length) : atI xs (i : Int) = some (xs.getD i .none) := atI_nat (by rw [List.getD_eq_getElem?_getD, List.getElem?_eq_getElem hi]; rfl)
theorem ok_ascends (T : Tx mg) (F : Fn K mg "ascends" s_ascends ["members"]) : Ca P w K mg base 1 "ascends" ["members"] (spD K R_ascends) := by
  have S := sc_ascends
  refine ca_Er F S (fun ds d ⟨_, _, e, _⟩ => by rw [e]; rfl) fun f cdv A outer s H E ds d hr ⟨xs, ⟨hl, hx_, hal⟩, e1, e2⟩ => ?_
  subst e1 e2
  refine er_is (er_ret (ee_all (bs := (List.range (xs.length - 1)).map fun j => PySem.W.dataLt (xs.getD j .none) (xs.getD (j + 1) .none)) rfl T.all (ea_cons (ee_is (ee_new (en_lc (own := [("at", 1)]) (List.range (xs.length - 1)) (fun j => iN (1 + j)) (fun _ => true) (fun j => .bool (PySem.W.dataLt (xs.getD j .none) (xs.getD (j + 1) .none))) (fun j => (slots0 N_ascends [.tuple xs]).set 1 (some (.im (iN (1 + j))))) [1] rfl S.nd (blkOk_by (N := N_ascends) (sc := defScope s_ascends) (by decide +kernel)) rfl (by decide) (by rw [List.length_range]; omega) (fun x _ => less_set rfl)
    (ei_is (ei_range2 T.range (ea_cons ee_int (ea_cons (ee_len T.len (ea_cons (ee_var 0) ea_nil) rfl) ea_nil)) ?b1) ?rg) (fun x hx _ _ _ _ _ => (eg_name 1 S.nd)) (fun x hx _ _ _ _ _ => ets_nil) (fun x hx hf _ _ _ _ _ => (ee_ltD hr (ee_ixT (d := xs.getD x .none) (ee_var 0) (ee_sub (ee_var 1) ee_int) ?i1) (ee_ixT (d := xs.getD (x + 1) .none) (ee_var 0) (ee_var 1) ?i2) ?l1 ?l2 ?l3 ?l4 ?l5)))) ?its) ea_nil))) ?fin
  case b1 => omega
  case rg => exact rngD_from 1 xs.length
  case i1 =>
    have := List.mem_range.mp hx
    rw [show ((1 + x : Nat) : Int) - 1 = ((x : Nat) : Int) by omega]
    exact at_here (by omega)
  case i2 =>
    have := List.mem_range.mp hx
    rw [show ((1 + x : Nat) : Int) = ((x + 1 : Nat) : Int) by omega]
    exact at_here (by omega)
  case l1 => have := List.mem_range.mp hx; exact (hx_ _ (getD_mem (by omega))).1
  case l2 => have := List.mem_range.mp hx; exact (hx_ _ (getD_mem (by omega))).1
  case l3 => have := List.mem_range.mp hx; exact hal _ (getD_mem (by omega)) _ (getD_mem (by omega))
  case l4 => have := List.mem_range.mp hx; exact (hx_ _ (getD_mem (by omega))).2.2
  case l5 => have := List.mem_range.mp hx; exact (hx_ _ (getD_mem (by omega))).2.1
  case its => rw [List.filter_eq_self.mpr (fun _ _ => rfl), List.map_map]; rfl
  case fin =>
    unfold ascD
    rw [List.all_map]; rfl
def R_are_ways (ds : List PyData) (d : PyData) : Prop := ∃ v h, ds = [v, .int h] ∧ SeqAt.shaped v = true ∧ (∀ xs, v = .tuple xs → xs.length ≤ 1000) ∧ d = .bool (areWaysD v h)
theorem areWays_split (xs : List PyData) (h : Int) : areWaysD (.tuple xs) h = (xs.all (fun x => isWayD x h) && ascD xs) := by
  show (List.range xs.length).all (okWay xs h) = _
  rw [Bool.eq_iff_iff, Bool.and_eq_true, List.all_eq_true, List.all_eq_true]
  unfold ascD
  rw [List.all_eq_true]
  constructor
  · intro a
    refine ⟨fun x hx => ?_, fun j hj => ?_⟩
    · obtain ⟨i, hi, rfl⟩ := List.getElem_of_mem hx
      have := a i (List.mem_range.mpr hi)
      unfold okWay at this
      rw [Bool.and_eq_true, List.getD_eq_getElem?_getD, List.getElem?_eq_getElem hi] at this
      exact this.1
    · have hj := List.mem_range.mp hj
      have := a (j + 1) (List.mem_range.mpr (by omega))
      unfold okWay at this
      rw [Bool.and_eq_true] at this
      have h2 := this.2
      rw [show ((j + 1) == 0) = false from rfl, Bool.false_or] at h2
      exact h2
  · rintro ⟨a, b⟩ i hi
    have hi := List.mem_range.mp hi
    unfold okWay
    rw [Bool.and_eq_true]
    refine ⟨a _ (getD_mem hi), ?_⟩
    by_cases h0 : i = 0
    · subst h0; rfl
    · have := b (i - 1) (List.mem_range.mpr (by omega))
      rw [show i - 1 + 1 = i by omega] at this
      rw [this, Bool.or_true]
theorem ok_are_ways (T : Tx mg) (F : Fn K mg "are_ways" s_are_ways ["value", "halls"]) (C : Ca P w K mg base 2 "is_way" ["value", "halls"] (spD K R_is_way)) (C2 : Ca P w K mg base 1 "ascends" ["members"] (spD K R_ascends)) : Ca P w K mg base 3 "are_ways" ["value", "halls"] (spD K R_are_ways) := by
  have S := sc_are_ways
  refine ca_Er F S (fun ds d ⟨v, h, e, _⟩ => by rw [e]; rfl) fun f cdv A outer s H E ds d hr ⟨v, h, e1, hv, hl, e2⟩ => ?_
  subst e1 e2
  by_cases hT : ∃ xs, v = .tuple xs
  · obtain ⟨xs, rfl⟩ := hT
    have hl := hl xs rfl
    refine er_is (er_ret (ee_and (ee_isi T.isinstance T.tuple bt_tuple (ee_var 0) (sh_dict hv) (kit_tuple _)) fun _ => ee_and (ee_all (bs := xs.map fun x => isWayD x h) rfl T.all (ea_cons (ee_is (ee_new (en_lc (own := [("way", 2)]) xs id (fun _ => true) (fun x => .bool (isWayD x h)) (fun x => (slots0 N_are_ways [.tuple xs, .int h]).set 2 (some (.im x))) [2] rfl S.nd (blkOk_by (N := N_are_ways) (sc := defScope s_are_ways) (by decide +kernel)) rfl (by decide) (by omega) (fun x _ => less_set rfl)
      (ei_is (ei_tup (ee_var 0)) (List.map_id _).symm) (fun x hx _ _ _ _ _ => (eg_name 2 S.nd)) (fun x hx _ _ _ _ _ => ets_nil) (fun x hx hf _ _ _ _ _ => (ee_ca C hr (ea_cons (ee_var 2) (ea_cons (ee_var 1) ea_nil)) ⟨x, h, rfl, sh_item hv hx, rfl⟩)))) ?its) ea_nil)) fun hall => ee_one (ee_ca C2 hr (ea_cons (ee_var 0) ea_nil) ⟨xs, ?asc, rfl, rfl⟩))) ?fin
    case its => rw [List.filter_eq_self.mpr (fun _ _ => rfl), List.map_map]; rfl
    case asc =>
      have form : ∀ x ∈ xs, ∃ a b, x = .tuple [.int a, .int b] := fun x hx => by
        rw [List.all_eq_true] at hall
        exact isWay_form (hall _ (List.mem_map.mpr ⟨x, hx, rfl⟩))
      refine ⟨hl, fun x hx => ?_, fun x hx y hy => ?_⟩
      · obtain ⟨a, b, rfl⟩ := form x hx
        exact ⟨ii_lay a b, ii_dep a b, by intro z; cases z⟩
      · obtain ⟨a, b, rfl⟩ := form x hx
        obtain ⟨a2, b2, rfl⟩ := form y hy
        exact alike_ii a b a2 b2
    case fin =>
      rw [areWays_split, List.all_map]
      show PyData.bool (true && _) = _
      rw [Bool.true_and]; rfl
  · have e : areWaysD v h = false := by
      cases v <;> first | rfl | exact absurd ⟨_, rfl⟩ hT
    rw [e]
    have e3 : isTupD v = false := by
      cases v <;> first | rfl | exact absurd ⟨_, rfl⟩ hT
    exact er_is (er_ret (ee_and (q := true) (ee_isi T.isinstance T.tuple bt_tuple (ee_var 0) (sh_dict hv) (kit_tuple _)) fun z => absurd z (by rw [e3]; decide))) (by rw [e3]; rfl)
/-- the ways of a value that are_ways lets pass -/
theorem areWays_form {v : PyData} {h : Int} (hp : areWaysD v h = true) : ∃ l : List (Int × Int), v = .tuple (l.map twoD) := by
  cases v with
  | tuple ds =>
    have hall : ∀ d ∈ ds, ∃ p : Int × Int, d = twoD p := fun d hd => by
      obtain ⟨i, hi, rfl⟩ := List.getElem_of_mem hd
      have := List.all_eq_true.mp hp i (List.mem_range.mpr hi)
      unfold okWay at this
      rw [Bool.and_eq_true, List.getD_eq_getElem?_getD, List.getElem?_eq_getElem hi] at this
      obtain ⟨x, y, e⟩ := isWay_form this.1
      exact ⟨(x, y), e⟩
    clear hp
    induction ds with
    | nil => exact ⟨[], rfl⟩
    | cons d ds ih =>
      obtain ⟨p, hp⟩ := hall d List.mem_cons_self
      obtain ⟨l, hl⟩ := ih fun d hd => hall d (List.mem_cons_of_mem _ hd)
      exact ⟨p :: l, by rw [hp, PyData.tuple.inj hl]; rfl⟩
  | _ => cases hp
def frameD (v : PyData) : PyData := match v with
  | .tuple [h, _] => if isNum h 1 9 = true then .none else .str "halls"
  | _ => .str "whole"
def R_wrong_frame (ds : List PyData) (d : PyData) : Prop := ∃ v, ds = [v] ∧ SeqAt.shaped v = true ∧ d = frameD v
theorem ok_wrong_frame (T : Tx mg) (Mh : MostH mg) (F : Fn K mg "wrong_frame" s_wrong_frame ["value"]) (C : Ca P w K mg base 1 "is_number" ["value", "least", "most"] (spD K R_is_number)) : Ca P w K mg base 2 "wrong_frame" ["value"] (spD K R_wrong_frame) := by
  have S := sc_wrong_frame
  refine ca_Er F S (fun ds d ⟨v, e, _⟩ => by rw [e]; rfl) fun f cdv A outer s H E ds d hr ⟨v, e1, hv, e2⟩ => ?_
  obtain ⟨tm, hmo⟩ := Mh
  subst e1 e2
  by_cases hT : ∃ xs, v = .tuple xs
  · obtain ⟨xs, rfl⟩ := hT
    by_cases h2 : xs.length = 2
    · obtain ⟨x, y, rfl⟩ : ∃ x y, xs = [x, y] := by
        match xs, h2 with
        | [x, y], _ => exact ⟨x, y, rfl⟩
      have hx := sh_dict (sh_item hv (show x ∈ [x, y] by simp))
      refine er_ifF (et_is (et_w (ew_or (et_not (et_val (ee_isi T.isinstance T.tuple bt_tuple (ee_var 0) (sh_dict hv) (kit_tuple _)))) fun _ => (ew_or1 (et_neD hr (ee_len T.len (ea_cons (ee_var 0) ea_nil) rfl) ee_int (sh_int _) (sh_int _))))) (by rw [int_eqv]; rfl)) ?_
      cases hn : isNum x 1 9 with
      | true =>
        rw [show frameD (.tuple [x, y]) = .none from if_pos hn]
        exact er_ifF (et_is (et_not (et_val (ee_ca C hr (ea_cons (ee_ixT (ee_var 0) ee_int rfl) (ea_cons ee_int (ea_cons (ee_gint hmo ⟨_, rfl⟩) ea_nil))) ⟨x, 1, 9, rfl, hx, rfl⟩))) (by rw [hn]; rfl)) (er_ret ee_non)
      | false =>
        rw [show frameD (.tuple [x, y]) = .str "halls" from if_neg (by rw [hn]; decide)]
        exact er_ifT (et_is (et_not (et_val (ee_ca C hr (ea_cons (ee_ixT (ee_var 0) ee_int rfl) (ea_cons ee_int (ea_cons (ee_gint hmo ⟨_, rfl⟩) ea_nil))) ⟨x, 1, 9, rfl, hx, rfl⟩))) (by rw [hn]; rfl)) (er_ret ee_str)
    · have e : frameD (.tuple xs) = .str "whole" := by
        match xs, h2 with
        | [], _ => rfl
        | [_], _ => rfl
        | [_, _], h2 => exact absurd rfl h2
        | _ :: _ :: _ :: _, _ => rfl
      rw [e]
      refine er_ifT (et_is (q := true) (et_w (ew_or (et_not (et_val (ee_isi T.isinstance T.tuple bt_tuple (ee_var 0) (sh_dict hv) (kit_tuple _)))) fun _ => (ew_or1 (et_neD hr (ee_len T.len (ea_cons (ee_var 0) ea_nil) rfl) ee_int (sh_int _) (sh_int _))))) ?_) (er_ret ee_str)
      rw [int_eqv, decide_eq_false (fun z => h2 (by omega))]
      simp
  · have e : frameD v = .str "whole" := by
      cases v <;> first | rfl | exact absurd ⟨_, rfl⟩ hT
    rw [e]
    have e3 : isTupD v = false := by
      cases v <;> first | rfl | exact absurd ⟨_, rfl⟩ hT
    exact er_ifT (et_is (p := !isTupD v || true) (et_w (ew_or (et_not (et_val (ee_isi T.isinstance T.tuple bt_tuple (ee_var 0) (sh_dict hv) (kit_tuple _)))) fun z => absurd z (by rw [e3]; decide))) (by simp)) (er_ret ee_str)
end
end DL
end

section
namespace DL
open PySem PySem.Spec PyProof.Rows L2 RM
abbrev N_is_turn : List Str := ["value", "hall"]
abbrev N_check_turn : List Str := ["value"]
section
variable {P : Program} {w : World} {K : PySem.W.Frag} {mg : Str → Option Value} {base : Heap}
/-- is_turn: of a turn -/
def R_is_turn (ds : List PyData) (d : PyData) : Prop := ∃ t : List Nat, IsTurn t ∧ ds = [tn t] ∧ d = .bool true
theorem isNum_iN {n : Nat} {a x : Int} (h1 : a ≤ n) (h2 : (n : Int) ≤ x) : isNum (iN n) a x = true := by
  show (decide (a ≤ n) && decide ((n : Int) ≤ x)) = true
  rw [decide_eq_true (by omega), decide_eq_true (by omega)]; rfl
def R_check_turn (ds : List PyData) (d : PyData) : Prop := ∃ t : List Nat, IsTurn t ∧ ds = [tn t] ∧ d = .none
theorem ways_good {n : Nat} {S : List (Nat × Nat)} (ha : S.Pairwise fun a b => pLt a b = true) (h : ∀ p ∈ S, p.1 < n ∧ p.2 < n ∧ p.1 ≠ p.2) : areWaysD (rN S) (n : Int) = true := by
  show (List.range (S.map pN).length).all (okWay (S.map pN) n) = true
  rw [List.length_map, List.all_eq_true]
  intro i hi
  have hi := List.mem_range.mp hi
  have gi : ∀ j (hj : j < S.length), (S.map pN).getD j .none = pN S[j] := fun j hj => by
    rw [List.getD_eq_getElem?_getD, List.getElem?_map, List.getElem?_eq_getElem hj]; rfl
  unfold okWay
  rw [gi i hi]
  obtain ⟨m1, m2, m3⟩ := h _ (List.getElem_mem hi)
  have e1 : isWayD (pN S[i]) n = true := by
    show (isNum (iN S[i].1) 0 ((n : Int) - 1) && (isNum (iN S[i].2) 0 ((n : Int) - 1) && !PyData.eqv (iN S[i].1) (iN S[i].2))) = true
    rw [isNum_iN (by omega) (by omega), isNum_iN (by omega) (by omega), iN_eqv, decide_eq_false m3]; rfl
  rw [e1, Bool.true_and]
  by_cases h0 : i = 0
  · subst h0; rfl
  · rw [gi (i - 1) (by omega), lt_pN, (List.pairwise_iff_getElem.mp ha) (i - 1) i (by omega) hi (by omega), Bool.or_true]
theorem frame_good {n : Nat} {x : PyData} (h1 : 1 ≤ n) (h9 : n ≤ 9) : frameD (.tuple [iN n, x]) = .none := by
  show (if isNum (iN n) 1 9 = true then _ else _) = _
  rw [if_pos (isNum_iN (by omega) (by omega))]
theorem at_get {t : List Nat} {x : Nat} (hx : x < t.length) : atI (t.map iN) (x : Int) = some (iN (at_ t x)) := atI_map (by
  unfold at_
  rw [List.getD_eq_getElem?_getD, List.getElem?_eq_getElem hx]; rfl)
def lI (r : List Nat) : PyData := .list (r.map iN)
def lP (r : List (Nat × Nat)) : PyData := .list (r.map pN)
theorem itr_lt {t : List Nat} (ht : IsTurn t) {x : Nat} (hx : x < t.length) (n : Nat) : itr (at_ t) n x < t.length := List.mem_range.mp (itr_mem (at_mem ht) (List.mem_range.mpr hx) n)
theorem ringN_succ {α : Type} (f : α → α) (a : α) (n : Nat) : ringN f a (n + 1) = ringN f a n ++ [itr f n a] := by
  unfold ringN
  rw [List.range_succ, List.map_append]; rfl
theorem fmod_iN (n k : Nat) : (n : Int).fmod (k : Int) = ((n % k : Nat) : Int) := by
  rw [Int.fmod_eq_emod_of_nonneg _ (by omega)]; rfl
end
end DL
end

section
/-! The drawing of numbers. -/
namespace RM
structure Rw where
  ns : List Int
  i : Int
  r : Int
  c : Int
def takenM (m : Int) (R : Rw) : Int × Rw :=
  if 0 < R.c then (R.c.fmod m, { R with c := R.c.fdiv m })
  else if (R.ns.length : Int) < R.i + 1 then ((((R.r * 48271 + 11).fmod 2147483647).fdiv 7).fmod m, { R with i := R.i + 1, r := (R.r * 48271 + 11).fmod 2147483647 })
  else ((R.ns.getD R.i.toNat 0).fmod m, { R with i := R.i + 1, r := (R.r * 48271 + R.ns.getD R.i.toNat 0 + 11).fmod 2147483647, c := if 10 ^ 18 ≤ R.ns.getD R.i.toNat 0 then (R.ns.getD R.i.toNat 0).fdiv m else R.c })
theorem taken_i {m : Int} {R : Rw} (h : 0 ≤ R.i) : 0 ≤ (takenM m R).2.i := by
  unfold takenM
  split
  · exact h
  · split
    · show 0 ≤ R.i + 1; omega
    · show 0 ≤ R.i + 1; omega
theorem fmod_range {a m : Int} (h : 0 < m) : 0 ≤ a.fmod m ∧ a.fmod m < m := ⟨Int.fmod_nonneg_of_pos a h, Int.fmod_lt_of_pos a h⟩
theorem taken_lt {m : Int} {R : Rw} (h : 0 < m) : 0 ≤ (takenM m R).1 ∧ (takenM m R).1 < m := by
  unfold takenM
  split
  · exact fmod_range h
  · split <;> exact fmod_range h
end RM
namespace RM
def pairsTo (n i : Nat) : List (Nat × Nat) := (List.range i).flatMap fun x => (List.range (n - (x + 1))).map fun j => (x, x + 1 + j)
theorem pairsTo_succ (n i : Nat) : pairsTo n (i + 1) = pairsTo n i ++ (List.range (n - (i + 1))).map fun j => (i, i + 1 + j) := by
  unfold pairsTo
  rw [List.range_succ, List.flatMap_append]
  simp
def ledLot (t : List Nat) (S : List (Nat × Nat)) : List (Nat × Nat) := (S.map (ledPair t)).mergeSort (le_ pLt)
def leftLot (E S : List (Nat × Nat)) : List (Nat × Nat) := E.filter fun p => !decide (p ∈ S)
def allLots {α : Type} (E : List α) : List (List α) := E.foldl (fun F x => F ++ F.map fun l => l ++ [x]) [[]]
theorem allLots_len {α : Type} (E : List α) : (allLots E).length = 2 ^ E.length := by
  have go : ∀ (E : List α) (F : List (List α)), (E.foldl (fun F x => F ++ F.map fun l => l ++ [x]) F).length = F.length * 2 ^ E.length := by
    intro E
    induction E with
    | nil => intro F; simp
    | cons x E ih =>
      intro F
      rw [List.foldl_cons, ih, List.length_append, List.length_map, List.length_cons, Nat.pow_succ, ← Nat.two_mul, Nat.mul_comm 2 F.length, Nat.mul_assoc, Nat.mul_comm 2]
  unfold allLots
  rw [go]; simp
theorem sort_two (a b : Nat) : [a, b].mergeSort (le_ fun a b : Nat => decide (a < b)) = [min a b, max a b] := by
  have h : [min a b, max a b].Perm [a, b] := by
    by_cases h : a ≤ b
    · rw [Nat.min_eq_left h, Nat.max_eq_right h]
    · rw [Nat.min_eq_right (by omega), Nat.max_eq_left (by omega)]
      exact List.Perm.swap _ _ _
  rw [← sort_same ordN h]
  exact List.mergeSort_of_pairwise (by simp [le_]; omega)
end RM
namespace RM
theorem mem_lots_go {α : Type} : ∀ (E : List α) (F : List (List α)) (l : List α), l ∈ E.foldl (fun F x => F ++ F.map fun l => l ++ [x]) F ↔ ∃ l0 ∈ F, ∃ s : List α, s.Sublist E ∧ l = l0 ++ s
  | [], F, l => by
    constructor
    · intro h; exact ⟨l, h, [], .slnil, by simp⟩
    · rintro ⟨l0, h, s, hs, rfl⟩
      cases hs
      simpa using h
  | x :: E, F, l => by
    rw [List.foldl_cons, mem_lots_go E]
    constructor
    · rintro ⟨l0, h, s, hs, rfl⟩
      rcases List.mem_append.mp h with h | h
      · exact ⟨l0, h, s, .cons x hs, rfl⟩
      · obtain ⟨l1, h1, rfl⟩ := List.mem_map.mp h
        exact ⟨l1, h1, x :: s, .cons_cons x hs, by simp⟩
    · rintro ⟨l0, h, s, hs, rfl⟩
      cases hs with
      | cons _ hs => exact ⟨l0, List.mem_append_left _ h, s, hs, rfl⟩
      | cons_cons _ hs => exact ⟨l0 ++ [x], List.mem_append_right _ (List.mem_map.mpr ⟨l0, h, rfl⟩), _, hs, by simp⟩
theorem mem_lots {α : Type} {E l : List α} : l ∈ allLots E ↔ l.Sublist E := by
  unfold allLots
  rw [mem_lots_go]
  constructor
  · rintro ⟨l0, h, s, hs, rfl⟩
    rw [List.mem_singleton.mp h]; exact hs
  · intro h
    exact ⟨[], List.mem_singleton.mpr rfl, l, h, rfl⟩
end RM
end

section
/-! The law's own walks round the rings of pairs. -/
namespace RM
def wStep (t : List Nat) : List (Nat × Nat) → List (Nat × Nat)
  | [] => []
  | p :: r => (p :: r).filter fun x => !decide (x ∈ pRing t p)
def wLeft (t : List Nat) (E : List (Nat × Nat)) : Nat → List (Nat × Nat)
  | 0 => E
  | i + 1 => wStep t (wLeft t E i)
def wHead (t : List Nat) (E : List (Nat × Nat)) (i : Nat) : Nat × Nat := (wLeft t E i).headD (0, 0)
def wSizes (t : List Nat) (E : List (Nat × Nat)) (i : Nat) : List Nat := (List.range i).map fun j => (pRing t (wHead t E j)).length
/-- n turns of the walk leave nothing -/
def WEnd (t : List Nat) (E : List (Nat × Nat)) (n : Nat) : Prop := wLeft t E n = [] ∧ ∀ i, i < n → wLeft t E i ≠ []
theorem wStep_sub (t : List Nat) (L : List (Nat × Nat)) : (wStep t L).Sublist L := by
  cases L with
  | nil => exact List.Sublist.refl _
  | cons p r => exact List.filter_sublist ..
theorem wLeft_sub (t : List Nat) (E : List (Nat × Nat)) : ∀ i, (wLeft t E i).Sublist E
  | 0 => List.Sublist.refl _
  | i + 1 => (wStep_sub t _).trans (wLeft_sub t E i)
theorem wHead_mem {t : List Nat} {E : List (Nat × Nat)} {i : Nat} (h : wLeft t E i ≠ []) : ∃ r, wLeft t E i = wHead t E i :: r := by
  unfold wHead
  cases e : wLeft t E i with
  | nil => exact absurd e h
  | cons p r => exact ⟨r, rfl⟩
theorem wSizes_succ (t : List Nat) (E : List (Nat × Nat)) (i : Nat) : wSizes t E (i + 1) = wSizes t E i ++ [(pRing t (wHead t E i)).length] := by
  unfold wSizes
  rw [List.range_succ, List.map_append]; rfl
theorem wStep_lt {t : List Nat} {L : List (Nat × Nat)} (h : L ≠ []) : (wStep t L).length < L.length := by
  cases L with
  | nil => exact absurd rfl h
  | cons p r =>
    obtain ⟨q, e⟩ := pRing_ne t p
    have : (!decide (p ∈ pRing t p)) = false := by
      rw [e]; simp
    rw [wStep, List.filter_cons, this, if_neg (by decide), List.length_cons]
    have := List.length_filter_le (fun x => !decide (x ∈ pRing t p)) r
    omega
theorem wEnd_ex (t : List Nat) (E : List (Nat × Nat)) : ∃ n, WEnd t E n := by
  have h : ∀ i, (∀ j, j < i → wLeft t E j ≠ []) → (wLeft t E i).length + i ≤ E.length := by
    intro i
    induction i with
    | zero => intro _; exact Nat.le_refl _
    | succ i ih =>
      intro hj
      have h1 := ih fun j h => hj j (by omega)
      have h2 := wStep_lt (t := t) (hj i (Nat.lt_succ_self i))
      show (wStep t (wLeft t E i)).length + (i + 1) ≤ _
      omega
  apply Classical.byContradiction
  intro hn
  have key : ∀ i, wLeft t E i ≠ [] := by
    intro i
    induction i using Nat.strongRecOn with
    | ind i ih => exact fun e => hn ⟨i, e, ih⟩
  have := h (E.length + 1) fun j _ => key j
  omega
end RM
namespace RM
theorem wLeft_len (t : List Nat) (E : List (Nat × Nat)) (i : Nat) (hj : ∀ j, j < i → wLeft t E j ≠ []) : (wLeft t E i).length + i ≤ E.length := by
  induction i with
  | zero => exact Nat.le_refl _
  | succ i ih =>
    have h1 := ih fun j h => hj j (by omega)
    have h2 := wStep_lt (t := t) (hj i (Nat.lt_succ_self i))
    show (wStep t (wLeft t E i)).length + (i + 1) ≤ _
    omega
theorem mem_ringN {α : Type} {f : α → α} {a b : α} {n : Nat} : b ∈ ringN f a n ↔ ∃ k, k < n ∧ itr f k a = b := by
  unfold ringN
  rw [List.mem_map]
  constructor
  · rintro ⟨k, hk, e⟩
    exact ⟨k, List.mem_range.mp hk, e⟩
  · rintro ⟨k, hk, e⟩
    exact ⟨k, List.mem_range.mpr hk, e⟩
theorem per_ne {α : Type} {f : α → α} {a : α} {n : Nat} {L : List α} (h : ∀ x ∈ L, f x ∈ L) (hi : ∀ x ∈ L, ∀ y ∈ L, f x = f y → x = y) (ha : a ∈ L) (hp : IsPer f a n) {j k : Nat} (hjk : j < k) (hk : k < n) : itr f j a ≠ itr f k a := fun e => by
  rw [show k = j + (k - j) by omega, itr_add] at e
  exact hp.2.2 (k - j) (by omega) (by omega) (itr_inj h hi ha (itr_mem h ha _) j e).symm
theorem per_notin {α : Type} {f : α → α} {a : α} {n : Nat} {L : List α} (h : ∀ x ∈ L, f x ∈ L) (hi : ∀ x ∈ L, ∀ y ∈ L, f x = f y → x = y) (ha : a ∈ L) (hp : IsPer f a n) {k : Nat} (hk : k < n) : itr f k a ∉ ringN f a k := fun hm => by
  obtain ⟨j, hj, e⟩ := mem_ringN.mp hm
  exact per_ne h hi ha hp hj hk e
theorem per_in {α : Type} {f : α → α} {a : α} {n : Nat} (hp : IsPer f a n) : itr f n a ∈ ringN f a n := mem_ringN.mpr ⟨0, hp.1, hp.2.1.symm⟩
end RM
end

section
/-! A turn with rings of some lengths. -/
namespace RM
theorem cons_erase {α : Type} {l : List α} {j : Nat} (h : j < l.length) : (l[j] :: l.eraseIdx j).Perm l := by
  rw [List.eraseIdx_eq_take_drop_succ]
  have : l = l.take j ++ l[j] :: l.drop (j + 1) := by
    rw [List.getElem_cons_drop, List.take_append_drop]
  have h2 := (List.perm_middle (a := l[j]) (l₁ := l.take j) (l₂ := l.drop (j + 1))).symm
  rw [← this] at h2
  exact h2
def ringIn (names : List Nat) (at0 len : Nat) : Nat → List Nat → List Nat
  | 0, f => f
  | k + 1, f => (ringIn names at0 len k f).set (at_ names (at0 + k)) (at_ names (at0 + (k + 1) % len))
def ringOut (names : List Nat) : List Nat → Nat → List Nat → List Nat
  | [], _, f => f
  | l :: ls, a, f => ringOut names ls (a + l) (ringIn names a l l f)
def ringedM (names lens : List Nat) : List Nat := ringOut names lens 0 (List.replicate lens.sum 0)
theorem ringIn_len (names : List Nat) (a len : Nat) (f : List Nat) : ∀ k, (ringIn names a len k f).length = f.length
  | 0 => rfl
  | k + 1 => by rw [ringIn, List.length_set, ringIn_len names a len f k]
theorem ringOut_len (names : List Nat) : ∀ (ls : List Nat) (a : Nat) (f : List Nat), (ringOut names ls a f).length = f.length
  | [], _, _ => rfl
  | l :: ls, a, f => by rw [ringOut, ringOut_len names ls, ringIn_len]
theorem ringOut_snoc (names : List Nat) : ∀ (ls : List Nat) (l a : Nat) (f : List Nat), ringOut names (ls ++ [l]) a f = ringIn names (a + ls.sum) l l (ringOut names ls a f)
  | [], l, a, f => by simp [ringOut]
  | m :: ls, l, a, f => by
    rw [List.cons_append, ringOut, ringOut_snoc names ls, ringOut, List.sum_cons, Nat.add_assoc]
end RM
end

section
/-! What the law asks of a turn, in plain Lean. -/
namespace RM
def dueM (t : List Nat) : List (List (Nat × Nat)) := (allLots (allPairs t.length)).filter fun l => decide (ledLot t l = leftLot (allPairs t.length) l)
def leadsB (t : List Nat) (S : List (Nat × Nat)) : Bool := (allPairs t.length).all fun p => decide (p ∈ S) != decide (ledPair t p ∈ S)
structure LawK01 (t : List Nat) : Prop where
  rings20 : (pairRingsM t).length ≤ 20
  can : canLeadM t = decide (dueM t ≠ [])
  count : countLedM t = (dueM t).length
  nets : ledNetsM t = (dueM t).mergeSort (le_ (rLt pLt))
  walks : ∀ n, WEnd t (allPairs t.length) n → (pairRingsM t).length = (wSizes t (allPairs t.length) n).length
  even : ∀ n, WEnd t (allPairs t.length) n → decide (dueM t ≠ []) = decide ((wSizes t (allPairs t.length) n).filter (fun z => decide (z % 2 = 1)) = [])
  sum : (ringsM t).sum = t.length
  ones : (ringsM t).countP (fun z => decide (z = 1)) = ((List.range t.length).filter fun x => decide (at_ t x = x)).length
  odd : decide (dueM t ≠ []) = (decide ((ringsM t).countP (fun z => decide (z = 1)) < 2) && decide ((ringsM t).filter (fun z => decide (z % 4 ≠ 0) && decide (z ≠ 1)) = []))
  leads : ∀ l ∈ allLots (allPairs t.length), leadsB t l = decide (l ∈ dueM t)
  one : canLeadM t = true → ledNetM t ∈ dueM t
end RM
end

section
/-! Halves of rings: which lots a turn leads to what they leave out. -/
namespace RM
theorem allPairs_nodup (n : Nat) : (allPairs n).Nodup := asc_nodup ordP (allPairs_asc n)
/-- an ascending row whose things stand in another one is a part of it -/
theorem asc_sub {S E : List (Nat × Nat)} (hS : S.Pairwise fun a b => pLt a b = true) (hE : E.Pairwise fun a b => pLt a b = true) (h : ∀ x ∈ S, x ∈ E) : S.Sublist E := by
  have hf : (E.filter fun x => decide (x ∈ S)).Pairwise fun a b => pLt a b = true := hE.sublist List.filter_sublist
  have hp : S.Perm (E.filter fun x => decide (x ∈ S)) := by
    rw [List.perm_ext_iff_of_nodup (asc_nodup ordP hS) (asc_nodup ordP hf)]
    intro a
    rw [List.mem_filter, decide_eq_true_iff]
    exact ⟨fun ha => ⟨h a ha, ha⟩, fun ha => ha.2⟩
  have e1 := sort_is ordP hp hS
  have e2 := List.mergeSort_of_pairwise (le_of_lt ordP hf)
  rw [e2] at e1
  rw [← e1]
  exact List.filter_sublist
theorem lots_nodup_go {α : Type} : ∀ (E : List α) (F : List (List α)), E.Nodup → F.Nodup → (∀ l ∈ F, ∀ x ∈ E, x ∉ l) → (E.foldl (fun F x => F ++ F.map fun l => l ++ [x]) F).Nodup
  | [], F, _, hF, _ => hF
  | x :: E, F, hE, hF, hd => by
    rw [List.foldl_cons]
    obtain ⟨hx, hE'⟩ := List.nodup_cons.mp hE
    refine lots_nodup_go E _ hE' ?_ ?_
    · rw [List.nodup_append]
      refine ⟨hF, ?_, ?_⟩
      · rw [List.nodup_iff_pairwise_ne, List.pairwise_map]
        refine (List.nodup_iff_pairwise_ne.mp hF).imp fun {a b} h e => h ?_
        exact List.append_cancel_right e
      · intro a ha b hb e
        obtain ⟨l, hl, rfl⟩ := List.mem_map.mp hb
        exact hd a ha x List.mem_cons_self (by rw [e]; simp)
    · intro l hl y hy
      rcases List.mem_append.mp hl with h | h
      · exact hd l h y (List.mem_cons_of_mem _ hy)
      · obtain ⟨l0, h0, rfl⟩ := List.mem_map.mp h
        intro hm
        rcases List.mem_append.mp hm with h1 | h1
        · exact hd l0 h0 y (List.mem_cons_of_mem _ hy) h1
        · rw [List.mem_singleton.mp h1] at hy; exact hx hy
theorem allLots_nodup {α : Type} {E : List α} (h : E.Nodup) : (allLots E).Nodup := lots_nodup_go E [[]] h (by simp) (fun l hl x _ => by rw [List.mem_singleton.mp hl]; simp)
/-- f is one to one on all pairs, and onto -/
theorem led_onto {t : List Nat} (ht : IsTurn t) {x : Nat × Nat} (hx : x ∈ allPairs t.length) : ∃ p ∈ allPairs t.length, ledPair t p = x := by
  have hn : ((allPairs t.length).map (ledPair t)).Nodup := by
    rw [List.nodup_iff_pairwise_ne, List.pairwise_map]
    have := List.nodup_iff_pairwise_ne.mp (allPairs_nodup t.length)
    exact this.imp_of_mem fun {a b} ha hb h e => h (led_inj ht a ha b hb e)
  apply Classical.byContradiction
  intro hc
  have h2 : (x :: (allPairs t.length).map (ledPair t)).Nodup := List.nodup_cons.mpr ⟨fun h => by
    obtain ⟨p, hp, e⟩ := List.mem_map.mp h
    exact hc ⟨p, hp, e⟩, hn⟩
  have h3 := h2.length_le_of_subset (l₂ := allPairs t.length) fun y hy => by
    rcases List.mem_cons.mp hy with e | e
    · rw [e]; exact hx
    · obtain ⟨p, hp, rfl⟩ := List.mem_map.mp e
      exact led_mem ht p hp
  rw [List.length_cons, List.length_map] at h3
  omega
/-- S changes along f -/
def Alt (t : List Nat) (S : List (Nat × Nat)) : Prop := ∀ p ∈ allPairs t.length, (p ∈ S ↔ ledPair t p ∉ S)
theorem leadsB_iff {t : List Nat} {S : List (Nat × Nat)} : leadsB t S = true ↔ Alt t S := by
  unfold leadsB Alt
  rw [List.all_eq_true]
  constructor
  · intro h p hp
    have := h p hp
    by_cases h1 : p ∈ S <;> by_cases h2 : ledPair t p ∈ S <;> simp [h1, h2] at this ⊢
  · intro h p hp
    have := h p hp
    by_cases h1 : p ∈ S <;> by_cases h2 : ledPair t p ∈ S <;> simp [h1, h2] at this ⊢
theorem due_iff {t : List Nat} (ht : IsTurn t) {l : List (Nat × Nat)} (hl : l ∈ allLots (allPairs t.length)) : ledLot t l = leftLot (allPairs t.length) l ↔ Alt t l := by
  have hs := mem_lots.mp hl
  have hsub := hs.subset
  have hln := (allPairs_nodup t.length).sublist hs
  have hmem : ∀ x, x ∈ ledLot t l ↔ ∃ q ∈ l, ledPair t q = x := fun x => by
    unfold ledLot
    rw [List.mem_mergeSort, List.mem_map]
  have hleft : ∀ x, x ∈ leftLot (allPairs t.length) l ↔ x ∈ allPairs t.length ∧ x ∉ l := fun x => by
    unfold leftLot
    rw [List.mem_filter]
    simp
  constructor
  · intro e p hp
    constructor
    · intro h1 h2
      have : ledPair t p ∈ leftLot (allPairs t.length) l := by rw [← e]; exact (hmem _).mpr ⟨p, h1, rfl⟩
      exact ((hleft _).mp this).2 h2
    · intro h1
      have : ledPair t p ∈ ledLot t l := by rw [e]; exact (hleft _).mpr ⟨led_mem ht p hp, h1⟩
      obtain ⟨q, hq, eq⟩ := (hmem _).mp this
      rw [← led_inj ht q (hsub hq) p hp eq]; exact hq
  · intro ha
    have hp : (leftLot (allPairs t.length) l).Perm (l.map (ledPair t)) := by
      have n1 : (leftLot (allPairs t.length) l).Nodup := (allPairs_nodup t.length).sublist List.filter_sublist
      have n2 : (l.map (ledPair t)).Nodup := by
        rw [List.nodup_iff_pairwise_ne, List.pairwise_map]
        exact (List.nodup_iff_pairwise_ne.mp hln).imp_of_mem fun {a b} ha hb h e => h (led_inj ht a (hsub ha) b (hsub hb) e)
      rw [List.perm_ext_iff_of_nodup n1 n2]
      intro x
      rw [hleft, List.mem_map]
      constructor
      · rintro ⟨hx, hxl⟩
        obtain ⟨p, hp, rfl⟩ := led_onto ht hx
        exact ⟨p, (ha p hp).mpr hxl, rfl⟩
      · rintro ⟨p, hp, rfl⟩
        exact ⟨led_mem ht p (hsub hp), (ha p (hsub hp)).mp hp⟩
    exact sort_is ordP hp ((allPairs_asc t.length).sublist List.filter_sublist)
theorem mem_due {t : List Nat} (ht : IsTurn t) {l : List (Nat × Nat)} : l ∈ dueM t ↔ l ∈ allLots (allPairs t.length) ∧ Alt t l := by
  unfold dueM
  rw [List.mem_filter]
  constructor
  · rintro ⟨h1, h2⟩; exact ⟨h1, (due_iff ht h1).mp (of_decide_eq_true h2)⟩
  · rintro ⟨h1, h2⟩; exact ⟨h1, decide_eq_true ((due_iff ht h1).mpr h2)⟩
/-! along a ring -/
theorem alt_itr {t : List Nat} (ht : IsTurn t) {S : List (Nat × Nat)} (ha : Alt t S) {p : Nat × Nat} (hp : p ∈ allPairs t.length) : ∀ k, (itr (ledPair t) k p ∈ S ↔ (p ∈ S ↔ k % 2 = 0))
  | 0 => by show p ∈ S ↔ _; simp
  | k + 1 => by
    have h1 := ha _ (itr_mem (led_mem ht) hp k)
    have h2 := alt_itr ht ha hp k
    show ledPair t (itr (ledPair t) k p) ∈ S ↔ _
    have h3 : (k + 1) % 2 = 0 ↔ ¬ k % 2 = 0 := by omega
    rw [h3]
    by_cases a : p ∈ S <;> by_cases b : k % 2 = 0 <;> by_cases c : itr (ledPair t) k p ∈ S <;> by_cases d : ledPair t (itr (ledPair t) k p) ∈ S <;> simp [a, b, c, d] at h1 h2 ⊢
theorem alt_even {t : List Nat} (ht : IsTurn t) {S : List (Nat × Nat)} (ha : Alt t S) {p : Nat × Nat} (hp : p ∈ allPairs t.length) : pPer t p % 2 = 0 := by
  have h1 := alt_itr ht ha hp (pPer t p)
  rw [(pPer_is ht hp).1.2.1] at h1
  by_cases a : p ∈ S <;> by_cases b : pPer t p % 2 = 0 <;> simp [a, b] at h1 ⊢
theorem itr_mul {α : Type} {f : α → α} {a : α} {k : Nat} (h : itr f k a = a) : ∀ m r, itr f (k * m + r) a = itr f r a
  | 0, r => by rw [Nat.mul_zero, Nat.zero_add]
  | m + 1, r => by rw [Nat.mul_succ, Nat.add_assoc, Nat.add_comm k r, ← Nat.add_assoc, itr_add, h, itr_mul h m r]
theorem itr_mod {α : Type} {f : α → α} {a : α} {k : Nat} (h : IsPer f a k) (n : Nat) : itr f n a = itr f (n % k) a := by
  conv => lhs; rw [← Nat.div_add_mod n k]
  exact itr_mul h.2.1 _ _
theorem mem_pRing {t : List Nat} (ht : IsTurn t) {p x : Nat × Nat} (hp : p ∈ allPairs t.length) : x ∈ pRing t p ↔ ∃ k, itr (ledPair t) k p = x := by
  have hper := (pPer_is ht hp).1
  unfold pRing
  rw [mem_ringN]
  constructor
  · rintro ⟨k, _, e⟩; exact ⟨k, e⟩
  · rintro ⟨k, e⟩
    exact ⟨k % pPer t p, Nat.mod_lt _ hper.1, by rw [← itr_mod hper]; exact e⟩
theorem ring_sym {t : List Nat} (ht : IsTurn t) {p x : Nat × Nat} (hp : p ∈ allPairs t.length) (h : x ∈ pRing t p) : p ∈ pRing t x := by
  have hper := (pPer_is ht hp).1
  have hx : x ∈ allPairs t.length := by
    obtain ⟨k, rfl⟩ := (mem_pRing ht hp).mp h
    exact itr_mem (led_mem ht) hp k
  obtain ⟨k, hk, e⟩ := mem_ringN.mp h
  refine (mem_pRing ht hx).mpr ⟨pPer t p - k, ?_⟩
  rw [← e, ← itr_add, show pPer t p - k + k = pPer t p by omega]
  exact hper.2.1
theorem ring_trans {t : List Nat} (ht : IsTurn t) {p x y : Nat × Nat} (hp : p ∈ allPairs t.length) (h : x ∈ pRing t p) (h2 : y ∈ pRing t x) : y ∈ pRing t p := by
  obtain ⟨k, rfl⟩ := (mem_pRing ht hp).mp h
  obtain ⟨j, rfl⟩ := (mem_pRing ht (itr_mem (led_mem ht) hp k)).mp h2
  exact (mem_pRing ht hp).mpr ⟨j + k, itr_add j k⟩
theorem ring_in {t : List Nat} (ht : IsTurn t) {p x : Nat × Nat} (hp : p ∈ allPairs t.length) (h : x ∈ pRing t p) : x ∈ allPairs t.length := by
  obtain ⟨k, rfl⟩ := (mem_pRing ht hp).mp h
  exact itr_mem (led_mem ht) hp k
theorem pRing_nodup {t : List Nat} (ht : IsTurn t) {p : Nat × Nat} (hp : p ∈ allPairs t.length) : (pRing t p).Nodup := by
  unfold pRing ringN
  rw [List.nodup_iff_pairwise_ne, List.pairwise_map]
  have := List.pairwise_lt_range (n := pPer t p)
  exact this.imp_of_mem fun {a b} ha hb h => per_ne (led_mem ht) (led_inj ht) hp (pPer_is ht hp).1 h (List.mem_range.mp hb)
/-! the least of a ring -/
theorem least_spec {α : Type} {lt : α → α → Bool} (o : Ordd lt) : ∀ (xs : List α) (x : α), (leastOf lt x xs = x ∨ leastOf lt x xs ∈ xs) ∧ lt x (leastOf lt x xs) = false ∧ ∀ y ∈ xs, lt y (leastOf lt x xs) = false
  | [], x => ⟨.inl rfl, o.ir x, fun _ h => by cases h⟩
  | y :: ys, x => by
    show (leastOf lt (if lt y x = true then y else x) ys = x ∨ _) ∧ _
    have e : leastOf lt x (y :: ys) = leastOf lt (if lt y x = true then y else x) ys := rfl
    rw [e]
    obtain ⟨h1, h2, h3⟩ := least_spec o ys (if lt y x = true then y else x)
    cases hy : lt y x with
    | true =>
      rw [hy] at h1 h2 h3
      rw [if_pos rfl] at h1 h2 h3 ⊢
      refine ⟨h1.elim (fun h => .inr (by rw [h]; exact List.mem_cons_self)) (fun h => .inr (List.mem_cons_of_mem _ h)), ?_, ?_⟩
      · cases hh : lt x (leastOf lt y ys) with
        | false => rfl
        | true => rw [o.tr _ _ _ hy hh] at h2; cases h2
      · intro z hz
        rcases List.mem_cons.mp hz with h | h
        · rw [h]; exact h2
        · exact h3 z h
    | false =>
      rw [hy] at h1 h2 h3
      rw [if_neg (by decide)] at h1 h2 h3 ⊢
      refine ⟨h1.imp id (List.mem_cons_of_mem _), h2, ?_⟩
      intro z hz
      rcases List.mem_cons.mp hz with h | h
      · rw [h]
        cases hh : lt y (leastOf lt x ys) with
        | false => rfl
        | true =>
          have h5 := o.letr x (leastOf lt x ys) x
          rcases h1 with h6 | h6
          · rw [h6] at hh; rw [hh] at hy; cases hy
          · have h7 := h2
            cases h8 : lt (leastOf lt x ys) x with
            | true => rw [o.tr _ _ _ hh h8] at hy; cases hy
            | false => rw [← o.tri _ _ h7 h8] at hh; rw [hh] at hy; cases hy
      · exact h3 z h
theorem headMin_spec {t : List Nat} {p : Nat × Nat} : headMin pLt (pRing t p) = true ↔ ∀ y ∈ pRing t p, pLt y p = false := by
  obtain ⟨r, e⟩ := pRing_ne t p
  rw [e]
  obtain ⟨h1, h2, h3⟩ := least_spec ordP r p
  show decide (p = leastOf pLt p r) = true ↔ _
  rw [decide_eq_true_iff]
  constructor
  · intro h y hy
    rcases List.mem_cons.mp hy with e | e
    · rw [e]; exact ordP.ir p
    · rw [h]; rw [← h]; have := h3 y e; rw [← h] at this; exact this
  · intro h
    refine ordP.tri _ _ h2 ?_
    rcases h1 with e | e
    · rw [e]; exact ordP.ir p
    · exact h _ (List.mem_cons_of_mem _ e)
/-- every pair stands in just one of the rings that begin with their least pair -/
theorem mem_rings {t : List Nat} {r : List (Nat × Nat)} : r ∈ pairRingsM t ↔ ∃ p ∈ allPairs t.length, pRing t p = r ∧ headMin pLt r = true := by
  unfold pairRingsM
  rw [List.mem_filter, List.mem_map]
  constructor
  · rintro ⟨⟨p, hp, e⟩, h⟩; exact ⟨p, hp, e, h⟩
  · rintro ⟨p, hp, e, h⟩; exact ⟨⟨p, hp, e⟩, h⟩
theorem cover {t : List Nat} (ht : IsTurn t) {x : Nat × Nat} (hx : x ∈ allPairs t.length) : ∃ p ∈ allPairs t.length, headMin pLt (pRing t p) = true ∧ x ∈ pRing t p := by
  obtain ⟨r, e⟩ := pRing_ne t x
  obtain ⟨h1, h2, h3⟩ := least_spec ordP r x
  have hm : leastOf pLt x r ∈ pRing t x := by
    rw [e]
    rcases h1 with h | h
    · rw [h]; exact List.mem_cons_self
    · exact List.mem_cons_of_mem _ h
  have hp := ring_in ht hx hm
  have hs := ring_sym ht hx hm
  refine ⟨_, hp, headMin_spec.mpr fun y hy => ?_, hs⟩
  have := ring_trans ht hx hm hy
  rw [e] at this
  rcases List.mem_cons.mp this with h | h
  · rw [h]; exact h2
  · exact h3 y h
theorem one_head {t : List Nat} (ht : IsTurn t) {p q x : Nat × Nat} (hp : p ∈ allPairs t.length) (hq : q ∈ allPairs t.length) (h1 : headMin pLt (pRing t p) = true) (h2 : headMin pLt (pRing t q) = true) (hx1 : x ∈ pRing t p) (hx2 : x ∈ pRing t q) : p = q := by
  have a : q ∈ pRing t p := ring_trans ht hp hx1 (ring_sym ht hq hx2)
  have b : p ∈ pRing t q := ring_sym ht hp a
  exact ordP.tri _ _ (headMin_spec.mp h2 _ b) (headMin_spec.mp h1 _ a)
end RM
end

section
/-! Halves of rings: the lots made of them. -/
namespace RM
theorem evens_at {α : Type} : ∀ (l : List α) (x : α), x ∈ evens l ↔ ∃ i, 2 * i < l.length ∧ l[2 * i]? = some x
  | [], x => by simp [evens]
  | [y], x => by
    show x ∈ [y] ↔ _
    rw [List.mem_singleton]
    constructor
    · rintro rfl; exact ⟨0, by simp, by simp⟩
    · rintro ⟨i, h, e⟩
      have : i = 0 := by simp at h; omega
      subst this
      simpa using e.symm
  | y :: z :: r, x => by
    show x ∈ y :: evens r ↔ _
    rw [List.mem_cons, evens_at r]
    constructor
    · rintro (rfl | ⟨i, h, e⟩)
      · exact ⟨0, by simp, by simp⟩
      · exact ⟨i + 1, by simp; omega, by rw [show 2 * (i + 1) = 2 * i + 1 + 1 by omega, List.getElem?_cons_succ, List.getElem?_cons_succ]; exact e⟩
    · rintro ⟨i, h, e⟩
      cases i with
      | zero => left; simpa using e.symm
      | succ i =>
        right
        rw [show 2 * (i + 1) = 2 * i + 1 + 1 by omega, List.getElem?_cons_succ, List.getElem?_cons_succ] at e
        exact ⟨i, by simp at h; omega, e⟩
theorem odds_at {α : Type} (l : List α) (x : α) : x ∈ odds l ↔ ∃ i, 2 * i + 1 < l.length ∧ l[2 * i + 1]? = some x := by
  unfold odds
  rw [evens_at]
  cases l with
  | nil => simp
  | cons y r =>
    constructor
    · rintro ⟨i, h, e⟩; exact ⟨i, by simp at h ⊢; omega, by rw [List.getElem?_cons_succ]; exact e⟩
    · rintro ⟨i, h, e⟩; exact ⟨i, by simp at h ⊢; omega, by rw [List.getElem?_cons_succ] at e; exact e⟩
theorem ring_at {α : Type} {f : α → α} {a : α} {n i : Nat} (h : i < n) : (ringN f a n)[i]? = some (itr f i a) := by
  unfold ringN
  rw [List.getElem?_map, List.getElem?_range h]; rfl
theorem evens_sub' {α : Type} : ∀ l : List α, (evens l).Sublist l
  | [] => .slnil
  | [x] => List.Sublist.refl _
  | x :: y :: r => .cons_cons x (.cons y (evens_sub' r))
theorem odds_sub' {α : Type} (l : List α) : (odds l).Sublist l := (evens_sub' _).trans (List.tail_sublist l)
/-- of a ring of an even length: which things stand in its first, in its second half -/
theorem half_even {t : List Nat} (ht : IsTurn t) {p : Nat × Nat} (hp : p ∈ allPairs t.length) (he : pPer t p % 2 = 0) (k : Nat) : (itr (ledPair t) k p ∈ evens (pRing t p) ↔ k % 2 = 0) ∧ (itr (ledPair t) k p ∈ odds (pRing t p) ↔ k % 2 = 1) := by
  have hper := (pPer_is ht hp).1
  have hlen : (pRing t p).length = pPer t p := ring_len
  have hk : k % pPer t p < pPer t p := Nat.mod_lt _ hper.1
  have hpar : (k % pPer t p) % 2 = k % 2 := by
    have h1 := Nat.div_add_mod k (pPer t p)
    have h2 : (pPer t p * (k / pPer t p)) % 2 = 0 := by rw [Nat.mul_mod, he, Nat.zero_mul]
    omega
  have uniq : ∀ i, i < pPer t p → itr (ledPair t) i p = itr (ledPair t) k p → i = k % pPer t p := fun i hi e => by
    rw [itr_mod hper k] at e
    apply Classical.byContradiction
    intro hne
    rcases Nat.lt_or_gt_of_ne hne with h | h
    · exact per_ne (led_mem ht) (led_inj ht) hp hper h hk e
    · exact per_ne (led_mem ht) (led_inj ht) hp hper h hi e.symm
  constructor
  · rw [evens_at, hlen]
    constructor
    · rintro ⟨i, hi, e⟩
      unfold pRing at e
      rw [ring_at hi] at e
      have := uniq _ hi (Option.some.inj e)
      omega
    · intro h
      refine ⟨k % pPer t p / 2, by omega, ?_⟩
      rw [show 2 * (k % pPer t p / 2) = k % pPer t p by omega]
      unfold pRing
      rw [ring_at hk, itr_mod hper k]
  · rw [odds_at, hlen]
    constructor
    · rintro ⟨i, hi, e⟩
      unfold pRing at e
      rw [ring_at hi] at e
      have := uniq _ hi (Option.some.inj e)
      omega
    · intro h
      refine ⟨k % pPer t p / 2, by omega, ?_⟩
      rw [show 2 * (k % pPer t p / 2) + 1 = k % pPer t p by omega]
      unfold pRing
      rw [ring_at hk, itr_mod hper k]
/-- a half, by a word -/
def half {α : Type} (b : Bool) (r : List α) : List α := if b = true then evens r else odds r
theorem half_sub {α : Type} (b : Bool) (r : List α) : (half b r).Sublist r := by
  cases b
  · exact odds_sub' r
  · exact evens_sub' r
/-- any choice of halves is a lot -/
theorem choice_go {α : Type} (c : List α → Bool) : ∀ (R : List (List α)) (L : List (List α)) (l : List α), l ∈ L → l ++ R.flatMap (fun r => half (c r) r) ∈ R.foldl lotsStep L
  | [], L, l, h => by simpa using h
  | r :: R, L, l, h => by
    rw [List.foldl_cons, List.flatMap_cons, ← List.append_assoc]
    refine choice_go c R (lotsStep L r) _ ?_
    unfold lotsStep
    rw [List.mem_flatMap]
    refine ⟨l, h, ?_⟩
    unfold half
    cases c r <;> simp
theorem choice_in {α : Type} (c : List α → Bool) (R : List (List α)) : R.flatMap (fun r => half (c r) r) ∈ lotsM R := by
  have := choice_go c R [[]] [] (List.mem_singleton.mpr rfl)
  rw [List.nil_append] at this
  exact this
/-- what a lot is, of rings that have nothing in common -/
def Good {α : Type} (R : List (List α)) (l : List α) : Prop := (∀ x ∈ l, ∃ r ∈ R, x ∈ r) ∧ l.Nodup ∧ ∀ r ∈ R, ∃ b, ∀ x ∈ r, (x ∈ l ↔ x ∈ half b r)
abbrev Apart {α : Type} (r s : List α) : Prop := ∀ x ∈ r, x ∉ s
theorem good_step {α : Type} {R' : List (List α)} {r l0 : List α} {b : Bool} (hg : Good R' l0) (hd : ∀ s ∈ R', Apart s r) (hr : r.Nodup) : Good (R' ++ [r]) (l0 ++ half b r) := by
  obtain ⟨g1, g2, g3⟩ := hg
  have hn : ∀ x ∈ l0, x ∉ r := fun x hx => let ⟨s, hs, h⟩ := g1 x hx; hd s hs x h
  refine ⟨fun x hx => ?_, ?_, fun s hs => ?_⟩
  · rcases List.mem_append.mp hx with h | h
    · obtain ⟨s, hs, h⟩ := g1 x h
      exact ⟨s, List.mem_append_left _ hs, h⟩
    · exact ⟨r, by simp, (half_sub b r).subset h⟩
  · rw [List.nodup_append]
    refine ⟨g2, hr.sublist (half_sub b r), fun x hx y hy e => hn x hx ?_⟩
    rw [e]; exact (half_sub b r).subset hy
  · rcases List.mem_append.mp hs with h | h
    · obtain ⟨c, hc⟩ := g3 s h
      refine ⟨c, fun x hx => ?_⟩
      rw [List.mem_append, ← hc x hx]
      exact ⟨fun z => z.resolve_right fun w => hd s h x hx ((half_sub b r).subset w), .inl⟩
    · rw [List.mem_singleton.mp h]
      refine ⟨b, fun x hx => ?_⟩
      rw [List.mem_append]
      exact ⟨fun z => z.resolve_left fun w => hn x w hx, .inr⟩
theorem mem_step {α : Type} {L : List (List α)} {r l : List α} : l ∈ lotsStep L r ↔ ∃ l0 ∈ L, ∃ b, l = l0 ++ half b r := by
  unfold lotsStep
  rw [List.mem_flatMap]
  constructor
  · rintro ⟨l0, h, hl⟩
    refine ⟨l0, h, ?_⟩
    simp only [List.map_cons, List.map_nil, List.mem_cons, List.not_mem_nil, or_false] at hl
    rcases hl with e | e
    · exact ⟨true, e⟩
    · exact ⟨false, e⟩
  · rintro ⟨l0, h, b, e⟩
    refine ⟨l0, h, ?_⟩
    cases b
    · rw [e]; simp [half]
    · rw [e]; simp [half]
theorem good_go {α : Type} : ∀ (R : List (List α)) (L : List (List α)) (R' : List (List α)), (∀ l ∈ L, Good R' l) → R.Pairwise Apart → (∀ s ∈ R', ∀ r ∈ R, Apart s r) → (∀ r ∈ R, r.Nodup) → ∀ l ∈ R.foldl lotsStep L, Good (R' ++ R) l
  | [], L, R', h, _, _, _, l, hl => by rw [List.append_nil]; exact h l hl
  | r :: R, L, R', h, hp, hd, hn, l, hl => by
    obtain ⟨p1, p2⟩ := List.pairwise_cons.mp hp
    have := good_go R (lotsStep L r) (R' ++ [r]) (fun l hl => by
      obtain ⟨l0, h0, b, rfl⟩ := mem_step.mp hl
      exact good_step (h l0 h0) (fun s hs => hd s hs r List.mem_cons_self) (hn r List.mem_cons_self)) p2 (fun s hs q hq => by
      rcases List.mem_append.mp hs with z | z
      · exact hd s z q (List.mem_cons_of_mem _ hq)
      · rw [List.mem_singleton.mp z]; exact p1 q hq) (fun q hq => hn q (List.mem_cons_of_mem _ hq)) l hl
    rw [List.append_assoc] at this
    exact this
theorem good_lots {α : Type} {R : List (List α)} (hp : R.Pairwise Apart) (hn : ∀ r ∈ R, r.Nodup) {l : List α} (hl : l ∈ lotsM R) : Good R l :=
  good_go R [[]] [] (fun l h => by rw [List.mem_singleton.mp h]; exact ⟨fun x h => (by cases h), List.nodup_nil, fun r h => (by cases h)⟩) hp (fun s h => (by cases h)) hn l hl
/-- two lots are told apart by a thing -/
def Told {α : Type} (a b : List α) : Prop := ∃ x, (x ∈ a ∧ x ∉ b) ∨ (x ∉ a ∧ x ∈ b)
theorem told_go {α : Type} : ∀ (R : List (List α)) (L : List (List α)) (R' : List (List α)), (∀ l ∈ L, Good R' l) → L.Pairwise Told → R.Pairwise Apart → (∀ s ∈ R', ∀ r ∈ R, Apart s r) → (∀ r ∈ R, r.Nodup ∧ r ≠ []) → (R.foldl lotsStep L).Pairwise Told
  | [], L, R', _, h, _, _, _ => h
  | r :: R, L, R', h, ht, hp, hd, hn => by
    obtain ⟨p1, p2⟩ := List.pairwise_cons.mp hp
    have hr := hn r List.mem_cons_self
    have hin : ∀ l ∈ L, ∀ x ∈ l, x ∉ r := fun l hl x hx => let ⟨s, hs, z⟩ := (h l hl).1 x hx; hd s hs r List.mem_cons_self x z
    refine told_go R (lotsStep L r) (R' ++ [r]) (fun l hl => by
      obtain ⟨l0, h0, b, rfl⟩ := mem_step.mp hl
      exact good_step (h l0 h0) (fun s hs => hd s hs r List.mem_cons_self) hr.1) ?_ p2 (fun s hs q hq => by
      rcases List.mem_append.mp hs with z | z
      · exact hd s z q (List.mem_cons_of_mem _ hq)
      · rw [List.mem_singleton.mp z]; exact p1 q hq) (fun q hq => hn q (List.mem_cons_of_mem _ hq))
    unfold lotsStep
    rw [List.pairwise_flatMap]
    constructor
    · intro l hl
      obtain ⟨y, q, e⟩ : ∃ y q, r = y :: q := by
        cases r with
        | nil => exact absurd rfl hr.2
        | cons y q => exact ⟨y, q, rfl⟩
      have hy : y ∉ l := fun z => hin l hl y z (by rw [e]; exact List.mem_cons_self)
      have h1 : y ∈ evens r := by
        rw [e]
        cases q <;> simp [evens]
      have h2 : y ∉ odds r := fun z => by
        rw [e] at z
        have hnd := hr.1
        rw [e] at hnd
        have z' : y ∈ q := (evens_sub' q).subset z
        exact (List.nodup_cons.mp hnd).1 z'
      simp only [List.map_cons, List.map_nil, List.pairwise_cons, List.mem_cons, List.not_mem_nil, or_false, forall_eq, List.Pairwise.nil, and_true, false_implies, implies_true]
      exact ⟨y, .inl ⟨List.mem_append_right _ h1, fun z => (List.mem_append.mp z).elim hy h2⟩⟩
    · refine ht.imp_of_mem fun {a b} ha hb ⟨x, hx⟩ u hu v hv => ?_
      have hu' : ∃ c, u = a ++ half c r := by
        simp only [List.map_cons, List.map_nil, List.mem_cons, List.not_mem_nil, or_false] at hu
        rcases hu with e | e
        · exact ⟨true, e⟩
        · exact ⟨false, e⟩
      have hv' : ∃ c, v = b ++ half c r := by
        simp only [List.map_cons, List.map_nil, List.mem_cons, List.not_mem_nil, or_false] at hv
        rcases hv with e | e
        · exact ⟨true, e⟩
        · exact ⟨false, e⟩
      obtain ⟨c1, rfl⟩ := hu'
      obtain ⟨c2, rfl⟩ := hv'
      refine ⟨x, ?_⟩
      rcases hx with ⟨h1, h2⟩ | ⟨h1, h2⟩
      · have hxr := hin a ha x h1
        exact .inl ⟨List.mem_append_left _ h1, fun z => (List.mem_append.mp z).elim h2 fun w => hxr ((half_sub _ r).subset w)⟩
      · have hxr := hin b hb x h2
        exact .inr ⟨fun z => (List.mem_append.mp z).elim h1 fun w => hxr ((half_sub _ r).subset w), List.mem_append_left _ h2⟩
theorem told_lots {α : Type} {R : List (List α)} (hp : R.Pairwise Apart) (hn : ∀ r ∈ R, r.Nodup ∧ r ≠ []) : (lotsM R).Pairwise Told :=
  told_go R [[]] [] (fun l h => by rw [List.mem_singleton.mp h]; exact ⟨fun x h => (by cases h), List.nodup_nil, fun r h => (by cases h)⟩) (List.pairwise_singleton _ _) hp (fun s h => (by cases h)) hn
/-! the rings of a turn -/
theorem rings_apart {t : List Nat} (ht : IsTurn t) : (pairRingsM t).Pairwise Apart := by
  unfold pairRingsM
  rw [List.filter_map, List.pairwise_map]
  refine List.Pairwise.imp_of_mem ?_ (List.nodup_iff_pairwise_ne.mp ((allPairs_nodup t.length).sublist List.filter_sublist))
  intro p q hp hq hne x hx1 hx2
  obtain ⟨p1, p2⟩ := List.mem_filter.mp hp
  obtain ⟨q1, q2⟩ := List.mem_filter.mp hq
  exact hne (one_head ht p1 q1 p2 q2 hx1 hx2)
theorem rings_nodup {t : List Nat} (ht : IsTurn t) : ∀ r ∈ pairRingsM t, r.Nodup ∧ r ≠ [] := fun r hr => by
  obtain ⟨p, hp, rfl, _⟩ := mem_rings.mp hr
  refine ⟨pRing_nodup ht hp, fun e => ?_⟩
  obtain ⟨q, e2⟩ := pRing_ne t p
  rw [e] at e2; cases e2
def AllEven (t : List Nat) : Prop := ∀ p ∈ allPairs t.length, pPer t p % 2 = 0
theorem lot_alt {t : List Nat} (ht : IsTurn t) (he : AllEven t) {l : List (Nat × Nat)} (hl : l ∈ lotsM (pairRingsM t)) : Alt t (l.mergeSort (le_ pLt)) ∧ l.mergeSort (le_ pLt) ∈ allLots (allPairs t.length) := by
  obtain ⟨g1, g2, g3⟩ := good_lots (rings_apart ht) (fun r hr => (rings_nodup ht r hr).1) hl
  constructor
  · intro x hx
    rw [List.mem_mergeSort, List.mem_mergeSort]
    obtain ⟨p, hp, hh, hxr⟩ := cover ht hx
    obtain ⟨b, hb⟩ := g3 (pRing t p) (mem_rings.mpr ⟨p, hp, rfl, hh⟩)
    obtain ⟨k, rfl⟩ := (mem_pRing ht hp).mp hxr
    have hx2 : ledPair t (itr (ledPair t) k p) ∈ pRing t p := (mem_pRing ht hp).mpr ⟨k + 1, rfl⟩
    rw [hb _ hxr, hb _ hx2]
    have h1 := half_even ht hp (he p hp) k
    have h2 := half_even ht hp (he p hp) (k + 1)
    have e2 : itr (ledPair t) (k + 1) p = ledPair t (itr (ledPair t) k p) := rfl
    rw [e2] at h2
    unfold half
    cases b
    · show _ ∈ odds _ ↔ _ ∉ odds _
      rw [h1.2, h2.2]; omega
    · show _ ∈ evens _ ↔ _ ∉ evens _
      rw [h1.1, h2.1]; omega
  · refine mem_lots.mpr (asc_sub (sort_asc ordP g2) (allPairs_asc _) fun x hx => ?_)
    obtain ⟨r, hr, hxr⟩ := g1 x (List.mem_mergeSort.mp hx)
    obtain ⟨p, hp, rfl, _⟩ := mem_rings.mp hr
    exact ring_in ht hp hxr
theorem alt_lot {t : List Nat} (ht : IsTurn t) {S : List (Nat × Nat)} (hS : S ∈ allLots (allPairs t.length)) (ha : Alt t S) : ∃ l ∈ lotsM (pairRingsM t), l.mergeSort (le_ pLt) = S := by
  have hs := mem_lots.mp hS
  let c : List (Nat × Nat) → Bool := fun r => decide (r.headD (0, 0) ∈ S)
  refine ⟨_, choice_in c (pairRingsM t), ?_⟩
  obtain ⟨g1, g2, g3⟩ := good_lots (rings_apart ht) (fun r hr => (rings_nodup ht r hr).1) (choice_in c (pairRingsM t))
  have hasc := (allPairs_asc t.length).sublist hs
  refine sort_is ordP ?_ hasc
  rw [List.perm_ext_iff_of_nodup (asc_nodup ordP hasc) g2]
  have key : ∀ p ∈ allPairs t.length, headMin pLt (pRing t p) = true → ∀ x ∈ pRing t p, (x ∈ S ↔ x ∈ half (c (pRing t p)) (pRing t p)) := fun p hp _ x hx => by
    obtain ⟨k, rfl⟩ := (mem_pRing ht hp).mp hx
    obtain ⟨q, e⟩ := pRing_ne t p
    have hc : c (pRing t p) = decide (p ∈ S) := by show decide ((pRing t p).headD (0, 0) ∈ S) = _; rw [e]; rfl
    have h1 := alt_itr ht ha hp k
    have h2 := half_even ht hp (alt_even ht ha hp) k
    rw [h1, hc]
    unfold half
    by_cases z : p ∈ S
    · rw [decide_eq_true z, if_pos rfl, h2.1]; simp [z]
    · rw [decide_eq_false z, if_neg (by decide), h2.2]; simp [z]
  intro x
  rw [List.mem_flatMap]
  constructor
  · intro hx
    obtain ⟨p, hp, hh, hxr⟩ := cover ht (hs.subset hx)
    exact ⟨pRing t p, mem_rings.mpr ⟨p, hp, rfl, hh⟩, (key p hp hh x hxr).mp hx⟩
  · rintro ⟨r, hr, hx⟩
    obtain ⟨p, hp, rfl, hh⟩ := mem_rings.mp hr
    exact (key p hp hh x ((half_sub _ _).subset hx)).mpr hx
/-- the nets that a turn leads, of rings of even lengths -/
theorem due_lots {t : List Nat} (ht : IsTurn t) (he : AllEven t) : ((lotsM (pairRingsM t)).map fun l => l.mergeSort (le_ pLt)).Perm (dueM t) := by
  have n1 : ((lotsM (pairRingsM t)).map fun l => l.mergeSort (le_ pLt)).Nodup := by
    rw [List.nodup_iff_pairwise_ne, List.pairwise_map]
    refine (told_lots (rings_apart ht) (rings_nodup ht)).imp fun {a b} ⟨x, hx⟩ e => ?_
    have : x ∈ a ↔ x ∈ b := by rw [← List.mem_mergeSort (le := le_ pLt) (l := a), ← List.mem_mergeSort (le := le_ pLt) (l := b), e]
    rcases hx with ⟨h1, h2⟩ | ⟨h1, h2⟩
    · exact h2 (this.mp h1)
    · exact h1 (this.mpr h2)
  have n2 : (dueM t).Nodup := (allLots_nodup (allPairs_nodup _)).sublist List.filter_sublist
  rw [List.perm_ext_iff_of_nodup n1 n2]
  intro S
  rw [List.mem_map, mem_due ht]
  constructor
  · rintro ⟨l, hl, rfl⟩
    have := lot_alt ht he hl
    exact ⟨this.2, this.1⟩
  · rintro ⟨h1, h2⟩
    exact alt_lot ht h1 h2
theorem due_none {t : List Nat} (ht : IsTurn t) (he : ¬ AllEven t) : dueM t = [] := by
  cases h : dueM t with
  | nil => rfl
  | cons S r =>
    have := (mem_due ht).mp (show S ∈ dueM t by rw [h]; exact List.mem_cons_self)
    exact absurd (fun p hp => alt_even ht this.2 hp) he
theorem due_some {t : List Nat} (ht : IsTurn t) (he : AllEven t) : dueM t ≠ [] := fun e => by
  have := (due_lots ht he).length_eq
  rw [List.length_map, lots_len, e, List.length_nil] at this
  have h := Nat.one_le_two_pow (n := (pairRingsM t).length)
  omega
theorem due_iff_even {t : List Nat} (ht : IsTurn t) : dueM t ≠ [] ↔ AllEven t :=
  ⟨fun h => Classical.byContradiction fun z => h (due_none ht z), due_some ht⟩
theorem count_is {t : List Nat} (ht : IsTurn t) (hc : canLeadM t = true ↔ AllEven t) : countLedM t = (dueM t).length := by
  unfold countLedM
  by_cases h : canLeadM t = true
  · rw [if_pos h, ← (due_lots ht (hc.mp h)).length_eq, List.length_map, lots_len]
  · rw [if_neg h, due_none ht fun z => h (hc.mpr z)]; rfl
theorem nets_is {t : List Nat} (ht : IsTurn t) (hc : canLeadM t = true ↔ AllEven t) : ledNetsM t = (dueM t).mergeSort (le_ (rLt pLt)) := by
  unfold ledNetsM
  by_cases h : canLeadM t = true
  · rw [if_pos h]
    exact sort_same (ordR ordP) (due_lots ht (hc.mp h))
  · rw [if_neg h, due_none ht fun z => h (hc.mpr z), List.mergeSort_nil]
theorem one_is {t : List Nat} (ht : IsTurn t) (he : AllEven t) : ledNetM t ∈ dueM t := by
  have h1 : ledNetM t = ((pairRingsM t).flatMap fun r => half ((fun _ => true) r) r).mergeSort (le_ pLt) := rfl
  rw [h1]
  exact (due_lots ht he).subset (List.mem_map.mpr ⟨_, choice_in (fun _ => true) (pairRingsM t), rfl⟩)
theorem leads_is {t : List Nat} (ht : IsTurn t) {l : List (Nat × Nat)} (hl : l ∈ allLots (allPairs t.length)) : leadsB t l = decide (l ∈ dueM t) := by
  rw [Bool.eq_iff_iff, leadsB_iff, decide_eq_true_iff, mem_due ht]
  exact ⟨fun h => ⟨hl, h⟩, fun h => h.2⟩
end RM
end

section
/-! The same for any one to one map of an ascending row. -/
namespace RM
namespace G
variable {α : Type} [DecidableEq α] {lt : α → α → Bool} {E : List α} {f : α → α}
structure Sys (lt : α → α → Bool) (E : List α) (f : α → α) : Prop where
  o : Ordd lt
  asc : E.Pairwise fun a b => lt a b = true
  mem : ∀ x ∈ E, f x ∈ E
  inj : ∀ x ∈ E, ∀ y ∈ E, f x = f y → x = y
theorem Sys.nodup (Y : Sys lt E f) : E.Nodup := asc_nodup Y.o Y.asc
def perE (f : α → α) (E : List α) (p : α) : Nat := perN f p E.length
def ringE (f : α → α) (E : List α) (p : α) : List α := ringN f p (perE f E p)
def ringsE (lt : α → α → Bool) (E : List α) (f : α → α) : List (List α) := (E.map (ringE f E)).filter (headMin lt)
def ledE (lt : α → α → Bool) (f : α → α) (S : List α) : List α := (S.map f).mergeSort (le_ lt)
def leftE (E S : List α) : List α := E.filter fun p => !decide (p ∈ S)
def dueE (lt : α → α → Bool) (E : List α) (f : α → α) : List (List α) := (allLots E).filter fun l => decide (ledE lt f l = leftE E l)
def leadsE (E : List α) (f : α → α) (S : List α) : Bool := E.all fun p => decide (p ∈ S) != decide (f p ∈ S)
theorem ringE_ne (f : α → α) (E : List α) (p : α) : ∃ r, ringE f E p = p :: r := ring_ne (by unfold perE perN; omega)
theorem Sys.per (Y : Sys lt E f) {p : α} (hp : p ∈ E) : IsPer f p (perE f E p) ∧ perE f E p ≤ E.length := by
  obtain ⟨k, h1, h2⟩ := ex_per Y.mem Y.inj hp
  have : perE f E p = k := per_is h2 h1
  rw [this]; exact ⟨h2, h1⟩

/-- an ascending row whose things stand in another one is a part of it -/
theorem asc_sub (o : Ordd lt) {S E : List (α)} (hS : S.Pairwise fun a b => lt a b = true) (hE : E.Pairwise fun a b => lt a b = true) (h : ∀ x ∈ S, x ∈ E) : S.Sublist E := by
  have hf : (E.filter fun x => decide (x ∈ S)).Pairwise fun a b => lt a b = true := hE.sublist List.filter_sublist
  have hp : S.Perm (E.filter fun x => decide (x ∈ S)) := by
    rw [List.perm_ext_iff_of_nodup (asc_nodup o hS) (asc_nodup o hf)]
    intro a
    rw [List.mem_filter, decide_eq_true_iff]
    exact ⟨fun ha => ⟨h a ha, ha⟩, fun ha => ha.2⟩
  have e1 := sort_is o hp hS
  have e2 := List.mergeSort_of_pairwise (le_of_lt o hf)
  rw [e2] at e1
  rw [← e1]
  exact List.filter_sublist
/-- f is one to one on all pairs, and onto -/
theorem led_onto (Y : Sys lt E f) {x : α} (hx : x ∈ E) : ∃ p ∈ E, f p = x := by
  have hn : ((E).map (f)).Nodup := by
    rw [List.nodup_iff_pairwise_ne, List.pairwise_map]
    have := List.nodup_iff_pairwise_ne.mp (Y.nodup)
    exact this.imp_of_mem fun {a b} ha hb h e => h (Y.inj a ha b hb e)
  apply Classical.byContradiction
  intro hc
  have h2 : (x :: (E).map (f)).Nodup := List.nodup_cons.mpr ⟨fun h => by
    obtain ⟨p, hp, e⟩ := List.mem_map.mp h
    exact hc ⟨p, hp, e⟩, hn⟩
  have h3 := h2.length_le_of_subset (l₂ := E) fun y hy => by
    rcases List.mem_cons.mp hy with e | e
    · rw [e]; exact hx
    · obtain ⟨p, hp, rfl⟩ := List.mem_map.mp e
      exact Y.mem p hp
  rw [List.length_cons, List.length_map] at h3
  omega
/-- S changes along f -/
def Alt (E : List α) (f : α → α) (S : List α) : Prop := ∀ p ∈ E, (p ∈ S ↔ f p ∉ S)
theorem leadsB_iff {S : List α} : leadsE E f S = true ↔ Alt E f S := by
  unfold leadsE Alt
  rw [List.all_eq_true]
  constructor
  · intro h p hp
    have := h p hp
    by_cases h1 : p ∈ S <;> by_cases h2 : f p ∈ S <;> simp [h1, h2] at this ⊢
  · intro h p hp
    have := h p hp
    by_cases h1 : p ∈ S <;> by_cases h2 : f p ∈ S <;> simp [h1, h2] at this ⊢
theorem due_iff (Y : Sys lt E f) {l : List (α)} (hl : l ∈ allLots (E)) : ledE lt f l = leftE E l ↔ Alt E f l := by
  have hs := mem_lots.mp hl
  have hsub := hs.subset
  have hln := (Y.nodup).sublist hs
  have hmem : ∀ x, x ∈ ledE lt f l ↔ ∃ q ∈ l, f q = x := fun x => by
    unfold ledE
    rw [List.mem_mergeSort, List.mem_map]
  have hleft : ∀ x, x ∈ leftE E l ↔ x ∈ E ∧ x ∉ l := fun x => by
    unfold leftE
    rw [List.mem_filter]
    simp
  constructor
  · intro e p hp
    constructor
    · intro h1 h2
      have : f p ∈ leftE E l := by rw [← e]; exact (hmem _).mpr ⟨p, h1, rfl⟩
      exact ((hleft _).mp this).2 h2
    · intro h1
      have : f p ∈ ledE lt f l := by rw [e]; exact (hleft _).mpr ⟨Y.mem p hp, h1⟩
      obtain ⟨q, hq, eq⟩ := (hmem _).mp this
      rw [← Y.inj q (hsub hq) p hp eq]; exact hq
  · intro ha
    have hp : (leftE E l).Perm (l.map (f)) := by
      have n1 : (leftE E l).Nodup := (Y.nodup).sublist List.filter_sublist
      have n2 : (l.map (f)).Nodup := by
        rw [List.nodup_iff_pairwise_ne, List.pairwise_map]
        exact (List.nodup_iff_pairwise_ne.mp hln).imp_of_mem fun {a b} ha hb h e => h (Y.inj a (hsub ha) b (hsub hb) e)
      rw [List.perm_ext_iff_of_nodup n1 n2]
      intro x
      rw [hleft, List.mem_map]
      constructor
      · rintro ⟨hx, hxl⟩
        obtain ⟨p, hp, rfl⟩ := led_onto Y hx
        exact ⟨p, (ha p hp).mpr hxl, rfl⟩
      · rintro ⟨p, hp, rfl⟩
        exact ⟨Y.mem p (hsub hp), (ha p (hsub hp)).mp hp⟩
    exact sort_is Y.o hp ((Y.asc).sublist List.filter_sublist)
theorem mem_due (Y : Sys lt E f) {l : List (α)} : l ∈ dueE lt E f ↔ l ∈ allLots (E) ∧ Alt E f l := by
  unfold dueE
  rw [List.mem_filter]
  constructor
  · rintro ⟨h1, h2⟩; exact ⟨h1, (due_iff Y h1).mp (of_decide_eq_true h2)⟩
  · rintro ⟨h1, h2⟩; exact ⟨h1, decide_eq_true ((due_iff Y h1).mpr h2)⟩
/-! along a ring -/
theorem alt_itr (Y : Sys lt E f) {S : List (α)} (ha : Alt E f S) {p : α} (hp : p ∈ E) : ∀ k, (itr (f) k p ∈ S ↔ (p ∈ S ↔ k % 2 = 0))
  | 0 => by show p ∈ S ↔ _; simp
  | k + 1 => by
    have h1 := ha _ (itr_mem (Y.mem) hp k)
    have h2 := alt_itr Y ha hp k
    show f (itr (f) k p) ∈ S ↔ _
    have h3 : (k + 1) % 2 = 0 ↔ ¬ k % 2 = 0 := by omega
    rw [h3]
    by_cases a : p ∈ S <;> by_cases b : k % 2 = 0 <;> by_cases c : itr (f) k p ∈ S <;> by_cases d : f (itr (f) k p) ∈ S <;> simp [a, b, c, d] at h1 h2 ⊢
theorem alt_even (Y : Sys lt E f) {S : List (α)} (ha : Alt E f S) {p : α} (hp : p ∈ E) : perE f E p % 2 = 0 := by
  have h1 := alt_itr Y ha hp (perE f E p)
  rw [(Y.per hp).1.2.1] at h1
  by_cases a : p ∈ S <;> by_cases b : perE f E p % 2 = 0 <;> simp [a, b] at h1 ⊢
theorem itr_mul {α : Type} {f : α → α} {a : α} {k : Nat} (h : itr f k a = a) : ∀ m r, itr f (k * m + r) a = itr f r a
  | 0, r => by rw [Nat.mul_zero, Nat.zero_add]
  | m + 1, r => by rw [Nat.mul_succ, Nat.add_assoc, Nat.add_comm k r, ← Nat.add_assoc, itr_add, h, itr_mul h m r]
theorem itr_mod {α : Type} {f : α → α} {a : α} {k : Nat} (h : IsPer f a k) (n : Nat) : itr f n a = itr f (n % k) a := by
  conv => lhs; rw [← Nat.div_add_mod n k]
  exact itr_mul h.2.1 _ _
theorem mem_ringE (Y : Sys lt E f) {p x : α} (hp : p ∈ E) : x ∈ ringE f E p ↔ ∃ k, itr (f) k p = x := by
  have hper := (Y.per hp).1
  unfold ringE
  rw [mem_ringN]
  constructor
  · rintro ⟨k, _, e⟩; exact ⟨k, e⟩
  · rintro ⟨k, e⟩
    exact ⟨k % perE f E p, Nat.mod_lt _ hper.1, by rw [← itr_mod hper]; exact e⟩
theorem ring_sym (Y : Sys lt E f) {p x : α} (hp : p ∈ E) (h : x ∈ ringE f E p) : p ∈ ringE f E x := by
  have hper := (Y.per hp).1
  have hx : x ∈ E := by
    obtain ⟨k, rfl⟩ := (mem_ringE Y hp).mp h
    exact itr_mem (Y.mem) hp k
  obtain ⟨k, hk, e⟩ := mem_ringN.mp h
  refine (mem_ringE Y hx).mpr ⟨perE f E p - k, ?_⟩
  rw [← e, ← itr_add, show perE f E p - k + k = perE f E p by omega]
  exact hper.2.1
theorem ring_trans (Y : Sys lt E f) {p x y : α} (hp : p ∈ E) (h : x ∈ ringE f E p) (h2 : y ∈ ringE f E x) : y ∈ ringE f E p := by
  obtain ⟨k, rfl⟩ := (mem_ringE Y hp).mp h
  obtain ⟨j, rfl⟩ := (mem_ringE Y (itr_mem (Y.mem) hp k)).mp h2
  exact (mem_ringE Y hp).mpr ⟨j + k, itr_add j k⟩
theorem ring_in (Y : Sys lt E f) {p x : α} (hp : p ∈ E) (h : x ∈ ringE f E p) : x ∈ E := by
  obtain ⟨k, rfl⟩ := (mem_ringE Y hp).mp h
  exact itr_mem (Y.mem) hp k
theorem ringE_nodup (Y : Sys lt E f) {p : α} (hp : p ∈ E) : (ringE f E p).Nodup := by
  unfold ringE ringN
  rw [List.nodup_iff_pairwise_ne, List.pairwise_map]
  have := List.pairwise_lt_range (n := perE f E p)
  exact this.imp_of_mem fun {a b} ha hb h => per_ne (Y.mem) (Y.inj) hp (Y.per hp).1 h (List.mem_range.mp hb)
/-! the least of a ring -/
theorem least_spec {α : Type} {lt : α → α → Bool} (o : Ordd lt) : ∀ (xs : List α) (x : α), (leastOf lt x xs = x ∨ leastOf lt x xs ∈ xs) ∧ lt x (leastOf lt x xs) = false ∧ ∀ y ∈ xs, lt y (leastOf lt x xs) = false
  | [], x => ⟨.inl rfl, o.ir x, fun _ h => by cases h⟩
  | y :: ys, x => by
    show (leastOf lt (if lt y x = true then y else x) ys = x ∨ _) ∧ _
    have e : leastOf lt x (y :: ys) = leastOf lt (if lt y x = true then y else x) ys := rfl
    rw [e]
    obtain ⟨h1, h2, h3⟩ := least_spec o ys (if lt y x = true then y else x)
    cases hy : lt y x with
    | true =>
      rw [hy] at h1 h2 h3
      rw [if_pos rfl] at h1 h2 h3 ⊢
      refine ⟨h1.elim (fun h => .inr (by rw [h]; exact List.mem_cons_self)) (fun h => .inr (List.mem_cons_of_mem _ h)), ?_, ?_⟩
      · cases hh : lt x (leastOf lt y ys) with
        | false => rfl
        | true => rw [o.tr _ _ _ hy hh] at h2; cases h2
      · intro z hz
        rcases List.mem_cons.mp hz with h | h
        · rw [h]; exact h2
        · exact h3 z h
    | false =>
      rw [hy] at h1 h2 h3
      rw [if_neg (by decide)] at h1 h2 h3 ⊢
      refine ⟨h1.imp id (List.mem_cons_of_mem _), h2, ?_⟩
      intro z hz
      rcases List.mem_cons.mp hz with h | h
      · rw [h]
        cases hh : lt y (leastOf lt x ys) with
        | false => rfl
        | true =>
          have h5 := o.letr x (leastOf lt x ys) x
          rcases h1 with h6 | h6
          · rw [h6] at hh; rw [hh] at hy; cases hy
          · have h7 := h2
            cases h8 : lt (leastOf lt x ys) x with
            | true => rw [o.tr _ _ _ hh h8] at hy; cases hy
            | false => rw [← o.tri _ _ h7 h8] at hh; rw [hh] at hy; cases hy
      · exact h3 z h
theorem headMin_spec (Y : Sys lt E f) {p : α} : headMin lt (ringE f E p) = true ↔ ∀ y ∈ ringE f E p, lt y p = false := by
  obtain ⟨r, e⟩ := ringE_ne f E p
  rw [e]
  obtain ⟨h1, h2, h3⟩ := least_spec Y.o r p
  show decide (p = leastOf lt p r) = true ↔ _
  rw [decide_eq_true_iff]
  constructor
  · intro h y hy
    rcases List.mem_cons.mp hy with e | e
    · rw [e]; exact Y.o.ir p
    · rw [h]; rw [← h]; have := h3 y e; rw [← h] at this; exact this
  · intro h
    refine Y.o.tri _ _ h2 ?_
    rcases h1 with e | e
    · rw [e]; exact Y.o.ir p
    · exact h _ (List.mem_cons_of_mem _ e)
/-- every pair stands in just one of the rings that begin with their least pair -/
theorem mem_rings {r : List α} : r ∈ ringsE lt E f ↔ ∃ p ∈ E, ringE f E p = r ∧ headMin lt r = true := by
  unfold ringsE
  rw [List.mem_filter, List.mem_map]
  constructor
  · rintro ⟨⟨p, hp, e⟩, h⟩; exact ⟨p, hp, e, h⟩
  · rintro ⟨p, hp, e, h⟩; exact ⟨⟨p, hp, e⟩, h⟩
theorem cover (Y : Sys lt E f) {x : α} (hx : x ∈ E) : ∃ p ∈ E, headMin lt (ringE f E p) = true ∧ x ∈ ringE f E p := by
  obtain ⟨r, e⟩ := ringE_ne f E x
  obtain ⟨h1, h2, h3⟩ := least_spec Y.o r x
  have hm : leastOf lt x r ∈ ringE f E x := by
    rw [e]
    rcases h1 with h | h
    · rw [h]; exact List.mem_cons_self
    · exact List.mem_cons_of_mem _ h
  have hp := ring_in Y hx hm
  have hs := ring_sym Y hx hm
  refine ⟨_, hp, (headMin_spec Y).mpr fun y hy => ?_, hs⟩
  have := ring_trans Y hx hm hy
  rw [e] at this
  rcases List.mem_cons.mp this with h | h
  · rw [h]; exact h2
  · exact h3 y h
theorem one_head (Y : Sys lt E f) {p q x : α} (hp : p ∈ E) (hq : q ∈ E) (h1 : headMin lt (ringE f E p) = true) (h2 : headMin lt (ringE f E q) = true) (hx1 : x ∈ ringE f E p) (hx2 : x ∈ ringE f E q) : p = q := by
  have a : q ∈ ringE f E p := ring_trans Y hp hx1 (ring_sym Y hq hx2)
  have b : p ∈ ringE f E q := ring_sym Y hp a
  exact Y.o.tri _ _ ((headMin_spec Y).mp h2 _ b) ((headMin_spec Y).mp h1 _ a)

/-- of a ring of an even length: which things stand in its first, in its second half -/
theorem half_even (Y : Sys lt E f) {p : α} (hp : p ∈ E) (he : perE f E p % 2 = 0) (k : Nat) : (itr (f) k p ∈ evens (ringE f E p) ↔ k % 2 = 0) ∧ (itr (f) k p ∈ odds (ringE f E p) ↔ k % 2 = 1) := by
  have hper := (Y.per hp).1
  have hlen : (ringE f E p).length = perE f E p := ring_len
  have hk : k % perE f E p < perE f E p := Nat.mod_lt _ hper.1
  have hpar : (k % perE f E p) % 2 = k % 2 := by
    have h1 := Nat.div_add_mod k (perE f E p)
    have h2 : (perE f E p * (k / perE f E p)) % 2 = 0 := by rw [Nat.mul_mod, he, Nat.zero_mul]
    omega
  have uniq : ∀ i, i < perE f E p → itr (f) i p = itr (f) k p → i = k % perE f E p := fun i hi e => by
    rw [itr_mod hper k] at e
    apply Classical.byContradiction
    intro hne
    rcases Nat.lt_or_gt_of_ne hne with h | h
    · exact per_ne (Y.mem) (Y.inj) hp hper h hk e
    · exact per_ne (Y.mem) (Y.inj) hp hper h hi e.symm
  constructor
  · rw [evens_at, hlen]
    constructor
    · rintro ⟨i, hi, e⟩
      unfold ringE at e
      rw [ring_at hi] at e
      have := uniq _ hi (Option.some.inj e)
      omega
    · intro h
      refine ⟨k % perE f E p / 2, by omega, ?_⟩
      rw [show 2 * (k % perE f E p / 2) = k % perE f E p by omega]
      unfold ringE
      rw [ring_at hk, itr_mod hper k]
  · rw [odds_at, hlen]
    constructor
    · rintro ⟨i, hi, e⟩
      unfold ringE at e
      rw [ring_at hi] at e
      have := uniq _ hi (Option.some.inj e)
      omega
    · intro h
      refine ⟨k % perE f E p / 2, by omega, ?_⟩
      rw [show 2 * (k % perE f E p / 2) + 1 = k % perE f E p by omega]
      unfold ringE
      rw [ring_at hk, itr_mod hper k]
/-! the rings of a turn -/
theorem rings_apart (Y : Sys lt E f) : (ringsE lt E f).Pairwise Apart := by
  unfold ringsE
  rw [List.filter_map, List.pairwise_map]
  refine List.Pairwise.imp_of_mem ?_ (List.nodup_iff_pairwise_ne.mp ((Y.nodup).sublist List.filter_sublist))
  intro p q hp hq hne x hx1 hx2
  obtain ⟨p1, p2⟩ := List.mem_filter.mp hp
  obtain ⟨q1, q2⟩ := List.mem_filter.mp hq
  exact hne (one_head Y p1 q1 p2 q2 hx1 hx2)
theorem rings_nodup (Y : Sys lt E f) : ∀ r ∈ ringsE lt E f, r.Nodup ∧ r ≠ [] := fun r hr => by
  obtain ⟨p, hp, rfl, _⟩ := mem_rings.mp hr
  refine ⟨ringE_nodup Y hp, fun e => ?_⟩
  obtain ⟨q, e2⟩ := ringE_ne f E p
  rw [e] at e2; cases e2
def AllEven (E : List α) (f : α → α) : Prop := ∀ p ∈ E, perE f E p % 2 = 0
theorem lot_alt (Y : Sys lt E f) (he : AllEven E f) {l : List (α)} (hl : l ∈ lotsM (ringsE lt E f)) : Alt E f (l.mergeSort (le_ lt)) ∧ l.mergeSort (le_ lt) ∈ allLots (E) := by
  obtain ⟨g1, g2, g3⟩ := good_lots (rings_apart Y) (fun r hr => (rings_nodup Y r hr).1) hl
  constructor
  · intro x hx
    rw [List.mem_mergeSort, List.mem_mergeSort]
    obtain ⟨p, hp, hh, hxr⟩ := cover Y hx
    obtain ⟨b, hb⟩ := g3 (ringE f E p) (mem_rings.mpr ⟨p, hp, rfl, hh⟩)
    obtain ⟨k, rfl⟩ := (mem_ringE Y hp).mp hxr
    have hx2 : f (itr (f) k p) ∈ ringE f E p := (mem_ringE Y hp).mpr ⟨k + 1, rfl⟩
    rw [hb _ hxr, hb _ hx2]
    have h1 := half_even Y hp (he p hp) k
    have h2 := half_even Y hp (he p hp) (k + 1)
    have e2 : itr (f) (k + 1) p = f (itr (f) k p) := rfl
    rw [e2] at h2
    unfold half
    cases b
    · show _ ∈ odds _ ↔ _ ∉ odds _
      rw [h1.2, h2.2]; omega
    · show _ ∈ evens _ ↔ _ ∉ evens _
      rw [h1.1, h2.1]; omega
  · refine mem_lots.mpr (asc_sub Y.o (sort_asc Y.o g2) Y.asc fun x hx => ?_)
    obtain ⟨r, hr, hxr⟩ := g1 x (List.mem_mergeSort.mp hx)
    obtain ⟨p, hp, rfl, _⟩ := mem_rings.mp hr
    exact ring_in Y hp hxr
theorem alt_lot (Y : Sys lt E f) {S : List (α)} (hS : S ∈ allLots (E)) (ha : Alt E f S) : ∃ l ∈ lotsM (ringsE lt E f), l.mergeSort (le_ lt) = S := by
  have hs := mem_lots.mp hS
  let c : List α → Bool := fun r => match r with
    | [] => true
    | y :: _ => decide (y ∈ S)
  refine ⟨_, choice_in c (ringsE lt E f), ?_⟩
  obtain ⟨g1, g2, g3⟩ := good_lots (rings_apart Y) (fun r hr => (rings_nodup Y r hr).1) (choice_in c (ringsE lt E f))
  have hasc := (Y.asc).sublist hs
  refine sort_is Y.o ?_ hasc
  rw [List.perm_ext_iff_of_nodup (asc_nodup Y.o hasc) g2]
  have key : ∀ p ∈ E, headMin lt (ringE f E p) = true → ∀ x ∈ ringE f E p, (x ∈ S ↔ x ∈ half (c (ringE f E p)) (ringE f E p)) := fun p hp _ x hx => by
    obtain ⟨k, rfl⟩ := (mem_ringE Y hp).mp hx
    obtain ⟨q, e⟩ := ringE_ne f E p
    have hc : c (ringE f E p) = decide (p ∈ S) := by rw [e]
    have h1 := alt_itr Y ha hp k
    have h2 := half_even Y hp (alt_even Y ha hp) k
    rw [h1, hc]
    unfold half
    by_cases z : p ∈ S
    · rw [decide_eq_true z, if_pos rfl, h2.1]; simp [z]
    · rw [decide_eq_false z, if_neg (by decide), h2.2]; simp [z]
  intro x
  rw [List.mem_flatMap]
  constructor
  · intro hx
    obtain ⟨p, hp, hh, hxr⟩ := cover Y (hs.subset hx)
    exact ⟨ringE f E p, mem_rings.mpr ⟨p, hp, rfl, hh⟩, (key p hp hh x hxr).mp hx⟩
  · rintro ⟨r, hr, hx⟩
    obtain ⟨p, hp, rfl, hh⟩ := mem_rings.mp hr
    exact (key p hp hh x ((half_sub _ _).subset hx)).mpr hx
/-- the nets that a turn leads, of rings of even lengths -/
theorem due_lots (Y : Sys lt E f) (he : AllEven E f) : ((lotsM (ringsE lt E f)).map fun l => l.mergeSort (le_ lt)).Perm (dueE lt E f) := by
  have n1 : ((lotsM (ringsE lt E f)).map fun l => l.mergeSort (le_ lt)).Nodup := by
    rw [List.nodup_iff_pairwise_ne, List.pairwise_map]
    refine (told_lots (rings_apart Y) (rings_nodup Y)).imp fun {a b} ⟨x, hx⟩ e => ?_
    have : x ∈ a ↔ x ∈ b := by rw [← List.mem_mergeSort (le := le_ lt) (l := a), ← List.mem_mergeSort (le := le_ lt) (l := b), e]
    rcases hx with ⟨h1, h2⟩ | ⟨h1, h2⟩
    · exact h2 (this.mp h1)
    · exact h1 (this.mpr h2)
  have n2 : (dueE lt E f).Nodup := (allLots_nodup Y.nodup).sublist List.filter_sublist
  rw [List.perm_ext_iff_of_nodup n1 n2]
  intro S
  rw [List.mem_map, mem_due Y]
  constructor
  · rintro ⟨l, hl, rfl⟩
    have := lot_alt Y he hl
    exact ⟨this.2, this.1⟩
  · rintro ⟨h1, h2⟩
    exact alt_lot Y h1 h2
theorem due_none (Y : Sys lt E f) (he : ¬ AllEven E f) : dueE lt E f = [] := by
  cases h : dueE lt E f with
  | nil => rfl
  | cons S r =>
    have := (mem_due Y).mp (show S ∈ dueE lt E f by rw [h]; exact List.mem_cons_self)
    exact absurd (fun p hp => alt_even Y this.2 hp) he
theorem due_some (Y : Sys lt E f) (he : AllEven E f) : dueE lt E f ≠ [] := fun e => by
  have := (due_lots Y he).length_eq
  rw [List.length_map, lots_len, e, List.length_nil] at this
  have h := Nat.one_le_two_pow (n := (ringsE lt E f).length)
  omega
theorem due_iff_even (Y : Sys lt E f) : dueE lt E f ≠ [] ↔ AllEven E f :=
  ⟨fun h => Classical.byContradiction fun z => h (due_none Y z), due_some Y⟩
theorem leads_is (Y : Sys lt E f) {l : List (α)} (hl : l ∈ allLots (E)) : leadsE E f l = decide (l ∈ dueE lt E f) := by
  rw [Bool.eq_iff_iff, leadsB_iff, decide_eq_true_iff, mem_due Y]
  exact ⟨fun h => ⟨hl, h⟩, fun h => h.2⟩
end G
end RM
end

section
/-! Walks round the rings, in general: the heads are the least of their rings. -/
namespace RM
namespace G
variable {α : Type} [DecidableEq α] {lt : α → α → Bool} {E : List α} {f : α → α}
def stepR (R : α → List α) : List α → List α
  | [] => []
  | p :: r => (p :: r).filter fun x => !decide (x ∈ R p)
def leftR (R : α → List α) (E : List α) : Nat → List α
  | 0 => E
  | i + 1 => stepR R (leftR R E i)
def headsR (R : α → List α) (E : List α) : Nat → List α
  | 0 => []
  | i + 1 => headsR R E i ++ (leftR R E i).take 1
theorem stepR_sub (R : α → List α) (L : List α) : (stepR R L).Sublist L := by
  cases L with
  | nil => exact List.Sublist.refl _
  | cons p r => exact List.filter_sublist
theorem leftR_sub (R : α → List α) (E : List α) : ∀ i, (leftR R E i).Sublist E
  | 0 => List.Sublist.refl _
  | i + 1 => (stepR_sub R _).trans (leftR_sub R E i)
theorem heads_mem (R : α → List α) (E : List α) : ∀ i x, x ∈ headsR R E i → x ∈ E
  | 0, x, h => by cases h
  | i + 1, x, h => by
    rcases List.mem_append.mp h with z | z
    · exact heads_mem R E i x z
    · exact (leftR_sub R E i).subset (List.mem_of_mem_take z)
/-- what is left: all that stand in no ring so far -/
theorem mem_left {R : α → List α} : ∀ i x, x ∈ leftR R E i ↔ x ∈ E ∧ ∀ h ∈ headsR R E i, x ∉ R h
  | 0, x => by
    show x ∈ E ↔ _
    constructor
    · intro h; exact ⟨h, fun y hy => by cases hy⟩
    · exact fun h => h.1
  | i + 1, x => by
    have ih : x ∈ leftR R E i ↔ x ∈ E ∧ ∀ h ∈ headsR R E i, x ∉ R h := mem_left i x
    show x ∈ stepR R (leftR R E i) ↔ x ∈ E ∧ ∀ h ∈ headsR R E i ++ (leftR R E i).take 1, x ∉ R h
    cases e : leftR R E i with
    | nil =>
      rw [e] at ih
      simp only [stepR, List.take_nil, List.append_nil]
      exact ih
    | cons p r =>
      rw [e] at ih
      show x ∈ (p :: r).filter (fun x => !decide (x ∈ R p)) ↔ _
      rw [List.mem_filter, ih]
      simp only [List.take_succ_cons, List.take_zero, List.mem_append, List.mem_singleton, Bool.not_eq_true', decide_eq_false_iff_not]
      constructor
      · rintro ⟨⟨h1, h2⟩, h3⟩
        refine ⟨h1, fun h hh => ?_⟩
        rcases hh with z | z
        · exact h2 h z
        · rw [z]; exact h3
      · rintro ⟨h1, h2⟩
        exact ⟨⟨h1, fun h hh => h2 h (.inl hh)⟩, h2 p (.inr rfl)⟩
/-- a head is the least of its ring -/
theorem head_least (Y : Sys lt E f) : ∀ i h, h ∈ headsR (ringE f E) E i → headMin lt (ringE f E h) = true
  | 0, h, hh => by cases hh
  | i + 1, h, hh => by
    rcases List.mem_append.mp hh with z | z
    · exact head_least Y i h z
    · cases e : leftR (ringE f E) E i with
      | nil => rw [e] at z; cases z
      | cons p r =>
        rw [e] at z
        have hp : h = p := by simpa using z
        subst hp
        have hm : h ∈ leftR (ringE f E) E i := by rw [e]; exact List.mem_cons_self
        obtain ⟨hE, hn⟩ := (mem_left i h).mp hm
        refine (headMin_spec Y).mpr fun y hy => ?_
        have hyl : y ∈ leftR (ringE f E) E i := by
          refine (mem_left i y).mpr ⟨ring_in Y hE hy, fun g hg hyg => ?_⟩
          have hgE := heads_mem _ _ _ _ hg
          exact hn g hg (ring_trans Y hgE hyg (ring_sym Y hE hy))
        rw [e] at hyl
        have hasc := Y.asc.sublist (leftR_sub (ringE f E) E i)
        rw [e] at hasc
        rcases List.mem_cons.mp hyl with z1 | z1
        · rw [z1]; exact Y.o.ir h
        · exact Y.o.asym ((List.pairwise_cons.mp hasc).1 y z1)
theorem heads_asc (Y : Sys lt E f) : ∀ i, (headsR (ringE f E) E i).Pairwise (fun a b => lt a b = true) ∧ ∀ x ∈ headsR (ringE f E) E i, ∀ y ∈ leftR (ringE f E) E i, lt x y = true
  | 0 => ⟨List.Pairwise.nil, fun x h => by cases h⟩
  | i + 1 => by
    obtain ⟨h1, h2⟩ := heads_asc Y i
    have hasc := Y.asc.sublist (leftR_sub (ringE f E) E i)
    constructor
    · show (headsR (ringE f E) E i ++ (leftR (ringE f E) E i).take 1).Pairwise _
      rw [List.pairwise_append]
      refine ⟨h1, hasc.sublist (List.take_sublist 1 _), fun x hx y hy => h2 x hx y (List.mem_of_mem_take hy)⟩
    · intro x hx y hy
      have hy' : y ∈ leftR (ringE f E) E i := (stepR_sub _ _).subset hy
      rcases List.mem_append.mp hx with z | z
      · exact h2 x z y hy'
      · cases e : leftR (ringE f E) E i with
        | nil => rw [e] at z; cases z
        | cons p r =>
          rw [e] at z hasc
          have hp : x = p := by simpa using z
          subst hp
          have hy2 : y ∈ stepR (ringE f E) (leftR (ringE f E) E i) := hy
          rw [e] at hy2
          obtain ⟨y1, y2⟩ := List.mem_filter.mp hy2
          rcases List.mem_cons.mp y1 with z1 | z1
          · obtain ⟨q, eq⟩ := ringE_ne f E x
            rw [z1, eq] at y2
            simp at y2
          · exact (List.pairwise_cons.mp hasc).1 y z1
/-- the heads of a walk to its end: all that are the least of their rings -/
theorem heads_are (Y : Sys lt E f) {n : Nat} (hn : leftR (ringE f E) E n = []) : headsR (ringE f E) E n = E.filter fun p => headMin lt (ringE f E p) := by
  have ha := (heads_asc Y n).1
  have hb : (E.filter fun p => headMin lt (ringE f E p)).Pairwise fun a b => lt a b = true := Y.asc.sublist List.filter_sublist
  have hp : (headsR (ringE f E) E n).Perm (E.filter fun p => headMin lt (ringE f E p)) := by
    rw [List.perm_ext_iff_of_nodup (asc_nodup Y.o ha) (asc_nodup Y.o hb)]
    intro x
    rw [List.mem_filter]
    constructor
    · exact fun h => ⟨heads_mem _ _ _ _ h, head_least Y n x h⟩
    · rintro ⟨hx, hh⟩
      apply Classical.byContradiction
      intro hc
      have : x ∈ leftR (ringE f E) E n := by
        refine (mem_left n x).mpr ⟨hx, fun h hm hxr => hc ?_⟩
        obtain ⟨q, eq⟩ := ringE_ne f E x
        have := one_head Y hx (heads_mem _ _ _ _ hm) hh (head_least Y n h hm) (by rw [eq]; exact List.mem_cons_self) hxr
        rw [this]; exact hm
      rw [hn] at this; cases this
  have e1 := sort_is Y.o hp ha
  rw [List.mergeSort_of_pairwise (le_of_lt Y.o hb)] at e1
  exact e1.symm
theorem rings_heads (lt : α → α → Bool) (E : List α) (f : α → α) : ringsE lt E f = (E.filter fun p => headMin lt (ringE f E p)).map (ringE f E) := by
  unfold ringsE
  rw [List.filter_map]; rfl
/-- so the walk goes round the rings that begin with their least, one after another -/
theorem walk_rings (Y : Sys lt E f) {n : Nat} (hn : leftR (ringE f E) E n = []) : (headsR (ringE f E) E n).map (ringE f E) = ringsE lt E f := by
  rw [heads_are Y hn, rings_heads]
end G
end RM
end

section
/-! When all rings of pairs, of ways, are of even lengths: by the rings of halls. -/
namespace RM
theorem per_dvd {α : Type} {f : α → α} {a : α} {k m : Nat} (h : IsPer f a k) (hm : itr f m a = a) : m % k = 0 := by
  apply Classical.byContradiction
  intro hc
  rw [itr_mod h] at hm
  exact h.2.2 (m % k) (by omega) (Nat.mod_lt _ h.1) hm
theorem dvd_per {α : Type} {f : α → α} {a : α} {k m : Nat} (h : IsPer f a k) (hm : m % k = 0) : itr f m a = a := by
  rw [itr_mod h, hm]; rfl
theorem odd_of_dvd {k m : Nat} (h : m % k = 0) (hm : m % 2 = 1) : k % 2 = 1 := by
  have h1 := Nat.div_add_mod m k
  rw [h, Nat.add_zero] at h1
  have h2 : (k * (m / k)) % 2 = 1 := by rw [h1]; exact hm
  rw [Nat.mul_mod] at h2
  have : k % 2 = 0 ∨ k % 2 = 1 := by omega
  rcases this with e | e
  · rw [e, Nat.zero_mul] at h2; cases h2
  · exact e
theorem hIs {t : List Nat} (ht : IsTurn t) {x : Nat} (hx : x < t.length) : IsPer (at_ t) x (hPer t x) := (hPer_is ht hx).1
theorem itr_hl {t : List Nat} (ht : IsTurn t) {x : Nat} (hx : x < t.length) (k : Nat) : itr (at_ t) k x < t.length := List.mem_range.mp (itr_mem (at_mem ht) (List.mem_range.mpr hx) k)
theorem hInj {t : List Nat} (ht : IsTurn t) {x y : Nat} (hx : x < t.length) (hy : y < t.length) {k : Nat} (h : itr (at_ t) k x = itr (at_ t) k y) : x = y := itr_inj (at_mem ht) (at_inj ht) (List.mem_range.mpr hx) (List.mem_range.mpr hy) k h
theorem per_one {t : List Nat} (ht : IsTurn t) {x : Nat} (hx : x < t.length) : hPer t x = 1 ↔ at_ t x = x := by
  have h := hIs ht hx
  constructor
  · intro e; rw [e] at h; exact h.2.1
  · intro e
    have := per_dvd (m := 1) h e
    have h1 := h.1
    apply Classical.byContradiction
    intro hc
    rw [Nat.mod_eq_of_lt (by omega)] at this
    cases this
/-- the halls of one ring have one period -/
theorem per_same {t : List Nat} (ht : IsTurn t) {x : Nat} (hx : x < t.length) (k : Nat) : hPer t (itr (at_ t) k x) = hPer t x := by
  have hy := itr_hl ht hx k
  have h1 := hIs ht hx
  have h2 := hIs ht hy
  have a : itr (at_ t) (hPer t x) (itr (at_ t) k x) = itr (at_ t) k x := by rw [← itr_add, Nat.add_comm, itr_add, h1.2.1]
  have b : itr (at_ t) (hPer t (itr (at_ t) k x)) x = x := by
    have := h2.2.1
    rw [← itr_add, Nat.add_comm, itr_add] at this
    exact hInj ht (itr_hl ht hx _) hx this
  have d1 := per_dvd h2 a
  have d2 := per_dvd h1 b
  have p1 := h1.1
  have p2 := h2.1
  have e1 : hPer t (itr (at_ t) k x) ≤ hPer t x := Nat.le_of_dvd (by omega) (Nat.dvd_of_mod_eq_zero d1)
  have e2 : hPer t x ≤ hPer t (itr (at_ t) k x) := Nat.le_of_dvd (by omega) (Nat.dvd_of_mod_eq_zero d2)
  omega
/-! pairs -/
theorem itr_led {t : List Nat} (p : Nat × Nat) (hp : p.1 ≤ p.2) : ∀ k, itr (ledPair t) k p = (min (itr (at_ t) k p.1) (itr (at_ t) k p.2), max (itr (at_ t) k p.1) (itr (at_ t) k p.2))
  | 0 => by show p = (min p.1 p.2, max p.1 p.2); rw [Nat.min_eq_left hp, Nat.max_eq_right hp]
  | k + 1 => by
    show ledPair t (itr (ledPair t) k p) = _
    rw [itr_led p hp k]
    show (min (at_ t (min _ _)) (at_ t (max _ _)), max (at_ t (min _ _)) (at_ t (max _ _))) = (min (at_ t (itr (at_ t) k p.1)) (at_ t (itr (at_ t) k p.2)), max (at_ t (itr (at_ t) k p.1)) (at_ t (itr (at_ t) k p.2)))
    generalize itr (at_ t) k p.1 = a
    generalize itr (at_ t) k p.2 = b
    by_cases h : a ≤ b
    · rw [Nat.min_eq_left h, Nat.max_eq_right h]
    · have e1 : min a b = b := Nat.min_eq_right (by omega)
      have e2 : max a b = a := Nat.max_eq_left (by omega)
      rw [e1, e2, Nat.min_comm (at_ t b), Nat.max_comm (at_ t b)]
theorem led_back {t : List Nat} {p : Nat × Nat} (hp : p.1 < p.2) {k : Nat} : itr (ledPair t) k p = p ↔ (itr (at_ t) k p.1 = p.1 ∧ itr (at_ t) k p.2 = p.2) ∨ (itr (at_ t) k p.1 = p.2 ∧ itr (at_ t) k p.2 = p.1) := by
  rw [itr_led p (by omega)]
  constructor
  · intro e
    have e1 := congrArg Prod.fst e
    have e2 := congrArg Prod.snd e
    simp only at e1 e2
    omega
  · intro h
    refine Prod.ext ?_ ?_ <;> simp only <;> omega
/-- what a turn is asked: rings whose length is bad are of length 1, and there is one of these at most -/
def Few (t : List Nat) (bad : Nat → Bool) : Prop := (∀ x, x < t.length → bad (hPer t x) = true → hPer t x = 1) ∧ ∀ x y, x < t.length → y < t.length → hPer t x = 1 → hPer t y = 1 → x = y
theorem mkPair {n x y : Nat} (hx : x < n) (hy : y < n) (h : x ≠ y) : (min x y, max x y) ∈ allPairs n := mem_allPairs.mpr (by simp only; omega)
theorem even_pairs {t : List Nat} (ht : IsTurn t) : AllEven t ↔ Few t fun n => decide (n % 4 ≠ 0) := by
  constructor
  · intro he
    -- a pair that comes back after an odd number of times
    have no : ∀ x y m, x < t.length → y < t.length → x ≠ y → m % 2 = 1 → ((itr (at_ t) m x = x ∧ itr (at_ t) m y = y) ∨ (itr (at_ t) m x = y ∧ itr (at_ t) m y = x)) → False := fun x y m hx hy hxy hm hb => by
      have hp := mkPair hx hy hxy
      have hb' : itr (ledPair t) m (min x y, max x y) = (min x y, max x y) := by
        refine (led_back (by simp only; omega)).mpr ?_
        rcases Nat.lt_or_gt_of_ne hxy with h | h
        · simp only [Nat.min_eq_left (Nat.le_of_lt h), Nat.max_eq_right (Nat.le_of_lt h)]; exact hb
        · simp only [Nat.min_eq_right (Nat.le_of_lt h), Nat.max_eq_left (Nat.le_of_lt h)]
          rcases hb with ⟨a, b⟩ | ⟨a, b⟩
          · exact .inl ⟨b, a⟩
          · exact .inr ⟨b, a⟩
      have h1 := odd_of_dvd (per_dvd (pPer_is ht hp).1 hb') hm
      have h2 := he _ hp
      omega
    constructor
    · intro x hx hb
      have hb : hPer t x % 4 ≠ 0 := of_decide_eq_true hb
      have h := hIs ht hx
      apply Classical.byContradiction
      intro h1
      have hp := h.1
      by_cases ho : hPer t x % 2 = 1
      · refine no x (at_ t x) (hPer t x) hx (itr_hl ht hx 1) (fun e => h1 ((per_one ht hx).mpr e.symm)) ho (.inl ⟨h.2.1, ?_⟩)
        show itr (at_ t) (hPer t x) (itr (at_ t) 1 x) = itr (at_ t) 1 x
        rw [← itr_add, Nat.add_comm, itr_add, h.2.1]
      · refine no x (itr (at_ t) (hPer t x / 2) x) (hPer t x / 2) hx (itr_hl ht hx _) (fun e => h.2.2 (hPer t x / 2) (by omega) (by omega) e.symm) (by omega) (.inr ⟨rfl, ?_⟩)
        rw [← itr_add, show hPer t x / 2 + hPer t x / 2 = hPer t x by omega, h.2.1]
    · intro x y hx hy a b
      apply Classical.byContradiction
      intro hxy
      exact no x y 1 hx hy hxy rfl (.inl ⟨(per_one ht hx).mp a, (per_one ht hy).mp b⟩)
  · rintro ⟨f1, f2⟩ p hp
    obtain ⟨m1, m2⟩ := mem_allPairs.mp hp
    have hx : p.1 < t.length := by omega
    have hb := (led_back m1).mp (pPer_is ht hp).1.2.1
    have four : ∀ z, z < t.length → hPer t z ≠ 1 → hPer t z % 4 = 0 := fun z hz h1 => by
      apply Classical.byContradiction
      intro hc
      exact h1 (f1 z hz (decide_eq_true hc))
    have even_of : ∀ z, z < t.length → hPer t z % 4 = 0 → ∀ m, itr (at_ t) m z = z → m % 4 = 0 := fun z hz h4 m hm => by
      have := per_dvd (hIs ht hz) hm
      have h1 := Nat.div_add_mod m (hPer t z)
      rw [this, Nat.add_zero] at h1
      rw [← h1, Nat.mul_mod, h4, Nat.zero_mul]
    rcases hb with ⟨a, b⟩ | ⟨a, b⟩
    · by_cases h1 : hPer t p.1 = 1
      · have h2 : hPer t p.2 ≠ 1 := fun h2 => by
          have := f2 p.1 p.2 hx m2 h1 h2
          omega
        have := even_of p.2 m2 (four p.2 m2 h2) _ b
        omega
      · have := even_of p.1 hx (four p.1 hx h1) _ a
        omega
    · have h1 : hPer t p.1 ≠ 1 := fun h1 => by
        have h3 : itr (at_ t) (pPer t p) p.1 = p.1 := dvd_per (hIs ht hx) (by rw [h1, Nat.mod_one])
        omega
      have c : itr (at_ t) (pPer t p + pPer t p) p.1 = p.1 := by rw [itr_add, a, b]
      have := even_of p.1 hx (four p.1 hx h1) _ c
      omega
end RM
end

section
/-! Turns of up to five halls, one by one. -/
namespace RM
def walkGo (t : List Nat) : Nat → List (Nat × Nat) → List Nat
  | 0, _ => []
  | _ + 1, [] => []
  | f + 1, p :: r => (pRing t p).length :: walkGo t f (wStep t (p :: r))
theorem wLeft_shift (t : List Nat) (E : List (Nat × Nat)) : ∀ i, wLeft t E (i + 1) = wLeft t (wStep t E) i
  | 0 => rfl
  | i + 1 => by
    show wStep t (wLeft t E (i + 1)) = wStep t (wLeft t (wStep t E) i)
    rw [wLeft_shift t E i]
theorem walk_is (t : List Nat) : ∀ (f n : Nat) (E : List (Nat × Nat)), n ≤ f → WEnd t E n → wSizes t E n = walkGo t f E
  | 0, n, E, h, _ => by
    have : n = 0 := by omega
    subst this; rfl
  | f + 1, 0, E, _, h => by
    have e : E = [] := h.1
    subst e; rfl
  | f + 1, n + 1, E, hn, h => by
    cases E with
    | nil => exact absurd rfl (h.2 0 (Nat.succ_pos n))
    | cons p r =>
      have h2 : WEnd t (wStep t (p :: r)) n := ⟨by rw [← wLeft_shift]; exact h.1, fun i hi => by rw [← wLeft_shift]; exact h.2 (i + 1) (by omega)⟩
      rw [walkGo, ← walk_is t f n _ (by omega) h2]
      unfold wSizes
      rw [List.range_succ_eq_map, List.map_cons, List.map_map]
      congr 1
      apply List.map_congr_left
      intro i _
      show (pRing t ((wLeft t (p :: r) (i + 1)).headD (0, 0))).length = (pRing t ((wLeft t (wStep t (p :: r)) i).headD (0, 0))).length
      rw [wLeft_shift]
def lensM (t : List Nat) : List Nat := (hRings t).map List.length
def nd : List Nat → Bool
  | [] => true
  | x :: r => !r.elem x && nd r
theorem nd_of : ∀ {t : List Nat}, t.Nodup → nd t = true
  | [], _ => rfl
  | x :: r, h => by
    obtain ⟨h1, h2⟩ := List.nodup_cons.mp h
    rw [nd, nd_of h2, Bool.and_true]
    simp [h1]
def evB (t : List Nat) : Bool := (allPairs t.length).all fun p => Nat.beq (pPer t p % 2) 0
def chk (t : List Nat) : Bool :=
  let lens := lensM t
  let oth := lens.filter fun n => decide (n % 4 ≠ 0)
  let ae := evB t
  let w := walkGo t 10 (allPairs t.length)
  ((decide (oth = []) || decide (oth = [1])) == ae) && Nat.beq (pairRingsM t).length w.length && (ae == decide (w.filter (fun z => decide (z % 2 = 1)) = [])) && Nat.beq lens.sum t.length &&
    Nat.beq (lens.countP fun z => decide (z = 1)) ((List.range t.length).filter fun x => decide (at_ t x = x)).length && (ae == (decide (lens.countP (fun z => decide (z = 1)) < 2) && decide (lens.filter (fun z => decide (z % 4 ≠ 0) && decide (z ≠ 1)) = [])))
def tup (n : Nat) : Nat → List (List Nat)
  | 0 => [[]]
  | m + 1 => (List.range n).flatMap fun x => (tup n m).map fun l => x :: l
theorem mem_tup {n : Nat} : ∀ {m : Nat} {l : List Nat}, l.length = m → (∀ x ∈ l, x < n) → l ∈ tup n m
  | 0, l, h, _ => by rw [List.eq_nil_of_length_eq_zero h]; exact List.mem_singleton.mpr rfl
  | m + 1, [], h, _ => by cases h
  | m + 1, x :: l, h, hl => by
    rw [tup, List.mem_flatMap]
    exact ⟨x, List.mem_range.mpr (hl x List.mem_cons_self), List.mem_map.mpr ⟨l, mem_tup (by simpa using h) (fun y hy => hl y (List.mem_cons_of_mem _ hy)), rfl⟩⟩
def chkN (n : Nat) : Bool := (tup n n).all fun t => !nd t || chk t
theorem chk1 : chkN 1 = true := by decide +kernel
theorem chk2 : chkN 2 = true := by decide +kernel
theorem chk3 : chkN 3 = true := by decide +kernel
theorem chk4 : chkN 4 = true := by decide +kernel
theorem chk5 : chkN 5 = true := by decide +kernel
end RM
end

section
namespace RM
theorem chk_of {t : List Nat} (ht : IsTurn t) (h5 : t.length ≤ 5) : chk t = true := by
  have hm : t ∈ tup t.length t.length := mem_tup rfl ht.2.2.2
  have key : ∀ n, chkN n = true → t.length = n → chk t = true := fun n hn e => by
    unfold chkN at hn
    rw [List.all_eq_true] at hn
    have := hn t (by rw [← e]; exact hm)
    rw [nd_of ht.2.2.1] at this
    simpa using this
  have h1 := ht.1
  have : t.length = 1 ∨ t.length = 2 ∨ t.length = 3 ∨ t.length = 4 ∨ t.length = 5 := by omega
  rcases this with e | e | e | e | e
  · exact key 1 chk1 e
  · exact key 2 chk2 e
  · exact key 3 chk3 e
  · exact key 4 chk4 e
  · exact key 5 chk5 e
theorem rings_perm (t : List Nat) : (ringsM t).Perm (lensM t) := List.mergeSort_perm _ _
theorem evB_iff {t : List Nat} : evB t = true ↔ AllEven t := by
  unfold evB AllEven
  rw [List.all_eq_true]
  exact ⟨fun h p hp => Nat.eq_of_beq_eq_true (h p hp), fun h p hp => by rw [h p hp]; rfl⟩
theorem can_perm (t : List Nat) : canLeadM t = (decide ((lensM t).filter (fun n => decide (n % 4 ≠ 0)) = []) || decide ((lensM t).filter (fun n => decide (n % 4 ≠ 0)) = [1])) := by
  have hp : (othersM t).Perm ((lensM t).filter fun n => decide (n % 4 ≠ 0)) := (rings_perm t).filter _
  have e1 : othersM t = [] ↔ (lensM t).filter (fun n => decide (n % 4 ≠ 0)) = [] := by
    constructor
    · intro h; rw [h] at hp; exact hp.symm.eq_nil
    · intro h; rw [h] at hp; exact hp.eq_nil
  have e2 : othersM t = [1] ↔ (lensM t).filter (fun n => decide (n % 4 ≠ 0)) = [1] := by
    constructor
    · intro h; rw [h] at hp; exact List.perm_singleton.mp hp.symm
    · intro h; rw [h] at hp; exact List.perm_singleton.mp hp
  unfold canLeadM
  rw [decide_eq_decide.mpr e1, decide_eq_decide.mpr e2]
theorem law_k01 : ∀ t, IsTurn t → t.length ≤ 5 → LawK01 t := fun t ht h5 => by
  have hc := chk_of ht h5
  unfold chk at hc
  simp only [Bool.and_eq_true] at hc
  obtain ⟨⟨⟨⟨⟨c1, c2⟩, c3⟩, c4⟩, c5⟩, c6⟩ := hc
  have hp := rings_perm t
  have ce : canLeadM t = evB t := by rw [can_perm]; exact eq_of_beq c1
  have hcan : canLeadM t = true ↔ AllEven t := by rw [ce]; exact evB_iff
  have hdue : decide (dueM t ≠ []) = evB t := by
    rw [Bool.eq_iff_iff, decide_eq_true_iff, evB_iff]
    exact due_iff_even ht
  have hE : (allPairs t.length).length ≤ 10 := by
    have : ∀ n, n < 6 → (allPairs n).length ≤ 10 := by decide +kernel
    exact this _ (by omega)
  have hw : ∀ n, WEnd t (allPairs t.length) n → wSizes t (allPairs t.length) n = walkGo t 10 (allPairs t.length) := fun n h => by
    have := wLeft_len t (allPairs t.length) n h.2
    exact walk_is t 10 n _ (by omega) h
  exact
    { rings20 := by
        unfold pairRingsM
        have := List.length_filter_le (headMin pLt) ((allPairs t.length).map (pRing t))
        rw [List.length_map] at this
        omega
      can := by rw [hdue, ce]
      count := count_is ht hcan
      nets := nets_is ht hcan
      walks := fun n h => by rw [hw n h]; exact Nat.eq_of_beq_eq_true c2
      even := fun n h => by rw [hw n h, hdue]; exact eq_of_beq c3
      sum := by rw [hp.sum_nat]; exact Nat.eq_of_beq_eq_true c4
      ones := by rw [hp.countP_eq]; exact Nat.eq_of_beq_eq_true c5
      odd := by
        have e : ((ringsM t).filter fun z => decide (z % 4 ≠ 0) && decide (z ≠ 1)) = [] ↔ ((lensM t).filter fun z => decide (z % 4 ≠ 0) && decide (z ≠ 1)) = [] := by
          have h2 := hp.filter fun z => decide (z % 4 ≠ 0) && decide (z ≠ 1)
          constructor
          · intro h; rw [h] at h2; exact h2.symm.eq_nil
          · intro h; rw [h] at h2; exact h2.eq_nil
        rw [hdue, hp.countP_eq, decide_eq_decide.mpr e]
        exact eq_of_beq c6
      leads := fun l hl => leads_is ht hl
      one := fun h => one_is ht (hcan.mp h) }
def turnB (n : Nat) (t : List Nat) : Bool := Nat.beq t.length n && nd t && t.all fun x => decide (x < n)
theorem nd_to : ∀ {t : List Nat}, nd t = true → t.Nodup
  | [], _ => List.nodup_nil
  | x :: r, h => by
    rw [nd, Bool.and_eq_true] at h
    exact List.nodup_cons.mpr ⟨by simpa using h.1, nd_to h.2⟩
theorem turnB_is {n : Nat} {t : List Nat} (h1 : 1 ≤ n) (h9 : n ≤ 9) (h : turnB n t = true) : IsTurn t ∧ t.length = n := by
  unfold turnB at h
  simp only [Bool.and_eq_true] at h
  obtain ⟨⟨a, b⟩, c⟩ := h
  have hl := Nat.eq_of_beq_eq_true a
  refine ⟨⟨by omega, by omega, nd_to b, fun x hx => ?_⟩, hl⟩
  rw [List.all_eq_true] at c
  rw [hl]
  exact of_decide_eq_true (c x hx)
theorem rg4 : ((tup 4 4).all fun m => !nd m || turnB 4 (ringedM m [4])) = true := by decide +kernel
theorem rg5 : ((tup 5 5).all fun m => !nd m || turnB 5 (ringedM m [4, 1])) = true := by decide +kernel
theorem ringed_is (m : List Nat) (h : IsTurn m) (hl : m.length = 4 ∨ m.length = 5) : IsTurn (ringedM m (if m.length = 5 then [4, 1] else [4])) ∧ (ringedM m (if m.length = 5 then [4, 1] else [4])).length = m.length := by
  have hm : m ∈ tup m.length m.length := mem_tup rfl h.2.2.2
  rcases hl with e | e
  · rw [e] at hm ⊢
    have := List.all_eq_true.mp rg4 m hm
    rw [nd_of h.2.2.1] at this
    exact turnB_is (by decide) (by decide) (by simpa using this)
  · rw [e] at hm ⊢
    have := List.all_eq_true.mp rg5 m hm
    rw [nd_of h.2.2.1] at this
    exact turnB_is (by decide) (by decide) (by simpa using this)
end RM
end

section
namespace RM
abbrev ltN (a b : Nat) : Bool := decide (a < b)
theorem sysH {t : List Nat} (ht : IsTurn t) : G.Sys ltN (List.range t.length) (at_ t) := ⟨ordN, List.pairwise_lt_range.imp fun {a b} h => decide_eq_true h, at_mem ht, at_inj ht⟩
theorem hRing_eq (t : List Nat) (x : Nat) : hRing t x = G.ringE (at_ t) (List.range t.length) x := by
  unfold hRing hPer G.ringE G.perE
  rw [List.length_range]
def headsM (t : List Nat) : List Nat := (List.range t.length).filter fun x => headMin ltN (hRing t x)
theorem lens_heads (t : List Nat) : lensM t = (headsM t).map (hPer t) := by
  unfold lensM hRings headsM
  rw [List.filter_map, List.map_map]
  apply List.map_congr_left
  intro x _
  show (hRing t x).length = hPer t x
  unfold hRing
  exact ring_len
theorem head_of {t : List Nat} (ht : IsTurn t) {x : Nat} (hx : x < t.length) : ∃ h ∈ headsM t, hPer t x = hPer t h := by
  obtain ⟨h, h1, h2, h3⟩ := G.cover (sysH ht) (List.mem_range.mpr hx)
  obtain ⟨k, hk⟩ := (G.mem_ringE (sysH ht) h1).mp h3
  refine ⟨h, ?_, ?_⟩
  · unfold headsM
    rw [List.mem_filter, hRing_eq]
    exact ⟨h1, h2⟩
  · rw [← hk]
    exact per_same ht (List.mem_range.mp h1) k
theorem one_is_head {t : List Nat} (ht : IsTurn t) {x : Nat} (hx : x < t.length) (h1 : hPer t x = 1) : x ∈ headsM t := by
  unfold headsM
  rw [List.mem_filter]
  refine ⟨List.mem_range.mpr hx, ?_⟩
  have : hRing t x = [x] := by unfold hRing; rw [h1]; rfl
  rw [this]
  show decide (x = x) = true
  exact decide_eq_true rfl
theorem few_lens {t : List Nat} (ht : IsTurn t) {bad : Nat → Bool} (hb1 : bad 1 = true) : Few t bad ↔ ((lensM t).filter bad = [] ∨ (lensM t).filter bad = [1]) := by
  have hH : (lensM t).filter bad = ((headsM t).filter fun x => bad (hPer t x)).map (hPer t) := by rw [lens_heads, List.filter_map]; rfl
  have hnd : ((headsM t).filter fun x => bad (hPer t x)).Nodup := (List.nodup_range.sublist List.filter_sublist).sublist List.filter_sublist
  have hlt : ∀ x ∈ headsM t, x < t.length := fun x hx => List.mem_range.mp (List.mem_filter.mp hx).1
  rw [hH]
  generalize hL : (headsM t).filter (fun x => bad (hPer t x)) = L at *
  have memL : ∀ x, x ∈ L ↔ x ∈ headsM t ∧ bad (hPer t x) = true := fun x => by rw [← hL, List.mem_filter]
  constructor
  · rintro ⟨f1, f2⟩
    have one : ∀ x ∈ L, hPer t x = 1 := fun x hx => f1 x (hlt x ((memL x).mp hx).1) ((memL x).mp hx).2
    match L, hnd, memL, one with
    | [], _, _, _ => exact .inl rfl
    | [x], _, _, one => exact .inr (by rw [List.map_cons, List.map_nil, one x List.mem_cons_self])
    | x :: y :: r, hnd, memL, one =>
      have hx : x ∈ x :: y :: r := List.mem_cons_self
      have hy : y ∈ x :: y :: r := List.mem_cons_of_mem _ List.mem_cons_self
      have := f2 x y (hlt x ((memL x).mp hx).1) (hlt y ((memL y).mp hy).1) (one x hx) (one y hy)
      subst this
      exact absurd List.mem_cons_self (List.nodup_cons.mp hnd).1
  · intro h
    have one : ∀ x ∈ L, hPer t x = 1 := fun x hx => by
      have hm : hPer t x ∈ L.map (hPer t) := List.mem_map.mpr ⟨x, hx, rfl⟩
      rcases h with e | e
      · rw [e] at hm; cases hm
      · rw [e] at hm; exact List.mem_singleton.mp hm
    constructor
    · intro x hx hb
      obtain ⟨z, hz, e⟩ := head_of ht hx
      rw [e] at hb ⊢
      exact one z ((memL z).mpr ⟨hz, hb⟩)
    · intro x y hx hy a b
      apply Classical.byContradiction
      intro hxy
      have mx : x ∈ L := (memL x).mpr ⟨one_is_head ht hx a, by rw [a]; exact hb1⟩
      have my : y ∈ L := (memL y).mpr ⟨one_is_head ht hy b, by rw [b]; exact hb1⟩
      have hlen : 2 ≤ L.length := by
        have h2 : [x, y].Nodup := by simp [hxy]
        have := h2.length_le_of_subset (l₂ := L) fun z hz => by
          rcases List.mem_cons.mp hz with e | e
          · rw [e]; exact mx
          · rw [List.mem_singleton.mp e]; exact my
        simpa using this
      have hl2 : (L.map (hPer t)).length ≤ 1 := by
        rcases h with e | e
        · rw [e]; decide
        · rw [e]; decide
      rw [List.length_map] at hl2
      omega
/-- can_lead, of any turn -/
theorem can_all {t : List Nat} (ht : IsTurn t) : canLeadM t = true ↔ AllEven t := by
  rw [even_pairs ht, few_lens ht (by decide), can_perm, Bool.or_eq_true, decide_eq_true_iff, decide_eq_true_iff]
/-- the walk's sizes, of any turn -/
theorem sysP {t : List Nat} (ht : IsTurn t) : G.Sys pLt (allPairs t.length) (ledPair t) := ⟨ordP, allPairs_asc _, led_mem ht, led_inj ht⟩
theorem walk_sizes {t : List Nat} (ht : IsTurn t) {n : Nat} (h : WEnd t (allPairs t.length) n) : wSizes t (allPairs t.length) n = (pairRingsM t).map List.length := by
  have e1 : ∀ L, wStep t L = G.stepR (pRing t) L := fun L => by
    cases L with
    | nil => rfl
    | cons p r =>
      rw [wStep, G.stepR]
      apply List.filter_congr
      intro x _
      by_cases h : x ∈ pRing t p <;> simp [h]
  have e2 : ∀ i, wLeft t (allPairs t.length) i = G.leftR (pRing t) (allPairs t.length) i := by
    intro i
    induction i with
    | zero => rfl
    | succ i ih =>
      show wStep t _ = G.stepR (pRing t) _
      rw [ih, e1]
  have e3 : ∀ i, i ≤ n → G.headsR (pRing t) (allPairs t.length) i = (List.range i).map (wHead t (allPairs t.length)) := by
    intro i
    induction i with
    | zero => intro _; rfl
    | succ i ih =>
      intro hi
      show G.headsR (pRing t) (allPairs t.length) i ++ (G.leftR (pRing t) (allPairs t.length) i).take 1 = _
      rw [ih (by omega), List.range_succ, List.map_append, ← e2]
      obtain ⟨r, hr⟩ := wHead_mem (h.2 i (by omega))
      congr 1
      rw [hr]; rfl
  have hend : G.leftR (pRing t) (allPairs t.length) n = [] := by rw [← e2]; exact h.1
  have := G.walk_rings (sysP ht) (n := n) hend
  have e4 : G.ringsE pLt (allPairs t.length) (ledPair t) = pairRingsM t := rfl
  rw [e4] at this
  rw [← this]
  show (List.range n).map _ = _
  rw [List.map_map]
  have e5 := e3 n (Nat.le_refl n)
  show _ = (G.headsR (pRing t) (allPairs t.length) n).map (List.length ∘ pRing t)
  rw [e5, List.map_map]; rfl
end RM
end

section
/-! Ways: pairs of unlike halls in order. -/
namespace RM
def allWays (n : Nat) : List (Nat × Nat) := (List.range n).flatMap fun x => ((List.range n).filter fun y => decide (y ≠ x)).map fun y => (x, y)
def ledWay (t : List Nat) (p : Nat × Nat) : Nat × Nat := (at_ t p.1, at_ t p.2)
theorem mem_ways {n : Nat} {p : Nat × Nat} : p ∈ allWays n ↔ p.1 < n ∧ p.2 < n ∧ p.1 ≠ p.2 := by
  obtain ⟨x, y⟩ := p
  unfold allWays
  simp only [List.mem_flatMap, List.mem_range, List.mem_map, List.mem_filter, Prod.mk.injEq, decide_eq_true_iff]
  constructor
  · rintro ⟨a, ha, b, ⟨hb, hne⟩, rfl, rfl⟩
    exact ⟨ha, hb, fun e => hne e.symm⟩
  · rintro ⟨h1, h2, h3⟩
    exact ⟨x, h1, y, ⟨h2, fun e => h3 e.symm⟩, rfl, rfl⟩
theorem allWays_asc (n : Nat) : (allWays n).Pairwise fun a b => pLt a b = true := by
  unfold allWays
  rw [List.pairwise_flatMap]
  constructor
  · intro x _
    rw [List.pairwise_map]
    exact (List.pairwise_lt_range.sublist List.filter_sublist).imp fun {a b} h => by simp [pLt]; omega
  · exact List.pairwise_lt_range.imp fun {a b} h x hx y hy => by
      rw [List.mem_map] at hx hy
      obtain ⟨_, _, rfl⟩ := hx
      obtain ⟨_, _, rfl⟩ := hy
      simp [pLt]; omega
theorem way_mem {t : List Nat} (ht : IsTurn t) : ∀ p ∈ allWays t.length, ledWay t p ∈ allWays t.length := fun p hp => by
  obtain ⟨h1, h2, h3⟩ := mem_ways.mp hp
  have a1 := List.mem_range.mp (at_mem ht p.1 (List.mem_range.mpr h1))
  have a2 := List.mem_range.mp (at_mem ht p.2 (List.mem_range.mpr h2))
  exact mem_ways.mpr ⟨a1, a2, fun e => h3 (at_inj ht p.1 (List.mem_range.mpr h1) p.2 (List.mem_range.mpr h2) e)⟩
theorem way_inj {t : List Nat} (ht : IsTurn t) : ∀ p ∈ allWays t.length, ∀ q ∈ allWays t.length, ledWay t p = ledWay t q → p = q := fun p hp q hq e => by
  obtain ⟨p1, p2, _⟩ := mem_ways.mp hp
  obtain ⟨q1, q2, _⟩ := mem_ways.mp hq
  have e1 := congrArg Prod.fst e
  have e2 := congrArg Prod.snd e
  exact Prod.ext (at_inj ht _ (List.mem_range.mpr p1) _ (List.mem_range.mpr q1) e1) (at_inj ht _ (List.mem_range.mpr p2) _ (List.mem_range.mpr q2) e2)
theorem sysW {t : List Nat} (ht : IsTurn t) : G.Sys pLt (allWays t.length) (ledWay t) := ⟨ordP, allWays_asc _, way_mem ht, way_inj ht⟩
theorem itr_way {t : List Nat} (p : Nat × Nat) : ∀ k, itr (ledWay t) k p = (itr (at_ t) k p.1, itr (at_ t) k p.2)
  | 0 => rfl
  | k + 1 => by
    show ledWay t (itr (ledWay t) k p) = _
    rw [itr_way p k]; rfl
theorem even_ways {t : List Nat} (ht : IsTurn t) : G.AllEven (allWays t.length) (ledWay t) ↔ Few t fun n => decide (n % 2 = 1) := by
  have back : ∀ p ∈ allWays t.length, ∀ m, itr (ledWay t) m p = p ↔ itr (at_ t) m p.1 = p.1 ∧ itr (at_ t) m p.2 = p.2 := fun p _ m => by
    rw [itr_way]
    constructor
    · intro e; exact ⟨congrArg Prod.fst e, congrArg Prod.snd e⟩
    · rintro ⟨a, b⟩; exact Prod.ext a b
  constructor
  · intro he
    -- of two halls one has an even period
    have two : ∀ x y, x < t.length → y < t.length → x ≠ y → hPer t x % 2 = 1 → hPer t y % 2 = 1 → False := fun x y hx hy hxy a b => by
      have hp : (x, y) ∈ allWays t.length := mem_ways.mpr ⟨hx, hy, hxy⟩
      have hm : (hPer t x * hPer t y) % 2 = 1 := by rw [Nat.mul_mod, a, b]
      have hb : itr (ledWay t) (hPer t x * hPer t y) (x, y) = (x, y) := by
        refine (back _ hp _).mpr ⟨dvd_per (hIs ht hx) (Nat.mul_mod_right _ _), dvd_per (hIs ht hy) (Nat.mul_mod_left _ _)⟩
      have h1 := odd_of_dvd (per_dvd ((sysW ht).per hp).1 hb) hm
      have h2 := he _ hp
      omega
    constructor
    · intro x hx hb
      have hb : hPer t x % 2 = 1 := of_decide_eq_true hb
      apply Classical.byContradiction
      intro h1
      refine two x (at_ t x) hx (itr_hl ht hx 1) (fun e => h1 ((per_one ht hx).mpr e.symm)) hb ?_
      have := per_same ht hx 1
      show hPer t (itr (at_ t) 1 x) % 2 = 1
      rw [this]; exact hb
    · intro x y hx hy a b
      apply Classical.byContradiction
      intro hxy
      exact two x y hx hy hxy (by rw [a]) (by rw [b])
  · rintro ⟨f1, f2⟩ p hp
    obtain ⟨h1, h2, h3⟩ := mem_ways.mp hp
    obtain ⟨a, b⟩ := (back p hp _).mp ((sysW ht).per hp).1.2.1
    have ev : ∀ z, z < t.length → hPer t z % 2 = 0 → ∀ m, itr (at_ t) m z = z → m % 2 = 0 := fun z hz h4 m hm => by
      have := per_dvd (hIs ht hz) hm
      have h1 := Nat.div_add_mod m (hPer t z)
      rw [this, Nat.add_zero] at h1
      rw [← h1, Nat.mul_mod, h4, Nat.zero_mul]
    by_cases e1 : hPer t p.1 % 2 = 0
    · exact ev p.1 h1 e1 _ a
    · by_cases e2 : hPer t p.2 % 2 = 0
      · exact ev p.2 h2 e2 _ b
      · have o1 := f1 p.1 h1 (decide_eq_true (by omega))
        have o2 := f1 p.2 h2 (decide_eq_true (by omega))
        exact absurd (f2 p.1 p.2 h1 h2 o1 o2) h3
/-- the same by the lengths of the turn's rings -/
theorem ways_lens {t : List Nat} (ht : IsTurn t) : G.AllEven (allWays t.length) (ledWay t) ↔ ((lensM t).filter (fun n => decide (n % 2 = 1)) = [] ∨ (lensM t).filter (fun n => decide (n % 2 = 1)) = [1]) := by
  rw [even_ways ht, few_lens ht (by decide)]
end RM
end

section
/-! A turn with rings of given lengths is a turn, of any halls. -/
namespace RM
theorem at_set_same {f : List Nat} {x v : Nat} (h : x < f.length) : at_ (f.set x v) x = v := by
  unfold at_
  rw [List.getD_eq_getElem?_getD, List.getElem?_set_self h]; rfl
theorem at_set_ne {f : List Nat} {x y v : Nat} (h : x ≠ y) : at_ (f.set x v) y = at_ f y := by
  unfold at_
  rw [List.getD_eq_getElem?_getD, List.getElem?_set_ne h, List.getD_eq_getElem?_getD]
theorem ringIn_other {names : List Nat} {a len : Nat} {x : Nat} : ∀ {k : Nat} {f : List Nat}, (∀ j, j < k → at_ names (a + j) ≠ x) → at_ (ringIn names a len k f) x = at_ f x
  | 0, f, _ => rfl
  | k + 1, f, h => by
    rw [ringIn, at_set_ne (h k (Nat.lt_succ_self k)), ringIn_other fun j hj => h j (by omega)]
theorem ringIn_at {names : List Nat} {a len : Nat} (hinj : ∀ i j, i < names.length → j < names.length → at_ names i = at_ names j → i = j) : ∀ {k : Nat} {f : List Nat}, a + k ≤ names.length → (∀ i, i < names.length → at_ names i < f.length) →
    ∀ j, j < k → at_ (ringIn names a len k f) (at_ names (a + j)) = at_ names (a + (j + 1) % len)
  | 0, f, _, _, j, hj => by omega
  | k + 1, f, hk, hl, j, hj => by
    rw [ringIn]
    by_cases e : j = k
    · subst e
      exact at_set_same (by rw [ringIn_len]; exact hl _ (by omega))
    · rw [at_set_ne (fun z => e (by have := hinj _ _ (by omega) (by omega) z; omega))]
      exact ringIn_at hinj (by omega) hl j (by omega)
/-- the first a names are led to one another, one to one -/
def Led (names f : List Nat) (a : Nat) : Prop := (∀ i, i < a → ∃ j, j < a ∧ at_ f (at_ names i) = at_ names j) ∧ ∀ i j, i < a → j < a → at_ f (at_ names i) = at_ f (at_ names j) → i = j
theorem led_block {names f : List Nat} {a l : Nat} (hinj : ∀ i j, i < names.length → j < names.length → at_ names i = at_ names j → i = j) (hl0 : 0 < l) (hk : a + l ≤ names.length) (hl : ∀ i, i < names.length → at_ names i < f.length) (h : Led names f a) : Led names (ringIn names a l l f) (a + l) := by
  have new : ∀ j, j < l → at_ (ringIn names a l l f) (at_ names (a + j)) = at_ names (a + (j + 1) % l) := ringIn_at hinj hk hl
  have old : ∀ i, i < a → at_ (ringIn names a l l f) (at_ names i) = at_ f (at_ names i) := fun i hi => ringIn_other fun j hj z => by
    have := hinj _ _ (by omega) (by omega) z
    omega
  have md : ∀ j, j < l → (j + 1) % l < l := fun j _ => Nat.mod_lt _ hl0
  have minj : ∀ i j, i < l → j < l → (i + 1) % l = (j + 1) % l → i = j := fun i j hi hj e => by
    by_cases h1 : i + 1 = l
    · rw [h1, Nat.mod_self] at e
      by_cases h2 : j + 1 = l
      · omega
      · rw [Nat.mod_eq_of_lt (by omega)] at e; omega
    · rw [Nat.mod_eq_of_lt (by omega : i + 1 < l)] at e
      by_cases h2 : j + 1 = l
      · rw [h2, Nat.mod_self] at e; omega
      · rw [Nat.mod_eq_of_lt (by omega)] at e; omega
  constructor
  · intro i hi
    by_cases hia : i < a
    · obtain ⟨j, hj, e⟩ := h.1 i hia
      exact ⟨j, by omega, by rw [old i hia, e]⟩
    · have := new (i - a) (by omega)
      rw [show a + (i - a) = i by omega] at this
      exact ⟨a + (i - a + 1) % l, by have := md (i - a) (by omega); omega, this⟩
  · intro i j hi hj e
    by_cases hia : i < a <;> by_cases hja : j < a
    · rw [old i hia, old j hja] at e
      exact h.2 i j hia hja e
    · have := new (j - a) (by omega)
      rw [show a + (j - a) = j by omega] at this
      obtain ⟨m, hm, e2⟩ := h.1 i hia
      rw [old i hia, this, e2] at e
      have := hinj _ _ (by omega) (by have := md (j - a) (by omega); omega) e
      omega
    · have := new (i - a) (by omega)
      rw [show a + (i - a) = i by omega] at this
      obtain ⟨m, hm, e2⟩ := h.1 j hja
      rw [old j hja, this, e2] at e
      have := hinj _ _ (by have := md (i - a) (by omega); omega) (by omega) e
      omega
    · have n1 := new (i - a) (by omega)
      have n2 := new (j - a) (by omega)
      rw [show a + (i - a) = i by omega] at n1
      rw [show a + (j - a) = j by omega] at n2
      rw [n1, n2] at e
      have := hinj _ _ (by have := md (i - a) (by omega); omega) (by have := md (j - a) (by omega); omega) e
      have := minj (i - a) (j - a) (by omega) (by omega) (by omega)
      omega
theorem led_out {names : List Nat} (hinj : ∀ i j, i < names.length → j < names.length → at_ names i = at_ names j → i = j) : ∀ (ls : List Nat) (a : Nat) (f : List Nat), (∀ l ∈ ls, 0 < l) → a + ls.sum ≤ names.length → (∀ i, i < names.length → at_ names i < f.length) → Led names f a → Led names (ringOut names ls a f) (a + ls.sum)
  | [], a, f, _, _, _, h => by simpa [ringOut] using h
  | l :: ls, a, f, hp, hk, hl, h => by
    rw [List.sum_cons] at hk
    rw [ringOut, List.sum_cons, ← Nat.add_assoc]
    exact led_out hinj ls (a + l) _ (fun x hx => hp x (List.mem_cons_of_mem _ hx)) (by omega) (by rw [ringIn_len]; exact hl) (led_block hinj (hp l List.mem_cons_self) (by omega) hl h)
theorem at_getElem {t : List Nat} {i : Nat} (h : i < t.length) : at_ t i = t[i] := by
  unfold at_
  rw [List.getD_eq_getElem?_getD, List.getElem?_eq_getElem h]; rfl
theorem ringed_all {names ls : List Nat} (hn : IsTurn names) (hp : ∀ l ∈ ls, 0 < l) (hs : ls.sum = names.length) : IsTurn (ringedM names ls) ∧ (ringedM names ls).length = names.length := by
  have hlen : (ringedM names ls).length = names.length := by
    unfold ringedM
    rw [ringOut_len, List.length_replicate, hs]
  have hinj : ∀ i j, i < names.length → j < names.length → at_ names i = at_ names j → i = j := fun i j hi hj e => at_inj hn i (List.mem_range.mpr hi) j (List.mem_range.mpr hj) e
  have hlt : ∀ i, i < names.length → at_ names i < names.length := fun i hi => List.mem_range.mp (at_mem hn i (List.mem_range.mpr hi))
  have hL : Led names (ringedM names ls) names.length := by
    have := led_out hinj ls 0 (List.replicate ls.sum 0) hp (by omega) (by rw [List.length_replicate, hs]; exact hlt) ⟨fun i hi => by omega, fun i j hi => by omega⟩
    rw [Nat.zero_add, hs] at this
    unfold ringedM
    rw [hs]; exact this
  -- every hall is a name
  have onto : ∀ x, x < names.length → ∃ i, i < names.length ∧ at_ names i = x := fun x hx => by
    have hm : x ∈ names := ((perm_range hn.2.2.1 hn.2.2.2).mem_iff).mpr (List.mem_range.mpr hx)
    obtain ⟨i, hi, e⟩ := List.getElem_of_mem hm
    exact ⟨i, hi, by rw [at_getElem hi]; exact e⟩
  refine ⟨⟨by rw [hlen]; exact hn.1, by rw [hlen]; exact hn.2.1, ?_, ?_⟩, hlen⟩
  · rw [List.nodup_iff_pairwise_ne, List.pairwise_iff_getElem]
    intro i j hi hj hij e
    rw [← at_getElem hi, ← at_getElem hj] at e
    obtain ⟨a, ha, ea⟩ := onto i (by omega)
    obtain ⟨b, hb, eb⟩ := onto j (by omega)
    rw [← ea, ← eb] at e
    have := hL.2 a b ha hb e
    subst this
    omega
  · intro x hx
    obtain ⟨i, hi, e⟩ := List.getElem_of_mem hx
    rw [← at_getElem hi] at e
    obtain ⟨a, ha, ea⟩ := onto i (by omega)
    obtain ⟨b, hb, eb⟩ := hL.1 a ha
    rw [ea, e] at eb
    rw [eb, hlen]
    exact hlt b hb
end RM
end

section
/-! What is told of turns and one-way nets. -/
namespace RM
/-- k divides all rings, but for one 1 -/
def othM (k : Nat) (t : List Nat) : List Nat := (ringsM t).filter fun n => decide (n % k ≠ 0)
def divM (k : Nat) (t : List Nat) : Bool := decide (othM k t = []) || decide (othM k t = [1])
theorem perm_two {A B : List Nat} (hp : A.Perm B) : (A = [] ↔ B = []) ∧ (A = [1] ↔ B = [1]) := by
  refine ⟨⟨fun h => ?_, fun h => ?_⟩, ⟨fun h => ?_, fun h => ?_⟩⟩
  · rw [h] at hp; exact hp.symm.eq_nil
  · rw [h] at hp; exact hp.eq_nil
  · rw [h] at hp; exact List.perm_singleton.mp hp.symm
  · rw [h] at hp; exact List.perm_singleton.mp hp
theorem div_iff (k : Nat) (t : List Nat) : divM k t = true ↔ ((lensM t).filter (fun n => decide (n % k ≠ 0)) = [] ∨ (lensM t).filter (fun n => decide (n % k ≠ 0)) = [1]) := by
  obtain ⟨p1, p2⟩ := perm_two ((rings_perm t).filter fun n => decide (n % k ≠ 0))
  unfold divM othM
  rw [Bool.or_eq_true, decide_eq_true_iff, decide_eq_true_iff, p1, p2]
abbrev evW (t : List Nat) : Prop := G.AllEven (allWays t.length) (ledWay t)
theorem odd_ne (n : Nat) : decide (n % 2 ≠ 0) = decide (n % 2 = 1) := by
  by_cases h : n % 2 = 1 <;> simp [h]
theorem can_ways {t : List Nat} (ht : IsTurn t) : divM 2 t = true ↔ evW t := by
  rw [div_iff]
  unfold evW
  rw [ways_lens ht]
  have : (fun n : Nat => decide (n % 2 ≠ 0)) = fun n => decide (n % 2 = 1) := funext odd_ne
  rw [this]
def waysR (t : List Nat) : List (List (Nat × Nat)) := G.ringsE pLt (allWays t.length) (ledWay t)
def dueW (t : List Nat) : List (List (Nat × Nat)) := G.dueE pLt (allWays t.length) (ledWay t)
def countW (t : List Nat) : Nat := if divM 2 t = true then 2 ^ (waysR t).length else 0
def ledW (t : List Nat) : List (Nat × Nat) := ((waysR t).flatMap evens).mergeSort (le_ pLt)
theorem due_ways {t : List Nat} (ht : IsTurn t) : decide (dueW t ≠ []) = divM 2 t := by
  have h1 := G.due_iff_even (sysW ht)
  have h2 := can_ways ht
  cases h : divM 2 t with
  | true => exact decide_eq_true (h1.mpr (h2.mp h))
  | false => exact decide_eq_false fun z => by rw [h2.mpr (h1.mp z)] at h; cases h
theorem count_ways {t : List Nat} (ht : IsTurn t) : countW t = (dueW t).length := by
  unfold countW
  by_cases h : divM 2 t = true
  · rw [if_pos h]
    unfold dueW
    rw [← (G.due_lots (sysW ht) ((can_ways ht).mp h)).length_eq, List.length_map, lots_len]; rfl
  · rw [if_neg h]
    have : dueW t = [] := G.due_none (sysW ht) fun z => h ((can_ways ht).mpr z)
    rw [this]; rfl
theorem led_due {t : List Nat} (ht : IsTurn t) (h : divM 2 t = true) : ledW t ∈ dueW t := by
  have h1 := G.due_lots (sysW ht) ((can_ways ht).mp h)
  exact h1.mem_iff.mp (List.mem_map.mpr ⟨_, choice_in (fun _ => true) (waysR t), rfl⟩)
theorem filt_len {α : Type} (p : α → Bool) : ∀ l : List α, l.length = (l.filter p).length + (l.filter fun x => !p x).length
  | [] => rfl
  | x :: l => by
    have := filt_len p l
    cases h : p x <;> simp [List.filter_cons, h] <;> omega
theorem due_half {t : List Nat} (ht : IsTurn t) {S : List (Nat × Nat)} (h : S ∈ dueW t) : 2 * S.length = (allWays t.length).length := by
  obtain ⟨h1, h2⟩ := List.mem_filter.mp h
  have hs := mem_lots.mp h1
  have e := congrArg List.length (of_decide_eq_true h2)
  unfold G.ledE G.leftE at e
  rw [List.length_mergeSort, List.length_map] at e
  have hn := (sysW ht).nodup
  have hp : ((allWays t.length).filter fun p => decide (p ∈ S)).Perm S := by
    rw [List.perm_ext_iff_of_nodup (hn.sublist List.filter_sublist) (hn.sublist hs)]
    intro a
    rw [List.mem_filter, decide_eq_true_iff]
    exact ⟨fun z => z.2, fun z => ⟨hs.subset z, z⟩⟩
  have h3 := hp.length_eq
  have h4 : (allWays t.length).length = (List.filter (fun p => decide (p ∈ S)) (allWays t.length)).length + (List.filter (fun p => !decide (p ∈ S)) (allWays t.length)).length := filt_len _ _
  have e5 : S.length = (List.filter (fun p => !decide (p ∈ S)) (allWays t.length)).length := e.trans (congrArg List.length (List.filter_congr fun x _ => by by_cases hx : x ∈ S <;> simp [hx]))
  rw [h3, ← e5] at h4
  omega
theorem allWays_len {n : Nat} (h : n ≤ 9) : (allWays n).length = n * (n - 1) ∧ (allWays n).length ≤ 81 := by
  have : ∀ n, n < 10 → (allWays n).length = n * (n - 1) ∧ (allWays n).length ≤ 81 := by decide +kernel
  exact this n (by omega)
/-- all rings are of even length -/
theorem even_rings {α : Type} [DecidableEq α] {lt : α → α → Bool} {E : List α} {f : α → α} (Y : G.Sys lt E f) : G.AllEven E f ↔ ((G.ringsE lt E f).map List.length).filter (fun n => decide (n % 2 = 1)) = [] := by
  rw [List.filter_eq_nil_iff]
  constructor
  · intro h n hn
    obtain ⟨r, hr, rfl⟩ := List.mem_map.mp hn
    obtain ⟨p, hp, rfl⟩ := List.mem_map.mp (List.mem_filter.mp hr).1
    have h1 := h p hp
    have h2 : (G.ringE f E p).length = G.perE f E p := ring_len
    rw [h2]
    simp; omega
  · intro h p hp
    obtain ⟨q, hq, h1, h2⟩ := G.cover Y hp
    have h3 := h (G.ringE f E q).length (List.mem_map.mpr ⟨_, List.mem_filter.mpr ⟨List.mem_map.mpr ⟨q, hq, rfl⟩, h1⟩, rfl⟩)
    have h4 : (G.ringE f E q).length = G.perE f E q := ring_len
    rw [h4] at h3
    have h3 : G.perE f E q % 2 = 0 := by
      have : ¬ G.perE f E q % 2 = 1 := by simpa using h3
      omega
    -- q's period divides p's
    obtain ⟨j, hj⟩ := (G.mem_ringE Y hp).mp (G.ring_sym Y hq h2)
    have hb : itr f (G.perE f E p) q = q := by
      rw [← hj, ← itr_add, Nat.add_comm, itr_add, (Y.per hp).1.2.1]
    have := per_dvd (Y.per hq).1 hb
    have h5 := Nat.div_add_mod (G.perE f E p) (G.perE f E q)
    rw [this, Nat.add_zero] at h5
    rw [← h5, Nat.mul_mod, h3, Nat.zero_mul]
/-- the law's own words for one 1 at most among odd ones -/
theorem one_odd (L : List Nat) : (L.filter (fun n => decide (n % 2 = 1)) = [] ∨ L.filter (fun n => decide (n % 2 = 1)) = [1]) ↔ (L.countP (fun z => decide (z = 1)) < 2 ∧ L.filter (fun z => decide (1 < z) && decide (z % 2 = 1)) = []) := by
  have e1 : L.countP (fun z => decide (z = 1)) = (L.filter (fun n => decide (n % 2 = 1))).countP fun z => decide (z = 1) := by
    rw [List.countP_filter]
    congr 1
    funext z
    by_cases h : z = 1 <;> simp [h]
  have e2 : L.filter (fun z => decide (1 < z) && decide (z % 2 = 1)) = (L.filter (fun n => decide (n % 2 = 1))).filter fun z => decide (z ≠ 1) := by
    rw [List.filter_filter]
    apply List.filter_congr
    intro z _
    by_cases h : z % 2 = 1
    · by_cases h1 : z = 1
      · simp [h1]
      · have : 1 < z := by omega
        simp [h, h1, this]
    · simp [h]
  rw [e1, e2]
  generalize L.filter (fun n => decide (n % 2 = 1)) = O
  constructor
  · rintro (h | h) <;> rw [h] <;> decide
  · rintro ⟨h1, h2⟩
    have all : ∀ x ∈ O, x = 1 := fun x hx => by
      have := List.filter_eq_nil_iff.mp h2 x hx
      simpa using this
    match O, all, h1 with
    | [], _, _ => exact .inl rfl
    | [x], all, _ => exact .inr (by rw [all x List.mem_cons_self])
    | x :: y :: r, all, h1 =>
      have hx := all x List.mem_cons_self
      have hy := all y (List.mem_cons_of_mem _ List.mem_cons_self)
      subst hx hy
      simp at h1
      omega
/-- a walk comes to its end -/
theorem G.walk_end {α : Type} [DecidableEq α] {R : α → List α} (hR : ∀ p, p ∈ R p) (E : List α) : ∃ n, n ≤ E.length ∧ G.leftR R E n = [] ∧ ∀ i, i < n → G.leftR R E i ≠ [] := by
  have step : ∀ L : List α, L ≠ [] → (G.stepR R L).length < L.length := fun L h => by
    cases L with
    | nil => exact absurd rfl h
    | cons p r =>
      rw [G.stepR, List.filter_cons, decide_eq_true (hR p)]
      have := List.length_filter_le (fun x => !decide (x ∈ R p)) r
      simp; omega
  have len : ∀ i, (∀ j, j < i → G.leftR R E j ≠ []) → (G.leftR R E i).length + i ≤ E.length := by
    intro i
    induction i with
    | zero => intro _; exact Nat.le_refl _
    | succ i ih =>
      intro hj
      have h1 := ih fun j h => hj j (by omega)
      have h2 := step _ (hj i (Nat.lt_succ_self i))
      show (G.stepR R (G.leftR R E i)).length + (i + 1) ≤ _
      omega
  have hex : ∃ n, G.leftR R E n = [] := by
    apply Classical.byContradiction
    intro hn
    have := len (E.length + 1) fun j _ z => hn ⟨j, z⟩
    omega
  obtain ⟨n0, h0⟩ := hex
  obtain ⟨m, _, h1, h2⟩ := least (p := fun n => G.leftR R E n = []) n0 h0
  have := len m h2
  exact ⟨m, by omega, h1, h2⟩
end RM
namespace RM
theorem div2_words (t : List Nat) : divM 2 t = (decide ((ringsM t).countP (fun z => decide (z = 1)) < 2) && decide ((ringsM t).filter (fun z => decide (1 < z) && decide (z % 2 = 1)) = [])) := by
  have : (fun n : Nat => decide (n % 2 ≠ 0)) = fun n => decide (n % 2 = 1) := funext odd_ne
  have h := one_odd (ringsM t)
  unfold divM othM
  rw [this, Bool.eq_iff_iff, Bool.or_eq_true, Bool.and_eq_true, decide_eq_true_iff, decide_eq_true_iff, decide_eq_true_iff, decide_eq_true_iff]
  exact h
theorem div2_sizes {t : List Nat} (ht : IsTurn t) : decide (((waysR t).map List.length).filter (fun n => decide (n % 2 = 1)) = []) = divM 2 t := by
  rw [Bool.eq_iff_iff, decide_eq_true_iff, can_ways ht]
  exact (even_rings (sysW ht)).symm
end RM
namespace RM
theorem G.leads_iff {α : Type} [DecidableEq α] {lt : α → α → Bool} {E : List α} {f : α → α} (Y : G.Sys lt E f) {l : List α} (hl : l ∈ allLots E) : G.leadsE E f l = true ↔ l ∈ G.dueE lt E f := by
  rw [G.leads_is Y hl, decide_eq_true_iff]
end RM
end

section
namespace DL
open PySem PySem.Spec PyProof.Rows L2 RM
open PySem.W (AlikeAll minD)
abbrev N_ring_from : List Str := ["led", "member", "ring", "after"]
abbrev N_rings_of : List Str := ["led", "members", "found", "member", "ring"]
abbrev N_rings : List Str := ["turn", "ring"]
abbrev N_divides_rings : List Str := ["number", "turn", "others", "length"]
def i2 (p : Nat × Nat) : Int × Int := (p.1, p.2)
def mapN (E : List (Nat × Nat)) (f : Nat × Nat → Nat × Nat) : PyData := mapD (E.map fun q => (i2 q, i2 (f q)))
section
variable {P : Program} {w : World} {K : PySem.W.Frag} {mg : Str → Option Value} {base : Heap}
theorem alAll {α : Type} {enc : α → PyData} (h : ∀ a b, PySem.W.alike (enc a) (enc b) = true) (hn : ∀ a, enc a ≠ .none) (xs : List α) : AlikeAll (xs.map enc) := ⟨fun a ha b hb => by
  obtain ⟨x, _, rfl⟩ := List.mem_map.mp ha
  obtain ⟨y, _, rfl⟩ := List.mem_map.mp hb
  exact h x y, fun a ha => by
  obtain ⟨x, _, rfl⟩ := List.mem_map.mp ha
  exact hn x⟩
/-- ring[0] == min(ring) -/
theorem et_headMin {X : Cx} {Γ : Gm} {α : Type} [DecidableEq α] {enc : α → PyData} {lt : α → α → Bool} (hlt : ∀ a b, PySem.W.dataLt (enc a) (enc b) = lt a b) (hal : ∀ a b, PySem.W.alike (enc a) (enc b) = true) (hne : ∀ a, enc a ≠ .none) (hlay : ∀ a, (enc a).canLay0 = true) (hdp : ∀ a, (enc a).depth ≤ 60) (heq : ∀ a b, PyData.eqv (enc a) (enc b) = decide (a = b))
    {e1 e2 z : Expr} {p1 pp pos pos2 : Pos} {kk : Nat} (hr : Room kk X.A) (hc : X.calm = true) (hm : X.mg "min" = none) {r : List α} (hnn : r ≠ []) (ha : Ee X Γ e1 (.list (r.map enc)) Γ) (hb : Ee X Γ e2 (.list (r.map enc)) Γ) (hz : Ee X Γ z (.int 0) Γ) (hzp : PlainIx z := by exact fun _ _ => rfl) (hg : Gl X "min" := by rfl)
    (he : starEach [e2] X.env = (false, eval e2 X.env) :: starEach [] X.env := by rfl) : Et X Γ (.Compare (.Subscript e1 z p1) [.Eq] [.Call (.Name "min" pp) [e2] [] pos] pos2) (headMin lt r) Γ := by
  obtain ⟨x, xs, rfl⟩ : ∃ x xs, r = x :: xs := by
    cases r with
    | nil => exact absurd rfl hnn
    | cons x xs => exact ⟨x, xs, rfl⟩
  have hs : ∀ a, SeqAt.shaped (enc a) = true := fun a => shaped_of (hlay a) (Nat.le_trans (hdp a) (by decide))
  refine et_is (et_eqD hr (ee_ixL (d := enc x) ha hz (atI_map (i := 0) (xs := x :: xs) rfl) hzp) (ee_minD (x := enc x) (ds := xs.map enc) hr hc hm (ea_cons hb ea_nil he) (alAll hal hne (x :: xs)) (lay_all (xs := x :: xs) fun x _ => hlay x) (dep_all (xs := x :: xs) fun x _ => hdp x) hg he) (hs x) (by rw [min_enc hlt]; exact hs _)) ?_
  rw [min_enc hlt, heq]
  rfl
def R_ring_from (ds : List PyData) (d : PyData) : Prop := (∃ (t : List Nat) (x : Nat), IsTurn t ∧ x < t.length ∧ ds = [tn t, iN x] ∧ d = lI (hRing t x)) ∨
  ∃ (E : List (Nat × Nat)) (g : Nat × Nat → Nat × Nat) (p : Nat × Nat) (n : Nat), (∀ q ∈ E, g q ∈ E) ∧ p ∈ E ∧ IsPer g p n ∧ n ≤ 16777215 ∧ ds = [mapN E g, pN p] ∧ d = lP (ringN g p n)
/-- rings of things looked up in a dict of pairs -/
def ringsL (E : List (Nat × Nat)) (g : Nat × Nat → Nat × Nat) (per : Nat × Nat → Nat) : List (List (Nat × Nat)) := (E.map fun p => ringN g p (per p)).filter (headMin pLt)
def R_rings_of (ds : List PyData) (d : PyData) : Prop := (∃ t : List Nat, IsTurn t ∧ ds = [tn t, lI (List.range t.length)] ∧ d = .list ((hRings t).map lI)) ∨
  ∃ (E : List (Nat × Nat)) (g : Nat × Nat → Nat × Nat) (per : Nat × Nat → Nat), (∀ q ∈ E, g q ∈ E) ∧ (∀ p ∈ E, IsPer g p (per p) ∧ per p ≤ 16777215) ∧ E.length ≤ 16777216 ∧ ds = [mapN E g, lP E] ∧ d = .list ((ringsL E g per).map lP)
def R_rings (ds : List PyData) (d : PyData) : Prop := ∃ t : List Nat, IsTurn t ∧ ds = [tn t] ∧ d = .tuple ((ringsM t).map iN)
theorem hRings_le (t : List Nat) : (hRings t).length ≤ t.length := by
  unfold hRings
  exact Nat.le_trans (List.length_filter_le _ _) (by rw [List.length_map, List.length_range]; exact Nat.le_refl _)
theorem ringsM_len (t : List Nat) : (ringsM t).length ≤ t.length := by
  unfold ringsM
  rw [List.length_mergeSort, List.length_map]
  exact hRings_le t
def R_divides_rings (ds : List PyData) (d : PyData) : Prop := ∃ (k : Nat) (t : List Nat), 0 < k ∧ IsTurn t ∧ ds = [iN k, tn t] ∧ d = .bool (divM k t)
end
end DL
end

section
namespace DL
open PySem PySem.Spec PyProof.Rows L2 RM
/-- the facts of an error's class -/
structure ErrF (K : PySem.W.Frag) (mg : Str → Option Value) (x : Str) (C : Addr) : Prop where
  m : mg x = some (.ref C)
  q : PySem.W.excIn K C [.type "ValueError", .type "Exception", .type "BaseException", .type "object"] "ValueError.__new__" = true
  k : PySem.W.keepIn K (.ref C) = true
  s : PySem.W.subIn K (.ref C) (.type "BaseException") = some true
  t : PySem.W.typeIn K (.ref C) = some (.type "type")
  e : PySem.W.exmOne K (.ref C) (.ref C) = some true
section
variable {P : Program} {w : World} {K : PySem.W.Frag} {mg : Str → Option Value} {base : Heap}
theorem evens_len {α : Type} (l : List α) : (evens l).length ≤ l.length := (evens_sub l).length_le
theorem flat_small {α β : Type} (f : α → List β) (b : Nat) : ∀ (L : List α), (∀ x ∈ L, (f x).length ≤ b) → (L.flatMap f).length ≤ b * L.length
  | [], _ => Nat.le_refl _
  | x :: L, h => by
    rw [List.flatMap_cons, List.length_append, List.length_cons, Nat.mul_succ]
    have h1 := h x List.mem_cons_self
    have h2 := flat_small f b L fun y hy => h y (List.mem_cons_of_mem _ hy)
    omega
end
end DL
end

section
namespace DL
open PySem PySem.Spec PyProof.Rows L2
/-- a def of the text under another name of the module's -/
structure FnA (K : PySem.W.Frag) (mg : Str → Option Value) (y x : Str) (st : Stmt) (ps : List Str) : Prop where
  ex : ∃ f fd, mg y = some (.ref f) ∧ Fun K x x st f fd ∧ L2.Binds K fd ps []
theorem FnA.of {K : PySem.W.Frag} {mg : Str → Option Value} {x : Str} {st : Stmt} {ps : List Str} (F : Fn K mg x st ps) : FnA K mg x x st ps := ⟨F.ex⟩
section
variable {P : Program} {w : World} {K : PySem.W.Frag} {mg : Str → Option Value} {base : Heap} {k : Nat} {x y : Str} {ps : List Str}
theorem caA_D {st : Stmt} {N : List Str} {R : List PyData → PyData → Prop} (F : FnA K mg y x st ps) (S : FnScope N ps (defScope st)) (hlen : ∀ ds d, R ds d → ds.length = ps.length)
    (hbody : ∀ (f : Addr) (cdv : Value) (A : Around) (outer : List Env) (s : Shared) (H : Hp) (E : XK) (ds : List PyData) (d : PyData), Room k (A.deeper (envOfC x (defScope st) s.heap.objs.size f cdv)) → R ds d →
      ∃ o, Ess (cxOf CX0 P w K mg base N x (defScope st) f cdv A outer s H E).nox (slots0 N ds) (defBody st) o ∧ endsWith o d) : Ca P w K mg base (k + 1) y ps (spD K R) := by
  obtain ⟨f, fd, hm, hF, hb⟩ := F.ex
  exact ⟨f, fd, hm, hF.kp, hb, ok_D hF S hlen fun cdv A outer s H E ds d hr hR => hbody f cdv A outer s H E ds d hr hR⟩
theorem caA_Er {st : Stmt} {N : List Str} {R : List PyData → PyData → Prop} (F : FnA K mg y x st ps) (S : FnScope N ps (defScope st)) (hlen : ∀ ds d, R ds d → ds.length = ps.length)
    (hbody : ∀ (f : Addr) (cdv : Value) (A : Around) (outer : List Env) (s : Shared) (H : Hp) (E : XK) (ds : List PyData) (d : PyData), Room k (A.deeper (envOfC x (defScope st) s.heap.objs.size f cdv)) → R ds d →
      Er (cxOf CX0 P w K mg base N x (defScope st) f cdv A outer s H E).nox (slots0 N ds) (defBody st) d) : Ca P w K mg base (k + 1) y ps (spD K R) :=
  caA_D F S hlen fun f cdv A outer s H E ds d hr hR => let ⟨g, h⟩ := hbody f cdv A outer s H E ds d hr hR; ⟨_, h, .inl ⟨g, rfl⟩⟩
end
end DL
end

section
/-! Calls that raise: in an expression, a test, a statement; try with one clause around such an expression. -/
namespace DL
open PySem PySem.Spec PyProof.Rows L2
section
variable {X : Cx} {Γ Γ1 Γ2 : Gm} {a b e c : Expr} {es : List Expr} {ds : List PyData} {d : PyData} {k j i : Nat} {g n xn : Str} {ps : List Str} {C : Addr} {R : List PyData → Option PyData → Prop} {o : Out} {pg cp np pos pos' pp : Pos} {b0 : Stmt} {suite rest body orelse : List Stmt} {W : WX} {E : XK}
/-- an expression that raises an error of the class at C -/
def Exx (X : Cx) (Γ : Gm) (e : Expr) (C : Addr) (Γ1 : Gm) (W : WX) : Prop := PE X e (fun σ H _ => ∃ F, EnvOk X.K F H σ Γ ∧ Ext F H ∧ ∀ F' H', Gr F H (Own σ Γ) F' H' (Own σ Γ1) → EnvOk X.K F' H' σ Γ1 → W (.ref C) none σ H')
def Etx (X : Cx) (Γ : Gm) (e : Expr) (C : Addr) (Γ1 : Gm) (W : WX) : Prop := PT X e (fun σ H _ => ∃ F, EnvOk X.K F H σ Γ ∧ Ext F H ∧ ∀ F' H', Gr F H (Own σ Γ) F' H' (Own σ Γ1) → EnvOk X.K F' H' σ Γ1 → W (.ref C) none σ H')
theorem exx_call (tk : Takes X W) (F : CaX X.prog X.w X.K X.mg X.base k g ps C R) (hr : Room j X.A) (ha : Ea X Γ (e :: es) ds Γ1) (hR : R ds none) (hj : k ≤ j := by decide) (hg : Gl X g := by rfl) (hdb : (g == ("__debug__" : Str)) = false := by decide)
    (he : starEach (e :: es) X.env = (false, eval e X.env) :: starEach es X.env := by rfl) (hpl : (backTo cp (starEach es X.env)).any (·.1) = false := by rfl) : Exx X Γ (.Call (.Name g pg) (e :: es) [] cp) C Γ1 W := by
  obtain ⟨f, fd, hm, hk, hb, hF⟩ := F.ex
  exact pe_imp (pe_callS hF (hr.mono hj) hg hm hk hb (fun σ => passAt tk σ) ha hdb he hpl) fun σ H Q ⟨F0, ev, xt, kk⟩ => ⟨F0, ev, xt, fun vs F1 H1 g1 e1 dv => ⟨F1, ds, none, g1.fh, dv, hR, fun d hd => (nomatch hd), fun _ H' x1 =>
    kk F1 H' (g1.trans (Gr.ext (Ext.refl F1) (g1.fh.trans x1) x1 fun a h => .inl h)) (e1.keep (Ext.refl F1) x1 fun a h => .inl h)⟩⟩
theorem etx_val (h : Exx X Γ e C Γ1 W) (he : ∀ whole, isTrue e X.env whole = (do let v ← whole; standAt e.pos; holding [v] (truthy v)) := by intro _; rfl) : Etx X Γ e C Γ1 W :=
  pt_imp (pt_val h he) fun σ H Q hh => hh
theorem etx_not (h : Etx X Γ a C Γ1 W) : Etx X Γ (.UnaryOp .Not a pos) C Γ1 W := pt_imp (pt_not h) fun σ H Q hh => hh
theorem rx_expr (h : Exx X Γ e C Γ1 (fun cls d _ H => E cls d H)) (hs : swapsWith e none pos.line X.env = pure false := by rfl) : Rx X Γ (.Expr e pos :: rest) C E :=
  pss_imp (pss_cons (ps_expr h hs) pss_never) fun D σ H ⟨F, ev, x, k⟩ => ⟨F, ev, x, fun F' H' g _ => k σ Γ1 F' H' g⟩
theorem rx_ifx {pos : Pos} (h : Etx X Γ c C Γ1 (fun cls d _ H => E cls d H)) : Rx X Γ (.If c body orelse pos :: rest) C E :=
  pss_imp (pss_cons (ps_if h pss_never pss_never) pss_never) fun D σ H ⟨F, ev, x, k⟩ => ⟨F, ev, x, fun F' H' g _ => k σ Γ1 F' H' g⟩
/-- try: an expression that raises, except C as n: a suite that hands something back -/
theorem es_tryX (hs : X.stack = X.env :: X.outer) (hf : X.env.frame = some X.env.locals) (hN : X.N.Nodup) (i : Nat) (hc : Names X xn (.ref C)) (hexm : PySem.W.exmOne X.K (.ref C) (.ref C) = some true)
    (hb : ∀ (W : WX) pn xe, Takes (X.tr pn xe) W → Exx (X.tr pn xe) Γ e C Γ1 W) (hv : noV Γ1 [i] = true) (hsu : ∀ a pn, Ess (X.suite a pn) Γ1 (b0 :: suite) (.rt d Γ2))
    (hi : X.N[i]? = some n := by rfl) (hln : X.env.kindOf n = some .local := by rfl) (hsw : swapsWith e none pp.line X.env = pure false := by rfl) :
    Es X Γ (.Try [.Expr e pp] [.ExceptHandler (some (.Name xn np)) (some n) (b0 :: suite) pos'] [] [] pos) (.rt d Γ2) := by
  refine ps_imp (ps_try_as (i := i) (tb := fun W => fun D σ H => ∃ F, EnvOk X.K F H σ Γ ∧ Ext F H ∧ ∀ F' H', Gr F H (Own σ Γ) F' H' (Own σ Γ1) → EnvOk X.K F' H' σ Γ1 → W (.ref C) none σ H') (ts := fun a cls d0 => fun D σ H => tS X.K Γ1 (.rt d Γ2) D σ H) (Wout := fun _ _ _ _ => False) hs hf hN hi hln hc takes0
    (fun W pn xe tk _ => pss_one (ps_imp (ps_expr (X := X.tr pn xe) (hb W pn xe tk) hsw) fun D σ H hh => hh))
    (fun a oe cls d0 pn _ _ => ⟨fun pins s σ H D I h => (hsu a _).run pins s σ H D I h⟩)) fun D σ H ⟨F0, ev, xt, kk⟩ => ?_
  refine ⟨F0, ev, xt, fun F' H' g e => ⟨true, hexm, fun _ a na => ⟨F', ?_, g.fh, ?_⟩, fun z => by cases z⟩⟩
  · exact e.agree hv (wipe_set (List.mem_singleton.mpr rfl)).symm
  · intro v σ' F2 H2 g2 e2 dv'
    refine kk v σ' F2 H2 ?_ e2 dv'
    exact (g.right fun a q => own_agree hv (wipe_set (List.mem_singleton.mpr rfl)) q).trans g2
end
end DL
end

section
namespace DL
open PySem PySem.Spec PyProof.Rows L2 RM
section
variable {P : Program} {w : World} {K : PySem.W.Frag} {mg : Str → Option Value} {base : Heap} {C : Addr}
def R_bad_number (ds : List PyData) (od : Option PyData) : Prop := ∃ v, ∃ m : Nat, (∀ x, v ≠ .dict x) ∧ isNum v 1 m = false ∧ ds = [v, iN m] ∧ od = none
theorem ok_check_numberX (EF : ErrF K mg "BadNumber" C) (F : Fn K mg "check_number" s_check_number ["value", "most"]) (C1 : Ca P w K mg base 1 "is_number" ["value", "least", "most"] (spD K R_is_number)) : CaX P w K mg base 2 "check_number" ["value", "most"] C R_bad_number := by
  have S := sc_check_number
  refine ca_X F S (fun ds d ⟨_, _, _, _, e, _⟩ => by rw [e]; rfl) (fun f cdv A outer s H E ds d hr ⟨_, _, _, _, _, e⟩ => by cases e) (fun f cdv A outer s H E ds hr ⟨v, m, hv, hb, e1, _⟩ => ?_)
  subst e1
  exact rx_if (et_is (et_not (et_val (ee_ca C1 hr (ea_cons (ee_var 0) (ea_cons ee_int (ea_cons (ee_var 1) ea_nil))) ⟨v, 1, m, rfl, hv, rfl⟩))) (by rw [hb]; rfl)) (rx_raise rfl (takes_of rfl rfl rfl rfl) (pmk_zero PySem.F.excBase_ValueError EF.q EF.m EF.k (raises_own EF.s EF.t)))
/-- one argument that is no number up to most -/
def R_bad1 (most : Int) (ds : List PyData) (od : Option PyData) : Prop := ∃ v, (∀ x, v ≠ .dict x) ∧ isNum v 1 most = false ∧ ds = [v] ∧ od = none
end
end DL
end

section
namespace DL
open PySem PySem.Spec PyProof.Rows L2 RM
abbrev N_all_pairs : List Str := ["halls", "x", "y"]
section
variable {P : Program} {w : World} {K : PySem.W.Frag} {mg : Str → Option Value} {base : Heap}
def R_all_pairs (ds : List PyData) (d : PyData) : Prop := ∃ n : Nat, ds = [iN n] ∧ n ≤ 9 ∧ d = .list ((allPairs n).map pN)
end
end DL
end

section
namespace DL
open PySem PySem.Spec PyProof.Rows L2 RM

abbrev s_are_pairs : Stmt := topS 14
abbrev N_are_pairs : List Str := ["value", "halls", "x", "y"]
theorem sc_are_pairs : FnScope N_are_pairs ["value", "halls"] (defScope s_are_pairs) := ⟨rfl, rfl, rfl, by decide +kernel, rfl, by decide +kernel, by decide +kernel⟩

abbrev s_wrong_part : Stmt := topS 16
abbrev N_wrong_part : List Str := ["value", "part", "halls", "pairs"]
theorem sc_wrong_part : FnScope N_wrong_part ["value"] (defScope s_wrong_part) := ⟨rfl, rfl, rfl, by decide +kernel, rfl, by decide +kernel, by decide +kernel⟩

abbrev s_check_net : Stmt := topS 17
abbrev N_check_net : List Str := ["value", "part"]
theorem sc_check_net : FnScope N_check_net ["value"] (defScope s_check_net) := ⟨rfl, rfl, rfl, by decide +kernel, rfl, by decide +kernel, by decide +kernel⟩
section
variable {P : Program} {w : World} {K : PySem.W.Frag} {mg : Str → Option Value} {base : Heap}

/-- a net of n halls -/
def IsNet (n : Nat) (S : List (Nat × Nat)) : Prop := (S.Pairwise fun a b => pLt a b = true) ∧ ∀ p ∈ S, p ∈ allPairs n
theorem IsNet.len {n : Nat} {S : List (Nat × Nat)} (h : IsNet n S) (h9 : n ≤ 9) : S.length ≤ 81 :=
  Nat.le_trans ((asc_nodup ordP h.1).length_le_of_subset (l₂ := allPairs n) fun x hx => h.2 x hx) (allPairs_len n h9)
theorem net_ways {n : Nat} {S : List (Nat × Nat)} (h9 : n ≤ 9) (h : IsNet n S) : areWaysD (rN S) (n : Int) = true := ways_good h.1 fun p hp => by
  have := mem_allPairs.mp (h.2 p hp)
  omega
def R_are_pairs (ds : List PyData) (d : PyData) : Prop := ∃ n S, n ≤ 9 ∧ IsNet n S ∧ ds = [rN S, iN n] ∧ d = .bool true
theorem ok_are_pairs (T : Tx mg) (F : Fn K mg "are_pairs" s_are_pairs ["value", "halls"]) (C : Ca P w K mg base 3 "are_ways" ["value", "halls"] (spD K R_are_ways)) : Ca P w K mg base 4 "are_pairs" ["value", "halls"] (spD K R_are_pairs) := by
  have S := sc_are_pairs
  refine ca_Er F S (fun ds d ⟨_, _, _, _, e, _⟩ => by rw [e]; rfl) fun f cdv A outer s H E ds d hr ⟨n, Q, h9, hq, e1, e2⟩ => ?_
  subst e1 e2
  have hw := net_ways h9 hq
  have hl := hq.len h9
  refine er_is (er_ret (ee_and (ee_ca C hr (ea_cons (ee_var 0) (ea_cons (ee_var 1) ea_nil)) ⟨_, (n : Int), rfl, sh_rN Q, (fun xs e => by cases e; rw [List.length_map]; omega), rfl⟩) fun _ => ee_one (ee_all (bs := Q.map fun p => decide ((p.1 : Int) < p.2)) rfl T.all (ea_cons (ee_is (ee_new (en_lc (own := [("x", 2), ("y", 3)]) Q pN (fun _ => true) (fun p => .bool (decide ((p.1 : Int) < p.2))) (fun p => ((slots0 N_are_pairs [rN Q, iN n]).set 2 (some (.im (iN p.1)))).set 3 (some (.im (iN p.2)))) [2, 3] rfl S.nd (blkOk_by (N := N_are_pairs) (sc := defScope s_are_pairs) (by decide +kernel)) rfl (by decide) (by omega) (fun x _ => less_set2 rfl)
    (ei_tup (ee_var 0)) (fun x hx _ _ _ _ _ => (eg_tup2 rfl (eg_name 2 S.nd) (eg_name 3 S.nd))) (fun x hx _ _ _ _ _ => ets_nil) (fun x hx hf _ _ _ _ _ => (ee_lt (ee_var 2) (ee_var 3))))) ?its) ea_nil)))) ?fin
  case its => rw [List.filter_eq_self.mpr (fun _ _ => rfl), List.map_map]; rfl
  case fin =>
    rw [hw, Bool.true_and]
    congr 1
    rw [List.all_eq_true]
    intro b hb
    obtain ⟨p, hp, rfl⟩ := List.mem_map.mp hb
    have := mem_allPairs.mp (hq.2 p hp)
    show decide _ = true
    rw [decide_eq_true (by omega)]
def R_wrong_part (ds : List PyData) (d : PyData) : Prop := ∃ n S, 1 ≤ n ∧ n ≤ 9 ∧ IsNet n S ∧ ds = [nN n S] ∧ d = .none
theorem ok_wrong_part (F : FnA K mg "wrong_part" "wrong_part" s_wrong_part ["value"]) (C : Ca P w K mg base 2 "wrong_frame" ["value"] (spD K R_wrong_frame)) (C2 : Ca P w K mg base 4 "are_pairs" ["value", "halls"] (spD K R_are_pairs)) : Ca P w K mg base 5 "wrong_part" ["value"] (spD K R_wrong_part) := by
  have S := sc_wrong_part
  refine caA_Er F S (fun ds d ⟨_, _, _, _, _, e, _⟩ => by rw [e]; rfl) fun f cdv A outer s H E ds d hr ⟨n, Q, h1, h9, hq, e1, e2⟩ => ?_
  subst e1 e2
  refine er_cons (es_set 1 S.nd (ee_ca C hr (ea_cons (ee_var 0) ea_nil) ⟨_, rfl, sh_nN n Q, (frame_good h1 h9).symm⟩)) ?_
  refine er_ifF (et_is (et_notN (ee_var 1) ee_non) rfl) ?_
  refine er_cons (es_asg (ee_var 0) (eg_tup2 rfl (eg_name 2 S.nd) (eg_name 3 S.nd))) ?_
  exact er_ifF (et_is (et_not (et_val (ee_ca C2 hr (ea_cons (ee_var 3) (ea_cons (ee_var 2) ea_nil)) ⟨n, Q, h9, hq, rfl, rfl⟩))) rfl) (er_ret ee_non)
def R_check_net (ds : List PyData) (d : PyData) : Prop := R_wrong_part ds d
theorem ok_check_net (F : Fn K mg "check_net" s_check_net ["value"]) (C : Ca P w K mg base 5 "wrong_part" ["value"] (spD K R_wrong_part)) : Ca P w K mg base 6 "check_net" ["value"] (spD K R_check_net) := by
  have S := sc_check_net
  refine ca_Ez F S (fun ds d ⟨_, _, _, _, _, e, _⟩ => by rw [e]; rfl) fun f cdv A outer s H E ds d hr ⟨n, Q, h1, h9, hq, e1, e2⟩ => ?_
  subst e1 e2
  refine ⟨rfl, ?_⟩
  refine ez_cons (es_set 1 S.nd (ee_ca C hr (ea_cons (ee_var 0) ea_nil) ⟨n, Q, h1, h9, hq, rfl, rfl⟩)) ?_
  exact ez_ifF (et_is (et_notN (ee_var 1) ee_non) rfl) ez_nil
end
end DL
end

section
/-! The search for a turn. -/
namespace RM
def tbB (W : List (Nat × Nat)) (x y : Nat) : Bool := decide ((x, y) ∈ W)
def stepOk (W : List (Nat × Nat)) (t : List Nat) (h o : Nat) : Bool := !((tbB W o t.length == tbB W (at_ t o) h) || (tbB W t.length o == tbB W h (at_ t o)))
def goB (W : List (Nat × Nat)) (t : List Nat) (h : Nat) : Bool := !decide (h ∈ t) && (List.range t.length).all (stepOk W t h)
def finM (W : List (Nat × Nat)) (n : Nat) : Nat → List Nat → Option (List Nat)
  | 0, t => some t
  | k + 1, t => (List.range n).findSome? fun h => if goB W t h = true then finM W n k (t ++ [h]) else none
/-- t is one to one and leads all ways of its halls -/
def Comp (W : List (Nat × Nat)) (t : List Nat) : Prop := t.Nodup ∧ ∀ a b, a < t.length → b < t.length → a ≠ b → tbB W a b ≠ tbB W (at_ t a) (at_ t b)
theorem at_snoc_lt {t : List Nat} {h a : Nat} (ha : a < t.length) : at_ (t ++ [h]) a = at_ t a := by
  unfold at_
  rw [List.getD_eq_getElem?_getD, List.getElem?_append_left ha, List.getD_eq_getElem?_getD]
theorem at_snoc_len {t : List Nat} {h : Nat} : at_ (t ++ [h]) t.length = h := by
  unfold at_
  rw [List.getD_eq_getElem?_getD, List.getElem?_append_right (Nat.le_refl _), Nat.sub_self]; rfl
theorem comp_nil (W : List (Nat × Nat)) : Comp W [] := ⟨List.nodup_nil, fun a b ha => by cases ha⟩
theorem comp_snoc {W : List (Nat × Nat)} {t : List Nat} {h : Nat} (hc : Comp W t) : goB W t h = true ↔ Comp W (t ++ [h]) := by
  unfold goB
  rw [Bool.and_eq_true, List.all_eq_true, Bool.not_eq_true', decide_eq_false_iff_not]
  have hl : (t ++ [h]).length = t.length + 1 := by simp
  have st : ∀ o, stepOk W t h o = true ↔ tbB W o t.length ≠ tbB W (at_ t o) h ∧ tbB W t.length o ≠ tbB W h (at_ t o) := fun o => by
    unfold stepOk
    rw [Bool.not_eq_true', Bool.or_eq_false_iff, beq_eq_false_iff_ne, beq_eq_false_iff_ne]
  constructor
  · rintro ⟨h1, h2⟩
    refine ⟨?_, fun a b ha hb hab => ?_⟩
    · rw [List.nodup_append]
      exact ⟨hc.1, by simp, fun x hx y hy e => h1 (by rw [List.mem_singleton.mp hy] at e; rw [← e]; exact hx)⟩
    · rw [hl] at ha hb
      by_cases ea : a = t.length
      · have hb' : b < t.length := by omega
        subst ea
        rw [at_snoc_len, at_snoc_lt hb']
        exact ((st b).mp (h2 b (List.mem_range.mpr hb'))).2
      · have ha' : a < t.length := by omega
        by_cases eb : b = t.length
        · subst eb
          rw [at_snoc_len, at_snoc_lt ha']
          exact ((st a).mp (h2 a (List.mem_range.mpr ha'))).1
        · have hb' : b < t.length := by omega
          rw [at_snoc_lt ha', at_snoc_lt hb']
          exact hc.2 a b ha' hb' hab
  · rintro ⟨h1, h2⟩
    refine ⟨fun hm => ?_, fun o ho => ?_⟩
    · rw [List.nodup_append] at h1
      exact h1.2.2 h hm h (by simp) rfl
    · have ho := List.mem_range.mp ho
      have a1 := h2 o t.length (by omega) (by omega) (by omega)
      have a2 := h2 t.length o (by omega) (by omega) (by omega)
      rw [at_snoc_len, at_snoc_lt ho] at a1 a2
      exact (st o).mpr ⟨a1, a2⟩
theorem fin_some {W : List (Nat × Nat)} {n : Nat} : ∀ {k : Nat} {t u : List Nat}, finM W n k t = some u → Comp W t → (∀ x ∈ t, x < n) → u.length = t.length + k ∧ Comp W u ∧ ∀ x ∈ u, x < n
  | 0, t, u, h, hc, hb => by
    cases h
    exact ⟨rfl, hc, hb⟩
  | k + 1, t, u, h, hc, hb => by
    obtain ⟨x, hx, he⟩ := List.exists_of_findSome?_eq_some h
    have hxn := List.mem_range.mp hx
    by_cases hg : goB W t x = true
    · rw [if_pos hg] at he
      obtain ⟨h1, h2, h3⟩ := fin_some he ((comp_snoc hc).mp hg) (fun y hy => by
        rcases List.mem_append.mp hy with z | z
        · exact hb y z
        · rw [List.mem_singleton.mp z]; exact hxn)
      refine ⟨?_, h2, h3⟩
      rw [h1]; simp; omega
    · rw [if_neg hg] at he; cases he
theorem fin_none {W : List (Nat × Nat)} {n : Nat} : ∀ {k : Nat} {t : List Nat}, finM W n k t = none → Comp W t → ∀ v : List Nat, v.length = k → (∀ x ∈ v, x < n) → ¬ Comp W (t ++ v)
  | 0, t, h, _, _, _, _ => by cases h
  | k + 1, t, h, hc, v, hv, hb => by
    intro hcv
    obtain ⟨x, v', rfl⟩ : ∃ x v', v = x :: v' := by
      cases v with
      | nil => cases hv
      | cons x v' => exact ⟨x, v', rfl⟩
    have hx := hb x List.mem_cons_self
    have he := List.findSome?_eq_none_iff.mp h x (List.mem_range.mpr hx)
    have e : t ++ x :: v' = (t ++ [x]) ++ v' := by simp
    rw [e] at hcv
    have hpre : Comp W (t ++ [x]) := by
      refine ⟨hcv.1.sublist (List.sublist_append_left _ _), fun a b ha hb' hab => ?_⟩
      have hl : (t ++ [x] ++ v').length = (t ++ [x]).length + v'.length := List.length_append
      have at_ap : ∀ c, c < (t ++ [x]).length → at_ (t ++ [x] ++ v') c = at_ (t ++ [x]) c := fun c hc' => by
        unfold at_
        rw [List.getD_eq_getElem?_getD, List.getElem?_append_left hc', List.getD_eq_getElem?_getD]
      have := hcv.2 a b (by omega) (by omega) hab
      rw [at_ap a ha, at_ap b hb'] at this
      exact this
    have hg : goB W t x = true := (comp_snoc hc).mpr hpre
    rw [if_pos hg] at he
    exact fin_none he hpre v' (by simpa using hv) (fun y hy => hb y (List.mem_cons_of_mem _ hy)) hcv
def findM (W : List (Nat × Nat)) (n : Nat) : Option (List Nat) := finM W n n []
theorem find_some {W : List (Nat × Nat)} {n : Nat} {u : List Nat} (h : findM W n = some u) : u.length = n ∧ Comp W u ∧ ∀ x ∈ u, x < n := by
  have := fin_some h (comp_nil W) (fun x hx => by cases hx)
  simpa using this
theorem find_none {W : List (Nat × Nat)} {n : Nat} (h : findM W n = none) {u : List Nat} (hl : u.length = n) (hb : ∀ x ∈ u, x < n) : ¬ Comp W u := by
  have := fin_none h (comp_nil W) u hl hb
  simpa using this
theorem find_turn {W : List (Nat × Nat)} {n : Nat} {u : List Nat} (h1 : 1 ≤ n) (h9 : n ≤ 9) (h : findM W n = some u) : IsTurn u ∧ u.length = n := by
  obtain ⟨a, b, c⟩ := find_some h
  exact ⟨⟨by omega, by omega, b.1, by rw [a]; exact c⟩, a⟩
/-- a turn leads a one-way net exactly if it leads all its ways -/
theorem leads_comp {t : List Nat} (ht : IsTurn t) (W : List (Nat × Nat)) : G.leadsE (allWays t.length) (ledWay t) W = true ↔ Comp W t := by
  rw [G.leadsB_iff]
  unfold Comp G.Alt
  constructor
  · intro h
    refine ⟨ht.2.2.1, fun a b ha hb hab e => ?_⟩
    have := h (a, b) (mem_ways.mpr ⟨ha, hb, hab⟩)
    unfold tbB at e
    have e := decide_eq_decide.mp e
    have e2 : ((a, b) ∈ W ↔ ledWay t (a, b) ∈ W) := e
    by_cases h1 : (a, b) ∈ W
    · exact (this.mp h1) (e2.mp h1)
    · exact h1 (this.mpr fun z => h1 (e2.mpr z))
  · rintro ⟨_, h⟩ p hp
    obtain ⟨h1, h2, h3⟩ := mem_ways.mp hp
    have := h p.1 p.2 h1 h2 h3
    unfold tbB at this
    have this : ¬ ((p.1, p.2) ∈ W ↔ (at_ t p.1, at_ t p.2) ∈ W) := fun z => this (decide_eq_decide.mpr z)
    show p ∈ W ↔ ledWay t p ∉ W
    have e : (at_ t p.1, at_ t p.2) = ledWay t p := rfl
    rw [e] at this
    by_cases a : p ∈ W <;> by_cases b : ledWay t p ∈ W <;> simp [a, b] at this ⊢
end RM
namespace RM
/-- all turns of the first i halls of n, the law's way -/
def growT (n : Nat) (t : List Nat) : List (List Nat) := ((List.range n).filter fun h => !decide (h ∈ t)).map fun h => t ++ [h]
def turnsTo (n : Nat) : Nat → List (List Nat)
  | 0 => [[]]
  | i + 1 => (turnsTo n i).flatMap (growT n)
theorem mem_turnsTo {n : Nat} : ∀ {i : Nat} {t : List Nat}, t ∈ turnsTo n i ↔ t.length = i ∧ t.Nodup ∧ ∀ x ∈ t, x < n
  | 0, t => by
    show t ∈ [[]] ↔ _
    rw [List.mem_singleton]
    constructor
    · rintro rfl; exact ⟨rfl, List.nodup_nil, fun x h => by cases h⟩
    · rintro ⟨h, _, _⟩; exact List.length_eq_zero_iff.mp h
  | i + 1, t => by
    show t ∈ (turnsTo n i).flatMap (growT n) ↔ _
    rw [List.mem_flatMap]
    constructor
    · rintro ⟨u, hu, ht⟩
      obtain ⟨h1, h2, h3⟩ := mem_turnsTo.mp hu
      obtain ⟨h, hh, rfl⟩ := List.mem_map.mp ht
      obtain ⟨a, b⟩ := List.mem_filter.mp hh
      have b : h ∉ u := by simpa using b
      refine ⟨by simp [h1], ?_, fun x hx => ?_⟩
      · rw [List.nodup_append]
        exact ⟨h2, by simp, fun x hx y hy e => b (by rw [List.mem_singleton.mp hy] at e; rw [← e]; exact hx)⟩
      · rcases List.mem_append.mp hx with z | z
        · exact h3 x z
        · rw [List.mem_singleton.mp z]; exact List.mem_range.mp a
    · rintro ⟨h1, h2, h3⟩
      have hne : t ≠ [] := fun e => by rw [e] at h1; cases h1
      obtain ⟨u, h, rfl⟩ : ∃ u h, t = u ++ [h] := ⟨t.dropLast, t.getLast hne, (List.dropLast_concat_getLast hne).symm⟩
      rw [List.nodup_append] at h2
      refine ⟨u, mem_turnsTo.mpr ⟨by simpa using h1, h2.1, fun x hx => h3 x (List.mem_append_left _ hx)⟩, List.mem_map.mpr ⟨h, List.mem_filter.mpr ⟨List.mem_range.mpr (h3 h (by simp)), ?_⟩, rfl⟩⟩
      have : h ∉ u := fun hm => h2.2.2 h hm h (by simp) rfl
      simp [this]
theorem growT_len (n : Nat) (t : List Nat) : (growT n t).length ≤ n := by
  unfold growT
  rw [List.length_map]
  exact Nat.le_trans (List.length_filter_le _ _) (by rw [List.length_range]; exact Nat.le_refl n)
theorem grow_len (n : Nat) : ∀ F : List (List Nat), (F.flatMap (growT n)).length ≤ n * F.length
  | [] => Nat.le_refl _
  | t :: F => by
    rw [List.flatMap_cons, List.length_append, List.length_cons, Nat.mul_succ]
    have h1 := growT_len n t
    have h2 := grow_len n F
    omega
theorem turnsTo_len {n : Nat} (h : n ≤ 5) : ∀ i, (turnsTo n i).length ≤ 5 ^ i
  | 0 => Nat.le_refl 1
  | i + 1 => by
    have h1 := grow_len n (turnsTo n i)
    have h2 := turnsTo_len h i
    show ((turnsTo n i).flatMap (growT n)).length ≤ _
    have h3 : n * (turnsTo n i).length ≤ 5 * 5 ^ i := Nat.mul_le_mul h h2
    rw [Nat.pow_succ, Nat.mul_comm]
    omega
theorem turns_all {n : Nat} (h1 : 1 ≤ n) (h9 : n ≤ 9) {t : List Nat} : t ∈ turnsTo n n ↔ IsTurn t ∧ t.length = n := by
  rw [mem_turnsTo]
  constructor
  · rintro ⟨a, b, c⟩
    exact ⟨⟨by omega, by omega, b, by rw [a]; exact c⟩, a⟩
  · rintro ⟨a, b⟩
    exact ⟨b, a.2.2.1, by rw [← b]; exact a.2.2.2⟩
end RM
end

section
/-! Nets drawn ring by ring. -/
namespace RM
def isIn (b : Bool) (k : Nat) : Bool := decide (k % 2 = 0) == b
theorem isIn_succ (b : Bool) (k : Nat) : isIn b (k + 1) = !isIn b k := by
  unfold isIn
  by_cases h : k % 2 = 0
  · rw [decide_eq_true h, decide_eq_false (by omega : ¬ (k + 1) % 2 = 0)]; cases b <;> rfl
  · rw [decide_eq_false h, decide_eq_true (by omega : (k + 1) % 2 = 0)]; cases b <;> rfl
/-- every other thing of a ring, from the first or the second -/
def pkN {α : Type} (f : α → α) (p : α) (b : Bool) (k : Nat) : List α := ((List.range k).filter (isIn b)).map fun j => itr f j p
theorem pkN_succ {α : Type} (f : α → α) (p : α) (b : Bool) (k : Nat) : pkN f p b (k + 1) = pkN f p b k ++ (if isIn b k = true then [itr f k p] else []) := by
  unfold pkN
  rw [List.range_succ, List.filter_append, List.map_append]
  congr 1
  cases h : isIn b k <;> simp [h]
theorem pkN_sub {α : Type} (f : α → α) (p : α) (b : Bool) (k : Nat) : (pkN f p b k).Sublist (ringN f p k) := List.Sublist.map _ List.filter_sublist
def hdW (R : Nat × Nat → List (Nat × Nat)) (E : List (Nat × Nat)) (i : Nat) : Nat × Nat := (G.leftR R E i).headD (0, 0)
/-- what is drawn behind i rings -/
def mixW (f : Nat × Nat → Nat × Nat) (E : List (Nat × Nat)) (bs : Nat → Bool) : Nat → List (Nat × Nat)
  | 0 => []
  | i + 1 => mixW f E bs i ++ pkN f (hdW (G.ringE f E) E i) (bs i) (G.perE f E (hdW (G.ringE f E) E i))
theorem hdW_is {R : Nat × Nat → List (Nat × Nat)} {E : List (Nat × Nat)} {i : Nat} (h : G.leftR R E i ≠ []) : ∃ rest, G.leftR R E i = hdW R E i :: rest := by
  unfold hdW
  cases e : G.leftR R E i with
  | nil => exact absurd e h
  | cons p r => exact ⟨r, rfl⟩
theorem mix_inv {f : Nat × Nat → Nat × Nat} {E : List (Nat × Nat)} (Y : G.Sys pLt E f) (bs : Nat → Bool) : ∀ i, (∀ j, j < i → G.leftR (G.ringE f E) E j ≠ []) → (mixW f E bs i).Nodup ∧ ∀ x ∈ mixW f E bs i, x ∈ E ∧ ∃ h ∈ G.headsR (G.ringE f E) E i, x ∈ G.ringE f E h
  | 0, _ => ⟨List.nodup_nil, fun x h => by cases h⟩
  | i + 1, hj => by
    obtain ⟨h1, h2⟩ := mix_inv Y bs i fun j h => hj j (by omega)
    obtain ⟨rest, hw⟩ := hdW_is (hj i (Nat.lt_succ_self i))
    have hpl : hdW (G.ringE f E) E i ∈ G.leftR (G.ringE f E) E i := by rw [hw]; exact List.mem_cons_self
    have hh : G.headsR (G.ringE f E) E (i + 1) = G.headsR (G.ringE f E) E i ++ [hdW (G.ringE f E) E i] := by
      show _ ++ (G.leftR (G.ringE f E) E i).take 1 = _
      rw [hw]; rfl
    show (mixW f E bs i ++ _).Nodup ∧ ∀ x ∈ mixW f E bs i ++ _, _
    rw [hh]
    generalize hdW (G.ringE f E) E i = p at *
    obtain ⟨hpE, hpn⟩ := (G.mem_left i p).mp hpl
    have hsub : (pkN f p (bs i) (G.perE f E p)).Sublist (G.ringE f E p) := pkN_sub _ _ _ _
    constructor
    · rw [List.nodup_append]
      refine ⟨h1, (G.ringE_nodup Y hpE).sublist hsub, fun x hx y hy e => ?_⟩
      subst e
      obtain ⟨hxE, h, hhd, hxh⟩ := h2 x hx
      exact hpn h hhd (G.ring_trans Y (G.heads_mem _ _ _ _ hhd) hxh (G.ring_sym Y hpE (hsub.subset hy)))
    · intro x hx
      rcases List.mem_append.mp hx with z | z
      · obtain ⟨a, h, b, c⟩ := h2 x z
        exact ⟨a, h, List.mem_append_left _ b, c⟩
      · have hr := hsub.subset z
        exact ⟨G.ring_in Y hpE hr, p, by simp, hr⟩
end RM
end

section
/-! Nets, searched as one-way nets that go to and fro. -/
namespace RM
def symW (S : List (Nat × Nat)) : List (Nat × Nat) := S ++ S.map fun p => (p.2, p.1)
theorem mem_sym {S : List (Nat × Nat)} {x y : Nat} : (x, y) ∈ symW S ↔ (x, y) ∈ S ∨ (y, x) ∈ S := by
  unfold symW
  rw [List.mem_append, List.mem_map]
  constructor
  · rintro (h | ⟨p, hp, e⟩)
    · exact .inl h
    · cases e; exact .inr hp
  · rintro (h | h)
    · exact .inl h
    · exact .inr ⟨(y, x), h, rfl⟩
theorem sym_lt {n : Nat} {S : List (Nat × Nat)} (hm : ∀ p ∈ S, p ∈ allPairs n) {x y : Nat} (h : x < y) : ((x, y) ∈ symW S ↔ (x, y) ∈ S) ∧ ((y, x) ∈ symW S ↔ (x, y) ∈ S) := by
  have no : (y, x) ∉ S := fun z => by
    have := mem_allPairs.mp (hm _ z)
    simp only at this
    omega
  constructor
  · rw [mem_sym]; exact ⟨fun z => z.resolve_right no, .inl⟩
  · rw [mem_sym]; exact ⟨fun z => z.resolve_left no, .inr⟩
/-- (x, y) to and fro is the pair of the two -/
theorem sym_pair {n : Nat} {S : List (Nat × Nat)} (hm : ∀ p ∈ S, p ∈ allPairs n) {x y : Nat} (h : x ≠ y) : (x, y) ∈ symW S ↔ (min x y, max x y) ∈ S := by
  rcases Nat.lt_or_gt_of_ne h with h | h
  · rw [Nat.min_eq_left (Nat.le_of_lt h), Nat.max_eq_right (Nat.le_of_lt h)]
    exact (sym_lt hm h).1
  · rw [Nat.min_eq_right (Nat.le_of_lt h), Nat.max_eq_left (Nat.le_of_lt h)]
    exact (sym_lt hm h).2
theorem comp_pairs {t : List Nat} (ht : IsTurn t) {S : List (Nat × Nat)} (hm : ∀ p ∈ S, p ∈ allPairs t.length) : G.Alt (allPairs t.length) (ledPair t) S ↔ Comp (symW S) t := by
  have ne : ∀ a b, a < t.length → b < t.length → a ≠ b → at_ t a ≠ at_ t b := fun a b ha hb h e => h (at_inj ht a (List.mem_range.mpr ha) b (List.mem_range.mpr hb) e)
  constructor
  · intro h
    refine ⟨ht.2.2.1, fun a b ha hb hab e => ?_⟩
    have e : ((a, b) ∈ symW S ↔ (at_ t a, at_ t b) ∈ symW S) := decide_eq_decide.mp e
    rw [sym_pair hm hab, sym_pair hm (ne a b ha hb hab)] at e
    have hp : (min a b, max a b) ∈ allPairs t.length := mkPair ha hb hab
    have hh := h _ hp
    have el : ledPair t (min a b, max a b) = (min (at_ t a) (at_ t b), max (at_ t a) (at_ t b)) := by
      unfold ledPair
      rcases Nat.lt_or_gt_of_ne hab with z | z
      · rw [Nat.min_eq_left (Nat.le_of_lt z), Nat.max_eq_right (Nat.le_of_lt z)]
      · rw [Nat.min_eq_right (Nat.le_of_lt z), Nat.max_eq_left (Nat.le_of_lt z), Nat.min_comm, Nat.max_comm]
    rw [el] at hh
    by_cases c : (min a b, max a b) ∈ S
    · exact (hh.mp c) (e.mp c)
    · exact c (hh.mpr fun z => c (e.mpr z))
  · rintro ⟨_, h⟩ p hp
    obtain ⟨h1, h2⟩ := mem_allPairs.mp hp
    have hx : p.1 < t.length := by omega
    have hab : p.1 ≠ p.2 := by omega
    have := h p.1 p.2 hx h2 hab
    have this : ¬ ((p.1, p.2) ∈ symW S ↔ (at_ t p.1, at_ t p.2) ∈ symW S) := fun z => this (decide_eq_decide.mpr z)
    rw [sym_pair hm hab, sym_pair hm (ne _ _ hx h2 hab), Nat.min_eq_left (by omega), Nat.max_eq_right (by omega)] at this
    show p ∈ S ↔ ledPair t p ∉ S
    have e : (min (at_ t p.1) (at_ t p.2), max (at_ t p.1) (at_ t p.2)) = ledPair t p := rfl
    rw [e] at this
    by_cases a : p ∈ S <;> by_cases b : ledPair t p ∈ S <;> simp [a, b] at this ⊢
/-- how many halls a hall is joined to -/
def degM (S : List (Nat × Nat)) (h : Nat) : Nat := S.countP fun p => decide (p.1 = h) || decide (p.2 = h)
def degs (n : Nat) (S : List (Nat × Nat)) : List Nat := (List.range n).map (degM S)
theorem degs_step {n : Nat} {S : List (Nat × Nat)} {i : Nat} (hi : i < S.length) {x y : Nat} (hx : S[i] = (x, y)) (hxy : x ≠ y) (hxn : x < n) (hyn : y < n) :
    ((degs n (S.take i)).set x (degM (S.take i) x + 1)).set y (degM (S.take i) y + 1) = degs n (S.take (i + 1)) := by
  have st : ∀ h, degM (S.take (i + 1)) h = degM (S.take i) h + (if x = h ∨ y = h then 1 else 0) := fun h => by
    unfold degM
    rw [List.take_add_one, List.getElem?_eq_getElem hi, List.countP_append]
    congr 1
    show List.countP _ [S[i]] = _
    rw [hx]
    by_cases a : x = h <;> by_cases b : y = h <;> simp [a, b]
  apply List.ext_getElem
  · simp [degs]
  · intro j h1 h2
    have hj : j < n := by simpa [degs] using h2
    rw [List.getElem_set, List.getElem_set]
    simp only [degs, List.getElem_map, List.getElem_range, st j]
    by_cases a : y = j
    · subst a; simp
    · by_cases b : x = j
      · subst b; simp [a]
      · simp [a, b]
end RM
end

section
namespace DL
open PySem PySem.Spec PyProof.Rows L2 RM
abbrev N_is_net : List Str := ["value"]
abbrev N_rest : List Str := ["net", "halls", "pairs", "pair"]
abbrev N_friends : List Str := ["net", "halls", "pairs", "counts", "x", "y"]
section
variable {P : Program} {w : World} {K : PySem.W.Frag} {mg : Str → Option Value} {base : Heap}
def R_is_net (ds : List PyData) (d : PyData) : Prop := ∃ n S, 1 ≤ n ∧ n ≤ 9 ∧ IsNet n S ∧ ds = [nN n S] ∧ d = .bool true
def R_rest (ds : List PyData) (d : PyData) : Prop := ∃ n S, 1 ≤ n ∧ n ≤ 9 ∧ IsNet n S ∧ ds = [nN n S] ∧ d = nN n (leftLot (allPairs n) S)
def R_friends (ds : List PyData) (d : PyData) : Prop := ∃ n S, 1 ≤ n ∧ n ≤ 9 ∧ IsNet n S ∧ ds = [nN n S] ∧ d = tn (degs n S)
end
end DL
end

section
namespace DL
open PySem PySem.Spec PyProof.Rows L2 RM
abbrev N_led_pair : List Str := ["turn", "pair", "x", "y"]
abbrev N_leads : List Str := ["turn", "net", "halls", "pairs", "pair"]
section
variable {P : Program} {w : World} {K : PySem.W.Frag} {mg : Str → Option Value} {base : Heap}
def R_led_pair (ds : List PyData) (d : PyData) : Prop := ∃ (t : List Nat) (p : Nat × Nat), p.1 < t.length ∧ p.2 < t.length ∧ ds = [tn t, pN p] ∧ d = pN (ledPair t p)
def leadsM (t : List Nat) (S : List (Nat × Nat)) : Bool := (allPairs t.length).all fun p => decide (p ∈ S) != decide (ledPair t p ∈ S)
def R_leads (ds : List PyData) (d : PyData) : Prop := ∃ (t : List Nat) (S : List (Nat × Nat)), IsTurn t ∧ IsNet t.length S ∧ ds = [tn t, nN t.length S] ∧ d = .bool (leadsM t S)
end
end DL
end

section
namespace DL
open PySem PySem.Spec PyProof.Rows L2 RM
abbrev s_both_ways : Stmt := topS 10
abbrev N_both_ways : List Str := ["pairs", "x", "y"]
theorem sc_both_ways : FnScope N_both_ways ["pairs"] (defScope s_both_ways) := ⟨rfl, rfl, rfl, by decide +kernel, rfl, by decide +kernel, by decide +kernel⟩
section
variable {P : Program} {w : World} {K : PySem.W.Frag} {mg : Str → Option Value} {base : Heap}
def R_both (ds : List PyData) (d : PyData) : Prop := ∃ Q : List (Nat × Nat), Q.length ≤ 1000 ∧ ds = [rN Q] ∧ d = rN (symW Q)
theorem ok_both (T : Tx mg) (F : Fn K mg "both_ways" s_both_ways ["pairs"]) : Ca P w K mg base 1 "both_ways" ["pairs"] (spD K R_both) := by
  have S := sc_both_ways
  refine ca_Er F S (fun ds d ⟨_, _, e, _⟩ => by rw [e]; rfl) fun f cdv A outer s H E ds d hr ⟨Q, hl, e1, e2⟩ => ?_
  subst e1 e2
  refine er_is (er_ret (ee_catT (ds := Q.map pN) (ds2 := (Q.filter fun _ => true).map fun p => pN (p.2, p.1)) (ee_var 0) (ee_tupL T.tuple (ea_cons (ee_new (en_lc (own := [("x", 1), ("y", 2)]) Q pN (fun _ => true) (fun p => pN (p.2, p.1)) (fun p => ((slots0 N_both_ways [rN Q]).set 1 (some (.im (iN p.1)))).set 2 (some (.im (iN p.2)))) [1, 2] rfl S.nd (blkOk_by (N := N_both_ways) (sc := defScope s_both_ways) (by decide +kernel)) rfl (by decide) (by omega) (fun x _ => less_set2 rfl)
    (ei_tup (ee_var 0)) (fun x hx _ _ _ _ _ => (eg_tup2 rfl (eg_name 1 S.nd) (eg_name 2 S.nd))) (fun x hx _ _ _ _ _ => ets_nil) (fun x hx hf _ _ _ _ _ => (ee_tup (ds := [iN x.2, iN x.1]) (ea_cons (ee_var 2) (ea_cons (ee_var 1) ea_nil)) (by simp))))) ea_nil)) ?hl)) ?sy
  case hl =>
    rw [List.length_map, List.length_map]
    have := List.length_filter_le (fun _ : Nat × Nat => true) Q
    omega
  case sy =>
    show PyData.tuple (Q.map pN ++ (Q.filter fun _ => true).map fun p => pN (p.2, p.1)) = PyData.tuple ((Q ++ Q.map fun p => (p.2, p.1)).map pN)
    rw [List.filter_eq_self.mpr (fun _ _ => rfl), List.map_append, List.map_map]; rfl
end
end DL
end

section
namespace DL
open PySem PySem.Spec PyProof.Rows L2 RM
abbrev s_can_go_on : Stmt := topS 19
abbrev N_can_go_on : List Str := ["table", "turn", "hall", "new", "old", "led"]
theorem sc_can_go_on : FnScope N_can_go_on ["table", "turn", "hall"] (defScope s_can_go_on) := ⟨rfl, rfl, rfl, by decide +kernel, rfl, by decide +kernel, by decide +kernel⟩
abbrev s_finish_turn : Stmt := topS 20
abbrev N_finish_turn : List Str := ["table", "turn", "hall", "whole"]
theorem sc_finish_turn : FnScope N_finish_turn ["table", "turn"] (defScope s_finish_turn) := ⟨rfl, rfl, rfl, by decide +kernel, rfl, by decide +kernel, by decide +kernel⟩
abbrev s_find_turn : Stmt := topS 21
abbrev N_find_turn : List Str := ["halls", "ways", "table", "x", "y"]
theorem sc_find_turn : FnScope N_find_turn ["halls", "ways"] (defScope s_find_turn) := ⟨rfl, rfl, rfl, by decide +kernel, rfl, by decide +kernel, by decide +kernel⟩
section
variable {P : Program} {w : World} {K : PySem.W.Frag} {mg : Str → Option Value} {base : Heap}
/-- the table of ways -/
def rowW (n : Nat) (W : List (Nat × Nat)) (x : Nat) : PyData := .list ((List.range n).map fun y => .bool (tbB W x y))
def tabW (n : Nat) (W : List (Nat × Nat)) : PyData := .list ((List.range n).map (rowW n W))
theorem at_range {n : Nat} {f : Nat → PyData} {i : Nat} (h : i < n) : atI ((List.range n).map f) (i : Int) = some (f i) := atI_nat (by rw [List.getElem?_map, List.getElem?_range h]; rfl)
theorem ee_tab {X : Cx} {Γ : Gm} {a b c : Expr} {p1 p2 : Pos} {n i j : Nat} {W : List (Nat × Nat)} (ha : Ee X Γ a (tabW n W) Γ) (hb : Ee X Γ b (iN i) Γ) (hc : Ee X Γ c (iN j) Γ) (hi : i < n) (hj : j < n) (hs : PlainIx b := by exact fun _ _ => rfl) (hs2 : PlainIx c := by exact fun _ _ => rfl) : Ee X Γ (.Subscript (.Subscript a b p1) c p2) (.bool (tbB W i j)) Γ :=
  ee_ixL (ds := (List.range n).map fun y => .bool (tbB W i y)) (ee_ixL (d := rowW n W i) ha hb (at_range hi) hs) hc (at_range hj) hs2
def R_can_go (ds : List PyData) (d : PyData) : Prop := ∃ n W t h, n ≤ 9 ∧ t.length < n ∧ (∀ x ∈ t, x < n) ∧ h < n ∧ ds = [tabW n W, tn t, iN h] ∧ d = .bool (goB W t h)
theorem ok_can_go (T : Tx mg) (F : Fn K mg "can_go_on" s_can_go_on ["table", "turn", "hall"]) : Ca P w K mg base 1 "can_go_on" ["table", "turn", "hall"] (spD K R_can_go) := by
  have S := sc_can_go_on
  refine ca_Er F S (fun ds d ⟨_, _, _, _, _, _, _, _, e, _⟩ => by rw [e]; rfl) fun f cdv A outer s H E ds d hr ⟨n, W, t, h, h9, hl, hb, hh, e1, e2⟩ => ?_
  subst e1 e2
  have hlen : (t.map iN).length = t.length := List.length_map ..
  by_cases hm : h ∈ t
  · have e : goB W t h = false := by unfold goB; rw [decide_eq_true hm]; rfl
    rw [e]
    refine er_ifT (et_is (et_in hr (ee_var 2) (ee_var 1) rfl (sh_iN h) (sh_iNs t)) ?ci) (er_ret ee_bl)
    case ci => rw [any_eqv iN_eqv]; simp [hm]
  · have e : goB W t h = (List.range t.length).all (stepOk W t h) := by unfold goB; rw [decide_eq_false hm]; rfl
    rw [e]
    refine er_ifF (et_is (et_in hr (ee_var 2) (ee_var 1) rfl (sh_iN h) (sh_iNs t)) ?cj) ?_
    case cj => rw [any_eqv iN_eqv]; simp [hm]
    refine er_cons (es_set (d := iN t.length) 3 S.nd (ee_is (ee_len T.len (ea_cons (ee_var 1) ea_nil) rfl) (by rw [hlen]; rfl))) ?_
    have hat : ∀ o, o < t.length → at_ t o < n := fun o ho => hb _ (by rw [at_getElem ho]; exact List.getElem_mem ho)
    have cond : ∀ o, o < t.length → ∀ q : Bool, (!stepOk W t h o) = q → Et (cxOf CX0 P w K mg base N_can_go_on "can_go_on" (defScope s_can_go_on) f cdv A outer s H E).nox (((((slots0 N_can_go_on [tabW n W, tn t, iN h]).set 3 (some (.im (iN t.length)))).set 4 (some (.im (iN o)))).set 5 (some (.im (iN (at_ t o)))))) (match stAt (forBody (stAt (defBody s_can_go_on) 2)) 0 with | .If c _ _ _ => c | _ => .Constant .none 0 ⟨0, 0, 0, 0⟩) q (((((slots0 N_can_go_on [tabW n W, tn t, iN h]).set 3 (some (.im (iN t.length)))).set 4 (some (.im (iN o)))).set 5 (some (.im (iN (at_ t o)))))) := fun o ho q hq => by
      have a := hat o ho
      refine et_is (et_w (ew_or (et_eqD hr (ee_tab (ee_var 0) (ee_var 4) (ee_var 3) (by omega) (by omega)) (ee_tab (ee_var 0) (ee_var 5) (ee_var 2) a hh) (sh_bool _) (sh_bool _)) fun _ => (ew_or1 (et_eqD hr (ee_tab (ee_var 0) (ee_var 3) (ee_var 4) (by omega) (by omega)) (ee_tab (ee_var 0) (ee_var 2) (ee_var 5) hh a) (sh_bool _) (sh_bool _))))) ?_
      rw [bool_eqv, bool_eqv, ← hq]
      unfold stepOk
      rw [Bool.not_not]
      cases tbB W o t.length <;> cases tbB W (at_ t o) h <;> cases tbB W t.length o <;> cases tbB W h (at_ t o) <;> rfl
    refine er_is (er_search (is := [4, 5]) (xs := List.range t.length) (enc := fun o => .tuple [iN o, iN (at_ t o)]) (f := stepOk W t h) (d1 := .bool false) (d2 := .bool true) (fun o => ((((slots0 N_can_go_on [tabW n W, tn t, iN h]).set 3 (some (.im (iN t.length)))).set 4 (some (.im (iN o)))).set 5 (some (.im (iN (at_ t o))))))
      (ei_is (ei_enumT T.enumerate (ee_var 1)) ?en) (fun o ho => eg_tup2 rfl (eg_name 4 S.nd) (eg_name 5 S.nd)) (fun o ho hf => ⟨_, ess_one (es_ifF (cond o (List.mem_range.mp ho) false (by rw [hf]; rfl)) ess_nil), less_set2 rfl⟩) (fun o ho hf => er_ifT (cond o (List.mem_range.mp ho) true (by rw [hf]; rfl)) (er_ret ee_bl)) (er_ret ee_bl)) ?fin
    case en =>
      rw [hlen]
      apply List.map_congr_left
      intro o ho
      have ho := List.mem_range.mp ho
      rw [List.getD_eq_getElem?_getD, List.getElem?_map, List.getElem?_eq_getElem ho, ← at_getElem ho]; rfl
    case fin => cases (List.range t.length).all (stepOk W t h) <;> rfl
/-- a turn, or None -/
def optD : Option (List Nat) → PyData
  | some t => tn t
  | none => .none
def R_finish (k : Nat) (ds : List PyData) (d : PyData) : Prop := ∃ n W t, n ≤ 9 ∧ t.length + k = n ∧ (∀ x ∈ t, x < n) ∧ ds = [tabW n W, tn t] ∧ d = optD (finM W n k t)
theorem first_some {α β : Type} (f : α → Option β) : ∀ l : List α, (l.findSome? f = none ∧ ∀ x ∈ l, f x = none) ∨ ∃ m, ∃ (hm : m < l.length), f l[m] = l.findSome? f ∧ (f l[m]).isSome = true ∧ ∀ i (hi : i < l.length), i < m → f l[i] = none
  | [] => .inl ⟨rfl, fun x h => by cases h⟩
  | x :: l => by
    cases hx : f x with
    | some b => exact .inr ⟨0, Nat.succ_pos _, by rw [List.findSome?_cons, hx]; exact hx, by show (f x).isSome = true; rw [hx]; rfl, fun i _ h => absurd h (Nat.not_lt_zero i)⟩
    | none =>
      have e : (x :: l).findSome? f = l.findSome? f := by rw [List.findSome?_cons, hx]
      rw [e]
      rcases first_some f l with ⟨h1, h2⟩ | ⟨m, hm, h1, h2, h3⟩
      · refine .inl ⟨h1, fun y hy => ?_⟩
        rcases List.mem_cons.mp hy with z | z
        · rw [z]; exact hx
        · exact h2 y z
      · refine .inr ⟨m + 1, Nat.succ_lt_succ hm, h1, h2, fun i hi him => ?_⟩
        cases i with
        | zero => exact hx
        | succ i => exact h3 i (by simpa using hi) (by omega)
theorem ok_finish (T : Tx mg) (F : Fn K mg "finish_turn" s_finish_turn ["table", "turn"]) (C1 : Ca P w K mg base 1 "can_go_on" ["table", "turn", "hall"] (spD K R_can_go)) : ∀ k, Ca P w K mg base (k + 2) "finish_turn" ["table", "turn"] (spD K (R_finish k))
  | 0 => by
    have S := sc_finish_turn
    refine ca_Er F S (fun ds d ⟨_, _, _, _, _, _, e, _⟩ => by rw [e]; rfl) fun f cdv A outer s H E ds d hr ⟨n, W, t, h9, hl, hb, e1, e2⟩ => ?_
    subst e1 e2
    refine er_ifT (et_is (et_eqD hr (ee_len T.len (ea_cons (ee_var 1) ea_nil) rfl) (ee_len T.len (ea_cons (ee_var 0) ea_nil) rfl) (sh_int _) (sh_int _)) ?c1) (er_ret (ee_var 1))
    case c1 => rw [int_eqv, List.length_map, List.length_map, List.length_range]; exact decide_eq_true (by omega)
  | k + 1 => by
    have S := sc_finish_turn
    have C := ok_finish T F C1 k
    refine ca_Er F S (fun ds d ⟨_, _, _, _, _, _, e, _⟩ => by rw [e]; rfl) fun f cdv A outer s H E ds d hr ⟨n, W, t, h9, hl, hb, e1, e2⟩ => ?_
    subst e1 e2
    refine er_ifF (et_is (et_eqD hr (ee_len T.len (ea_cons (ee_var 1) ea_nil) rfl) (ee_len T.len (ea_cons (ee_var 0) ea_nil) rfl) (sh_int _) (sh_int _)) ?c2) ?_
    case c2 => rw [int_eqv, List.length_map, List.length_map, List.length_range]; exact decide_eq_false (by omega)
    let X := (cxOf CX0 P w K mg base N_finish_turn "finish_turn" (defScope s_finish_turn) f cdv A outer s H E).nox
    let Γ0 : Gm := slots0 N_finish_turn [tabW n W, tn t]
    let Γt : Nat → Gm := fun h => Γ0.set 2 (some (.im (iN h)))
    let fx : Nat → Option (List Nat) := fun h => if goB W t h = true then finM W n k (t ++ [h]) else none
    have hrng : ((List.range n).map (rowW n W)).length = n := by rw [List.length_map, List.length_range]
    have hi : Ei X Γ0 (match stAt (defBody s_finish_turn) 1 with | .For tg _ _ _ _ => tg | _ => .Constant .none 0 ⟨0, 0, 0, 0⟩) (match stAt (defBody s_finish_turn) 1 with | .For _ it _ _ _ => it | _ => .Constant .none 0 ⟨0, 0, 0, 0⟩) ((List.range n).map iN) Γ0 := by
      refine ei_is (ei_range1 T.range (ea_cons (ee_len T.len (ea_cons (ee_var 0) ea_nil) rfl) ea_nil) (by omega) (by omega)) ?_
      rw [hrng]; exact rngD_N n
    have callR : ∀ h, h < n → R_finish k [tabW n W, .tuple (t.map iN ++ [iN h])] (optD (finM W n k (t ++ [h]))) := fun h hh => ⟨n, W, t ++ [h], h9, by simp; omega, fun x hx => by
      rcases List.mem_append.mp hx with z | z
      · exact hb x z
      · rw [List.mem_singleton.mp z]; exact hh, by rw [show tn (t ++ [h]) = .tuple ((t ++ [h]).map iN) from rfl, List.map_append]; rfl, rfl⟩
    have goR : ∀ h, h < n → R_can_go [tabW n W, tn t, iN h] (.bool (goB W t h)) := fun h hh => ⟨n, W, t, h, h9, by omega, hb, hh, rfl, rfl⟩
    have nxt : ∀ h, h < n → fx h = none → ∃ Γ2, Ess X (Γt h) (forBody (stAt (defBody s_finish_turn) 1)) (.nx Γ2) ∧ Less Γ0 Γ2 := fun h hh hn => by
      cases hg : goB W t h with
      | false => exact ⟨_, ess_one (es_ifF (et_is (et_val (ee_ca C1 hr (ea_cons (ee_var 0) (ea_cons (ee_var 1) (ea_cons (ee_var 2) ea_nil))) (goR h hh) (by omega))) hg) ess_nil), less_set rfl⟩
      | true =>
        have hn' : finM W n k (t ++ [h]) = none := by
          have := hn
          show finM W n k (t ++ [h]) = none
          simpa only [fx, hg, if_true] using this
        have hcall := callR h hh
        rw [hn'] at hcall
        exact ⟨(Γt h).set 3 (some (.im .none)), ess_one (es_ifT (et_is (et_val (ee_ca C1 hr (ea_cons (ee_var 0) (ea_cons (ee_var 1) (ea_cons (ee_var 2) ea_nil))) (goR h hh) (by omega))) hg) (ess_cons (es_set 3 S.nd (ee_ca C hr (ea_cons (ee_var 0) (ea_cons (ee_tup (ea_star (ee_var 1) (ea_cons (ee_var 2) ea_nil)) (by rw [List.length_append, List.length_map]; simp; omega)) ea_nil)) hcall (Nat.le_refl _))) (ess_one (es_ifF (et_is (et_notN (ee_var 3) ee_non) rfl) ess_nil)))), less_set2 rfl⟩
    have eM : finM W n (k + 1) t = (List.range n).findSome? fx := rfl
    rw [eM]
    rcases first_some fx (List.range n) with ⟨h1, h2⟩ | ⟨m, hm, h1, h2, h3⟩
    · rw [h1]
      refine er_cons (es_forThru (is := [2]) (fun i => Γt i) hi (fun i d hd => ?_) (fun i hi' => ?_)) (er_ret ee_non)
      · rw [List.getElem?_map] at hd
        cases q : (List.range n)[i]? with
        | none => rw [q] at hd; cases hd
        | some j =>
          rw [q] at hd
          cases hd
          have hj : i < n ∧ j = i := by
            have hlt := (List.getElem?_eq_some_iff.mp q).1
            rw [List.length_range] at hlt
            rw [List.getElem?_range hlt] at q
            exact ⟨hlt, (Option.some.inj q).symm⟩
          rw [hj.2]
          exact eg_name 2 S.nd
      · rw [List.length_map, List.length_range] at hi'
        exact nxt i hi' (h2 i (List.mem_range.mpr hi'))
    · have hmn : m < n := by simpa using hm
      rw [List.getElem_range] at h1 h2
      have hg : goB W t m = true := by
        cases q : goB W t m with
        | true => rfl
        | false => simp [fx, q] at h2
      have hfx : fx m = finM W n k (t ++ [m]) := by simp only [fx, hg, if_true]
      rw [← h1, hfx]
      rw [hfx] at h2
      obtain ⟨u, hu⟩ := Option.isSome_iff_exists.mp h2
      have hcall := callR m hmn
      rw [hu] at hcall ⊢
      refine er_forRet (is := [2]) (fun i => Γt i) m hi (by rw [List.length_map, List.length_range]; exact hmn) (fun i d hd => ?_) (fun i hi' => ?_) ?_
      · rw [List.getElem?_map] at hd
        cases q : (List.range n)[i]? with
        | none => rw [q] at hd; cases hd
        | some j =>
          rw [q] at hd
          cases hd
          have hj : i < n ∧ j = i := by
            have hlt := (List.getElem?_eq_some_iff.mp q).1
            rw [List.length_range] at hlt
            rw [List.getElem?_range hlt] at q
            exact ⟨hlt, (Option.some.inj q).symm⟩
          rw [hj.2]
          exact eg_name 2 S.nd
      · have := h3 i (by rw [List.length_range]; omega) hi'
        rw [List.getElem_range] at this
        exact nxt i (by omega) this
      · exact er_ifT (et_is (et_val (ee_ca C1 hr (ea_cons (ee_var 0) (ea_cons (ee_var 1) (ea_cons (ee_var 2) ea_nil))) (goR m hmn) (by omega))) hg) (er_cons (es_set 3 S.nd (ee_ca C hr (ea_cons (ee_var 0) (ea_cons (ee_tup (ea_star (ee_var 1) (ea_cons (ee_var 2) ea_nil)) (by rw [List.length_append, List.length_map]; simp; omega)) ea_nil)) hcall (Nat.le_refl _))) (er_ifT (et_is (et_notN (ee_var 3) ee_non) rfl) (er_ret (ee_var 3))))
def R_find (ds : List PyData) (d : PyData) : Prop := ∃ n W, n ≤ 9 ∧ ds = [iN n, rN W] ∧ d = optD (findM W n)
theorem ok_find (T : Tx mg) (F : Fn K mg "find_turn" s_find_turn ["halls", "ways"]) (C : ∀ k, Ca P w K mg base (k + 2) "finish_turn" ["table", "turn"] (spD K (R_finish k))) : Ca P w K mg base 12 "find_turn" ["halls", "ways"] (spD K R_find) := by
  have S := sc_find_turn
  refine ca_Er F S (fun ds d ⟨_, _, _, e, _⟩ => by rw [e]; rfl) fun f cdv A outer s H E ds d hr ⟨n, W, h9, e1, e2⟩ => ?_
  subst e1 e2
  refine er_cons (es_setLc 2 (own := [("x", 3)]) (List.range n) iN (fun _ => true) (rowW n W) (fun x => (slots0 N_find_turn [iN n, rN W]).set 3 (some (.im (iN x)))) [3] rfl S.nd (blkOk_by (N := N_find_turn) (sc := defScope s_find_turn) (by decide +kernel)) rfl (by decide) (by rw [List.length_range]; omega) (fun x _ => less_set rfl)
    (ei_is (ei_range1 T.range (ea_cons (ee_var 0) ea_nil) (by omega) (by omega)) (rngD_N n)) (fun x hx _ _ _ _ _ => (eg_name 3 S.nd)) (fun x hx _ _ _ _ _ => ets_nil) (fun x hx hf _ _ _ _ _ => (ee_is (ee_new (en_lc (own := [("y", 4)]) (List.range n) iN (fun _ => true) (fun y => .bool (tbB W x y)) (fun y => ((slots0 N_find_turn [iN n, rN W]).set 3 (some (.im (iN x)))).set 4 (some (.im (iN y)))) [4] rfl S.nd (blkOk_by (N := N_find_turn) (sc := relB (defScope s_find_turn) (lcScope (asgVal (stAt (defBody s_find_turn) 0)))) (by decide +kernel)) rfl (by decide) (by rw [List.length_range]; omega) (fun y _ => less_set rfl)
      (ei_is (ei_range1 T.range (ea_cons (ee_var 0) ea_nil) (by omega) (by omega)) (rngD_N n)) (fun y hy _ _ _ _ _ => (eg_name 4 S.nd)) (fun y hy _ _ _ _ _ => ets_nil) (fun y hy hf _ _ _ _ _ => (ee_is (ee_in hr (ee_tup (ds := [iN x, iN y]) (ea_cons (ee_var 3) (ea_cons (ee_var 4) ea_nil)) (by simp)) (ee_var 1) rfl (sh_pN (x, y)) (sh_pNs W)) ?tb)))) ?row))) ?_
  case tb =>
    show PyData.bool ((W.map pN).any fun z => PyData.eqv z (pN (x, y))) = _
    rw [any_eqv pN_eqv]
    unfold tbB
    by_cases h : (x, y) ∈ W <;> simp [h]
  case row => rw [List.filter_eq_self.mpr (fun _ _ => rfl)]; rfl
  refine er_freeze 2 rfl ?_
  rw [List.filter_eq_self.mpr (fun _ _ => rfl)]
  exact er_ret (ee_ca (C n) hr (ea_cons (ee_var 2) (ea_cons (ee_tup (ds := []) ea_nil (by decide)) ea_nil)) ⟨n, W, [], h9, by simp, fun x hx => (by cases hx), rfl, rfl⟩ (by omega))
end
end DL
end

section
namespace DL
open PySem PySem.Spec PyProof.Rows L2 RM
section
variable {P : Program} {w : World} {K : PySem.W.Frag} {mg : Str → Option Value} {base : Heap}
/-! is_turn, of any value -/
def natsOf (xs : List PyData) : List Nat := xs.map fun d => match d with
  | .int i => i.toNat
  | _ => 0
def isTurnD (v : PyData) : Bool := match v with
  | .tuple xs => (decide (1 ≤ xs.length) && decide (xs.length ≤ 9)) && ((List.range xs.length).all (fun i => isNum (xs.getD i .none) 0 ((xs.length : Int) - 1)) && decide ((natsOf xs).mergeSort (le_ fun a b : Nat => decide (a < b)) = List.range xs.length))
  | _ => false
def ValOk (v : PyData) : Prop := SeqAt.shaped v = true ∨ v = emptyD
def R_is_turnG (ds : List PyData) (d : PyData) : Prop := ∃ v, ValOk v ∧ ds = [v] ∧ d = .bool (isTurnD v)
theorem nats_form {xs : List PyData} {b : Int} (h : ∀ i, i < xs.length → isNum (xs.getD i .none) 0 b = true) : xs = (natsOf xs).map iN := by
  unfold natsOf
  rw [List.map_map]
  apply List.ext_getElem
  · rw [List.length_map]
  · intro i h1 h2
    have := h i h1
    rw [List.getD_eq_getElem?_getD, List.getElem?_eq_getElem h1] at this
    rw [List.getElem_map]
    show xs[i] = iN _
    have this : isNum xs[i] 0 b = true := this
    obtain ⟨k, hk⟩ := isNum_int this
    rw [hk] at this
    show xs[i] = iN (match xs[i] with
      | .int i => i.toNat
      | _ => 0)
    rw [hk]
    have h0 : (decide ((0 : Int) ≤ k) && decide (k ≤ b)) = true := this
    rw [Bool.and_eq_true, decide_eq_true_iff] at h0
    show PyData.int k = PyData.int ((k.toNat : Nat) : Int)
    rw [Int.toNat_of_nonneg h0.1]
theorem turnD_of {v : PyData} (h : isTurnD v = true) : ∃ t : List Nat, v = tn t ∧ IsTurn t := by
  cases v with
  | tuple xs =>
    unfold isTurnD at h
    rw [Bool.and_eq_true, Bool.and_eq_true, Bool.and_eq_true, decide_eq_true_iff, decide_eq_true_iff, decide_eq_true_iff, List.all_eq_true] at h
    obtain ⟨⟨h1, h9⟩, hall, hs⟩ := h
    have hf := nats_form fun i hi => hall i (List.mem_range.mpr hi)
    have hl : (natsOf xs).length = xs.length := List.length_map ..
    have hp : (natsOf xs).Perm (List.range xs.length) := by
      rw [← hs]
      exact (List.mergeSort_perm _ _).symm
    refine ⟨natsOf xs, congrArg PyData.tuple hf, by rw [hl]; exact h1, by rw [hl]; exact h9, hp.nodup_iff.mpr List.nodup_range, fun x hx => ?_⟩
    rw [hl]
    exact List.mem_range.mp (hp.mem_iff.mp hx)
  | _ => cases h
theorem turnD_is {t : List Nat} (ht : IsTurn t) : isTurnD (tn t) = true := by
  have hl : (t.map iN).length = t.length := List.length_map ..
  have hn : natsOf (t.map iN) = t := by
    unfold natsOf
    rw [List.map_map]
    exact (List.map_congr_left fun x _ => rfl).trans (List.map_id t)
  show ((decide (1 ≤ (t.map iN).length) && decide ((t.map iN).length ≤ 9)) && ((List.range (t.map iN).length).all _ && decide ((natsOf (t.map iN)).mergeSort _ = List.range (t.map iN).length))) = true
  rw [hn, hl, turn_sorted ht, decide_eq_true ht.1, decide_eq_true ht.2.1, decide_eq_true rfl, Bool.and_true, Bool.and_true, Bool.true_and, List.all_eq_true]
  intro i hi
  have hi := List.mem_range.mp hi
  rw [List.getD_eq_getElem?_getD, List.getElem?_map, List.getElem?_eq_getElem hi]
  have := ht.2.2.2 _ (List.getElem_mem hi)
  exact isNum_iN (by omega) (by omega)
theorem et_isTupE {X : Cx} {Γ : Gm} {e : Expr} {pos pp p1 : Pos} {v : PyData} (T : Tx X.mg) (hv : ValOk v) (ha : Ee X Γ e v Γ) (hg : Gl X "isinstance" := by rfl) (hg2 : Gl X "tuple" := by rfl)
    (he : starEach [e, .Name "tuple" p1] X.env = (false, eval e X.env) :: starEach [.Name "tuple" p1] X.env := by rfl) (he2 : starEach [.Name "tuple" p1] X.env = (false, eval (.Name "tuple" p1) X.env) :: starEach [] X.env := by rfl) (hpl : (backTo pos (starEach [.Name "tuple" p1] X.env)).any (·.1) = false := by rfl) :
    Ee X Γ (.Call (.Name "isinstance" pp) [e, .Name "tuple" p1] [] pos) (.bool (isTupD v)) Γ := by
  rcases hv with hv | rfl
  · exact ee_isi T.isinstance T.tuple bt_tuple ha (sh_dict hv) (kit_tuple _) hg hg2 (by decide) (by decide) he he2 hpl
  · exact ee_isiE T.isinstance T.tuple bt_tuple ha (by rfl) hg hg2 (by decide) (by decide) he he2 hpl
end
end DL
end

section
namespace DL
open PySem PySem.Spec PyProof.Rows L2 RM
abbrev s_rest_turn : Stmt := topS 23
abbrev N_rest_turn : List Str := ["net", "halls", "pairs"]
theorem sc_rest_turn : FnScope N_rest_turn ["net"] (defScope s_rest_turn) := ⟨rfl, rfl, rfl, by decide +kernel, rfl, by decide +kernel, by decide +kernel⟩
abbrev N_is_restalike : List Str := ["net"]
abbrev N_shows_rest_turn : List Str := ["net", "value"]
section
variable {P : Program} {w : World} {K : PySem.W.Frag} {mg : Str → Option Value} {base : Heap}
abbrev findP (n : Nat) (S : List (Nat × Nat)) : Option (List Nat) := findM (symW S) n
def R_rest_turn (ds : List PyData) (d : PyData) : Prop := ∃ n S, 1 ≤ n ∧ n ≤ 9 ∧ IsNet n S ∧ ds = [nN n S] ∧ d = optD (findP n S)
theorem ok_rest_turn (T : Tx mg) (F : Fn K mg "rest_turn" s_rest_turn ["net"]) (C1 : Ca P w K mg base 6 "check_net" ["value"] (spD K R_check_net)) (C2 : Ca P w K mg base 12 "find_turn" ["halls", "ways"] (spD K R_find)) (C3 : Ca P w K mg base 1 "both_ways" ["pairs"] (spD K R_both)) : Ca P w K mg base 13 "rest_turn" ["net"] (spD K R_rest_turn) := by
  have S := sc_rest_turn
  refine ca_Er F S (fun ds d ⟨_, _, _, _, _, e, _⟩ => by rw [e]; rfl) fun f cdv A outer s H E ds d hr ⟨n, Q, h1, h9, hq, e1, e2⟩ => ?_
  subst e1 e2
  have hl := hq.len h9
  refine er_cons (es_expr (ee_ca C1 hr (ea_cons (ee_var 0) ea_nil) ⟨n, Q, h1, h9, hq, rfl, rfl⟩)) ?_
  refine er_cons (es_asg (ee_var 0) (eg_tup2 rfl (eg_name 1 S.nd) (eg_name 2 S.nd))) ?_
  exact er_ret (ee_ca C2 hr (ea_cons (ee_var 1) (ea_cons (ee_ca C3 hr (ea_cons (ee_var 2) ea_nil) ⟨Q, by omega, rfl, rfl⟩) ea_nil)) ⟨n, symW Q, h9, rfl, rfl⟩)
def R_is_restalike (ds : List PyData) (d : PyData) : Prop := ∃ n S, 1 ≤ n ∧ n ≤ 9 ∧ IsNet n S ∧ ds = [nN n S] ∧ d = .bool (findP n S).isSome
def lenD (v : PyData) : Nat := match v with
  | .tuple xs => xs.length
  | _ => 0
def natsD (v : PyData) : List Nat := match v with
  | .tuple xs => natsOf xs
  | _ => []
/-- what shows_rest_turn tells -/
def showsP (n : Nat) (S : List (Nat × Nat)) (v : PyData) : Bool := match v with
  | .none => (findP n S).isNone
  | _ => isTurnD v && (decide (lenD v = n) && leadsM (natsD v) S)
theorem nats_tn (t : List Nat) : natsD (tn t) = t := by
  show natsOf (t.map iN) = t
  unfold natsOf
  rw [List.map_map]
  exact (List.map_congr_left fun x _ => rfl).trans (List.map_id t)
theorem showsP_turn {n : Nat} {S : List (Nat × Nat)} {t : List Nat} (ht : IsTurn t) (hl : t.length = n) : showsP n S (tn t) = leadsM t S := by
  show (isTurnD (tn t) && (decide (lenD (tn t) = n) && leadsM (natsD (tn t)) S)) = _
  rw [turnD_is ht, nats_tn, decide_eq_true (show lenD (tn t) = n from by show (t.map iN).length = n; rw [List.length_map]; exact hl)]; rfl
def R_shows_rest (ds : List PyData) (d : PyData) : Prop := ∃ n S v, 1 ≤ n ∧ n ≤ 9 ∧ IsNet n S ∧ ValOk v ∧ ds = [nN n S, v] ∧ d = .bool (showsP n S v)
end
end DL
end

section
/-! sorted(a set of ints), of up to a thousand; list.count of ints. -/
namespace DL
open PySem PySem.Spec PyProof.Rows L2
open PySem.W (EachIs SortsAt AllAlike Sortable)
theorem each_ints : ∀ {vs : List Value} {ns : List Int}, IntsAre vs ns → EachIs (fun v (k : Int) => ∃ t, v = .int k t) vs ns
  | _, _, .nil => .nil
  | _, _, .cons n t h => .cons ⟨t, rfl⟩ (each_ints h)
theorem ints_each : ∀ {vs : List Value} {ns : List Int}, EachIs (fun v (k : Int) => ∃ t, v = .int k t) vs ns → IntsAre vs ns
  | _, _, .nil => .nil
  | _, _, .cons (b := k) h1 h2 => by
    obtain ⟨t, rfl⟩ := h1
    exact .cons k t (ints_each h2)
theorem each_rd {hp : Heap} : ∀ {vs : List Value} {ns : List Int}, IntsAre vs ns → EachIs (fun v (k : Int) => ∃ as, Reads hp v (PyData.int k) as) vs ns
  | _, _, .nil => .nil
  | _, _, .cons n t h => .cons ⟨_, .int n t⟩ (each_rd h)
theorem ints_raw : ∀ (vs : List Value), (∀ v ∈ vs, ∃ k t, v = .int k t) → IntsAre vs (vs.map Builtin.Re.reRawOf)
  | [], _ => .nil
  | v :: vs, h => by
    obtain ⟨k, t, rfl⟩ := h v List.mem_cons_self
    exact .cons k t (ints_raw vs fun u hu => h u (List.mem_cons_of_mem _ hu))
theorem le_int (a b : Int) : PySem.W.dataLe false PyData.int a b = decide (a ≤ b) := by
  show (!PySem.W.dataLt (.int b) (.int a)) = _
  rw [PySem.W.dataLt_int]
  by_cases h : b < a
  · rw [decide_eq_true h, decide_eq_false (by omega)]; rfl
  · rw [decide_eq_false h, decide_eq_true (by omega)]; rfl
theorem sort_ints_asc {ns : List Int} (h : ns.Nodup) : (ns.mergeSort (PySem.W.dataLe false PyData.int)).Pairwise (· < ·) := by
  have e : PySem.W.dataLe false PyData.int = fun a b : Int => decide (a ≤ b) := funext fun a => funext fun b => le_int a b
  rw [e]
  have p := List.pairwise_mergeSort (le := fun a b : Int => decide (a ≤ b)) (fun a b c h1 h2 => by simp at *; omega) (fun a b => by simp; omega) ns
  have nd : (ns.mergeSort fun a b : Int => decide (a ≤ b)).Nodup := (List.mergeSort_perm _ _).nodup_iff.mpr h
  exact (p.and nd).imp fun {a b} ⟨x, y⟩ => by
    have := of_decide_eq_true x
    omega
section
variable {P : Program} {w : World} {A : Around} {E : Value → Shared → Prop} {s : Shared} {a : Addr}
theorem sorted_setB {S : Int → Bool} {n : Nat} {Q : Value → Shared → Prop} (R : SetR w s.heap a S n) (hh : A.handled = none) (hn1 : n ≤ 1000) (hun : A.units + 10 < cLine)
    (hQ : ∀ s' p (c : Nat) (out : List Value) (ns : List Int), (∀ b o, s.heap.get? b = some o → s'.heap.get? b = some o) → s'.gens = s.gens → s'.os = s.os → s.heap.objs.size ≤ p →
      s'.heap.get? p = some (seqObj "list" out.toArray c) → IntsAre out ns → ns.Pairwise (· < ·) → (∀ k, k ∈ ns ↔ S k = true) → ns.length = n → Q (.ref p) s') : wpAny (model P w) A (call (.builtin "sorted") [.ref a]) Q E s := by
  obtain ⟨ob, es, ep, tb, h1, h2, h3, h4, h5, h6, h7, h8, h9, h10, h11⟩ := R
  refine call_function_entry_kw kind_sorted plain_sorted entry_sorted (args_sorted1 _) ?_
  unfold Builtin.«sorted»
  refine wpAny_bind (m := checkCount "sorted" 1 1 _) (wpAny_pure ?_)
  refine wpAny_bind (collect_set (A := A.in1) hh ⟨ob, h1, h2.1, h3⟩ h8 h7 h10 h11 fun s1 vs m1 m2 m3 m4 m5 => ?_)
  have lv : vs.length = n := by rw [m5.length_eq, List.length_map, Array.length_toList, h9]
  have iv := ints_raw vs fun v hv => by
    obtain ⟨e, he, q⟩ := List.mem_map.mp (m5.mem_iff.mp hv)
    obtain ⟨k, t, u, _⟩ := h4 e he
    exact ⟨k, t, by rw [← q]; exact u⟩
  obtain ⟨ns, hns⟩ : ∃ ns, vs.map Builtin.Re.reRawOf = ns := ⟨_, rfl⟩
  have pm : ns.Perm (es.toList.map keyOf) := by
    have q := m5.map Builtin.Re.reRawOf
    rw [List.map_map, hns] at q
    exact q
  rw [hns] at iv
  have bl : vs.length ≤ sizeLine := by rw [lv, sizeLine_eq]; omega
  refine wpAny_bind (wpAny_newList ?_ bl)
  have at0 : (s1.heap.push (seqObj "list" vs.toArray 0)).get? s1.heap.objs.size = some (seqObj "list" vs.toArray 0) := Heap.get?_push_size _ rfl
  have hal : AllAlike (ns.map PyData.int) := fun d hd d' hd' => by
    obtain ⟨x, _, rfl⟩ := List.mem_map.mp hd
    obtain ⟨y, _, rfl⟩ := List.mem_map.mp hd'
    simp [PySem.W.alike]
  have hk : Sortable (ns.map PyData.int) := .inr fun d hd => by
    obtain ⟨x, _, rfl⟩ := List.mem_map.mp hd
    exact ⟨(by intro z; cases z), fun xs z => by cases z⟩
  refine wpAny_bind (wpAny_holding (wpAny_call_entry_kw slot_list_sort ⟨_, at0, rfl⟩ entry_list_sort ?body (args_list_sort _)))
  case body =>
    show wpAny (model P w) A.in1.in1 (Builtin.«list.sort» ⟨[.ref s1.heap.objs.size], []⟩) _ _ _
    refine PySem.W.list_sort_vals (s := { s1 with heap := s1.heap.push (seqObj "list" vs.toArray 0) }) at0 (SortsAt.data (s := { s1 with heap := PySem.W.sortingHeap (s1.heap.push (seqObj "list" vs.toArray 0)) s1.heap.objs.size vs }) (PySem.W.each_map PyData.int (each_rd iv)) hal hk (PySem.W.bound_map (enc := PyData.int) fun b _ => ?_)) bl ?_
    · show A.units + 1 + 1 + (PyData.int b).depth < cLine
      simp only [PyData.depth]
      omega
    · have out := PySem.W.sortVals_data (h' := PySem.W.sortingHeap (s1.heap.push (seqObj "list" vs.toArray 0)) s1.heap.objs.size vs) (R := fun v (k : Int) => ∃ t, v = .int k t) (enc := PyData.int) false (each_ints iv) (each_rd iv) hal
      have io := ints_each out
      have nd : ns.Nodup := pm.nodup_iff.mpr h5
      obtain ⟨c, hc⟩ := sortedHeap_at (out := (PySem.W.sortVals (PySem.W.dataKind (PySem.W.sortingHeap (s1.heap.push (seqObj "list" vs.toArray 0)) s1.heap.objs.size vs) (ns.map PyData.int)) false vs vs).toArray) at0
      have sp : (ns.mergeSort (PySem.W.dataLe false PyData.int)).Perm ns := List.mergeSort_perm _ _
      refine ⟨_, rfl, wpAny_pure ⟨_, rfl, hQ _ s1.heap.objs.size c _ _ (fun b o hb => ?_) m3 m4 m2 hc io (sort_ints_asc nd) (fun k => by rw [sp.mem_iff, pm.mem_iff, h6 k]) (by rw [sp.length_eq, pm.length_eq, List.length_map, Array.length_toList, h9])⟩⟩
      have q := m1 b o hb
      have lt := Heap.lt_size q
      show (sortedHeap (s1.heap.push (seqObj "list" vs.toArray 0)) s1.heap.objs.size vs _).get? b = some o
      rw [sortedHeap_old (Nat.ne_of_lt lt) (by rw [size_push']; exact Nat.lt_succ_of_lt lt)]
      exact Heap.get?_push_of_some _ q
end
section
variable {X : Cx} {Γ Γ1 Γ2 : Gm} {a b e : Expr} {pos p1 p2 pos2 : Pos}
def rSortedSetB (w : World) : List V → Hp → VK → Prop := fun vs H Q => ∃ (a : Addr) (S : Int → Bool) (n : Nat), vs = [V.ref a] ∧ H a = some (SetO w a S n) ∧ n ≤ 1000 ∧
  ∀ (ns : List Int) (p : Addr), ns.Pairwise (· < ·) → (∀ k : Int, k ∈ ns ↔ S k = true) → ns.length = n → H p = none → Q (.ref p) (upd H p (.lst (ns.map V.int)))
theorem cr_sortedSetB {kk : Nat} (hr : Room kk X.A) (hc : X.calm = true) : CallR X (.builtin "sorted") (rSortedSetB X.w) := by
  intro pins s σ H vs us Q I r h
  obtain ⟨a, S, n, rfl, ha, hn, q⟩ := h
  rw [Vals.ref1 r]
  refine sorted_setB (setO_get I ha) (I.ok.hd hc) hn (by have := hr.un; omega) fun s' p c out ns k g o hp hg hi hs hm hl => ?_
  have z1 : (ns.map V.int).length ≤ sizeLine := by rw [List.length_map, hl, sizeLine_eq]; omega
  have z2 : H p = none := I.hok.fresh hp
  have J : Inv X pins σ (upd H p (.lst (ns.map V.int))) { s with heap := s'.heap, gens := s'.gens, drawn := s'.drawn, toks := s'.toks } :=
    I.call (ch := []) (Un.laid k hp z2) (I.hok.laid k hp ⟨z1, out, c, vals_of_ints hi, hg⟩) (by rw [g]; exact I.bare) (fun _ z => nomatch z)
  have e : s' = { s with heap := s'.heap, gens := s'.gens, drawn := s'.drawn, toks := s'.toks } := by
    cases s'; cases s; cases o; rfl
  rw [e]
  exact ⟨.ref p, _, J, rfl, q ns p hs hm hl z2⟩
/-- sorted(set(t)), t a tuple of up to a thousand whole numbers -/
theorem en_sortSetT {t : List Nat} {kk : Nat} (hr : Room kk X.A) (hc : X.calm = true) (hm1 : X.mg "sorted" = none) (hm2 : X.mg "set" = none) (h : Ee X Γ e (.tuple (t.map iN)) Γ1) (hl : t.length ≤ 1000) (hg1 : Gl X "sorted" := by rfl) (hg2 : Gl X "set" := by rfl) (hs : starEach [e] X.env = (false, eval e X.env) :: starEach [] X.env := by rfl)
    (hs2 : starEach [.Call (.Name "set" p2) [e] [] pos2] X.env = (false, eval (.Call (.Name "set" p2) [e] [] pos2) X.env) :: starEach [] X.env := by rfl) :
    En X Γ (.Call (.Name "sorted" p1) [.Call (.Name "set" p2) [e] [] pos2] [] pos) ((uniqN t).map iN) Γ1 :=
  pe_imp (pe_callB (cr_sortedSetB hr hc) hg1 hm1 (by decide +kernel) (pa_cons (pe_callTy (cr_setT hc) hg2 hm2 PyProof.Rows.boot_set (pa_cons h pa_nil hs) (by decide) (by decide) hs rfl) pa_nil hs2) (by decide) (by decide) hs2 rfl) fun σ H Q ⟨F, ev, x, k⟩ => by
    refine ⟨F, ev, x, fun v F1 H1 g1 e1 dv => ?_⟩
    cases dv with
    | @tup a ob xs _ h1 h0 hA =>
      have hx : xs = (t.map fun n : Nat => (n : Int)).map V.int := by
        have e : t.map iN = (t.map fun n : Nat => (n : Int)).map PyData.int := by rw [List.map_map]; rfl
        rw [e] at hA
        exact hA.ints
      subst hx
      refine ⟨a, t.map fun n : Nat => (n : Int), rfl, .inl (.inr ⟨ob, g1.fh _ _ h1⟩), by rw [List.length_map]; omega, fun p c hp hcn => ?_⟩
      rw [List.length_map] at hcn
      refine ⟨p, _, c, rfl, upd_same, by omega, fun ns q o1 o2 o3 hq => ?_⟩
      have hns := uniq_ints (t := t) o1 fun j => by rw [o2, decide_eq_true_iff]
      subst hns
      have g2 := g1.trans (Gr.newH (A := Own σ Γ1) (o := SetO X.w p (fun j => decide (j ∈ t.map fun n : Nat => (n : Int))) c) g1.fh hp)
      exact tN_new (ds := (uniqN t).map iN) g2 (e1.newH hp) (dda_nats _) k q hq
  where dda_nats {K : PySem.W.Frag} {F : Hp} : ∀ (l : List Nat), DdA K F ((l.map fun n : Nat => (n : Int)).map V.int) (l.map iN)
    | [] => .nil
    | y :: l => .cons (.int _) (dda_nats l)
end
end DL
end

section
/-! set(a list of ints); sorted of it; list.count of whole numbers. -/
namespace DL
open PySem PySem.Spec PyProof.Rows L2
/-- a new set as the model lays it -/
abbrev set0 (w : World) : Obj := { cls := .type "set", dict := none, data := .set #[] 0 (.fresh 0 0 (!w.params.followText "set-order")) }
section
variable {P : Program} {w : World} {A : Around} {E : Value → Shared → Prop} {s : Shared}
set_option maxHeartbeats 3200000 in
theorem set_listI {l : Addr} {its : Array Value} (ns : List Int) {Q : Value → Shared → Prop} (hh : A.handled = none) (hl : s.heap.IsList l its) (hi : IntsAre its.toList ns) (hb : ns.length + 1 < scanBound)
    (k : ∀ (h' : Heap) (tk c : Nat), SetR w h' s.heap.objs.size (fun j => decide (j ∈ ns)) c → c ≤ ns.length → (∀ b o, s.heap.get? b = some o → h'.get? b = some o) → Q (.ref s.heap.objs.size) { s with heap := h', toks := tk }) : wpAny (model P w) A (call (.type "set") [.ref l]) Q E s := by
  have sz : its.size = ns.length := by rw [← Array.length_toList]; exact hi.length
  have zl : l < s.heap.objs.size := let ⟨o, ho, _⟩ := hl; Heap.lt_size ho
  have fM := F.called_set.made
  have fS := F.called_set.sub
  have fT := F.called_set.notType
  have fC := F.called_set.canCreate
  have fA := F.typeCall_set_1 (.ref l)
  have fL := F.called_set.init.lookup
  obtain ⟨_, _, fO⟩ := F.called_set.mro
  apply wpAny_call; apply codeAny_of_tree
  change wpAny _ _ (callAny (.type "set") _) _ _ _
  apply wpAny_pure; constructor
  · exact Code.quiet_builtin _ (by decide +kernel)
  apply codeAny_builtin F.entry_type_call
  rw [Around.under_plain (weight_type_call_type "set" [.ref l] []) rfl]
  repeat (any_goals (first | assumption | wp_step))
  apply codeAny_mono (code_set_led1 (.ref l) (E := E) (Q₁ := fun v s1 => v = .ref s.heap.objs.size ∧ s1 = { s with heap := s.heap.push (set0 w) }) ⟨rfl, rfl⟩)
  intro r s1 q1
  match r, q1 with
  | .error e, q1 => exact q1
  | .ok (.ret v), q1 =>
    obtain ⟨rfl, rfl⟩ := q1
    have g0 : (s.heap.push (set0 w)).get? s.heap.objs.size = some (set0 w) := Heap.get?_push_size _ rfl
    have ty : Shared.TypeIs { s with heap := s.heap.push (set0 w) } (.ref s.heap.objs.size) "set" := ⟨_, g0, rfl⟩
    have fB := F.called_set.init.bind (.ref s.heap.objs.size)
    repeat (any_goals (first | assumption | wp_step))
    apply codeAny_mono (codeAny_call_builtin (R := wants (fun v s2 => v = .none ∧ ∃ h' tk c, s2 = { s with heap := h', toks := tk } ∧ SetR w h' s.heap.objs.size (fun j => decide (j ∈ ns)) c ∧ c ≤ ns.length ∧ ∀ b o, s.heap.get? b = some o → h'.get? b = some o) E) F.called_set.init.plain F.entry_set_init (check_set_init_1 ty ?go))
    case go =>
      obtain ⟨⟨oc, od, oa, os⟩, h1, h2, n, h3⟩ := hl
      dsimp only at h2 h3
      subst h2 h3
      have g1 : (s.heap.push (set0 w)).get? l = some { cls := .type "list", dict := od, data := .seq its n, slots := os } := Heap.get?_push_of_some _ h1
      have l1 : (s.heap.push (set0 w)).IsList l its := ⟨_, g1, rfl, n, rfl⟩
      have s1 := F.sub_list_set
      have s2 := F.sub_list_frozenset
      have ne : (Value.type "list" == Value.type "dict") = false := by decide
      unfold Builtin.«set.__init__» noKeywords Builtin.Frozenset.updateFrom
      generalize hp : pyIter = it
      wp_walk
      subst hp
      apply wpAny_pyIter_list l1
      apply wpAny_bind; apply wpAny_runValue
      have z1 : (s.heap.push (set0 w)).objs.size = s.heap.objs.size + 1 := Heap.size_push ..
      have nI : l ≠ (s.heap.push (set0 w)).objs.size := by rw [z1]; exact Nat.ne_of_lt (Nat.lt_succ_of_lt zl)
      have nS : s.heap.objs.size ∉ [(s.heap.push (set0 w)).objs.size, l] := by
        rw [z1]; simp only [List.mem_cons, List.not_mem_nil, or_false, not_or]
        exact ⟨Nat.ne_of_lt (Nat.lt_succ_self _), Nat.ne_of_gt zl⟩
      refine set_update_ints ((Walks.list (by simp [hh]) _ l nI its).toS) s.heap.objs.size nS ns sz hb (fun i v hv => ?_) (its.size - 0) 0 _ (by omega) (Nat.zero_le _) ⟨⟨_, Heap.get?_push_size _ rfl, rfl, rfl⟩, l1.push _⟩ ⟨0, Nat.le_refl 0, setR_new_at (Heap.get?_push_of_some _ g0)⟩ fun s3 c hm hc hR => ?_
      · have lt : i < ns.length := by rw [← sz]; exact (Array.getElem?_eq_some_iff.mp hv).1
        obtain ⟨t, e⟩ := hi.int_at i v (by rw [Array.getElem?_toList]; exact hv)
        exact ⟨ns[i], t, List.getElem?_eq_getElem lt, by rw [e, List.getD_eq_getElem?_getD, List.getElem?_eq_getElem lt]; rfl⟩
      · obtain ⟨h', g2, d2, tk, o2⟩ := s3
        obtain rfl : g2 = s.gens := hm.gens
        obtain rfl : d2 = s.drawn := hm.drawn
        obtain rfl : o2 = s.os := hm.os
        apply wpAny_pure
        change wpAny _ _ (ret Value.none) _ _ _
        apply wpAny_pure
        refine ⟨rfl, h', tk, c, rfl, hR, by rw [← sz]; exact hc, fun b o e => hm.heap b o ?_ (Heap.get?_push_of_some _ (Heap.get?_push_of_some _ e))⟩
        have lt := Heap.lt_size e
        rw [z1]; simp only [List.mem_cons, List.not_mem_nil, or_false, not_or]
        exact ⟨Nat.ne_of_lt lt, Nat.ne_of_lt (Nat.lt_succ_of_lt lt)⟩
    intro r2 s2 q2
    match r2, q2 with
    | .error e, q2 => exact q2
    | .ok (.ret v2), q2 =>
      obtain ⟨rfl, h', tk, c, rfl, hR, hc, hk⟩ := q2
      repeat (any_goals (first | assumption | wp_step))
      exact k _ _ _ hR hc hk
    | .ok .next, q2 => exact q2.elim
    | .ok .brk, q2 => exact q2.elim
    | .ok .cont, q2 => exact q2.elim
  | .ok .next, q1 => exact q1.elim
  | .ok .brk, q1 => exact q1.elim
  | .ok .cont, q1 => exact q1.elim
end
end DL
end

section
/-! sorted(set(a list)), list.count. -/
namespace DL
open PySem PySem.Spec PyProof.Rows L2
theorem count_cast : ∀ (t : List Nat) (k : Nat), (t.map fun n : Nat => (n : Int)).count (k : Int) = t.count k
  | [], _ => rfl
  | y :: t, k => by
    rw [List.map_cons, List.count_cons, List.count_cons, count_cast t k]
    congr 1
    by_cases h : y = k
    · subst h; simp
    · rw [beq_eq_false_iff_ne.mpr h, beq_eq_false_iff_ne.mpr (by omega)]
section
variable {X : Cx} {Γ Γ1 Γ2 : Gm} {a b e : Expr} {pos p1 p2 pos2 apos : Pos}
def rSetL (K : PySem.W.Frag) (w : World) : List V → Hp → VK → Prop := fun vs H Q => ∃ (l : Addr) (ns : List Int), vs = [.ref l] ∧ SqL K H l (ns.map V.int) ∧ ns.length ≤ 1000 ∧ ∀ p c, H p = none → c ≤ ns.length → Q (.ref p) (upd H p (SetO w p (fun j => decide (j ∈ ns)) c))
theorem cr_setL (hc : X.calm = true) : CallR X (.type "set") (rSetL X.K X.w) := by
  intro pins s σ H vs us Q I r h
  obtain ⟨l, ns, rfl, hq, hl, q⟩ := h
  rw [Vals.ref1 r]
  obtain ⟨its, rv, pl, hz⟩ := I.list hq
  refine set_listI ns (I.ok.hd hc) pl.isList (show IntsAre its.toArray.toList ns from ints_of_vals rv) (by unfold scanBound; omega) fun h' tk c R1 hcn m => ?_
  exact ⟨.ref _, upd H s.heap.objs.size (SetO X.w s.heap.objs.size (fun j => decide (j ∈ ns)) c), I.laid (t' := tk) (fun b u e => m b u e) (Nat.le_refl _) (setO_new R1), rfl, q _ _ (I.hok.fresh (Nat.le_refl _)) hcn⟩
theorem dda_nats {K : PySem.W.Frag} {F : Hp} : ∀ (l : List Nat), DdA K F ((l.map fun n : Nat => (n : Int)).map V.int) (l.map iN)
  | [] => .nil
  | y :: l => .cons (.int _) (dda_nats l)
/-- sorted(set(xs)), xs a list of up to a thousand whole numbers -/
theorem en_sortSetL {t : List Nat} {kk : Nat} (hr : Room kk X.A) (hc : X.calm = true) (hm1 : X.mg "sorted" = none) (hm2 : X.mg "set" = none) (h : Ee X Γ e (.list (t.map iN)) Γ1) (hl : t.length ≤ 1000) (hg1 : Gl X "sorted" := by rfl) (hg2 : Gl X "set" := by rfl) (hs : starEach [e] X.env = (false, eval e X.env) :: starEach [] X.env := by rfl)
    (hs2 : starEach [.Call (.Name "set" p2) [e] [] pos2] X.env = (false, eval (.Call (.Name "set" p2) [e] [] pos2) X.env) :: starEach [] X.env := by rfl) :
    En X Γ (.Call (.Name "sorted" p1) [.Call (.Name "set" p2) [e] [] pos2] [] pos) ((uniqN t).map iN) Γ1 :=
  pe_imp (pe_callB (cr_sortedSetB hr hc) hg1 hm1 (by decide +kernel) (pa_cons (pe_callTy (cr_setL hc) hg2 hm2 PyProof.Rows.boot_set (pa_cons h pa_nil hs) (by decide) (by decide) hs rfl) pa_nil hs2) (by decide) (by decide) hs2 rfl) fun σ H Q ⟨F, ev, x, k⟩ => by
    refine ⟨F, ev, x, fun v F1 H1 g1 e1 dv => ?_⟩
    obtain ⟨a, xs, rfl, _, hS, hA⟩ := dv.lstAt g1.fh
    have hx : xs = (t.map fun n : Nat => (n : Int)).map V.int := by
      have e : t.map iN = (t.map fun n : Nat => (n : Int)).map PyData.int := by rw [List.map_map]; rfl
      rw [e] at hA
      exact hA.ints
    subst hx
    refine ⟨a, t.map fun n : Nat => (n : Int), rfl, hS, by rw [List.length_map]; omega, fun p c hp hcn => ?_⟩
    rw [List.length_map] at hcn
    refine ⟨p, _, c, rfl, upd_same, by omega, fun ns q o1 o2 o3 hq => ?_⟩
    have hns := uniq_ints (t := t) o1 fun j => by rw [o2, decide_eq_true_iff]
    subst hns
    have g2 := g1.trans (Gr.newH (A := Own σ Γ1) (o := SetO X.w p (fun j => decide (j ∈ t.map fun n : Nat => (n : Int))) c) g1.fh hp)
    exact tN_new (ds := (uniqN t).map iN) g2 (e1.newH hp) (dda_nats _) k q hq
/-- xs.count(k), xs a list of whole numbers -/
theorem ee_countL {t : List Nat} {k : Nat} (ho : Ee X Γ a (.list (t.map iN)) Γ1) (hb : Ea X Γ1 [b] [iN k] Γ2) (hbase : attributeBase a "count" X.env (eval a X.env) = eval a X.env := by rfl)
    (hfew : ((backTo pos (starEach [b] X.env)).all (fun x => !x.1) && (backToKw pos (keywordEach [] X.env)).all (fun x => x.1.isSome) && decide ([b].length + ([] : List Keyword).length + (if ([] : List Keyword).isEmpty then 0 else 1) < 30)) = true := by rfl)
    (hline : (apos.endLine == pos.line) = true := by rfl) (hs : starEach [b] X.env = (false, eval b X.env) :: starEach [] X.env := by rfl) (hplain : (backTo pos (starEach [] X.env)).any (·.1) = false := by rfl) :
    Ee X Γ (.Call (.Attribute a "count" apos) [b] [] pos) (iN (t.count k)) Γ2 :=
  pe_imp (pe_bm PySem.F.plainAttrs_list PySem.F.slot_list_count PySem.F.type_list_count mt_lcount ho hb hbase hfew hline hs hplain) fun σ H Q ⟨F, ev, x, kk⟩ => by
    refine ⟨F, ev, x, fun v F1 H1 g1 e1 dv => ?_⟩
    obtain ⟨p, xs, rfl, _, hS, hA⟩ := dv.lstAt g1.fh
    refine ⟨.inl ⟨rfl, xs, hS⟩, F1, e1, g1.fh, fun vs F2 H2 g2 e2 da => ?_⟩
    obtain ⟨z, rfl, dz⟩ := one_of da
    cases dz
    obtain ⟨p', xs', ep, _, hS', hA'⟩ := (dv.up g2.ff).lstAt g2.fh
    cases ep
    have hx : xs' = (t.map fun n : Nat => (n : Int)).map V.int := by
      have e : t.map iN = (t.map fun n : Nat => (n : Int)).map PyData.int := by rw [List.map_map]; rfl
      rw [e] at hA'
      exact hA'.ints
    subst hx
    refine ⟨p, t.map fun n : Nat => (n : Int), (k : Int), rfl, rfl, hS', ?_⟩
    have ec := count_cast t k
    rw [ec]
    exact kk _ F2 H2 (g1.trans g2) e2 (.int _)
end
end DL
end

section
/-! Slots that only a loop's turn sets. -/
namespace DL
open PySem PySem.Spec PyProof.Rows L2
def setL (L : List (Nat × Option Slot)) (Γ : Gm) : Gm := L.foldl (fun g p => g.set p.1 p.2) Γ
theorem setL_get : ∀ (L : List (Nat × Option Slot)) (Γ : Gm) (i : Nat), i ∉ L.map (·.1) → (setL L Γ)[i]? = Γ[i]?
  | [], _, _, _ => rfl
  | p :: L, Γ, i, h => by
    show (setL L (Γ.set p.1 p.2))[i]? = _
    rw [setL_get L _ i fun z => h (List.mem_cons_of_mem _ z), List.getElem?_set_ne fun e => h (by rw [List.map_cons, e]; exact List.mem_cons_self)]
theorem setL_len : ∀ (L : List (Nat × Option Slot)) (Γ : Gm), (setL L Γ).length = Γ.length
  | [], _ => rfl
  | p :: L, Γ => by
    show (setL L (Γ.set p.1 p.2)).length = _
    rw [setL_len L, List.length_set]
theorem less_setL (L : List (Nat × Option Slot)) {Γ : Gm} (h : noV Γ (L.map (·.1)) = true) : Less Γ (setL L Γ) := ⟨setL_len L Γ, fun i s q => by rw [setL_get L Γ i (noV_out h q)]; exact q⟩
/-- the slots of a list of names are told no more -/
def dropV (Γ : Gm) (vs : List Nat) : Gm := Γ.zipIdx.map fun p => if p.2 ∈ vs then none else p.1
theorem less_drop (Γ : Gm) (vs : List Nat) : Less (dropV Γ vs) Γ := by
  refine ⟨by unfold dropV; rw [List.length_map, List.length_zipIdx], fun i s q => ?_⟩
  unfold dropV at q
  rw [List.getElem?_map, List.getElem?_zipIdx] at q
  cases h : Γ[i]? with
  | none => rw [h] at q; cases q
  | some o =>
    rw [h] at q
    simp only [Option.map_some, Nat.zero_add, Option.some.injEq] at q
    split at q
    · cases q
    · rw [q]
end DL
end

section
/-! Dicts whose keys are ints or texts. -/
namespace DL
open PySem PySem.Spec PyProof.Rows L2
abbrev dkM (kv : List (Key × PyData)) : PyData := .dict ((PyData.none, PyData.bool false) :: kv.map fun p => (keyD p.1, p.2))
def keyB : PyData → Key
  | .int i => .inl i
  | .str x => .inr x
  | _ => .inl 0
theorem keyB_D (k : Key) : keyB (keyD k) = k := by cases k <;> rfl
theorem dkd_of {K : PySem.W.Frag} {F : Hp} {v : V} {kv : List (Key × PyData)} (h : Dd K F v (dkM kv)) : ∃ a es, v = .ref a ∧ F a = some (.dK es) ∧ Paired (KvE F) es kv := by
  have key : ∀ m : PyData, m = dkM kv → Dd K F v m → ∃ a es, v = .ref a ∧ F a = some (.dK es) ∧ Paired (KvE F) es kv := fun m em hm => by
    cases hm with
    | dkd h1 h2 =>
      rename_i a es kv'
      have e : kv' = kv := by
        have e1 := (List.cons.inj (PyData.dict.inj em)).2
        have e2 := congrArg (List.map fun p : PyData × PyData => (keyB p.1, p.2)) e1
        simpa [List.map_map, Function.comp_def, keyB_D] using e2
      subst e
      exact ⟨a, es, rfl, h1, h2⟩
    | dct h1 => cases em
    | scr h1 =>
      rename_i a ns
      cases ns with
      | nil => cases em
      | cons n r => cases em
    | _ => cases em
  exact key _ rfl h
theorem key_is {K : PySem.W.Frag} {F : Hp} {w : V} {k : Key} (h : Dd K F w (keyD k)) : w = kV k := by
  cases k <;> (cases h; rfl)
theorem LeafE.dd {K : PySem.W.Frag} {F : Hp} {v : V} {d : PyData} (h : LeafE F v d) : Dd K F v d := by
  cases h with
  | int i => exact .int i
  | two t => exact dd_two t
def Leaf (d : PyData) : Prop := (∃ i, d = .int i) ∨ ∃ p : Int × Int, d = twoD p
theorem leaf_of {K : PySem.W.Frag} {F : Hp} {v : V} {d : PyData} (h : Dd K F v d) (l : Leaf d) : LeafE F v d := by
  rcases l with ⟨i, rfl⟩ | ⟨p, rfl⟩
  · cases h; exact .int i
  · obtain ⟨b, rfl, t⟩ := pair_of h
    exact .two t
theorem find_nodup {es : List (Key × V)} {k : Key} {v : V} (hn : (es.map (·.1)).Nodup) (hm : (k, v) ∈ es) : valV es k = some v := by
  induction es with
  | nil => cases hm
  | cons e es ih =>
    rw [List.map_cons, List.nodup_cons] at hn
    unfold valV
    rcases List.mem_cons.mp hm with z | z
    · subst z
      rw [List.find?_cons_of_pos (by simp)]; rfl
    · have hne : ¬ e.1 = k := fun q => hn.1 (by rw [q]; exact List.mem_map.mpr ⟨_, z, rfl⟩)
      rw [List.find?_cons_of_neg (by simp [hne])]
      exact ih hn.2 z
theorem find_none {es : List (Key × V)} {k : Key} (hn : k ∉ es.map (·.1)) : valV es k = none := by
  unfold valV
  rw [Option.map_eq_none_iff, List.find?_eq_none]
  intro x hx
  have : ¬ x.1 = k := fun q => hn (List.mem_map.mpr ⟨x, hx, q⟩)
  simp [this]
theorem kv_keys {F : Hp} : ∀ {es : List (Key × V)} {kv : List (Key × PyData)}, Paired (KvE F) es kv → es.map (·.1) = kv.map (·.1)
  | _, _, .nil => rfl
  | _, _, .cons r t => by rw [List.map_cons, List.map_cons, kv_keys t, r.1]
section
variable {X : Cx} {Γ Γ1 Γ2 : Gm} {a b : Expr} {pos : Pos} {α : Type}
theorem ee_dkGet {kv : List (Key × PyData)} {k : Key} {d : PyData} {kk : Nat} (hr : Room kk X.A) (ha : Ee X Γ a (dkM kv) Γ1) (hb : Ee X Γ1 b (keyD k) Γ2) (hn : (kv.map (·.1)).Nodup) (hm : (k, d) ∈ kv) (hs : NoSl b := by exact fun _ _ => rfl) : Ee X Γ (.Subscript a b pos) d Γ2 :=
  pe_imp (pe_dget (by have := hr.un; omega) ha hb hs) fun σ H Q ⟨F, ev, x, kq⟩ => ⟨F, ev, x, fun v F1 H1 g1 e1 dv => ⟨F1, e1, g1.fh, fun w F2 H2 g2 e2 dw => by
    obtain ⟨c, es, rfl, h1, h2⟩ := dkd_of (dv.up g2.ff)
    obtain rfl := key_is dw
    obtain ⟨e, he, z1, z2⟩ := paired_mem h2 hm
    refine ⟨c, e.2, rfl, ?_, kq _ F2 H2 (g1.trans g2) e2 z2.dd⟩
    have := DGet.k (k := k) (g2.fh _ _ h1)
    rw [find_nodup (v := e.2) (by rw [kv_keys h2]; exact hn) (by rw [← show e.1 = k from z1]; exact he)] at this
    exact this⟩⟩
theorem put_new {kvs : List (Key × V)} {k : Key} {v : V} (hn : k ∉ kvs.map (·.1)) : putK kvs k v = kvs ++ [(k, v)] := by
  unfold putK
  rw [if_neg]
  intro h
  obtain ⟨e, he, q⟩ := List.any_eq_true.mp h
  exact hn (List.mem_map.mpr ⟨e, he, of_decide_eq_true q⟩)
theorem dk_read {xs : List α} {enc : α → PyData} {kf : α → Key} {vf : α → PyData} {Γt : α → Gm} {vs is : List Nat} {g : TG} {tk tv : TE} {wi : TI} (hv : noV Γ1 vs = true) (hless : ∀ x, x ∈ xs → Less Γ1 (Γt x)) (his : ∀ i ∈ is, i ∈ vs) (hsz : xs.length ≤ 16777216) (hnd : (xs.map kf).Nodup) (hlf : ∀ x ∈ xs, Leaf (vf x))
    (hw : ∀ σ H R, tIt X.K Γ (xs.map enc) Γ1 σ H R → wi σ H R) (hg : ∀ x, x ∈ xs → ∀ v σ H Q, tGt X.K Γ1 (enc x) is (Γt x) v σ H Q → g v σ H Q)
    (hk : ∀ x, x ∈ xs → ∀ σ H Q, tE X.K (Γt x) (keyD (kf x)) (Γt x) σ H Q → tk σ H Q) (he : ∀ x, x ∈ xs → ∀ σ H Q, tE X.K (Γt x) (vf x) (Γt x) σ H Q → tv σ H Q) :
    ∀ σ H Q, tE X.K Γ (dkM (xs.map fun x => (kf x, vf x))) Γ1 σ H Q → tDc wi g tYes tk tv vs σ H Q := by
  intro σ H Q ⟨F, ev, x, k⟩
  refine hw σ H _ ⟨F, ev, x, fun J F1 H1 g1 e1 hW => fun D hD => ?_⟩
  have nD : ¬ Own σ Γ1 D := fun o => by
    obtain ⟨_, ys, z⟩ := e1.own_at o
    rw [hD] at z; cases z
  have ag : wipe (wipe σ vs) vs = wipe σ vs := wipe_idem σ vs
  let kv : α → Key × PyData := fun x => (kf x, vf x)
  let St : Nat → Hp → Prop := fun i H2 => ∃ F2 es, EnvOk X.K F2 H2 σ Γ1 ∧ Gr F1 H1 (Own σ Γ1) F2 H2 (Own σ Γ1) ∧ F2 D = none ∧ H2 D = some (.dK es) ∧ Paired (KvE F2) es ((xs.take i).map kv)
  refine ⟨fun i m H2 => m = xs.length - i ∧ i ≤ xs.length ∧ St i H2, ⟨xs.length, by omega, Nat.zero_le _, F1, [], e1.newH hD, Gr.newH g1.fh hD, g1.fh.free hD, upd_same, .nil⟩, ?_⟩
  rintro i m H2 ⟨rfl, hi, F2, es, e2, g2, hF2, hH2, hd2⟩
  have wk := hW i F2 H2 g2.ff g2.fh
  by_cases hlt : i < xs.length
  · have hx : xs[i]? = some xs[i] := List.getElem?_eq_getElem hlt
    have hxm : xs[i] ∈ xs := List.getElem_mem hlt
    obtain ⟨go, yl⟩ := wk.1 (enc xs[i]) (by rw [List.getElem?_map, hx]; rfl)
    refine .inr ⟨go, St (i + 1), fun H3 z => ⟨xs.length - (i + 1), by omega, rfl, hlt, z⟩, fun y H3 hy => ?_⟩
    obtain ⟨F3, y1, y2, y3, y4, dy⟩ := yl y H3 hy
    have g23 : Gr F2 H2 (Own σ Γ1) F3 H3 (Own σ Γ1) := Gr.ext y1 y2 y3 y4
    have hD3 := g23.keepD hH2 hF2 nD
    refine hg xs[i] hxm y _ H3 _ ⟨F3, (e2.keep y1 y3 y4).agree hv ag.symm, y2, dy, fun σ4 F4 H4 g4 e4 w4 => ?_⟩
    have w4' := w4 vs his
    rw [ag] at w4'
    refine ⟨w4', ?_⟩
    have l4 := hless xs[i] hxm
    have g34 : Gr F3 H3 (Own σ Γ1) F4 H4 (Own σ4 (Γt xs[i])) := g4.left fun a o => own_agree hv ag o
    have back : ∀ a, Own σ Γ1 a → Own σ4 (Γt xs[i]) a := fun a o => l4.own (own_agree hv w4'.symm o)
    have nD4 : ¬ Own σ4 (Γt xs[i]) D := fun o => (g34.aa D o).elim nD fun z => by rw [hD3.1] at z; cases z
    have hD4 := g34.keepD hD3.1 hD3.2 nD
    refine hk xs[i] hxm σ4 H4 _ ⟨F4, e4, g34.fh, fun v5 F5 H5 g5 e5 dv5 => ?_⟩
    have hD5 := g5.keepD hD4.1 hD4.2 nD4
    refine he xs[i] hxm σ4 H5 _ ⟨F5, e5, g5.fh, fun v6 F6 H6 g6 e6 dv6 => ?_⟩
    have hD6 := g6.keepD hD5.1 hD5.2 nD4
    have g26 := g23.trans ((g34.trans g5).trans g6)
    obtain rfl := key_is dv5
    have tc := leaf_of dv6 (hlf _ hxm)
    have hes : Paired (KvE F6) es ((xs.take i).map kv) := Paired.mapP hd2 fun _ _ z => z.up g26.ff
    have hel : es.length = i := by
      rw [Paired.length hes, List.length_map, List.length_take]
      omega
    have hnot : kf xs[i] ∉ es.map (·.1) := by
      rw [kv_keys hes]
      intro hin
      obtain ⟨e, hh, q⟩ := List.mem_map.mp hin
      obtain ⟨z, hz, rfl⟩ := List.mem_map.mp hh
      have q1 : kf z = kf xs[i] := q
      obtain ⟨j, hj, hzj⟩ := List.getElem_of_mem hz
      rw [List.length_take] at hj
      rw [List.getElem_take] at hzj
      have := (List.getElem_inj (i := j) (j := i) (h₀ := by rw [List.length_map]; omega) (h₁ := by rw [List.length_map]; omega) hnd).mp (by rw [List.getElem_map, List.getElem_map, hzj]; exact q1)
      omega
    refine ⟨es, kf xs[i], rfl, hD6.1, by rw [sizeLine_eq]; omega, F6, es ++ [(kf xs[i], v6)], ((l4.env e6).agree hv w4').mutOther nD, ((g2.trans g26).right back).mutNew hD hD6.2, hD6.2, ?_, ?_⟩
    · rw [put_new hnot, upd_same]
    · rw [List.take_add_one, hx, List.map_append]
      exact paired_snoc ⟨rfl, tc⟩ hes
  · have hie : i = xs.length := by omega
    subst hie
    refine .inl ⟨wk.2 (by rw [List.length_map]; exact Nat.le_refl _), ?_⟩
    rw [List.take_of_length_le (Nat.le_refl _)] at hd2
    exact k (.ref D) _ H2 ((g1.trans g2).frozO hF2 (g1.free hD) hH2) (e2.frozO hF2 nD) (.dkd upd_same (Paired.mapP hd2 fun _ _ z => z.up (Ext.new hF2)))
/-- {k: v for x in xs}, keys ints or texts -/
theorem ee_dkC {kx vx tg iter : Expr} {scope : Scope} {own : List (Str × Nat)} {pos : Pos} {kk : Nat} (xs : List α) (enc : α → PyData) (kf : α → Key) (vf : α → PyData) (Γt : α → Gm) (is : List Nat) (hr : Room kk X.A) (hc : X.calm = true) (hN : X.N.Nodup) (ok : BlkOk X.N X.env.scope scope own) (hv : noV Γ1 (own.map (·.2)) = true)
    (his : ∀ i ∈ is, i ∈ own.map (·.2)) (hsz : xs.length ≤ 16777216) (hnd : (xs.map kf).Nodup) (hlf : ∀ x ∈ xs, Leaf (vf x)) (hless : ∀ x, x ∈ xs → Less Γ1 (Γt x)) (hi : Ei X Γ tg iter (xs.map enc) Γ1)
    (hg : ∀ x, x ∈ xs → InBlk X scope fun Y => Eg Y Γ1 tg (enc x) is (Γt x)) (hk : ∀ x, x ∈ xs → InBlk X scope fun Y => Ee Y (Γt x) kx (keyD (kf x)) (Γt x)) (he : ∀ x, x ∈ xs → InBlk X scope fun Y => Ee Y (Γt x) vx (vf x) (Γt x))
    (hs : ∀ x, foldedSetIterable iter X.env x = pure x := by intro _; rfl) : Ee X Γ (.DictComp kx vx [⟨tg, iter, [], 0⟩] scope pos) (dkM (xs.map fun x => (kf x, vf x))) Γ1 :=
  pe_imp (pe_dc (g := fun v σ H Q => ∃ x, x ∈ xs ∧ tGt X.K Γ1 (enc x) is (Γt x) v σ H Q) (tk := fun σ H Q => ∃ x, x ∈ xs ∧ tE X.K (Γt x) (keyD (kf x)) (Γt x) σ H Q) (tv := fun σ H Q => ∃ x, x ∈ xs ∧ tE X.K (Γt x) (vf x) (Γt x) σ H Q) hc hN hi ok
    (fun s H C cl fp => ⟨fun pins s' σ H' v u Q I r ⟨x, hx, hh⟩ => (hg x hx s H C cl fp).run pins s' σ H' v u Q I r hh⟩)
    (fun s H C cl fp => pts_nil)
    (fun s H C cl fp => ⟨fun pins s' σ H' Q I ⟨x, hx, hh⟩ => (hk x hx s H C cl fp).run pins s' σ H' Q I hh⟩)
    (fun s H C cl fp => ⟨fun pins s' σ H' Q I ⟨x, hx, hh⟩ => (he x hx s H C cl fp).run pins s' σ H' Q I hh⟩) hs)
    (dk_read hv hless his hsz hnd hlf (fun σ H R z => z) (fun x hx v σ H Q z => ⟨x, hx, z⟩) (fun x hx σ H Q z => ⟨x, hx, z⟩) (fun x hx σ H Q z => ⟨x, hx, z⟩))
/-- list(range(m, n)) -/
theorem en_listRg2 {e e2 : Expr} {p1 p2 pp : Pos} {m n : Nat} (hc : X.calm = true) (hl : X.mg "list" = none) (hr : X.mg "range" = none) (ha : Ee X Γ e (.int m) Γ1) (hb : Ee X Γ1 e2 (.int n) Γ2) (hm : m ≤ 16777216) (hn : n ≤ 16777216) (hg : Gl X "list" := by rfl) (hg2 : Gl X "range" := by rfl)
    (na : starEach [e, e2] X.env = (false, eval e X.env) :: starEach [e2] X.env := by rfl) (nb : starEach [e2] X.env = (false, eval e2 X.env) :: starEach [] X.env := by rfl) (hp : (backTo p2 (starEach [e2] X.env)).any (·.1) = false := by rfl)
    (na2 : starEach [Expr.Call (.Name "range" p1) [e, e2] [] p2] X.env = (false, eval (Expr.Call (.Name "range" p1) [e, e2] [] p2) X.env) :: starEach [] X.env := by rfl) :
    En X Γ (.Call (.Name "list" pp) [.Call (.Name "range" p1) [e, e2] [] p2] [] pos) ((List.range (n - m)).map fun i : Nat => PyData.int ((m + i : Nat) : Int)) Γ2 :=
  pe_imp (pe_listRg hc hg hl (prg_2 hg2 hr ha hb na nb hp) na2) fun σ H Q ⟨F, ev, x, k⟩ => ⟨F, ev, x, fun v F1 H1 g1 e1 dv => ⟨F1, e1, g1.fh, fun w F2 H2 g2 e2' dw => by
    cases dv; cases dw
    refine ⟨m, n, rfl, rfl, RgOk.of_le (by omega) (by omega) (by omega) (by omega), ?_⟩
    have h := dda_range (K := X.K) (F := F2) (m : Int) (n : Int)
    have e2 : ((n : Int) - (m : Int)).toNat = n - m := by omega
    rw [e2] at h
    exact tN_new (g1.trans g2) e2' h k⟩⟩
end
end DL
end

section
/-! t[::-1] of a tuple. -/
namespace DL
open PySem PySem.Spec PyProof.Rows L2
section
variable {prog : Program} {w : World} {A : Around} {s : Shared} {E : Value → Shared → Prop}
theorem rev_parts {sl : Addr} {vl vu vs : Value} {n : Nat} {Q : Int × Int × Nat → Shared → Prop} (hs : s.heap.IsSliceOf sl vl vu vs) (pl : IsPart vl none) (pu : IsPart vu none) (ps : IsPart vs (some (-1))) (h : Q ((n : Int) - 1, -1, n) s) :
    wpAny (model prog w) A (Builtin.Slice.sliceApplied (.ref sl) (pure (n : Int))) Q E s := by
  obtain ⟨ob, ho, hc, hd⟩ := id hs
  unfold Builtin.Slice.sliceApplied Builtin.Slice.sliceFields
  refine wpAny_bind (wpAny_bind (wpAny_field ho hd (x := vl) rfl (wpAny_bind (wpAny_field ho hd (x := vu) rfl (wpAny_bind (wpAny_field ho hd (x := vs) rfl (wpAny_pure ?_)))))))
  refine wpAny_bind (HT.slicePart_ ps ?_)
  show wpAny _ _ (if ((-1 : Int) == 0) = true then _ else _) _ _ s
  rw [if_neg (by decide)]
  refine wpAny_bind (HT.slicePart_ pl (wpAny_bind (HT.slicePart_ pu (wpAny_bind (wpAny_pure ?_)))))
  have e : Builtin.Slice.slicePlaces ((n : Int) - 1) (-1) (-1) = n := by
    unfold Builtin.Slice.slicePlaces
    rw [if_neg (by decide)]
    split
    · rw [show (- -1 : Int) = 1 by decide, Int.ediv_one]; omega
    · omega
  show wpAny _ _ (pure ((n : Int) - 1, (-1 : Int), Builtin.Slice.slicePlaces ((n : Int) - 1) (-1) (-1))) Q E s
  rw [e]
  exact wpAny_pure h
theorem back_row {α : Type} (l : List α) : ((List.range l.length).filterMap fun (k : Nat) => l[((l.length : Int) - 1 + (k : Int) * -1).toNat]?) = l.reverse := by
  rw [← range_get l.reverse, List.length_reverse]
  have go : ∀ ks : List Nat, (∀ k ∈ ks, k < l.length) → (ks.filterMap fun (k : Nat) => l[((l.length : Int) - 1 + (k : Int) * -1).toNat]?) = ks.filterMap fun k => l.reverse[k]? := by
    intro ks
    induction ks with
    | nil => intro _; rfl
    | cons k ks ih =>
      intro h
      have hk := h k List.mem_cons_self
      have e : l[((l.length : Int) - 1 + (k : Int) * -1).toNat]? = l.reverse[k]? := by
        rw [List.getElem?_reverse hk, show ((l.length : Int) - 1 + (k : Int) * -1).toNat = l.length - 1 - k by omega]
      rw [List.filterMap_cons, List.filterMap_cons, e, ih fun y hy => h y (List.mem_cons_of_mem _ hy)]
  exact go _ fun k hk => List.mem_range.mp hk
theorem tuple_back {t sl : Addr} {its : List Value} {vl vu vs : Value} {Q : Value → Shared → Prop} (ht : IsTup s.heap t its.toArray) (hs : s.heap.IsSliceOf sl vl vu vs) (pl : IsPart vl none) (pu : IsPart vu none) (ps : IsPart vs (some (-1)))
    (h : Q (.ref s.heap.objs.size) { s with heap := s.heap.push { cls := .type "tuple", data := .seq its.reverse.toArray } }) (hz : its.length ≤ sizeLine) : wpAny (model prog w) A (getItem (.ref t) (.ref sl)) Q E s := by
  have fit : sizeOk (.seq its.reverse.toArray) := by
    show its.reverse.toArray.size ≤ sizeLine
    rw [List.size_toArray, List.length_reverse]; exact hz
  obtain ⟨ob, ho, hc, hd⟩ := id hs
  have hT : s.TypeIs (.ref sl) "slice" := ⟨ob, ho, hc⟩
  unfold getItem
  try with_reducible refine wpAny_holding ?_
  first | refine wpAny_bind (wpAny_pure ?_) | skip
  refine wpAny_bind (wpAny_sequenceKey ht.typeIs (by decide) ?_)
  refine wpAny_bind (wpAny_callSpecial?_slot (name := Str.ofString "__getitem__") ht.typeIs PyProof.Rows.slot_tuple_getitem (wpAny_call_entry PyProof.Rows.slot_tuple_getitem ht.typeIs entry_tuple_getitem ?_ (args_tuple_getitem _ _)))
  show wpAny _ _ (Builtin.Tuple.tupleItemsOf (.ref t) >>= _) _ _ s
  refine wpAny_bind (tupleItemsOf_ ht (wpAny_bind (wpAny_typeOf hT ?_)))
  rw [if_pos (by decide)]
  rw [show (its.toArray.size : Int) = (its.length : Int) by rw [List.size_toArray]]
  refine wpAny_bind (rev_parts hs pl pu ps ?_)
  have no : ¬ (((its.length : Int) - 1 == 0 && (-1 : Int) == 1 && its.length == its.toArray.size) = true) := by
    intro q
    rw [Bool.and_eq_true, Bool.and_eq_true] at q
    have := eq_of_beq q.1.2
    omega
  show wpAny _ _ (if ((its.length : Int) - 1 == 0 && (-1 : Int) == 1 && its.length == its.toArray.size) = true then _ else _) _ _ s
  rw [if_neg no]
  have e := back_row its
  have e2 : ((List.range its.length).filterMap fun (k : Nat) => its.toArray[((its.length : Int) - 1 + (k : Int) * -1).toNat]?) = its.reverse := by
    rw [← e]
    refine congrArg (fun f => List.filterMap f _) ?_
    funext k
    simp
  rw [e2]
  first
    | exact wpAny_bind (m := Builtin.Tuple.tupleExact _) (wpAny_newObj_type (wpAny_pure ⟨_, rfl, wpAny_pure h⟩) fit)
    | exact wpAny_bind (m := Builtin.Tuple.tupleExact _) (wpAny_newObj_type (wpAny_bind (wpAny_pure (wpAny_pure ⟨_, rfl, wpAny_pure h⟩))) fit)
    | exact wpAny_bind (wpAny_bind (m := Builtin.Tuple.tupleExact _) (wpAny_newObj_type (wpAny_pure (wpAny_pure ⟨_, rfl, wpAny_pure h⟩)) fit))
    | exact wpAny_bind (wpAny_bind (m := Builtin.Tuple.tupleExact _) (wpAny_newObj_type (wpAny_pure ⟨_, rfl, wpAny_pure h⟩) fit))
end
section
variable {X : Cx} {Γ Γ1 : Gm} {e : Expr} {ds : List PyData} {pos : Pos}
theorem dda_rev {K : PySem.W.Frag} {F : Hp} {xs : List V} {ds : List PyData} (h : DdA K F xs ds) : DdA K F xs.reverse ds.reverse := by
  rw [← pick_rev, ← pick_rev]
  unfold pick
  rw [h.len]
  exact dda_pick h _
theorem vals_rev {xs : List V} {us : List Value} (h : Vals xs us) : Vals xs.reverse us.reverse := by
  rw [← pick_rev, ← pick_rev]
  unfold pick
  rw [h.length]
  exact vals_pick h _
theorem ee_revBy {st : Expr} {ts : TE} {p3 : Pos} (he : Ee X Γ e (.tuple ds) Γ1) (hst : PE X st ts) (hs : ∀ σ H Q, Q (.int (-1)) H → ts σ H Q)
    (hop : subscriptTail e (.Slice none none (some st) p3) = subscriptTail e (.Slice none none (some st) p3) := by rfl) : Ee X Γ (.Subscript e (.Slice none none (some st) p3) pos) (.tuple ds.reverse) Γ1 := by
  refine ⟨fun pins s σ H Q I h => ?_⟩
  obtain ⟨F, ev, x, kq⟩ := h
  refine Subscript_ (thn (he.run pins s σ H (fun v H1 => ∃ F1, Gr F H (Own σ Γ) F1 H1 (Own σ Γ1) ∧ EnvOk X.K F1 H1 σ Γ1 ∧ Dd X.K F1 v (.tuple ds)) I ⟨F, ev, x, fun v F1 H1 g1 e1 dv => ⟨F1, g1, e1, dv⟩⟩) fun v s1 hh => ?_)
  obtain ⟨u, H1, I1, r1, F1, g1, e1, dv⟩ := hh
  obtain ⟨p, ob, xs, rfl, _, _, hS, hA⟩ := dv.tupAt g1.fh
  cases r1
  refine wpAny_Slice (thn (po_none.run pins s1 σ H1 (fun o H2 => o = none ∧ H2 = H1) I1 ⟨rfl, rfl⟩) fun vl s2 ⟨ol, H2, I2, pl, el, e2⟩ => ?_)
  subst el e2
  refine thn (po_none.run pins s2 σ H2 (fun o H3 => o = none ∧ H3 = H2) I2 ⟨rfl, rfl⟩) fun vu s3 ⟨u, H3, I3, pu, eu, e3⟩ => ?_
  subst eu e3
  refine thn ((po_some hst).run pins s3 σ H3 (fun o H4 => o = some (-1) ∧ H4 = H3) I3 (hs _ _ _ ⟨-1, rfl, rfl, rfl⟩)) fun vs s4 ⟨o, H4, I4, ps, eo, e4⟩ => ?_
  subst eo e4
  have I5 : Inv X pins σ H4 { s4 with heap := s4.heap.push { cls := .type "slice", data := .fields #[vl, vu, vs] } } := I4.kept (t' := s4.toks) fun b ob q => Heap.get?_push_of_some _ q
  obtain ⟨its, r, ht, hz⟩ := I5.tuple hS
  have hlen := r.length
  show wpAny (model X.prog X.w) X.A (subscriptTail e (.Slice none none (some st) p3) (.ref p) (.ref s4.heap.objs.size)) (EP X pins σ Q) X.xe { s4 with heap := s4.heap.push { cls := .type "slice", data := .fields #[vl, vu, vs] } }
  refine tail_any (ops := [.ref p, .ref s4.heap.objs.size]) ht.typeIs (PyProof.Rows.slot_tuple_getitem.lookup) ?_ (by with_unfolding_all rfl)
  refine tuple_back ht (Heap.IsSliceOf.new _ vl vu vs) pl pu ps ?_ (by omega)
  exact tup_end I5 (vals_rev r) (by rw [List.length_reverse]; omega) (tupNew_of g1 e1 (dda_rev hA) kq)
/-- t[::-1] -/
theorem ee_revT {kk : Nat} {p1 p2 p3 : Pos} (he : Ee X Γ e (.tuple ds) Γ1) (hop : subscriptTail e (.Slice none none (some (.UnaryOp .USub (.Constant (.int 1) kk p1) p2)) p3) = subscriptTail e (.Slice none none (some (.UnaryOp .USub (.Constant (.int 1) kk p1) p2)) p3) := by rfl) :
    Ee X Γ (.Subscript e (.Slice none none (some (.UnaryOp .USub (.Constant (.int 1) kk p1) p2)) p3) pos) (.tuple ds.reverse) Γ1 :=
  ee_revBy he (pe_un un_neg pe_int) (fun σ H Q q => ⟨1, rfl, q⟩) hop
end
end DL
end

section
/-! A list of lists of the frame's own, changed in place: its name's slot tells its address, the rows stand beside. -/
namespace DL
open PySem PySem.Spec PyProof.Rows L2
def Tb (l : Addr) (rs : List Addr) (a : Addr) : Prop := a = l ∨ a ∈ rs
def RowAt (K : PySem.W.Frag) (F H : Hp) (r : Addr) (row : List PyData) : Prop := F r = none ∧ ∃ xs, H r = some (.lst xs) ∧ ∀ F', DdA K F' xs row
structure Tab (K : PySem.W.Frag) (F H : Hp) (l : Addr) (rs : List Addr) (rows : List (List PyData)) : Prop where
  fl : F l = none
  hl : H l = some (.lst (rs.map V.ref))
  nd : rs.Nodup
  nl : l ∉ rs
  at_ : Paired (RowAt K F H) rs rows
/-- no slot is a list of the frame's own -/
def noOwn (Γ : Gm) : Prop := ∀ (i : Nat) (s : Slot), Γ[i]? = some (some s) → isOw s = false
def noOwnB (Γ : Gm) : Bool := Γ.all fun o => match o with
  | some s => !isOw s
  | none => true
theorem noOwn_of {Γ : Gm} (h : noOwnB Γ = true) : noOwn Γ := fun i s q => by
  have := List.all_eq_true.mp h (some s) (List.mem_of_getElem? q)
  simpa using this
theorem noOwn.no {Γ : Gm} (h : noOwn Γ) {σ : L2.St} {a : Addr} : ¬ Own σ Γ a := fun ⟨i, s, h1, h2, _⟩ => by rw [h i s h1] at h2; cases h2
/-- no content of a leaf hangs on the heap -/
def LeafD (K : PySem.W.Frag) (d : PyData) : Prop := ∀ F F' v, Dd K F v d → Dd K F' v d
theorem leaf_int {K : PySem.W.Frag} (i : Int) : LeafD K (.int i) := fun F F' v h => by cases h; exact .int i
theorem leaf_none {K : PySem.W.Frag} : LeafD K .none := fun F F' v h => by cases h; exact .non
theorem leaf_bool {K : PySem.W.Frag} (b : Bool) : LeafD K (.bool b) := fun F F' v h => by cases h; exact .bl b
section
variable {K : PySem.W.Frag} {F H F' H' : Hp} {l : Addr} {rs : List Addr} {rows : List (List PyData)} {σ σ' : L2.St} {Γ Γ' : Gm}
theorem Tab.notF (t : Tab K F H l rs rows) {a : Addr} (h : Tb l rs a) : F a = none := by
  rcases h with h | h
  · rw [h]; exact t.fl
  · obtain ⟨_, _, r⟩ := paired_memL t.at_ h
    exact r.1
theorem Tab.inH (t : Tab K F H l rs rows) {a : Addr} (h : Tb l rs a) : ∃ o, H a = some o := by
  rcases h with h | h
  · rw [h]; exact ⟨_, t.hl⟩
  · obtain ⟨_, _, r⟩ := paired_memL t.at_ h
    obtain ⟨_, xs, h1, _⟩ := r
    exact ⟨_, h1⟩
theorem Tab.move (t : Tab K F H l rs rows) (hh : Ext H H') (hF : ∀ a, Tb l rs a → F' a = none) : Tab K F' H' l rs rows := by
  refine ⟨hF _ (.inl rfl), hh _ _ t.hl, t.nd, t.nl, ?_⟩
  have go : ∀ {ss : List Addr} {qs : List (List PyData)}, Paired (RowAt K F H) ss qs → (∀ a ∈ ss, F' a = none) → Paired (RowAt K F' H') ss qs := by
    intro ss qs p
    induction p with
    | nil => intro _; exact .nil
    | cons r _ ih =>
      intro hs
      obtain ⟨_, xs, h1, h2⟩ := r
      exact .cons ⟨hs _ List.mem_cons_self, xs, hh _ _ h1, h2⟩ (ih fun a ha => hs a (List.mem_cons_of_mem _ ha))
  exact go t.at_ fun a ha => hF a (.inr ha)
/-- a growth of a frame without own lists leaves the table alone -/
theorem Gr.ext_of {A A' : Addr → Prop} (g : Gr F H A F' H' A') (h : ∀ a, ¬ A a) : Ext H H' := fun a o q => (g.hh a o q).elim id fun z => absurd z (h a)
theorem Tab.grow {A A' : Addr → Prop} (t : Tab K F H l rs rows) (g : Gr F H A F' H' A') (h : ∀ a, ¬ A a) : Tab K F' H' l rs rows :=
  t.move (g.ext_of h) fun a ha => by
    cases q : F' a with
    | none => rfl
    | some o =>
      rcases g.nw a (by rw [q]; exact Option.some_ne_none o) with z | z | z
      · exact absurd (t.notF ha) z
      · obtain ⟨o', e⟩ := t.inH ha
        rw [e] at z; cases z
      · exact absurd z (h a)
theorem Gr.widen {A A' B : Addr → Prop} (g : Gr F H A F' H' A') (h : ∀ a, ¬ A a) : Gr F H B F' H' B :=
  Gr.ext g.ff g.fh (g.ext_of h) fun a q => (g.nw a q).elim .inl fun z => z.elim .inr fun z => absurd z (h a)
/-- a statement that changes the table -/
def tTs (K : PySem.W.Frag) (l : Addr) (Γ : Gm) (rows : List (List PyData)) (Γ' : Gm) (rows' : List (List PyData)) : TS := fun D σ H => ∃ F rs, EnvOk K F H σ Γ ∧ Ext F H ∧ Tab K F H l rs rows ∧
  ∀ σ' F' H' rs', Gr F H (Tb l rs) F' H' (Tb l rs') → EnvOk K F' H' σ' Γ' → Tab K F' H' l rs' rows' → D.nx σ' H'
def EsT (X : Cx) (l : Addr) (Γ : Gm) (rows : List (List PyData)) (st : Stmt) (Γ' : Gm) (rows' : List (List PyData)) : Prop := PS X st (tTs X.K l Γ rows Γ' rows')
def EssT (X : Cx) (l : Addr) (Γ : Gm) (rows : List (List PyData)) (sts : List Stmt) (Γ' : Gm) (rows' : List (List PyData)) : Prop := PSs X sts (tTs X.K l Γ rows Γ' rows')
def EeT (X : Cx) (l : Addr) (Γ : Gm) (rows : List (List PyData)) (e : Expr) (d : PyData) : Prop := PE X e (fun σ H Q => ∃ F rs, EnvOk X.K F H σ Γ ∧ Ext F H ∧ Tab X.K F H l rs rows ∧
  ∀ v F' H', Gr F H (Tb l rs) F' H' (Tb l rs) → EnvOk X.K F' H' σ Γ → Tab X.K F' H' l rs rows → (∀ F2, Dd X.K F2 v d) → Q v H')
def EtT (X : Cx) (l : Addr) (Γ : Gm) (rows : List (List PyData)) (e : Expr) (p : Bool) : Prop := PT X e (fun σ H Q => ∃ F rs, EnvOk X.K F H σ Γ ∧ Ext F H ∧ Tab X.K F H l rs rows ∧
  ∀ F' H', Gr F H (Tb l rs) F' H' (Tb l rs) → EnvOk X.K F' H' σ Γ → Tab X.K F' H' l rs rows → Q p H')
end
section
variable {X : Cx} {l : Addr} {Γ Γ1 Γ' : Gm} {rows rows1 rows' : List (List PyData)} {st : Stmt} {sts rest body orelse : List Stmt} {e c : Expr} {d : PyData} {p : Bool} {pos : Pos}
theorem esT_lift (h : Es X Γ st (.nx Γ')) (hn : noOwn Γ) : EsT X l Γ rows st Γ' rows :=
  ps_imp h fun D σ H ⟨F, rs, ev, x, t, k⟩ => ⟨F, ev, x, fun σ' F' H' g e' => k σ' F' H' rs (g.widen fun _ => hn.no) e' (t.grow g fun _ => hn.no)⟩
theorem essT_nil : EssT X l Γ rows [] Γ rows := pss_imp pss_nil fun D σ H ⟨F, rs, ev, x, t, k⟩ => k σ F H rs (Gr.refl x) ev t
theorem essT_cons (h1 : EsT X l Γ rows st Γ1 rows1) (h2 : EssT X l Γ1 rows1 rest Γ' rows') : EssT X l Γ rows (st :: rest) Γ' rows' :=
  pss_imp (pss_cons h1 h2) fun D σ H ⟨F, rs, ev, x, t, k⟩ => ⟨F, rs, ev, x, t, fun σ1 F1 H1 rs1 g1 e1 t1 => ⟨F1, rs1, e1, g1.fh, t1, fun σ' F' H' rs' g' e' t' => k σ' F' H' rs' (g1.trans g') e' t'⟩⟩
theorem essT_one (h1 : EsT X l Γ rows st Γ' rows') : EssT X l Γ rows [st] Γ' rows' := essT_cons h1 essT_nil
theorem essT_wk {Γ2 : Gm} (h : EssT X l Γ rows sts Γ' rows') (hl : Less Γ2 Γ') : EssT X l Γ rows sts Γ2 rows' :=
  pss_imp h fun D σ H ⟨F, rs, ev, x, t, k⟩ => ⟨F, rs, ev, x, t, fun σ' F' H' rs' g e t' => k σ' F' H' rs' g (hl.env e) t'⟩
theorem esT_ifT (hc : EtT X l Γ rows c true) (h : EssT X l Γ rows body Γ' rows') : EsT X l Γ rows (.If c body orelse pos) Γ' rows' :=
  ps_imp (ps_if hc h (pss_guard (φ := False) (fun z => z.elim) (t := fun _ _ _ => False))) fun D σ H ⟨F, rs, ev, x, t, k⟩ => ⟨F, rs, ev, x, t, fun F1 H1 g1 e1 t1 =>
    iteT ⟨F1, rs, e1, g1.fh, t1, fun σ' F' H' rs' g' e' t' => k σ' F' H' rs' (g1.trans g') e' t'⟩⟩
theorem esT_ifF (hc : EtT X l Γ rows c false) (h : EssT X l Γ rows orelse Γ' rows') : EsT X l Γ rows (.If c body orelse pos) Γ' rows' :=
  ps_imp (ps_if hc (pss_guard (φ := False) (fun z => z.elim) (t := fun _ _ _ => False)) h) fun D σ H ⟨F, rs, ev, x, t, k⟩ => ⟨F, rs, ev, x, t, fun F1 H1 g1 e1 t1 =>
    iteF ⟨F1, rs, e1, g1.fh, t1, fun σ' F' H' rs' g' e' t' => k σ' F' H' rs' (g1.trans g') e' t'⟩⟩
theorem esT_set (n : Nat) {x : Str} {pos' : Pos} (hN : X.N.Nodup) (he : EeT X l Γ rows e d) (hi : X.N[n]? = some x := by rfl) (hx : Loc X.env.scope x := by first | exact Or.inl rfl | exact Or.inr rfl) (hl : Γ[n]?.isSome = true := by rfl) (hs : swapsWith e (some (.Name x pos')) pos.line X.env = pure false := by rfl) (hf : X.fn x = true ∨ X.env.scope.names.lookup x = some .local := by first | exact .inl rfl | exact .inr rfl) :
    EsT X l Γ rows (.Assign [.Name x pos'] e pos) (Γ.set n (some (.im d))) rows :=
  ps_imp (ps_set hN hi hx he hs hf) fun D σ H ⟨F, rs, ev, xt, t, k⟩ => ⟨F, rs, ev, xt, t, fun v F1 H1 g1 e1 t1 dv => by
    have hn : n < Γ.length := by
      cases h : Γ[n]? with
      | none => rw [h] at hl; cases hl
      | some z => exact (List.getElem?_eq_some_iff.mp h).1
    exact k (σ.set n (some v)) F1 H1 rs g1 (e1.store (dv F1) hn) t1⟩
/-! reading: the rows are data while an expression is worked out -/
section
variable {K : PySem.W.Frag} {F H F' H' : Hp} {rs : List Addr} {σ : L2.St} {n : Nat}
open Classical in
noncomputable def frzT (F H : Hp) (l : Addr) (rs : List Addr) : Hp := fun a => if Tb l rs a then H a else F a
open Classical in
noncomputable def thwT (F : Hp) (l : Addr) (rs : List Addr) : Hp := fun a => if Tb l rs a then none else F a
theorem frz_in {a : Addr} (h : Tb l rs a) : frzT F H l rs a = H a := by unfold frzT; rw [if_pos h]
theorem frz_out {a : Addr} (h : ¬ Tb l rs a) : frzT F H l rs a = F a := by unfold frzT; rw [if_neg h]
theorem thw_in {a : Addr} (h : Tb l rs a) : thwT F l rs a = none := by unfold thwT; rw [if_pos h]
theorem thw_out {a : Addr} (h : ¬ Tb l rs a) : thwT F l rs a = F a := by unfold thwT; rw [if_neg h]
theorem frz_up (t : Tab K F H l rs rows) : Ext F (frzT F H l rs) := fun a o h => by
  by_cases q : Tb l rs a
  · rw [t.notF q] at h; cases h
  · rw [frz_out q]; exact h
theorem frz_fh (x : Ext F H) : Ext (frzT F H l rs) H := fun a o h => by
  by_cases q : Tb l rs a
  · rw [frz_in q] at h; exact h
  · rw [frz_out q] at h; exact x a o h
theorem frz_list (t : Tab K F H l rs rows) : Dd K (frzT F H l rs) (.ref l) (.list (rows.map .list)) := by
  refine .lst (by rw [frz_in (.inl rfl)]; exact t.hl) ?_
  have go : ∀ {ss : List Addr} {qs : List (List PyData)}, Paired (RowAt K F H) ss qs → (∀ a ∈ ss, a ∈ rs) → DdA K (frzT F H l rs) (ss.map V.ref) (qs.map .list) := by
    intro ss qs p
    induction p with
    | nil => intro _; exact .nil
    | cons r _ ih =>
      intro hs
      obtain ⟨_, xs, h1, h2⟩ := r
      exact .cons (.lst (by rw [frz_in (.inr (hs _ List.mem_cons_self))]; exact h1) (h2 _)) (ih fun a ha => hs a (List.mem_cons_of_mem _ ha))
  exact go t.at_ fun a ha => ha
theorem frz_env (hn : noOwn Γ) (hΓ : Γ[n]? = some (some (.ad (.ref l)))) (t : Tab K F H l rs rows) (ev : EnvOk K F H σ Γ) : EnvOk K (frzT F H l rs) H σ (Γ.set n (some (.im (.list (rows.map .list))))) := by
  have no : noOwn (Γ.set n (some (.im (.list (rows.map .list))))) := fun i s q => by
    rcases get_set_some q with ⟨_, e, _⟩ | ⟨_, q2⟩
    · rw [← Option.some.inj e]; rfl
    · exact hn i s q2
  refine ⟨by rw [List.length_set]; exact ev.len, fun i s q => ?_, fun i j s u a b _ hs _ _ _ => by rw [no i s b] at hs; cases hs⟩
  rcases get_set_some q with ⟨rfl, e, _⟩ | ⟨_, q2⟩
  · rw [← Option.some.inj e]
    obtain ⟨v, v1, v2⟩ := ev.ats _ _ hΓ
    have v2 : v = .ref l := v2
    subst v2
    exact ⟨_, v1, frz_list t⟩
  · obtain ⟨v, v1, v2⟩ := ev.ats _ _ q2
    refine ⟨v, v1, ?_⟩
    cases s with
    | im d => exact v2.up (frz_up t)
    | ad u => exact v2
    | ow ds => have := hn i _ q2; cases this
    | pr a ds => have := hn i _ q2; cases this
theorem set_noOwn (hn : noOwn Γ) : noOwn (Γ.set n (some (.im d))) := fun i s q => by
  rcases get_set_some q with ⟨_, e, _⟩ | ⟨_, q2⟩
  · rw [← Option.some.inj e]; rfl
  · exact hn i s q2
theorem thaw (hn : noOwn Γ) (t : Tab K F H l rs rows) (ev : EnvOk K F H σ Γ) {A A' : Addr → Prop} (g : Gr (frzT F H l rs) H A F' H' A') (hA : ∀ a, ¬ A a) :
    Gr F H (Tb l rs) (thwT F' l rs) H' (Tb l rs) ∧ EnvOk K (thwT F' l rs) H' σ Γ ∧ Tab K (thwT F' l rs) H' l rs rows := by
  have hh := g.ext_of hA
  have ff : Ext F (thwT F' l rs) := fun a o h => by
    by_cases q : Tb l rs a
    · rw [t.notF q] at h; cases h
    · rw [thw_out q]; exact g.ff a o (by rw [frz_out q]; exact h)
  have fh : Ext (thwT F' l rs) H' := fun a o h => by
    by_cases q : Tb l rs a
    · rw [thw_in q] at h; cases h
    · rw [thw_out q] at h; exact g.fh a o h
  have nw : ∀ a, thwT F' l rs a ≠ none → F a ≠ none ∨ H a = none := fun a h => by
    by_cases q : Tb l rs a
    · rw [thw_in q] at h; exact absurd rfl h
    · rw [thw_out q] at h
      rcases g.nw a h with z | z | z
      · rw [frz_out q] at z; exact .inl z
      · exact .inr z
      · exact absurd z (hA a)
  exact ⟨Gr.ext ff fh hh nw, ev.keep ff hh nw, t.move hh fun a ha => thw_in ha⟩
theorem eeT_of (n : Nat) (hΓ : Γ[n]? = some (some (.ad (.ref l)))) (hn : noOwn Γ) (ld : LeafD X.K d) (h : Ee X (Γ.set n (some (.im (.list (rows.map .list))))) e d (Γ.set n (some (.im (.list (rows.map .list)))))) : EeT X l Γ rows e d :=
  pe_imp h fun σ H Q ⟨F, rs, ev, x, t, k⟩ => ⟨frzT F H l rs, frz_env hn hΓ t ev, frz_fh x, fun v F' H' g e' dv => by
    obtain ⟨a1, a2, a3⟩ := thaw hn t ev g fun _ => (set_noOwn hn).no
    exact k v _ H' a1 a2 a3 fun F2 => ld F' F2 v dv⟩
theorem etT_of (n : Nat) (hΓ : Γ[n]? = some (some (.ad (.ref l)))) (hn : noOwn Γ) (h : Et X (Γ.set n (some (.im (.list (rows.map .list))))) c p (Γ.set n (some (.im (.list (rows.map .list)))))) : EtT X l Γ rows c p :=
  pt_imp h fun σ H Q ⟨F, rs, ev, x, t, k⟩ => ⟨frzT F H l rs, frz_env hn hΓ t ev, frz_fh x, fun F' H' g e' => by
    obtain ⟨a1, a2, a3⟩ := thaw hn t ev g fun _ => (set_noOwn hn).no
    exact k _ H' a1 a2 a3⟩
end
end
end DL
end

section
/-! Such a list of lists: loops, a new row, a new item, the way in and out. -/
namespace DL
open PySem PySem.Spec PyProof.Rows L2
section
variable {X : Cx} {l : Addr} {Γ Γ1 Γ' : Gm} {rows rows1 rows' : List (List PyData)} {st : Stmt} {sts rest body orelse : List Stmt} {e c : Expr} {d : PyData} {ds : List PyData} {pos : Pos}
theorem esT_for {tg iter : Expr} {is : List Nat} (G G' : Nat → Gm) (R : Nat → List (List PyData)) (hn : ∀ i, noOwn (G i)) (hi : Ei X (G 0) tg iter ds (G 0)) (hg : ∀ i d, ds[i]? = some d → Eg X (G i) tg d is (G' i)) (hb : ∀ i, i < ds.length → EssT X l (G' i) (R i) body (G (i + 1)) (R (i + 1)))
    (hp : PassesOwn (model X.prog X.w) X.A X.env X.xe := by exact PassesOwn.never) (hcm : X.calm = true := by rfl) (hs : ∀ x, foldedSetIterable iter X.env x = pure x := by intro _; rfl) : EsT X l (G 0) (R 0) (.For tg iter body [] pos) (G ds.length) (R ds.length) := by
  have hgA : PG X tg (fun v σ H Q => ∃ i d, ds[i]? = some d ∧ tGt X.K (G i) d is (G' i) v σ H Q) := ⟨fun pins s σ H v u Q I r ⟨i, d, h1, h⟩ => (hg i d h1).run pins s σ H v u Q I r h⟩
  have hbA : PSs X body (fun D σ H => ∃ i, i < ds.length ∧ tTs X.K l (G' i) (R i) (G (i + 1)) (R (i + 1)) D σ H) := ⟨fun pins s σ H D I ⟨i, h1, h⟩ => (hb i h1).run pins s σ H D I h⟩
  refine ps_imp (ps_for hp hcm hi hgA hbA hs) fun D σ H ⟨F, rs, ev, x, t, k⟩ => ⟨F, ev, x, fun J F0 H0 g0 e0 hW => ?_⟩
  have t0 := t.grow g0 fun _ => (hn 0).no
  have w0 : Gr F H (Tb l rs) F0 H0 (Tb l rs) := g0.widen fun _ => (hn 0).no
  refine ⟨fun i m σ' H' => m = ds.length - i ∧ i ≤ ds.length ∧ ∃ F' rs', EnvOk X.K F' H' σ' (G i) ∧ Tab X.K F' H' l rs' (R i) ∧ Gr F0 H0 (Tb l rs) F' H' (Tb l rs'), ⟨ds.length, by omega, Nat.zero_le _, F0, rs, e0, t0, Gr.refl g0.fh⟩, ?_⟩
  rintro i m σ' H' ⟨rfl, hin, F', rs', ev', t', g'⟩
  have wk := hW i F' H' g'.ff g'.fh
  by_cases hlt : i < ds.length
  · have hd : ds[i]? = some ds[i] := List.getElem?_eq_getElem hlt
    obtain ⟨go, yl⟩ := wk.1 _ hd
    refine .inr ⟨go, fun σ2 H2 => ∃ F2 rs2, EnvOk X.K F2 H2 σ2 (G (i + 1)) ∧ Tab X.K F2 H2 l rs2 (R (i + 1)) ∧ Gr F0 H0 (Tb l rs) F2 H2 (Tb l rs2), fun σ2 H2 ⟨F2, rs2, e2, t2, g2⟩ => ⟨ds.length - (i + 1), by omega, rfl, hlt, F2, rs2, e2, t2, g2⟩, fun y H3 hy => ?_⟩
    obtain ⟨F3, y1, y2, y3, y4, dy⟩ := yl y H3 hy
    have gy : Gr F' H' (Tb l rs') F3 H3 (Tb l rs') := Gr.ext y1 y2 y3 y4
    have t3 : Tab X.K F3 H3 l rs' (R i) := t'.grow (A := fun _ => False) (A' := fun _ => False) (Gr.ext y1 y2 y3 y4) fun _ z => z
    exact ⟨i, _, hd, F3, ev'.keep y1 y3 y4, y2, dy, fun σ4 F4 H4 g4 e4 _ => ⟨i, hlt, F4, rs', e4, g4.fh, t3.grow g4 fun _ => (hn i).no, fun σ5 F5 H5 rs5 g5 e5 t5 => ⟨F5, rs5, e5, t5, (g'.trans gy).trans ((g4.widen fun _ => (hn i).no).trans g5)⟩⟩⟩
  · have he : i = ds.length := by omega
    subst he
    exact .inl ⟨wk.2 (Nat.le_refl _), k σ' F' H' rs' (w0.trans g') ev' t'⟩
/-! a new item -/
section
variable {K : PySem.W.Frag} {F H F' H' : Hp} {rs : List Addr} {σ : L2.St} {n : Nat}
theorem rows_skip {r : Addr} {o : HO} {ss : List Addr} {qs : List (List PyData)} (p : Paired (RowAt K F H) ss qs) : r ∉ ss → Paired (RowAt K F (upd H r o)) ss qs := by
  induction p with
  | nil => intro _; exact .nil
  | cons h _ ih =>
    intro hr
    obtain ⟨a1, xs, a2, a3⟩ := h
    exact .cons ⟨a1, xs, by rw [upd_ne fun z => hr (by rw [z]; exact List.mem_cons_self)]; exact a2, a3⟩ (ih fun z => hr (List.mem_cons_of_mem _ z))
theorem rows_put {r : Addr} {xs' : List V} {row' : List PyData} {ss : List Addr} {qs : List (List PyData)} (p : Paired (RowAt K F H) ss qs) : ∀ {a : Nat}, ss.Nodup → ss[a]? = some r → F r = none → (∀ F', DdA K F' xs' row') → Paired (RowAt K F (upd H r (.lst xs'))) ss (qs.set a row') := by
  induction p with
  | nil => intro a _ h; cases h
  | @cons s q ss qs h t ih =>
    intro a nd ha hF hd
    obtain ⟨n1, n2⟩ := List.nodup_cons.mp nd
    cases a with
    | zero =>
      have e : s = r := by simpa using ha
      subst e
      exact .cons ⟨hF, xs', upd_same, hd⟩ (rows_skip t n1)
    | succ a =>
      have ha : ss[a]? = some r := by simpa using ha
      obtain ⟨a1, xs, a2, a3⟩ := h
      have ne : s ≠ r := fun z => n1 (by rw [z]; exact List.mem_of_getElem? ha)
      exact .cons ⟨a1, xs, by rw [upd_ne ne]; exact a2, a3⟩ (ih n2 ha hF hd)
theorem row_get {ss : List Addr} {qs : List (List PyData)} (p : Paired (RowAt K F H) ss qs) : ∀ {a : Nat} {row : List PyData}, qs[a]? = some row → ∃ r, ss[a]? = some r ∧ RowAt K F H r row := by
  induction p with
  | nil => intro a row h; cases h
  | @cons s q ss qs h t ih =>
    intro a row hq
    cases a with
    | zero =>
      have e : q = row := by simpa using hq
      subst e
      exact ⟨s, rfl, h⟩
    | succ a => exact ih (by simpa using hq)
theorem Tab.put (t : Tab K F H l rs rows) {a : Nat} {r : Addr} {xs' : List V} {row' : List PyData} (hr : rs[a]? = some r) (hd : ∀ F', DdA K F' xs' row') : Tab K F (upd H r (.lst xs')) l rs (rows.set a row') := by
  have hm := List.mem_of_getElem? hr
  have ne : l ≠ r := fun z => t.nl (by rw [z]; exact hm)
  exact ⟨t.fl, by rw [upd_ne ne]; exact t.hl, t.nd, t.nl, rows_put t.at_ t.nd hr (t.notF (.inr hm)) hd⟩
theorem Gr.tab (t : Tab K F H l rs rows) (x : Ext F H) {r : Addr} {o : HO} (hr : Tb l rs r) {rs' : List Addr} (ha : ∀ a, Tb l rs' a → Tb l rs a) : Gr F H (Tb l rs) F (upd H r o) (Tb l rs') := by
  refine ⟨Ext.refl F, x.mut (t.notF hr), fun a u h => ?_, fun a h => .inl h, fun a h => .inl (ha a h)⟩
  by_cases q : a = r
  · subst q; exact .inr hr
  · rw [upd_ne q]; exact .inl h
/-- a new row -/
theorem Tab.app (t : Tab K F H l rs rows) {r : Addr} {xs : List V} {row : List PyData} (hF : F r = none) (hr : H r = some (.lst xs)) (hl : r ≠ l) (hn : r ∉ rs) (hd : ∀ F', DdA K F' xs row) : Tab K F (upd H l (.lst (rs.map V.ref ++ [.ref r]))) l (rs ++ [r]) (rows ++ [row]) := by
  refine ⟨t.fl, by rw [upd_same, List.map_append]; rfl, ?_, fun z => ?_, paired_snoc ⟨hF, xs, by rw [upd_ne hl]; exact hr, hd⟩ (rows_skip t.at_ t.nl)⟩
  · rw [List.nodup_append]
    refine ⟨t.nd, by simp, fun a ha b hb e => ?_⟩
    rw [List.mem_singleton.mp hb] at e
    exact hn (e ▸ ha)
  · rcases List.mem_append.mp z with z | z
    · exact t.nl z
    · exact hl (List.mem_singleton.mp z).symm
end
/-! the way in and out -/
def ErT (X : Cx) (l : Addr) (Γ : Gm) (rows : List (List PyData)) (sts : List Stmt) (d : PyData) : Prop := PSs X sts (fun D σ H => ∃ F rs, EnvOk X.K F H σ Γ ∧ Ext F H ∧ Tab X.K F H l rs rows ∧
  ∀ v F' H', Gr F H (Tb l rs) F' H' (fun _ => False) → Dd X.K F' v d → D.rt v H')
theorem erT_cons (h1 : EsT X l Γ rows st Γ1 rows1) (h2 : ErT X l Γ1 rows1 rest d) : ErT X l Γ rows (st :: rest) d :=
  pss_imp (pss_cons h1 h2) fun D σ H ⟨F, rs, ev, x, t, k⟩ => ⟨F, rs, ev, x, t, fun σ1 F1 H1 rs1 g1 e1 t1 => ⟨F1, rs1, e1, g1.fh, t1, fun v F' H' g' dv => k v F' H' (g1.trans g') dv⟩⟩
theorem erT_frz (n : Nat) (hΓ : Γ[n]? = some (some (.ad (.ref l)))) (hn : noOwn Γ) (h : Er X (Γ.set n (some (.im (.list (rows.map .list))))) sts d) : ErT X l Γ rows sts d := by
  obtain ⟨g, hE⟩ := h
  refine pss_imp hE fun D σ H ⟨F, rs, ev, x, t, k⟩ => ⟨frzT F H l rs, frz_env hn hΓ t ev, frz_fh x, fun v σ' F' H' g' e' dv => k v F' H' ?_ dv⟩
  have no : ∀ a, ¬ Own σ (Γ.set n (some (.im (.list (rows.map .list))))) a := fun a => (set_noOwn hn).no
  have g0 : Gr F H (Tb l rs) (frzT F H l rs) H (Own σ (Γ.set n (some (.im (.list (rows.map .list)))))) := ⟨frz_up t, frz_fh x, fun a o h => .inl h, fun a h => by
    by_cases q : Tb l rs a
    · exact .inr (.inr q)
    · rw [frz_out q] at h; exact .inl h, fun a h => absurd h (no a)⟩
  have g2 := g0.trans g'
  exact ⟨g2.ff, g2.fh, g2.hh, g2.nw, fun a z => z.elim⟩
theorem er_toT (n : Nat) (h0 : Γ[n]? = some (some (.ow []))) (hn : ∀ l, noOwn (Γ.set n (some (.ad (.ref l))))) (h : ∀ l, ErT X l (Γ.set n (some (.ad (.ref l)))) [] sts d) : Er X Γ sts d := by
  refine ⟨List.replicate Γ.length none, ⟨fun pins s σ H D I hh => ?_⟩⟩
  obtain ⟨F, ev, x, k⟩ := hh
  obtain ⟨l, xs, s1, s2, s3, s4⟩ := own_get ev h0 rfl
  cases s4
  have hlen : n < Γ.length := (List.getElem?_eq_some_iff.mp h0).1
  refine (h l).run pins s σ H D I ⟨F, [], ⟨by rw [List.length_set]; exact ev.len, fun i s q => ?_, fun i j s u a b _ hs _ _ _ => by rw [hn l i s b] at hs; cases hs⟩, x, ⟨s2, s3, List.nodup_nil, by simp, .nil⟩, fun v F' H' g dv => ?_⟩
  · rcases get_set_some q with ⟨rfl, e, _⟩ | ⟨_, q2⟩
    · rw [← Option.some.inj e]
      exact ⟨_, s1, rfl⟩
    · exact ev.ats i s q2
  · have up : ∀ a, Tb l [] a → Own σ Γ a := fun a z => by
      rcases z with z | z
      · rw [z]; exact ⟨n, _, h0, rfl, s1⟩
      · cases z
    have none_ : ∀ (i : Nat) (s : Slot), (List.replicate Γ.length (none : Option Slot))[i]? = some (some s) → False := fun i s q => by
      rw [List.getElem?_replicate] at q
      split at q <;> cases q
    refine k v σ F' H' ⟨g.ff, g.fh, fun a o z => (g.hh a o z).imp id (up a), fun a z => ?_, fun a ⟨i, s, q, _⟩ => (none_ i s q).elim⟩ ⟨by rw [List.length_replicate]; exact ev.len, fun i s q => (none_ i s q).elim, fun i j s u a b _ _ _ _ _ => (none_ i s b).elim⟩ dv
    rcases g.nw a z with y | y | y
    · exact .inl y
    · exact .inr (.inl y)
    · exact .inr (.inr (up a y))
end
end DL
end

section
namespace DL
open PySem PySem.Spec PyProof.Rows L2
section
variable {X : Cx} {l : Addr} {Γ Γ1 Γ' : Gm} {rows rows1 rows' : List (List PyData)} {e ea eb : Expr} {d : PyData} {ds : List PyData} {pos : Pos} {n : Nat}
theorem ad_at {K : PySem.W.Frag} {F H : Hp} {σ : L2.St} (hΓ : Γ[n]? = some (some (.ad (.ref l)))) (ev : EnvOk K F H σ Γ) : σ[n]? = some (some (.ref l)) := by
  obtain ⟨v, v1, v2⟩ := ev.ats n _ hΓ
  have v2 : v = .ref l := v2
  rw [v2] at v1
  exact v1
theorem ixN_nat {m j : Nat} (hj : j < m) : ixN m (j : Int) = some j := by
  unfold ixN
  rw [if_pos (by omega), if_pos (by omega), Int.toNat_natCast]
theorem atI_nat {α : Type} {xs : List α} {j : Nat} {x : α} (h : xs[j]? = some x) : atI xs (j : Int) = some x := by
  have hj := (List.getElem?_eq_some_iff.mp h).1
  unfold atI
  rw [ixN_nat hj]
  exact h
/-- x[a][b] = e -/
theorem esT_put {a b : Nat} {row : List PyData} {x : Str} {p1 p2 ps : Pos} (hΓ : Γ[n]? = some (some (.ad (.ref l)))) (hn : noOwn Γ) (hx : PE X (.Name x p1) (tVar n)) (he : Ee X Γ e d Γ) (ld : LeafD X.K d) (ha : Ee X Γ ea (.int a) Γ) (hb : Ee X Γ eb (.int b) Γ) (hr : rows[a]? = some row) (hbl : b < row.length)
    (hq : ∀ v, assign (.Subscript (.Subscript (.Name x p1) ea p2) eb ps) X.env v = (do
      let ov ← holding [v] (eval (.Subscript (.Name x p1) ea p2) X.env)
      let iv ← holding [v, ov] (eval eb X.env)
      standAt ps
      holding [v, ov, iv] (setItem ov iv v)
      release [v, ov, iv] []) := by intro _; rfl)
    (hs : swapsWithSole [.Subscript (.Subscript (.Name x p1) ea p2) eb ps] e pos.line X.env = pure false := by rfl) (hw : swappedStores [.Subscript (.Subscript (.Name x p1) ea p2) eb ps] e X.env = pure none := by rfl) (h1 : (assignEach [.Subscript (.Subscript (.Name x p1) ea p2) eb ps] X.env).map (·.2) = [assign (.Subscript (.Subscript (.Name x p1) ea p2) eb ps) X.env] := by rfl)
    (hpi : PlainIx ea := by exact fun _ _ => rfl) : EsT X l Γ rows (.Assign [.Subscript (.Subscript (.Name x p1) ea p2) eb ps] e pos) Γ (rows.set a (row.set b d)) :=
  ps_imp (ps_asg he (pg_sub (pe_ix ix_list hx ha hpi) hb set_list hq) hs hw h1) fun D σ H ⟨F, rs, ev, xt, t, k⟩ => ⟨F, ev, xt, fun v F1 H1 g1 e1 dv => by
    have t1 := t.grow g1 fun _ => hn.no
    refine ⟨.ref l, ad_at hΓ e1, F1, e1, g1.fh, fun w F2 H2 g2 e2 dw => ?_⟩
    cases dw
    have t2 := t1.grow g2 fun _ => hn.no
    obtain ⟨r, r1, r2⟩ := row_get t2.at_ hr
    refine ⟨l, rs.map V.ref, (a : Int), .ref r, rfl, rfl, SqL.of t2.hl, atI_nat (by rw [List.getElem?_map, r1]; rfl), F2, e2, g2.fh, fun w F3 H3 g3 e3 dw => ?_⟩
    cases dw
    have t3 := t2.grow g3 fun _ => hn.no
    obtain ⟨r', r3, _, xs, r4, r5⟩ := row_get t3.at_ hr
    have er : r' = r := Option.some.inj (r3.symm.trans r1)
    subst er
    refine ⟨r', xs, (b : Int), b, rfl, rfl, r4, by rw [(r5 F3).len]; exact ixN_nat hbl, ?_⟩
    exact k σ F3 _ rs (((g1.widen fun _ => hn.no).trans ((g2.widen fun _ => hn.no).trans (g3.widen fun _ => hn.no))).trans (Gr.tab t3 g3.fh (.inr (List.mem_of_getElem? r1)) fun _ z => z)) (e3.mutOther hn.no) (t3.put r1 fun F' => (r5 F').set (ld F1 F' v dv))⟩
/-- x.append(a new list) -/
theorem esT_append {x : Str} {p1 apos cpos : Pos} (hΓ : Γ[n]? = some (some (.ad (.ref l)))) (hn : noOwn Γ) (hx : PE X (.Name x p1) (tVar n)) (hE : En X Γ e ds Γ) (ll : ∀ F F' xs, DdA X.K F xs ds → DdA X.K F' xs ds) (hl : rows.length < 16777216)
    (hbase : attributeBase (.Name x p1) "append" X.env (eval (.Name x p1) X.env) = eval (.Name x p1) X.env := by rfl)
    (hfew : ((backTo cpos (starEach [e] X.env)).all (fun x => !x.1) && (backToKw cpos (keywordEach [] X.env)).all (fun x => x.1.isSome) && decide ([e].length + ([] : List Keyword).length + (if ([] : List Keyword).isEmpty then 0 else 1) < 30)) = true := by rfl)
    (hline : (apos.endLine == cpos.line) = true := by rfl) (hs : starEach [e] X.env = (false, eval e X.env) :: starEach [] X.env := by rfl) (hplain : (backTo cpos (starEach [] X.env)).any (·.1) = false := by rfl) (hsw : swapsWith (.Call (.Attribute (.Name x p1) "append" apos) [e] [] cpos) none pos.line X.env = pure false := by rfl) :
    EsT X l Γ rows (.Expr (.Call (.Attribute (.Name x p1) "append" apos) [e] [] cpos) pos) Γ (rows ++ [ds]) :=
  ps_imp (ps_expr (pe_bm PySem.F.plainAttrs_list PySem.F.slot_list_append PySem.F.type_list_append mt_append hx (pa_cons hE pa_nil hs) hbase hfew hline hs hplain) hsw) fun D σ H ⟨F, rs, ev, xt, t, k⟩ => by
    refine ⟨.ref l, ad_at hΓ ev, .inl ⟨rfl, rs.map V.ref, SqL.of t.hl⟩, F, ev, xt, fun r xs F1 H1 g1 e1 hF hH hr ho dv => ?_⟩
    have t1 := t.grow g1 fun _ => hn.no
    have hnew : H r = none := hH.elim id fun z => absurd z hn.no
    have out : ¬ Tb l rs r := fun z => by
      obtain ⟨o, e⟩ := t.inH z
      rw [hnew] at e; cases e
    have hlen : rs.length = rows.length := Paired.length t1.at_
    refine ⟨l, rs.map V.ref, .ref r, rfl, rfl, t1.hl, by rw [List.length_map, hlen, sizeLine_eq]; exact hl, ?_⟩
    have ta := t1.app hF hr (fun z => out (.inl z)) (fun z => out (.inr z)) fun F' => ll F1 F' xs dv
    refine k σ F1 _ (rs ++ [r]) ?_ (e1.mutOther hn.no) ta
    have g2 := g1.widen (B := Tb l rs) fun _ => hn.no
    refine ⟨g2.ff, g1.fh.mut t1.fl, fun a u h => ?_, g2.nw, fun a h => ?_⟩
    · by_cases q : a = l
      · exact .inr (.inl q)
      · rw [upd_ne q]; exact g2.hh a u h
    · rcases h with h | h
      · exact .inl (.inl h)
      · rcases List.mem_append.mp h with h | h
        · exact .inl (.inr h)
        · rw [List.mem_singleton.mp h]; exact .inr hnew
end
end DL
end

section
namespace DL
open PySem PySem.Spec PyProof.Rows L2
open PySem.W (AlikeAll)
section
variable {X : Cx} {Γ Γ1 : Gm} {e : Expr} {ds : List PyData} {pos pp : Pos}
/-- max(a tuple of alike data) -/
def rMaxT (K : PySem.W.Frag) : List V → Hp → VK → Prop := fun xs H Q => ∃ (p : Addr) (ys : List V) (x : PyData) (ds : List PyData), xs = [.ref p] ∧ SqT K H p ys ∧ DpAll K H ys (x :: ds) ∧ AlikeAll (x :: ds) ∧ PyData.canLayAll0 (x :: ds) = true ∧ PyData.depthAll (x :: ds) ≤ 60 ∧
  ∀ (i : Nat) (y : V), ys[i]? = some y → (x :: ds)[i]? = some (PySem.W.maxD x ds) → Q y H
theorem call_maxT {kk : Nat} (hr : Room kk X.A) (hc : X.calm = true) : CallR X (.builtin "max") (rMaxT X.K) := by
  intro pins s σ H xs us Q I r h
  obtain ⟨p, ys, x, ds, rfl, hs, hd, ha, hl, hdep, q⟩ := h
  obtain ⟨u, rfl, rx⟩ := vals1 r
  cases rx
  obtain ⟨its, rv, pl, hz⟩ := I.tuple hs
  obtain ⟨as, hR⟩ := Dp.readsAll I (x :: ds) ys its hd rv
  refine PySem.W.max_tuple_data (I.ok.hd hc) (show s.heap.IsTuple p its.toArray from pl) hR ha (by have := hr.un; omega) fun i v h' tk bs hv hrd hk => ?_
  have hvi : its[i]? = some v := by rw [← Array.getElem?_toList] at hv; exact hv
  have hlen := rv.length
  have hlt : i < ys.length := by
    rw [hlen]; exact (List.getElem?_eq_some_iff.mp hvi).1
  obtain ⟨w, hw, rw'⟩ := rv.get (List.getElem?_eq_getElem hlt)
  rw [hvi] at hw
  cases hw
  have hdl : ∀ {ys : List V} {ds : List PyData}, DpAll X.K H ys ds → ∀ (i : Nat) (y : V), ys[i]? = some y → ∃ d, ds[i]? = some d ∧ Dp X.K H y d := by
    intro ys ds h
    induction ds generalizing ys with
    | nil => intro i y hy; cases h; simp at hy
    | cons d ds ih =>
      intro i y hy
      cases h with
      | cons h1 h2 =>
        cases i with
        | zero => cases hy; exact ⟨d, rfl, h1⟩
        | succ i => exact ih h2 i y hy
  obtain ⟨d, hdi, hdd⟩ := hdl hd i _ (List.getElem?_eq_getElem hlt)
  have I2 : Inv X pins σ H { s with heap := h', toks := tk } := I.kept hk
  obtain ⟨cs, hrd2⟩ := Dp.reads I2 d _ _ hdd rw'
  have lay : d.canLay0 = true := layAll_mem hl (List.mem_of_getElem? hdi)
  have e : d = PySem.W.maxD x ds := PySem.SeqAt.Reads.unique d _ _ _ _ lay hrd2 hrd
  exact ⟨_, H, I2, rw', q i _ (List.getElem?_eq_getElem hlt) (by rw [hdi, e])⟩
theorem ee_maxT {kk : Nat} {x : PyData} (hr : Room kk X.A) (hc : X.calm = true) (hm : X.mg "max" = none) (ha : Ea X Γ [e] [.tuple (x :: ds)] Γ1) (hal : AlikeAll (x :: ds)) (hl : PyData.canLayAll0 (x :: ds) = true) (hdep : PyData.depthAll (x :: ds) ≤ 60) (hg : Gl X "max" := by rfl)
    (he : starEach [e] X.env = (false, eval e X.env) :: starEach [] X.env := by rfl) : Ee X Γ (.Call (.Name "max" pp) [e] [] pos) (PySem.W.maxD x ds) Γ1 :=
  ee_cb (id := "max") (call_maxT hr hc) hm (by decide +kernel) ha (fun F H vs Q x1 hx q => by
    obtain ⟨v, rfl, hv⟩ := one_of hx
    obtain ⟨p, ob, xs, rfl, _, _, hS, hA⟩ := hv.tupAt x1
    exact ⟨p, xs, x, ds, rfl, hS, DdA.dp x1 (x :: ds) _ hl hA, hal, hl, hdep, fun i y h1 h2 => q y F H (Ext.refl F) x1 (Ext.refl H) (fun a h => .inl h) (dda_at hA h1 h2)⟩) hg (by decide) (by decide) he rfl
end
end DL
end

section
/-! Texts: split, join, str of a whole number, int of a text, f-strings of two parts. -/
namespace DL
open PySem PySem.Spec PyProof.Rows L2
section
variable {X : Cx} {Γ Γ1 Γ2 : Gm} {o e : Expr} {a b : Str} {pos pp : Pos} {apos cpos : Pos}
theorem dda_strs {K : PySem.W.Frag} {F : Hp} : ∀ (xs : List Str), DdA K F (xs.map V.str) (xs.map PyData.str)
  | [] => .nil
  | x :: xs => .cons (.str x) (dda_strs xs)
theorem strs_of {K : PySem.W.Frag} {F : Hp} : ∀ {xs : List Str} {vs : List V}, DdA K F vs (xs.map PyData.str) → vs = xs.map V.str
  | [], _, h => by cases h; rfl
  | x :: xs, _, h => by
    cases h with
    | cons h1 h2 =>
      cases h1
      rw [strs_of h2]; rfl
/-- a.split(b) -/
theorem en_split (ho : Ee X Γ o (.str a) Γ1) (ha : Ea X Γ1 [e] [.str b] Γ2) (hb : (b.length == 0) = false) (hz : a.length + 2 ≤ 16777216)
    (hbase : attributeBase o "split" X.env (eval o X.env) = eval o X.env := by rfl)
    (hfew : ((backTo cpos (starEach [e] X.env)).all (fun x => !x.1) && (backToKw cpos (keywordEach [] X.env)).all (fun x => x.1.isSome) && decide ([e].length + ([] : List Keyword).length + (if ([] : List Keyword).isEmpty then 0 else 1) < 30)) = true := by rfl)
    (hline : (apos.endLine == cpos.line) = true := by rfl) (hs : starEach [e] X.env = (false, eval e X.env) :: starEach [] X.env := by rfl) (hplain : (backTo cpos (starEach [] X.env)).any (·.1) = false := by rfl) :
    En X Γ (.Call (.Attribute o "split" apos) [e] [] cpos) ((Txt.split a b).map .str) Γ2 :=
  pe_imp (pe_bm PySem.F.plainAttrs_str PySem.F.slot_str_split PySem.F.type_str_split mt_split ho ha hbase hfew hline hs hplain) fun σ H Q ⟨F, ev, x, k⟩ => ⟨F, ev, x, fun v F1 H1 g1 e1 dv => by
    cases dv
    refine ⟨rfl, F1, e1, g1.fh, fun vs F2 H2 g2 e2 dvs => by
      obtain ⟨z, rfl, dz⟩ := one_of dvs
      cases dz
      exact ⟨a, b, rfl, rfl, hb, by rw [sizeLine_eq]; exact hz, tN_new (g1.trans g2) e2 (dda_strs _) k⟩⟩⟩
/-- a.join(a list of texts) -/
theorem ee_join {ys : List Str} (ho : Ee X Γ o (.str a) Γ1) (ha : Ea X Γ1 [e] [.list (ys.map .str)] Γ2) (hz : (ys.map (·.length)).sum + ys.length * a.length ≤ 16777216)
    (hbase : attributeBase o "join" X.env (eval o X.env) = eval o X.env := by rfl)
    (hfew : ((backTo cpos (starEach [e] X.env)).all (fun x => !x.1) && (backToKw cpos (keywordEach [] X.env)).all (fun x => x.1.isSome) && decide ([e].length + ([] : List Keyword).length + (if ([] : List Keyword).isEmpty then 0 else 1) < 30)) = true := by rfl)
    (hline : (apos.endLine == cpos.line) = true := by rfl) (hs : starEach [e] X.env = (false, eval e X.env) :: starEach [] X.env := by rfl) (hplain : (backTo cpos (starEach [] X.env)).any (·.1) = false := by rfl) :
    Ee X Γ (.Call (.Attribute o "join" apos) [e] [] cpos) (.str (Txt.join a ys)) Γ2 :=
  pe_imp (pe_bm PySem.F.plainAttrs_str PySem.F.slot_str_join PySem.F.type_str_join mt_join ho ha hbase hfew hline hs hplain) fun σ H Q ⟨F, ev, x, k⟩ => ⟨F, ev, x, fun v F1 H1 g1 e1 dv => by
    cases dv
    refine ⟨rfl, F1, e1, g1.fh, fun vs F2 H2 g2 e2 dvs => ?_⟩
    obtain ⟨z, rfl, dz⟩ := one_of dvs
    obtain ⟨p, xs, rfl, _, hS, hA⟩ := dz.lstAt g2.fh
    rw [strs_of hA] at hS
    exact ⟨a, p, ys, rfl, rfl, .inl hS, hz, k _ F2 H2 (g1.trans g2) e2 (.str _)⟩⟩
/-- str(i) -/
theorem ee_strI {i : Int} (hm : X.mg "str" = none) (ha : Ea X Γ [e] [.int i] Γ1) (hi : i.natAbs.log2 < 1920) (hg : Gl X "str" := by rfl) (he : starEach [e] X.env = (false, eval e X.env) :: starEach [] X.env := by rfl) : Ee X Γ (.Call (.Name "str" pp) [e] [] pos) (.str (toString i)) Γ1 :=
  ee_cty call_str_int hm (by decide +kernel) ha (cd_here fun F H vs Q x hx => by
    obtain ⟨v, rfl, hv⟩ := one_of hx
    cases hv
    exact ⟨_, .str _, fun k => ⟨i, rfl, hi, k⟩⟩) hg (by decide) (by decide) he rfl
/-- int(a) -/
theorem ee_intS {n : Int} (hm : X.mg "int" = none) (ha : Ea X Γ [e] [.str a] Γ1) (hi : PySem.intText? a = some n) (hz : a.length ≤ 640) (hg : Gl X "int" := by rfl) (he : starEach [e] X.env = (false, eval e X.env) :: starEach [] X.env := by rfl) : Ee X Γ (.Call (.Name "int" pp) [e] [] pos) (.int n) Γ1 :=
  ee_cty call_int_str hm (by decide +kernel) ha (cd_here fun F H vs Q x hx => by
    obtain ⟨v, rfl, hv⟩ := one_of hx
    cases hv
    exact ⟨_, .int _, fun k => ⟨a, n, rfl, hi, hz, k⟩⟩) hg (by decide) (by decide) he rfl
/-- a part of an f-string -/
theorem ee_fmtI {i : Int} (ha : Ee X Γ e (.int i) Γ1) (hi : i.natAbs.log2 < 1920) : Ee X Γ (.FormattedValue e (-1) none pos) (.str (toString i)) Γ1 :=
  pe_imp (pe_fmt ha) fun σ H Q ⟨F, ev, x, k⟩ => ⟨F, ev, x, fun v F1 H1 g1 e1 dv => by
    cases dv
    exact .inr ⟨i, rfl, hi, k _ F1 H1 g1 e1 (.str _)⟩⟩
theorem ee_fmtS (ha : Ee X Γ e (.str a) Γ1) (hz : a.length ≤ 16777216) : Ee X Γ (.FormattedValue e (-1) none pos) (.str a) Γ1 :=
  pe_imp (pe_fmt ha) fun σ H Q ⟨F, ev, x, k⟩ => ⟨F, ev, x, fun v F1 H1 g1 e1 dv => by
    cases dv
    exact .inl ⟨a, rfl, by rw [sizeLine_eq]; exact hz, k _ F1 H1 g1 e1 (.str _)⟩⟩
theorem ee_fs2 {v1 v2 : Expr} (h1 : Ee X Γ v1 (.str a) Γ1) (h2 : Ee X Γ1 v2 (.str b) Γ2) (hz : (Str.empty ++ a).length ≤ 16777216) (hz2 : (Str.empty ++ a ++ b).length ≤ 16777216) : Ee X Γ (.JoinedStr [v1, v2] pos) (.str (Str.empty ++ a ++ b)) Γ2 :=
  pe_imp (pe_joined (.cons h1 (.cons h2 .nil))) fun σ H Q ⟨F, ev, x, k⟩ => ⟨F, ev, x, fun v F1 H1 g1 e1 dv => by
    cases dv
    refine ⟨a, rfl, by rw [sizeLine_eq]; exact hz, F1, e1, g1.fh, fun w F2 H2 g2 e2 dw => ?_⟩
    cases dw
    exact ⟨b, rfl, by rw [sizeLine_eq]; exact hz2, k _ F2 H2 (g1.trans g2) e2 (.str _)⟩⟩
end
end DL
end

section
/-! k in d, k not in d, d a dict with ints or texts as keys. -/
namespace DL
open PySem PySem.Spec PyProof.Rows L2
section
variable {X : Cx} {Γ Γ1 Γ2 : Gm} {a b : Expr} {pos : Pos}
theorem find_some {es : List (Key × V)} {k : Key} : (valV es k).isSome = ((es.map (·.1)).any fun q => decide (q = k)) := by
  rw [← valV_any, List.any_map]; rfl
theorem ee_dkIn {kv : List (Key × PyData)} {k : Key} {kk : Nat} (hr : Room kk X.A) (ha : Ee X Γ a (keyD k) Γ1) (hb : Ee X Γ1 b (dkM kv) Γ2) (hm : behindInMarks .In b = false := by rfl) : Ee X Γ (.Compare a [.In] [b] pos) (.bool (((kv.map (·.1)).any fun q => decide (q = k)))) Γ2 :=
  pe_imp (pe_cmp (pc_din (by have := hr.un; omega) ha hb) hm) fun σ H Q ⟨F, ev, x, kq⟩ => ⟨F, ev, x, fun v F1 H1 g1 e1 dv => ⟨F1, e1, g1.fh, fun w F2 H2 g2 e2 dw => by
    obtain ⟨c, es, rfl, h1, h2⟩ := dkd_of dw
    obtain rfl := key_is dv
    refine ⟨c, _, rfl, DGet.k (k := k) (g2.fh _ _ h1), ?_⟩
    have e : (valV es k).isSome = ((kv.map (·.1)).any fun q => decide (q = k)) := by rw [find_some, kv_keys h2]
    rw [e]
    exact kq _ F2 H2 (g1.trans g2) e2 (.bl _)⟩⟩
theorem ee_dkNotIn {kv : List (Key × PyData)} {k : Key} {kk : Nat} (hr : Room kk X.A) (ha : Ee X Γ a (keyD k) Γ1) (hb : Ee X Γ1 b (dkM kv) Γ2) (hm : behindInMarks .NotIn b = false := by rfl) : Ee X Γ (.Compare a [.NotIn] [b] pos) (.bool (!((kv.map (·.1)).any fun q => decide (q = k)))) Γ2 :=
  pe_imp (pe_cmp (pc_dnotin (by have := hr.un; omega) ha hb) hm) fun σ H Q ⟨F, ev, x, kq⟩ => ⟨F, ev, x, fun v F1 H1 g1 e1 dv => ⟨F1, e1, g1.fh, fun w F2 H2 g2 e2 dw => by
    obtain ⟨c, es, rfl, h1, h2⟩ := dkd_of dw
    obtain rfl := key_is dv
    refine ⟨c, _, rfl, DGet.k (k := k) (g2.fh _ _ h1), ?_⟩
    have e : (valV es k).isSome = ((kv.map (·.1)).any fun q => decide (q = k)) := by rw [find_some, kv_keys h2]
    rw [e]
    exact kq _ F2 H2 (g1.trans g2) e2 (.bl _)⟩⟩
end
end DL
end

section
/-! Errors that bear fields: a def that may raise one or another; a class whose __init__ stores two things; a loop left by an error. -/
namespace DL
open PySem PySem.Spec PyProof.Rows L2
/-- an error: its class, what its fields hold -/
structure Err where
  cls : Addr
  fs : Option (List (Str × V))
def ErrAt (z : Err) (cls : Value) (d : Option Addr) (H : Hp) : Prop := cls = .ref z.cls ∧ match z.fs with
  | none => d = none
  | some fs => ∃ a, d = some a ∧ H a = some (.xd fs)
theorem ErrAt.up {z : Err} {cls : Value} {d : Option Addr} {H H' : Hp} (h : ErrAt z cls d H) (x : Ext H H') : ErrAt z cls d H' := by
  obtain ⟨h1, h2⟩ := h
  refine ⟨h1, ?_⟩
  cases e : z.fs with
  | none => rw [e] at h2; exact h2
  | some fs =>
    rw [e] at h2
    obtain ⟨a, h3, h4⟩ := h2
    exact ⟨a, h3, x _ _ h4⟩
/-- what a def of data ends in -/
inductive Rz where
  | ok (d : PyData)
  | er (z : Err)
section
variable {X : Cx} {Γ Γ1 : Gm} {c e e1 e2 tg iter : Expr} {es : List Expr} {st : Stmt} {rest body orelse : List Stmt} {pos pos' p pg cp ap py : Pos} {z : Err} {E : XK} {W : WX} {d d1 d2 : PyData} {ds : List PyData} {is : List Nat} {k j : Nat} {g y : Str} {ps : List Str} {v1 v2 : V} {b : Bool}
/-- out of a block by the error z -/
def Ry (X : Cx) (Γ : Gm) (sts : List Stmt) (z : Err) (E : XK) : Prop := PSs X sts (fun _ σ H => ∃ F, EnvOk X.K F H σ Γ ∧ Ext F H ∧ ∀ σ' Γ' F' H' cls d, Gr F H (Own σ Γ) F' H' (Own σ' Γ') → ErrAt z cls d H' → E cls d H')
/-- an expression that raises z -/
def Exy (X : Cx) (Γ : Gm) (e : Expr) (z : Err) (Γ1 : Gm) (W : WX) : Prop := PE X e (fun σ H _ => ∃ F, EnvOk X.K F H σ Γ ∧ Ext F H ∧ ∀ F' H' cls d, Gr F H (Own σ Γ) F' H' (Own σ Γ1) → EnvOk X.K F' H' σ Γ1 → ErrAt z cls d H' → W cls d σ H')
theorem ps_ofNox {o : Out} (h1 : Es X.nox Γ st o) : PS X st (tS X.K Γ o) := by
  refine ⟨fun pins s σ H D I hw => ?_⟩
  refine wpAny_mono (h1.run pins s σ H D (I.wish _) hw) (fun _ _ q => q.unwish) (fun _ _ z => False.elim z)
theorem ry_cons (h1 : Es X.nox Γ st (.nx Γ1)) (h2 : Ry X Γ1 rest z E) : Ry X Γ (st :: rest) z E :=
  pss_imp (pss_cons (ps_ofNox h1) h2) fun D σ H ⟨F, ev, x, k⟩ => ⟨F, ev, x, fun σ1 F1 H1 g1 e1 => ⟨F1, e1, g1.fh, fun σ2 Γ2 F2 H2 cls d g2 q => k σ2 Γ2 F2 H2 cls d (g1.trans g2) q⟩⟩
theorem ry_if (hc : Et X.nox Γ c true Γ1) (h : Ry X Γ1 body z E) : Ry X Γ (.If c body orelse pos :: rest) z E := by
  have hc' : PT X c (tT X.K Γ true Γ1) := PT.nox hc
  exact pss_imp (pss_cons (ps_if hc' h pss_never) pss_never) fun D σ H ⟨F, ev, x, k⟩ => ⟨F, ev, x, fun F1 H1 g1 e1 => by
    show (if true = true then _ else _)
    rw [if_pos rfl]
    exact ⟨F1, e1, g1.fh, fun σ2 Γ2 F2 H2 cls d g2 q => k σ2 Γ2 F2 H2 cls d (g1.trans g2) q⟩⟩
theorem ry_ifF (hc : Et X.nox Γ c false Γ1) (h : Ry X Γ1 rest z E) : Ry X Γ (.If c body [] pos :: rest) z E := by
  have hc' : PT X c (tT X.K Γ false Γ1) := PT.nox hc
  exact pss_imp (pss_cons (ps_if hc' pss_never pss_nil) h) fun D σ H ⟨F, ev, x, k⟩ => ⟨F, ev, x, fun F1 H1 g1 e1 => by
    show (if false = true then _ else _)
    rw [if_neg (by decide)]
    exact ⟨F1, e1, g1.fh, fun σ2 Γ2 F2 H2 cls d g2 q => k σ2 Γ2 F2 H2 cls d (g1.trans g2) q⟩⟩
/-- raise C(), a class without fields -/
theorem ry_raise0 {C : Addr} (hc : X.calm = true) (tk : Takes X (fun cls d _ H => E cls d H)) (he : PMk X e (fun _ H Q => Q (.ref C) none H)) : Ry X Γ (.Raise (some e) none pos :: rest) ⟨C, none⟩ E :=
  pss_imp (pss_cons (ps_raise hc tk he) pss_never) fun D σ H ⟨F, ev, x, k⟩ => k σ Γ F H _ _ (Gr.refl x) ⟨rfl, rfl⟩
/-- what __init__(self, a, b) does that stores both -/
def spIni2 (K : PySem.W.Frag) (C : Addr) (f1 f2 : Str) : Sp := fun vs H Q _ => ∃ (a : Addr) (v1 v2 : V), vs = [.ref a, v1, v2] ∧ H a = some (exo a C none) ∧
  ∀ dx, H dx = none → dx ≠ a → Q .non (upd (upd (upd H dx (exd dx [(f1, v1)])) a (exo a C (some dx))) dx (exd dx [(f2, v2), (f1, v1)]))
structure Ini2 (P : Program) (w : World) (K : PySem.W.Frag) (mg : Str → Option Value) (base : Heap) (k : Nat) (C : Addr) (f1 f2 : Str) : Prop where
  T : OexC K C
  ex : ∃ fI fd ps, PySem.W.findIn K (.ref C) "__init__" = some (some (.ref fI)) ∧ PySem.W.typeIn K (.ref fI) = some (.type "function") ∧ L2.Binds K fd ps [] ∧ FnOk P w K mg base (L2.CX P w) k fI fd ps (spIni2 K C f1 f2)
theorem ry_raise2 {C : Addr} {x f1 f2 : Str} (J : Ini2 X.prog X.w X.K X.mg X.base k C f1 f2) (hc : X.calm = true) (tk : Takes X (fun cls d _ H => E cls d H)) (hm : X.mg x = some (.ref C)) (hr : Room (k + 1) X.A) (ha : Ea X Γ [e1, e2] [d1, d2] Γ1)
    (h1 : ∀ F v, Dd X.K F v d1 → v = v1) (h2 : ∀ F v, Dd X.K F v d2 → v = v2) (hg : Gl X x := by rfl) (hdb : (x == ("__debug__" : Str)) = false := by decide)
    (he : starEach [e1, e2] X.env = (false, eval e1 X.env) :: starEach [e2] X.env := by rfl) (hpl : (backTo pos (starEach [e2] X.env)).any (·.1) = false := by rfl) :
    Ry X Γ (.Raise (some (.Call (.Name x p) [e1, e2] [] pos)) none pos' :: rest) ⟨C, some [(f2, v2), (f1, v1)]⟩ E := by
  obtain ⟨fI, fd, ps, iC, tI, hb, F1⟩ := J.ex
  refine pss_imp (pss_cons (ps_raise hc tk (pmk_oex (dvs := []) (ds := []) J.T iC tI F1 hr hb .nil passL hg hm ha hdb he hpl)) pss_never) fun D σ H ⟨F, ev, x, k⟩ => ?_
  refine ⟨F, ev, x, fun vs F1 H1 g1 e1 dv => ?_⟩
  obtain ⟨u1, u2, rfl, q1, q2⟩ := two_of dv
  have r1 := h1 _ _ q1
  have r2 := h2 _ _ q2
  subst r1 r2
  refine ⟨by simp, fun a na => ⟨a, u1, u2, rfl, upd_same, fun dx hd hne => ⟨rfl, dx, [(f2, u2), (f1, u1)], ?_, upd_same, ?_, ?_⟩⟩⟩
  · rw [upd_ne (Ne.symm hne), upd_same]
  · rw [upd_ne hne] at hd; exact hd
  · rw [upd_ne hne] at hd
    refine k σ Γ1 F1 _ _ _ (g1.trans (Gr.ext (Ext.refl F1) (fun b o q => ?_) (fun b o q => ?_) fun b q => .inl q)) ⟨rfl, dx, rfl, upd_same⟩
    all_goals
      have q' : H1 b = some o := by first | exact g1.fh _ _ q | exact q
      have nb : b ≠ dx := ne_of_none q' hd
      have na' : b ≠ a := ne_of_none q' na
      rw [upd_ne nb, del_ne na', upd_ne nb, upd_ne na', upd_ne nb, upd_ne na']
      exact q'
theorem exy_is {W' : WX} (h : Exy X Γ e z Γ1 W) (hw : W = W') : Exy X Γ e z Γ1 W' := hw ▸ h
/-- y = an expression that raises -/
theorem ry_asg (m : Nat) (hN : X.N.Nodup) (h : Exy X Γ e z Γ1 (fun cls d _ H => E cls d H)) (hy : X.N[m]? = some y := by rfl) (hyl : Loc X.env.scope y := by first | exact Or.inl rfl | exact Or.inr rfl)
    (hsw : swapsWith e (some (.Name y py)) ap.line X.env = pure false := by rfl) (hyf : X.fn y = true ∨ X.env.scope.names.lookup y = some .local := by first | exact .inl rfl | exact .inr rfl) : Ry X Γ (.Assign [.Name y py] e ap :: rest) z E :=
  pss_imp (pss_cons (ps_set hN hy hyl h hsw hyf) pss_never) fun D σ H ⟨F, ev, x, k⟩ => ⟨F, ev, x, fun F' H' cls d g _ q => k σ Γ1 F' H' cls d g q⟩
end
/-- a def of data that hands one back or raises -/
def spY (K : PySem.W.Frag) (R : List PyData → Rz → Prop) : Sp := fun vs H Q E => ∃ (F : Hp) (ds : List PyData) (rz : Rz), Ext F H ∧ DdA K F vs ds ∧ R ds rz ∧
  (∀ d, rz = .ok d → ∀ v F' H', Ext F F' → Ext F' H' → Ext H H' → (∀ a, F' a ≠ none → F a ≠ none ∨ H a = none) → Dd K F' v d → Q v H') ∧ (∀ z, rz = .er z → ∀ cls dd H', Ext H H' → ErrAt z cls dd H' → E cls dd H')
structure CaY (P : Program) (w : World) (K : PySem.W.Frag) (mg : Str → Option Value) (base : Heap) (k : Nat) (x : Str) (ps : List Str) (R : List PyData → Rz → Prop) : Prop where
  ex : ∃ f fd, mg x = some (.ref f) ∧ PySem.W.keepIn K (.ref f) = true ∧ L2.Binds K fd ps [] ∧ FnOk P w K mg base (L2.CX P w) k f fd ps (spY K R)
section
variable {P : Program} {w : World} {K : PySem.W.Frag} {mg : Str → Option Value} {base : Heap} {k : Nat} {x : Str} {ps : List Str} {C : Addr}
theorem ca_Y {st : Stmt} {N : List Str} {R : List PyData → Rz → Prop} (F : Fn K mg x st ps) (S : FnScope N ps (defScope st)) (hlen : ∀ ds d, R ds d → ds.length = ps.length)
    (hyes : ∀ (f : Addr) (cdv : Value) (A : Around) (outer : List Env) (s : Shared) (H : Hp) (E : XK) (ds : List PyData) (d : PyData), Room k (A.deeper (envOfC x (defScope st) s.heap.objs.size f cdv)) → R ds (.ok d) →
      Er (cxOf (L2.CX P w) P w K mg base N x (defScope st) f cdv A outer s H E).nox (slots0 N ds) (defBody st) d)
    (hno : ∀ (f : Addr) (cdv : Value) (A : Around) (outer : List Env) (s : Shared) (H : Hp) (E : XK) (ds : List PyData) (z : Err), Room k (A.deeper (envOfC x (defScope st) s.heap.objs.size f cdv)) → R ds (.er z) →
      Ry (cxOf (L2.CX P w) P w K mg base N x (defScope st) f cdv A outer s H E) (slots0 N ds) (defBody st) z E) : CaY P w K mg base (k + 1) x ps R := by
  obtain ⟨f, fd, hm, hF, hb⟩ := F.ex
  refine ⟨f, fd, hm, hF.kp, hb, hF.okX S (fun vs H Q E h => ?_) (fun cdv A outer s H vs Q E hr h => ?_)⟩
  · obtain ⟨F, ds, d, _, hA, hR, _⟩ := h
    rw [hA.len]; exact hlen ds d hR
  · have hpl : ps.length ≤ N.length := by have := congrArg List.length S.pre; rw [List.length_take] at this; omega
    obtain ⟨F, ds, rz, xt, hA, hR, q1, q2⟩ := h
    have ev := env_start (N := N) (H := H) hA (by rw [hlen ds rz hR]; exact hpl)
    cases rz with
    | ok d =>
      obtain ⟨Γ', ho⟩ := hyes f cdv A outer s H E ds d hr hR
      refine ⟨_, PSs.nox ho, F, ev, xt, fun v σ' F' H' g e dv => ?_⟩
      exact q1 d rfl v F' H' g.ff g.fh (fun a o' h => (g.hh a o' h).resolve_right fun z => own_start z) (fun a h => (g.nw a h).imp id fun z => z.resolve_right fun z => own_start z) dv
    | er z =>
      refine ⟨_, hno f cdv A outer s H E ds z hr hR, F, ev, xt, fun σ' Γ' F' H' cls dd g hz => ?_⟩
      exact q2 z rfl cls dd H' (fun a o' h => (g.hh a o' h).resolve_right fun z => own_start z) hz
/-- what such a def promises where it does not raise -/
theorem CaY.ca {R : List PyData → Rz → Prop} (h : CaY P w K mg base k x ps R) : Ca P w K mg base k x ps (spD K fun ds d => R ds (.ok d)) := by
  obtain ⟨f, fd, hm, hk, hb, F⟩ := h.ex
  have sub : ∀ {vs : List V} {H : Hp} {Q : VK} {E : XK}, spD K (fun ds d => R ds (.ok d)) vs H Q E → spY K R vs H Q E0 := fun {vs H Q E} ⟨F0, ds, d, x1, x2, x3, x4⟩ =>
    ⟨F0, ds, .ok d, x1, x2, x3, fun d' e => by cases e; exact x4, fun z e => by cases e⟩
  refine ⟨f, fd, hm, hk, hb, ⟨fun vs H Q E q => F.len vs H Q E0 (sub q), fun A outer s H args us vs Q E hr e0 hbi rv q => ?_⟩⟩
  refine codeAny_mono (F.run A outer s H args us vs Q E0 hr e0 hbi rv (sub q)) fun r s' hq => ?_
  cases r with
  | ok fl => cases fl <;> exact hq
  | error er =>
    obtain ⟨_, _, _, _, _, _, _, _, _, _, _, _, hf⟩ := hq
    exact hf.elim
end
section
variable {X : Cx} {Γ Γ1 : Gm} {e : Expr} {es : List Expr} {ds : List PyData} {k j : Nat} {g : Str} {ps : List Str} {R : List PyData → Rz → Prop} {pg cp : Pos} {W : WX} {z : Err}
theorem exy_call (tk : Takes X W) (F : CaY X.prog X.w X.K X.mg X.base k g ps R) (hr : Room j X.A) (ha : Ea X Γ (e :: es) ds Γ1) (hR : R ds (.er z)) (hj : k ≤ j := by decide) (hg : Gl X g := by rfl) (hdb : (g == ("__debug__" : Str)) = false := by decide)
    (he : starEach (e :: es) X.env = (false, eval e X.env) :: starEach es X.env := by rfl) (hpl : (backTo cp (starEach es X.env)).any (·.1) = false := by rfl) : Exy X Γ (.Call (.Name g pg) (e :: es) [] cp) z Γ1 W := by
  obtain ⟨f, fd, hm, hk, hb, hF⟩ := F.ex
  exact pe_imp (pe_callS hF (hr.mono hj) hg hm hk hb (fun σ => passAt tk σ) ha hdb he hpl) fun σ H Q ⟨F0, ev, xt, kk⟩ => ⟨F0, ev, xt, fun vs F1 H1 g1 e1 dv => ⟨F1, ds, .er z, g1.fh, dv, hR, fun d hd => (nomatch hd), fun z' hz cls dd H' x1 q => by
    cases hz
    exact kk F1 H' cls dd (g1.trans (Gr.ext (Ext.refl F1) (g1.fh.trans x1) x1 fun a h => .inl h)) (e1.keep (Ext.refl F1) x1 fun a h => .inl h) q⟩⟩
end
/-- the promise of such an __init__ -/
theorem ini2_mk {P : Program} {w : World} {K : PySem.W.Frag} {mg : Str → Option Value} {base : Heap} {C fI : Addr} {qual f1 f2 : Str} {st : Stmt} {fd : FuncData} {N ps : List Str} (T : OexC K C) (iC : PySem.W.findIn K (.ref C) "__init__" = some (some (.ref fI))) (tI : PySem.W.typeIn K (.ref fI) = some (.type "function"))
    (n1 : PySem.W.findIn K (.ref C) f1 = some none) (n2 : PySem.W.findIn K (.ref C) f2 = some none) (hb : L2.Binds K fd ps []) (F : Fun K "__init__" qual st fI fd) (S : FnScope N ps (defScope st)) (hp : ps.length = 3)
    (hbody : ∀ (A : Around) (outer : List Env) (s : Shared) (H : Hp) (E : XK) (cdv : Value), PSs (cxOf (L2.CX P w) P w K mg base N qual (defScope st) fI cdv A outer s H E) (defBody st) (tSeq (tOst K f1 (tVar 0) (tVar 1)) (tOst K f2 (tVar 0) (tVar 2)))) : Ini2 P w K mg base 1 C f1 f2 := by
  refine ⟨T, fI, fd, ps, iC, tI, hb, F.okX S (fun vs H Q E h => ?_) (fun cdv A outer s H vs Q E hr h => ⟨_, hbody A outer s H E cdv, ?_⟩)⟩
  · obtain ⟨a, v1, v2, rfl, _⟩ := h
    exact hp.symm
  · obtain ⟨a, v1, v2, rfl, ha, q⟩ := h
    have hl : 3 ≤ N.length := by have := congrArg List.length S.pre; rw [List.length_take] at this; omega
    refine ⟨v1, rfl, .ref a, rfl, a, C, rfl, T, n1, .inl ⟨ha, fun dx hd hne => ⟨v2, rfl, .ref a, rfl, a, C, rfl, T, n2, .inr ⟨dx, [(f1, v1)], upd_same, ?_, by simp, q dx hd hne⟩⟩⟩⟩
    rw [upd_ne hne, upd_same]
end DL
end

section
/-! try with more clauses, each of which names what it catches. -/
namespace DL
open PySem PySem.Spec PyProof.Rows L2
/-- where a clause's suite ends the name is let go -/
def offI (i : Nat) (D : Ends) : Ends := { nx := fun σ' H' => D.nx (σ'.set i none) H', rt := D.rt, bk := fun σ' H' => D.bk (σ'.set i none) H', ct := fun σ' H' => D.ct (σ'.set i none) H' }
def wAll (K : PySem.W.Frag) (D : Ends) (i : Nat) : List (Value × (Addr → Value → Option Addr → TS)) → WX
  | [] => fun _ _ _ _ => False
  | (c, ts) :: r => fun cls d σ H => ∃ b, PySem.W.exmOne K cls c = some b ∧ (b = true → ∀ a, H a = none → ts a cls d (offI i D) (σ.set i (some (.ref a))) H) ∧ (b = false → wAll K D i r cls d σ H)
/-- clauses `except x as n`, n's slot i -/
inductive Clauses (X : Cx) (n : Str) : List ExceptHandler → List (Value × (Addr → Value → Option Addr → TS)) → Prop
  | nil : Clauses X n [] []
  | cons {x : Str} {c : Value} {ts : Addr → Value → Option Addr → TS} {b0 : Stmt} {bs : List Stmt} {q q' : Pos} {hs : List ExceptHandler} {l : List (Value × (Addr → Value → Option Addr → TS))} (hc : Names X x c)
      (body : ∀ (a : Addr) (o : Obj) (cls : Value) (d : Option Addr) (pn : List (Addr × Obj)), Zc cls d o → (∃ vs, o.data = .fields vs) → PSs (X.suite a ((a, o) :: pn)) (b0 :: bs) (ts a cls d)) (r : Clauses X n hs l) :
      Clauses X n (.ExceptHandler (some (.Name x q)) (some n) (b0 :: bs) q' :: hs) ((c, ts) :: l)
section
variable {X : Cx} {body : List Stmt} {h0 : ExceptHandler} {hs : List ExceptHandler} {l : List (Value × (Addr → Value → Option Addr → TS))} {pos : Pos} {tb : WX → TS} {n : Str} {i : Nat}
theorem ps_tryAll (st : X.stack = X.env :: X.outer) (fr : X.env.frame = some X.env.locals) (hN : X.N.Nodup) (hi : X.N[i]? = some n) (hln : X.env.kindOf n = some .local)
    (hb : ∀ (W : WX) (pn : List (Addr × Obj)) (xe : Value → Shared → Prop), Takes (X.tr pn xe) W → PSs (X.tr pn xe) body (tb W)) (hh : Clauses X n (h0 :: hs) l) :
    PS X (.Try body (h0 :: hs) [] [] pos) (fun D σ H => tb (wAll X.K D i l) D σ H) := by
  refine ⟨fun pins s σ H D I h => ?_⟩
  have good := I.ok
  have frames : X.A.frames = some (X.env :: X.outer) := good.frames.trans (by rw [st])
  refine wpAny_Try_except ?_
  refine wpAny_mono ((hb (wAll X.K D i l) (X.pn ++ pins) _ fun u s' flown => ?caught).run [] s σ H D (I.toTry _) h) (fun f s1 hsp => ?_) (fun e s1 he => he)
  case caught =>
    obtain ⟨a, B, sI, pins', σ', H', cls, d, rfl, J', nb, up, sky, na, os, ag, w⟩ := flown
    have J : Inv X pins σ' H' sI := J'.ofTry good
    have sky1 : Sky B (X.env :: X.outer) a (Zc cls d) X.env.locals s'.heap := st ▸ sky
    show wpAny (model X.prog X.w) X.A (noteFrame (.ref a) X.env) _ _ _
    refine Sky.land Zc.steady frames fr sky1 fun g3 land3 up3 => ?_
    have J3 : Inv X pins σ' H' { s' with heap := g3 } := J.landed nb land3.1 (up.trans up3) os ag
    obtain ⟨o3, v3, at3, zc3, dat3⟩ := land3.there
    have noFrame : a ∉ frs (X.env :: X.outer) := fun hm => by
      obtain ⟨_, o', e', hnf⟩ := land3.2.2.1.mem hm
      cases at3.symm.trans e'
      exact hnf _ dat3
    have noL : a ≠ X.env.locals := fun z => noFrame (List.mem_filterMap.mpr ⟨X.env, List.mem_cons_self, by rw [fr, z]⟩)
    have noF : a ∉ X.fs := fun hm => by
      obtain ⟨e, he, q⟩ := List.mem_filterMap.mp hm
      exact noFrame (List.mem_filterMap.mpr ⟨e, List.mem_cons_of_mem _ he, q⟩)
    have S3 := J3.suite at3 dat3 na noL noF
    show wpAny (model X.prog X.w) X.A (handleBy (.ref a) X.env (h0 :: hs)) (SP X pins D) X.xe { s' with heap := g3 }
    have walk : ∀ {hs' : List ExceptHandler} {l' : List (Value × (Addr → Value → Option Addr → TS))}, Clauses X n hs' l' → wAll X.K D i l' cls d σ' H' →
        wpAny (model X.prog X.w) X.A (handleBy (.ref a) X.env hs') (SP X pins D) X.xe { s' with heap := g3 } := by
      intro hs' l' hk
      induction hk with
      | nil => exact fun z => False.elim z
      | @cons x c ts b0 bs q q' hs2 l2 hc hsu r ih =>
        intro ⟨b, hit, yes, no⟩
        refine wpAny_handleBy_cons (codeAny_handlers_test ?_) (fun z => nomatch z)
        have isCls : PySem.W.Looks (model X.prog X.w) g3 (typeOf (.ref a)) cls := fun _ _ _ _ keep q => wpAny_typeOf_ref (keep _ _ at3) (by rw [zc3.1]; exact q)
        have match1 := PySem.W.exm_one (M := model X.prog X.w) J3.kIn isCls hit
        have named : ∀ {Q E : Value → Shared → Prop}, Q c { s' with heap := g3 } → wpAny (model X.prog X.w) (X.A.mark (some (.ref a))) (eval (.Name x q) X.env) Q E { s' with heap := g3 } := fun {Q E} z => by
          rcases hc with ⟨gl, db, hm | ⟨hm, hv, hnn⟩⟩
          · exact ld_glob (X := X.suite a ((a, o3) :: (X.pn ++ pins))) S3 gl hm z db
          · exact ld_blt (X := X.suite a ((a, o3) :: (X.pn ++ pins))) S3 gl hm hv z hnn db
        refine named (match1.here ?_)
        cases b with
        | false => exact ih (no rfl)
        | true =>
          refine codeAny_handlers_suite_as (HandSPX.lands_againZ land3 fun g4 land4 up4 => ?_)
          have J4 : Inv X pins σ' H' { s' with heap := g4 } := J.landed nb land4.1 ((up.trans up3).trans up4) os ag
          obtain ⟨o4, v4, at4, zc4, dat4⟩ := land4.there
          have S4 := J4.suite at4 dat4 na noL noF
          refine store_ok (X := X.suite a ((a, o4) :: (X.pn ++ pins))) (v := .ref a) S4 hN hi (.inl hln) rfl (fun s5 S5 => ?_) (.inr hln)
          have letGo : ∀ {σ6 : L2.St} {H6 : Hp} {s6 : Shared} {Q : Shared → Prop}, Inv (X.suite a ((a, o4) :: (X.pn ++ pins))) [] σ6 H6 s6 → (∀ s7, Inv X pins (σ6.set i none) H6 s7 → Q s7) →
              wpAny (model X.prog X.w) X.A (do bindName X.env n .none; unbindBehindTheSuite X.env n q') (fun _ s7 => Q s7) X.xe s6 := fun S6 z => gone_ok (S6.unsuite good) hN hi hln z
          refine wpAny_mono ((hsu a o4 cls d (X.pn ++ pins) zc4 ⟨_, dat4⟩).run [] s5 _ H' _ S5 (yes rfl a na)) (fun f s6 out => ?_) (fun _ _ z => False.elim z)
          cases f with
          | ret u =>
            obtain ⟨v6, σ6, H6, S6, r6, q6⟩ := out
            exact letGo S6 fun s7 J7 => ⟨v6, _, _, J7, r6, q6⟩
          | next => obtain ⟨σ6, H6, S6, q6⟩ := out; exact letGo S6 fun s7 J7 => ⟨_, _, J7, q6⟩
          | brk => obtain ⟨σ6, H6, S6, q6⟩ := out; exact letGo S6 fun s7 J7 => ⟨_, _, J7, q6⟩
          | cont => obtain ⟨σ6, H6, S6, q6⟩ := out; exact letGo S6 fun s7 J7 => ⟨_, _, J7, q6⟩
    exact walk hh w
  cases f with
  | ret u =>
    obtain ⟨v, σ', H', J', r, q⟩ := hsp
    exact ⟨v, σ', H', J'.ofTry good, r, q⟩
  | next => obtain ⟨σ', H', J', q⟩ := hsp; exact wpAny_execs_nil ⟨σ', H', J'.ofTry good, q⟩
  | brk => obtain ⟨σ', H', J', q⟩ := hsp; exact ⟨σ', H', J'.ofTry good, q⟩
  | cont => obtain ⟨σ', H', J', q⟩ := hsp; exact ⟨σ', H', J'.ofTry good, q⟩
end
end DL
end

section
/-! A loop left by an error; enumerate(a list, start=k). -/
namespace DL
open PySem PySem.Spec PyProof.Rows L2
section
variable {X : Cx} {Γ Γ1 : Gm} {tg iter : Expr} {rest body : List Stmt} {pos : Pos} {z : Err} {E : XK} {ds : List PyData} {is : List Nat}
/-- a loop left by the error z in its turn n -/
theorem ry_for (G G' : Nat → Gm) (n : Nat) (hi : Ei X Γ tg iter ds (G 0)) (hn : n < ds.length) (hg : ∀ i d, ds[i]? = some d → i ≤ n → Eg X (G i) tg d is (G' i))
    (hb : ∀ i, i < n → Ess X (G' i) body (.nx (G (i + 1)))) (hx : Ry X (G' n) body z E) (hp : PassesOwn (model X.prog X.w) X.A X.env X.xe) (hcm : X.calm = true := by rfl) (hs : ∀ x, foldedSetIterable iter X.env x = pure x := by intro _; rfl) : Ry X Γ (.For tg iter body [] pos :: rest) z E := by
  have hgA : PG X tg (fun v σ H Q => ∃ i d, ds[i]? = some d ∧ i ≤ n ∧ tGt X.K (G i) d is (G' i) v σ H Q) := ⟨fun pins s σ H v u Q I r ⟨i, d, h1, h2, h⟩ => (hg i d h1 h2).run pins s σ H v u Q I r h⟩
  have hbA : PSs X body (fun D σ H => (∃ i, i < n ∧ tS X.K (G' i) (.nx (G (i + 1))) D σ H) ∨ (∃ F, EnvOk X.K F H σ (G' n) ∧ Ext F H ∧ ∀ σ' Γ' F' H' cls d, Gr F H (Own σ (G' n)) F' H' (Own σ' Γ') → ErrAt z cls d H' → E cls d H')) := ⟨fun pins s σ H D I h => by
    rcases h with ⟨i, h1, h⟩ | h
    · exact (hb i h1).run pins s σ H D I h
    · exact hx.run pins s σ H D I h⟩
  refine pss_imp (pss_cons (ps_for hp hcm hi hgA hbA hs) pss_never) fun D σ H ⟨F, ev, x, k⟩ => ⟨F, ev, x, fun J F0 H0 g0 e0 hW => ?_⟩
  refine ⟨fun i m σ' H' => m = ds.length - i ∧ i ≤ n ∧ ∃ F', EnvOk X.K F' H' σ' (G i) ∧ Gr F0 H0 (Own σ (G 0)) F' H' (Own σ' (G i)), ⟨ds.length, by omega, Nat.zero_le _, F0, e0, Gr.refl g0.fh⟩, ?_⟩
  rintro i m σ' H' ⟨rfl, hin, F', ev', g'⟩
  have wk := hW i F' H' g'.ff g'.fh
  have hid : i < ds.length := by omega
  have hd : ds[i]? = some ds[i] := List.getElem?_eq_getElem hid
  obtain ⟨go, yl⟩ := wk.1 _ hd
  by_cases h1 : i < n
  · refine .inr ⟨go, fun σ2 H2 => ∃ F2, EnvOk X.K F2 H2 σ2 (G (i + 1)) ∧ Gr F0 H0 (Own σ (G 0)) F2 H2 (Own σ2 (G (i + 1))), fun σ2 H2 ⟨F2, e2, g2⟩ => ⟨ds.length - (i + 1), by omega, rfl, h1, F2, e2, g2⟩, fun y H3 hy => ?_⟩
    obtain ⟨F3, y1, y2, y3, y4, dy⟩ := yl y H3 hy
    have gy := g'.trans (Gr.ext y1 y2 y3 y4)
    exact ⟨i, _, hd, hin, F3, ev'.keep y1 y3 y4, y2, dy, fun σ4 F4 H4 g4 e4 _ => .inl ⟨i, h1, F4, e4, g4.fh, fun σ5 F5 H5 g5 e5 => ⟨F5, e5, (gy.trans g4).trans g5⟩⟩⟩
  · have hi' : i = n := by omega
    subst hi'
    refine .inr ⟨go, fun _ _ => False, fun _ _ z => z.elim, fun y H3 hy => ?_⟩
    obtain ⟨F3, y1, y2, y3, y4, dy⟩ := yl y H3 hy
    have gy := g'.trans (Gr.ext y1 y2 y3 y4)
    exact ⟨i, _, hd, hin, F3, ev'.keep y1 y3 y4, y2, dy, fun σ4 F4 H4 g4 e4 _ => .inr ⟨F4, e4, g4.fh, fun σ5 Γ5 F5 H5 cls d g5 q => k σ5 Γ5 F5 H5 cls d (((g0.trans gy).trans g4).trans g5) q⟩⟩
end

/-- the list at a, each item in a new pair behind its number, from k on -/
def Itq (a : Addr) (k : Int) : It :=
  ⟨fun i H => ∃ (xs : List V) (x : V), H a = some (.lst xs) ∧ xs[i]? = some x, fun i H v H' => ∃ T x ob, v = .ref T ∧ H T = none ∧ ob.dict = none ∧ H' = upd H T (.frz ob (.tup [.int (k + (i : Nat)), x])) ∧ ∀ xs, H a = some (.lst xs) → xs[i]? = some x,
    fun i H => ∃ (xs : List V), H a = some (.lst xs) ∧ xs.length ≤ i⟩
theorem turn_enumS {P : Program} {w : World} {K : PySem.W.Frag} {elts : List Expr} {kk : Nat} {tpos : Pos} (a e it : Addr) (k : Int) :
    Turn P w K (.Tuple elts kk tpos) (Itq a k) [e, it] e (fun i h => (∃ old, IsEnum h e it (k + (i : Nat)) old) ∧ h.IsListIter it a i ∧ e ≠ it) where
  mem := by simp
  obj := fun i h st b hb => by
    obtain ⟨⟨old, he⟩, ⟨o, ho, hc, hd⟩, _⟩ := st
    have e' : b = e ∨ b = it := by simpa using hb
    rcases e' with z | z
    · rw [z]; exact ⟨_, he, fun v q => nomatch q⟩
    · rw [z]; exact ⟨o, ho, fun v q => by rw [hd] at q; cases q⟩
  keep := fun i h h' st k => let ⟨⟨old, he⟩, ⟨o, ho, hc, hd⟩, hne⟩ := st; ⟨⟨old, k e (by simp) _ he⟩, ⟨o, k it (by simp) o ho, hc, hd⟩, hne⟩
  item := by
    intro X hP hw hK hc i pins s σ H E I hf st hg
    subst hP hw hK
    obtain ⟨⟨old, he⟩, hit, hne⟩ := st
    obtain ⟨xs, x, hq, hx⟩ := hg
    obtain ⟨its, rv, p, hz⟩ := I.list (SqL.of (K := X.K) hq)
    obtain ⟨u, hu, ru⟩ := rv.get hx
    have hil : it < s.heap.objs.size := by obtain ⟨_, q, _⟩ := hit; exact Heap.lt_size q
    have nea : a ≠ e := ne_of_none hq (hf e (by simp)).1
    have nia : a ≠ it := ne_of_none hq (hf it (by simp)).1
    have D := PySem.Draws.list (prog := X.prog) (w := X.w) (A := X.A.in1) (I.ok.hd hc) it a nia its.toArray
    have hlt : i < its.toArray.size := by
      have := (List.getElem?_eq_some_iff.mp hu).1
      simpa using this
    refine wpAny_pyNext_enum_itemC D he ⟨hit, p.isList⟩ hlt hne (by simp [hne, nea.symm]) fun x' h' tk hx' ho hst' hT hsz hk => ?_
    have hx2 : its[i]? = some x' := by rw [← Array.getElem?_toList] at hx'; exact hx'
    rw [hu] at hx2
    cases hx2
    refine ⟨_, rfl, wpAny_letOwnedTupleGo_enum (s := { s with heap := h', toks := tk + 1 }) ho fun h'' he' sb => ?_⟩
    have hel : e < s.heap.objs.size := Heap.lt_size he
    have hT2 : h''.get? s.heap.objs.size = some { cls := .type "tuple", data := .seq #[.int (k + (i : Nat)) tk, u] } := (sb.2 _ (Nat.ne_of_gt hel)).trans hT
    have new : ObjOk X.prog X.w (upd H s.heap.objs.size (.frz { cls := .type "tuple", data := .seq #[.int (k + (i : Nat)) tk, u] } (.tup [.int (k + (i : Nat)), x]))) h'' s.heap.objs.size (.frz { cls := .type "tuple", data := .seq #[.int (k + (i : Nat)) tk, u] } (.tup [.int (k + (i : Nat)), x])) :=
      ⟨hT2, by show 2 ≤ sizeLine; decide, [.int (k + (i : Nat)) tk, u], .cons ⟨_, rfl⟩ (.cons ru .nil), ⟨_, hT2, rfl, _, rfl⟩⟩
    have I1 : Inv X pins σ (upd H s.heap.objs.size (.frz { cls := .type "tuple", data := .seq #[.int (k + (i : Nat)) tk, u] } (.tup [.int (k + (i : Nat)), x]))) { s with heap := h'', toks := tk + 1 } :=
      I.turnedNew (ch := [e, it]) (fun b ob hb q => (sb.2 b (fun z => hb (by simp [z]))).trans (hk b ob (fun z => hb (by simp [z])) (fun z => hb (by simp [z])) q)) hf (Nat.le_refl _) new
    refine ⟨.ref s.heap.objs.size, _, I1, rfl, ⟨_, x, _, rfl, I.hok.fresh (Nat.le_refl _), rfl, rfl, fun ys hy => ?_⟩, ⟨⟨u, ?_⟩, ?_, hne⟩, fun b hb => ?_⟩
    · rw [hq] at hy; cases hy; exact hx
    · have e1 : k + ((i + 1 : Nat) : Int) = k + (i : Nat) + 1 := by omega
      rw [e1]; exact he'
    · obtain ⟨⟨o, ho2, hc2, hd2⟩, _⟩ := hst'
      exact ⟨o, (sb.2 it (Ne.symm hne)).trans ho2, hc2, hd2⟩
    · have hb' : b < s.heap.objs.size := by
        have e' : b = e ∨ b = it := by simpa using hb
        rcases e' with z | z
        · rw [z]; exact hel
        · rw [z]; exact hil
      rw [upd_ne (Nat.ne_of_lt hb')]
      exact (hf b hb).1
  done := by
    intro X hP hw hK hc i pins s σ H E I hf st hg
    subst hP hw hK
    obtain ⟨⟨old, he⟩, hit, hne⟩ := st
    obtain ⟨xs, hq, hx⟩ := hg
    obtain ⟨its, rv, p, hz⟩ := I.list (SqL.of (K := X.K) hq)
    obtain ⟨f0, f1, f2, f3, f4, f5⟩ := hf it (by simp)
    have hl := rv.length
    have nia : a ≠ it := ne_of_none hq (hf it (by simp)).1
    have fin : ∀ Q : Option Value → Shared → Prop, (∀ h', Heap.ExtBut it s.heap h' → Q none { s with heap := h' }) → wpAny (model X.prog X.w) X.A (pyNext (.ref e)) Q E s := fun Q hQ => by
      have hT : s.TypeIs (.ref e) "enumerate" := ⟨_, he, rfl⟩
      unfold pyNext
      refine wpAny_bind (wpAny_attempt (wpAny_callSpecial?_slot (name := Str.ofString "__next__") hT F.slot_enumerate_next
        (wpAny_call_entry F.slot_enumerate_next hT F.entry_enumerate_next ?_ (F.args_enumerate_next_1 _))))
      show wpAny _ _ (field (.ref e) 2 >>= _) _ _ _
      refine wpAny_bind (wpAny_field he rfl (x := .ref it) rfl ?_)
      refine wpAny_bind (wpAny_nextOf_list_end (I.ok.hd hc) hit p.isList (by simp; omega) fun h' x he' hx' => ?_)
      obtain ⟨o, ho, hc'⟩ := hx'
      refine wpAny_bind (wpAny_isInstance (T := "StopIteration") (b := true) ⟨o, ho, hc'⟩ isSubtype_stop ?_)
      exact wpAny_pure (hQ _ he')
    exact fin _ fun h' eb => ⟨rfl, I.turned (t' := s.toks) (fun b o hb q => eb b o hb q) f0 f1 f3 f4 f5⟩
  self := fun A i s Q E st h => let ⟨⟨_, he⟩, _⟩ := st; wpAny_pyIter_enum he h
theorem callWith_tyKw {env : Env} {M : Model} {A : Around} {E : Value → Shared → Prop} {s : Shared} {T : String} {pos : Pos} {e : Expr} {kws : List Keyword} {Q : Value → Shared → Prop}
    (h : wpAny M A (spliced (backTo pos (starEach [e] env))) (fun vs s1 => wpAny M A (evalAll ((backToKw pos (keywordEach kws env)).map (·.2))) (fun ks s2 => wpAny M A (call (.type T) vs (((backToKw pos (keywordEach kws env)).filterMap (·.1)).zip ks)) Q E s2) E s1) E s)
    (hall : (backToKw pos (keywordEach kws env)).all (·.1.isSome) = true) (hpl : (backTo pos (starEach [e] env)).any (·.1) = false) (hkw : (backToKw pos (keywordEach kws env)).any (·.1.isNone) = false) (he : starEach [e] env = (false, eval e env) :: starEach [] env := by rfl) :
    wpAny M A (callWith pos (.type T) [] (backTo pos (starEach [e] env)) (backToKw pos (keywordEach kws env))) Q E s := by
  unfold callWith
  refine wpAny_bind (wpAny_holding (wpAny_mono (evalArgs_kw2 hall (Q := fun a s1 => wpAny M A (call (.type T) ([] ++ a.pos) a.kw) Q E s1) h he) (fun a s1 h1 => wpAny_bind (wpAny_standAt ?_)) fun _ _ x => x))
  simp only [hpl, hkw, Bool.or_false]
  refine wpAny_bind (wpAny_pure ?_)
  exact wpAny_bind (wpAny_mono h1 (fun r s2 hr => wpAny_bind (wpAny_holding (wpAny_point (wpAny_pure hr)))) fun _ _ x => x)
section
variable {X : Cx} {Γ Γ1 : Gm} {e : Expr} {ds : List PyData} {pos : Pos}
theorem ei_enumS {elts : List Expr} {kk j : Nat} {p tpos cp kp : Pos} {k : Int} (k0 : -(2 ^ 63) ≤ k) (k1 : k < 2 ^ 63) (hm : X.mg "enumerate" = none) (h : Ee X Γ e (.list ds) Γ1) (hg : Gl X "enumerate" := by rfl) (hs0 : starEach [e] X.env = (false, eval e X.env) :: starEach [] X.env := by rfl)
    (hall : (backToKw pos (keywordEach [⟨some "start", .Constant (.int k) j cp, kp⟩] X.env)).all (·.1.isSome) = true := by rfl) (hpl : (backTo pos (starEach [e] X.env)).any (·.1) = false := by rfl) (hkw : (backToKw pos (keywordEach [⟨some "start", .Constant (.int k) j cp, kp⟩] X.env)).any (·.1.isNone) = false := by rfl)
    (hks : (backToKw pos (keywordEach [⟨some "start", .Constant (.int k) j cp, kp⟩] X.env)).filterMap (·.1) = [Str.ofString "start"] := by rfl) :
    Ei X Γ (.Tuple elts kk tpos) (.Call (.Name "enumerate" p) [e] [⟨some "start", .Constant (.int k) j cp, kp⟩] pos) ((List.range ds.length).map fun i => .tuple [.int (k + (i : Nat)), ds.getD i .none]) Γ1 := by
  refine ⟨fun pins s σ H R I hR => ?_⟩
  obtain ⟨F, ev, x, kk⟩ := hR
  have ha : PA X [e] (tCons (tE X.K Γ (.list ds) Γ1) tNil) := pa_cons h pa_nil hs0
  refine wpAny_Call_Name_kw (ld_blt I hg hm boot_enumerate (callWith_tyKw (thn (ha.run pos pins s σ H (fun vs H1 => ∃ v F1, vs = [v] ∧ Gr F H (Own σ Γ) F1 H1 (Own σ Γ1) ∧ EnvOk X.K F1 H1 σ Γ1 ∧ Dd X.K F1 v (.list ds)) I ⟨F, ev, x, fun v F1 H1 g1 e1 dv => ⟨v, F1, rfl, g1, e1, dv⟩⟩) fun us s1 hh => ?_) hall hpl hkw hs0))
  obtain ⟨vs, H1, I1, r1, v, F1, rfl, g1, e1, dv⟩ := hh
  obtain ⟨u, rfl, ru⟩ := Vals.one r1
  have hk : PK X [⟨some "start", .Constant (.int k) j cp, kp⟩] (tCons (tC (.int k)) tNil) := pk_cons pe_int pk_nil
  refine thn (hk.run pos pins s1 σ H1 (fun ws H2 => H2 = H1 ∧ ws = [.int k]) I1 ⟨rfl, rfl⟩) fun ws s2 hw => ?_
  obtain ⟨wv, H2, I2', rw2, rfl, rfl⟩ := hw
  obtain ⟨w1, rfl, tk, rfl⟩ := Vals.one rw2
  rw [hks]
  cases dv with
  | @lst a xs _ h1 hA =>
    cases ru
    have hH1 := g1.fh _ _ h1
    obtain ⟨its, rv, p', hz⟩ := I2'.list (SqL.of (K := X.K) hH1)
    refine enum_begins_start (begins_list a its.toArray) p'.isList k0 k1 fun h' he hit hsz hk => wpAny_pyIter_enum he ?_
    have I2 : Inv X pins σ H2 { s2 with heap := h' } := I2'.kept (t' := s2.toks) hk
    refine ⟨s2.heap.objs.size + 1, [s2.heap.objs.size + 1, s2.heap.objs.size], _, _, H2, rfl, I2, turn_enumS a (s2.heap.objs.size + 1) s2.heap.objs.size k, ⟨⟨.none, ?_⟩, ⟨_, hit, rfl, rfl⟩, Nat.succ_ne_self _⟩, fun b hb => ?_, ?_⟩
    · have e0 : k + ((0 : Nat) : Int) = k := by omega
      rw [e0]; exact he
    · have e' : b = s2.heap.objs.size + 1 ∨ b = s2.heap.objs.size := by simpa using hb
      have hle : s2.heap.objs.size ≤ b := by
        rcases e' with z | z
        · rw [z]; exact Nat.le_add_right _ _
        · rw [z]; exact Nat.le_refl _
      exact I2'.fpOk hle (I2'.hok.fresh hle)
    · refine kk _ F1 H2 g1 e1 fun i F3 H3 x1 x2 => ⟨fun d hd => ?_, fun hle => ⟨xs, x2 _ _ (x1 _ _ h1), by rw [hA.len]; simpa using hle⟩⟩
      have hi : i < ds.length := by
        have := (List.getElem?_eq_some_iff.mp hd).1
        simpa using this
      have hdi : ds[i]? = some ds[i] := List.getElem?_eq_getElem hi
      rw [List.getElem?_map, List.getElem?_range hi] at hd
      cases hd
      obtain ⟨w, hw, dw⟩ := hA.get hdi
      refine ⟨⟨xs, w, x2 _ _ (x1 _ _ h1), hw⟩, fun y H4 hy => ?_⟩
      obtain ⟨T, z, ob2, rfl, hT, hd2, rfl, hz2⟩ := hy
      have := hz2 xs (x2 _ _ (x1 _ _ h1))
      rw [hw] at this
      cases this
      have gn : Gr F3 H3 (fun _ => False) (upd F3 T (.frz ob2 (.tup [.int (k + (i : Nat)), w]))) (upd H3 T (.frz ob2 (.tup [.int (k + (i : Nat)), w]))) (fun _ => False) := Gr.new x2 hT
      refine ⟨_, gn.ff, gn.fh, fun a o q => (gn.hh a o q).resolve_right id, fun a q => (gn.nw a q).imp id fun z => z.resolve_right id, .tup upd_same hd2 (.cons (.int _) (.cons ?_ .nil))⟩
      rw [List.getD_eq_getElem?_getD, hdi]
      exact (dw.up x1).up gn.ff
end
end DL
end

section
/-! Texts put together, *xs of a list, xs[k:], the truth of a list of the frame's own. -/
namespace DL
open PySem PySem.Spec PyProof.Rows L2 StX
def rTxt : R2 := fun x y H Q => ∃ i j, x = .str i ∧ y = .str j ∧ i.length + j.length ≤ 16777216 ∧ Q (.str (i ++ j)) H
section
variable {X : Cx} {Γ Γ1 Γ2 : Gm} {a b e : Expr} {es : List Expr} {ds ds2 : List PyData} {p pos : Pos} {x y : Str} {i : Int} {d : PyData}
theorem op_txt : OpR X (binaryOp .Add) rTxt := by
  intro pins s σ H x y v u Q I rx ry h
  obtain ⟨i, j, rfl, rfl, hz, q⟩ := h
  obtain ⟨t, rfl⟩ := rx
  obtain ⟨t2, rfl⟩ := ry
  exact PyProof.Rows.add_str (fun t' tk => ⟨.str (i ++ j), H, I.tok tk, ⟨t', rfl⟩, q⟩) (by rw [sizeLine_eq]; exact hz)
theorem ee_catS (ha : Ee X Γ a (.str x) Γ1) (hb : Ee X Γ1 b (.str y) Γ2) (hz : x.length + y.length ≤ 16777216) : Ee X Γ (.BinOp a .Add b pos) (.str (x ++ y)) Γ2 :=
  ee_binR op_txt ha hb (rd_here fun F H v w Q e hv hw => ⟨.str (x ++ y), .str _, fun q => by
    cases hv
    cases hw
    exact ⟨x, y, rfl, rfl, hz, q⟩⟩)
/-- [*xs, ..], xs a list -/
theorem ea_starL (he : Ee X Γ e (.list ds) Γ1) (hr : Ea X Γ1 es ds2 Γ2) (hs : starEach (.Starred e p :: es) X.env = (true, eval e X.env) :: starEach es X.env := by rfl) : Ea X Γ (.Starred e p :: es) (ds ++ ds2) Γ2 :=
  pa_imp (pa_star he hr hs) fun σ H Q ⟨F, ev, x, q⟩ => ⟨F, ev, x, fun v F1 H1 g1 e1 dv => by
    obtain ⟨a, xs, rfl, _, hS, hA⟩ := dv.lstAt g1.fh
    exact ⟨a, xs, rfl, .inr hS, F1, e1, g1.fh, fun vs F2 H2 g2 e2 dvs => q (xs ++ vs) F2 H2 (g1.trans g2) e2 ((hA.up g2.ff).app dvs)⟩⟩
/-- xs[b:] of a list -/
theorem en_sliceLo {p2 : Pos} (ha : Ee X Γ a (.list ds) Γ1) (hb : Ee X Γ1 b (.int i) Γ1) : En X Γ (.Subscript a (.Slice (some b) none none p2) pos) (cutD ds (some i) none) Γ1 :=
  pe_imp (pe_slice sl_list ha (po_some hb) po_none) fun σ H Q ⟨F, ev, x, k⟩ => ⟨F, ev, x, fun v F1 H1 g1 e1 dv => by
    show tE X.K Γ1 (.int i) Γ1 σ H1 _
    refine ⟨F1, e1, g1.fh, fun w F2 H2 g2 e2 dw => ?_⟩
    cases dw
    obtain ⟨p1, xs, rfl, h1, s1, a1⟩ := (dv.up g2.ff).lstAt g2.fh
    refine ⟨i, rfl, p1, xs, rfl, s1, ?_⟩
    have hd : DdA X.K F2 (cutV xs (some i) none) (cutD ds (some i) none) := by
      unfold cutV cutD
      rw [a1.len]
      exact (a1.drop _).take _
    exact tN_new (g1.trans g2) e2 hd k⟩
theorem cut_tail {n : Nat} (h : n ≤ ds.length) : cutD ds (some (n : Int)) none = ds.drop n := by
  have h0 : ¬ ((n : Int) < 0) := by omega
  have e1 : HT.sIx ds.length 0 (some (n : Int)) = n := by
    simp only [HT.sIx, if_neg h0]
    omega
  have e2 : HT.sIx ds.length ds.length none = ds.length := by simp [HT.sIx]
  unfold cutD
  rw [e1, e2]
  exact List.take_of_length_le (by rw [List.length_drop]; omega)
/-- the truth of a list of the frame's own -/
theorem et_truOwn {n : Nat} {s : Slot} {y : Str} {py : Pos} (h : Γ[n]? = some (some s)) (hw : isOw s = true) (hx : PE X (.Name y py) (tVar n)) (he : ∀ whole, isTrue (.Name y py) X.env whole = (do let v ← whole; standAt (Expr.Name y py).pos; holding [v] (truthy v)) := by intro _; rfl) : Et X Γ (.Name y py) (!(slotDs s).isEmpty) Γ :=
  pt_imp (pt_truth hx he) fun σ H Q ⟨F, ev, xt, q⟩ => by
    obtain ⟨l, xs, h1, h2, h3, h4⟩ := own_get ev h hw
    exact ⟨.ref l, h1, !(slotDs s).isEmpty, .inl ⟨xs, SqL.of h3, by rw [isEmpty_of h4]⟩, q F H (Gr.refl xt) ev⟩
end
end DL
end

section
/-! Written texts with their tokens; str.replace. -/
namespace DL
open PySem PySem.Spec PyProof.Rows L2
/-- written texts, as values, from the token t on -/
def rawStrs : Nat → List Str → List Value
  | _, [] => []
  | t, c :: cs => .str c t :: rawStrs (t + 1) cs
inductive Consts : List Expr → List Str → Prop
  | nil : Consts [] []
  | cons {c : Str} {j : Nat} {p : Pos} {es : List Expr} {cs : List Str} : Consts es cs → Consts (.Constant (.str c) j p :: es) (c :: cs)
theorem raw_len : ∀ (t : Nat) (cs : List Str), (rawStrs t cs).length = cs.length
  | _, [] => rfl
  | t, c :: cs => by rw [rawStrs, List.length_cons, List.length_cons, raw_len]
theorem raw_vals : ∀ (t : Nat) (cs : List Str), Vals (cs.map V.str) (rawStrs t cs)
  | _, [] => .nil
  | t, c :: cs => .cons ⟨t, rfl⟩ (raw_vals (t + 1) cs)
theorem raw_get : ∀ (t : Nat) (cs : List Str) (i : Nat) (u : Value), (rawStrs t cs)[i]? = some u → ∃ c, cs[i]? = some c ∧ u = .str c (t + i)
  | _, [], i, u, h => by simp [rawStrs] at h
  | t, c :: cs, 0, u, h => by
    simp only [rawStrs, List.getElem?_cons_zero, Option.some.injEq] at h
    exact ⟨c, rfl, h.symm⟩
  | t, c :: cs, i + 1, u, h => by
    simp only [rawStrs, List.getElem?_cons_succ] at h
    obtain ⟨c', h1, h2⟩ := raw_get (t + 1) cs i u h
    exact ⟨c', by simpa using h1, by rw [h2, show t + 1 + i = t + (i + 1) by omega]⟩
theorem spliced_consts {M : Model} {A : Around} {E : Value → Shared → Prop} {env : Env} {pos : Pos} : ∀ {es : List Expr} {cs : List Str}, Consts es cs → ∀ (s : Shared) (Q : List Value → Shared → Prop), Q (rawStrs s.toks cs) { s with toks := s.toks + cs.length } →
    wpAny M A (spliced (backTo pos (starEach es env))) Q E s := by
  intro es cs h
  induction h with
  | nil =>
    intro s Q q
    exact Calls.spliced_nil q
  | @cons c j p es cs h ih =>
    intro s Q q
    show wpAny M A (spliced ((false, eval (.Constant (.str c) j p) env) :: backTo pos (starEach es env))) Q E s
    refine Calls.spliced_cons (Calls.Constant_str (ih _ _ ?_))
    have e : s.toks + 1 + cs.length = s.toks + (c :: cs).length := by rw [List.length_cons]; omega
    show Q (.str c s.toks :: rawStrs (s.toks + 1) cs) { s with toks := s.toks + 1 + cs.length }
    rw [e]
    exact q
/-- no reader of texts has booked a token -/
abbrev Unread (K : PySem.W.Frag) : Prop := ∀ h : Heap, K.In h → h.NoLimit → NoneBooked h
section
variable {X : Cx} {Γ Γ1 Γ2 : Gm} {a b o e1 e2 : Expr} {x y z : Str} {pos apos p : Pos} {d : PyData}
/-- an expression that wants a token to be out -/
def EeTk (X : Cx) (Γ : Gm) (e : Expr) (d : PyData) (Γ1 : Gm) : Prop := PET X e (tE X.K Γ d Γ1)
/-- an expression behind which a token is out -/
def EeU (X : Cx) (Γ : Gm) (e : Expr) (d : PyData) (Γ1 : Gm) : Prop := ∀ (pins : List (Addr × Obj)) (s : Shared) (σ : L2.St) (H : Hp) (Q : VK), Inv X pins σ H s → tE X.K Γ d Γ1 σ H Q →
  wpAny (model X.prog X.w) X.A (eval e X.env) (fun v s' => 1 ≤ s'.toks ∧ EP X pins σ Q v s') X.xe s
theorem EeU.ee (h : EeU X Γ a d Γ1) : Ee X Γ a d Γ1 := ⟨fun pins s σ H Q I q => wpAny_mono (h pins s σ H Q I q) (fun _ _ z => z.2) fun _ _ z => z⟩
/-- a + b, texts -/
theorem eeU_cat (ha : EeU X Γ a (.str x) Γ1) (hb : EeTk X Γ1 b (.str y) Γ2) (hz : x.length + y.length ≤ 16777216) : EeU X Γ (.BinOp a .Add b pos) (.str (x ++ y)) Γ2 := by
  intro pins s σ H Q I ⟨F, ev, xt, k⟩
  refine wpAny_BinOp (wpAny_mono (ha pins s σ H (fun v H1 => ∃ F1, Gr F H (Own σ Γ) F1 H1 (Own σ Γ1) ∧ EnvOk X.K F1 H1 σ Γ1 ∧ Dd X.K F1 v (.str x)) I ⟨F, ev, xt, fun v F1 H1 g e dv => ⟨F1, g, e, dv⟩⟩) (fun v s1 q => ?_) fun _ _ z => z)
  obtain ⟨t1, v', H1, I1, r1, F1, g1, ev1, d1⟩ := q
  refine wpAny_mono (PySem.wpAny_toks (hb pins s1 σ H1 (fun u H2 => ∃ F2, Gr F1 H1 (Own σ Γ1) F2 H2 (Own σ Γ2) ∧ EnvOk X.K F2 H2 σ Γ2 ∧ Dd X.K F2 u (.str y)) t1 I1 ⟨F1, ev1, g1.fh, fun v F1 H1 g e dv => ⟨F1, g, e, dv⟩⟩)) (fun u s2 q2 => ?_) fun _ _ z => z.2
  obtain ⟨t2, u', H2, I2, r2, F2, g2, ev2, d2⟩ := q2
  cases d1
  cases d2
  have fin := op_txt pins s2 σ H2 (.str x) (.str y) v u Q I2 r1 r2 ⟨x, y, rfl, rfl, hz, k (.str (x ++ y)) F2 H2 (g1.trans g2) ev2 (.str _)⟩
  exact wpAny_mono (PySem.wpAny_toks fin) (fun w s3 q3 => ⟨Nat.le_trans t1 (Nat.le_trans t2 q3.1), q3.2⟩) fun _ _ z => z.2
theorem eeT_cat (ha : EeTk X Γ a (.str x) Γ1) (hb : Ee X Γ1 b (.str y) Γ2) (hz : x.length + y.length ≤ 16777216) : EeTk X Γ (.BinOp a .Add b pos) (.str (x ++ y)) Γ2 := by
  intro pins s σ H Q h0 I ⟨F, ev, xt, k⟩
  refine wpAny_BinOp (wpAny_mono (ha pins s σ H (fun v H1 => ∃ F1, Gr F H (Own σ Γ) F1 H1 (Own σ Γ1) ∧ EnvOk X.K F1 H1 σ Γ1 ∧ Dd X.K F1 v (.str x)) h0 I ⟨F, ev, xt, fun v F1 H1 g e dv => ⟨F1, g, e, dv⟩⟩) (fun v s1 q => ?_) fun _ _ z => z)
  obtain ⟨v', H1, I1, r1, F1, g1, ev1, d1⟩ := q
  refine wpAny_mono (hb.run pins s1 σ H1 (fun u H2 => ∃ F2, Gr F1 H1 (Own σ Γ1) F2 H2 (Own σ Γ2) ∧ EnvOk X.K F2 H2 σ Γ2 ∧ Dd X.K F2 u (.str y)) I1 ⟨F1, ev1, g1.fh, fun v F1 H1 g e dv => ⟨F1, g, e, dv⟩⟩) (fun u s2 q2 => ?_) fun _ _ z => z
  obtain ⟨u', H2, I2, r2, F2, g2, ev2, d2⟩ := q2
  cases d1
  cases d2
  exact op_txt pins s2 σ H2 (.str x) (.str y) v u Q I2 r1 r2 ⟨x, y, rfl, rfl, hz, k (.str (x ++ y)) F2 H2 (g1.trans g2) ev2 (.str _)⟩
/-- an expression whose value is a text with a token that is out later than now -/
def EeW (X : Cx) (Γ : Gm) (e : Expr) (z : Str) (Γ1 : Gm) : Prop := ∀ (pins : List (Addr × Obj)) (s : Shared) (σ : L2.St) (H : Hp) (Q : VK), Inv X pins σ H s → tE X.K Γ (.str z) Γ1 σ H Q →
  wpAny (model X.prog X.w) X.A (eval e X.env) (fun v s' => 1 ≤ s'.toks ∧ (∃ t, v = .str z t ∧ s.toks ≤ t) ∧ EP X pins σ Q v s') X.xe s
theorem EeW.u (h : EeW X Γ a z Γ1) : EeU X Γ a (.str z) Γ1 := fun pins s σ H Q I q => wpAny_mono (h pins s σ H Q I q) (fun _ _ z => ⟨z.1, z.2.2⟩) fun _ _ z => z
/-- x.replace(a written text, such an expression) -/
theorem eeT_replace {j : Nat} (un : Unread X.K) (ho : Ee X Γ o (.str x) Γ1) (hb : EeW X Γ1 b z Γ2) (hz : x.length + (x.length + 1) * z.length ≤ 16777216)
    (hst : starEach [.Constant (.str y) j p, b] X.env = [(false, eval (.Constant (.str y) j p) X.env), (false, eval b X.env)] := by rfl)
    (hbase : attributeBase o "replace" X.env (eval o X.env) = eval o X.env := by rfl) (hline : (apos.endLine == pos.line) = true := by rfl) :
    EeTk X Γ (.Call (.Attribute o "replace" apos) [.Constant (.str y) j p, b] [] pos) (.str (Txt.replace x y z)) Γ2 := by
  intro pins s σ H Q h0 I ⟨F, ev, xt, k⟩
  refine PySem.Call_method2 hbase hst hline (wpAny_mono (PySem.wpAny_toks (ho.run pins s σ H (fun v H1 => ∃ F1, Gr F H (Own σ Γ) F1 H1 (Own σ Γ1) ∧ EnvOk X.K F1 H1 σ Γ1 ∧ Dd X.K F1 v (.str x)) I ⟨F, ev, xt, fun v F1 H1 g e dv => ⟨F1, g, e, dv⟩⟩)) (fun v s1 q => ?_) fun _ _ z => z.2)
  obtain ⟨t1, v', H1, I1, r1, F1, g1, ev1, d1⟩ := q
  cases d1
  obtain ⟨tx, rfl⟩ := r1
  refine ⟨"str", _, PySem.F.plainAttrs_str, PySem.F.slot_str_replace, PySem.F.type_str_replace, typeIs_str _ _ _, (fun _ e => nomatch e), Calls.callWith_builtin rfl (Calls.evalArgs_plain (Calls.spliced_cons (Calls.Constant_str (Calls.spliced_cons ?_))))⟩
  refine wpAny_mono (hb pins { s1 with toks := s1.toks + 1 } σ H1 (fun u H2 => ∃ F2, Gr F1 H1 (Own σ Γ1) F2 H2 (Own σ Γ2) ∧ EnvOk X.K F2 H2 σ Γ2 ∧ Dd X.K F2 u (.str z)) (I1.tok _) ⟨F1, ev1, g1.fh, fun v F1 H1 g e dv => ⟨F1, g, e, dv⟩⟩) (fun u s2 q2 => ?_) fun _ _ z => z
  obtain ⟨_, ⟨t, rfl, ht⟩, u', H2, I2, r2, F2, g2, ev2, d2⟩ := q2
  have ht' : s1.toks + 1 ≤ t := ht
  refine Calls.spliced_nil ?_
  exact PySem.SC.replaceA (Nat.ne_of_gt (Nat.lt_of_lt_of_le h0 t1)) (Nat.ne_of_gt (Nat.lt_of_lt_of_le (Nat.succ_pos _) ht')) (Nat.ne_of_lt ht') hz (fun t' kk => ⟨.str (Txt.replace x y z), H2, I2.tok kk, ⟨t', rfl⟩, k _ F2 H2 (g1.trans g2) ev2 (.str _)⟩) (un _ I2.kIn I2.nolimit)
/-- n = e, a token being out behind it -/
def PSU (X : Cx) (st : Stmt) (t : TS) : Prop := ∀ (pins : List (Addr × Obj)) (s : Shared) (σ : L2.St) (H : Hp) (Q : L2.St → Hp → Prop), Inv X pins σ H s → t { nx := Q, rt := fun _ _ => False, bk := fun _ _ => False, ct := fun _ _ => False } σ H →
  wpAny (model X.prog X.w) X.A (exec st X.env) (fun f s' => 1 ≤ s'.toks ∧ f = .next ∧ ∃ σ' H', Inv X pins σ' H' s' ∧ Q σ' H') X.xe s
theorem esU_set {n : Str} {py ap : Pos} (m : Nat) (hN : X.N.Nodup) (h : EeU X Γ a d Γ1) (hi : X.N[m]? = some n := by rfl) (hln : X.env.scope.names.lookup n = some .local := by rfl) (hl : Γ1[m]?.isSome = true := by rfl) (hsw : swapsWith a (some (.Name n py)) ap.line X.env = pure false := by rfl) :
    PSU X (.Assign [.Name n py] a ap) (tS X.K Γ (.nx (Γ1.set m (some (.im d))))) := by
  intro pins s σ H Q I ⟨F, ev, xt, k⟩
  refine wpAny_Assign_Name (wpAny_mono (h pins s σ H (fun v H1 => ∃ F1, Gr F H (Own σ Γ) F1 H1 (Own σ Γ1) ∧ EnvOk X.K F1 H1 σ Γ1 ∧ Dd X.K F1 v d) I ⟨F, ev, xt, fun v F1 H1 g e dv => ⟨F1, g, e, dv⟩⟩) (fun v s1 q => ?_) fun _ _ z => z) hsw
  obtain ⟨t1, v', H1, I1, r1, F1, g1, ev1, d1⟩ := q
  refine wpAny_mono (PySem.wpAny_toks (store_ok (v := v') (u := v) (Q := fun _ s2 => Inv X pins (σ.set m (some v')) H1 s2) I1 hN hi (.inl hln) r1 (fun _ I2 => I2) (.inr hln))) (fun _ s2 q2 => ?_) fun _ _ z => z.2
  have hk : KdOk X.K H (Own σ Γ) F1 H1 (Own σ Γ1) v' (.d d) := d1
  exact ⟨Nat.le_trans t1 q2.1, rfl, _, H1, q2.2, k _ F1 H1 (g1.storeK ev1 hk (some_lt hl)) (ev1.storeK hk (some_lt hl))⟩
theorem ess_U {st : Stmt} {rest : List Stmt} {out : Out} (h1 : PSU X st (tS X.K Γ (.nx Γ1))) (h2 : PSsT X rest (tS X.K Γ1 out)) : Ess X Γ (st :: rest) out := by
  refine ⟨fun pins s σ H D I ⟨F, ev, xt, k⟩ => ?_⟩
  refine wpAny_execs_cons (wpAny_mono (h1 pins s σ H (fun σ' H' => ∃ F', Gr F H (Own σ Γ) F' H' (Own σ' Γ1) ∧ EnvOk X.K F' H' σ' Γ1) I ⟨F, ev, xt, fun σ' F' H' g e => ⟨F', g, e⟩⟩) (fun f s1 q => ?_) fun _ _ z => z)
  obtain ⟨t1, rfl, σ', H', I', F', g', ev'⟩ := q
  exact h2 pins s1 σ' H' D t1 I' ⟨F', ev', g'.fh, OutOk.later g' k⟩
theorem essT_ret (h : EeTk X Γ a d Γ1) : PSsT X [.Return (some a) pos] (tS X.K Γ (.rt d Γ1)) := by
  intro pins s σ H D h0 I ⟨F, ev, xt, k⟩
  refine wpAny_execs_cons (wpAny_Return_some (thn (h pins s σ H (fun v H1 => D.rt v H1) h0 I ⟨F, ev, xt, fun v F1 H1 g e dv => k v σ F1 H1 g e dv⟩) fun v s1 ⟨x, H1, I1, r1, q1⟩ => ?_))
  exact ⟨x, σ, H1, I1, r1, q1⟩
end
end DL
end

section
/-! y = {k: v for ..}, y a local name. -/
namespace DL
open PySem PySem.Spec PyProof.Rows L2
theorem sw_trueD {kx vx : Expr} {gs : List Comprehension} {scope : Scope} {pos py : Pos} {y : Str} {l : Nat} {env : Env} (hk : env.scope.kind = .function) (hy : env.scope.names.lookup y = some .local) (hl : (py.line == pos.line) = true)
    (ha : (scope.names.any fun (n, k) => n == y && (k == .local || k == .cell)) = false) : swapsWith (.DictComp kx vx gs scope pos) (some (.Name y py)) l env = pure true := by
  have h1 : env.kindOf y = some .local := hy
  have h2 : env.blockKind = .function := by unfold Env.blockKind; rw [hk]; rfl
  unfold swapsWith
  simp only [h2, h1, ha, Expr.pos, hl]
  rfl
section
variable {X : Cx} {Γ Γ1 : Gm} {α : Type}
theorem ps_setDc {i : Nat} {y : Str} {py : Pos} {kx vx tg iter : Expr} {ifs : List Expr} {scope : Scope} {own : List (Str × Nat)} {pos spos : Pos} {wi : TI} {g : TG} {tt : TT} {tk tv : TE} (hc : X.calm = true) (hN : X.N.Nodup) (hy : X.N[i]? = some y) (hyl : X.env.scope.names.lookup y = some .local)
    (hsw : swapsWith (.DictComp kx vx [⟨tg, iter, ifs, 0⟩] scope pos) (some (.Name y py)) spos.line X.env = pure true) (hi : PI X tg iter wi) (ok : BlkOk X.N X.env.scope scope own)
    (hg : ∀ (s : Shared) (H : Hp) (C : Addr) (cl : List (Str × Addr)) (fp : List Addr), PG (X.blk s H scope (compEnvC scope cl C X.env) fp) tg g) (ht : ∀ (s : Shared) (H : Hp) (C : Addr) (cl : List (Str × Addr)) (fp : List Addr), PTs (X.blk s H scope (compEnvC scope cl C X.env) fp) ifs tt)
    (hk : ∀ (s : Shared) (H : Hp) (C : Addr) (cl : List (Str × Addr)) (fp : List Addr), PE (X.blk s H scope (compEnvC scope cl C X.env) fp) kx tk)
    (he : ∀ (s : Shared) (H : Hp) (C : Addr) (cl : List (Str × Addr)) (fp : List Addr), PE (X.blk s H scope (compEnvC scope cl C X.env) fp) vx tv) (hs : ∀ x, foldedSetIterable iter X.env x = pure x := by intro _; rfl) :
    PS X (.Assign [.Name y py] (.DictComp kx vx [⟨tg, iter, ifs, 0⟩] scope pos) spos) (tAsg (tDc wi g tt tk tv (own.map (·.2))) (gName i)) := by
  refine ⟨fun pins s σ H D I hw => ?_⟩
  rw [exec_Assign_Name_used _ _ _ _ hsw]
  refine wpAny_bind (wpAny_standAt (wpAny_bind ?_))
  show wpAny _ X.A (do let _ ← comprehension (.DictComp kx vx [⟨tg, iter, ifs, 0⟩] scope pos) scope X.env (firstIterPos [⟨tg, iter, ifs, 0⟩] pos) newDict false (eval iter X.env) (some (assign (.Name y py) X.env))) _ _ s
  have hw' : tDc wi g tt tk tv (own.map (·.2)) σ H (fun x H1 => gName i x σ H1 D.nx) := hw
  refine wpAny_bind (thn (dc_core (Qf := fun _ s' => SP X pins D .next s') hc hN I hi ok hg ht hk he hs hw' fun d C s1 m H1 I1 q hn f => ?_) fun _ s2 z => wpAny_pure (wpAny_pure z))
  show wpAny _ _ (assign (.Name y py) X.env (.ref d)) _ _ _
  refine wpAny_assign_Name (store_ok2 (v := V.ref d) I1 hN hy (.inl hyl) rfl (fun s2 I2 ⟨a, sb, ha⟩ => ?_) (.inr hyl))
  obtain ⟨b0, b1, b2, b3, b4, b5⟩ := f
  have hCa : C ≠ a := ha.elim (fun z => by rw [z]; exact b1) fun z e => b4 y a z e.symm
  exact ⟨m, hn.sameBut sb hCa, fun h3 sb3 => ⟨_, H1, I2.turned (t' := s2.toks) (fun b o hb e => (sb3.2 b hb).trans e) b0 b1 b3 b4 b5, q⟩⟩
theorem es_setDc {kx vx tg iter : Expr} {scope : Scope} {own : List (Str × Nat)} {pos py spos : Pos} {kk : Nat} {y : Str} (n : Nat) (xs : List α) (enc : α → PyData) (kf : α → Key) (vf : α → PyData) (Γt : α → Gm) (is : List Nat) (hr : Room kk X.A) (hc : X.calm = true) (hN : X.N.Nodup) (ok : BlkOk X.N X.env.scope scope own) (hv : noV Γ1 (own.map (·.2)) = true)
    (his : ∀ i ∈ is, i ∈ own.map (·.2)) (hsz : xs.length ≤ 16777216) (hnd : (xs.map kf).Nodup) (hlf : ∀ x ∈ xs, Leaf (vf x)) (hless : ∀ x, x ∈ xs → Less Γ1 (Γt x)) (hi : Ei X Γ tg iter (xs.map enc) Γ1)
    (hg : ∀ x, x ∈ xs → InBlk X scope fun Y => Eg Y Γ1 tg (enc x) is (Γt x)) (hk : ∀ x, x ∈ xs → InBlk X scope fun Y => Ee Y (Γt x) kx (keyD (kf x)) (Γt x)) (he : ∀ x, x ∈ xs → InBlk X scope fun Y => Ee Y (Γt x) vx (vf x) (Γt x))
    (hy : X.N[n]? = some y := by rfl) (hyl : X.env.scope.names.lookup y = some .local := by rfl) (hl : Γ1[n]?.isSome = true := by rfl) (hsw : swapsWith (.DictComp kx vx [⟨tg, iter, [], 0⟩] scope pos) (some (.Name y py)) spos.line X.env = pure true := by exact sw_trueD rfl rfl rfl (by decide +kernel))
    (hs : ∀ x, foldedSetIterable iter X.env x = pure x := by intro _; rfl) : Es X Γ (.Assign [.Name y py] (.DictComp kx vx [⟨tg, iter, [], 0⟩] scope pos) spos) (.nx (Γ1.set n (some (.im (dkM (xs.map fun x => (kf x, vf x))))))) :=
  ps_imp (ps_setDc (g := fun v σ H Q => ∃ x, x ∈ xs ∧ tGt X.K Γ1 (enc x) is (Γt x) v σ H Q) (tk := fun σ H Q => ∃ x, x ∈ xs ∧ tE X.K (Γt x) (keyD (kf x)) (Γt x) σ H Q) (tv := fun σ H Q => ∃ x, x ∈ xs ∧ tE X.K (Γt x) (vf x) (Γt x) σ H Q) hc hN hy hyl hsw hi ok
    (fun s H C cl fp => ⟨fun pins s' σ H' v u Q I r ⟨x, hx, hh⟩ => (hg x hx s H C cl fp).run pins s' σ H' v u Q I r hh⟩)
    (fun s H C cl fp => pts_nil)
    (fun s H C cl fp => ⟨fun pins s' σ H' Q I ⟨x, hx, hh⟩ => (hk x hx s H C cl fp).run pins s' σ H' Q I hh⟩)
    (fun s H C cl fp => ⟨fun pins s' σ H' Q I ⟨x, hx, hh⟩ => (he x hx s H C cl fp).run pins s' σ H' Q I hh⟩) hs) fun D σ H ⟨F, ev, x, kq⟩ =>
    dk_read hv hless his hsz hnd hlf (fun σ H R z => z) (fun x hx v σ H Q z => ⟨x, hx, z⟩) (fun x hx σ H Q z => ⟨x, hx, z⟩) (fun x hx σ H Q z => ⟨x, hx, z⟩) σ H _ ⟨F, ev, x, fun v F1 H1 g1 e1 dv => by
      have hd : KdOk X.K H (Own σ Γ) F1 H1 (Own σ Γ1) v (.d (dkM (xs.map fun x => (kf x, vf x)))) := dv
      exact kq _ F1 H1 (g1.storeK e1 hd (some_lt hl)) (e1.storeK hd (some_lt hl))⟩
theorem et_dkNotIn {a b : Expr} {Γ2 : Gm} {pos : Pos} {kv : List (Key × PyData)} {k : Key} {kk : Nat} (hr : Room kk X.A) (ha : Ee X Γ a (keyD k) Γ1) (hb : Ee X Γ1 b (dkM kv) Γ2) (hm : behindInMarks .NotIn b = false := by rfl) : Et X Γ (.Compare a [.NotIn] [b] pos) (!((kv.map (·.1)).any fun q => decide (q = k))) Γ2 :=
  pt_imp (pt_cmp (pc_dnotin (by have := hr.un; omega) ha hb) hm) fun σ H Q ⟨F, ev, x, kq⟩ => ⟨F, ev, x, fun v F1 H1 g1 e1 dv => ⟨F1, e1, g1.fh, fun w F2 H2 g2 e2 dw => by
    obtain ⟨c, es, rfl, h1, h2⟩ := dkd_of dw
    obtain rfl := key_is dv
    refine ⟨c, _, rfl, DGet.k (k := k) (g2.fh _ _ h1), _, rfl, ?_⟩
    have e : (valV es k).isSome = ((kv.map (·.1)).any fun q => decide (q = k)) := by rw [find_some, kv_keys h2]
    rw [e]
    exact kq F2 H2 (g1.trans g2) e2⟩⟩
end
end DL
end

section
/-! try: an expression / except C as n: return (n.f, n.g) / except D as n: a suite that hands something back; a call without arguments. -/
namespace DL
open PySem PySem.Spec PyProof.Rows L2
section
variable {X : Cx} {Γ Γ1 Γ2 : Gm} {e : Expr} {C D : Addr} {n x1 x2 f1 f2 : Str} {z : Err} {d2 : PyData} {b0 : Stmt} {bs : List Stmt} {v1 v2 : Int} {rp tp ap1 ap2 np1 np2 q1 q2 r1 r2 pos pp : Pos} {kk : Nat}
def tTwoF (i : Nat) (a : Addr) (cls : Value) (d : Option Addr) (C : Addr) (f1 f2 : Str) : TE := fun σ H Q => tCons (tXf a cls d C f1 (tVar i)) (tCons (tXf a cls d C f2 (tVar i)) tNil) σ H fun xs H1 => xs.length ≤ sizeLine ∧ TupNew H1 xs Q
abbrev twoClauses (x1 x2 n f1 f2 : Str) (rp tp ap1 ap2 np1 np2 q1 q2 r1 r2 : Pos) (kk : Nat) (b0 : Stmt) (bs : List Stmt) : List ExceptHandler :=
  [.ExceptHandler (some (.Name x1 q1)) (some n) [.Return (some (.Tuple [.Attribute (.Name n np1) f1 ap1, .Attribute (.Name n np2) f2 ap2] kk tp)) rp] r1, .ExceptHandler (some (.Name x2 q2)) (some n) (b0 :: bs) r2]
structure TwoOk (X : Cx) (i : Nat) (x1 x2 n f1 f2 : Str) (C D : Addr) : Prop where
  hs : X.stack = X.env :: X.outer
  hf : X.env.frame = some X.env.locals
  nd : X.N.Nodup
  hi : X.N[i]? = some n
  hln : X.env.kindOf n = some .local
  hv : Vis X.env.scope n
  hdb : (n == ("__debug__" : Str)) = false
  hcd : (n == ("__classdict__" : Str)) = false
  c1 : Names X x1 (.ref C)
  c2 : Names X x2 (.ref D)
  T : XfC X.K C
  n1 : PySem.W.findIn X.K (.ref C) f1 = some none
  n2 : PySem.W.findIn X.K (.ref C) f2 = some none
  m11 : PySem.W.exmOne X.K (.ref C) (.ref C) = some true
  m21 : PySem.W.exmOne X.K (.ref D) (.ref C) = some false
  m22 : PySem.W.exmOne X.K (.ref D) (.ref D) = some true
theorem two_ok {i : Nat} (T : TwoOk X i x1 x2 n f1 f2 C D) (h2 : ∀ a pn, Ess (X.suite a pn) Γ1 (b0 :: bs) (.rt d2 Γ2)) (hb1 : attributeBase (.Name n np1) f1 X.env (eval (.Name n np1) X.env) = eval (.Name n np1) X.env) (hb2 : attributeBase (.Name n np2) f2 X.env (eval (.Name n np2) X.env) = eval (.Name n np2) X.env)
    (st1 : starEach [.Attribute (.Name n np1) f1 ap1, .Attribute (.Name n np2) f2 ap2] X.env = (false, eval (.Attribute (.Name n np1) f1 ap1) X.env) :: starEach [.Attribute (.Name n np2) f2 ap2] X.env) (st2 : starEach [.Attribute (.Name n np2) f2 ap2] X.env = (false, eval (.Attribute (.Name n np2) f2 ap2) X.env) :: starEach [] X.env) :
    Clauses X n (twoClauses x1 x2 n f1 f2 rp tp ap1 ap2 np1 np2 q1 q2 r1 r2 kk b0 bs) [(.ref C, fun a cls d => tRet (tTwoF i a cls d C f1 f2)), (.ref D, fun a cls d => tS X.K Γ1 (.rt d2 Γ2))] := by
  refine .cons T.c1 (fun a o cls d pn hz hf => ?_) (.cons T.c2 (fun a o cls d pn hz hf => ⟨fun pins s σ H D I h => (h2 a _).run pins s σ H D I h⟩) .nil)
  have hv : PE (X.suite a ((a, o) :: pn)) (.Name n np1) (tVar i) := pe_var (X := X.suite a ((a, o) :: pn)) T.hi T.hv T.hdb T.hcd
  have hv' : PE (X.suite a ((a, o) :: pn)) (.Name n np2) (tVar i) := pe_var (X := X.suite a ((a, o) :: pn)) T.hi T.hv T.hdb T.hcd
  exact pss_one (ps_ret (pe_tupF (pa_cons (pe_xf T.T T.n1 hz hf hv hb1) (pa_cons (pe_xf T.T T.n2 hz hf hv' hb2) pa_nil st2) st1)))
/-- the first clause -/
theorem es_tryY1 {i : Nat} {es : List ExceptHandler} {h0 : ExceptHandler} (T : TwoOk X i x1 x2 n f1 f2 C D) (hcl : Clauses X n (h0 :: es) [(.ref C, fun a cls d => tRet (tTwoF i a cls d C f1 f2)), (.ref D, fun a cls d => tS X.K Γ1 (.rt d2 Γ2))])
    (hb : ∀ (W : WX) pn xe, Takes (X.tr pn xe) W → Exy (X.tr pn xe) Γ e z Γ1 W) {fs : List (Str × V)} (hz : z = ⟨C, some fs⟩) (l1 : fs.lookup f1 = some (.int v1)) (l2 : fs.lookup f2 = some (.int v2)) (hil : i < Γ1.length) (hsw : swapsWith e none pp.line X.env = pure false := by rfl) :
    Es X Γ (.Try [.Expr e pp] (h0 :: es) [] [] pos) (.rt (.tuple [.int v1, .int v2]) Γ1) := by
  subst hz
  refine ps_imp (ps_tryAll (tb := fun W => fun D σ H => ∃ F, EnvOk X.K F H σ Γ ∧ Ext F H ∧ ∀ F' H' cls d, Gr F H (Own σ Γ) F' H' (Own σ Γ1) → EnvOk X.K F' H' σ Γ1 → ErrAt ⟨C, some fs⟩ cls d H' → W cls d σ H') T.hs T.hf T.nd T.hi T.hln
    (fun W pn xe tk => pss_one (ps_imp (ps_expr (X := X.tr pn xe) (hb W pn xe tk) hsw) fun D σ H hh => hh)) hcl) fun D σ H ⟨F0, ev, xt, kk⟩ => ?_
  refine ⟨F0, ev, xt, fun F' H' cls d g e1 hz => ⟨true, ?_, fun _ a na => ?_, fun z => by cases z⟩⟩
  · rw [hz.1]; exact T.m11
  · obtain ⟨rfl, d0, rfl, hx⟩ := hz
    have hget : (σ.set i (some (V.ref a)))[i]? = some (some (V.ref a)) := List.getElem?_set_self (by rw [e1.len]; exact hil)
    refine ⟨.ref a, hget, rfl, rfl, d0, fs, .int v1, rfl, hx, l1, .ref a, hget, rfl, rfl, d0, fs, .int v2, rfl, hx, l2, by show 2 ≤ sizeLine; decide, ?_⟩
    exact tupNew_of (Gr.refl g.fh) e1 (.cons (.int v1) (.cons (.int v2) .nil)) fun v F2 H2 g2 e2 dv => kk v σ F2 H2 (g.trans g2) e2 dv
/-- the second clause -/
theorem es_tryY2 {i : Nat} {es : List ExceptHandler} {h0 : ExceptHandler} (T : TwoOk X i x1 x2 n f1 f2 C D) (hcl : Clauses X n (h0 :: es) [(.ref C, fun a cls d => tRet (tTwoF i a cls d C f1 f2)), (.ref D, fun a cls d => tS X.K Γ1 (.rt d2 Γ2))])
    (hb : ∀ (W : WX) pn xe, Takes (X.tr pn xe) W → Exy (X.tr pn xe) Γ e ⟨D, none⟩ Γ1 W) (hv : noV Γ1 [i] = true) (hsw : swapsWith e none pp.line X.env = pure false := by rfl) :
    Es X Γ (.Try [.Expr e pp] (h0 :: es) [] [] pos) (.rt d2 Γ2) := by
  refine ps_imp (ps_tryAll (tb := fun W => fun D' σ H => ∃ F, EnvOk X.K F H σ Γ ∧ Ext F H ∧ ∀ F' H' cls d, Gr F H (Own σ Γ) F' H' (Own σ Γ1) → EnvOk X.K F' H' σ Γ1 → ErrAt ⟨D, none⟩ cls d H' → W cls d σ H') T.hs T.hf T.nd T.hi T.hln
    (fun W pn xe tk => pss_one (ps_imp (ps_expr (X := X.tr pn xe) (hb W pn xe tk) hsw) fun D σ H hh => hh)) hcl) fun D' σ H ⟨F0, ev, xt, kk⟩ => ?_
  refine ⟨F0, ev, xt, fun F' H' cls d g e1 hz => ⟨false, ?_, fun z => by (cases z), fun _ => ⟨true, ?_, fun _ a na => ⟨F', ?_, g.fh, ?_⟩, fun z => by cases z⟩⟩⟩
  · rw [hz.1]; exact T.m21
  · rw [hz.1]; exact T.m22
  · exact e1.agree hv (wipe_set (List.mem_singleton.mpr rfl)).symm
  · intro v σ' F2 H2 g2 e2 dv'
    refine kk v σ' F2 H2 ?_ e2 dv'
    exact (g.right fun a q => own_agree hv (wipe_set (List.mem_singleton.mpr rfl)) q).trans g2
/-- the body raises nothing -/
theorem es_tryThru {body : List Stmt} {h0 : ExceptHandler} {hs : List ExceptHandler} (h : Ess X.nox Γ body (.nx Γ1)) : Es X Γ (.Try body (h0 :: hs) [] [] pos) (.nx Γ1) := ps_try_thru0 h
/-- f() -/
theorem ee_ca0 {R : List PyData → PyData → Prop} {k j : Nat} {x : Str} {d : PyData} (C : Ca X.prog X.w X.K X.mg X.base k x [] (spD X.K R)) (hr : Room j X.A) (hR : R [] d) (hj : k ≤ j := by decide) (hg : Gl X x := by rfl) (hdb : (x == ("__debug__" : Str)) = false := by decide) : Ee X Γ (.Call (.Name x pp) [] [] pos) d Γ := by
  obtain ⟨f, fd, hm, hk, hb, F⟩ := C.ex
  refine pe_imp (pe_call0 (dvs := []) (ds := []) (E := E0) F (hr.mono hj) hg hm hk hb .nil pass0 hdb) fun σ H Q ⟨F0, ev, xt, kk⟩ => ?_
  exact ⟨F0, [], d, xt, .nil, hR, fun v F' H' i1 i2 i3 i4 dv' => kk v F' H' (Gr.ext i1 i2 i3 i4) (ev.keep i1 i3 i4) dv'⟩
end
end DL
end

section
/-! sorted(a dict of pairs). -/
namespace DL
open PySem PySem.Spec PyProof.Rows L2
open PySem.W (AlikeAll AllAlike Sortable dataLe EachIs)
section
variable {prog : Program} {w : World} {d : Addr} {ar : Array DictEntry} {ep : Nat}
theorem rawJ_src (lo : (d == sysModules) = false) : PySem.W.KdlSrc prog w "dict" d d ar.size (fun i v => ∃ hi : i < ar.size, v = ar[i].key) (fun h => h.DictRaw d ar ep) where
  type := fun _ hm => hm.typeIs
  there := fun _ hm => let ⟨_, e, _⟩ := hm; ⟨Heap.lt_size e, Heap.lt_size e⟩
  keep := fun _ _ hm hk => hm.at fun o e => hk d (.inl rfl) o e
  notList := by decide
  notTuple := by decide
  hint := fun _ _ _ _ hm hq => PySem.W.kdl_hint_dict hm.typeIs hq
  iter := fun _ _ hh hm => ⟨_, _, (fun _ _ hq => wpAny_pyIter_dict_raw lo hm hq), Walks.rawKeys hh _ d (let ⟨_, e, _⟩ := hm; Nat.ne_of_lt (Heap.lt_size e)) ar ep, ⟨⟨_, Heap.get?_push_size _ rfl, rfl, rfl⟩, hm.at fun o e => Heap.get?_push_of_some _ e⟩⟩
end
theorem each_of_get {β : Type} {R : Value → β → Prop} : ∀ {us : List Value} {es : List β}, us.length = es.length → (∀ (j : Nat) u e, us[j]? = some u → es[j]? = some e → R u e) → EachIs R us es
  | [], [], _, _ => .nil
  | [], _ :: _, h, _ => by cases h
  | _ :: _, [], h, _ => by cases h
  | u :: us, e :: es, h, k => .cons (k 0 u e rfl rfl) (each_of_get (by simpa using h) fun j u' e' a b => k (j + 1) u' e' (by simpa using a) (by simpa using b))
theorem vals_each : ∀ {us : List Value} {es : JEs}, EachIs (fun (u : Value) (e : (Int × Int) × Addr) => u = .ref e.2) us es → Vals (es.map fun e => V.ref e.2) us
  | _, [], h => by cases h; exact .nil
  | _, e :: es, h => by
    cases h with
    | cons h1 h2 => exact .cons h1 (vals_each h2)
theorem each_mem {β : Type} {R R' : Value → β → Prop} : ∀ {us : List Value} {es : List β}, EachIs R us es → (∀ u e, e ∈ es → R u e → R' u e) → EachIs R' us es
  | _, [], h, _ => by cases h; exact .nil
  | _, e :: es, h, k => by
    cases h with
    | cons h1 h2 => exact .cons (k _ _ List.mem_cons_self h1) (each_mem h2 fun u y hy => k u y (List.mem_cons_of_mem _ hy))
abbrev sortJ (es : JEs) : JEs := es.mergeSort (PySem.W.dataLe false fun e : (Int × Int) × Addr => twoP e.1)
section
variable {X : Cx}
theorem call_sortedJ (hcalm : X.calm = true) (hu : X.A.units + 8 < cLine) : CallR X (.builtin "sorted") (fun xs H Q => ∃ (a : Addr) (es : JEs), xs = [.ref a] ∧ H a = some (joinO a es) ∧ KysJ H es ∧ es.length ≤ 65536 ∧
    ∀ p, H p = none → Q (.ref p) (upd H p (.lst ((sortJ es).map fun e => V.ref e.2)))) := by
  intro pn s σ H xs us Q I r h
  obtain ⟨a, es, rfl, hD, hk, hz, q⟩ := h
  obtain ⟨u, eu, rx⟩ := vals1 r
  subst eu
  cases rx
  obtain ⟨dj, _⟩ := j_at I.hok hD hk
  obtain ⟨z1, lo, _, ar, ep, raw, hraw⟩ := dj
  have hn : ar.size = es.length := by rw [← Array.length_toList, hraw]; unfold rawJ; rw [List.length_map]
  refine Calls.call_function_entry PyProof.Rows.kind_sorted PyProof.Rows.plain_sorted PyProof.Rows.entry_sorted (PyProof.Rows.args_sorted1 _) ?_
  unfold Builtin.«sorted»
  refine wpAny_bind (m := checkCount "sorted" 1 1 _) (wpAny_pure ?_)
  refine wpAny_bind (PySem.W.kdu_collect (A := X.A.in1) (rawJ_src lo) (I.ok.hd hcalm) raw (by rw [hn]; exact z1) fun h' tk acc hkp hacc => ?_)
  have hal : acc.toList.length = es.length := by rw [Array.length_toList, hacc.1, hn]
  have hE : EachIs (fun (u : Value) (e : (Int × Int) × Addr) => u = .ref e.2) acc.toList es := by
    refine each_of_get hal fun j u e e1 e5 => ?_
    obtain ⟨hi, e3⟩ := hacc.2 j u (by rw [← Array.getElem?_toList]; exact e1)
    have e4 : (rawJ es)[j]? = some ar[j] := by rw [← hraw, Array.getElem?_toList, Array.getElem?_eq_getElem hi]
    unfold rawJ at e4
    rw [List.getElem?_map, e5] at e4
    rw [e3, ← Option.some.inj e4]
  have I1 : Inv X pn σ H { s with heap := h', toks := tk } := I.kept hkp
  refine wpAny_bind (wpAny_newList ?_ (by rw [hal]; exact z1))
  have hoL : (h'.push (seqObj "list" acc.toList.toArray 0)).get? h'.objs.size = some (seqObj "list" acc.toList.toArray 0) := Heap.get?_push_size _ rfl
  show wpAny _ _ _ _ _ { s with heap := h'.push (seqObj "list" acc.toList.toArray 0), toks := tk }
  have hR : EachIs (fun (u : Value) (e : (Int × Int) × Addr) => ∃ as, Reads (PySem.W.sortingHeap (h'.push (seqObj "list" acc.toList.toArray 0)) h'.objs.size acc.toList) u (twoP e.1) as) acc.toList es := each_mem hE fun u e he eu => by
    subst eu
    obtain ⟨as, rd⟩ := Dp.reads I1 (twoP e.1) (.ref e.2) (.ref e.2) (.tup (.inl (hk e he)) (.cons (.int _) (.cons (.int _) .nil))) rfl
    refine ⟨as, PyProof.Rows.Reads.keeps (fun b o hb => ?_) rd⟩
    exact PySem.W.sortingHeap_old (Nat.ne_of_lt (Heap.lt_size hb)) (Heap.get?_push_of_some _ hb)
  have hall : AllAlike (es.map fun e => twoP e.1) := by
    intro d hd d' hd'
    obtain ⟨e, _, rfl⟩ := List.mem_map.mp hd
    obtain ⟨e', _, rfl⟩ := List.mem_map.mp hd'
    exact alike_ii _ _ _ _
  have hsb : Sortable (es.map fun e => twoP e.1) := .tuples fun b => ⟨_, _, rfl⟩
  refine wpAny_bind (wpAny_holding (wpAny_call_entry PyProof.Rows.slot_list_sort ⟨_, hoL, rfl⟩ PyProof.Rows.entry_list_sort ?body (PyProof.Rows.args_list_sort _)))
  case body =>
    show wpAny (model X.prog X.w) X.A.in1.in1 (Builtin.«list.sort» ⟨[.ref h'.objs.size], []⟩) _ _ _
    refine PySem.W.list_sort_vals (s := { s with heap := h'.push (seqObj "list" acc.toList.toArray 0), toks := tk }) hoL (PySem.W.SortsAt.data (s := { s with heap := PySem.W.sortingHeap (h'.push (seqObj "list" acc.toList.toArray 0)) h'.objs.size acc.toList, toks := tk }) (PySem.W.each_map (R := fun v d => ∃ as, Reads _ v d as) (fun e : (Int × Int) × Addr => twoP e.1) hR) hall hsb (PySem.W.bound_map (enc := fun e : (Int × Int) × Addr => twoP e.1) fun e he => ?_)) (by rw [hal]; exact z1) ?_
    · show X.A.units + 1 + 1 + (twoP e.1).depth < cLine
      simp only [PyData.depth, PyData.depthAll]
      omega
    · have out := PySem.W.sortVals_data (h' := PySem.W.sortingHeap (h'.push (seqObj "list" acc.toList.toArray 0)) h'.objs.size acc.toList) (R := fun (u : Value) (e : (Int × Int) × Addr) => u = .ref e.2) (enc := fun e : (Int × Int) × Addr => twoP e.1) false hE hR hall
      obtain ⟨c, hc⟩ := PyProof.Rows.sortedHeap_at (out := (PySem.W.sortVals (PySem.W.dataKind (PySem.W.sortingHeap (h'.push (seqObj "list" acc.toList.toArray 0)) h'.objs.size acc.toList) (es.map fun e => twoP e.1)) false acc.toList acc.toList).toArray) hoL
      have hlen : ((sortJ es).map fun e => V.ref e.2).length ≤ sizeLine := by rw [List.length_map, List.length_mergeSort]; exact z1
      refine ⟨_, rfl, wpAny_pure ⟨_, rfl, .ref h'.objs.size, upd H h'.objs.size (.lst ((sortJ es).map fun e => V.ref e.2)), I1.laid (t' := tk) (fun b u e => ?_) (Nat.le_refl _) ⟨hlen, _, c, vals_each out, hc⟩, rfl, q _ (I1.hok.fresh (Nat.le_refl _))⟩⟩
      have hb : b < h'.objs.size := Heap.lt_size e
      show (PyProof.Rows.sortedHeap (h'.push (seqObj "list" acc.toList.toArray 0)) h'.objs.size acc.toList _).get? b = some u
      rw [PyProof.Rows.sortedHeap_old (Nat.ne_of_lt hb) (by rw [size_push']; exact Nat.lt_succ_of_lt hb)]
      exact Heap.get?_push_of_some _ e
end
end DL
end

section
/-! An instance that holds a number, a dict of pairs and a list of pairs, read as data. -/
namespace DL
open PySem PySem.Spec PyProof.Rows L2
section
variable {K : PySem.W.Frag} {F H : Hp} {v : V} {C : Addr} {halls : Int} {ks dn : List (Int × Int)}
theorem two_inj {l m : List (Int × Int)} (h : l.map twoP = m.map twoP) : l = m := by
  have h2 := congrArg (List.map fun p : PyData => match p with
    | .tuple [.int i, .int j] => (i, j)
    | _ => (0, 0)) h
  simpa [List.map_map, Function.comp_def] using h2
theorem desk_of (h : Dd K F v (deskD C halls ks dn)) : ∃ a dx dj dl es xs, v = .ref a ∧ F a = some (.ins C dx (deskF halls dj dl)) ∧ F dj = some (joinO dj es) ∧ es.map (·.1) = ks ∧ (∀ e ∈ es, TwoAt F e.2 e.1) ∧ F dl = some (.lst xs) ∧ Paired (TwoV F) xs dn := by
  have key : ∀ m : PyData, m = deskD C halls ks dn → Dd K F v m → ∃ a dx dj dl es xs, v = .ref a ∧ F a = some (.ins C dx (deskF halls dj dl)) ∧ F dj = some (joinO dj es) ∧ es.map (·.1) = ks ∧ (∀ e ∈ es, TwoAt F e.2 e.1) ∧ F dl = some (.lst xs) ∧ Paired (TwoV F) xs dn := fun m em hm => by
    cases hm with
    | dsk h1 h2 h3 h4 h5 =>
      rename_i a C' dx dj dl halls' es xs dn'
      have e1 := PyData.dict.inj em
      simp only [List.cons.injEq, Prod.mk.injEq, PyData.int.injEq, PyData.tuple.injEq, and_true, true_and] at e1
      obtain ⟨c1, ⟨c2, c3⟩, c4⟩ := e1
      have k1 := two_inj c3
      have k2 := two_inj c4
      have k3 : C' = C := by exact_mod_cast c1
      subst k1 k2 c2 k3
      exact ⟨a, dx, dj, dl, es, xs, rfl, h1, h2, rfl, h3, h4, h5⟩
    | scr h1 =>
      rename_i a ns
      cases ns with
      | nil => cases em
      | cons n r => cases em
    | _ => cases em
  exact key _ rfl h
theorem twos_dda {xs : List V} {dn : List (Int × Int)} (h : Paired (TwoV F) xs dn) : DdA K F xs (dn.map twoP) := by
  induction h with
  | nil => exact .nil
  | cons r _ ih =>
    obtain ⟨b, rfl, t⟩ := r
    exact .cons (dd_two t) ih
theorem dda_twos {dn : List (Int × Int)} : ∀ {xs : List V}, DdA K F xs (dn.map twoP) → Paired (TwoV F) xs dn := by
  induction dn with
  | nil => intro xs h; cases h; exact .nil
  | cons p dn ih =>
    intro xs h
    cases h with
    | cons h1 h2 =>
      obtain ⟨b, rfl, t⟩ := pair_of h1
      exact .cons ⟨b, rfl, t⟩ (ih h2)
end
structure DeskC (K : PySem.W.Frag) (C : Addr) : Prop where
  cls : Cls K C
  n1 : NoAttr K C "_halls"
  n2 : NoAttr K C "_joined"
  n3 : NoAttr K C "_done"
theorem sort_keys (es : JEs) : (sortJ es).map (fun e => twoP e.1) = ((es.map (·.1)).map twoP).mergeSort dLe := by
  rw [List.map_map, List.map_mergeSort]
  · rfl
  · intro a _ b _; rfl
section
variable {X : Cx} {Γ Γ1 : Gm} {e : Expr} {pos pp ap : Pos} {C : Addr} {halls : Int} {ks dn : List (Int × Int)} {d : PyData} {kk k j : Nat} {f : Str}
theorem ee_fldHalls (D : DeskC X.K C) (he : Ee X Γ e (deskD C halls ks dn) Γ1) (hb : attributeBase e "_halls" X.env (eval e X.env) = eval e X.env := by rfl) : Ee X Γ (.Attribute e "_halls" pos) (.int halls) Γ1 :=
  pe_imp (pe_fld he hb) fun σ H Q ⟨F, ev, xt, q⟩ => ⟨F, ev, xt, fun v F1 H1 g1 e1 dv => by
    obtain ⟨a, dx, dj, dl, es, xs, rfl, h1, _⟩ := desk_of dv
    exact ⟨a, C, dx, _, .int halls, rfl, g1.fh _ _ h1, D.cls, D.n1, rfl, q _ F1 H1 g1 e1 (.int _)⟩⟩
theorem ee_fldDone (D : DeskC X.K C) (he : Ee X Γ e (deskD C halls ks dn) Γ1) (hb : attributeBase e "_done" X.env (eval e X.env) = eval e X.env := by rfl) : Ee X Γ (.Attribute e "_done" pos) (.list (dn.map twoP)) Γ1 :=
  pe_imp (pe_fld he hb) fun σ H Q ⟨F, ev, xt, q⟩ => ⟨F, ev, xt, fun v F1 H1 g1 e1 dv => by
    obtain ⟨a, dx, dj, dl, es, xs, rfl, h1, h2, h3, h4, h5, h6⟩ := desk_of dv
    exact ⟨a, C, dx, _, .ref dl, rfl, g1.fh _ _ h1, D.cls, D.n3, rfl, q _ F1 H1 g1 e1 (.lst h5 (twos_dda h6))⟩⟩
theorem en_sortJ (D : DeskC X.K C) (hr : Room kk X.A) (hc : X.calm = true) (hm : X.mg "sorted" = none) (he : Ee X Γ e (deskD C halls ks dn) Γ1) (hz : ks.length ≤ 65536) (hb : attributeBase e "_joined" X.env (eval e X.env) = eval e X.env := by rfl) (hg : Gl X "sorted" := by rfl)
    (hs : starEach [.Attribute e "_joined" ap] X.env = (false, eval (.Attribute e "_joined" ap) X.env) :: starEach [] X.env := by rfl) (hpl : (backTo pos (starEach [] X.env)).any (·.1) = false := by rfl) :
    En X Γ (.Call (.Name "sorted" pp) [.Attribute e "_joined" ap] [] pos) ((ks.map twoP).mergeSort dLe) Γ1 :=
  pe_imp (pe_callB (call_sortedJ hc (by have := hr.un; omega)) hg hm (by decide +kernel) (pa_cons (pe_fld he hb) pa_nil hs) (by decide) (by decide) hs hpl) fun σ H Q ⟨F, ev, xt, q⟩ => ⟨F, ev, xt, fun v F1 H1 g1 e1 dv => by
    obtain ⟨a, dx, dj, dl, es, xs, rfl, h1, h2, h3, h4, h5, h6⟩ := desk_of dv
    subst h3
    refine ⟨a, C, dx, _, .ref dj, rfl, g1.fh _ _ h1, D.cls, D.n2, rfl, dj, es, rfl, g1.fh _ _ h2, fun y hy => (h4 y hy).ky g1.fh, by rw [List.length_map] at hz; exact hz, ?_⟩
    refine tN_new g1 e1 ?_ q
    rw [← sort_keys]
    have go : ∀ l : JEs, (∀ y ∈ l, TwoAt F1 y.2 y.1) → DdA X.K F1 (l.map fun e => V.ref e.2) (l.map fun e => twoP e.1) := by
      intro l
      induction l with
      | nil => intro _; exact .nil
      | cons y l ih => intro hl; exact .cons (dd_two (hl y List.mem_cons_self)) (ih fun z hz => hl z (List.mem_cons_of_mem _ hz))
    exact go _ fun y hy => h4 y ((List.mergeSort_perm _ _).mem_iff.mp hy)⟩
/-- a property that reads -/
structure PmD (P : Program) (w : World) (K : PySem.W.Frag) (mg : Str → Option Value) (base : Heap) (k : Nat) (C : Addr) (f : Str) (R : List PyData → PyData → Prop) : Prop where
  ex : ∃ p g fd, PropOf K C f p g ∧ L2.Binds K fd ["self"] [] ∧ FnOk P w K mg base CX0 k g fd ["self"] (spD K R)
/-- a method that reads -/
structure MeD (P : Program) (w : World) (K : PySem.W.Frag) (mg : Str → Option Value) (base : Heap) (k : Nat) (C : Addr) (f : Str) (R : List PyData → PyData → Prop) : Prop where
  ex : ∃ g fd, Meth K C f g ∧ L2.Binds K fd ["self"] [] ∧ FnOk P w K mg base CX0 k g fd ["self"] (spD K R)
theorem ee_prop {R : List PyData → PyData → Prop} (D : DeskC X.K C) (M : PmD X.prog X.w X.K X.mg X.base k C f R) (hr : Room j X.A) (he : Ee X Γ e (deskD C halls ks dn) Γ1) (hR : R [deskD C halls ks dn] d) (hj : k + 1 ≤ j := by decide) (hb : attributeBase e f X.env (eval e X.env) = eval e X.env := by rfl) :
    Ee X Γ (.Attribute e f pos) d Γ1 := by
  obtain ⟨p, g, fd, hp, hbi, hF⟩ := M.ex
  exact pe_imp (pe_prop he D.cls hp hF (hr.mono hj) hbi .nil pass0 hb) fun σ H Q ⟨F, ev, xt, q⟩ => ⟨F, ev, xt, fun v F1 H1 g1 e1 dv => by
    obtain ⟨a, dx, dj, dl, es, xs, rfl, h1, _⟩ := desk_of dv
    exact ⟨a, dx, _, rfl, g1.fh _ _ h1, F1, _, d, g1.fh, .cons dv .nil, hR, fun v F' H' i1 i2 i3 i4 dv' => q v F' H' (g1.trans (Gr.ext i1 i2 i3 i4)) (e1.keep i1 i3 i4) dv'⟩⟩
theorem ee_meth0 {R : List PyData → PyData → Prop} {pl : Sem Bool} (D : DeskC X.K C) (M : MeD X.prog X.w X.K X.mg X.base k C f R) (hr : Room j X.A) (he : Ee X Γ e (deskD C halls ks dn) Γ1) (hR : R [deskD C halls ks dn] d) (hl : ∀ dj dl, (deskF halls dj dl).lookup f = none) (hj : k ≤ j := by decide)
    (ht : eval (.Call (.Attribute e f ap) [] [] pos) X.env = (do
      let ov ← eval e X.env
      standAt ap.atName
      let (f, first) ← holding [ov] (getMethod ov f pl)
      callWith pos f first (backTo pos (starEach [] X.env)) (backToKw pos (keywordEach [] X.env))) := by rfl) :
    Ee X Γ (.Call (.Attribute e f ap) [] [] pos) d Γ1 := by
  obtain ⟨g, fd, hm, hbi, hF⟩ := M.ex
  exact pe_imp (pe_meth0 (pl := pl) he D.cls hm hF (hr.mono hj) hbi .nil pass0 ht) fun σ H Q ⟨F, ev, xt, q⟩ => ⟨F, ev, xt, fun v F1 H1 g1 e1 dv => by
    obtain ⟨a, dx, dj, dl, es, xs, rfl, h1, _⟩ := desk_of dv
    exact ⟨a, dx, _, rfl, g1.fh _ _ h1, hl _ _, F1, _, d, g1.fh, .cons dv .nil, hR, fun v F' H' i1 i2 i3 i4 dv' => q v F' H' (g1.trans (Gr.ext i1 i2 i3 i4)) (e1.keep i1 i3 i4) dv'⟩⟩
end
end DL
end

section
/-! Such an instance beside the frame, changed by statements and calls: what it holds, in and out. -/
namespace DL
open PySem PySem.Spec PyProof.Rows L2
structure DkZ where
  p : Addr
  dx : Addr
  dj : Addr
  dl : Addr
  C : Addr
  halls : Int
abbrev DkS := List (Int × Int) × List (Int × Int)
def Dt (Z : DkZ) (a : Addr) : Prop := a = Z.dj ∨ a = Z.dl
structure Dk (F H : Hp) (Z : DkZ) (S : DkS) : Prop where
  fp : F Z.p = none
  fj : F Z.dj = none
  fl : F Z.dl = none
  hp : H Z.p = some (.ins Z.C Z.dx (deskF Z.halls Z.dj Z.dl))
  hj : ∃ es : JEs, H Z.dj = some (joinO Z.dj es) ∧ es.map (·.1) = S.1 ∧ ∀ e ∈ es, TwoAt F e.2 e.1
  hl : ∃ xs, H Z.dl = some (.lst xs) ∧ Paired (TwoV F) xs S.2
structure DS (K : PySem.W.Frag) (F H : Hp) (σ : L2.St) (Γ : Gm) (Z : DkZ) (S : DkS) : Prop where
  ev : EnvOk K F H σ Γ
  xt : Ext F H
  dk : Dk F H Z S
  no : ¬ Own σ Γ Z.dl
def AD (σ : L2.St) (Γ : Gm) (Z : DkZ) (a : Addr) : Prop := Own σ Γ a ∨ Dt Z a
section
variable {K : PySem.W.Frag} {F F' H H' : Hp} {σ σ' : L2.St} {Γ Γ' Γz : Gm} {Z : DkZ} {S S' : DkS}
theorem DS.np (d : DS K F H σ Γ Z S) : ¬ Own σ Γ Z.p := fun z => by
  obtain ⟨_, xs, h⟩ := d.ev.own_at z
  rw [d.dk.hp] at h; cases h
theorem DS.nj (d : DS K F H σ Γ Z S) : ¬ Own σ Γ Z.dj := fun z => by
  obtain ⟨_, xs, h⟩ := d.ev.own_at z
  obtain ⟨es, h2, _⟩ := d.dk.hj
  rw [h2] at h; cases h
theorem gr_keep {A A' : Addr → Prop} (g : Gr F H A F' H' A') {a : Addr} {o : HO} (hn : ¬ A a) (hF : F a = none) (hH : H a = some o) : F' a = none ∧ H' a = some o := by
  refine ⟨?_, (g.hh a o hH).resolve_right hn⟩
  cases q : F' a with
  | none => rfl
  | some u =>
    rcases g.nw a (by rw [q]; exact Option.some_ne_none u) with z | z | z
    · exact absurd hF z
    · rw [hH] at z; cases z
    · exact absurd z hn
theorem Dk.move (d : Dk F H Z S) (ff : Ext F F') (kp : ∀ a o, (a = Z.p ∨ Dt Z a) → F a = none → H a = some o → F' a = none ∧ H' a = some o) : Dk F' H' Z S := by
  obtain ⟨es, h1, h2, h3⟩ := d.hj
  obtain ⟨xs, l1, l2⟩ := d.hl
  have a1 := kp _ _ (.inl rfl) d.fp d.hp
  have a2 := kp _ _ (.inr (.inl rfl)) d.fj h1
  have a3 := kp _ _ (.inr (.inr rfl)) d.fl l1
  exact ⟨a1.1, a2.1, a3.1, a1.2, ⟨es, a2.2, h2, fun e he => (h3 e he).up ff⟩, ⟨xs, a3.2, Paired.mapP l2 fun _ _ z => z.up ff⟩⟩
/-- a statement that knows nothing of it -/
theorem DS.grow (d : DS K F H σ Γ Z S) (g : Gr F H (Own σ Γ) F' H' (Own σ' Γ')) (e : EnvOk K F' H' σ' Γ') : DS K F' H' σ' Γ' Z S ∧ Gr F H (AD σ Γ Z) F' H' (AD σ' Γ' Z) := by
  refine ⟨⟨e, g.fh, d.dk.move g.ff fun a o ha hF hH => gr_keep g ?_ hF hH, fun z => ?_⟩, ⟨g.ff, g.fh, fun a o h => (g.hh a o h).imp id .inl, fun a h => (g.nw a h).imp id (Or.imp id .inl), fun a h => ?_⟩⟩
  · rcases ha with rfl | rfl | rfl
    · exact d.np
    · exact d.nj
    · exact d.no
  · rcases g.aa _ z with y | y
    · exact d.no y
    · obtain ⟨xs, l1, _⟩ := d.dk.hl
      rw [l1] at y; cases y
  · rcases h with h | h
    · exact (g.aa a h).imp .inl id
    · exact .inl (.inr h)
/-- a call that changes it alone -/
theorem DS.other (d : DS K F H σ Γ Z S) (g : Gr F H (Dt Z) F' H' (Dt Z)) (k : Dk F' H' Z S') : DS K F' H' σ Γ Z S' ∧ Gr F H (AD σ Γ Z) F' H' (AD σ Γ Z) := by
  have out : ∀ a, Own σ Γ a → ¬ Dt Z a := fun a o z => by
    rcases z with rfl | rfl
    · exact d.nj o
    · exact d.no o
  refine ⟨⟨⟨d.ev.len, fun i s q => ?_, d.ev.sep⟩, g.fh, k, d.no⟩, ⟨g.ff, g.fh, fun a o h => (g.hh a o h).imp id .inr, fun a h => (g.nw a h).imp id (Or.imp id .inr), fun a h => .inl h⟩⟩
  obtain ⟨v, v1, v2⟩ := d.ev.ats i s q
  refine ⟨v, v1, ?_⟩
  cases s with
  | im x => exact v2.up g.ff
  | ad u => exact v2
  | ow ds =>
    obtain ⟨l, xs, rfl, h1, h2, h3⟩ := v2
    have := gr_keep g (out _ ⟨i, _, q, rfl, v1⟩) h1 h2
    exact ⟨l, xs, rfl, this.1, this.2, h3.up g.ff⟩
  | pr l ds =>
    obtain ⟨xs, rfl, h1, h2, h3⟩ := v2
    have := gr_keep g (out _ ⟨i, _, q, rfl, v1⟩) h1 h2
    exact ⟨xs, rfl, this.1, this.2, h3.up g.ff⟩
end
/-! ### the judgements -/
def tKz (K : PySem.W.Frag) (Z : DkZ) (Γ : Gm) (S : DkS) (Γ' : Gm) (S' : DkS) : TS := fun D σ H => ∃ F, DS K F H σ Γ Z S ∧ ∀ σ' F' H', Gr F H (AD σ Γ Z) F' H' (AD σ' Γ' Z) → DS K F' H' σ' Γ' Z S' → D.nx σ' H'
def EsK (X : Cx) (Z : DkZ) (Γ : Gm) (S : DkS) (st : Stmt) (Γ' : Gm) (S' : DkS) : Prop := PS X st (tKz X.K Z Γ S Γ' S')
def EssK (X : Cx) (Z : DkZ) (Γ : Gm) (S : DkS) (sts : List Stmt) (Γ' : Gm) (S' : DkS) : Prop := PSs X sts (tKz X.K Z Γ S Γ' S')
def EeK (X : Cx) (Z : DkZ) (Γ : Gm) (S : DkS) (e : Expr) (d : PyData) (Γ' : Gm) (S' : DkS) : Prop := PE X e (fun σ H Q => ∃ F, DS X.K F H σ Γ Z S ∧ ∀ v F' H', Gr F H (AD σ Γ Z) F' H' (AD σ Γ' Z) → DS X.K F' H' σ Γ' Z S' → Dd X.K F' v d → Q v H')
def EaK (X : Cx) (Z : DkZ) (Γ : Gm) (S : DkS) (es : List Expr) (ds : List PyData) (Γ' : Gm) (S' : DkS) : Prop := PA X es (fun σ H Q => ∃ F, DS X.K F H σ Γ Z S ∧ ∀ vs F' H', Gr F H (AD σ Γ Z) F' H' (AD σ Γ' Z) → DS X.K F' H' σ Γ' Z S' → DdA X.K F' vs ds → Q vs H')
def EtK (X : Cx) (Z : DkZ) (Γ : Gm) (S : DkS) (c : Expr) (p : Bool) (Γ' : Gm) : Prop := PT X c (fun σ H Q => ∃ F, DS X.K F H σ Γ Z S ∧ ∀ F' H', Gr F H (AD σ Γ Z) F' H' (AD σ Γ' Z) → DS X.K F' H' σ Γ' Z S → Q p H')
def ErK (X : Cx) (Z : DkZ) (Γ : Gm) (S : DkS) (sts : List Stmt) (d : PyData) : Prop := PSs X sts (fun D σ H => ∃ F, DS X.K F H σ Γ Z S ∧ ∀ v F' H', Gr F H (AD σ Γ Z) F' H' (fun _ => False) → Dd X.K F' v d → D.rt v H')
/-- an expression, a block left by an error of the class at C -/
def ExK (X : Cx) (Z : DkZ) (Γ : Gm) (S : DkS) (e : Expr) (C : Addr) (Γ' : Gm) (W : WX) : Prop := PE X e (fun σ H _ => ∃ F, DS X.K F H σ Γ Z S ∧ ∀ F' H', Gr F H (AD σ Γ Z) F' H' (AD σ Γ' Z) → DS X.K F' H' σ Γ' Z S → W (.ref C) none σ H')
def RxK (X : Cx) (Z : DkZ) (Γ : Gm) (S : DkS) (sts : List Stmt) (C : Addr) (E : XK) : Prop := PSs X sts (fun _ σ H => ∃ F, DS X.K F H σ Γ Z S ∧ ∀ σ' Γ' F' H', Gr F H (AD σ Γ Z) F' H' (AD σ' Γ' Z) → DS X.K F' H' σ' Γ' Z S → E (.ref C) none H')
section
variable {X : Cx} {Z : DkZ} {Γ Γ0 Γ1 Γ2 Γ' Γz : Gm} {S S1 S' : DkS} {st b0 : Stmt} {sts rest body orelse suite : List Stmt} {e c : Expr} {es : List Expr} {d : PyData} {ds : List PyData} {p : Bool} {pos pos' pp np : Pos} {n : Nat} {C : Addr} {E : XK} {W : WX}
theorem esK_lift (h : Es X Γ st (.nx Γ')) : EsK X Z Γ S st Γ' S :=
  ps_imp h fun D σ H ⟨F, d, k⟩ => ⟨F, d.ev, d.xt, fun σ' F' H' g e' => k σ' F' H' (d.grow g e').2 (d.grow g e').1⟩
theorem essK_nil : EssK X Z Γ S [] Γ S := pss_imp pss_nil fun D σ H ⟨F, d, k⟩ => k σ F H (Gr.refl d.xt) d
theorem essK_cons (h1 : EsK X Z Γ S st Γ1 S1) (h2 : EssK X Z Γ1 S1 rest Γ' S') : EssK X Z Γ S (st :: rest) Γ' S' :=
  pss_imp (pss_cons h1 h2) fun D σ H ⟨F, d, k⟩ => ⟨F, d, fun σ1 F1 H1 g1 d1 => ⟨F1, d1, fun σ' F' H' g' d' => k σ' F' H' (g1.trans g') d'⟩⟩
theorem essK_one (h1 : EsK X Z Γ S st Γ' S') : EssK X Z Γ S [st] Γ' S' := essK_cons h1 essK_nil
theorem DS.less {K : PySem.W.Frag} {F H : Hp} {σ : L2.St} (d : DS K F H σ Γ' Z S) (hl : Less Γ Γ') : DS K F H σ Γ Z S := ⟨hl.env d.ev, d.xt, d.dk, fun z => d.no (hl.own z)⟩
theorem essK_wk (h : EssK X Z Γ S sts Γ' S') (hl : Less Γ2 Γ') : EssK X Z Γ S sts Γ2 S' :=
  pss_imp h fun D σ H ⟨F, d, k⟩ => ⟨F, d, fun σ' F' H' g d' => k σ' F' H' (g.right fun a z => z.imp hl.own id) (d'.less hl)⟩
theorem esK_wk (h : EsK X Z Γ S st Γ' S') (hl : Less Γ2 Γ') : EsK X Z Γ S st Γ2 S' :=
  ps_imp h fun D σ H ⟨F, d, k⟩ => ⟨F, d, fun σ' F' H' g d' => k σ' F' H' (g.right fun a z => z.imp hl.own id) (d'.less hl)⟩
theorem eeK_lift (h : Ee X Γ e d Γ') : EeK X Z Γ S e d Γ' S :=
  pe_imp h fun σ H Q ⟨F, d, k⟩ => ⟨F, d.ev, d.xt, fun v F' H' g e' dv => k v F' H' (d.grow g e').2 (d.grow g e').1 dv⟩
theorem eaK_lift (h : Ea X Γ es ds Γ') : EaK X Z Γ S es ds Γ' S :=
  pa_imp h fun σ H Q ⟨F, d, k⟩ => ⟨F, d.ev, d.xt, fun v F' H' g e' dv => k v F' H' (d.grow g e').2 (d.grow g e').1 dv⟩
theorem eaK_one (h : EeK X Z Γ S e d Γ' S') (hs : starEach [e] X.env = (false, eval e X.env) :: starEach [] X.env := by rfl) : EaK X Z Γ S [e] [d] Γ' S' :=
  pa_imp (pa_cons h pa_nil hs) fun σ H Q ⟨F, d, k⟩ => ⟨F, d, fun v F' H' g d' dv => k [v] F' H' g d' (.cons dv .nil)⟩
theorem etK_lift (h : Et X Γ c p Γ') : EtK X Z Γ S c p Γ' :=
  pt_imp h fun σ H Q ⟨F, d, k⟩ => ⟨F, d.ev, d.xt, fun F' H' g e' => k F' H' (d.grow g e').2 (d.grow g e').1⟩
theorem esK_ifT (hc : EtK X Z Γ S c true Γ1) (h : EssK X Z Γ1 S body Γ' S') : EsK X Z Γ S (.If c body orelse pos) Γ' S' :=
  ps_imp (ps_if hc h (pss_guard (φ := False) (fun z => z.elim) (t := fun _ _ _ => False))) fun D σ H ⟨F, d, k⟩ => ⟨F, d, fun F1 H1 g1 d1 =>
    iteT ⟨F1, d1, fun σ' F' H' g' d' => k σ' F' H' (g1.trans g') d'⟩⟩
theorem esK_ifF (hc : EtK X Z Γ S c false Γ1) (h : EssK X Z Γ1 S orelse Γ' S') : EsK X Z Γ S (.If c body orelse pos) Γ' S' :=
  ps_imp (ps_if hc (pss_guard (φ := False) (fun z => z.elim) (t := fun _ _ _ => False)) h) fun D σ H ⟨F, d, k⟩ => ⟨F, d, fun F1 H1 g1 d1 =>
    iteF ⟨F1, d1, fun σ' F' H' g' d' => k σ' F' H' (g1.trans g') d'⟩⟩
theorem esK_expr (h : EeK X Z Γ S e d Γ' S') (hs : swapsWith e none pos.line X.env = pure false := by rfl) : EsK X Z Γ S (.Expr e pos) Γ' S' :=
  ps_imp (ps_expr h hs) fun D σ H ⟨F, d, k⟩ => ⟨F, d, fun v F' H' g d' _ => k σ F' H' g d'⟩
theorem DS.store {K : PySem.W.Frag} {F H : Hp} {σ : L2.St} (d : DS K F H σ Γ Z S) {v : V} {x : PyData} (h : Dd K F v x) (hi : n < Γ.length) : DS K F H (σ.set n (some v)) (Γ.set n (some (.im x))) Z S :=
  ⟨d.ev.store h hi, d.xt, d.dk, fun z => d.no (own_store z)⟩
theorem esK_set (n : Nat) {x : Str} {px : Pos} (hN : X.N.Nodup) (he : EeK X Z Γ S e d Γ' S') (hi : X.N[n]? = some x := by rfl) (hx : Loc X.env.scope x := by first | exact Or.inl rfl | exact Or.inr rfl) (hl : Γ'[n]?.isSome = true := by rfl) (hs : swapsWith e (some (.Name x px)) pos.line X.env = pure false := by rfl) (hf : X.fn x = true ∨ X.env.scope.names.lookup x = some .local := by first | exact .inl rfl | exact .inr rfl) :
    EsK X Z Γ S (.Assign [.Name x px] e pos) (Γ'.set n (some (.im d))) S' :=
  ps_imp (ps_set hN hi hx he hs hf) fun D σ H ⟨F, dd, k⟩ => ⟨F, dd, fun v F1 H1 g1 d1 dv => k _ F1 H1 (g1.right fun a z => z.imp own_store id) (d1.store dv (some_lt hl))⟩
theorem esK_for {tg iter : Expr} {is : List Nat} (G G' : Nat → Gm) (R : Nat → DkS) (hi : Ei X Γ tg iter ds (G 0)) (hg : ∀ i d, ds[i]? = some d → Eg X (G i) tg d is (G' i)) (hb : ∀ i, i < ds.length → EssK X Z (G' i) (R i) body (G (i + 1)) (R (i + 1)))
    (hp : PassesOwn (model X.prog X.w) X.A X.env X.xe := by exact PassesOwn.never) (hcm : X.calm = true := by rfl) (hs : ∀ x, foldedSetIterable iter X.env x = pure x := by intro _; rfl) : EsK X Z Γ (R 0) (.For tg iter body [] pos) (G ds.length) (R ds.length) := by
  have hgA : PG X tg (fun v σ H Q => ∃ i d, ds[i]? = some d ∧ tGt X.K (G i) d is (G' i) v σ H Q) := ⟨fun pins s σ H v u Q I r ⟨i, d, h1, h⟩ => (hg i d h1).run pins s σ H v u Q I r h⟩
  have hbA : PSs X body (fun D σ H => ∃ i, i < ds.length ∧ tKz X.K Z (G' i) (R i) (G (i + 1)) (R (i + 1)) D σ H) := ⟨fun pins s σ H D I ⟨i, h1, h⟩ => (hb i h1).run pins s σ H D I h⟩
  refine ps_imp (ps_for hp hcm hi hgA hbA hs) fun D σ H ⟨F, dd, k⟩ => ⟨F, dd.ev, dd.xt, fun J F0 H0 g0 e0 hW => ?_⟩
  obtain ⟨d0, w0⟩ := dd.grow g0 e0
  refine ⟨fun i m σ' H' => m = ds.length - i ∧ i ≤ ds.length ∧ ∃ F', DS X.K F' H' σ' (G i) Z (R i) ∧ Gr F0 H0 (AD σ (G 0) Z) F' H' (AD σ' (G i) Z), ⟨ds.length, by omega, Nat.zero_le _, F0, d0, Gr.refl g0.fh⟩, ?_⟩
  rintro i m σ' H' ⟨rfl, hin, F', d', g'⟩
  have wk := hW i F' H' g'.ff g'.fh
  by_cases hlt : i < ds.length
  · have hd : ds[i]? = some ds[i] := List.getElem?_eq_getElem hlt
    obtain ⟨go, yl⟩ := wk.1 _ hd
    refine .inr ⟨go, fun σ2 H2 => ∃ F2, DS X.K F2 H2 σ2 (G (i + 1)) Z (R (i + 1)) ∧ Gr F0 H0 (AD σ (G 0) Z) F2 H2 (AD σ2 (G (i + 1)) Z), fun σ2 H2 ⟨F2, d2, g2⟩ => ⟨ds.length - (i + 1), by omega, rfl, hlt, F2, d2, g2⟩, fun y H3 hy => ?_⟩
    obtain ⟨F3, y1, y2, y3, y4, dy⟩ := yl y H3 hy
    obtain ⟨d3, g3⟩ := d'.grow (Gr.ext y1 y2 y3 y4) (d'.ev.keep y1 y3 y4)
    exact ⟨i, _, hd, F3, d3.ev, y2, dy, fun σ4 F4 H4 g4 e4 _ => ⟨i, hlt, F4, (d3.grow g4 e4).1, fun σ5 F5 H5 g5 d5 => ⟨F5, d5, (g'.trans g3).trans ((d3.grow g4 e4).2.trans g5)⟩⟩⟩
  · have he : i = ds.length := by omega
    subst he
    exact .inl ⟨wk.2 (Nat.le_refl _), k σ' F' H' (w0.trans g') d'⟩
theorem erK_cons (h1 : EsK X Z Γ S st Γ1 S1) (h2 : ErK X Z Γ1 S1 rest d) : ErK X Z Γ S (st :: rest) d :=
  pss_imp (pss_cons h1 h2) fun D σ H ⟨F, dd, k⟩ => ⟨F, dd, fun σ1 F1 H1 g1 d1 => ⟨F1, d1, fun v F' H' g' dv => k v F' H' (g1.trans g') dv⟩⟩
theorem erK_out (h : Er X Γ sts d) : ErK X Z Γ S sts d := by
  obtain ⟨Γ', h⟩ := h
  exact pss_imp h fun D σ H ⟨F, dd, k⟩ => ⟨F, dd.ev, dd.xt, fun v σ' F' H' g e' dv => k v F' H' ((dd.grow g e').2.right fun a z => z.elim) dv⟩
theorem rxK_cons (h1 : EsK X.nox Z Γ S st Γ1 S) (h2 : RxK X Z Γ1 S rest C E) : RxK X Z Γ S (st :: rest) C E := by
  have h3 : PS X st (tKz X.K Z Γ S Γ1 S) := by
    refine ⟨fun pins s σ H D I hw => ?_⟩
    refine wpAny_mono (h1.run pins s σ H D (I.wish _) hw) (fun _ _ q => q.unwish) (fun _ _ z => False.elim z)
  exact pss_imp (pss_cons h3 h2) fun D σ H ⟨F, dd, k⟩ => ⟨F, dd, fun σ1 F1 H1 g1 d1 => ⟨F1, d1, fun σ2 Γ2 F2 H2 g2 d2 => k σ2 Γ2 F2 H2 (g1.trans g2) d2⟩⟩
theorem rxK_if (hc : EtK X.nox Z Γ S c true Γ1) (h : RxK X Z Γ1 S body C E) : RxK X Z Γ S (.If c body orelse pos :: rest) C E := by
  have hc' : PT X c (fun σ H Q => ∃ F, DS X.K F H σ Γ Z S ∧ ∀ F' H', Gr F H (AD σ Γ Z) F' H' (AD σ Γ1 Z) → DS X.K F' H' σ Γ1 Z S → Q true H') := PT.nox hc
  exact pss_imp (pss_cons (ps_if hc' h pss_never) pss_never) fun D σ H ⟨F, dd, k⟩ => ⟨F, dd, fun F1 H1 g1 d1 => by
    show (if true = true then _ else _)
    rw [if_pos rfl]
    exact ⟨F1, d1, fun σ2 Γ2 F2 H2 g2 d2 => k σ2 Γ2 F2 H2 (g1.trans g2) d2⟩⟩
theorem rxK_raise (hc : X.calm = true) (tk : Takes X (fun cls d _ H => E cls d H)) (he : PMk X e (fun _ H Q => Q (.ref C) none H)) : RxK X Z Γ S (.Raise (some e) none pos :: rest) C E :=
  pss_imp (pss_cons (ps_raise hc tk he) pss_never) fun D σ H ⟨F, dd, k⟩ => k σ Γ F H (Gr.refl dd.xt) dd
/-- try: y = e / except C as n: a suite, nothing raised -/
theorem esK_tryOk {h0 : ExceptHandler} {hs : List ExceptHandler} (h : EssK X.nox Z Γ S body Γ1 S1) : EsK X Z Γ S (.Try body (h0 :: hs) [] [] pos) Γ1 S1 := ps_try_thru0 h
/-- .. an error caught, the suite walked to its end -/
theorem esK_tryEr {y xn nn : Str} {py pa : Pos} {m : Nat} (hs : X.stack = X.env :: X.outer) (hf : X.env.frame = some X.env.locals) (hN : X.N.Nodup) (i : Nat) (hc : Names X xn (.ref C)) (hexm : PySem.W.exmOne X.K (.ref C) (.ref C) = some true)
    (hb : ∀ (W : WX) pn xe, Takes (X.tr pn xe) W → ExK (X.tr pn xe) Z Γ S e C Γ1 W) (hv : noV Γ1 [i] = true) (hv2 : noV Γ2 [i] = true) (hsu : ∀ a pn, Ess (X.suite a pn) Γ1 (b0 :: suite) (.nx Γ2))
    (hy : X.N[m]? = some y := by rfl) (hyl : Loc X.env.scope y := by first | exact Or.inl rfl | exact Or.inr rfl) (hyf : X.fn y = true ∨ X.env.scope.names.lookup y = some .local := by first | exact .inl rfl | exact .inr rfl)
    (hi : X.N[i]? = some nn := by rfl) (hln : X.env.kindOf nn = some .local := by rfl) (hsw : swapsWith e (some (.Name y py)) pa.line X.env = pure false := by rfl) :
    EsK X Z Γ S (.Try [.Assign [.Name y py] e pa] [.ExceptHandler (some (.Name xn np)) (some nn) (b0 :: suite) pos'] [] [] pos) Γ2 S := by
  refine ps_imp (ps_try_as (i := i) (tb := fun W => fun D σ H => ∃ F, DS X.K F H σ Γ Z S ∧ ∀ F' H', Gr F H (AD σ Γ Z) F' H' (AD σ Γ1 Z) → DS X.K F' H' σ Γ1 Z S → W (.ref C) none σ H') (ts := fun a cls d0 => fun D σ H => tS X.K Γ1 (.nx Γ2) D σ H) (Wout := fun _ _ _ _ => False) hs hf hN hi hln hc takes0
    (fun W pn xe tk _ => pss_one (ps_imp (ps_set (X := X.tr pn xe) hN hy hyl (hb W pn xe tk) hsw hyf) fun D σ H hh => hh))
    (fun a oe cls d0 pn _ _ => ⟨fun pins s σ H D I h => (hsu a _).run pins s σ H D I h⟩)) fun D σ H ⟨F0, dd, kk⟩ => ?_
  refine ⟨F0, dd, fun F' H' g d1 => ⟨true, hexm, fun _ a na => ⟨F', ?_, d1.xt, ?_⟩, fun z => by cases z⟩⟩
  · exact d1.ev.agree hv (wipe_set (List.mem_singleton.mpr rfl)).symm
  · intro σ' F2 H2 g2 e2
    have da : DS X.K F' H' (σ.set i (some (.ref a))) Γ1 Z S := ⟨d1.ev.agree hv (wipe_set (List.mem_singleton.mpr rfl)).symm, d1.xt, d1.dk, fun z => d1.no (own_agree hv (wipe_set (List.mem_singleton.mpr rfl)) z)⟩
    obtain ⟨d2, g3⟩ := da.grow g2 e2
    have wp : wipe (σ'.set i none) [i] = wipe σ' [i] := wipe_set (List.mem_singleton.mpr rfl)
    refine kk (σ'.set i none) F2 H2 ((g.right fun a z => z.imp (fun q => own_agree hv (wipe_set (List.mem_singleton.mpr rfl)) q) id).trans (g3.right fun a z => z.imp (fun q => own_agree hv2 wp q) id)) ⟨d2.ev.agree hv2 wp.symm, d2.xt, d2.dk, fun z => d2.no (own_agree hv2 wp z)⟩
end
end DL
end

section
/-! Such an instance: tests that read it, its methods that change it, their promise. -/
namespace DL
open PySem PySem.Spec PyProof.Rows L2
section
variable {K : PySem.W.Frag} {F F' H H' : Hp} {σ : L2.St} {Γ Γz : Gm} {Z : DkZ} {S S' : DkS} {n : Nat}
open Classical in
noncomputable def frzK (F H : Hp) (Z : DkZ) : Hp := fun a => if a = Z.p ∨ Dt Z a then H a else F a
open Classical in
noncomputable def thwK (F : Hp) (Z : DkZ) : Hp := fun a => if a = Z.p ∨ Dt Z a then none else F a
theorem frzK_in {a : Addr} (h : a = Z.p ∨ Dt Z a) : frzK F H Z a = H a := by unfold frzK; rw [if_pos h]
theorem frzK_out {a : Addr} (h : ¬ (a = Z.p ∨ Dt Z a)) : frzK F H Z a = F a := by unfold frzK; rw [if_neg h]
theorem thwK_in {a : Addr} (h : a = Z.p ∨ Dt Z a) : thwK F Z a = none := by unfold thwK; rw [if_pos h]
theorem thwK_out {a : Addr} (h : ¬ (a = Z.p ∨ Dt Z a)) : thwK F Z a = F a := by unfold thwK; rw [if_neg h]
theorem Dk.notF (d : Dk F H Z S) {a : Addr} (h : a = Z.p ∨ Dt Z a) : F a = none := by
  rcases h with rfl | rfl | rfl
  · exact d.fp
  · exact d.fj
  · exact d.fl
theorem frzK_up (d : Dk F H Z S) : Ext F (frzK F H Z) := fun a o h => by
  by_cases q : a = Z.p ∨ Dt Z a
  · rw [d.notF q] at h; cases h
  · rw [frzK_out q]; exact h
theorem frzK_fh (x : Ext F H) : Ext (frzK F H Z) H := fun a o h => by
  by_cases q : a = Z.p ∨ Dt Z a
  · rw [frzK_in q] at h; exact h
  · rw [frzK_out q] at h; exact x a o h
theorem frzK_dd (d : Dk F H Z S) : Dd K (frzK F H Z) (.ref Z.p) (deskD Z.C Z.halls S.1 S.2) := by
  obtain ⟨es, h1, h2, h3⟩ := d.hj
  obtain ⟨xs, l1, l2⟩ := d.hl
  rw [← h2]
  exact .dsk (by rw [frzK_in (.inl rfl)]; exact d.hp) (by rw [frzK_in (.inr (.inl rfl))]; exact h1) (fun e he => (h3 e he).up (frzK_up d)) (by rw [frzK_in (.inr (.inr rfl))]; exact l1) (Paired.mapP l2 fun _ _ z => z.up (frzK_up d))
theorem frzK_env (hΓ : Γ[n]? = some (some (.ad (.ref Z.p)))) (hz : Less Γz Γ) (hn : noOwn Γz) (d : DS K F H σ Γ Z S) : EnvOk K (frzK F H Z) H σ (Γz.set n (some (.im (deskD Z.C Z.halls S.1 S.2)))) := by
  have no := set_noOwn (n := n) (d := deskD Z.C Z.halls S.1 S.2) hn
  refine ⟨by rw [List.length_set]; exact d.ev.len.trans hz.1, fun i s q => ?_, fun i j s u a b _ hs _ _ _ => by rw [no i s b] at hs; cases hs⟩
  rcases get_set_some q with ⟨rfl, e, _⟩ | ⟨_, q2⟩
  · rw [← Option.some.inj e]
    exact ⟨_, ad_at hΓ d.ev, frzK_dd d.dk⟩
  · obtain ⟨v, v1, v2⟩ := d.ev.ats _ _ (hz.2 _ _ q2)
    refine ⟨v, v1, ?_⟩
    cases s with
    | im x => exact v2.up (frzK_up d.dk)
    | ad u => exact v2
    | ow ds => have := hn i _ q2; cases this
    | pr a ds => have := hn i _ q2; cases this
theorem thawK (d : DS K F H σ Γ Z S) {A A' : Addr → Prop} (g : Gr (frzK F H Z) H A F' H' A') (hA : ∀ a, ¬ A a) : DS K (thwK F' Z) H' σ Γ Z S ∧ Gr F H (AD σ Γ Z) (thwK F' Z) H' (AD σ Γ Z) := by
  have hh := g.ext_of hA
  have ff : Ext F (thwK F' Z) := fun a o h => by
    by_cases q : a = Z.p ∨ Dt Z a
    · rw [d.dk.notF q] at h; cases h
    · rw [thwK_out q]; exact g.ff a o (by rw [frzK_out q]; exact h)
  have fh : Ext (thwK F' Z) H' := fun a o h => by
    by_cases q : a = Z.p ∨ Dt Z a
    · rw [thwK_in q] at h; cases h
    · rw [thwK_out q] at h; exact g.fh a o h
  have nw : ∀ a, thwK F' Z a ≠ none → F a ≠ none ∨ H a = none := fun a h => by
    by_cases q : a = Z.p ∨ Dt Z a
    · rw [thwK_in q] at h; exact absurd rfl h
    · rw [thwK_out q] at h
      rcases g.nw a h with z | z | z
      · rw [frzK_out q] at z; exact .inl z
      · exact .inr z
      · exact absurd z (hA a)
  exact ⟨⟨d.ev.keep ff hh nw, fh, d.dk.move ff fun a o ha _ hH => ⟨thwK_in ha, hh a o hH⟩, d.no⟩, Gr.ext ff fh hh nw⟩
end
section
variable {X : Cx} {Z : DkZ} {Γ Γ1 Γz : Gm} {S S1 S' : DkS} {e c : Expr} {es : List Expr} {d : PyData} {p : Bool} {pos ap np : Pos} {n : Nat} {y m : Str} {kk k j : Nat} {C CE : Addr} {ps : List Str} {as : List PyData} {R : Int → DkS → List PyData → Option DkS → Prop} {W : WX}
/-- a test that reads it: what else it reads is no list of the frame's own -/
theorem etK_frz (n : Nat) (Γz : Gm) (hΓ : Γ[n]? = some (some (.ad (.ref Z.p)))) (hz : Less Γz Γ) (hn : noOwn Γz) (h : Et X (Γz.set n (some (.im (deskD Z.C Z.halls S.1 S.2)))) c p (Γz.set n (some (.im (deskD Z.C Z.halls S.1 S.2))))) : EtK X Z Γ S c p Γ :=
  pt_imp h fun σ H Q ⟨F, dd, k⟩ => ⟨frzK F H Z, frzK_env hΓ hz hn dd, frzK_fh dd.xt, fun F' H' g e' => by
    obtain ⟨a1, a2⟩ := thawK dd g fun _ => (set_noOwn hn).no
    exact k _ H' a2 a1⟩
/-- what a method that changes it promises -/
def spK (K : PySem.W.Frag) (C CE : Addr) (R : Int → DkS → List PyData → Option DkS → Prop) : Sp := fun vs H Q E => ∃ (F : Hp) (Z : DkZ) (S : DkS) (as : List PyData) (ws : List V) (o : Option DkS), Z.C = C ∧ vs = .ref Z.p :: ws ∧ Ext F H ∧ Dk F H Z S ∧ DdA K F ws as ∧ R Z.halls S as o ∧
  (∀ S', o = some S' → ∀ F' H', Gr F H (Dt Z) F' H' (Dt Z) → Dk F' H' Z S' → Q .non H') ∧ (o = none → ∀ F' H', Gr F H (Dt Z) F' H' (Dt Z) → Dk F' H' Z S → E (.ref CE) none H')
structure MeK (P : Program) (w : World) (K : PySem.W.Frag) (mg : Str → Option Value) (base : Heap) (k : Nat) (C : Addr) (m : Str) (ps : List Str) (CE : Addr) (R : Int → DkS → List PyData → Option DkS → Prop) : Prop where
  ex : ∃ g fd, Meth K C m g ∧ L2.Binds K fd ps [] ∧ FnOk P w K mg base (L2.CX P w) k g fd ps (spK K C CE R)
/-- o.m(e, ..) whose error reaches the wish -/
theorem pe_methE {g : Addr} {fd : FuncData} {sp : Sp} {ta : TE} {t : TA} {o : Expr} {pl : Sem Bool} (tk : Takes X W) (he : PE X o ta) (c : Cls X.K C) (hm : Meth X.K C m g) (F : FnOk X.prog X.w X.K X.mg X.base (L2.CX X.prog X.w) k g fd ps sp) (hr : Room k X.A) (hb : Binds X.K fd ps []) (ha : PA X (e :: es) t)
    (hst : starEach (e :: es) X.env = (false, eval e X.env) :: starEach es X.env := by rfl) (hpl : (backTo pos (starEach es X.env)).any (·.1) = false := by rfl)
    (ht : eval (.Call (.Attribute o m ap) (e :: es) [] pos) X.env = (do
      let ov ← eval o X.env
      standAt ap.atName
      let (f, first) ← holding [ov] (getMethod ov m pl)
      callWith pos f first (backTo pos (starEach (e :: es) X.env)) (backToKw pos (keywordEach [] X.env))) := by rfl) :
    PE X (.Call (.Attribute o m ap) (e :: es) [] pos) (fun σ H Q => ta σ H fun x H1 => ∃ a dx fs, x = .ref a ∧ H1 a = some (.ins C dx fs) ∧ fs.lookup m = none ∧ t σ H1 fun vs H2 => sp (x :: vs) H2 Q (WE W σ)) := by
  refine ⟨fun pn s σ H Q I hw => ?_⟩
  refine PySem.W.methodCall_KW (pl := pl) (thn (he.run pn s σ H _ I hw) fun u s1 ⟨x, H1, I1, rx, a, dx, fs, ex, ea, l, q⟩ => ?_) ht
  subst ex
  cases (show u = Value.ref a from rx)
  refine getmeth_ok I1 ea c hm l ?_
  refine PySem.W.callWith_K (first := [.ref a]) (h₀ := X.base) I.ok.mod.kin hm.kp (thn (ha.run pos pn s1 σ H1 _ I1 q) fun us s2 ⟨vs, H2, I2, r, q2⟩ => ⟨I2.kIn, ?_⟩) hst hpl
  exact run_fnS (E := WE W) (us := .ref a :: us) (vs := .ref a :: vs) F hr hb (passAt tk σ) I2 (.cons rfl r) q2
theorem pe_methE0 {g : Addr} {fd : FuncData} {sp : Sp} {ta : TE} {o : Expr} {pl : Sem Bool} (tk : Takes X W) (he : PE X o ta) (c : Cls X.K C) (hm : Meth X.K C m g) (F : FnOk X.prog X.w X.K X.mg X.base (L2.CX X.prog X.w) k g fd ps sp) (hr : Room k X.A) (hb : Binds X.K fd ps [])
    (ht : eval (.Call (.Attribute o m ap) [] [] pos) X.env = (do
      let ov ← eval o X.env
      standAt ap.atName
      let (f, first) ← holding [ov] (getMethod ov m pl)
      callWith pos f first (backTo pos (starEach [] X.env)) (backToKw pos (keywordEach [] X.env))) := by rfl) :
    PE X (.Call (.Attribute o m ap) [] [] pos) (fun σ H Q => ta σ H fun x H1 => ∃ a dx fs, x = .ref a ∧ H1 a = some (.ins C dx fs) ∧ fs.lookup m = none ∧ sp [x] H1 Q (WE W σ)) := by
  refine ⟨fun pn s σ H Q I hw => ?_⟩
  refine PySem.W.methodCall_KW (pl := pl) (thn (he.run pn s σ H _ I hw) fun u s1 ⟨x, H1, I1, rx, a, dx, fs, ex, ea, l, q⟩ => ?_) ht
  subst ex
  cases (show u = Value.ref a from rx)
  refine getmeth_ok I1 ea c hm l ?_
  exact PySem.W.callWith_K0 (first := [.ref a]) I1.kIn hm.kp (run_fnS (E := WE W) (us := [.ref a]) (vs := [.ref a]) F hr hb (passAt tk σ) I1 (.cons rfl .nil) q)
theorem eeK_meth {pl : Sem Bool} (M : MeK X.prog X.w X.K X.mg X.base k C m ps CE R) (hC : Z.C = C) (c : Cls X.K C) (hr : Room j X.A) (hx : PE X (.Name y np) (tVar n)) (hΓ : Γ[n]? = some (some (.ad (.ref Z.p)))) (ha : EaK X Z Γ S (e :: es) as Γ1 S1) (hR : R Z.halls S1 as (some S')) (hj : k ≤ j := by decide) (hlk : ∀ h a b, (deskF h a b).lookup m = none := by intros; rfl)
    (hst : starEach (e :: es) X.env = (false, eval e X.env) :: starEach es X.env := by rfl) (hpl : (backTo pos (starEach es X.env)).any (·.1) = false := by rfl)
    (ht : eval (.Call (.Attribute (.Name y np) m ap) (e :: es) [] pos) X.env = (do
      let ov ← eval (.Name y np) X.env
      standAt ap.atName
      let (f, first) ← holding [ov] (getMethod ov m pl)
      callWith pos f first (backTo pos (starEach (e :: es) X.env)) (backToKw pos (keywordEach [] X.env))) := by rfl) :
    EeK X Z Γ S (.Call (.Attribute (.Name y np) m ap) (e :: es) [] pos) .none Γ1 S' := by
  obtain ⟨g, fd, hm, hb, hF⟩ := M.ex
  subst hC
  exact pe_imp (pe_meth (pl := pl) hx c hm hF (hr.mono hj) hb .nil passL ha hst hpl ht) fun σ H Q ⟨F, dd, k⟩ => ⟨.ref Z.p, ad_at hΓ dd.ev, Z.p, Z.dx, _, rfl, dd.dk.hp, hlk _ _ _, F, dd, fun vs F1 H1 g1 d1 dv => by
    show spK X.K Z.C CE R (.ref Z.p :: (vs ++ [])) H1 Q _
    rw [List.append_nil]
    exact ⟨F1, Z, S1, as, vs, some S', rfl, rfl, d1.xt, d1.dk, dv, hR, fun S'' es F' H' g' dk' => by
      cases es
      exact k .non F' H' (g1.trans (d1.other g' dk').2) (d1.other g' dk').1 .non, fun z => by cases z⟩⟩
theorem eeK_meth0 {pl : Sem Bool} (M : MeK X.prog X.w X.K X.mg X.base k C m ps CE R) (hC : Z.C = C) (c : Cls X.K C) (hr : Room j X.A) (hx : PE X (.Name y np) (tVar n)) (hΓ : Γ[n]? = some (some (.ad (.ref Z.p)))) (hR : R Z.halls S [] (some S')) (hj : k ≤ j := by decide) (hlk : ∀ h a b, (deskF h a b).lookup m = none := by intros; rfl)
    (ht : eval (.Call (.Attribute (.Name y np) m ap) [] [] pos) X.env = (do
      let ov ← eval (.Name y np) X.env
      standAt ap.atName
      let (f, first) ← holding [ov] (getMethod ov m pl)
      callWith pos f first (backTo pos (starEach [] X.env)) (backToKw pos (keywordEach [] X.env))) := by rfl) :
    EeK X Z Γ S (.Call (.Attribute (.Name y np) m ap) [] [] pos) .none Γ S' := by
  obtain ⟨g, fd, hm, hb, hF⟩ := M.ex
  subst hC
  exact pe_imp (pe_meth0 (pl := pl) hx c hm hF (hr.mono hj) hb .nil passL ht) fun σ H Q ⟨F, dd, k⟩ => ⟨.ref Z.p, ad_at hΓ dd.ev, Z.p, Z.dx, _, rfl, dd.dk.hp, hlk _ _ _,
    F, Z, S, [], [], some S', rfl, rfl, dd.xt, dd.dk, .nil, hR, fun S'' es F' H' g' dk' => by
      cases es
      exact k .non F' H' (dd.other g' dk').2 (dd.other g' dk').1 .non, fun z => by cases z⟩
theorem exK_meth {pl : Sem Bool} (tk : Takes X W) (M : MeK X.prog X.w X.K X.mg X.base k C m ps CE R) (hC : Z.C = C) (c : Cls X.K C) (hr : Room j X.A) (hx : PE X (.Name y np) (tVar n)) (hΓ : Γ[n]? = some (some (.ad (.ref Z.p)))) (ha : EaK X Z Γ S (e :: es) as Γ1 S) (hR : R Z.halls S as none) (hj : k ≤ j := by decide) (hlk : ∀ h a b, (deskF h a b).lookup m = none := by intros; rfl)
    (hst : starEach (e :: es) X.env = (false, eval e X.env) :: starEach es X.env := by rfl) (hpl : (backTo pos (starEach es X.env)).any (·.1) = false := by rfl)
    (ht : eval (.Call (.Attribute (.Name y np) m ap) (e :: es) [] pos) X.env = (do
      let ov ← eval (.Name y np) X.env
      standAt ap.atName
      let (f, first) ← holding [ov] (getMethod ov m pl)
      callWith pos f first (backTo pos (starEach (e :: es) X.env)) (backToKw pos (keywordEach [] X.env))) := by rfl) :
    ExK X Z Γ S (.Call (.Attribute (.Name y np) m ap) (e :: es) [] pos) CE Γ1 W := by
  obtain ⟨g, fd, hm, hb, hF⟩ := M.ex
  subst hC
  exact pe_imp (pe_methE (pl := pl) tk hx c hm hF (hr.mono hj) hb ha hst hpl ht) fun σ H Q ⟨F, dd, k⟩ => ⟨.ref Z.p, ad_at hΓ dd.ev, Z.p, Z.dx, _, rfl, dd.dk.hp, hlk _ _ _, F, dd, fun vs F1 H1 g1 d1 dv =>
    ⟨F1, Z, S, as, vs, none, rfl, rfl, d1.xt, d1.dk, dv, hR, (fun S'' es => by cases es), fun _ F' H' g' dk' => k F' H' (g1.trans (d1.other g' dk').2) (d1.other g' dk').1⟩⟩
theorem exK_meth0 {pl : Sem Bool} (tk : Takes X W) (M : MeK X.prog X.w X.K X.mg X.base k C m ps CE R) (hC : Z.C = C) (c : Cls X.K C) (hr : Room j X.A) (hx : PE X (.Name y np) (tVar n)) (hΓ : Γ[n]? = some (some (.ad (.ref Z.p)))) (hR : R Z.halls S [] none) (hj : k ≤ j := by decide) (hlk : ∀ h a b, (deskF h a b).lookup m = none := by intros; rfl)
    (ht : eval (.Call (.Attribute (.Name y np) m ap) [] [] pos) X.env = (do
      let ov ← eval (.Name y np) X.env
      standAt ap.atName
      let (f, first) ← holding [ov] (getMethod ov m pl)
      callWith pos f first (backTo pos (starEach [] X.env)) (backToKw pos (keywordEach [] X.env))) := by rfl) :
    ExK X Z Γ S (.Call (.Attribute (.Name y np) m ap) [] [] pos) CE Γ W := by
  obtain ⟨g, fd, hm, hb, hF⟩ := M.ex
  subst hC
  exact pe_imp (pe_methE0 (pl := pl) tk hx c hm hF (hr.mono hj) hb ht) fun σ H Q ⟨F, dd, k⟩ => ⟨.ref Z.p, ad_at hΓ dd.ev, Z.p, Z.dx, _, rfl, dd.dk.hp, hlk _ _ _,
    F, Z, S, [], [], none, rfl, rfl, dd.xt, dd.dk, .nil, hR, (fun S'' es => by cases es), fun _ F' H' g' dk' => k F' H' (dd.other g' dk').2 (dd.other g' dk').1⟩
end
/-! ### a method by its body -/
def slotsK (N : List Str) (Z : DkZ) (as : List PyData) : Gm := (slots0 N (.none :: as)).set 0 (some (.ad (.ref Z.p)))
section
variable {K : PySem.W.Frag} {F H : Hp} {N : List Str} {Z : DkZ} {S : DkS} {ws : List V} {as : List PyData}
theorem slotsK_noOwn : noOwn (slotsK N Z as) := fun i s q => by
  rcases get_set_some q with ⟨_, e, _⟩ | ⟨_, q2⟩
  · rw [← Option.some.inj e]; rfl
  · exact im_of (slots_im q2)
theorem ds_start (x : Ext F H) (d : Dk F H Z S) (h : DdA K F ws as) (hl : as.length + 1 ≤ N.length) : DS K F H (L2.start N (.ref Z.p :: ws)) (slotsK N Z as) Z S := by
  have e0 := env_start (N := N) (H := H) (vs := .non :: ws) (ds := .none :: as) (.cons .non h) (by simpa using hl)
  refine ⟨⟨?_, fun i s q => ?_, fun i j s u a b _ hs _ _ _ => by rw [slotsK_noOwn i s b] at hs; cases hs⟩, x, d, slotsK_noOwn.no⟩
  · have := e0.len
    unfold slotsK
    rw [List.length_set]
    rw [← this]
    rfl
  · rcases get_set_some q with ⟨rfl, e, _⟩ | ⟨ne, q2⟩
    · rw [← Option.some.inj e]
      exact ⟨.ref Z.p, rfl, rfl⟩
    · cases i with
      | zero => exact absurd rfl ne
      | succ i => exact e0.ats (i + 1) s q2
end
def EzK (X : Cx) (Z : DkZ) (Γ : Gm) (S : DkS) (sts : List Stmt) (S' : DkS) : Prop := ∃ Γ', EssK X Z Γ S sts Γ' S'
theorem im_slots {s : Slot} (h : isOw s = true) {Γ : Gm} (hn : noOwn Γ) {i : Nat} (q : Γ[i]? = some (some s)) : False := by rw [hn i s q] at h; cases h
theorem meK_mk {P : Program} {w : World} {K : PySem.W.Frag} {mg : Str → Option Value} {base : Heap} {k : Nat} {C CE g : Addr} {m qual : Str} {ps N : List Str} {st : Stmt} {fd : FuncData} {R : Int → DkS → List PyData → Option DkS → Prop} (hm : Meth K C m g) (F : Fun K m qual st g fd) (hb : L2.Binds K fd ps []) (S0 : FnScope N ps (defScope st)) (hlen : ∀ h S as o, R h S as o → as.length + 1 = ps.length)
    (hyes : ∀ (cdv : Value) (A : Around) (outer : List Env) (s : Shared) (H : Hp) (E : XK) (Z : DkZ) (S : DkS) (as : List PyData) (S' : DkS), Room k (A.deeper (envOfC qual (defScope st) s.heap.objs.size g cdv)) → Z.C = C → R Z.halls S as (some S') →
      EzK (cxOf (L2.CX P w) P w K mg base N qual (defScope st) g cdv A outer s H E).nox Z (slotsK N Z as) S (defBody st) S')
    (hno : ∀ (cdv : Value) (A : Around) (outer : List Env) (s : Shared) (H : Hp) (E : XK) (Z : DkZ) (S : DkS) (as : List PyData), Room k (A.deeper (envOfC qual (defScope st) s.heap.objs.size g cdv)) → Z.C = C → R Z.halls S as none →
      RxK (cxOf (L2.CX P w) P w K mg base N qual (defScope st) g cdv A outer s H E) Z (slotsK N Z as) S (defBody st) CE E) : MeK P w K mg base (k + 1) C m ps CE R := by
  have hpl : ps.length ≤ N.length := by have := congrArg List.length S0.pre; rw [List.length_take] at this; omega
  refine ⟨g, fd, hm, hb, F.okX S0 (fun vs H Q E h => ?_) (fun cdv A outer s H vs Q E hr h => ?_)⟩
  · obtain ⟨F, Z, S, as, ws, o, _, rfl, _, _, hA, hR, _⟩ := h
    rw [List.length_cons, hA.len]; exact hlen _ _ _ _ hR
  · obtain ⟨F, Z, S, as, ws, o, hC, rfl, xt, dk, hA, hR, q1, q2⟩ := h
    have d0 := ds_start (N := N) xt dk hA (by rw [hlen _ _ _ _ hR]; exact hpl)
    have down : ∀ {σ' : L2.St} {Γ' : Gm} {F' H' : Hp}, Gr F H (AD (L2.start N (.ref Z.p :: ws)) (slotsK N Z as) Z) F' H' (AD σ' Γ' Z) → Gr F H (Dt Z) F' H' (Dt Z) := fun {σ' Γ' F' H'} g =>
      ⟨g.ff, g.fh, fun a o h => (g.hh a o h).imp id fun z => z.resolve_left slotsK_noOwn.no, fun a h => (g.nw a h).imp id (Or.imp id fun z => z.resolve_left slotsK_noOwn.no), fun a h => .inl h⟩
    cases o with
    | some S' =>
      obtain ⟨Γ', ho⟩ := hyes cdv A outer s H E Z S as S' hr hC hR
      exact ⟨_, PSs.nox ho, F, d0, fun σ' F' H' g d' => q1 S' rfl F' H' (down g) d'.dk⟩
    | none => exact ⟨_, hno cdv A outer s H E Z S as hr hC hR, F, d0, fun σ' Γ' F' H' g d' => q2 rfl F' H' (down g) d'.dk⟩
end DL
end

section
/-! Such an instance's dict and list, changed by its own methods. -/
namespace DL
open PySem PySem.Spec PyProof.Rows L2
section
variable {K : PySem.W.Frag} {F H : Hp} {σ : L2.St} {Γ : Gm} {Z : DkZ} {S : DkS}
theorem Dk.pj (d : Dk F H Z S) : Z.p ≠ Z.dj := fun z => by
  obtain ⟨es, h, _⟩ := d.hj
  have h2 := d.hp
  rw [z, h] at h2; cases h2
theorem Dk.pl (d : Dk F H Z S) : Z.p ≠ Z.dl := fun z => by
  obtain ⟨xs, h, _⟩ := d.hl
  have h2 := d.hp
  rw [z, h] at h2; cases h2
theorem Dk.jl (d : Dk F H Z S) : Z.dj ≠ Z.dl := fun z => by
  obtain ⟨xs, h, _⟩ := d.hl
  obtain ⟨es, h2, _⟩ := d.hj
  rw [z, h] at h2; cases h2
theorem gr_one {A : Addr → Prop} (x : Ext F H) {a : Addr} {o : HO} (hF : F a = none) (hA : A a) : Gr F H A F (upd H a o) A :=
  ⟨Ext.refl F, x.mut hF, fun b u h => by
    by_cases q : b = a
    · subst q; exact .inr hA
    · rw [upd_ne q]; exact .inl h, fun b h => .inl h, fun b h => .inl h⟩
theorem DS.chJ (d : DS K F H σ Γ Z S) {es : JEs} (h : ∀ e ∈ es, TwoAt F e.2 e.1) : DS K F (upd H Z.dj (joinO Z.dj es)) σ Γ Z (es.map (·.1), S.2) ∧ Gr F H (AD σ Γ Z) F (upd H Z.dj (joinO Z.dj es)) (AD σ Γ Z) := by
  obtain ⟨xs, l1, l2⟩ := d.dk.hl
  exact d.other (gr_one d.xt d.dk.fj (.inl rfl)) ⟨d.dk.fp, d.dk.fj, d.dk.fl, by rw [upd_ne d.dk.pj]; exact d.dk.hp, ⟨es, upd_same, rfl, h⟩, ⟨xs, by rw [upd_ne d.dk.jl.symm]; exact l1, l2⟩⟩
theorem DS.chL (d : DS K F H σ Γ Z S) {xs : List V} {dn : List (Int × Int)} (h : Paired (TwoV F) xs dn) : DS K F (upd H Z.dl (.lst xs)) σ Γ Z (S.1, dn) ∧ Gr F H (AD σ Γ Z) F (upd H Z.dl (.lst xs)) (AD σ Γ Z) := by
  obtain ⟨es, h1, h2, h3⟩ := d.dk.hj
  exact d.other (gr_one d.xt d.dk.fl (.inr rfl)) ⟨d.dk.fp, d.dk.fj, d.dk.fl, by rw [upd_ne d.dk.pl]; exact d.dk.hp, ⟨es, by rw [upd_ne d.dk.jl]; exact h1, h2, h3⟩, ⟨xs, upd_same, h⟩⟩
theorem Dk.kys (d : Dk F H Z S) (x : Ext F H) {es : JEs} (h : ∀ e ∈ es, TwoAt F e.2 e.1) : KysJ H es := fun e he => (h e he).ky x
theorem out_keys (es : JEs) (p : Int × Int) : (outJ es p).map (·.1) = (es.map (·.1)).filter fun q => decide (q ≠ p) := by
  unfold outJ
  induction es with
  | nil => rfl
  | cons e es ih =>
    rw [List.filter_cons, List.map_cons, List.filter_cons]
    by_cases h : e.1 = p
    · rw [if_neg (by simp [h]), if_neg (by simp [h])]; exact ih
    · rw [if_pos (by simpa using h), if_pos (by simpa using h), List.map_cons, ih]
theorem paired_last {α β : Type} {R : α → β → Prop} : ∀ {m : List β} {l : List α} {y : β}, Paired R l (m ++ [y]) → ∃ l' x, l = l' ++ [x] ∧ Paired R l' m ∧ R x y
  | [], l, y, h => by
    cases h with
    | cons r t => cases t; exact ⟨[], _, rfl, .nil, r⟩
  | z :: m, l, y, h => by
    cases h with
    | cons r t =>
      obtain ⟨l', x, rfl, h1, h2⟩ := paired_last t
      exact ⟨_ :: l', x, rfl, .cons r h1, h2⟩
end
section
variable {X : Cx} {Z : DkZ} {Γ Γ1 : Gm} {S : DkS} {a e : Expr} {pr : Int × Int} {n kk : Nat} {y : Str} {pos ap np cpos tpos : Pos} {ks dn : List (Int × Int)}
/-- pair in self._joined -/
theorem etK_inJ (D : DeskC X.K Z.C) (hr : Room kk X.A) (ha : Ee X Γ a (twoP pr) Γ) (hx : PE X (.Name y np) (tVar n)) (hΓ : Γ[n]? = some (some (.ad (.ref Z.p)))) (hm : behindInMarks .In (.Attribute (.Name y np) "_joined" ap) = false := by with_unfolding_all rfl)
    (hb : attributeBase (.Name y np) "_joined" X.env (eval (.Name y np) X.env) = eval (.Name y np) X.env := by rfl) : EtK X Z Γ S (.Compare a [.In] [.Attribute (.Name y np) "_joined" ap] pos) (decide (pr ∈ S.1)) Γ :=
  pt_imp (pt_cmpR (op_inJ (by have := hr.un; omega)) ha (pe_fld hx hb) hm) fun σ H Q ⟨F, dd, k⟩ => ⟨F, dd.ev, dd.xt, fun v F1 H1 g1 e1 dv => by
    obtain ⟨d1, g2⟩ := dd.grow g1 e1
    obtain ⟨b, rfl, tb⟩ := pair_of dv
    obtain ⟨es, h1, h2, h3⟩ := d1.dk.hj
    refine ⟨.ref Z.p, ad_at hΓ e1, Z.p, Z.C, Z.dx, _, .ref Z.dj, rfl, d1.dk.hp, D.cls, D.n2, rfl, Z.dj, b, es, pr, rfl, rfl, h1, d1.dk.kys d1.xt h3, tb.ky d1.xt, _, rfl, ?_⟩
    rw [h2]
    exact k F1 H1 g2 d1⟩
/-- del self._joined[pair] -/
theorem esK_delJ (D : DeskC X.K Z.C) (hr : Room kk X.A) (ha : Ee X Γ a (twoP pr) Γ) (hx : PE X (.Name y np) (tVar n)) (hΓ : Γ[n]? = some (some (.ad (.ref Z.p)))) (hm : pr ∈ S.1) (hb : attributeBase (.Name y np) "_joined" X.env (eval (.Name y np) X.env) = eval (.Name y np) X.env := by rfl) :
    EsK X Z Γ S (.Delete [.Subscript (.Attribute (.Name y np) "_joined" ap) a tpos] pos) Γ (S.1.filter (fun q => decide (q ≠ pr)), S.2) :=
  ps_imp (ps_delJ (by have := hr.un; omega) (pe_fld hx hb) ha) fun Dn σ H ⟨F, dd, k⟩ => by
    obtain ⟨es0, j1, _, _⟩ := dd.dk.hj
    refine ⟨.ref Z.p, ad_at hΓ dd.ev, Z.p, Z.C, Z.dx, _, .ref Z.dj, rfl, dd.dk.hp, D.cls, D.n2, rfl, F, dd.ev, dd.xt, fun v F1 H1 g1 e1 dv => ?_⟩
    obtain ⟨d1, g2⟩ := dd.grow g1 e1
    obtain ⟨b, rfl, tb⟩ := pair_of dv
    obtain ⟨es, h1, h2, h3⟩ := d1.dk.hj
    refine ⟨Z.dj, b, es, pr, rfl, rfl, h1, d1.dk.kys d1.xt h3, tb.ky d1.xt, by rw [h2]; exact hm, ?_⟩
    obtain ⟨d2, g3⟩ := d1.chJ (es := outJ es pr) fun e he => h3 e (List.mem_filter.mp he).1
    rw [out_keys, h2] at d2
    exact k σ F1 _ (g2.trans g3) d2
/-- self._joined[pair] = True -/
theorem esK_setJ {j : Nat} {p2 : Pos} (D : DeskC X.K Z.C) (hr : Room kk X.A) (ha : Ee X Γ a (twoP pr) Γ) (hx : PE X (.Name y np) (tVar n)) (hΓ : Γ[n]? = some (some (.ad (.ref Z.p)))) (hm : pr ∉ S.1) (hz : S.1.length < 65536) (hb : attributeBase (.Name y np) "_joined" X.env (eval (.Name y np) X.env) = eval (.Name y np) X.env := by rfl)
    (hq : ∀ v, assign (.Subscript (.Attribute (.Name y np) "_joined" ap) a tpos) X.env v = (do
      let ov ← holding [v] (eval (.Attribute (.Name y np) "_joined" ap) X.env)
      let iv ← holding [v, ov] (eval a X.env)
      standAt tpos
      holding [v, ov, iv] (setItem ov iv v)
      release [v, ov, iv] []) := by intro _; rfl)
    (hs : swapsWithSole [.Subscript (.Attribute (.Name y np) "_joined" ap) a tpos] (.Constant (.bool true) j p2) pos.line X.env = pure false := by rfl) (hw : swappedStores [.Subscript (.Attribute (.Name y np) "_joined" ap) a tpos] (.Constant (.bool true) j p2) X.env = pure none := by rfl)
    (h1 : (assignEach [.Subscript (.Attribute (.Name y np) "_joined" ap) a tpos] X.env).map (·.2) = [assign (.Subscript (.Attribute (.Name y np) "_joined" ap) a tpos) X.env] := by rfl) :
    EsK X Z Γ S (.Assign [.Subscript (.Attribute (.Name y np) "_joined" ap) a tpos] (.Constant (.bool true) j p2) pos) Γ (S.1 ++ [pr], S.2) :=
  ps_imp (ps_asg pe_bl (pg_sub (pe_fld hx hb) ha (set_J (by have := hr.un; omega)) hq) hs hw h1) fun Dn σ H ⟨F, dd, k⟩ => by
    refine ⟨.ref Z.p, ad_at hΓ dd.ev, Z.p, Z.C, Z.dx, _, .ref Z.dj, rfl, dd.dk.hp, D.cls, D.n2, rfl, F, dd.ev, dd.xt, fun v F1 H1 g1 e1 dv => ?_⟩
    obtain ⟨d1, g2⟩ := dd.grow g1 e1
    obtain ⟨b, rfl, tb⟩ := pair_of dv
    obtain ⟨es, h1, h2, h3⟩ := d1.dk.hj
    have hl : es.length = S.1.length := by rw [← h2, List.length_map]
    refine ⟨Z.dj, b, es, pr, rfl, rfl, rfl, h1, d1.dk.kys d1.xt h3, tb.ky d1.xt, by rw [h2]; exact hm, by rw [hl, sizeLine_eq]; omega, ?_⟩
    obtain ⟨d2, g3⟩ := d1.chJ (es := es ++ [(pr, b)]) fun e he => (List.mem_append.mp he).elim (h3 e) fun z => by rw [List.mem_singleton.mp z]; exact tb
    rw [List.map_append, h2] at d2
    exact k σ F1 _ (g2.trans g3) d2
/-- self._done.append(e) -/
theorem esK_appD (D : DeskC X.K Z.C) (he : Ee X Γ e (twoP pr) Γ) (hx : PE X (.Name y np) (tVar n)) (hΓ : Γ[n]? = some (some (.ad (.ref Z.p)))) (hz : S.2.length < 65536) (hb : attributeBase (.Name y np) "_done" X.env (eval (.Name y np) X.env) = eval (.Name y np) X.env := by rfl)
    (hbase : attributeBase (.Attribute (.Name y np) "_done" ap) "append" X.env (eval (.Attribute (.Name y np) "_done" ap) X.env) = eval (.Attribute (.Name y np) "_done" ap) X.env := by rfl)
    (hfew : ((backTo cpos (starEach [e] X.env)).all (fun x => !x.1) && (backToKw cpos (keywordEach [] X.env)).all (fun x => x.1.isSome) && decide ([e].length + ([] : List Keyword).length + (if ([] : List Keyword).isEmpty then 0 else 1) < 30)) = true := by rfl)
    (hline : (tpos.endLine == cpos.line) = true := by rfl) (hs : starEach [e] X.env = (false, eval e X.env) :: starEach [] X.env := by rfl) (hplain : (backTo cpos (starEach [] X.env)).any (·.1) = false := by rfl) (hsw : swapsWith (.Call (.Attribute (.Attribute (.Name y np) "_done" ap) "append" tpos) [e] [] cpos) none pos.line X.env = pure false := by rfl) :
    EsK X Z Γ S (.Expr (.Call (.Attribute (.Attribute (.Name y np) "_done" ap) "append" tpos) [e] [] cpos) pos) Γ (S.1, S.2 ++ [pr]) :=
  ps_imp (ps_expr (pe_bm PySem.F.plainAttrs_list PySem.F.slot_list_append PySem.F.type_list_append mt_append (pe_fld hx hb) (pa_cons he pa_nil hs) hbase hfew hline hs hplain) hsw) fun Dn σ H ⟨F, dd, k⟩ => by
    obtain ⟨xs0, l0, _⟩ := dd.dk.hl
    refine ⟨.ref Z.p, ad_at hΓ dd.ev, Z.p, Z.C, Z.dx, _, .ref Z.dl, rfl, dd.dk.hp, D.cls, D.n3, rfl, .inl ⟨rfl, xs0, SqL.of l0⟩, F, dd.ev, dd.xt, fun v F1 H1 g1 e1 dv => ?_⟩
    obtain ⟨d1, g2⟩ := dd.grow g1 e1
    obtain ⟨b, rfl, tb⟩ := pair_of dv
    obtain ⟨xs, l1, l2⟩ := d1.dk.hl
    refine ⟨Z.dl, xs, .ref b, rfl, rfl, l1, by rw [Paired.length l2, sizeLine_eq]; omega, ?_⟩
    obtain ⟨d2, g3⟩ := d1.chL (xs := xs ++ [.ref b]) (dn := S.2 ++ [pr]) (paired_snoc ⟨b, rfl, tb⟩ l2)
    exact k σ F1 _ (g2.trans g3) d2
/-- self._done.pop() -/
theorem eeK_popD (D : DeskC X.K Z.C) (hx : PE X (.Name y np) (tVar n)) (hΓ : Γ[n]? = some (some (.ad (.ref Z.p)))) (hb : attributeBase (.Name y np) "_done" X.env (eval (.Name y np) X.env) = eval (.Name y np) X.env := by rfl)
    (hbase : attributeBase (.Attribute (.Name y np) "_done" ap) "pop" X.env (eval (.Attribute (.Name y np) "_done" ap) X.env) = eval (.Attribute (.Name y np) "_done" ap) X.env := by rfl) (hline : (tpos.endLine == cpos.line) = true := by rfl) :
    EeK X Z Γ (ks, dn ++ [pr]) (.Call (.Attribute (.Attribute (.Name y np) "_done" ap) "pop" tpos) [] [] cpos) (twoP pr) Γ (ks, dn) :=
  pe_imp (pe_bm0 PySem.F.plainAttrs_list PySem.F.slot_list_pop PySem.F.type_list_pop (fun pn s σ H x xs v us Q => mt_pop pn s σ H x xs v us Q) (pe_fld hx hb) hbase hline) fun σ H Q ⟨F, dd, k⟩ => by
    obtain ⟨xs, l1, l2⟩ := dd.dk.hl
    obtain ⟨xs', x, rfl, l3, b, rfl, tb⟩ := paired_last l2
    refine ⟨.ref Z.p, ad_at hΓ dd.ev, Z.p, Z.C, Z.dx, _, .ref Z.dl, rfl, dd.dk.hp, D.cls, D.n3, rfl, .inl ⟨rfl, _, SqL.of l1⟩, Z.dl, _, .ref b, rfl, rfl, l1, by simp, ?_⟩
    obtain ⟨d2, g3⟩ := dd.chL (xs := xs') (dn := dn) l3
    rw [List.dropLast_concat]
    exact k (.ref b) F _ g3 d2 (dd_two tb)
end
end DL
end

section
/-! Such an instance made: its __init__, the call of its class, the names that are stored beside it. -/
namespace DL
open PySem PySem.Spec PyProof.Rows L2
/-- what its __init__ does: o is the number, none an error -/
def spI (K : PySem.W.Frag) (C CE : Addr) (R : PyData → Option Int → Prop) : Sp := fun vs H Q E => ∃ (F : Hp) (p dx : Addr) (v : V) (d : PyData) (o : Option Int), vs = [.ref p, v] ∧ H p = some (.ins C dx []) ∧ F p = none ∧ Ext F H ∧ Dd K F v d ∧ R d o ∧
  (∀ h, o = some h → ∀ F' H' Z, Z.p = p → Z.C = C → Z.halls = h → Dk F' H' Z ([], []) → H Z.dj = none → H Z.dl = none → Gr F H (fun a => a = p) F' H' (fun _ => False) → Q .non H') ∧
  (o = none → ∀ H', Ext H H' → E (.ref CE) none H')
structure MkK (P : Program) (w : World) (K : PySem.W.Frag) (mg : Str → Option Value) (base : Heap) (k : Nat) (x : Str) (C CE : Addr) (R : PyData → Option Int → Prop) : Prop where
  ex : ∃ g fd ps, mg x = some (.ref C) ∧ Mk K C g ∧ L2.Binds K fd ps [] ∧ FnOk P w K mg base (L2.CX P w) k g fd ps (spI K C CE R)
section
variable {K : PySem.W.Frag} {F H : Hp} {N : List Str} {Z : DkZ} {ws : List V} {as : List PyData}
theorem env_startK (h : DdA K F ws as) (hl : as.length + 1 ≤ N.length) : EnvOk K F H (L2.start N (.ref Z.p :: ws)) (slotsK N Z as) := by
  have e0 := env_start (N := N) (H := H) (vs := .non :: ws) (ds := .none :: as) (.cons .non h) (by simpa using hl)
  refine ⟨?_, fun i s q => ?_, fun i j s u a b _ hs _ _ _ => by rw [slotsK_noOwn i s b] at hs; cases hs⟩
  · have := e0.len
    unfold slotsK
    rw [List.length_set]
    rw [← this]
    rfl
  · rcases get_set_some q with ⟨rfl, e, _⟩ | ⟨ne, q2⟩
    · rw [← Option.some.inj e]
      exact ⟨.ref Z.p, rfl, rfl⟩
    · cases i with
      | zero => exact absurd rfl ne
      | succ i => exact e0.ats (i + 1) s q2
end
abbrev Zp (p : Addr) : DkZ := ⟨p, 0, 0, 0, 0, 0⟩
def tNewJ : TE := fun σ H Q => ∀ a, H a = none → Q (.ref a) (upd H a (joinO a []))
theorem mkK_mk {P : Program} {w : World} {K : PySem.W.Frag} {mg : Str → Option Value} {base : Heap} {k : Nat} {C CE g : Addr} {x qual : Str} {ps N : List Str} {st : Stmt} {fd : FuncData} {R : PyData → Option Int → Prop} (D : DeskC K C) (hmg : mg x = some (.ref C)) (hm : Mk K C g) (F : Fun K "__init__" qual st g fd) (hb : L2.Binds K fd ps []) (S0 : FnScope N ps (defScope st)) (hp : ps.length = 2)
    (hyes : ∀ (cdv : Value) (A : Around) (outer : List Env) (s : Shared) (H : Hp) (E : XK) (p : Addr) (d : PyData) (h : Int), Room k (A.deeper (envOfC qual (defScope st) s.heap.objs.size g cdv)) → R d (some h) → d = .int h ∧
      PSs (cxOf (L2.CX P w) P w K mg base N qual (defScope st) g cdv A outer s H E).nox (defBody st) (tSeq (tS K (slotsK N (Zp p) [d]) (.nx (slotsK N (Zp p) [d]))) (tSeq (sFld K (tVar 0) (tE K (slotsK N (Zp p) [d]) (.int h) (slotsK N (Zp p) [d])) "_halls") (tSeq (sFld K (tVar 0) tNewJ "_joined") (sFld K (tVar 0) (tLst tNil) "_done")))))
    (hno : ∀ (cdv : Value) (A : Around) (outer : List Env) (s : Shared) (H : Hp) (E : XK) (p : Addr) (d : PyData), Room k (A.deeper (envOfC qual (defScope st) s.heap.objs.size g cdv)) → R d none →
      Rx (cxOf (L2.CX P w) P w K mg base N qual (defScope st) g cdv A outer s H E) (slotsK N (Zp p) [d]) (defBody st) CE E) : MkK P w K mg base (k + 1) x C CE R := by
  have hpl : ps.length ≤ N.length := by have := congrArg List.length S0.pre; rw [List.length_take] at this; omega
  refine ⟨g, fd, ps, hmg, hm, hb, F.okX S0 (fun vs H Q E h => ?_) (fun cdv A outer s H vs Q E hr h => ?_)⟩
  · obtain ⟨F, p, dx, v, d, o, rfl, _⟩ := h
    exact hp.symm
  · obtain ⟨F, p, dx, v, d, o, rfl, hH, hF, xt, dv, hR, q1, q2⟩ := h
    have e0 : EnvOk K F H (L2.start N (.ref p :: [v])) (slotsK N (Zp p) [d]) := env_startK (Z := Zp p) (.cons dv .nil) (by show 2 ≤ N.length; omega)
    have no : ∀ {σ : L2.St} {a : Addr}, ¬ Own σ (slotsK N (Zp p) [d]) a := slotsK_noOwn.no
    have l0 : (slotsK N (Zp p) [d])[0]? = some (some (.ad (.ref p))) := rfl
    cases o with
    | none => exact ⟨_, hno cdv A outer s H E p d hr hR, F, e0, xt, fun σ' Γ' F' H' g' => q2 rfl H' (g'.ext_of fun a => no)⟩
    | some h =>
      obtain ⟨rfl, ho⟩ := hyes cdv A outer s H E p d h hr hR
      refine ⟨_, PSs.nox ho, F, e0, xt, fun σ1 F1 H1 g1 e1 => ⟨F1, e1, g1.fh, fun v2 F2 H2 g2 e2 dv2 => ?_⟩⟩
      cases dv2
      have g12 := (g1.trans g2).ext_of fun a => no
      have gF := g1.trans g2
      have k2 := gr_keep gF no hF hH
      have hx : σ1[0]? = some (some (.ref p)) := ad_at l0 e1
      refine ⟨.ref p, hx, p, C, dx, [], rfl, k2.2, D.cls, D.n1, by decide, fun dj hdj => ⟨.ref p, hx, p, C, dx, putF "_halls" (.int h) [], rfl, ?_, D.cls, D.n2, by show 1 < 1000; decide, by show 0 ≤ sizeLine; decide, fun dl hdl => ⟨.ref p, hx, p, C, dx, putF "_joined" (.ref dj) (putF "_halls" (.int h) []), rfl, ?_, D.cls, D.n3, by show 2 < 1000; decide, ?_⟩⟩⟩
      · have hne : p ≠ dj := fun z => by rw [← z, upd_same] at hdj; cases hdj
        rw [upd_ne hne, upd_same]
      · have hne : p ≠ dl := fun z => by rw [← z, upd_same] at hdl; cases hdl
        rw [upd_ne hne, upd_same]
      · have pj : p ≠ dj := fun z => by rw [← z, upd_same] at hdj; cases hdj
        have pl : p ≠ dl := fun z => by rw [← z, upd_same] at hdl; cases hdl
        have h2j : H2 dj = none := by rw [upd_ne pj.symm] at hdj; exact hdj
        have lj : dl ≠ dj := fun z => by rw [z, upd_ne pj.symm, upd_same] at hdl; cases hdl
        have h2l : H2 dl = none := by rw [upd_ne pl.symm, upd_ne lj, upd_ne pl.symm] at hdl; exact hdl
        have back : ∀ a, H2 a = none → H a = none := fun a z => by
          cases q : H a with
          | none => rfl
          | some o => rw [g12 a o q] at z; cases z
        have fin : ∀ {a : Addr} {o : HO}, H2 a = some o → a ≠ p → (upd (upd (upd (upd (upd H2 p (.ins C dx (putF "_halls" (.int h) []))) dj (joinO dj [])) p (.ins C dx (putF "_joined" (.ref dj) (putF "_halls" (.int h) [])))) dl (.lst [])) p (.ins C dx (putF "_done" (.ref dl) (putF "_joined" (.ref dj) (putF "_halls" (.int h) []))))) a = some o := fun {a o} q np => by
          rw [upd_ne np, upd_ne (ne_of_none q h2l), upd_ne np, upd_ne (ne_of_none q h2j), upd_ne np]; exact q
        refine q1 h rfl F2 _ ⟨p, dx, dj, dl, C, h⟩ rfl rfl rfl ⟨k2.1, gF.fh.free h2j, gF.fh.free h2l, upd_same, ⟨[], ?_, rfl, fun e he => by cases he⟩, ⟨[], ?_, .nil⟩⟩ (back _ h2j) (back _ h2l) ⟨gF.ff, fun a o q => ?_, fun a o q => ?_, fun a q => ?_, fun a z => z.elim⟩
        · show (upd (upd _ dl _) p _) dj = _
          rw [upd_ne pj.symm, upd_ne lj.symm, upd_ne pj.symm, upd_same]
        · show (upd (upd _ dl _) p _) dl = _
          rw [upd_ne pl.symm, upd_same]
        · refine fin (gF.fh a o q) fun z => ?_
          rw [z, k2.1] at q; cases q
        · by_cases z : a = p
          · exact .inr z
          · exact .inl (fin (g12 a o q) z)
        · exact (gF.nw a q).imp id fun z => .inl (z.resolve_right no)
section
variable {X : Cx} {Γ Γ1 Γ2 Γ3 Γ4 : Gm} {S : DkS} {e a b c : Expr} {es : List Expr} {d d2 d3 d4 : PyData} {x : Str} {p pos ap : Pos} {k j : Nat} {C CE : Addr} {R : PyData → Option Int → Prop} {W : WX} {rest : List Stmt}
/-- the class called, an error reaches the wish -/
theorem run_makeE {pn : List (Addr × Obj)} {σ : L2.St} {H : Hp} {s : Shared} {Q : VK} {us : List Value} {vs : List V} {g : Addr} {fd : FuncData} {ps : List Str} {sp : Sp} (tk : Takes X W) (M : Mk X.K C g) (F : FnOk X.prog X.w X.K X.mg X.base (L2.CX X.prog X.w) k g fd ps sp) (hr : Room (k + 1) X.A) (hb : Binds X.K fd ps []) (I : Inv X pn σ H s) (r : Vals vs us)
    (hw : ∀ x dx, H x = none → H dx = none → dx ≠ x → sp (.ref x :: vs) (upd (upd H dx (.own x)) x (.ins C dx [])) (fun v H2 => v = .non ∧ Q (.ref x) H2) (WE W σ)) : wpAny (model X.prog X.w) X.A (call (.ref C) us) (EP X pn σ Q) X.xe s := by
  have hq := hw (s.heap.objs.size + 1) s.heap.objs.size (I.hok.fresh (Nat.le_succ _)) (I.hok.fresh (Nat.le_refl _)) (Nat.ne_of_lt (Nat.lt_succ_self _))
  have J := Inv.made (C := C) I
  have rv : Vals (V.ref (s.heap.objs.size + 1) :: vs) (Value.ref (s.heap.objs.size + 1) :: us) := .cons rfl r
  have hl : (Value.ref (s.heap.objs.size + 1) :: us ++ []).length = ps.length := by
    rw [List.append_nil, ← rv.length]; exact F.len _ _ _ _ hq
  have hbi := hb _ (Value.ref (s.heap.objs.size + 1) :: us) J.kIn hl
  rw [List.append_nil] at hbi
  refine wpAny_call (make_map (f := g) I.kIn M.makes M.init (beq_iff_eq.mp M.fn) (codeAny_mono (F.run _ X.stack _ _ ⟨Value.ref (s.heap.objs.size + 1) :: us, []⟩ (Value.ref (s.heap.objs.size + 1) :: us) _ _ (WE W σ) (hr.make C us []) (J.env0.make C us []) hbi rv hq) fun out s' ho => ?_))
  cases out with
  | error er => exact passAt tk σ pn _ _ er s' J ho
  | ok fl =>
    cases fl with
    | ret u =>
      obtain ⟨v, H', J2, rvv, ev, q3⟩ := J.after ho
      subst ev
      exact ⟨rvv, ⟨V.ref (s.heap.objs.size + 1), H', J2, rfl, q3⟩⟩
    | next => exact False.elim ho
    | brk => exact False.elim ho
    | cont => exact False.elim ho
/-- C(e) raises -/
theorem exx_make (tk : Takes X W) (M : MkK X.prog X.w X.K X.mg X.base k x C CE R) (hr : Room j X.A) (he : Ee X Γ e d Γ1) (hR : R d none) (hj : k + 1 ≤ j := by decide) (hg : Gl X x := by rfl) (hdb : (x == ("__debug__" : Str)) = false := by decide)
    (hs : starEach [e] X.env = (false, eval e X.env) :: starEach [] X.env := by rfl) (hpl : (backTo pos (starEach [] X.env)).any (·.1) = false := by rfl) : Exx X Γ (.Call (.Name x p) [e] [] pos) CE Γ1 W := by
  obtain ⟨g, fd, ps, hm, mk, hb, hF⟩ := M.ex
  have hA : PA X [e] (tAs X.K Γ [d] Γ1) := ea_cons he ea_nil hs
  refine ⟨fun pn s σ H Q I hw => ?_⟩
  obtain ⟨F, ev, xt, kk⟩ := hw
  refine wpAny_Call_Name_kw (ld_glob I hg hm ?_ hdb)
  refine PySem.W.callWith_K (h₀ := X.base) I.ok.mod.kin mk.kp (thn (hA.run pos pn s σ H (fun vs H1 => ∃ F1, Gr F H (Own σ Γ) F1 H1 (Own σ Γ1) ∧ EnvOk X.K F1 H1 σ Γ1 ∧ DdA X.K F1 vs [d]) I ⟨F, ev, xt, fun vs F1 H1 g1 e1 dv => ⟨F1, g1, e1, dv⟩⟩) fun us s1 ⟨vs, H1, I1, r, F1, g1, e1, dv⟩ => ⟨I1.kIn, ?_⟩) hs hpl
  obtain ⟨v, rfl, hv⟩ := one_of dv
  refine run_makeE tk mk hF (hr.mono hj) hb I1 r fun y dx hy hdx hne => ?_
  refine ⟨F1, y, dx, v, d, none, rfl, upd_same, g1.fh.free hy, fun b o h => ?_, hv, hR, fun h z => (nomatch z), fun _ H' x1 => ?_⟩
  · have hb := g1.fh b o h
    rw [upd_ne (ne_of_none hb hy), upd_ne (ne_of_none hb hdx)]; exact hb
  · have x2 : Ext H1 H' := fun b o h => x1 b o (by rw [upd_ne (ne_of_none h hy), upd_ne (ne_of_none h hdx)]; exact h)
    exact kk F1 H' (g1.trans (Gr.ext (Ext.refl F1) (g1.fh.trans x2) x2 fun a h => .inl h)) (e1.keep (Ext.refl F1) x2 fun a h => .inl h)
/-- C(e): the instance stands beside the frame -/
def tMk (K : PySem.W.Frag) (C : Addr) (h : Int) (Γ Γ1 : Gm) : TE := fun σ H Q => ∃ F, EnvOk K F H σ Γ ∧ Ext F H ∧ ∀ Z F' H', Z.C = C → Z.halls = h → H Z.dj = none → H Z.dl = none → Gr F H (Own σ Γ) F' H' (Own σ Γ1) → DS K F' H' σ Γ1 Z ([], []) → Q (.ref Z.p) H'
theorem pe_mkK {h : Int} (M : MkK X.prog X.w X.K X.mg X.base k x C CE R) (hr : Room j X.A) {m : Nat} (hx : PE X e (tVar m)) (hΓ : Γ[m]? = some (some (.im d))) (hR : R d (some h)) (hj : k + 1 ≤ j := by decide) (hg : Gl X x := by rfl) (hdb : (x == ("__debug__" : Str)) = false := by decide)
    (hs : starEach [e] X.env = (false, eval e X.env) :: starEach [] X.env := by rfl) (hpl : (backTo pos (starEach [] X.env)).any (·.1) = false := by rfl) : PE X (.Call (.Name x p) [e] [] pos) (tMk X.K C h Γ Γ) := by
  obtain ⟨g, fd, ps, hm, mk, hb, hF⟩ := M.ex
  refine pe_imp (pe_make (dvs := []) (ds := []) mk hF (hr.mono hj) hg hm hb .nil passL (pa_cons hx pa_nil hs) hdb hs hpl) fun σ H1 Q ⟨F1, ev, xt, kk⟩ => ?_
  obtain ⟨v, hv0, hv⟩ := ev.ats m _ hΓ
  refine ⟨v, hv0, fun y dx hy hdx hne => ?_⟩
  refine ⟨F1, y, dx, v, d, some h, rfl, upd_same, xt.free hy, fun b o q => ?_, hv, hR, fun h' z F' H' Z zp zc zh dk zj zl g2 => ?_, fun z => by cases z⟩
  · have hb := xt b o q
    rw [upd_ne (ne_of_none hb hy), upd_ne (ne_of_none hb hdx)]; exact hb
  · cases z
    subst zp
    refine ⟨rfl, ?_⟩
    have keep : ∀ {b : Addr} {o : HO}, H1 b = some o → (upd (upd H1 dx (.own Z.p)) Z.p (.ins C dx [])) b = some o := fun {b o} q => by
      rw [upd_ne (ne_of_none q hy), upd_ne (ne_of_none q hdx)]; exact q
    have hh : Ext H1 H' := fun b o q => (g2.hh b o (keep q)).resolve_right (ne_of_none q hy)
    have nw : ∀ b, F' b ≠ none → F1 b ≠ none ∨ H1 b = none := fun b q => by
      rcases g2.nw b q with z | z | z
      · exact .inl z
      · refine .inr ?_
        cases q1 : H1 b with
        | none => rfl
        | some o => rw [keep q1] at z; cases z
      · rw [z]; exact .inr hy
    have fr : ∀ b, (upd (upd H1 dx (.own Z.p)) Z.p (.ins C dx [])) b = none → H1 b = none := fun b z => by
      cases q1 : H1 b with
      | none => rfl
      | some o => rw [keep q1] at z; cases z
    have g3 : Gr F1 H1 (Own σ Γ) F' H' (Own σ Γ) := Gr.ext g2.ff g2.fh hh nw
    have e2 : EnvOk X.K F' H' σ Γ := ev.keep g2.ff hh nw
    refine kk Z F' H' zc zh (fr _ zj) (fr _ zl) g3 ⟨e2, g2.fh, dk, fun o => ?_⟩
    obtain ⟨_, xs, hl⟩ := ev.own_at o
    rw [fr _ zl] at hl; cases hl
end
end DL
end

section
/-! x, a, b, c = C(e), e1, e2, e3: the way in. -/
namespace DL
open PySem PySem.Spec PyProof.Rows L2
section
variable {K : PySem.W.Frag} {F H : Hp} {σ : L2.St} {Γ : Gm} {Z : DkZ} {S : DkS} {i : Nat} {v : V}
theorem EnvOk.storeAd (e : EnvOk K F H σ Γ) (hi : i < Γ.length) : EnvOk K F H (σ.set i (some v)) (Γ.set i (some (.ad v))) := by
  have hs : i < σ.length := by rw [e.len]; exact hi
  refine ⟨by rw [List.length_set, List.length_set, e.len], fun j s q => ?_, fun j k s t l a b h1 h2 c d => ?_⟩
  · rcases get_set_some q with ⟨rfl, q2, _⟩ | ⟨ne, q2⟩
    · rw [← Option.some.inj q2]
      exact ⟨v, List.getElem?_set_self hs, rfl⟩
    · obtain ⟨w, w1, w2⟩ := e.ats j s q2
      exact ⟨w, by rw [List.getElem?_set_ne ne]; exact w1, w2⟩
  · rcases get_set_some a with ⟨_, q2, _⟩ | ⟨ne, q2⟩
    · rw [← Option.some.inj q2] at h1; cases h1
    · rcases get_set_some b with ⟨_, q3, _⟩ | ⟨ne2, q3⟩
      · rw [← Option.some.inj q3] at h2; cases h2
      · rw [List.getElem?_set_ne ne] at c
        rw [List.getElem?_set_ne ne2] at d
        exact e.sep j k s t l q2 q3 h1 h2 c d
theorem own_storeAd {a : Addr} (h : Own (σ.set i (some v)) (Γ.set i (some (.ad v))) a) : Own σ Γ a := by
  obtain ⟨j, s, h1, h2, h3⟩ := h
  rcases get_set_some h1 with ⟨_, q2, _⟩ | ⟨ne, q2⟩
  · rw [← Option.some.inj q2] at h2; cases h2
  · rw [List.getElem?_set_ne ne] at h3
    exact ⟨j, s, q2, h2, h3⟩
end
section
variable {X : Cx} {Γ : Gm} {a b c e : Expr} {d d2 d3 d4 : PyData} {C : Addr} {h : Int} {pos : Pos} {rest : List Stmt}
theorem er_desk4 (n m l r : Nat) {x y z u : Str} {px py pz pu pt pt2 : Pos} {kt kt2 : Nat} (hc : X.calm = true) (hN : X.N.Nodup) (h1 : PE X a (tMk X.K C h Γ Γ)) (h2 : Ee X Γ b d2 Γ) (h3 : Ee X Γ c d3 Γ) (h4 : Ee X Γ e d4 Γ)
    (hrest : ∀ Z : DkZ, Z.C = C → Z.halls = h → ErK X Z ((((Γ.set n (some (.ad (.ref Z.p)))).set m (some (.im d2))).set l (some (.im d3))).set r (some (.im d4))) ([], []) rest d)
    (hn : n < Γ.length) (hm : m < Γ.length) (hl : l < Γ.length) (hr : r < Γ.length) (hi : X.N[n]? = some x := by rfl) (hj : X.N[m]? = some y := by rfl) (hk : X.N[l]? = some z := by rfl) (hq : X.N[r]? = some u := by rfl)
    (hx : Loc X.env.scope x := by first | exact Or.inl rfl | exact Or.inr rfl) (hy : Loc X.env.scope y := by first | exact Or.inl rfl | exact Or.inr rfl) (hz : Loc X.env.scope z := by first | exact Or.inl rfl | exact Or.inr rfl) (hu : Loc X.env.scope u := by first | exact Or.inl rfl | exact Or.inr rfl)
    (hf : X.fn x = true ∨ X.env.scope.names.lookup x = some .local := by first | exact .inl rfl | exact .inr rfl) (hf2 : X.fn y = true ∨ X.env.scope.names.lookup y = some .local := by first | exact .inl rfl | exact .inr rfl) (hf3 : X.fn z = true ∨ X.env.scope.names.lookup z = some .local := by first | exact .inl rfl | exact .inr rfl) (hf4 : X.fn u = true ∨ X.env.scope.names.lookup u = some .local := by first | exact .inl rfl | exact .inr rfl)
    (he1 : starEach [a, b, c, e] X.env = (false, eval a X.env) :: starEach [b, c, e] X.env := by rfl) (he2 : starEach [b, c, e] X.env = (false, eval b X.env) :: starEach [c, e] X.env := by rfl) (he3 : starEach [c, e] X.env = (false, eval c X.env) :: starEach [e] X.env := by rfl) (he4 : starEach [e] X.env = (false, eval e X.env) :: starEach [] X.env := by rfl)
    (hs1 : (assignEach [Expr.Name x px, .Name y py, .Name z pz, .Name u pu] X.env).map (·.2) = assign (.Name x px) X.env :: (assignEach [Expr.Name y py, .Name z pz, .Name u pu] X.env).map (·.2) := by rfl) (hs2 : (assignEach [Expr.Name y py, .Name z pz, .Name u pu] X.env).map (·.2) = assign (.Name y py) X.env :: (assignEach [Expr.Name z pz, .Name u pu] X.env).map (·.2) := by rfl) (hs3 : (assignEach [Expr.Name z pz, .Name u pu] X.env).map (·.2) = assign (.Name z pz) X.env :: (assignEach [Expr.Name u pu] X.env).map (·.2) := by rfl) (hs4 : (assignEach [Expr.Name u pu] X.env).map (·.2) = assign (.Name u pu) X.env :: (assignEach [] X.env).map (·.2) := by rfl)
    (hna : (assignEach [Expr.Name x px, .Name y py, .Name z pz, .Name u pu] X.env).length = 4 := by rfl) (hst : (assignEach [Expr.Name x px, .Name y py, .Name z pz, .Name u pu] X.env).findIdx? (·.1) = none := by rfl)
    (hs : swapsWithSole [.Tuple [.Name x px, .Name y py, .Name z pz, .Name u pu] kt pt] (.Tuple [a, b, c, e] kt2 pt2) pos.line X.env = pure false := by rfl) (hw : swappedStores [.Tuple [.Name x px, .Name y py, .Name z pz, .Name u pu] kt pt] (.Tuple [a, b, c, e] kt2 pt2) X.env = pure none := by rfl) (h1' : (assignEach [.Tuple [.Name x px, .Name y py, .Name z pz, .Name u pu] kt pt] X.env).map (·.2) = [assign (.Tuple [.Name x px, .Name y py, .Name z pz, .Name u pu] kt pt) X.env] := by rfl) :
    Er X Γ (.Assign [.Tuple [.Name x px, .Name y py, .Name z pz, .Name u pu] kt pt] (.Tuple [a, b, c, e] kt2 pt2) pos :: rest) d := by
  have hR : PSs X rest (fun D σ H => ∃ Z : DkZ, Z.C = C ∧ Z.halls = h ∧ ∃ F, DS X.K F H σ ((((Γ.set n (some (.ad (.ref Z.p)))).set m (some (.im d2))).set l (some (.im d3))).set r (some (.im d4))) Z ([], []) ∧
      ∀ v F' H', Gr F H (AD σ ((((Γ.set n (some (.ad (.ref Z.p)))).set m (some (.im d2))).set l (some (.im d3))).set r (some (.im d4))) Z) F' H' (fun _ => False) → Dd X.K F' v d → D.rt v H') :=
    ⟨fun pn s σ H D I ⟨Z, z1, z2, hh⟩ => (hrest Z z1 z2).run pn s σ H D I hh⟩
  refine ⟨List.replicate Γ.length none, pss_imp (pss_cons (ps_asg (pe_tup (pa_cons h1 (pa_cons h2 (pa_cons h3 (pa_cons h4 pa_nil he4) he3) he2) he1)) (pg_tup (n := 4) hc (pgs_cons (pg_name hN hi hx hf) (pgs_cons (pg_name hN hj hy hf2) (pgs_cons (pg_name hN hk hz hf3) (pgs_cons (pg_name hN hq hu hf4) pgs_nil hs4) hs3) hs2) hs1) hna hst) hs hw h1') hR) fun D σ H ⟨F, ev, xt, kk⟩ => ?_⟩
  refine ⟨F, ev, xt, fun Z F1 H1 zc zh zj zl g1 D1 => ⟨F1, D1.ev, D1.xt, fun v2 F2 H2 g2 e2 dv2 => ⟨F2, e2, g2.fh, fun v3 F3 H3 g3 e3 dv3 => ⟨F3, e3, g3.fh, fun v4 F4 H4 g4 e4 dv4 => ?_⟩⟩⟩⟩
  refine ⟨by show 4 ≤ sizeLine; decide, fun t ht => ⟨t, [.ref Z.p, v2, v3, v4], rfl, SqT.of upd_same, rfl, .ref Z.p, [v2, v3, v4], rfl, v2, [v3, v4], rfl, v3, [v4], rfl, v4, [], rfl, rfl, Z, zc, zh, F4, ?_⟩⟩
  have gt : Gr F4 H4 (Own σ Γ) F4 (upd H4 t (.tup [.ref Z.p, v2, v3, v4])) (Own σ Γ) := Gr.newH g4.fh ht
  have D2 := (D1.grow g2 e2).1
  have D3 := (D2.grow g3 e3).1
  have D4 := (D3.grow g4 e4).1
  have D5 := (D4.grow gt (e4.newH ht)).1
  have gA := (((g1.trans g2).trans g3).trans g4).trans gt
  have E1 := D5.ev.storeAd (v := .ref Z.p) hn
  have E2 := E1.store (i := m) ((dv2.up g3.ff).up g4.ff) (by rw [List.length_set]; exact hm)
  have E3 := E2.store (i := l) (dv3.up g4.ff) (by rw [List.length_set, List.length_set]; exact hl)
  have E4 := E3.store (i := r) dv4 (by rw [List.length_set, List.length_set, List.length_set]; exact hr)
  have back : ∀ {q : Addr}, Own ((((σ.set n (some (.ref Z.p))).set m (some v2)).set l (some v3)).set r (some v4)) ((((Γ.set n (some (.ad (.ref Z.p)))).set m (some (.im d2))).set l (some (.im d3))).set r (some (.im d4))) q → Own σ Γ q := fun o => own_storeAd (own_store (own_store (own_store o)))
  refine ⟨⟨E4, D5.xt, D5.dk, fun o => D5.no (back o)⟩, fun v F' H' g' dv => ?_⟩
  have none_ : ∀ (i : Nat) (s : Slot), (List.replicate Γ.length (none : Option Slot))[i]? = some (some s) → False := fun i s q => by
    rw [List.getElem?_replicate] at q
    split at q <;> cases q
  have gB : Gr F H (Own σ Γ) F4 _ (AD _ ((((Γ.set n (some (.ad (.ref Z.p)))).set m (some (.im d2))).set l (some (.im d3))).set r (some (.im d4))) Z) := ⟨gA.ff, gA.fh, gA.hh, gA.nw, fun q o => by
    rcases o with o | o | o
    · exact .inl (back o)
    · rw [o]; exact .inr zj
    · rw [o]; exact .inr zl⟩
  refine kk v σ F' H' ((gB.trans g').right fun q ⟨i, s, z, _⟩ => (none_ i s z).elim) ⟨by rw [List.length_replicate]; exact ev.len, fun i s q => (none_ i s q).elim, fun i j s t q z _ _ _ _ _ => (none_ i s z).elim⟩ dv
end
end DL
end

section
namespace DL
open PySem PySem.Spec PyProof.Rows L2 RM
def clsDef (s : Stmt) (i : Nat) : Stmt := match s with
  | .ClassDef _ _ _ b _ _ _ _ _ _ _ => b.getD i (.Pass ⟨0, 0, 0, 0⟩)
  | _ => .Pass ⟨0, 0, 0, 0⟩
abbrev s_dini : Stmt := clsDef (topS 25) 0
abbrev s_dnet : Stmt := clsDef (topS 25) 1
abbrev s_ddone : Stmt := clsDef (topS 25) 2
abbrev s_dover : Stmt := clsDef (topS 25) 3
abbrev s_dundo : Stmt := clsDef (topS 25) 4
abbrev s_dres : Stmt := clsDef (topS 25) 5
abbrev s_dchg : Stmt := clsDef (topS 25) 6
theorem sc_dini : FnScope ["self", "halls"] ["self", "halls"] (defScope s_dini) := ⟨rfl, rfl, rfl, by decide +kernel, rfl, by decide +kernel, by decide +kernel⟩
theorem sc_dnet : FnScope ["self"] ["self"] (defScope s_dnet) := ⟨rfl, rfl, rfl, by decide +kernel, rfl, by decide +kernel, by decide +kernel⟩
theorem sc_ddone : FnScope ["self"] ["self"] (defScope s_ddone) := ⟨rfl, rfl, rfl, by decide +kernel, rfl, by decide +kernel, by decide +kernel⟩
theorem sc_dover : FnScope ["self", "one", "other", "pair"] ["self", "one", "other"] (defScope s_dover) := ⟨rfl, rfl, rfl, by decide +kernel, rfl, by decide +kernel, by decide +kernel⟩
theorem sc_dundo : FnScope ["self"] ["self"] (defScope s_dundo) := ⟨rfl, rfl, rfl, by decide +kernel, rfl, by decide +kernel, by decide +kernel⟩
theorem sc_dres : FnScope ["self"] ["self"] (defScope s_dres) := ⟨rfl, rfl, rfl, by decide +kernel, rfl, by decide +kernel, by decide +kernel⟩
theorem sc_dchg : FnScope ["self", "pair"] ["self", "pair"] (defScope s_dchg) := ⟨rfl, rfl, rfl, by decide +kernel, rfl, by decide +kernel, by decide +kernel⟩
theorem etK_is {X : Cx} {Z : DkZ} {Γ Γ1 : Gm} {S : DkS} {c : Expr} {p q : Bool} (h : EtK X Z Γ S c p Γ1) (e : p = q) : EtK X Z Γ S c q Γ1 := e ▸ h
def castP (p : Nat × Nat) : Int × Int := (p.1, p.2)
theorem castP_two (S : List (Nat × Nat)) : (S.map castP).map twoP = S.map pN := by
  rw [List.map_map]; rfl
section
variable {P : Program} {w : World} {K : PySem.W.Frag} {mg : Str → Option Value} {base : Heap} {C CB CN CS : Addr}
/-! reading -/
def R_dnet (C : Addr) (ds : List PyData) (d : PyData) : Prop := ∃ (n : Nat) (S : List (Nat × Nat)) (dn : List (Int × Int)), S.length ≤ 65536 ∧ ds = [deskD C n (S.map castP) dn] ∧ d = nN n (S.mergeSort (le_ pLt))
def R_ddone (C : Addr) (ds : List PyData) (d : PyData) : Prop := ∃ (h : Int) (ks dn : List (Int × Int)), dn.length ≤ 65536 ∧ ds = [deskD C h ks dn] ∧ d = .tuple (dn.map twoP)
def R_dres (C : Addr) (ds : List PyData) (d : PyData) : Prop := ∃ (n : Nat) (S : List (Nat × Nat)) (dn : List (Int × Int)), 1 ≤ n ∧ n ≤ 9 ∧ S.length ≤ 65536 ∧ IsNet n (S.mergeSort (le_ pLt)) ∧ ds = [deskD C n (S.map castP) dn] ∧ d = .bool (findP n (S.mergeSort (le_ pLt))).isSome
theorem ok_dnet {qual : Str} {p g : Addr} {fd : FuncData} (T : Tx mg) (D : DeskC K C) (hp : PropOf K C "net" p g) (hb : L2.Binds K fd ["self"] []) (F : Fun K "net" qual s_dnet g fd) : PmD P w K mg base 1 C "net" (R_dnet C) := by
  have S := sc_dnet
  refine ⟨p, g, fd, hp, hb, ok_D F S (fun ds d ⟨_, _, _, _, e, _⟩ => by rw [e]; rfl) fun cdv A outer s H E ds d hr ⟨n, Q, dn, hl, e1, e2⟩ => ?_⟩
  subst e1 e2
  obtain ⟨Γ', h⟩ : Er (cxOf CX0 P w K mg base ["self"] qual (defScope s_dnet) g cdv A outer s H E).nox (slots0 ["self"] [deskD C n (Q.map castP) dn]) (defBody s_dnet) (nN n (Q.mergeSort (le_ pLt))) := by
    refine er_ret (ee_tup (ea_cons (ee_fldHalls D (ee_var 0)) (ea_cons (ee_is (ee_tupL T.tuple (ea_cons (ee_new (en_sortJ D hr rfl T.sorted (ee_var 0) (by rw [List.length_map]; exact hl))) ea_nil)) ?_) ea_nil)))
    rw [castP_two, sort_enc lt_pN]
  exact ⟨_, h, .inl ⟨Γ', rfl⟩⟩
theorem ok_ddone {qual : Str} {p g : Addr} {fd : FuncData} (T : Tx mg) (D : DeskC K C) (hp : PropOf K C "done" p g) (hb : L2.Binds K fd ["self"] []) (F : Fun K "done" qual s_ddone g fd) : PmD P w K mg base 1 C "done" (R_ddone C) := by
  have S := sc_ddone
  refine ⟨p, g, fd, hp, hb, ok_D F S (fun ds d ⟨_, _, _, _, e, _⟩ => by rw [e]; rfl) fun cdv A outer s H E ds d hr ⟨h, ks, dn, hl, e1, e2⟩ => ?_⟩
  subst e1 e2
  obtain ⟨Γ', h⟩ : Er (cxOf CX0 P w K mg base ["self"] qual (defScope s_ddone) g cdv A outer s H E).nox (slots0 ["self"] [deskD C h ks dn]) (defBody s_ddone) (.tuple (dn.map twoP)) :=
    er_ret (ee_tupL T.tuple (ea_cons (ee_fldDone D (ee_var 0)) ea_nil))
  exact ⟨_, h, .inl ⟨Γ', rfl⟩⟩
theorem ok_dres {qual : Str} {g : Addr} {fd : FuncData} (D : DeskC K C) (hm : Meth K C "is_restalike" g) (hb : L2.Binds K fd ["self"] []) (F : Fun K "is_restalike" qual s_dres g fd) (M : PmD P w K mg base 1 C "net" (R_dnet C)) (C1 : Ca P w K mg base 13 "rest_turn" ["net"] (spD K R_rest_turn)) : MeD P w K mg base 14 C "is_restalike" (R_dres C) := by
  have S := sc_dres
  refine ⟨g, fd, hm, hb, ok_D F S (fun ds d ⟨_, _, _, _, _, _, _, e, _⟩ => by rw [e]; rfl) fun cdv A outer s H E ds d hr ⟨n, Q, dn, h1, h9, hl, hq, e1, e2⟩ => ?_⟩
  subst e1 e2
  obtain ⟨Γ', h⟩ : Er (cxOf CX0 P w K mg base ["self"] qual (defScope s_dres) g cdv A outer s H E).nox (slots0 ["self"] [deskD C n (Q.map castP) dn]) (defBody s_dres) (.bool (findP n (Q.mergeSort (le_ pLt))).isSome) := by
    refine er_is (er_ret (ee_notN (ee_ca C1 hr (ea_cons (ee_prop D M hr (ee_var 0) ⟨n, Q, dn, hl, rfl, rfl⟩) ea_nil) ⟨n, _, h1, h9, hq, rfl, rfl⟩) ee_non)) ?_
    cases findP n (Q.mergeSort (le_ pLt)) <;> rfl
  exact ⟨_, h, .inl ⟨Γ', rfl⟩⟩
/-! changing -/
def togP (ks : List (Int × Int)) (p : Int × Int) : List (Int × Int) := if p ∈ ks then ks.filter (fun q => decide (q ≠ p)) else ks ++ [p]
def R_dchg (h : Int) (S : DkS) (as : List PyData) (o : Option DkS) : Prop := ∃ p, as = [twoP p] ∧ S.1.length < 65536 ∧ o = some (togP S.1 p, S.2)
theorem ok_dchg {qual : Str} {g : Addr} {fd : FuncData} (D : DeskC K C) (hm : Meth K C "_change" g) (hb : L2.Binds K fd ["self", "pair"] []) (F : Fun K "_change" qual s_dchg g fd) : MeK P w K mg base 1 C "_change" ["self", "pair"] 0 R_dchg := by
  have S := sc_dchg
  refine meK_mk hm F hb S (fun h S as o ⟨_, e, _⟩ => by rw [e]; rfl) (fun cdv A outer s H E Z Q as S' hr hC ⟨p, e1, hl, e2⟩ => ?_) (fun cdv A outer s H E Z Q as hr hC ⟨p, e1, hl, e2⟩ => by cases e2)
  subst e1
  have e3 := Option.some.inj e2
  subst e3 hC
  unfold togP
  by_cases hin : p ∈ Q.1
  · rw [if_pos hin]
    exact ⟨_, essK_one (esK_ifT (etK_is (etK_inJ D hr (ee_var 1) (pv 0) rfl) (decide_eq_true hin)) (essK_one (esK_delJ D hr (ee_var 1) (pv 0) rfl hin)))⟩
  · rw [if_neg hin]
    exact ⟨_, essK_one (esK_ifF (etK_is (etK_inJ D hr (ee_var 1) (pv 0) rfl) (decide_eq_false hin)) (essK_one (esK_setJ D hr (ee_var 1) (pv 0) rfl hin hl)))⟩
theorem sh_twos (dn : List (Int × Int)) : SeqAt.shaped (.list (dn.map twoP)) = true := sh_lst dn (fun p => by simp [PyData.canLay0, PyData.canLayAll0]) (fun p => by simp [PyData.depth, PyData.depthAll])
def mnx (i j : Int) : Int × Int := (if j < i then j else i, if j > i then j else i)
def R_dover (h : Int) (S : DkS) (as : List PyData) (o : Option DkS) : Prop := (∃ i j : Int, as = [.int i, .int j] ∧ isWayD (.tuple [.int i, .int j]) h = true ∧ S.1.length < 65536 ∧ S.2.length < 65536 ∧ o = some (togP S.1 (mnx i j), S.2 ++ [(mnx i j)])) ∨
  (∃ a b, as = [a, b] ∧ SeqAt.shaped (.tuple [a, b]) = true ∧ isWayD (.tuple [a, b]) h = false ∧ o = none)
theorem ok_dover {qual : Str} {g : Addr} {fd : FuncData} (T : Tx mg) (EF : ErrF K mg "BadPair" CB) (D : DeskC K C) (hm : Meth K C "turn_over" g) (hb : L2.Binds K fd ["self", "one", "other"] []) (F : Fun K "turn_over" qual s_dover g fd) (C1 : Ca P w K mg base 2 "is_way" ["value", "halls"] (spD K R_is_way)) (M : MeK P w K mg base 1 C "_change" ["self", "pair"] 0 R_dchg) : MeK P w K mg base 3 C "turn_over" ["self", "one", "other"] CB R_dover := by
  have S := sc_dover
  refine meK_mk hm F hb S (fun h S as o hR => ?_) (fun cdv A outer s H E Z Q as S' hr hC hR => ?_) (fun cdv A outer s H E Z Q as hr hC hR => ?_)
  · rcases hR with ⟨_, _, e, _⟩ | ⟨_, _, e, _⟩ <;> (rw [e]; rfl)
  · rcases hR with ⟨i, j, e1, hw, hl, hl2, e2⟩ | ⟨_, _, _, _, _, e⟩
    · subst e1
      have e3 := Option.some.inj e2
      subst e3 hC
      exact ⟨_, essK_cons (esK_ifF (etK_frz 0 _ rfl (Less.refl _) slotsK_noOwn (et_is (et_not (et_val (ee_ca C1 hr (ea_cons (ee_tup (ea_cons (ee_var 1) (ea_cons (ee_var 2) ea_nil))) (ea_cons (ee_fldHalls D (ee_var 0)) ea_nil)) ⟨_, _, rfl, shaped_of (by simp [PyData.canLay0, PyData.canLayAll0]) (by simp [PyData.depth, PyData.depthAll]), rfl⟩))) (by rw [hw]; rfl))) essK_nil)
        (essK_cons (esK_lift (es_set 3 S.nd (ee_tup (ea_cons (ee_min2 rfl T.min (ea_cons (ee_var 1) (ea_cons (ee_var 2) ea_nil))) (ea_cons (ee_max2 rfl T.max (ea_cons (ee_var 1) (ea_cons (ee_var 2) ea_nil))) ea_nil)))))
        (essK_cons (esK_expr (eeK_meth M rfl D.cls hr (pv 0) rfl (eaK_lift (ea_cons (ee_var 3) ea_nil)) ⟨(mnx i j), rfl, hl, rfl⟩))
        (essK_one (esK_appD (pr := (mnx i j)) D (ee_var 3) (pv 0) rfl hl2))))⟩
    · cases e
  · rcases hR with ⟨_, _, _, _, _, _, e⟩ | ⟨a, b, e1, hs, hw, _⟩
    · cases e
    · subst e1 hC
      exact rxK_if (etK_frz 0 _ rfl (Less.refl _) slotsK_noOwn (et_is (et_not (et_val (ee_ca C1 hr (ea_cons (ee_tup (ea_cons (ee_var 1) (ea_cons (ee_var 2) ea_nil))) (ea_cons (ee_fldHalls D (ee_var 0)) ea_nil)) ⟨_, _, rfl, hs, rfl⟩))) (by rw [hw]; rfl)))
        (rxK_raise rfl (takes_of rfl rfl rfl rfl) (pmk_zero PySem.F.excBase_ValueError EF.q EF.m EF.k (raises_own EF.s EF.t)))
def R_dundo (h : Int) (S : DkS) (as : List PyData) (o : Option DkS) : Prop := (∃ ks dn p, S = (ks, dn ++ [p]) ∧ as = [] ∧ ks.length < 65536 ∧ o = some (togP ks p, dn)) ∨ (S.2 = [] ∧ as = [] ∧ o = none)
theorem ok_dundo {qual : Str} {g : Addr} {fd : FuncData} (EF : ErrF K mg "NoStep" CS) (D : DeskC K C) (hm : Meth K C "undo" g) (hb : L2.Binds K fd ["self"] []) (F : Fun K "undo" qual s_dundo g fd) (M : MeK P w K mg base 1 C "_change" ["self", "pair"] 0 R_dchg) : MeK P w K mg base 2 C "undo" ["self"] CS R_dundo := by
  have S := sc_dundo
  refine meK_mk hm F hb S (fun h S as o hR => ?_) (fun cdv A outer s H E Z Q as S' hr hC hR => ?_) (fun cdv A outer s H E Z Q as hr hC hR => ?_)
  · rcases hR with ⟨_, _, _, _, e, _⟩ | ⟨_, e, _⟩ <;> (rw [e]; rfl)
  · rcases hR with ⟨ks, dn, p, e0, e1, hl, e2⟩ | ⟨_, _, e⟩
    · subst e0 e1
      have e3 := Option.some.inj e2
      subst e3 hC
      exact ⟨_, essK_cons (esK_ifF (etK_frz 0 _ rfl (Less.refl _) slotsK_noOwn (et_is (et_not (et_tru (ee_fldDone D (ee_var 0)) (sh_twos _) (fun _ z => by cases z))) (by rw [List.map_append]; simp [tru]))) essK_nil)
        (essK_one (esK_expr (eeK_meth M rfl D.cls hr (pv 0) rfl (eaK_one (eeK_popD D (pv 0) rfl)) ⟨p, rfl, hl, rfl⟩)))⟩
    · cases e
  · rcases hR with ⟨_, _, _, _, _, _, e⟩ | ⟨e0, e1, _⟩
    · cases e
    · subst e1 hC
      exact rxK_if (etK_frz 0 _ rfl (Less.refl _) slotsK_noOwn (et_is (et_not (et_tru (ee_fldDone D (ee_var 0)) (sh_twos _) (fun _ z => by cases z))) (by rw [e0]; rfl)))
        (rxK_raise rfl (takes_of rfl rfl rfl rfl) (pmk_zero PySem.F.excBase_ValueError EF.q EF.m EF.k (raises_own EF.s EF.t)))
def R_dini (d : PyData) (o : Option Int) : Prop := (∃ n : Nat, 1 ≤ n ∧ n ≤ 9 ∧ d = iN n ∧ o = some (n : Int)) ∨ ((∀ x, d ≠ .dict x) ∧ isNum d 1 9 = false ∧ o = none)
theorem ok_dini {qual : Str} {g : Addr} {fd : FuncData} (D : DeskC K C) (I_MOST_HALLS : ∃ t, mg "MOST_HALLS" = some (.int 9 t)) (hmg : mg "Desk" = some (.ref C)) (hm : Mk K C g) (hb : L2.Binds K fd ["self", "halls"] []) (F : Fun K "__init__" qual s_dini g fd) (C1 : Ca P w K mg base 2 "check_number" ["value", "most"] (spD K R_check_number)) (C2 : CaX P w K mg base 2 "check_number" ["value", "most"] CN R_bad_number) : MkK P w K mg base 3 "Desk" C CN R_dini := by
  have S := sc_dini
  obtain ⟨t, ht⟩ := I_MOST_HALLS
  refine mkK_mk D hmg hm F hb S rfl (fun cdv A outer s H E p d h hr hR => ?_) (fun cdv A outer s H E p d hr hR => ?_)
  · rcases hR with ⟨n, h1, h9, rfl, e⟩ | ⟨_, _, e⟩
    · have e2 := Option.some.inj e
      subst e2
      exact ⟨rfl, pss_cons (es_expr (ee_ca C1 hr (ea_cons (ee_var 1) (ea_cons (ee_gint ht ⟨t, rfl⟩) ea_nil)) ⟨n, 9, h1, h9, rfl, rfl⟩)) (pss_cons (ps_fld (pv 0) (ee_var 1) rfl) (pss_cons (ps_fld (pv 0) pe_newJ rfl) (pss_one (ps_fld (pv 0) (pe_lst pa_nil) rfl))))⟩
    · cases e
  · rcases hR with ⟨_, _, _, _, e⟩ | ⟨hd, hn, _⟩
    · cases e
    · exact rx_expr (exx_call (takes_of rfl rfl rfl rfl) C2 hr (ea_cons (ee_var 1) (ea_cons (ee_gint ht ⟨t, rfl⟩) ea_nil)) ⟨d, 9, hd, hn, rfl, rfl⟩)
end
end DL
end

section
/-! A net that a turn leads to its rest: what its halls' numbers of pairs add up to. -/
namespace RM
theorem led_compP {t : List Nat} {S : List (Nat × Nat)} (ht : IsTurn t) (hs : S.Sublist (allPairs t.length)) : ledLot t S = leftLot (allPairs t.length) S ↔ Comp (symW S) t := by
  have e : G.leftE (allPairs t.length) S = leftLot (allPairs t.length) S := List.filter_congr fun x _ => by by_cases h : x ∈ S <;> simp [h]
  rw [← e, ← comp_pairs ht fun p hp => hs.subset hp]
  exact G.due_iff (sysP ht) (mem_lots.mpr hs)
def oth (h : Nat) (p : Nat × Nat) : Nat := if p.1 = h then p.2 else p.1
theorem deg_sym {n : Nat} {S : List (Nat × Nat)} (hn : S.Nodup) (hm : ∀ p ∈ S, p ∈ allPairs n) (h : Nat) : degM S h = (List.range n).countP fun x => tbB (symW S) h x := by
  have P : ((S.filter fun p => decide (p.1 = h) || decide (p.2 = h)).map (oth h)).Perm ((List.range n).filter fun x => tbB (symW S) h x) := by
    refine (List.perm_ext_iff_of_nodup ?_ (List.nodup_range.sublist List.filter_sublist)).mpr fun x => ?_
    · refine List.pairwise_map.mpr (List.Pairwise.imp_of_mem (fun {a b} ha hb ne e => ?_) (hn.sublist List.filter_sublist))
      obtain ⟨ha1, ha2⟩ := List.mem_filter.mp ha
      obtain ⟨hb1, hb2⟩ := List.mem_filter.mp hb
      have a1 := (mem_allPairs.mp (hm a ha1)).1
      have b1 := (mem_allPairs.mp (hm b hb1)).1
      simp only [Bool.or_eq_true, decide_eq_true_eq] at ha2 hb2
      obtain ⟨x, y⟩ := a
      obtain ⟨u, v⟩ := b
      simp only [oth] at *
      refine ne ?_
      by_cases c1 : x = h <;> by_cases c2 : u = h
      · rw [if_pos c1, if_pos c2] at e; rw [c1, c2, e]
      · rw [if_pos c1, if_neg c2] at e
        have := hb2.resolve_left c2
        omega
      · rw [if_neg c1, if_pos c2] at e
        have := ha2.resolve_left c1
        omega
      · rw [if_neg c1, if_neg c2] at e
        rw [e, ha2.resolve_left c1, hb2.resolve_left c2]
    · rw [List.mem_map, List.mem_filter, List.mem_range]
      constructor
      · rintro ⟨⟨a, b⟩, hp, rfl⟩
        obtain ⟨hp1, hp2⟩ := List.mem_filter.mp hp
        have a1 := mem_allPairs.mp (hm _ hp1)
        simp only [Bool.or_eq_true, decide_eq_true_eq] at hp2 a1
        by_cases c : a = h
        · subst c
          have e : oth a (a, b) = b := if_pos rfl
          rw [e]
          exact ⟨by omega, decide_eq_true (mem_sym.mpr (.inl hp1))⟩
        · have e : oth h (a, b) = a := if_neg c
          have hb : b = h := hp2.resolve_left c
          subst hb
          rw [e]
          exact ⟨by omega, decide_eq_true (mem_sym.mpr (.inr hp1))⟩
      · rintro ⟨hx, ht⟩
        rcases mem_sym.mp (of_decide_eq_true ht) with z | z
        · exact ⟨(h, x), List.mem_filter.mpr ⟨z, by simp⟩, if_pos rfl⟩
        · have := (mem_allPairs.mp (hm _ z)).1
          simp only at this
          exact ⟨(x, h), List.mem_filter.mpr ⟨z, by simp⟩, if_neg (by simp only; omega)⟩
  rw [List.countP_eq_length_filter, ← P.length_eq, List.length_map, degM, List.countP_eq_length_filter]
theorem two_counts {p q : Nat → Bool} {h : Nat} : ∀ {l : List Nat}, (∀ x ∈ l, x ≠ h → q x = !p x) → (p h = false) → (q h = false) → l.countP p + l.countP q + l.countP (fun x => decide (x = h)) = l.length
  | [], _, _, _ => rfl
  | x :: l, hl, h1, h2 => by
    have ih := two_counts (l := l) (fun y hy => hl y (List.mem_cons_of_mem _ hy)) h1 h2
    rw [List.countP_cons, List.countP_cons, List.countP_cons, List.length_cons]
    by_cases e : x = h
    · subst e
      simp [h1, h2]; omega
    · have := hl x List.mem_cons_self e
      cases hp : p x <;> simp [hp, this, e] <;> omega
theorem one_count {l : List Nat} {h : Nat} (hn : l.Nodup) (hm : h ∈ l) : l.countP (fun x => decide (x = h)) = 1 := by
  induction l with
  | nil => cases hm
  | cons x l ih =>
    obtain ⟨h1, h2⟩ := List.nodup_cons.mp hn
    rw [List.countP_cons]
    by_cases e : x = h
    · subst e
      have : l.countP (fun y => decide (y = x)) = 0 := List.countP_eq_zero.mpr fun y hy z => h1 (by have := of_decide_eq_true z; rw [← this]; exact hy)
      rw [this]; simp
    · have hm' : h ∈ l := (List.mem_cons.mp hm).resolve_left fun z => e z.symm
      rw [ih h2 hm']; simp [e]
theorem map_at_range (u : List Nat) : (List.range u.length).map (at_ u) = u := by
  apply List.ext_getElem
  · rw [List.length_map, List.length_range]
  · intro i h1 h2
    rw [List.getElem_map, List.getElem_range, at_getElem h2]
/-- a hall and the hall that it is led to have n - 1 pairs together -/
theorem deg_sum {u : List Nat} (hu : IsTurn u) {S : List (Nat × Nat)} (hn : S.Nodup) (hm : ∀ p ∈ S, p ∈ allPairs u.length) (hc : Comp (symW S) u) {h : Nat} (hh : h < u.length) : degM S h + degM S (at_ u h) + 1 = u.length := by
  have no : ∀ x, tbB (symW S) x x = false := fun x => decide_eq_false fun z => by
    have := (mem_sym.mp z)
    rcases this with z | z <;> exact absurd (mem_allPairs.mp (hm _ z)).1 (Nat.lt_irrefl x)
  have e2 : (List.range u.length).countP (fun x => tbB (symW S) (at_ u h) x) = (List.range u.length).countP fun x => tbB (symW S) (at_ u h) (at_ u x) := by
    rw [← (perm_range hu.2.2.1 hu.2.2.2).countP_eq]
    generalize at_ u h = z
    have m := congrArg (List.countP fun x => tbB (symW S) z x) (map_at_range u)
    rw [List.countP_map] at m
    exact m.symm
  have t := two_counts (p := fun x => tbB (symW S) h x) (q := fun x => tbB (symW S) (at_ u h) (at_ u x)) (h := h) (l := List.range u.length) (fun x hx e => by
    have := hc.2 h x hh (List.mem_range.mp hx) fun z => e z.symm
    cases a : tbB (symW S) h x <;> cases b : tbB (symW S) (at_ u h) (at_ u x) <;> simp [a, b] at this ⊢) (no h) (no _)
  rw [one_count List.nodup_range (List.mem_range.mpr hh), List.length_range] at t
  rw [deg_sym hn hm, deg_sym hn hm, e2]
  exact t
abbrev sortN (l : List Nat) : List Nat := l.mergeSort (le_ fun a b : Nat => decide (a < b))
theorem degs_rev {u : List Nat} (hu : IsTurn u) {S : List (Nat × Nat)} (hn : S.Nodup) (hm : ∀ p ∈ S, p ∈ allPairs u.length) (hc : Comp (symW S) u) :
    (sortN (degs u.length S)).reverse = (sortN (degs u.length S)).map fun x => u.length - 1 - x := by
  have P : (sortN (degs u.length S)).Perm (degs u.length S) := List.mergeSort_perm (degs u.length S) (le_ fun a b : Nat => decide (a < b))
  have up : (sortN (degs u.length S)).Pairwise fun a b => le_ (fun a b : Nat => decide (a < b)) a b = true := sort_up ordN (degs u.length S)
  generalize hs : sortN (degs u.length S) = s at *
  have P1 : (s.map fun x => u.length - 1 - x).Perm s := by
    have a : ((degs u.length S).map fun x => u.length - 1 - x).Perm (degs u.length S) := by
      have e1 : ((degs u.length S).map fun x => u.length - 1 - x) = u.map (degM S) := by
        conv => rhs; rw [← map_at_range u]
        unfold degs
        rw [List.map_map, List.map_map]
        refine List.map_congr_left fun h hh => ?_
        have := deg_sum hu hn hm hc (List.mem_range.mp hh)
        simp only [Function.comp]
        omega
      rw [e1]
      exact (perm_range hu.2.2.1 hu.2.2.2).map _
    exact (P.map _).trans (a.trans P.symm)
  have e : (s.map fun x => u.length - 1 - x).reverse = s := by
    refine List.Perm.eq_of_pairwise (le := fun a b => le_ (fun a b : Nat => decide (a < b)) a b = true) (fun a b _ _ h1 h2 => ?_) ?_ up ((List.reverse_perm _).trans P1)
    · simp [le_] at h1 h2; omega
    · rw [List.pairwise_reverse, List.pairwise_map]
      exact up.imp fun {a b} h => by simp [le_] at h ⊢; omega
  rw [← e, List.reverse_reverse, e]
theorem degs_two {u : List Nat} (hu : IsTurn u) {S : List (Nat × Nat)} (hn : S.Nodup) (hm : ∀ p ∈ S, p ∈ allPairs u.length) (hc : Comp (symW S) u) :
    ((List.range (sortN (degs u.length S)).length).map fun i => (sortN (degs u.length S)).getD i 0 + (sortN (degs u.length S)).reverse.getD i 0) = List.replicate u.length (u.length - 1) := by
  have hl : (sortN (degs u.length S)).length = u.length := by rw [(List.mergeSort_perm _ _).length_eq]; unfold degs; rw [List.length_map, List.length_range]
  have hb : ∀ x ∈ sortN (degs u.length S), x ≤ u.length - 1 := fun x hx => by
    have hx' := (List.mergeSort_perm _ _).mem_iff.mp hx
    unfold degs at hx'
    obtain ⟨h, hh, rfl⟩ := List.mem_map.mp hx'
    have := deg_sum hu hn hm hc (List.mem_range.mp hh)
    omega
  rw [degs_rev hu hn hm hc]
  generalize sortN (degs u.length S) = s at *
  apply List.ext_getElem
  · rw [List.length_map, List.length_range, List.length_replicate, hl]
  · intro i h1 h2
    have hi : i < s.length := by simpa using h1
    rw [List.getElem_map, List.getElem_range, List.getElem_replicate, List.getD_eq_getElem?_getD, List.getD_eq_getElem?_getD, List.getElem?_map, List.getElem?_eq_getElem hi]
    have := hb s[i] (List.getElem_mem hi)
    show s[i] + (u.length - 1 - s[i]) = _
    omega
end RM
end

section
namespace DL
open PySem PySem.Spec PyProof.Rows L2 RM
def Goodm (n : Nat) (ks line : List (Nat × Nat)) : Prop := ks.Nodup ∧ (∀ p ∈ line, p ∈ allPairs n) ∧ ∀ p, p ∈ ks ↔ line.count p % 2 = 1
def togN (ks : List (Nat × Nat)) (p : Nat × Nat) : List (Nat × Nat) := if p ∈ ks then ks.filter (fun q => decide (q ≠ p)) else ks ++ [p]
theorem good_nil (n : Nat) : Goodm n [] [] := ⟨List.nodup_nil, (fun p h => by cases h), fun p => by simp⟩
theorem tog_nodup {ks : List (Nat × Nat)} (h : ks.Nodup) (p : Nat × Nat) : (togN ks p).Nodup := by
  unfold togN
  by_cases q : p ∈ ks
  · rw [if_pos q]; exact h.filter _
  · rw [if_neg q, List.nodup_append]
    exact ⟨h, by simp, fun a ha b hb e => q (by rw [List.mem_singleton.mp hb] at e; exact e ▸ ha)⟩
theorem tog_mem {ks : List (Nat × Nat)} {p q : Nat × Nat} : q ∈ togN ks p ↔ (q ≠ p ∧ q ∈ ks) ∨ (q = p ∧ p ∉ ks) := by
  unfold togN
  by_cases h : p ∈ ks
  · rw [if_pos h, List.mem_filter, decide_eq_true_iff]
    constructor
    · rintro ⟨a, b⟩; exact .inl ⟨b, a⟩
    · rintro (⟨a, b⟩ | ⟨a, b⟩)
      · exact ⟨b, a⟩
      · exact absurd h b
  · rw [if_neg h, List.mem_append, List.mem_singleton]
    constructor
    · rintro (a | a)
      · exact .inl ⟨fun e => h (e ▸ a), a⟩
      · exact .inr ⟨a, h⟩
    · rintro (⟨a, b⟩ | ⟨a, b⟩)
      · exact .inl b
      · exact .inr a
theorem good_push {n : Nat} {ks line : List (Nat × Nat)} {p : Nat × Nat} (g : Goodm n ks line) (hp : p ∈ allPairs n) : Goodm n (togN ks p) (line ++ [p]) := by
  obtain ⟨g1, g2, g3⟩ := g
  refine ⟨tog_nodup g1 p, fun q hq => ?_, fun q => ?_⟩
  · rcases List.mem_append.mp hq with h | h
    · exact g2 q h
    · rw [List.mem_singleton.mp h]; exact hp
  · rw [tog_mem, List.count_append, List.count_singleton, g3, g3]
    by_cases e : q = p
    · subst e
      simp
      omega
    · have e2 : ¬ (p = q) := fun z => e z.symm
      simp [e, e2]
theorem good_pop {n : Nat} {ks line : List (Nat × Nat)} {p : Nat × Nat} (g : Goodm n ks (line ++ [p])) : Goodm n (togN ks p) line := by
  obtain ⟨g1, g2, g3⟩ := g
  refine ⟨tog_nodup g1 p, fun q hq => g2 q (List.mem_append_left _ hq), fun q => ?_⟩
  rw [tog_mem, g3, g3, List.count_append, List.count_append, List.count_singleton, List.count_singleton]
  by_cases e : q = p
  · subst e
    simp
    omega
  · have e2 : ¬ (p = q) := fun z => e z.symm
    simp [e, e2]
theorem castP_inj {p q : Nat × Nat} (h : castP p = castP q) : p = q := by
  obtain ⟨a, b⟩ := p
  obtain ⟨c, d⟩ := q
  simp only [castP, Prod.mk.injEq] at h
  rw [Prod.mk.injEq]
  omega
theorem cast_mem {ks : List (Nat × Nat)} {p : Nat × Nat} : castP p ∈ ks.map castP ↔ p ∈ ks :=
  ⟨fun h => by
    obtain ⟨q, hq, e⟩ := List.mem_map.mp h
    rw [← castP_inj e]; exact hq, fun h => List.mem_map.mpr ⟨p, h, rfl⟩⟩
theorem tog_cast (ks : List (Nat × Nat)) (p : Nat × Nat) : togP (ks.map castP) (castP p) = (togN ks p).map castP := by
  unfold togP togN
  by_cases h : p ∈ ks
  · rw [if_pos (cast_mem.mpr h), if_pos h, List.filter_map]
    congr 1
    apply List.filter_congr
    intro q _
    show decide (castP q ≠ castP p) = decide (q ≠ p)
    by_cases e : q = p
    · rw [e]; simp
    · have h2 : castP q ≠ castP p := fun z => e (castP_inj z)
      have h3 : q ≠ p := e
      rw [decide_eq_true h2, decide_eq_true h3]
  · rw [if_neg (fun z => h (cast_mem.mp z)), if_neg h, List.map_append]; rfl
theorem good_ks {n : Nat} {ks line : List (Nat × Nat)} (g : Goodm n ks line) : ∀ p ∈ ks, p ∈ allPairs n := fun p hp => by
  refine g.2.1 p (List.count_pos_iff.mp ?_)
  have := (g.2.2 p).mp hp
  omega
theorem good_len {n : Nat} {ks line : List (Nat × Nat)} (g : Goodm n ks line) (h9 : n ≤ 9) : ks.length ≤ 81 :=
  Nat.le_trans (g.1.length_le_of_subset (l₂ := allPairs n) (good_ks g)) (allPairs_len n h9)
theorem good_net {n : Nat} {ks line : List (Nat × Nat)} (g : Goodm n ks line) : IsNet n (ks.mergeSort (le_ pLt)) := ⟨sort_asc ordP g.1, fun p hp => good_ks g p (List.mem_mergeSort.mp hp)⟩
theorem good_sort {n : Nat} {ks line : List (Nat × Nat)} (g : Goodm n ks line) : ks.mergeSort (le_ pLt) = (allPairs n).filter fun p => decide (line.count p % 2 = 1) := by
  have a1 := (good_net g).1
  have a2 : ((allPairs n).filter fun p => decide (line.count p % 2 = 1)).Pairwise fun a b => pLt a b = true := (allPairs_asc n).sublist List.filter_sublist
  have m : ∀ p, p ∈ ks.mergeSort (le_ pLt) ↔ p ∈ (allPairs n).filter fun p => decide (line.count p % 2 = 1) := fun p => by
    rw [List.mem_mergeSort, List.mem_filter, decide_eq_true_iff, ← g.2.2 p]
    exact ⟨fun h => ⟨good_ks g p h, h⟩, fun h => h.2⟩
  have s1 := RM.G.asc_sub ordP a1 a2 fun x hx => (m x).mp hx
  have s2 := RM.G.asc_sub ordP a2 a1 fun x hx => (m x).mpr hx
  exact s1.eq_of_length (Nat.le_antisymm s1.length_le s2.length_le)
theorem res_iff {n : Nat} (h1 : 1 ≤ n) (h9 : n ≤ 9) {Q : List (Nat × Nat)} (hq : IsNet n Q) : (findP n Q).isSome = decide (((turnsTo n n).filter fun u => decide (ledLot u Q = leftLot (allPairs n) Q)) ≠ []) := by
  have hQs : Q.Sublist (allPairs n) := RM.G.asc_sub ordP hq.1 (allPairs_asc _) hq.2
  have hco : ∀ u : List Nat, IsTurn u → u.length = n → (ledLot u Q = leftLot (allPairs n) Q ↔ Comp (symW Q) u) := fun u hu hl => by
    have := led_compP (S := Q) hu (by rw [hl]; exact hQs)
    rw [hl] at this
    exact this
  cases ho : findP n Q with
  | some u =>
    obtain ⟨a, b⟩ := find_turn h1 h9 ho
    have hu : u ∈ (turnsTo n n).filter fun u => decide (ledLot u Q = leftLot (allPairs n) Q) := List.mem_filter.mpr ⟨(turns_all h1 h9).mpr ⟨a, b⟩, decide_eq_true ((hco u a b).mpr (RM.find_some ho).2.1)⟩
    have hne : ((turnsTo n n).filter fun u => decide (ledLot u Q = leftLot (allPairs n) Q)) ≠ [] := fun z => by rw [z] at hu; cases hu
    rw [decide_eq_true hne]; rfl
  | none =>
    have he : ((turnsTo n n).filter fun u => decide (ledLot u Q = leftLot (allPairs n) Q)) = [] := by
      apply List.eq_nil_iff_forall_not_mem.mpr
      intro u hu
      obtain ⟨hu1, hu2⟩ := List.mem_filter.mp hu
      obtain ⟨a, b⟩ := (turns_all h1 h9).mp hu1
      exact RM.find_none ho b (by rw [← b]; exact a.2.2.2) ((hco u a b).mp (of_decide_eq_true hu2))
    have hne : ¬ ((turnsTo n n).filter fun u => decide (ledLot u Q = leftLot (allPairs n) Q)) ≠ [] := fun z => z he
    rw [decide_eq_false hne]; rfl
end DL
end

section
namespace DL
open PySem PySem.Spec PyProof.Rows L2 RM
abbrev s_taken : Stmt := topS 27
abbrev N_taken : List Str := ["row", "many", "found", "cell"]
theorem sc_taken : FnScope N_taken ["row", "many"] (defScope s_taken) := ⟨rfl, rfl, rfl, by decide +kernel, rfl, by decide +kernel, by decide +kernel⟩
def rowD (R : Rw) : List PyData := [scrD R.ns, .int R.i, .int R.r, .int R.c]
section
variable {X : Cx} {Γ Γ1 : Gm}
theorem ee_row {i : Int} {d : PyData} {a : Addr} {r : List PyData} {x : Str} {p1 p2 pos : Pos} {kk : Nat} (hi : atI r i = some d) (h : Γ[0]? = some (some (.pr a r)) := by rfl) (hx : PE X (.Name x p1) (tVar 0) := by exact pe_nm 0) : Ee X Γ (.Subscript (.Name x p1) (.Constant (.int i) kk p2) pos) d Γ :=
  ee_ownIx ee_int h rfl (by rw [h]; rfl) hi hx (has_slot (K := X.K) h)
theorem es_row {i : Int} {j : Nat} {d : PyData} {a : Addr} {r : List PyData} {x : Str} {p1 p2 ps pos : Pos} {kk : Nat} {e : Expr} (he : Ee X Γ e d Γ) (hj : ixN r.length i = some j) (h : Γ[0]? = some (some (.pr a r)) := by rfl) (hx : PE X (.Name x p1) (tVar 0) := by exact pe_nm 0)
    (hq : ∀ v, assign (.Subscript (.Name x p1) (.Constant (.int i) kk p2) ps) X.env v = (do
      let ov ← holding [v] (eval (.Name x p1) X.env)
      let iv ← holding [v, ov] (eval (.Constant (.int i) kk p2) X.env)
      standAt ps
      holding [v, ov, iv] (setItem ov iv v)
      release [v, ov, iv] []) := by intro _; rfl)
    (hs : swapsWithSole [.Subscript (.Name x p1) (.Constant (.int i) kk p2) ps] e pos.line X.env = pure false := by rfl) (hw : swappedStores [.Subscript (.Name x p1) (.Constant (.int i) kk p2) ps] e X.env = pure none := by rfl) (h1 : (assignEach [.Subscript (.Name x p1) (.Constant (.int i) kk p2) ps] X.env).map (·.2) = [assign (.Subscript (.Name x p1) (.Constant (.int i) kk p2) ps) X.env] := by rfl) :
    Es X Γ (.Assign [.Subscript (.Name x p1) (.Constant (.int i) kk p2) ps] e pos) (.nx (Γ.set 0 (some (.pr a (r.set j d))))) :=
  es_setIx (s := .pr a r) (s1 := .pr a r) hx he h rfl ee_int h rfl hj hq hs hw h1
end
section
variable {P : Program} {w : World} {K : PySem.W.Frag} {mg : Str → Option Value} {base : Heap}
def R_taken (row ds : List PyData) (d : PyData) (row' : List PyData) : Prop := ∃ (R : Rw) (m : Int), 0 ≤ R.i ∧ 0 < m ∧ m < 1073741824 ∧ row = rowD R ∧ ds = [.int m] ∧ d = .int (takenM m R).1 ∧ row' = rowD (takenM m R).2
theorem ok_taken (T : Tx mg) (F : Fn K mg "_law_taken" s_taken ["row", "many"]) : Ca P w K mg base 1 "_law_taken" ["row", "many"] (spR K R_taken) := by
  have S := sc_taken
  refine ca_R F S (fun row ds d row' ⟨_, _, _, _, _, _, e, _⟩ => by rw [e]; rfl) fun f cdv A outer s H E r row ds d row' hr ⟨R, m, hi, hm, hm2, e1, e2, e3, e4⟩ => ?_
  subst e1 e2 e3 e4
  have dv : CDivN R.c m := ⟨by omega, by omega⟩
  unfold takenM
  by_cases hc : 0 < R.c
  · rw [if_pos hc]
    refine ⟨_, ess_stop (es_ifT (et_is (et_gt (ee_row rfl) ee_int) (decide_eq_true hc)) (ess_cons (es_set 2 S.nd (ee_mod (ee_intC T.int (ea_cons (ee_row rfl) ea_nil)) (ee_var 1) (by omega))) (ess_cons (es_row (j := 3) (ee_fdiv (ee_row rfl) (ee_var 1) dv) rfl) (ess_stop (es_ret (ee_var 2)) (by intro _ z; cases z))))) (by intro _ z; cases z), rfl⟩
  · rw [if_neg hc]
    by_cases hl : (R.ns.length : Int) < R.i + 1
    · rw [if_pos hl]
      exact ⟨_, ess_cons (es_ifF (et_is (et_gt (ee_row rfl) ee_int) (decide_eq_false hc)) ess_nil) (ess_cons (es_row (j := 1) (ee_add (ee_row rfl) ee_int) rfl) (ess_stop (es_ifT (et_is (et_gt (ee_row (i := 1) rfl) (ee_lenS T.len (ea_cons (ee_row (i := 0) rfl) ea_nil))) (decide_eq_true hl)) (ess_cons (es_row (j := 2) (ee_mod (ee_intC T.int (ea_cons (ee_add (ee_mul (ee_row (i := 2) rfl) ee_int (.inr (by decide))) ee_int) ea_nil)) ee_int (by decide)) rfl) (ess_stop (es_ret (ee_mod (ee_intC T.int (ea_cons (ee_fdiv (ee_row (i := 2) rfl) ee_int ⟨by decide, by decide⟩) ea_nil)) (ee_var 1) (by omega))) (by intro _ z; cases z)))) (by intro _ z; cases z))), rfl⟩
    · rw [if_neg hl]
      have hcell : atI R.ns (R.i + 1 - 1) = some (R.ns.getD R.i.toNat 0) := by
        rw [show R.i + 1 - 1 = ((R.i.toNat : Nat) : Int) by omega]
        refine atI_nat ?_
        rw [List.getD_eq_getElem?_getD, List.getElem?_eq_getElem (by omega)]; rfl
      by_cases hg : 10 ^ 18 ≤ R.ns.getD R.i.toNat 0
      · rw [if_pos hg]
        exact ⟨_, ess_cons (es_ifF (et_is (et_gt (ee_row rfl) ee_int) (decide_eq_false hc)) ess_nil) (ess_cons (es_row (j := 1) (ee_add (ee_row rfl) ee_int) rfl) (ess_cons (es_ifF (et_is (et_gt (ee_row (i := 1) rfl) (ee_lenS T.len (ea_cons (ee_row (i := 0) rfl) ea_nil))) (decide_eq_false hl)) ess_nil) (ess_cons (es_set 3 S.nd (ee_ixS (ee_row (i := 0) rfl) (ee_sub (ee_row (i := 1) rfl) ee_int) hcell)) (ess_cons (es_row (j := 2) (ee_mod (ee_intC T.int (ea_cons (ee_add (ee_add (ee_mul (ee_row (i := 2) rfl) ee_int (.inr (by decide))) (ee_var 3)) ee_int) ea_nil)) ee_int (by decide)) rfl)
          (ess_cons (es_ifT (et_is (et_ge (ee_var 3) (ee_pow ee_int ee_int ⟨by decide, by decide, by decide⟩)) (decide_eq_true hg)) (ess_one (es_row (j := 3) (ee_fdiv (ee_var 3) (ee_var 1) ⟨by omega, by omega⟩) rfl))) (ess_stop (es_ret (ee_mod (ee_intC T.int (ea_cons (ee_var 3) ea_nil)) (ee_var 1) (by omega))) (by intro _ z; cases z))))))), rfl⟩
      · rw [if_neg hg]
        exact ⟨_, ess_cons (es_ifF (et_is (et_gt (ee_row rfl) ee_int) (decide_eq_false hc)) ess_nil) (ess_cons (es_row (j := 1) (ee_add (ee_row rfl) ee_int) rfl) (ess_cons (es_ifF (et_is (et_gt (ee_row (i := 1) rfl) (ee_lenS T.len (ea_cons (ee_row (i := 0) rfl) ea_nil))) (decide_eq_false hl)) ess_nil) (ess_cons (es_set 3 S.nd (ee_ixS (ee_row (i := 0) rfl) (ee_sub (ee_row (i := 1) rfl) ee_int) hcell)) (ess_cons (es_row (j := 2) (ee_mod (ee_intC T.int (ea_cons (ee_add (ee_add (ee_mul (ee_row (i := 2) rfl) ee_int (.inr (by decide))) (ee_var 3)) ee_int) ea_nil)) ee_int (by decide)) rfl)
          (ess_cons (es_ifF (et_is (et_ge (ee_var 3) (ee_pow ee_int ee_int ⟨by decide, by decide, by decide⟩)) (decide_eq_false hg)) ess_nil) (ess_stop (es_ret (ee_mod (ee_intC T.int (ea_cons (ee_var 3) ea_nil)) (ee_var 1) (by omega))) (by intro _ z; cases z))))))), rfl⟩
end
end DL
end

section
namespace DL
open PySem PySem.Spec PyProof.Rows L2 RM
abbrev s_pick : Stmt := topS 28
abbrev N_pick : List Str := ["row", "things"]
theorem sc_pick : FnScope N_pick ["row", "things"] (defScope s_pick) := ⟨rfl, rfl, rfl, by decide +kernel, rfl, by decide +kernel, by decide +kernel⟩
abbrev s_lturn : Stmt := topS 30
abbrev N_lturn : List Str := ["row", "halls", "found", "left"]
theorem sc_lturn : FnScope N_lturn ["row", "halls"] (defScope s_lturn) := ⟨rfl, rfl, rfl, by decide +kernel, rfl, by decide +kernel, by decide +kernel⟩
section
variable {P : Program} {w : World} {K : PySem.W.Frag} {mg : Str → Option Value} {base : Heap}
def pickI (n : Nat) (R : Rw) : Nat := (takenM n R).1.toNat
theorem pickI_lt {n : Nat} {R : Rw} (h : 0 < n) : pickI n R < n ∧ (takenM n R).1 = (pickI n R : Int) := by
  have := taken_lt (m := n) (R := R) (by omega)
  unfold pickI
  omega
def R_pick (row ds : List PyData) (d : PyData) (row' : List PyData) : Prop := ∃ (R : Rw) (xs : List PyData), 0 ≤ R.i ∧ 0 < xs.length ∧ xs.length < 1073741824 ∧ row = rowD R ∧ ds = [.list xs] ∧ xs[pickI xs.length R]? = some d ∧ row' = rowD (takenM xs.length R).2
theorem ok_pick (T : Tx mg) (F : Fn K mg "_law_pick" s_pick ["row", "things"]) (C : Ca P w K mg base 1 "_law_taken" ["row", "many"] (spR K R_taken)) : Ca P w K mg base 2 "_law_pick" ["row", "things"] (spR K R_pick) := by
  have S := sc_pick
  refine ca_R F S (fun row ds d row' ⟨_, _, _, _, _, _, e, _⟩ => by rw [e]; rfl) fun f cdv A outer s H E r row ds d row' hr ⟨R, xs, hi, h1, h2, e1, e2, e3, e4⟩ => ?_
  subst e1 e2 e4
  have hx : atI xs (takenM xs.length R).1 = some d := by
    rw [(pickI_lt h1).2]
    exact atI_nat e3
  exact ⟨_, ess_stop (es_ret (ee_ixL (ee_var 1) (ee_caR C hr (pe_nm 0) rfl rfl (ea_cons (ee_len T.len (ea_cons (ee_var 1) ea_nil) rfl) ea_nil) rfl rfl ⟨R, xs.length, hi, by omega, by omega, rfl, rfl, rfl, rfl⟩) hx)) (by intro _ z; cases z), rfl⟩
/-- _law_turn: the turn and the row behind it -/
def drawT : Nat → List Nat → List Nat → Rw → List Nat × Rw
  | 0, found, _, R => (found, R)
  | k + 1, found, left, R => drawT k (found ++ [left.getD (pickI left.length R) 0]) (left.eraseIdx (pickI left.length R)) (takenM left.length R).2
def turnM (n : Nat) (R : Rw) : List Nat × Rw := drawT n [] (List.range n) R
def R_lturn (row ds : List PyData) (d : PyData) (row' : List PyData) : Prop := ∃ (R : Rw) (n : Nat), 0 ≤ R.i ∧ n ≤ 9 ∧ row = rowD R ∧ ds = [iN n] ∧ d = tn (turnM n R).1 ∧ row' = rowD (turnM n R).2
theorem ix_nat {n j : Nat} (hj : j < n) : ixN n (j : Int) = some j := by
  unfold ixN
  rw [if_pos (by omega), if_pos (by omega), Int.toNat_natCast]
theorem ok_lturn (T : Tx mg) (F : Fn K mg "_law_turn" s_lturn ["row", "halls"]) (C : Ca P w K mg base 1 "_law_taken" ["row", "many"] (spR K R_taken)) : Ca P w K mg base 2 "_law_turn" ["row", "halls"] (spR K R_lturn) := by
  have S := sc_lturn
  refine ca_R F S (fun row ds d row' ⟨_, _, _, _, _, e, _⟩ => by rw [e]; rfl) fun f cdv A outer s H E r row ds d row' hr ⟨R, n, hi, h9, e1, e2, e3, e4⟩ => ?_
  subst e1 e2 e3 e4
  -- the state of the loop's turn i
  let st : Nat → List Nat × List Nat × Rw := fun i => Nat.rec ([], List.range n, R) (fun _ q => (q.1 ++ [q.2.1.getD (pickI q.2.1.length q.2.2) 0], q.2.1.eraseIdx (pickI q.2.1.length q.2.2), (takenM q.2.1.length q.2.2).2)) i
  have st0 : st 0 = ([], List.range n, R) := rfl
  have stS : ∀ i, st (i + 1) = ((st i).1 ++ [(st i).2.1.getD (pickI (st i).2.1.length (st i).2.2) 0], (st i).2.1.eraseIdx (pickI (st i).2.1.length (st i).2.2), (takenM (st i).2.1.length (st i).2.2).2) := fun i => rfl
  have hlen : ∀ i, i ≤ n → (st i).2.1.length = n - i ∧ (st i).1.length = i ∧ 0 ≤ (st i).2.2.i := by
    intro i
    induction i with
    | zero => intro _; exact ⟨by rw [st0]; show (List.range n).length = _; rw [List.length_range]; rfl, rfl, hi⟩
    | succ i ih =>
      intro hin
      obtain ⟨i1, i2, i3⟩ := ih (by omega)
      rw [stS]
      refine ⟨?_, ?_, taken_i i3⟩
      · show ((st i).2.1.eraseIdx _).length = _
        rw [List.length_eraseIdx_of_lt (pickI_lt (by omega)).1, i1]; omega
      · show ((st i).1 ++ [_]).length = _
        rw [List.length_append, i2]; rfl
  have hdr : ∀ k i, drawT k (st i).1 (st i).2.1 (st i).2.2 = ((st (i + k)).1, (st (i + k)).2.2) := by
    intro k
    induction k with
    | zero => intro i; rfl
    | succ k ih =>
      intro i
      have := ih (i + 1)
      rw [show i + 1 + k = i + (k + 1) by omega] at this
      rw [← this]; rfl
  let G : Nat → Gm := fun i => ((slotsR N_lturn r (rowD (st i).2.2) [iN n]).set 2 (some (.im (tn (st i).1)))).set 3 (some (.ow ((st i).2.1.map iN)))
  have hfin : turnM n R = ((st n).1, (st n).2.2) := by
    have := hdr n 0
    rw [Nat.zero_add] at this
    rw [← this]; rfl
  rw [hfin]
  refine ⟨_, ess_cons (es_par2 2 3 rfl S.nd (by decide) (ek_d (ee_tup (ds := []) ea_nil (by decide))) (ek_n (en_listRg (n := n) rfl T.list T.range (ee_var 1) (by omega)))) (ess_cons (Γ1 := G n) (es_while G G (fun i => .nx (G (i + 1))) n false PassesOwn.never (fun i hin => ?_) (fun i hin => ?_) ?_ (fun z => by cases z) (fun _ => rfl)) (ess_stop (es_ret (ee_var 2)) (by intro _ z; cases z))), rfl⟩
  · refine et_is (et_cmpOwnL (op_neD hr.units) (ee_new (en_lst (ds := []) ea_nil (by decide))) (has_slot (K := K) (n := 3) (s := .ow ((st i).2.1.map iN)) rfl) (s := .ow ((st i).2.1.map iN)) rfl rfl (pe_nm 3) (rd_neD (sh_iNs _) sh_nil) (nomark _)) ?_
    have h1 := (hlen i (by omega)).1
    show (!PyData.eqv (.list ((st i).2.1.map iN)) (.list (([] : List Nat).map iN))) = true
    rw [eqv_list iN_eqv, decide_eq_false (fun z => by rw [z] at h1; simp at h1; omega)]; rfl
  · obtain ⟨h1, h2, h3⟩ := hlen i (by omega)
    have hp := pickI_lt (n := (st i).2.1.length) (R := (st i).2.2) (by omega)
    refine ⟨ess_one ?_, .inl rfl⟩
    let j := pickI (st i).2.1.length (st i).2.2
    have m1 : ((st i).2.1.map iN).eraseIdx j = ((st i).2.1.eraseIdx j).map iN := by
      rw [List.eraseIdx_eq_take_drop_succ, List.eraseIdx_eq_take_drop_succ, List.map_append, List.map_take, List.map_drop]
    have m2 : (st i).1.map iN ++ [iN ((st i).2.1.getD j 0)] = ((st i).1 ++ [(st i).2.1.getD j 0]).map iN := by simp
    have eG : G (i + 1) = (((G i).set 0 (some (.pr r (rowD (takenM (st i).2.1.length (st i).2.2).2)))).set 3 (some (.ow (((st i).2.1.map iN).eraseIdx j)))).set 2 (some (.im (.tuple ((st i).1.map iN ++ [iN ((st i).2.1.getD j 0)])))) := by
      rw [m1, m2]; rfl
    rw [eG]
    have RR : R_taken (rowD (st i).2.2) [.int ((slotDs (.ow ((st i).2.1.map iN))).length : Nat)] (.int (takenM (st i).2.1.length (st i).2.2).1) (rowD (takenM (st i).2.1.length (st i).2.2).2) := ⟨(st i).2.2, ((st i).2.1.length : Int), h3, by omega, by omega, rfl, by show [PyData.int (((st i).2.1.map iN).length : Nat)] = _; rw [List.length_map], rfl, rfl⟩
    refine es_set 2 S.nd (ee_catT (ds2 := [iN ((st i).2.1.getD j 0)]) (ee_var 2) (ee_tup (ea_cons (ee_popAt (s := .ow ((st i).2.1.map iN)) (s1 := .ow ((st i).2.1.map iN)) (i := (takenM (st i).2.1.length (st i).2.2).1) (j := j) (pe_nm 3) rfl rfl (ea_cons (ee_caR C hr (pe_nm 0) rfl rfl (ea_cons (ee_lenOwn (s := .ow ((st i).2.1.map iN)) T.len rfl rfl (pe_nm 3)) ea_nil) (s1 := .pr r (rowD (st i).2.2)) rfl rfl RR) ea_nil) rfl rfl ?b1 ?b2 ?b3 ?b4) ea_nil) (by simp)) ?b5)
    case b1 => rw [hp.2]; omega
    case b2 => rw [hp.2]; omega
    case b3 =>
      show seqIndex? _ ((st i).2.1.map iN).length = _
      rw [hp.2, List.length_map]
      exact (ixN_seq (ix_nat hp.1)).1
    case b4 =>
      show ((st i).2.1.map iN)[_]? = _
      rw [List.getElem?_map, List.getD_eq_getElem?_getD, List.getElem?_eq_getElem hp.1]; rfl
    case b5 =>
      rw [List.length_map, h2]
      show i + 1 ≤ _
      omega
  · refine et_is (et_cmpOwnL (op_neD hr.units) (ee_new (en_lst (ds := []) ea_nil (by decide))) (has_slot (K := K) (n := 3) (s := .ow ((st n).2.1.map iN)) rfl) (s := .ow ((st n).2.1.map iN)) rfl rfl (pe_nm 3) (rd_neD (sh_iNs _) sh_nil) (nomark _)) ?_
    have h1 := (hlen n (by omega)).1
    show (!PyData.eqv (.list ((st n).2.1.map iN)) (.list (([] : List Nat).map iN))) = false
    rw [eqv_list iN_eqv, decide_eq_true (List.eq_nil_of_length_eq_zero (by omega))]; rfl
end
end DL
end

section
namespace DL
open PySem PySem.Spec PyProof.Rows L2 RM
abbrev s_lleft : Stmt := topS 33
abbrev N_lleft : List Str := ["every", "some", "thing"]
theorem sc_lleft : FnScope N_lleft ["every", "some"] (defScope s_lleft) := ⟨rfl, rfl, rfl, by decide +kernel, rfl, by decide +kernel, by decide +kernel⟩
section
variable {P : Program} {w : World} {K : PySem.W.Frag} {mg : Str → Option Value} {base : Heap}
def R_lleft (ds : List PyData) (d : PyData) : Prop := ∃ (E Q : List (Nat × Nat)), E.length ≤ 81 ∧ ds = [.list (E.map pN), rN Q] ∧ d = rN (leftLot E Q)
theorem ok_lleft (T : Tx mg) (F : Fn K mg "_law_left" s_lleft ["every", "some"]) : Ca P w K mg base 1 "_law_left" ["every", "some"] (spD K R_lleft) := by
  have S := sc_lleft
  refine ca_Er F S (fun ds d ⟨_, _, _, e, _⟩ => by rw [e]; rfl) fun f cdv A outer s H E ds d hr ⟨Ev, Q, hl, e1, e2⟩ => ?_
  subst e1 e2
  refine er_ret (ee_tupL T.tuple (ea_cons (ee_new (en_lc (own := [("thing", 2)]) Ev pN (fun p => !decide (p ∈ Q)) pN (fun p => (slots0 N_lleft [.list (Ev.map pN), rN Q]).set 2 (some (.im (pN p)))) [2] rfl S.nd (blkOk_by (N := N_lleft) (sc := defScope s_lleft) (by decide +kernel)) rfl (by decide) (by omega) (fun x _ => less_set rfl) (ei_list (ee_var 0)) (fun x hx _ _ _ _ _ => (eg_name 2 S.nd))
    (fun x hx _ _ _ _ _ => (ets_one (et_is (et_notIn hr (ee_var 2) (ee_var 1) rfl (sh_pN x) (sh_pNs Q)) ?tt))) (fun x hx hf _ _ _ _ _ => (ee_var 2)))) ea_nil))
  case tt =>
    rw [any_eqv pN_eqv]
    by_cases h : x ∈ Q <;> simp [h]
end
end DL
end

section
namespace DL
open PySem PySem.Spec PyProof.Rows L2 RM
abbrev s_alike : Stmt := topS 29
abbrev N_alike : List Str := ["found", "due", "k"]
theorem sc_alike : FnScope N_alike ["found", "due"] (defScope s_alike) := ⟨rfl, rfl, rfl, by decide +kernel, rfl, by decide +kernel, by decide +kernel⟩
def isSeqD : PyData → Bool
  | .list _ => true
  | .tuple _ => true
  | _ => false
mutual
def smallD : PyData → Bool
  | .list xs => decide (xs.length ≤ 16777216) && smallAll xs
  | .tuple xs => decide (xs.length ≤ 16777216) && smallAll xs
  | .none => true
  | .bool _ => true
  | .int _ => true
  | .str _ => true
  | .dict _ => true
def smallAll : List PyData → Bool
  | [] => true
  | x :: xs => smallD x && smallAll xs
end
theorem small_all : ∀ {xs : List PyData}, smallAll xs = true → ∀ x ∈ xs, smallD x = true
  | [], _, _, h => by cases h
  | y :: ys, h, x, hx => by
    rw [smallAll, Bool.and_eq_true] at h
    rcases List.mem_cons.mp hx with e | e
    · rw [e]; exact h.1
    · exact small_all h.2 x e
theorem small_of {a : PyData} {xs : List PyData} (h : smallD a = true) (hi : itemsOf a = some xs) : xs.length ≤ 16777216 ∧ smallAll xs = true := by
  cases a with
  | list ys =>
    cases hi
    rw [smallD, Bool.and_eq_true] at h
    exact ⟨of_decide_eq_true h.1, h.2⟩
  | tuple ys =>
    cases hi
    rw [smallD, Bool.and_eq_true] at h
    exact ⟨of_decide_eq_true h.1, h.2⟩
  | _ => cases hi
theorem small_mapAll {α : Type} {enc : α → PyData} : ∀ {xs : List α}, (∀ x ∈ xs, smallD (enc x) = true) → smallAll (xs.map enc) = true
  | [], _ => by rw [List.map_nil, smallAll]
  | x :: xs, h => by rw [List.map_cons, smallAll, h x List.mem_cons_self, small_mapAll fun y hy => h y (List.mem_cons_of_mem _ hy)]; rfl
theorem small_tup {α : Type} {enc : α → PyData} {xs : List α} (h : ∀ x ∈ xs, smallD (enc x) = true) (hl : xs.length ≤ 16777216) : smallD (.tuple (xs.map enc)) = true := by
  rw [smallD, small_mapAll h, List.length_map, decide_eq_true hl]; rfl
section
variable {P : Program} {w : World} {K : PySem.W.Frag} {mg : Str → Option Value} {base : Heap}
def R_alike (m : Nat) (ds : List PyData) (d : PyData) : Prop := ∃ a, ds = [a, a] ∧ SeqAt.shaped a = true ∧ a.depth ≤ m ∧ smallD a = true ∧ d = .bool true
theorem alike_leaf (T : Tx mg) {f : Addr} {cdv : Value} {A : Around} {outer : List Env} {s : Shared} {H : Hp} {E : XK} {j : Nat} (hr : Room j (A.deeper (envOfC "_law_alike" (defScope s_alike) s.heap.objs.size f cdv))) {a : PyData} (ha : SeqAt.shaped a = true) (hs : isSeqD a = false) :
    Er (cxOf CX0 P w K mg base N_alike "_law_alike" (defScope s_alike) f cdv A outer s H E).nox (slots0 N_alike [a, a]) (defBody s_alike) (.bool true) := by
  have hd := sh_dict ha
  have hrefl : PyData.eqv a a = true := PySem.SeqAt.eqv_refl a (SeqAt.canLay_of_shaped ha)
  refine er_ifF (et_is (et_val (ee_isi2 T.isinstance T.tuple bt_tuple T.list bt_list (ee_var 1) hd (kit_tuple a) (kit_list a))) ?c1) ?_
  case c1 => cases a <;> first | rfl | (simp [isSeqD] at hs)
  cases h : isNo a || isStrD a with
  | true =>
    refine er_ifT (et_is (et_w (ew_or (et_isN (ee_var 1) ee_non) fun _ => (ew_or1 (et_val (ee_isi T.isinstance T.str bt_str (ee_var 1) hd (kit_str a)))))) h) ?_
    refine er_is (er_ret (ee_and (ee_eqD hr (ee_var 0) (ee_var 1) ha ha) fun _ => (ee_one (ee_eqD hr (ee_isi T.isinstance T.str bt_str (ee_var 0) hd (kit_str a)) (ee_isi T.isinstance T.str bt_str (ee_var 1) hd (kit_str a)) (sh_bool _) (sh_bool _))))) ?_
    rw [hrefl, bool_eqv, decide_eq_true rfl]; rfl
  | false =>
    refine er_ifF (et_is (et_w (ew_or (et_isN (ee_var 1) ee_non) fun _ => (ew_or1 (et_val (ee_isi T.isinstance T.str bt_str (ee_var 1) hd (kit_str a)))))) h) ?_
    refine er_is (er_ret (ee_and (ee_isi T.isinstance T.int bt_int (ee_var 0) hd (kit_int a)) fun _ => (ee_and (ee_eqD hr (ee_isi T.isinstance T.bool bt_bool (ee_var 0) hd (kit_bool a)) (ee_isi T.isinstance T.bool bt_bool (ee_var 1) hd (kit_bool a)) (sh_bool _) (sh_bool _)) fun _ => (ee_one (ee_eqD hr (ee_var 0) (ee_var 1) ha ha))))) ?_
    rw [hrefl, bool_eqv, decide_eq_true rfl]
    cases a <;> first | rfl | (cases hs; done) | (cases h; done) | exact absurd rfl (hd _)
theorem seq_item {a : PyData} {xs : List PyData} {x : PyData} {m : Nat} (ha : SeqAt.shaped a = true) (hm : a.depth ≤ m + 1) (hi : itemsOf a = some xs) (hx : x ∈ xs) : SeqAt.shaped x = true ∧ x.depth ≤ m := by
  have h1 := SeqAt.canLay_of_shaped ha
  have h2 := SeqAt.depth_of_shaped ha
  have h3 := depth_le hx
  cases a with
  | list ys =>
    cases hi
    rw [PyData.canLay0] at h1
    rw [PyData.depth] at h2 hm
    exact ⟨shaped_of (layAll_mem h1 hx) (by omega), by omega⟩
  | tuple ys =>
    cases hi
    rw [PyData.canLay0] at h1
    rw [PyData.depth] at h2 hm
    exact ⟨shaped_of (layAll_mem h1 hx) (by omega), by omega⟩
  | _ => cases hi
theorem ee_ixSeq {X : Cx} {Γ Γ1 Γ2 : Gm} {e b : Expr} {pos : Pos} {d d2 : PyData} {ds : List PyData} {i : Int} (ha : Ee X Γ e d2 Γ1) (hit : itemsOf d2 = some ds) (hb : Ee X Γ1 b (.int i) Γ2) (hi : atI ds i = some d) (hs : PlainIx b := by exact fun _ _ => rfl) : Ee X Γ (.Subscript e b pos) d Γ2 := by
  cases d2 with
  | list xs => cases hit; exact ee_ixL ha hb hi hs
  | tuple xs => cases hit; exact ee_ixT ha hb hi hs
  | _ => cases hit
theorem ok_alike (T : Tx mg) (F : Fn K mg "_law_alike" s_alike ["found", "due"]) : ∀ m, Ca P w K mg base (m + 1) "_law_alike" ["found", "due"] (spD K (R_alike m))
  | 0 => by
    have S := sc_alike
    refine ca_Er F S (fun ds d ⟨_, e, _⟩ => by rw [e]; rfl) fun f cdv A outer s H E ds d hr ⟨a, e1, ha, hm, hx, e2⟩ => ?_
    subst e1 e2
    refine alike_leaf T hr ha ?_
    cases a <;> first | rfl | (simp [PyData.depth] at hm)
  | m + 1 => by
    have S := sc_alike
    have C := ok_alike T F m
    refine ca_Er F S (fun ds d ⟨_, e, _⟩ => by rw [e]; rfl) fun f cdv A outer s H E ds d hr ⟨a, e1, ha, hm, hx, e2⟩ => ?_
    subst e1 e2
    cases hq : isSeqD a with
    | false => exact alike_leaf T hr ha hq
    | true =>
      have hd := sh_dict ha
      obtain ⟨xs, hit⟩ : ∃ xs, itemsOf a = some xs := by
        cases a <;> first | exact ⟨_, rfl⟩ | (cases hq; done)
      have hL := (small_of hx hit).1
      have htl : (isTupD a || isListD a) = true := by cases a <;> first | rfl | (cases hq; done)
      have hmem : ∀ x ∈ xs, SeqAt.shaped x = true ∧ x.depth ≤ m ∧ smallD x = true := fun x hxm => ⟨(seq_item ha hm hit hxm).1, (seq_item ha hm hit hxm).2, small_all (small_of hx hit).2 x hxm⟩
      refine er_ifT (et_is (et_val (ee_isi2 T.isinstance T.tuple bt_tuple T.list bt_list (ee_var 1) hd (kit_tuple a) (kit_list a))) htl) ?_
      refine er_ifF (et_is (et_w (ew_or (et_not (et_val (ee_isi2 T.isinstance T.tuple bt_tuple T.list bt_list (ee_var 0) hd (kit_tuple a) (kit_list a)))) fun _ => (ew_or1 (et_neD hr (ee_isi T.isinstance T.list bt_list (ee_var 0) hd (kit_list a)) (ee_isi T.isinstance T.list bt_list (ee_var 1) hd (kit_list a)) (sh_bool _) (sh_bool _))))) ?c2) ?_
      case c2 => rw [htl, bool_eqv, decide_eq_true rfl]; rfl
      refine er_ifF (et_is (et_neD hr (ee_len T.len (ea_cons (ee_var 0) ea_nil) hit) (ee_len T.len (ea_cons (ee_var 1) ea_nil) hit) (sh_int _) (sh_int _)) ?c3) ?_
      case c3 => rw [int_eqv, decide_eq_true rfl]; rfl
      refine er_is (er_ret (ee_eqD hr (ee_new (en_lc (own := [("k", 2)]) (List.range xs.length) iN (fun _ => false) iN (fun k => (slots0 N_alike [a, a]).set 2 (some (.im (iN k)))) [2] rfl S.nd (blkOk_by (N := N_alike) (sc := defScope s_alike) (by decide +kernel)) rfl (by decide) (by rw [List.length_range]; exact hL) (fun x _ => less_set rfl) (ei_is (ei_range1 T.range (ea_cons (ee_len T.len (ea_cons (ee_var 1) ea_nil) hit) ea_nil) (by omega) (by omega)) (rngD_N _)) (fun x hx _ _ _ _ _ => (eg_name 2 S.nd))
        (fun k hk _ _ _ _ _ => (ets_one (et_is (et_not (et_val (ee_ca C hr (ea_cons (ee_ixSeq (ee_var 0) hit (ee_var 2) (atI_nat (List.getElem?_eq_getElem (List.mem_range.mp hk)))) (ea_cons (ee_ixSeq (ee_var 1) hit (ee_var 2) (atI_nat (List.getElem?_eq_getElem (List.mem_range.mp hk)))) ea_nil)) ⟨xs[k]'(List.mem_range.mp hk), rfl, (hmem _ (List.getElem_mem _)).1, (hmem _ (List.getElem_mem _)).2.1, (hmem _ (List.getElem_mem _)).2.2, rfl⟩ (Nat.le_refl _)))) rfl))) (fun x hx hf _ _ _ _ _ => (ee_var 2)))) (ee_new (en_lst (ds := []) ea_nil (by decide))) ?s1 sh_nil)) ?_
      · rw [List.filter_eq_nil_iff.mpr (by intro _ _ z; cases z)]; exact sh_nil
      · rw [List.filter_eq_nil_iff.mpr (by intro _ _ z; cases z)]
        rfl
end
end DL
end

section
namespace DL
open PySem PySem.Spec PyProof.Rows L2 RM
section
variable {P : Program} {w : World} {K : PySem.W.Frag} {mg : Str → Option Value} {base : Heap} {C : Addr}
theorem sh_rNs (L : List (List (Nat × Nat))) : SeqAt.shaped (.list (L.map rN)) = true := sh_lst L rN_lay fun x => Nat.le_trans (rN_dep x) (by decide)
theorem alk {a b : PyData} (h : a = b) (h1 : SeqAt.shaped a = true) (h2 : a.depth ≤ 4) (h3 : smallD a = true) : R_alike 4 [a, b] (.bool true) := ⟨a, by rw [h], h1, h2, h3, rfl⟩
theorem nil_eqv {α : Type} [DecidableEq α] {enc : α → PyData} (he : ∀ a b, PyData.eqv (enc a) (enc b) = decide (a = b)) (xs : List α) : PyData.eqv (.list (xs.map enc)) (.list []) = decide (xs = []) := eqv_list he xs []
theorem small_nN {n : Nat} {l : List (Nat × Nat)} (h : l.length ≤ 1000) : smallD (nN n l) = true := by
  have h1 : smallD (rN l) = true := small_tup (fun x _ => by simp [pN, iN, smallD, smallAll]) (by omega)
  unfold nN
  rw [smallD, smallAll, smallAll, h1, smallAll]
  simp [iN, smallD]
theorem cnt_one (xs : List Nat) : (xs.map iN).countP (fun y => PyData.eqv y (.int 1)) = xs.countP fun z => decide (z = 1) := by
  rw [List.countP_map]
  congr 1
  funext z
  exact iN_eqv z 1
theorem left_eq (E l : List (Nat × Nat)) : RM.G.leftE E l = leftLot E l := List.filter_congr fun x _ => by by_cases h : x ∈ l <;> simp [h]
/-- the row behind i draws of one of m -/
def drawAt (m : Int) (R : Rw) : Nat → Rw
  | 0 => R
  | i + 1 => (takenM m (drawAt m R i)).2
theorem drawAt_i {m : Int} {R : Rw} (h : 0 ≤ R.i) : ∀ i, 0 ≤ (drawAt m R i).i
  | 0 => h
  | i + 1 => taken_i (drawAt_i h i)
/-- the things for which 0 is drawn -/
def drawn (R : Rw) (E : List (Nat × Nat)) : List (Nat × Nat) := ((List.range E.length).filter fun i => PyData.eqv (.int (takenM 2 (drawAt 2 R i)).1) (.int 0)).map fun i => E.getD i (0, 0)
theorem range_getD (E : List (Nat × Nat)) : (List.range E.length).map (fun i => E.getD i (0, 0)) = E := by
  apply List.ext_getElem
  · rw [List.length_map, List.length_range]
  · intro i h1 h2
    rw [List.getElem_map, List.getElem_range, List.getD_eq_getElem?_getD, List.getElem?_eq_getElem h2]; rfl
theorem drawn_sub (R : Rw) (E : List (Nat × Nat)) : (drawn R E).Sublist E := by
  have h : (drawn R E).Sublist ((List.range E.length).map fun i => E.getD i (0, 0)) := List.Sublist.map _ List.filter_sublist
  rw [range_getD] at h
  exact h
theorem tn_eqv (a b : List Nat) : PyData.eqv (tn a) (tn b) = decide (a = b) := eqv_tup iN_eqv a b
theorem rep_one {α : Type} (x : α) : ∀ n : Nat, (List.replicate n [x]).flatten = List.replicate n x
  | 0 => rfl
  | n + 1 => by rw [List.replicate_succ, List.flatten_cons, rep_one x n]; rfl
end
end DL
end

section
namespace DL
open PySem PySem.Spec PyProof.Rows L2 RM
abbrev s_lpairs : Stmt := topS 31
abbrev N_lpairs : List Str := ["halls", "found", "one", "other"]
theorem sc_lpairs : FnScope N_lpairs ["halls"] (defScope s_lpairs) := ⟨rfl, rfl, rfl, by decide +kernel, rfl, by decide +kernel, by decide +kernel⟩
abbrev s_lled : Stmt := topS 32
abbrev N_lled : List Str := ["turn", "pairs", "one", "other"]
theorem sc_lled : FnScope N_lled ["turn", "pairs"] (defScope s_lled) := ⟨rfl, rfl, rfl, by decide +kernel, rfl, by decide +kernel, by decide +kernel⟩
section
variable {P : Program} {w : World} {K : PySem.W.Frag} {mg : Str → Option Value} {base : Heap}
theorem ok_lpairs (T : Tx mg) (F : Fn K mg "_law_pairs" s_lpairs ["halls"]) : Ca P w K mg base 1 "_law_pairs" ["halls"] (spD K R_all_pairs) := by
  have S := sc_lpairs
  refine ca_Er F S (fun ds d ⟨n, e, _⟩ => by rw [e]; rfl) fun f cdv A outer s H E ds d hr ⟨n, e1, hn, e2⟩ => ?_
  subst e1 e2
  let Γ0 : Gm := slots0 N_lpairs [iN n]
  let G : Nat → Gm := fun i => (Γ0.set 1 (some (.im (.list ((pairsTo n i).map pN))))).set 2 (if i = 0 then none else some (.im (iN (i - 1))))
  let G' : Nat → Gm := fun i => (Γ0.set 1 (some (.im (.list ((pairsTo n i).map pN))))).set 2 (some (.im (iN i)))
  have hle : ∀ i, i ≤ n → (pairsTo n i).length ≤ 9 * i := by
    intro i
    induction i with
    | zero => intro _; exact Nat.le_refl 0
    | succ i ih =>
      intro hi
      have := ih (by omega)
      rw [pairsTo_succ, List.length_append, List.length_map, List.length_range]
      omega
  refine er_cons (es_set 1 S.nd (ee_new (en_lst (ds := []) ea_nil (by decide)))) ?_
  refine er_cons (Γ1 := G n) (es_for (is := [2]) G G' (fun i => .nx (G (i + 1))) n PassesOwn.never rfl (ei_is (ei_range1 T.range (ea_cons (ee_var 0) ea_nil) (by omega) (by omega)) (rngD_N n)) (by rw [List.length_map, List.length_range]; exact Nat.le_refl _) (fun i d hd _ => ?_) (fun i hi => ⟨?_, .inl rfl⟩) (.inl ⟨by rw [List.length_map, List.length_range], rfl⟩)) ?_
  · rw [List.getElem?_map] at hd
    have hi : i < n := by
      apply Classical.byContradiction
      intro h
      rw [List.getElem?_eq_none (by rw [List.length_range]; omega)] at hd
      cases hd
    rw [List.getElem?_range hi] at hd
    cases hd
    exact eg_name 2 S.nd
  · have h1 := hle i (by omega)
    have e : G (i + 1) = (G' i).set 1 (some (.im (.list ((pairsTo n (i + 1)).map pN)))) := by
      show (Γ0.set 1 _).set 2 (if i + 1 = 0 then _ else _) = _
      rw [if_neg (Nat.succ_ne_zero i), Nat.add_sub_cancel]
      rfl
    have em : (pairsTo n (i + 1)).map pN = (pairsTo n i).map pN ++ ((List.range (n - (i + 1))).filter fun _ => true).map fun j => pN (i, i + 1 + j) := by
      rw [pairsTo_succ, List.map_append, List.map_map, List.filter_eq_self.mpr (fun _ _ => rfl)]; rfl
    rw [e, em]
    refine ess_one (es_set 1 S.nd (ee_new (en_cat (ee_var 1) (ee_new (en_lc (own := [("other", 3)]) (List.range (n - (i + 1))) (fun j => iN (i + 1 + j)) (fun _ => true) (fun j => pN (i, i + 1 + j)) (fun j => (G' i).set 3 (some (.im (iN (i + 1 + j))))) [3] rfl S.nd (blkOk_by (N := N_lpairs) (sc := defScope s_lpairs) (by decide +kernel)) rfl (by decide) ?hsz (fun x _ => less_set rfl)
      (ei_is (ei_range2 T.range (ea_cons (ee_add (ee_var 2) ee_int) (ea_cons (ee_var 0) ea_nil)) ?b1) (rngD_from (i + 1) n)) (fun x hx _ _ _ _ _ => (eg_name 3 S.nd)) (fun x hx _ _ _ _ _ => ets_nil) (fun x hx hf _ _ _ _ _ => (ee_tup (ea_cons (ee_var 2) (ea_cons (ee_var 3) ea_nil)))))) ?hl)))
    case hsz => rw [List.length_range]; omega
    case b1 => omega
    case hl =>
      rw [List.length_map, List.length_map]
      have := List.length_filter_le (fun _ => true) (List.range (n - (i + 1)))
      rw [List.length_range] at this
      omega
  · exact er_ret (ee_var 1)
def R_lled (ds : List PyData) (d : PyData) : Prop := ∃ (t : List Nat) (Q : List (Nat × Nat)), (∀ p ∈ Q, p.1 < t.length ∧ p.2 < t.length) ∧ Q.length ≤ 81 ∧ ds = [tn t, rN Q] ∧ d = rN (ledLot t Q)
theorem ok_lled (T : Tx mg) (F : Fn K mg "_law_led" s_lled ["turn", "pairs"]) : Ca P w K mg base 1 "_law_led" ["turn", "pairs"] (spD K R_lled) := by
  have S := sc_lled
  refine ca_Er F S (fun ds d ⟨_, _, _, _, e, _⟩ => by rw [e]; rfl) fun f cdv A outer s H E ds d hr ⟨t, Q, hq, hl, e1, e2⟩ => ?_
  subst e1 e2
  refine er_ret (ee_tupL T.tuple (ea_cons (ee_new (en_sortP (S := Q.map (ledPair t)) hr T.sorted (ea_cons (ee_new (en_lc (own := [("one", 2), ("other", 3)]) Q pN (fun _ => true) (fun p => pN (ledPair t p)) (fun p => ((slots0 N_lled [tn t, rN Q]).set 2 (some (.im (iN p.1)))).set 3 (some (.im (iN p.2)))) [2, 3] rfl S.nd (blkOk_by (N := N_lled) (sc := defScope s_lled) (by decide +kernel)) rfl (by decide) (by omega) (fun x _ => less_set2 rfl) (ei_tup (ee_var 1)) (fun x hx _ _ _ _ _ => (eg_tup2 rfl (eg_name 2 S.nd) (eg_name 3 S.nd))) (fun x hx _ _ _ _ _ => ets_nil)
    (fun x hx hf _ _ _ _ _ => (ee_is (ee_tupL T.tuple (ea_cons (ee_new (en_sortI (t := [at_ t x.1, at_ t x.2]) hr T.sorted (ea_cons (ee_new (en_lst (ds := [iN (at_ t x.1), iN (at_ t x.2)]) (ea_cons (ee_ixT (ee_var 0) (ee_var 2) (at_get (hq x hx).1)) (ea_cons (ee_ixT (ee_var 0) (ee_var 3) (at_get (hq x hx).2)) ea_nil)) (by simp))) ea_nil) rfl)) ea_nil)) ?two)))) ea_nil) ?its)) ea_nil))
  case two => rw [sort_two]; rfl
  case its =>
    show some _ = some _
    rw [List.filter_eq_self.mpr (fun _ _ => rfl), List.map_map]; rfl
end
end DL
end

section
namespace DL
open PySem PySem.Spec PyProof.Rows L2 RM
abbrev s_ringed : Stmt := topS 34
abbrev N_ringed : List Str := ["row", "lengths", "halls", "names", "found", "at", "length", "step"]
theorem sc_ringed : FnScope N_ringed ["row", "lengths"] (defScope s_ringed) := ⟨rfl, rfl, rfl, by decide +kernel, rfl, by decide +kernel, by decide +kernel⟩
theorem drawT_perm : ∀ (k : Nat) (found left : List Nat) (R : Rw), left.length = k → (drawT k found left R).1.Perm (found ++ left)
  | 0, found, left, R, h => by
    rw [List.eq_nil_of_length_eq_zero h, List.append_nil]
    exact List.Perm.refl _
  | k + 1, found, left, R, h => by
    have hj := (pickI_lt (n := left.length) (R := R) (by omega)).1
    have e : left.getD (pickI left.length R) 0 = left[pickI left.length R] := by
      rw [List.getD_eq_getElem?_getD, List.getElem?_eq_getElem hj]; rfl
    rw [drawT, e]
    refine (drawT_perm k _ _ _ (by rw [List.length_eraseIdx_of_lt hj]; omega)).trans ?_
    rw [List.append_assoc]
    exact (List.perm_append_left_iff _).mpr (cons_erase hj)
theorem drawT_i : ∀ (k : Nat) (found left : List Nat) (R : Rw), 0 ≤ R.i → 0 ≤ (drawT k found left R).2.i
  | 0, _, _, _, h => h
  | k + 1, _, _, _, h => drawT_i k _ _ _ (taken_i h)
theorem turnM_perm (n : Nat) (R : Rw) : (turnM n R).1.Perm (List.range n) := drawT_perm n [] (List.range n) R List.length_range
theorem turnM_len (n : Nat) (R : Rw) : (turnM n R).1.length = n := by rw [(turnM_perm n R).length_eq, List.length_range]
theorem turnM_is {n : Nat} (R : Rw) (h1 : 1 ≤ n) (h9 : n ≤ 9) : IsTurn (turnM n R).1 :=
  ⟨by rw [turnM_len]; exact h1, by rw [turnM_len]; exact h9, (turnM_perm n R).nodup_iff.mpr List.nodup_range, fun x hx => by
    rw [turnM_len]; exact List.mem_range.mp ((turnM_perm n R).subset hx)⟩
section
variable {P : Program} {w : World} {K : PySem.W.Frag} {mg : Str → Option Value} {base : Heap}
def R_ringed (row ds : List PyData) (d : PyData) (row' : List PyData) : Prop := ∃ (R : Rw) (ls : List Nat), 0 ≤ R.i ∧ 1 ≤ ls.sum ∧ ls.sum ≤ 9 ∧ ls.length ≤ 9 ∧ row = rowD R ∧ ds = [.list (ls.map iN)] ∧ d = tn (ringedM (turnM ls.sum R).1 ls) ∧ row' = rowD (turnM ls.sum R).2
theorem sum_iN (ls : List Nat) : (ls.map fun n : Nat => (n : Int)).sum = (ls.sum : Nat) := by
  induction ls with
  | nil => rfl
  | cons x l ih => rw [List.map_cons, List.sum_cons, List.sum_cons, ih, Int.natCast_add]
theorem sum_take (ls : List Nat) (i : Nat) : (ls.take i).sum ≤ ls.sum := by
  conv => rhs; rw [← List.take_append_drop i ls, List.sum_append]
  omega
theorem ok_ringed (T : Tx mg) (F : Fn K mg "_law_ringed" s_ringed ["row", "lengths"]) (C : Ca P w K mg base 2 "_law_turn" ["row", "halls"] (spR K R_lturn)) : Ca P w K mg base 3 "_law_ringed" ["row", "lengths"] (spR K R_ringed) := by
  have S := sc_ringed
  refine ca_R F S (fun row ds d row' ⟨_, _, _, _, _, _, _, e, _⟩ => by rw [e]; rfl) fun f cdv A outer s H E r row ds d row' hr ⟨R, ls, hi, hs1, hs9, hl9, e1, e2, e3, e4⟩ => ?_
  subst e1 e2 e3 e4
  have hN := turnM_is R hs1 hs9
  have hNl := turnM_len ls.sum R
  have hsum : PyData.int (ls.map fun n : Nat => (n : Int)).sum = iN ls.sum := by rw [sum_iN]; rfl
  generalize hnm : (turnM ls.sum R).1 = nm at *
  let Γ0 : Gm := ((slotsR N_ringed r (rowD (turnM ls.sum R).2) [.list (ls.map iN)]).set 2 (some (.im (iN ls.sum)))).set 3 (some (.im (tn nm)))
  let fo : Nat → List Nat := fun i => ringOut nm (ls.take i) 0 (List.replicate ls.sum 0)
  let G : Nat → Gm := fun i => (Γ0.set 4 (some (.ow ((fo i).map iN)))).set 5 (some (.im (iN (ls.take i).sum)))
  have hfin : fo ls.length = ringedM nm ls := by
    show ringOut nm (ls.take ls.length) 0 _ = _
    rw [List.take_length]; rfl
  refine ⟨(G ls.length).set 4 (some (.im (.list ((fo ls.length).map iN)))), ?_, rfl⟩
  refine ess_cons (es_set 2 S.nd (ee_is (ee_sum (ns := ls.map fun n : Nat => (n : Int)) rfl T.sum (ea_cons (ee_var 1) ea_nil) (by show some _ = some _; rw [List.map_map]; rfl)) hsum)) ?_
  have hrep : (List.replicate ls.sum [iN 0]).flatten = (List.replicate ls.sum 0).map iN := by
    rw [List.map_replicate]
    generalize ls.sum = m
    induction m with
    | zero => rfl
    | succ m ih => rw [List.replicate_succ, List.flatten_cons, ih, List.replicate_succ]; rfl
  refine ess_cons (es_par3 3 4 5 rfl S.nd (by decide) (by decide) (by decide) (ek_d (ee_caR (d := tn nm) (row' := rowD (turnM ls.sum R).2) (s1 := .pr r (rowD R)) C hr (pe_nm 0) rfl rfl (ea_cons (ee_var 2) ea_nil) rfl rfl ⟨R, ls.sum, hi, hs9, rfl, rfl, by rw [hnm], rfl⟩)) (ek_n (en_rep (ds := [iN 0]) (n := ls.sum) (ee_new (en_lst (ea_cons ee_int ea_nil))) (ee_var 2) (by show 1 * ls.sum ≤ _; omega) (by omega))) (ek_d ee_int)) ?_
  rw [hrep]
  refine ess_cons (Γ1 := G ls.length) (es_for (is := [6]) G (fun i => (G i).set 6 (some (.im (iN (ls.getD i 0))))) (fun i => .nx (G (i + 1))) ls.length PassesOwn.never rfl (ei_list (ee_var 1)) (by rw [List.length_map]; exact Nat.le_refl _) (fun i d hd _ => ?_) (fun i hi => ⟨?_, .inl rfl⟩) (.inl ⟨by rw [List.length_map], rfl⟩)) (ess_freeze 4 rfl (ess_stop (es_ret ?_) (by intro _ z; cases z)))
  · rw [List.getElem?_map] at hd
    cases hx : ls[i]? with
    | none => rw [hx] at hd; cases hd
    | some x =>
      rw [hx] at hd
      cases hd
      have e : ls.getD i 0 = x := by rw [List.getD_eq_getElem?_getD, hx]; rfl
      show Eg _ (G i) _ _ _ ((G i).set 6 (some (.im (iN (ls.getD i 0)))))
      rw [e]
      exact eg_name 6 S.nd
  · have eL : ls.getD i 0 = ls[i] := by rw [List.getD_eq_getElem?_getD, List.getElem?_eq_getElem hi]; rfl
    have hst : (ls.take (i + 1)).sum = (ls.take i).sum + ls[i] := by
      rw [List.take_add_one, List.getElem?_eq_getElem hi, List.sum_append]
      show _ + (ls[i] + 0) = _
      omega
    have hle := sum_take ls (i + 1)
    have hfo : fo (i + 1) = ringIn nm (ls.take i).sum ls[i] ls[i] (fo i) := by
      show ringOut nm (ls.take (i + 1)) 0 _ = _
      rw [List.take_add_one, List.getElem?_eq_getElem hi]
      show ringOut nm (ls.take i ++ [ls[i]]) 0 _ = _
      rw [ringOut_snoc, Nat.zero_add]
    have hfl : ∀ i, (fo i).length = ls.sum := fun i => by
      show (ringOut nm _ 0 _).length = _
      rw [ringOut_len, List.length_replicate]
    generalize hn : ls[i] = n at *
    generalize ha : (ls.take i).sum = a at *
    let G2 : Nat → Gm := fun k => ((Γ0.set 4 (some (.ow ((ringIn nm a n k (fo i)).map iN)))).set 5 (some (.im (iN a)))).set 6 (some (.im (iN n)))
    have e0 : (G i).set 6 (some (.im (iN (ls.getD i 0)))) = G2 0 := by
      show ((Γ0.set 4 (some (.ow ((fo i).map iN)))).set 5 (some (.im (iN (ls.take i).sum)))).set 6 (some (.im (iN (ls.getD i 0)))) = _
      rw [ha, eL]; rfl
    rw [e0]
    refine ess_wk (Γ1 := (G2 n).set 5 (some (.im (iN (a + n))))) (ess_cons (Γ1 := G2 n) (es_for (is := [7]) G2 (fun k => (G2 k).set 7 (some (.im (iN k)))) (fun k => .nx (G2 (k + 1))) n PassesOwn.never rfl (ei_is (ei_range1 T.range (ea_cons (ee_var 6) ea_nil) (by omega) (by omega)) (rngD_N n)) (by rw [List.length_map, List.length_range]; exact Nat.le_refl _) (fun k d hd _ => ?_) (fun k hk => ⟨?_, .inl rfl⟩) (.inl ⟨by rw [List.length_map, List.length_range], rfl⟩)) (ess_one (es_set 5 S.nd (ee_is (ee_add (ee_var 5) (ee_var 6)) (by show PyData.int _ = PyData.int _; rw [Int.natCast_add]))))) ?_
    · rw [List.getElem?_map] at hd
      have hk : k < n := by
        apply Classical.byContradiction
        intro h
        rw [List.getElem?_eq_none (by rw [List.length_range]; omega)] at hd
        cases hd
      rw [List.getElem?_range hk] at hd
      cases hd
      exact eg_name 7 S.nd
    · have hin : a + n ≤ ls.sum := by omega
      have hmod : (k + 1) % n < n := Nat.mod_lt _ (by omega)
      have hatk : at_ nm (a + k) < ls.sum := by
        have := List.mem_range.mp (at_mem hN (a + k) (List.mem_range.mpr (by omega)))
        omega
      have eq : ((G2 k).set 7 (some (.im (iN k)))).set 4 (some (.ow (((ringIn nm a n k (fo i)).map iN).set (at_ nm (a + k)) (iN (at_ nm (a + (k + 1) % n)))))) = (G2 (k + 1)).set 7 (some (.im (iN k))) := by
        rw [← List.map_set]; rfl
      refine ess_wk (Γ1 := ((G2 k).set 7 (some (.im (iN k)))).set 4 (some (.ow (((ringIn nm a n k (fo i)).map iN).set (at_ nm (a + k)) (iN (at_ nm (a + (k + 1) % n))))))) (ess_one (es_setIx (s := .ow ((ringIn nm a n k (fo i)).map iN)) (s1 := .ow ((ringIn nm a n k (fo i)).map iN)) (i := (at_ nm (a + k) : Nat)) (j := at_ nm (a + k)) (pe_nm 4) (ee_ixT (ee_var 3) (ee_add (ee_var 5) (ee_mod (ee_add (ee_var 7) ee_int) (ee_var 6) (by omega))) ?ix1) rfl rfl (ee_ixT (d := iN (at_ nm (a + k))) (ee_var 3) (ee_add (ee_var 5) (ee_var 7)) ?ix2) rfl rfl ?jj)) ?less
      case ix1 =>
        rw [show ((k : Int) + 1).fmod (n : Int) = (((k + 1) % n : Nat) : Int) from fmod_iN (k + 1) n, ← Int.natCast_add]
        exact at_get (by omega)
      case ix2 =>
        rw [← Int.natCast_add]
        exact at_get (by omega)
      case jj =>
        show ixN ((ringIn nm a n k (fo i)).map iN).length _ = _
        refine ix_nat ?_
        rw [List.length_map, ringIn_len, hfl]
        exact hatk
      case less =>
        rw [eq]
        exact less_set rfl
    · have eq : (G2 n).set 5 (some (.im (iN (a + n)))) = (G (i + 1)).set 6 (some (.im (iN n))) := by
        show _ = ((Γ0.set 4 (some (.ow ((fo (i + 1)).map iN)))).set 5 (some (.im (iN (ls.take (i + 1)).sum)))).set 6 _
        rw [hfo, hst]; rfl
      rw [eq]
      exact less_set rfl
  · rw [← hfin]
    exact ee_tupL T.tuple (ea_cons (ee_var 4) ea_nil)
end
end DL
end

section
namespace DL
open PySem PySem.Spec PyProof.Rows L2 RM
abbrev N_lnet : List Str := ["row", "most", "halls", "pair"]
section
variable {P : Program} {w : World} {K : PySem.W.Frag} {mg : Str → Option Value} {base : Heap}
def R_lnet (row ds : List PyData) (d : PyData) (row' : List PyData) : Prop := ∃ (R : Rw) (m k : Nat), 0 ≤ R.i ∧ 1 ≤ m ∧ m ≤ 9 ∧ k < m ∧ (takenM m R).1 = (k : Int) ∧ row = rowD R ∧ ds = [iN m] ∧ d = nN (1 + k) (drawn (takenM m R).2 (allPairs (1 + k))) ∧ row' = rowD (drawAt 2 (takenM m R).2 (allPairs (1 + k)).length)
end
end DL
end

section
namespace DL
open PySem PySem.Spec PyProof.Rows L2 RM
abbrev s_lrt : Stmt := topS 35
abbrev N_lrt : List Str := ["row"]
theorem sc_lrt : FnScope N_lrt ["row"] (defScope s_lrt) := ⟨rfl, rfl, rfl, by decide +kernel, rfl, by decide +kernel, by decide +kernel⟩
abbrev s_lrn : Stmt := topS 36
abbrev N_lrn : List Str := ["row", "turn", "pairs", "left", "pair", "is_in", "ring", "one"]
theorem sc_lrn : FnScope N_lrn ["row"] (defScope s_lrn) := ⟨rfl, rfl, rfl, by decide +kernel, rfl, by decide +kernel, by decide +kernel⟩
section
variable {P : Program} {w : World} {K : PySem.W.Frag} {mg : Str → Option Value} {base : Heap}
def some3 : List (List Nat) := [[1], [4], [4, 1], [4], [4, 1], [8], [4, 4], [8, 1], [4, 4, 1]]
def R_lrt (row ds : List PyData) (d : PyData) (row' : List PyData) : Prop := ∃ (R : Rw) (ls : List Nat), 0 ≤ R.i ∧ some3[pickI 9 R]? = some ls ∧ row = rowD R ∧ ds = [] ∧ d = tn (ringedM (turnM ls.sum (takenM (9 : Nat) R).2).1 ls) ∧ row' = rowD (turnM ls.sum (takenM (9 : Nat) R).2).2
theorem some3_ok : ∀ l ∈ some3, 1 ≤ l.sum ∧ l.sum ≤ 9 ∧ l.length ≤ 9 ∧ ∀ x ∈ l, 0 < x := by decide
theorem ok_lrt (F : Fn K mg "_law_rest_turn" s_lrt ["row"]) (C : Ca P w K mg base 2 "_law_pick" ["row", "things"] (spR K R_pick)) (C2 : Ca P w K mg base 3 "_law_ringed" ["row", "lengths"] (spR K R_ringed)) : Ca P w K mg base 4 "_law_rest_turn" ["row"] (spR K R_lrt) := by
  have S := sc_lrt
  refine ca_R F S (fun row ds d row' ⟨_, _, _, _, _, e, _⟩ => by rw [e]; rfl) fun f cdv A outer s H E r row ds d row' hr ⟨R, ls, hi, hls, e1, e2, e3, e4⟩ => ?_
  subst e1 e2 e3 e4
  obtain ⟨f1, f2, f3, f4⟩ := some3_ok ls (List.mem_of_getElem? hls)
  have RP : R_pick (rowD R) [.list (some3.map lI)] (lI ls) (rowD (takenM (9 : Nat) R).2) := ⟨R, some3.map lI, hi, by decide, by decide, rfl, rfl, by rw [List.getElem?_map]; show Option.map lI (some3[pickI 9 R]?) = _; rw [hls]; rfl, rfl⟩
  have RG : R_ringed (rowD (takenM (9 : Nat) R).2) [.list (ls.map iN)] (tn (ringedM (turnM ls.sum (takenM (9 : Nat) R).2).1 ls)) (rowD (turnM ls.sum (takenM (9 : Nat) R).2).2) := ⟨_, ls, taken_i hi, f1, f2, f3, rfl, rfl, rfl, rfl⟩
  exact ⟨_, ess_stop (es_ret (ee_caR (row' := rowD (turnM ls.sum (takenM (9 : Nat) R).2).2) (s := .pr r (rowD R)) (s1 := .pr r (rowD (takenM (9 : Nat) R).2)) C2 hr (pe_nm 0) rfl rfl (ea_cons (ee_caR (row' := rowD (takenM (9 : Nat) R).2) (s := .pr r (rowD R)) (s1 := .pr r (rowD R)) C hr (pe_nm 0) rfl rfl (ea_cons (ee_new (en_lst (ds := some3.map lI) (ea_cons (ee_new (en_lst (ds := ([1] : List Nat).map iN) (ea_cons ee_int ea_nil) (by decide))) (ea_cons (ee_new (en_lst (ds := ([4] : List Nat).map iN) (ea_cons ee_int ea_nil) (by decide))) (ea_cons (ee_new (en_lst (ds := ([4, 1] : List Nat).map iN) (ea_cons ee_int (ea_cons ee_int ea_nil)) (by decide))) (ea_cons (ee_new (en_lst (ds := ([4] : List Nat).map iN) (ea_cons ee_int ea_nil) (by decide))) (ea_cons (ee_new (en_lst (ds := ([4, 1] : List Nat).map iN) (ea_cons ee_int (ea_cons ee_int ea_nil)) (by decide)))
    (ea_cons (ee_new (en_lst (ds := ([8] : List Nat).map iN) (ea_cons ee_int ea_nil) (by decide))) (ea_cons (ee_new (en_lst (ds := ([4, 4] : List Nat).map iN) (ea_cons ee_int (ea_cons ee_int ea_nil)) (by decide))) (ea_cons (ee_new (en_lst (ds := ([8, 1] : List Nat).map iN) (ea_cons ee_int (ea_cons ee_int ea_nil)) (by decide))) (ea_cons (ee_new (en_lst (ds := ([4, 4, 1] : List Nat).map iN) (ea_cons ee_int (ea_cons ee_int (ea_cons ee_int ea_nil))) (by decide))) ea_nil))))))))) (by decide))) ea_nil) rfl rfl RP) ea_nil) rfl rfl RG)) (by intro _ z; cases z), rfl⟩
abbrev bsM (R : Rw) (i : Nat) : Bool := PyData.eqv (.int (takenM 2 (drawAt 2 R i)).1) (.int 0)
abbrev Gq (r : Addr) (t : List Nat) (R : Rw) : Gm := (slotsR N_lrn r (rowD R) []).set 1 (some (.im (tn t)))
def R_lrn (row ds : List PyData) (d : PyData) (row' : List PyData) : Prop := ∃ (R R1 : Rw) (t : List Nat) (m : Nat), 0 ≤ R1.i ∧ IsTurn t ∧ R_lrt (rowD R) [] (tn t) (rowD R1) ∧ G.leftR (G.ringE (ledPair t) (allPairs t.length)) (allPairs t.length) m = [] ∧ (∀ i, i < m → G.leftR (G.ringE (ledPair t) (allPairs t.length)) (allPairs t.length) i ≠ []) ∧ row = rowD R ∧ ds = [] ∧
  d = .tuple [nN t.length ((mixW (ledPair t) (allPairs t.length) (bsM R1) m).mergeSort (le_ pLt)), tn t] ∧ row' = rowD (drawAt 2 R1 m)
theorem ok_lrn (T : Tx mg) (F : Fn K mg "_law_rest_net" s_lrn ["row"]) (C1 : Ca P w K mg base 4 "_law_rest_turn" ["row"] (spR K R_lrt)) (C2 : Ca P w K mg base 1 "_law_pairs" ["halls"] (spD K R_all_pairs)) (C3 : Ca P w K mg base 1 "_law_taken" ["row", "many"] (spR K R_taken)) : Ca P w K mg base 5 "_law_rest_net" ["row"] (spR K R_lrn) := by
  have S := sc_lrn
  refine ca_R F S (fun row ds d row' ⟨_, _, _, _, _, _, _, _, _, _, e, _⟩ => by rw [e]; rfl) fun f cdv A outer s H E r row ds d row' hr ⟨R0, R, t, m, hi, ht, hrt, hm0, hm1, e1, e2, e3, e4⟩ => ?_
  subst e1 e2 e3 e4
  have Y := sysP ht
  obtain ⟨n, hn⟩ : ∃ n, t.length = n := ⟨_, rfl⟩
  have hlen : (t.map iN).length = n := by rw [List.length_map, hn]
  rw [hn] at Y hm0 hm1 ⊢
  have h9 : n ≤ 9 := by rw [← hn]; exact ht.2.1
  have hE81 := allPairs_len n h9
  have hEin : ∀ p ∈ allPairs n, p.1 < n ∧ p.2 < n := fun p hp => by
    have := mem_allPairs.mp hp
    omega
  obtain ⟨Ev, hE⟩ : ∃ Ev, allPairs n = Ev := ⟨_, rfl⟩
  rw [hE] at Y hE81 hm0 hm1 hEin ⊢
  let g := ledPair t
  let Rf : Nat × Nat → List (Nat × Nat) := RM.G.ringE g Ev
  let L : Nat → List (Nat × Nat) := RM.G.leftR Rf Ev
  let rw_ : Nat → Rw := drawAt 2 R
  have hrw : ∀ i, 0 ≤ (rw_ i).i := drawAt_i hi
  let bs : Nat → Bool := fun i => PyData.eqv (.int (takenM 2 (rw_ i)).1) (.int 0)
  let U : Nat → List (Nat × Nat) := mixW g Ev bs
  have hRp : ∀ p, p ∈ Rf p := fun p => by
    obtain ⟨r, e⟩ := RM.G.ringE_ne g Ev p
    show p ∈ RM.G.ringE g Ev p
    rw [e]; exact List.mem_cons_self
  have hinv : ∀ i, i ≤ m → (U i).Nodup ∧ ∀ x ∈ U i, x ∈ Ev := fun i hi' => by
    obtain ⟨a, b⟩ := mix_inv Y bs i fun j hj => hm1 j (by omega)
    exact ⟨a, fun x hx => (b x hx).1⟩
  have hUl : ∀ i, i ≤ m → (U i).length ≤ 81 := fun i hi' => Nat.le_trans ((hinv i hi').1.length_le_of_subset (l₂ := Ev) fun x hx => (hinv i hi').2 x hx) hE81
  let G : Nat → Gm := fun i => ((Gq r t (rw_ i)).set 2 (some (.im (lP (U i))))).set 3 (some (.im (lP (L i))))
  refine ⟨G m, ess_cons (es_par2 1 2 rfl S.nd (by decide) (ek_d (d := tn t) (ee_caR (row' := rowD R) (s := .pr r (rowD R0)) (s1 := .pr r (rowD R0)) C1 hr (pe_nm 0) rfl rfl ea_nil rfl rfl hrt)) (ek_d (d := lP []) (ee_new (en_lst (ds := []) ea_nil (by decide))))) (ess_cons (Γ1 := G 0) (es_set 3 S.nd (ee_ca C2 hr (ea_cons (ee_len T.len (ea_cons (ee_var 1) ea_nil) rfl) ea_nil) ⟨n, by rw [hlen]; rfl, h9, by rw [hE]; rfl⟩))
    (ess_cons (Γ1 := G m) (es_while G G (fun i => .nx (G (i + 1))) m false PassesOwn.never (fun i hin => ?_) (fun i hin => ⟨?_, .inl rfl⟩) ?_ (fun z => by cases z) (fun _ => rfl)) (ess_stop (es_ret ?ret) (by intro _ z; cases z)))), rfl⟩
  · refine et_is (et_neD hr (ee_var 3) (ee_new (en_lst (ds := []) ea_nil (by decide))) (sh_pNs _) sh_nil) ?_
    show (!PyData.eqv (.list ((L i).map pN)) (.list (([] : List (Nat × Nat)).map pN))) = true
    rw [eqv_list pN_eqv, decide_eq_false (hm1 i hin)]; rfl
  · obtain ⟨rest, hw⟩ := hdW_is (hm1 i hin)
    have hUs : U (i + 1) = U i ++ pkN g (hdW Rf Ev i) (bs i) (RM.G.perE g Ev (hdW Rf Ev i)) := rfl
    have hLs : L (i + 1) = RM.G.stepR Rf (L i) := rfl
    have hw : L i = hdW Rf Ev i :: rest := hw
    have hpm : hdW Rf Ev i ∈ Ev := (RM.G.leftR_sub Rf Ev i).subset (show hdW Rf Ev i ∈ L i by rw [hw]; exact List.mem_cons_self)
    have hUi := hUl i (by omega)
    generalize hdW Rf Ev i = p at *
    obtain ⟨⟨k1, k2, k3⟩, k4⟩ := Y.per hpm
    have hRr : Rf p = ringN g p (RM.G.perE g Ev p) := rfl
    generalize hper : RM.G.perE g Ev p = q at *
    obtain ⟨b, hb⟩ : ∃ b, bs i = b := ⟨_, rfl⟩
    rw [hb] at hUs
    let J : Nat → Gm := fun k => (((((Gq r t (rw_ (i + 1))).set 2 (some (.im (lP (U i ++ pkN g p b k))))).set 3 (some (.im (lP (L i))))).set 4 (some (.im (pN (itr g k p))))).set 5 (some (.im (.bool (isIn b k))))).set 6 (some (.ow ((ringN g p k).map pN)))
    have RK : R_taken (rowD (rw_ i)) [.int 2] (.int (takenM 2 (rw_ i)).1) (rowD (rw_ (i + 1))) := ⟨rw_ i, 2, hrw i, by decide, by decide, rfl, rfl, rfl, rfl⟩
    have eJ0 : (((((Gq r t (rw_ (i + 1))).set 2 (some (.im (lP (U i))))).set 3 (some (.im (lP (L i))))).set 4 (some (.im (pN p)))).set 5 (some (.im (.bool b)))).set 6 (some (.ow [])) = J 0 := by
      show _ = (((((Gq r t (rw_ (i + 1))).set 2 (some (.im (lP (U i ++ []))))).set 3 (some (.im (lP (L i))))).set 4 (some (.im (pN p)))).set 5 (some (.im (.bool (isIn b 0))))).set 6 (some (.ow []))
      rw [List.append_nil, show isIn b 0 = b from by cases b <;> rfl]
    refine ess_cons (Γ1 := (((((Gq r t (rw_ (i + 1))).set 2 (some (.im (lP (U i))))).set 3 (some (.im (lP (L i))))).set 4 (some (.im (pN p)))).set 5 (some (.im (.bool b)))).set 6 (some (.ow []))) (es_tup3 4 5 6 rfl S.nd (ek_d (d := pN p) (ee_ixL (ds := (L i).map pN) (ee_var 3) ee_int (atI_map (i := 0) (xs := L i) (by rw [hw]; rfl)))) (ek_d (d := .bool b) (ee_is (ee_eqD hr (ee_caR (row' := rowD (rw_ (i + 1))) (s := .pr r (rowD (rw_ i))) (s1 := .pr r (rowD (rw_ i))) C3 hr (pe_nm 0) rfl rfl (ea_cons ee_int ea_nil) rfl rfl RK) ee_int (sh_int _) (sh_int _)) (congrArg PyData.bool hb))) (ek_n (en_lst (ds := []) ea_nil (by decide)))) ?_
    rw [eJ0]
    refine ess_cons (Γ1 := J q) (es_while J J (fun k => .nx (J (k + 1))) q false PassesOwn.never (fun k hk => ?_) (fun k hk => ⟨?_, .inl rfl⟩) ?_ (fun z => by cases z) (fun _ => rfl)) ?_
    · refine et_is (et_cmpOwnR (op_notInS (units65 hr)) (ee_var 4) (s := .ow ((ringN g p k).map pN)) rfl rfl (pe_nm 6) (rd_inS rfl (sh_pN _) (sh_pNs _)) rfl) ?_
      show (!((ringN g p k).map pN).any fun z => PyData.eqv z (pN (itr g k p))) = true
      rw [any_eqv pN_eqv]
      have hni : itr g k p ∉ ringN g p k := per_notin Y.mem Y.inj hpm ⟨k1, k2, k3⟩ hk
      simp [hni]
    · generalize hx : itr g k p = x at *
      have hxm : x ∈ Ev := by rw [← hx]; exact itr_mem Y.mem hpm k
      have hxl : x.1 < t.length ∧ x.2 < t.length := by
        rw [hn]
        exact hEin x hxm
      have eJ : J (k + 1) = ((((J k).set 6 (some (reSlot (slotDs (.ow ((ringN g p k).map pN)) ++ [pN x]) (.ow ((ringN g p k).map pN))))).set 2 (some (.im (.list ((U i ++ pkN g p b k).map pN ++ (if isIn b k = true then [x] else []).map pN))))).set 4 (some (.im (pN (g x))))).set 5 (some (.im (.bool (!isIn b k)))) := by
        show (((((Gq r t (rw_ (i + 1))).set 2 (some (.im (lP (U i ++ pkN g p b (k + 1)))))).set 3 (some (.im (lP (L i))))).set 4 (some (.im (pN (g (itr g k p)))))).set 5 (some (.im (.bool (isIn b (k + 1)))))).set 6 (some (.ow ((ringN g p (k + 1)).map pN))) = _
        rw [ringN_succ, List.map_append, hx, isIn_succ, pkN_succ, hx, ← List.append_assoc]
        unfold lP
        rw [List.map_append (l₁ := U i ++ pkN g p b k)]; rfl
      have eq4 : (J k)[4]? = some (some (.im (pN x))) := by
        show some (some (Slot.im (pN (itr g k p)))) = _
        rw [hx]
      have hkl : (pkN g p b k).length ≤ 81 := by
        have := (pkN_sub g p b k).length_le
        rw [ring_len] at this
        omega
      rw [eJ]
      refine ess_cons (es_append (pe_nm 6) rfl rfl (ea_cons (ee_var 4 eq4) ea_nil) (s1 := .ow ((ringN g p k).map pN)) rfl rfl ?len) ?_
      case len =>
        show ((ringN g p k).map pN).length < _
        rw [List.length_map, ring_len]; omega
      let J1 : Gm := (J k).set 6 (some (reSlot (slotDs (.ow ((ringN g p k).map pN)) ++ [pN x]) (.ow ((ringN g p k).map pN))))
      have e1 : J1[4]? = some (some (.im (pN x))) := eq4
      refine ess_cons (es_set (d := .list ((U i ++ pkN g p b k).map pN ++ (if isIn b k = true then [x] else []).map pN)) 2 S.nd (ee_new (en_cat (ee_var 2) (ee_ifexp (et_val (ee_var 5)) (fun e => ee_is (ee_new (en_lst (ds := [pN x]) (ea_cons (ee_var 4 e1) ea_nil) (by simp))) (by rw [if_pos e]; rfl)) (fun e => ee_is (ee_new (en_lst (ds := []) ea_nil (by decide))) (by rw [if_neg (by rw [e]; decide)]; rfl))) ?hl))) ?_
      case hl =>
        rw [List.length_map, List.length_map, List.length_append]
        have : (if isIn b k = true then [x] else []).length ≤ 1 := by split <;> simp
        omega
      let J2 : Gm := J1.set 2 (some (.im (.list ((U i ++ pkN g p b k).map pN ++ (if isIn b k = true then [x] else []).map pN))))
      have e2 : J2[4]? = some (some (.im (pN x))) := eq4
      exact ess_one (es_par2 4 5 rfl S.nd (by decide) (ek_d (d := pN (g x)) (ee_is (ee_tupL T.tuple (ea_cons (ee_new (en_sortI (t := [at_ t x.1, at_ t x.2]) hr T.sorted (ea_cons (ee_new (en_lst (ds := [iN (at_ t x.1), iN (at_ t x.2)]) (ea_cons (ee_ixT (ee_var 1) (ee_ixT (d := iN x.1) (ds := [iN x.1, iN x.2]) (ee_var 4 e2) ee_int rfl) (at_get hxl.1)) (ea_cons (ee_ixT (ee_var 1) (ee_ixT (d := iN x.2) (ds := [iN x.1, iN x.2]) (ee_var 4 e2) ee_int rfl) (at_get hxl.2)) ea_nil)) (by simp))) ea_nil) rfl)) ea_nil)) (by rw [sort_two]; rfl))) (ek_d (d := .bool (!isIn b k)) (ee_is (ee_notT (ee_var 5) (sh_bool _) (fun _ z => by cases z)) rfl)))
    · refine et_is (et_cmpOwnR (op_notInS (units65 hr)) (ee_var 4) (s := .ow ((ringN g p q).map pN)) rfl rfl (pe_nm 6) (rd_inS rfl (sh_pN _) (sh_pNs _)) rfl) ?_
      show (!((ringN g p q).map pN).any fun z => PyData.eqv z (pN (itr g q p))) = false
      rw [any_eqv pN_eqv]
      have hni : itr g q p ∈ ringN g p q := per_in (f := g) ⟨k1, k2, k3⟩
      simp [hni]
    · have e7 : lP (L (i + 1)) = .list (((L i).filter fun x => !decide (x ∈ Rf p)).map pN) := by
        rw [hLs, hw, RM.G.stepR]
        exact congrArg (fun l => PyData.list (List.map pN l)) (List.filter_congr fun x _ => by by_cases hx : x ∈ Rf p <;> simp [hx])
      let JF : Gm := (J q).set 6 (some (.im (.list ((ringN g p q).map pN))))
      refine ess_wk (Γ1 := JF.set 3 (some (.im (lP (L (i + 1)))))) (ess_freeze 6 rfl (ess_cons (es_setLc 3 (own := [("one", 7)]) (L i) pN (fun x => !decide (x ∈ Rf p)) pN (fun x => JF.set 7 (some (.im (pN x)))) [7] rfl S.nd (blkOk_by (N := N_lrn) (sc := defScope s_lrn) (by decide +kernel)) rfl (by decide) ?hsz (fun x _ => less_set rfl) (ei_list (ee_var 3)) (fun x hx _ _ _ _ _ => (eg_name 7 S.nd)) (fun x hx _ _ _ _ _ => (ets_one (et_is (et_notIn hr (ee_var 7) (ee_var 6) rfl (sh_pN x) (sh_pNs _)) ?tt))) (fun x hx hf _ _ _ _ _ => (ee_var 7))) (ess_freeze 3 rfl (by rw [e7]; exact ess_nil)))) ?lss
      case hsz =>
        have := (RM.G.leftR_sub Rf Ev i).length_le
        show (RM.G.leftR Rf Ev i).length ≤ _
        omega
      case tt =>
        rw [any_eqv pN_eqv, hRr]
        by_cases h : x ∈ ringN g p q <;> simp [h]
      case lss =>
        have e : JF.set 3 (some (.im (lP (L (i + 1))))) = (((G (i + 1)).set 4 (some (.im (pN (itr g q p))))).set 5 (some (.im (.bool (isIn b q))))).set 6 (some (.im (.list ((ringN g p q).map pN)))) := by
          show _ = (((((Gq r t (rw_ (i + 1))).set 2 (some (.im (lP (U (i + 1)))))).set 3 (some (.im (lP (L (i + 1)))))).set 4 _).set 5 _).set 6 _
          rw [hUs]; rfl
        rw [e]
        exact (less_set2 rfl).trans (less_set rfl)
  · refine et_is (et_neD hr (ee_var 3) (ee_new (en_lst (ds := []) ea_nil (by decide))) (sh_pNs _) sh_nil) ?_
    show (!PyData.eqv (.list ((L m).map pN)) (.list (([] : List (Nat × Nat)).map pN))) = false
    rw [eqv_list pN_eqv, decide_eq_true hm0]; rfl
  case ret => exact (ee_tup (ds := [nN n ((U m).mergeSort (le_ pLt)), tn t]) (ea_cons (ee_is (ee_tup (ds := [iN n, .tuple (((U m).mergeSort (le_ pLt)).map pN)]) (ea_cons (ee_is (ee_len T.len (ea_cons (ee_var 1) ea_nil) rfl) (by rw [hlen]; rfl)) (ea_cons (ee_tupL T.tuple (ea_cons (ee_new (en_sortP (S := U m) hr T.sorted (ea_cons (ee_var 2) ea_nil) rfl)) ea_nil)) ea_nil)) (by simp)) rfl) (ea_cons (ee_var 1) ea_nil)) (by simp))
end
end DL
end

section
namespace DL
open PySem PySem.Spec PyProof.Rows L2 RM
abbrev s_lturns : Stmt := topS 37
abbrev N_lturns : List Str := ["halls", "found", "turn", "longer", "row", "hall"]
theorem sc_lturns : FnScope N_lturns ["halls"] (defScope s_lturns) := ⟨rfl, rfl, rfl, by decide +kernel, rfl, by decide +kernel, by decide +kernel⟩
section
variable {P : Program} {w : World} {K : PySem.W.Frag} {mg : Str → Option Value} {base : Heap}
def R_lturns (ds : List PyData) (d : PyData) : Prop := ∃ n : Nat, n ≤ 5 ∧ ds = [iN n] ∧ d = .list ((turnsTo n n).map tn)
theorem sh_tns (F : List (List Nat)) : SeqAt.shaped (.list (F.map tn)) = true := sh_lst F (fun t => SeqAt.canLay_of_shaped (sh_tn t)) (fun t => by
  have := dep_tup (enc := iN) (xs := t) (n := 0) (fun x => by rw [iN_dep]; decide)
  exact Nat.le_trans this (by decide))
theorem ok_lturns (T : Tx mg) (F : Fn K mg "_law_turns" s_lturns ["halls"]) : Ca P w K mg base 1 "_law_turns" ["halls"] (spD K R_lturns) := by
  have S := sc_lturns
  refine ca_Er F S (fun ds d ⟨_, _, e, _⟩ => by rw [e]; rfl) fun f cdv A outer s H E ds d hr ⟨n, h5, e1, e2⟩ => ?_
  subst e1 e2
  let Γ0 : Gm := slots0 N_lturns [iN n]
  let G : Nat → Gm := fun i => Γ0.set 1 (some (.im (.list ((turnsTo n i).map tn))))
  have hlen : ∀ i, i ≤ 5 → (turnsTo n i).length ≤ 3125 := fun i hi => Nat.le_trans (turnsTo_len h5 i) (Nat.le_trans (Nat.pow_le_pow_right (by decide) hi) (by decide))
  refine er_cons (es_set 1 S.nd (ee_new (en_lst (ds := [.tuple []]) (ea_cons (ee_tup (ds := []) ea_nil (by decide)) ea_nil) (by simp)))) ?_
  refine er_cons (Γ1 := G n) (es_for (is := [2]) G (fun i => (G i).set 2 (some (.im (iN i)))) (fun i => .nx (G (i + 1))) n PassesOwn.never rfl (ei_is (ei_range1 T.range (ea_cons (ee_var 0) ea_nil) (by omega) (by omega)) (rngD_N n)) (by rw [List.length_map, List.length_range]; exact Nat.le_refl _) (fun i d hd _ => ?_) (fun i hi => ⟨?_, .inl rfl⟩) (.inl ⟨by rw [List.length_map, List.length_range], rfl⟩)) (er_ret (ee_var 1))
  · rw [List.getElem?_map] at hd
    have hi : i < n := by
      apply Classical.byContradiction
      intro h
      rw [List.getElem?_eq_none (by rw [List.length_range]; omega)] at hd
      cases hd
    rw [List.getElem?_range hi] at hd
    cases hd
    exact eg_name 2 S.nd
  · have hF := hlen i (by omega)
    generalize hFd : turnsTo n i = Fd at *
    let B : Gm := (Γ0.set 1 (some (.im (.list (Fd.map tn))))).set 2 (some (.im (iN i)))
    let L : Nat → List (List Nat) := fun j => (Fd.take j).flatMap (growT n)
    let J : Nat → Gm := fun j => B.set 3 (some (.im (.list ((L j).map tn))))
    have hL : ∀ j, (L j).length ≤ 16000 := fun j => by
      have h1 := grow_len n (Fd.take j)
      have h2 : (Fd.take j).length ≤ Fd.length := by rw [List.length_take]; omega
      have h3 : n * (Fd.take j).length ≤ 5 * 3125 := Nat.mul_le_mul h5 (by omega)
      show ((Fd.take j).flatMap (growT n)).length ≤ _
      omega
    have eG : G i = Γ0.set 1 (some (.im (.list (Fd.map tn)))) := by show Γ0.set 1 (some (.im (.list ((turnsTo n i).map tn)))) = _; rw [hFd]
    have eG1 : G (i + 1) = Γ0.set 1 (some (.im (.list ((L Fd.length).map tn)))) := by
      show Γ0.set 1 (some (.im (.list (((turnsTo n i).flatMap (growT n)).map tn)))) = _
      rw [hFd]
      show _ = Γ0.set 1 (some (.im (.list (((Fd.take Fd.length).flatMap (growT n)).map tn))))
      rw [List.take_length]
    show Ess _ ((G i).set 2 (some (.im (iN i)))) _ _
    rw [eG, eG1]
    refine ess_wk (Γ1 := ((Γ0.set 1 (some (.im (.list ((L Fd.length).map tn))))).set 2 (some (.im (iN i)))).set 3 (some (.im (.list ((L Fd.length).map tn))))) (ess_cons (es_set 3 S.nd (ee_new (en_lst (ds := []) ea_nil (by decide)))) (ess_cons (Γ1 := J Fd.length) (es_for (is := [4]) J (fun j => (J j).set 4 (some (.im (tn (Fd.getD j []))))) (fun j => .nx (J (j + 1))) Fd.length PassesOwn.never rfl (ei_list (ee_var 1)) (by rw [List.length_map]; exact Nat.le_refl _) (fun j d hd _ => ?_) (fun j hj => ⟨?_, .inl rfl⟩) (.inl ⟨by rw [List.length_map], rfl⟩)) (ess_one (es_set 1 S.nd (ee_var 3))))) (less_set2 rfl)
    · rw [List.getElem?_map] at hd
      cases hx : Fd[j]? with
      | none => rw [hx] at hd; cases hd
      | some r =>
        rw [hx] at hd
        cases hd
        have e : Fd.getD j [] = r := by rw [List.getD_eq_getElem?_getD, hx]; rfl
        show Eg _ (J j) _ _ _ ((J j).set 4 (some (.im (tn (Fd.getD j [])))))
        rw [e]
        exact eg_name 4 S.nd
    · have hLj := hL j
      have er : Fd.getD j [] = Fd[j] := by rw [List.getD_eq_getElem?_getD, List.getElem?_eq_getElem hj]; rfl
      have htl : Fd[j].length = i := (mem_turnsTo.mp (by rw [hFd]; exact List.getElem_mem hj)).1
      have eL : (L (j + 1)).map tn = (L j).map tn ++ ((List.range n).filter fun h => !decide (h ∈ Fd[j])).map fun h => tn (Fd[j] ++ [h]) := by
        show ((Fd.take (j + 1)).flatMap (growT n)).map tn = _
        rw [List.take_add_one, List.getElem?_eq_getElem hj, List.flatMap_append, List.map_append]
        congr 1
        show ((growT n Fd[j]) ++ []).map tn = _
        rw [List.append_nil]
        unfold growT
        rw [List.map_map]; rfl
      have eJ : J (j + 1) = B.set 3 (some (.im (.list ((L j).map tn ++ ((List.range n).filter fun h => !decide (h ∈ Fd[j])).map fun h => tn (Fd[j] ++ [h]))))) := by
        show B.set 3 (some (.im (.list ((L (j + 1)).map tn)))) = _
        rw [eL]
      rw [eJ]
      show Ess _ ((J j).set 4 (some (.im (tn (Fd.getD j []))))) _ _
      rw [er]
      generalize hu : Fd[j] = u at *
      refine ess_wk (Γ1 := (B.set 3 (some (.im (.list ((L j).map tn ++ ((List.range n).filter fun h => !decide (h ∈ u)).map fun h => tn (u ++ [h])))))).set 4 (some (.im (tn u)))) (ess_one (es_set 3 S.nd (ee_new (en_cat (ee_var 3) (ee_new (en_lc (own := [("hall", 5)]) (List.range n) iN (fun h => !decide (h ∈ u)) (fun h => tn (u ++ [h])) (fun h => ((J j).set 4 (some (.im (tn u)))).set 5 (some (.im (iN h)))) [5] rfl S.nd (blkOk_by (N := N_lturns) (sc := defScope s_lturns) (by decide +kernel)) rfl (by decide) (by rw [List.length_range]; omega) (fun x _ => less_set rfl)
        (ei_is (ei_range1 T.range (ea_cons (ee_var 0) ea_nil) (by omega) (by omega)) (rngD_N n)) (fun x hx _ _ _ _ _ => (eg_name 5 S.nd)) (fun x hx _ _ _ _ _ => (ets_one (et_is (et_notIn hr (ee_var 5) (ee_var 4) rfl (sh_iN x) (sh_iNs u)) ?tt))) (fun x hx hf _ _ _ _ _ => (ee_is (ee_catT (ds2 := [iN x]) (ee_var 4) (ee_tup (ea_cons (ee_var 5) ea_nil) (by simp)) ?hc) ?hcc)))) ?hl)))) (less_set rfl)
      case tt =>
        rw [any_eqv iN_eqv]
      case hc =>
        rw [List.length_map]
        show u.length + 1 ≤ _
        omega
      case hcc =>
        show PyData.tuple (u.map iN ++ [iN _]) = PyData.tuple ((u ++ [_]).map iN)
        rw [List.map_append]; rfl
      case hl =>
        rw [List.length_map, List.length_map]
        have := List.length_filter_le (fun h => !decide (h ∈ u)) (List.range n)
        rw [List.length_range] at this
        omega
end
end DL
end

section
/-! t[:-1] of a tuple; f([..]), the new list changed by f. -/
namespace DL
open PySem PySem.Spec PyProof.Rows L2
section
variable {X : Cx} {Γ Γ1 : Gm} {a b e : Expr} {ds row row' : List PyData} {d : PyData} {pos p2 pp : Pos} {k j : Nat} {x : Str} {ps : List Str}
def rSlW (K : PySem.W.Frag) : V → Option Int → Option Int → Hp → VK → Prop := fun x lo hi H Q => ∃ a xs, x = .ref a ∧ SqT K H a xs ∧ (HT.sIx xs.length 0 lo = 0 ∧ HT.sIx xs.length xs.length hi = xs.length) ∧ Q (.ref a) H
theorem sl_whole : SlR X (rSlW X.K) := fun pn s σ H x v vl vu lo hi sl Q I rx hs pl pu ⟨a, xs, e, hx, hw, q⟩ => sl_tupA pn s σ H x v vl vu lo hi sl Q I rx hs pl pu ⟨a, xs, e, hx, fun _ => q, fun z => absurd hw z⟩
theorem ee_sliceLast (ha : Ee X Γ a (.tuple ds) Γ1) (hb : Ee X Γ1 b (.int (-1)) Γ1) : Ee X Γ (.Subscript a (.Slice none (some b) none p2) pos) (.tuple ds.dropLast) Γ1 :=
  pe_imp (pe_slice (SlR.or sl_tupF sl_whole) ha po_none (po_some hb)) fun σ H Q ⟨F, ev, x, k⟩ => ⟨F, ev, x, fun v F1 H1 g1 e1 dv => by
    show tE X.K Γ1 (.int (-1)) Γ1 σ H1 _
    refine ⟨F1, e1, g1.fh, fun w F2 H2 g2 e2 dw => ?_⟩
    cases dw
    have dv2 := dv.up g2.ff
    obtain ⟨p1, ob1, xs, rfl, hh, _, s1, a1⟩ := dv2.tupAt g2.fh
    have hl := a1.len
    have e0 : HT.sIx xs.length 0 none = 0 := rfl
    have e1' : HT.sIx xs.length xs.length (some (-1)) = xs.length - 1 := by
      unfold HT.sIx
      simp
      omega
    refine ⟨-1, rfl, ?_⟩
    by_cases hz : xs.length = 0
    · right
      refine ⟨p1, xs, rfl, s1, ⟨e0, by rw [e1', hz]⟩, k _ F2 H2 (g1.trans g2) e2 ?_⟩
      have : ds = [] := List.length_eq_zero_iff.mp (by rw [← hl]; exact hz)
      subst this
      exact dv2
    · left
      refine ⟨p1, xs, rfl, s1, fun z => ?_, ?_⟩
      · have := z.2
        rw [e1'] at this
        omega
      · have hd : DdA X.K F2 (cutV xs none (some (-1))) ds.dropLast := by
          unfold cutV
          rw [e0, e1', List.drop_zero, Nat.sub_zero, List.dropLast_eq_take, ← hl]
          exact a1.take _
        exact tupNew_of (g1.trans g2) e2 hd k⟩
theorem EnvOk.other {K : PySem.W.Frag} {F H F' H' : Hp} {σ : L2.St} {B B' : Addr → Prop} (e : EnvOk K F H σ Γ) (g : Gr F H B F' H' B') (out : ∀ a, Own σ Γ a → ¬ B a) : EnvOk K F' H' σ Γ := by
  refine ⟨e.len, fun i s q => ?_, e.sep⟩
  obtain ⟨v, v1, v2⟩ := e.ats i s q
  refine ⟨v, v1, ?_⟩
  cases s with
  | im x => exact v2.up g.ff
  | ad u => exact v2
  | ow ds =>
    obtain ⟨l, xs, rfl, h1, h2, h3⟩ := v2
    have := gr_keep g (out _ ⟨i, _, q, rfl, v1⟩) h1 h2
    exact ⟨l, xs, rfl, this.1, this.2, h3.up g.ff⟩
  | pr l ds =>
    obtain ⟨xs, rfl, h1, h2, h3⟩ := v2
    have := gr_keep g (out _ ⟨i, _, q, rfl, v1⟩) h1 h2
    exact ⟨xs, rfl, this.1, this.2, h3.up g.ff⟩
theorem ee_caF {R : List PyData → List PyData → PyData → List PyData → Prop} (C : Ca X.prog X.w X.K X.mg X.base k x ps (spR X.K R)) (hr : Room j X.A) (he : En X Γ e row Γ1) (hR : R row [] d row') (hj : k ≤ j := by decide) (hg : Gl X x := by rfl) (hdb : (x == ("__debug__" : Str)) = false := by decide)
    (hs : starEach [e] X.env = (false, eval e X.env) :: starEach [] X.env := by rfl) (hpl : (backTo pos (starEach [] X.env)).any (·.1) = false := by rfl) : Ee X Γ (.Call (.Name x pp) [e] [] pos) d Γ1 := by
  obtain ⟨f, fd, hm, hk, hb, F⟩ := C.ex
  refine pe_imp (pe_call F (hr.mono hj) hg hm hk hb .nil pass0 (pa_cons he pa_nil hs) hdb hs hpl) fun σ H Q ⟨F0, ev, xt, kk⟩ => ⟨F0, ev, xt, fun l xs F1 H1 g1 e1 hF hH hl ho dv => ?_⟩
  show spR X.K R [V.ref l] H1 Q E0
  refine ⟨F1, l, xs, row, [], [], d, row', rfl, g1.fh, hF, hl, dv, .nil, hR, fun v F' H' xs' i1 i2 i3 i4 i5 i6 dv' => ?_⟩
  have gB : Gr F1 H1 (fun a => a = l) F' H' (fun _ => False) := ⟨i1, i2, fun a o h => by
    by_cases q : a = l
    · exact .inr q
    · exact .inl (i3 a o q h), fun a h => (i4 a h).imp id .inl, fun a z => z.elim⟩
  refine kk v F' H' ⟨g1.ff.trans i1, i2, fun a o h => ?_, fun a h => ?_, g1.aa⟩ (e1.other gB fun a o z => ho (z ▸ o)) dv'
  · rcases g1.hh a o h with z | z
    · by_cases q : a = l
      · rw [q] at h ⊢
        rcases hH with y | y
        · rw [h] at y; cases y
        · exact .inr y
      · exact .inl (i3 a o q z)
    · exact .inr z
  · rcases i4 a h with z | z
    · exact g1.nw a z
    · rcases g1.free z with y | y
      · exact .inr (.inl y)
      · exact .inr (.inr y)
end
end DL
end

section
namespace DL
open PySem PySem.Spec PyProof.Rows L2 RM
abbrev s_law : Stmt := topS 38
abbrev N_law : List Str := ["script", "row", "halls", "desk", "line", "every", "turns", "net", "turn", "pair", "told", "e", "one", "other", "odd", "good", "pairs", "due", "hall", "some"]
theorem sc_law : FnScope N_law ["script"] (defScope s_law) := ⟨rfl, rfl, rfl, by decide +kernel, rfl, by decide +kernel, by decide +kernel⟩
/-- all that the law calls -/
structure Cas (P : Program) (w : World) (K : PySem.W.Frag) (mg : Str → Option Value) (base : Heap) (C CN CB CS : Addr) : Prop where
  T : Tx mg
  taken : Ca P w K mg base 1 "_law_taken" ["row", "many"] (spR K R_taken)
  pick : Ca P w K mg base 2 "_law_pick" ["row", "things"] (spR K R_pick)
  lrn : Ca P w K mg base 5 "_law_rest_net" ["row"] (spR K R_lrn)
  lpairs : Ca P w K mg base 1 "_law_pairs" ["halls"] (spD K R_all_pairs)
  lled : Ca P w K mg base 1 "_law_led" ["turn", "pairs"] (spD K R_lled)
  lleft : Ca P w K mg base 1 "_law_left" ["every", "some"] (spD K R_lleft)
  lturns : Ca P w K mg base 1 "_law_turns" ["halls"] (spD K R_lturns)
  alike : Ca P w K mg base 5 "_law_alike" ["found", "due"] (spD K (R_alike 4))
  D : DeskC K C
  make : MkK P w K mg base 3 "Desk" C CN R_dini
  over : MeK P w K mg base 3 C "turn_over" ["self", "one", "other"] CB R_dover
  undo : MeK P w K mg base 2 C "undo" ["self"] CS R_dundo
  net : PmD P w K mg base 1 C "net" (R_dnet C)
  dne : PmD P w K mg base 1 C "done" (R_ddone C)
  res : MeD P w K mg base 14 C "is_restalike" (R_dres C)
  EN : ErrF K mg "BadNumber" CN
  EB : ErrF K mg "BadPair" CB
  ES : ErrF K mg "NoStep" CS
abbrev Gd (ns : List Int) (n : Nat) (p : Addr) (R : Rw) (line : List (Nat × Nat)) : Gm := ((((((slots0 N_law [scrD ns]).set 1 (some (.ow (rowD R)))).set 2 (some (.im (iN n)))).set 3 (some (.ad (.ref p)))).set 4 (some (.im (rN line)))).set 5 (some (.im (.list ((allPairs n).map pN))))).set 6 (some (.im (.list ((turnsTo n n).map tn))))
abbrev Sk (ks line : List (Nat × Nat)) : DkS := (ks.map castP, line.map castP)
/-! fewer slots -/
inductive LessL : Gm → Gm → Prop
  | nil : LessL [] []
  | same {x : Option Slot} {l m : Gm} : LessL l m → LessL (x :: l) (x :: m)
  | drop {x : Option Slot} {l m : Gm} : LessL l m → LessL (none :: l) (x :: m)
theorem LessL.less {l m : Gm} (h : LessL l m) : Less l m := by
  refine ⟨?_, ?_⟩
  · induction h with
    | nil => rfl
    | same _ ih => rw [List.length_cons, List.length_cons, ih]
    | drop _ ih => rw [List.length_cons, List.length_cons, ih]
  · induction h with
    | nil => intro i s q; cases q
    | same _ ih =>
      intro i s q
      cases i with
      | zero => exact q
      | succ i => exact ih i s q
    | drop _ ih =>
      intro i s q
      cases i with
      | zero => cases q
      | succ i => exact ih i s q
theorem essK_freeze {X : Cx} {Z : DkZ} {Γ Γ' : Gm} {S S' : DkS} {sts : List Stmt} {ds : List PyData} (n : Nat) (h : Γ[n]? = some (some (.ow ds))) (h1 : EssK X Z (Γ.set n (some (.im (.list ds)))) S sts Γ' S') : EssK X Z Γ S sts Γ' S' :=
  pss_imp h1 fun D σ H ⟨F, d, k⟩ => by
    obtain ⟨l, xs, g1, g2, g3, g4⟩ := own_get d.ev h rfl
    have g := Gr.freeze d.xt d.ev h g1 g3
    have e := d.ev.freeze h g1 g3 g4
    exact ⟨_, (d.grow g e).1, fun σ' F' H' g' d' => k σ' F' H' ((d.grow g e).2.trans g') d'⟩
theorem chain_of {α : Type} {I : Nat → α → Prop} {P : Nat → α → α → Prop} (s0 : α) (h0 : I 0 s0) : ∀ m : Nat, (∀ i s, i < m → I i s → ∃ s', P i s s' ∧ I (i + 1) s') → ∃ f : Nat → α, f 0 = s0 ∧ (∀ i, i ≤ m → I i (f i)) ∧ ∀ i, i < m → P i (f i) (f (i + 1))
  | 0, _ => ⟨fun _ => s0, rfl, fun i hi => by rw [Nat.le_zero.mp hi]; exact h0, fun i hi => absurd hi (Nat.not_lt_zero _)⟩
  | m + 1, step => by
    obtain ⟨f, f0, f1, f2⟩ := chain_of s0 h0 m fun i s hi => step i s (Nat.lt_succ_of_lt hi)
    obtain ⟨s', p, q⟩ := step m (f m) (Nat.lt_succ_self _) (f1 m (Nat.le_refl _))
    refine ⟨fun i => if i ≤ m then f i else s', by simp [f0], fun i hi => ?_, fun i hi => ?_⟩
    · by_cases h : i ≤ m
      · simp only [if_pos h]; exact f1 i h
      · have : i = m + 1 := by omega
        subst this
        simp only [if_neg h]; exact q
    · by_cases h : i < m
      · simp only [if_pos (Nat.le_of_lt h), if_pos (show i + 1 ≤ m from h)]; exact f2 i h
      · have : i = m := by omega
        subst this
        simp only [if_pos (Nat.le_refl _), if_neg (show ¬ i + 1 ≤ i from Nat.not_succ_le_self _)]; exact p
/-! what may be drawn for a hall -/
def HallV (n : Nat) (z : PyData) : Prop := (∃ i : Nat, i < n ∧ z = iN i) ∨ z = .none ∨ z = iN n ∨ z = .bool true ∨ z = .str "0"
def inH (n : Nat) (z : PyData) : Bool := isNum z 0 ((n : Int) - 1)
theorem inH_nat (n i : Nat) : inH n (iN i) = decide (i < n) := by
  show (decide ((0 : Int) ≤ (i : Int)) && decide ((i : Int) ≤ (n : Int) - 1)) = decide (i < n)
  rw [decide_eq_true (by omega : (0 : Int) ≤ (i : Int)), Bool.true_and]
  by_cases h : i < n
  · rw [decide_eq_true h, decide_eq_true (by omega)]
  · rw [decide_eq_false h, decide_eq_false (by omega)]
theorem hall_lay {n : Nat} {z : PyData} (h : HallV n z) : z.canLay0 = true ∧ z.depth ≤ 0 := by
  rcases h with ⟨i, _, rfl⟩ | rfl | rfl | rfl | rfl
  · exact ⟨iN_lay _, by rw [iN_dep]; exact Nat.le_refl _⟩
  · exact ⟨by simp [PyData.canLay0], by simp [PyData.depth]⟩
  · exact ⟨iN_lay _, by rw [iN_dep]; exact Nat.le_refl _⟩
  · exact ⟨by simp [PyData.canLay0], by simp [PyData.depth]⟩
  · exact ⟨by rw [PyData.canLay0]; decide +kernel, by simp [PyData.depth]⟩
theorem hall_sh {n : Nat} {z : PyData} (h : HallV n z) : SeqAt.shaped z = true := shaped_of (hall_lay h).1 (Nat.le_trans (hall_lay h).2 (Nat.zero_le _))
theorem hall_in {n : Nat} {z : PyData} (h : HallV n z) (hi : inH n z = true) : ∃ i : Nat, i < n ∧ z = iN i := by
  rcases h with h | rfl | rfl | rfl | rfl
  · exact h
  · cases hi
  · rw [inH_nat] at hi
    have := of_decide_eq_true hi
    omega
  · cases hi
  · cases hi
theorem way_in (n : Nat) (x y : PyData) : isWayD (.tuple [x, y]) n = (inH n x && (inH n y && !PyData.eqv x y)) := rfl
theorem sh_seq2 {n : Nat} {x y : PyData} (hx : HallV n x) (hy : HallV n y) : SeqAt.shaped (.tuple [x, y]) = true := by
  have a := hall_lay hx
  have b := hall_lay hy
  exact shaped_of (by simp [PyData.canLay0, PyData.canLayAll0, a.1, b.1]) (by simp [PyData.depth, PyData.depthAll]; omega)
theorem sh_odd {n : Nat} {x y : PyData} (hx : HallV n x) (hy : HallV n y) (f : PyData → Bool) : SeqAt.shaped (.list (([x, y].filter f).map id)) = true := by
  have a := hall_lay hx
  have b := hall_lay hy
  rw [List.map_id, List.filter_cons, List.filter_cons, List.filter_nil]
  cases f x <;> cases f y <;> exact shaped_of (by simp [PyData.canLay0, PyData.canLayAll0, a.1, b.1]) (by simp [PyData.depth, PyData.depthAll]; try omega)
theorem odd_eqv (x y : PyData) (f : PyData → Bool) : PyData.eqv (.list (([x, y].filter f).map id)) (.list []) = (!f x && !f y) := by
  rw [List.map_id, List.filter_cons, List.filter_cons, List.filter_nil]
  cases f x <;> cases f y <;> simp [PyData.eqv, PyData.eqvAll]
theorem mnx_cast (i j : Nat) : mnx (i : Int) (j : Int) = castP (min i j, max i j) := by
  unfold mnx castP
  simp only [Prod.mk.injEq]
  constructor
  · by_cases h : (j : Int) < i
    · rw [if_pos h]; omega
    · rw [if_neg h]; omega
  · by_cases h : (j : Int) > i
    · rw [if_pos h]; omega
    · rw [if_neg h]; omega
end DL
end

section
namespace DL
open PySem PySem.Spec PyProof.Rows L2 RM
def forB : Stmt → List Stmt
  | .For _ _ b _ _ => b
  | _ => []
def alk9 {a b : PyData} (h : a = b) (h1 : SeqAt.shaped a = true) (h2 : a.depth ≤ 4) (h3 : smallD a = true) : R_alike 4 [a, b] (.bool true) := ⟨a, by rw [h], h1, h2, h3, rfl⟩
theorem sh_two9 {a b : PyData} (ha : a.canLay0 = true) (hb : b.canLay0 = true) (da : a.depth ≤ 3) (db : b.depth ≤ 3) : SeqAt.shaped (.list [a, b]) = true ∧ (PyData.list [a, b]).depth ≤ 4 :=
  ⟨shaped_of (by simp [PyData.canLay0, PyData.canLayAll0, ha, hb]) (by simp [PyData.depth, PyData.depthAll]; omega), by simp [PyData.depth, PyData.depthAll]; omega⟩
section
variable {P : Program} {w : World} {K : PySem.W.Frag} {mg : Str → Option Value} {base : Heap} {C CN CB CS : Addr}
theorem fmod_two (m : Nat) : ((m : Int)).fmod 2 = ((m % 2 : Nat) : Int) := by
  rw [Int.fmod_eq_emod_of_nonneg _ (by decide)]; rfl
theorem count_pN (line : List (Nat × Nat)) (p : Nat × Nat) : ((line.map pN).countP fun y => PyData.eqv y (pN p)) = line.count p := by
  rw [List.countP_map, List.count]
  apply List.countP_congr
  intro q _
  show PyData.eqv (pN q) (pN p) = true ↔ (q == p) = true
  rw [pN_eqv]
  simp
theorem turn_tail (A0 : Cas P w K mg base C CN CB CS) {f : Addr} {cdv : Value} {A : Around} {outer : List Env} {s : Shared} {H : Hp} {E : XK} (hr : Room 15 (A.deeper (envOfC "law" (defScope s_law) s.heap.objs.size f cdv)))
    {p dx dj dl : Addr} {ns : List Int} {n i : Nat} (h1 : 1 ≤ n) (h5 : n ≤ 5) {R : Rw} {ks line : List (Nat × Nat)} (g : Goodm n ks line) (hl : line.length ≤ 200) :
    EssK (cxOf CX0 P w K mg base N_law "law" (defScope s_law) f cdv A outer s H E).nox ⟨p, dx, dj, dl, C, n⟩ ((Gd ns n p R line).set 8 (some (.im (iN i)))) (Sk ks line) ((forB (stAt (defBody s_law) 4)).drop 1) (Gd ns n p R line) (Sk ks line) := by
  have S := sc_law
  have T := A0.T
  have h9 : n ≤ 9 := by omega
  let Q : List (Nat × Nat) := (allPairs n).filter fun q => decide (line.count q % 2 = 1)
  have hQ : ks.mergeSort (le_ pLt) = Q := good_sort g
  have hq : IsNet n Q := hQ ▸ good_net g
  have hE81 := allPairs_len n h9
  have hQl : Q.length ≤ 81 := hq.len h9
  let Γ8 : Gm := (Gd ns n p R line).set 8 (some (.im (iN i)))
  let Γa : Gm := Γ8.set 16 (some (.im (rN Q)))
  have hkl := good_len g h9
  refine essK_cons (S1 := Sk ks line) (Γ1 := Γa) (esK_lift (es_set 16 S.nd (ee_is (d2 := rN Q) (ee_tupL T.tuple (ea_cons (ee_new (en_lc (own := [("pair", 9)]) (allPairs n) pN (fun q => decide (line.count q % 2 = 1)) pN (fun q => Γ8.set 9 (some (.im (pN q)))) [9] rfl S.nd (blkOk_by (N := N_law) (sc := defScope s_law) (by decide +kernel)) rfl (by decide) (by omega) (fun x _ => less_set rfl)
    (ei_list (ee_var 5)) (fun x hx _ _ _ _ _ => (eg_name 9 S.nd)) (fun x hx _ _ _ _ _ => (ets_one (et_is (et_eqD hr (ee_mod (ee_countT hr (ee_var 4) (ea_cons (ee_var 9) ea_nil) (lay_all fun x _ => pN_lay x) (pN_lay _) (dep_all fun x _ => by rw [pN_dep]; decide)) ee_int (by decide)) ee_int (sh_int _) (sh_int _)) ?cnt))) (fun x hx hf _ _ _ _ _ => (ee_var 9)))) ea_nil)) rfl))) ?_
  case cnt =>
    rw [int_eqv, count_pN, fmod_two]
    by_cases h : line.count x % 2 = 1
    · rw [h]; rfl
    · rw [decide_eq_false h, decide_eq_false (by omega)]
  have e3 : smallD (nN n Q) = true := small_nN (by omega)
  have e4 : smallD (rN line) = true := small_tup (fun x _ => by simp [pN, iN, smallD, smallAll]) (by omega)
  have dQ : (nN n Q).depth ≤ 3 := nN_dep n Q
  have dL : (rN line).depth ≤ 2 := rN_dep line
  obtain ⟨sA, dA⟩ := sh_two9 (a := nN n Q) (b := rN line) (nN_lay _ _) (rN_lay _) (by omega) (by omega)
  have mA : smallD (.list [nN n Q, rN line]) = true := by
    have e5 : smallAll [nN n Q, rN line] = true := by rw [smallAll, smallAll, smallAll, e3, e4]; rfl
    rw [smallD, e5]; rfl
  refine essK_cons (S1 := Sk ks line) (Γ1 := Γa) (esK_ifF (etK_frz 3 (Γa.set 1 none) rfl (LessL.less (by repeat (first | exact LessL.nil | refine LessL.same ?_ | refine LessL.drop ?_))) (noOwn_of rfl) (et_is (et_not (et_val (ee_ca A0.alike hr (ea_cons (ee_new (en_lst (ds := [nN n Q, rN line]) (ea_cons (ee_prop A0.D A0.net hr (ee_var 3) ⟨n, ks, line.map castP, by omega, rfl, by rw [hQ]⟩) (ea_cons (ee_is (ee_prop A0.D A0.dne hr (ee_var 3) ⟨n, ks.map castP, line.map castP, by rw [List.length_map]; omega, rfl, rfl⟩) (by rw [castP_two])) ea_nil)) (by simp)))
    (ea_cons (ee_new (en_lst (ds := [nN n Q, rN line]) (ea_cons (ee_is (ee_tup (ds := [iN n, rN Q]) (ea_cons (ee_var 2) (ea_cons (ee_var 16) ea_nil)) (by simp)) rfl) (ea_cons (ee_var 4) ea_nil)) (by simp))) ea_nil)) (alk9 rfl sA dA mA)))) rfl)) essK_nil) ?_
  have bds : ∀ u : List Nat, u.length = n → ∀ q ∈ Q, q.1 < u.length ∧ q.2 < u.length := fun u hu q hp => by
    have := mem_allPairs.mp (hq.2 q hp)
    omega
  have hTl : (turnsTo n n).length ≤ 16777216 := Nat.le_trans (turnsTo_len (by omega) n) (Nat.le_trans (Nat.pow_le_pow_right (by decide) (by omega : n ≤ 5)) (by decide))
  let L : List (List Nat) := (turnsTo n n).filter fun u => decide (ledLot u Q = leftLot (allPairs n) Q)
  have hfl : PyData.eqv (.list (L.map fun _ => PyData.int 1)) (.list []) = decide (L = []) := by
    cases L with
    | nil => rfl
    | cons u r => simp [PyData.eqv, PyData.eqvAll]
  refine essK_cons (S1 := Sk ks line) (Γ1 := Γa.set 17 (some (.im (.bool (decide (L ≠ [])))))) (esK_lift (es_set 17 S.nd (ee_is (ee_neD hr (ee_new (en_lc (own := [("some", 19)]) (turnsTo n n) tn (fun u => decide (ledLot u Q = leftLot (allPairs n) Q)) (fun _ => .int 1) (fun u => Γa.set 19 (some (.im (tn u)))) [19] rfl S.nd (blkOk_by (N := N_law) (sc := defScope s_law) (by decide +kernel)) rfl (by decide) hTl (fun x _ => less_set rfl)
    (ei_list (ee_var 6)) (fun x hx _ _ _ _ _ => (eg_name 19 S.nd)) (fun x hx _ _ _ _ _ => (ets_one (et_is (et_eqD hr (ee_ca A0.lled hr (ea_cons (ee_var 19) (ea_cons (ee_var 16) ea_nil)) ⟨x, Q, bds x ((turns_all h1 h9).mp hx).2, hQl, rfl, rfl⟩) (ee_ca A0.lleft hr (ea_cons (ee_var 5) (ea_cons (ee_var 16) ea_nil)) ⟨allPairs n, Q, hE81, rfl, rfl⟩) (sh_rN _) (sh_rN _)) (rN_eqv _ _)))) (fun x hx hf _ _ _ _ _ => ee_int))) (ee_new (en_lst (ds := []) ea_nil (by decide))) ?sh1 sh_nil) ?vd))) ?_
  case sh1 => exact sh_lst (enc := fun _ : List Nat => PyData.int 1) _ (fun _ => by simp [PyData.canLay0]) (fun _ => by simp [PyData.depth])
  case vd =>
    show PyData.bool (!PyData.eqv (.list (L.map fun _ => PyData.int 1)) (.list [])) = .bool (decide (L ≠ []))
    rw [hfl]
    by_cases h : L = []
    · rw [decide_eq_true h, decide_eq_false fun z => z h]; rfl
    · have h2 : L ≠ [] := h
      rw [decide_eq_false h, decide_eq_true h2]; rfl
  have hres : (findP n Q).isSome = decide (L ≠ []) := res_iff h1 h9 hq
  refine essK_wk (Γ' := Γa.set 17 (some (.im (.bool (decide (L ≠ [])))))) (essK_one (esK_ifF (etK_frz 3 ((Γa.set 17 (some (.im (.bool (decide (L ≠ [])))))).set 1 none) rfl (LessL.less (by repeat (first | exact LessL.nil | refine LessL.same ?_ | refine LessL.drop ?_))) (noOwn_of rfl) (et_is (et_not (et_val (ee_ca A0.alike hr (ea_cons (ee_meth0 (hl := fun _ _ => rfl) A0.D A0.res hr (ee_var 3) ⟨n, ks, line.map castP, h1, h9, by omega, by rw [hQ]; exact hq, rfl, rfl⟩) (ea_cons (ee_var 17) ea_nil)) (alk9 (by rw [hQ, hres]) (sh_bool _) (by simp [PyData.depth]) (by simp [smallD]))))) rfl)) essK_nil)) (LessL.less (by repeat (first | exact LessL.nil | refine LessL.same ?_ | refine LessL.drop ?_)))
end
end DL
end

section
namespace DL
open PySem PySem.Spec PyProof.Rows L2 RM
def ifT9 : Stmt → List Stmt
  | .If _ b _ _ => b
  | _ => []
def ifE9 : Stmt → List Stmt
  | .If _ _ b _ => b
  | _ => []
abbrev G8 (ns : List Int) (n i : Nat) (p : Addr) (R : Rw) (line : List (Nat × Nat)) : Gm := (Gd ns n p R line).set 8 (some (.im (iN i)))
theorem sh_tnil : SeqAt.shaped (.tuple []) = true := sh_rN []
theorem sh_s (x : Str) (h : (PyData.str x).canLay0 = true) : SeqAt.shaped (.str x) = true := shaped_of h (by simp [PyData.depth])
section
variable {P : Program} {w : World} {K : PySem.W.Frag} {mg : Str → Option Value} {base : Heap} {C CN CB CS : Addr}
theorem undo_none (A0 : Cas P w K mg base C CN CB CS) {f : Addr} {cdv : Value} {A : Around} {outer : List Env} {s : Shared} {H : Hp} {E : XK} (hr : Room 15 (A.deeper (envOfC "law" (defScope s_law) s.heap.objs.size f cdv)))
    {p dx dj dl : Addr} {ns : List Int} {n i : Nat} {R : Rw} {ks : List (Nat × Nat)} :
    EssK (cxOf CX0 P w K mg base N_law "law" (defScope s_law) f cdv A outer s H E).nox ⟨p, dx, dj, dl, C, n⟩ (G8 ns n i p R []) (Sk ks []) (ifT9 (stAt (forB (stAt (defBody s_law) 4)) 0)) (G8 ns n i p R []) (Sk ks []) := by
  have S := sc_law
  let Γ : Gm := (G8 ns n i p R []).set 10 (some (.im (.str "none")))
  refine essK_wk (Γ' := Γ) (essK_cons (Γ1 := Γ) (S1 := Sk ks []) (esK_tryEr (m := 10) (Γ1 := G8 ns n i p R []) (Γ2 := Γ) rfl rfl S.nd 11 ⟨rfl, by decide, .inl A0.ES.m⟩ A0.ES.e (fun W pn xe tk => exK_meth0 tk A0.undo rfl A0.D.cls hr (pe_nm 3) rfl (.inr ⟨rfl, rfl, rfl⟩)) rfl rfl (fun a pn => ess_one (es_set 10 S.nd ee_str)))
    (essK_cons (Γ1 := Γ) (S1 := Sk ks []) (esK_ifF (etK_lift (et_is (et_neD hr (ee_var 10) (ee_ifexp (d := .str "none") (p := false) (et_is (et_neD hr (ee_var 4) (ee_tup (ds := []) ea_nil (by decide)) (sh_rN _) sh_tnil) rfl) (fun z => by cases z) fun _ => ee_str) (sh_s _ (by rw [PyData.canLay0]; decide +kernel)) (sh_s _ (by rw [PyData.canLay0]; decide +kernel))) (by decide +kernel))) essK_nil)
    (essK_one (esK_lift (es_set 4 S.nd (ee_is (d2 := rN []) (ee_sliceLast (ee_var 4) (ee_neg ee_int)) rfl)))))) (LessL.less (by repeat (first | exact LessL.nil | refine LessL.same ?_ | refine LessL.drop ?_)))
theorem undo_some (A0 : Cas P w K mg base C CN CB CS) {f : Addr} {cdv : Value} {A : Around} {outer : List Env} {s : Shared} {H : Hp} {E : XK} (hr : Room 15 (A.deeper (envOfC "law" (defScope s_law) s.heap.objs.size f cdv)))
    {p dx dj dl : Addr} {ns : List Int} {n i : Nat} {R : Rw} {ks l : List (Nat × Nat)} {q : Nat × Nat} (hk : ks.length ≤ 81) :
    EssK (cxOf CX0 P w K mg base N_law "law" (defScope s_law) f cdv A outer s H E).nox ⟨p, dx, dj, dl, C, n⟩ (G8 ns n i p R (l ++ [q])) (Sk ks (l ++ [q])) (ifT9 (stAt (forB (stAt (defBody s_law) 4)) 0)) (G8 ns n i p R l) (Sk (togN ks q) l) := by
  have S := sc_law
  let Γ : Gm := (G8 ns n i p R (l ++ [q])).set 10 (some (.im .none))
  have hne : PyData.eqv (rN (l ++ [q])) (rN []) = false := by rw [rN_eqv]; exact decide_eq_false (by simp)
  refine essK_wk (Γ' := Γ.set 4 (some (.im (rN l)))) (essK_cons (Γ1 := Γ) (S1 := Sk (togN ks q) l) (esK_tryOk (essK_one (esK_set 10 S.nd (eeK_meth0 A0.undo rfl A0.D.cls hr (pe_nm 3) rfl (.inl ⟨ks.map castP, l.map castP, castP q, by simp [Sk], rfl, by rw [List.length_map]; omega, by rw [tog_cast]⟩)))))
    (essK_cons (Γ1 := Γ) (S1 := Sk (togN ks q) l) (esK_ifF (etK_lift (et_is (et_neD hr (ee_var 10) (ee_ifexp (d := .none) (p := true) (et_is (et_neD hr (ee_var 4) (ee_tup (ds := []) ea_nil (by decide)) (sh_rN _) sh_tnil) (by rw [show PyData.tuple [] = rN [] from rfl, hne]; rfl)) (fun _ => ee_non) fun z => by cases z) (shaped_of (by simp [PyData.canLay0]) (by simp [PyData.depth])) (shaped_of (by simp [PyData.canLay0]) (by simp [PyData.depth]))) rfl)) essK_nil)
    (essK_one (esK_lift (es_set 4 S.nd (ee_is (d2 := rN l) (ee_sliceLast (ds := (l ++ [q]).map pN) (ee_var 4) (ee_neg ee_int)) (by rw [List.map_append, List.map_singleton, List.dropLast_concat]))))))) (LessL.less (by repeat (first | exact LessL.nil | refine LessL.same ?_ | refine LessL.drop ?_)))
end
end DL
end

section
namespace DL
open PySem PySem.Spec PyProof.Rows L2 RM
section
variable {P : Program} {w : World} {K : PySem.W.Frag} {mg : Str → Option Value} {base : Heap} {C CN CB CS : Addr}
theorem any_not {n : Nat} {z : PyData} (h : ∀ i : Nat, PyData.eqv (iN i) z = false) : (((List.range n).map iN).any fun y => PyData.eqv y z) = false := by
  rw [List.any_map, List.any_eq_false]
  intro x _
  show ¬ PyData.eqv (iN x) z = true
  rw [h]; decide
abbrev Go (ns : List Int) (n i : Nat) (p : Addr) (R : Rw) (line : List (Nat × Nat)) (x y : PyData) : Gm := ((G8 ns n i p R line).set 12 (some (.im x))).set 13 (some (.im y))
/-- behind the drawing of two halls -/
theorem over_rest (A0 : Cas P w K mg base C CN CB CS) {f : Addr} {cdv : Value} {A : Around} {outer : List Env} {s : Shared} {H : Hp} {E : XK} (hr : Room 15 (A.deeper (envOfC "law" (defScope s_law) s.heap.objs.size f cdv)))
    {p dx dj dl : Addr} {ns : List Int} {n i : Nat} (h1 : 1 ≤ n) (h5 : n ≤ 5) {R : Rw} {ks line : List (Nat × Nat)} (g : Goodm n ks line) (hl : line.length ≤ 150) {x y : PyData} (hx : HallV n x) (hy : HallV n y) :
    ∃ ks' line', Goodm n ks' line' ∧ line'.length ≤ line.length + 1 ∧ EssK (cxOf CX0 P w K mg base N_law "law" (defScope s_law) f cdv A outer s H E).nox ⟨p, dx, dj, dl, C, n⟩ (Go ns n i p R line x y) (Sk ks line) ((ifE9 (stAt (forB (stAt (defBody s_law) 4)) 0)).drop 2) (G8 ns n i p R line') (Sk ks' line') := by
  have S := sc_law
  have T := A0.T
  have hk := good_len g (by omega : n ≤ 9)
  let Γ0 : Gm := Go ns n i p R line x y
  let od : PyData := .list (([x, y].filter fun z => !inH n z).map id)
  let gd : Bool := isWayD (.tuple [x, y]) n
  let Γ2 : Gm := (Γ0.set 14 (some (.im od))).set 15 (some (.im (.bool gd)))
  have s2 : ∀ {Γ' : Gm} {S' : DkS} {sts : List Stmt}, EssK (cxOf CX0 P w K mg base N_law "law" (defScope s_law) f cdv A outer s H E).nox ⟨p, dx, dj, dl, C, n⟩ (Γ0.set 14 (some (.im od))) (Sk ks line) sts Γ' S' →
      EssK (cxOf CX0 P w K mg base N_law "law" (defScope s_law) f cdv A outer s H E).nox ⟨p, dx, dj, dl, C, n⟩ Γ0 (Sk ks line) (stAt (ifE9 (stAt (forB (stAt (defBody s_law) 4)) 0)) 2 :: sts) Γ' S' := fun {Γ' S' sts} hh => by
    refine essK_cons (esK_lift (es_setLc 14 (own := [("hall", 18)]) [x, y] id (fun z => !inH n z) id (fun z => Γ0.set 18 (some (.im z))) [18] rfl S.nd (blkOk_by (N := N_law) (sc := defScope s_law) (by decide +kernel)) rfl (by decide) (by show 2 ≤ 16777216; decide) (fun z _ => less_set rfl)
      (ei_is (ei_tup (ee_tup (ds := [x, y]) (ea_cons (ee_var 12) (ea_cons (ee_var 13) ea_nil)) (by simp))) (List.map_id _).symm) (fun z hz _ _ _ _ _ => (eg_name 18 S.nd)) (fun z hz _ _ _ _ _ => ?tst) (fun z hz hf _ _ _ _ _ => (ee_var 18)))) (essK_freeze 14 rfl hh)
    case tst =>
      have hv : HallV n z := by
        rcases List.mem_cons.mp hz with rfl | hz
        · exact hx
        · rw [List.mem_singleton.mp hz]; exact hy
      rcases hv with ⟨k, hk, rfl⟩ | rfl | rfl | rfl | rfl
      · exact ets_one (et_is (et_w (ew_or (p := false) (et_val (ee_isi (d := iN k) (TN := "bool") T.isinstance T.bool (by decide +kernel) (ee_var 18) (fun _ z => by cases z) rfl)) fun _ => (ew_or1 (et_notIn hr (ee_var 18) (ee_new (en_listRg rfl T.list T.range (ee_var 2) (by omega))) rfl (sh_iN _) (sh_iNs _))))) (by
          show (false || !(((List.range n).map iN).any fun z => PyData.eqv z (iN k))) = !inH n (iN k)
          rw [inH_nat, any_eqv iN_eqv, decide_eq_true hk, decide_eq_true (List.mem_range.mpr hk)]; rfl))
      · exact ets_one (et_is (et_w (ew_or (p := false) (et_val (ee_isi (d := .none) (TN := "bool") T.isinstance T.bool (by decide +kernel) (ee_var 18) (fun _ z => by cases z) rfl)) fun _ => (ew_or1 (et_notIn hr (ee_var 18) (ee_new (en_listRg rfl T.list T.range (ee_var 2) (by omega))) rfl (hall_sh (n := n) (.inr (.inl rfl))) (sh_iNs _))))) (by
          show (false || !(((List.range n).map iN).any fun z => PyData.eqv z .none)) = !inH n .none
          rw [any_not (fun _ => rfl)]; rfl))
      · exact ets_one (et_is (et_w (ew_or (p := false) (et_val (ee_isi (d := iN n) (TN := "bool") T.isinstance T.bool (by decide +kernel) (ee_var 18) (fun _ z => by cases z) rfl)) fun _ => (ew_or1 (et_notIn hr (ee_var 18) (ee_new (en_listRg rfl T.list T.range (ee_var 2) (by omega))) rfl (sh_iN _) (sh_iNs _))))) (by
          show (false || !(((List.range n).map iN).any fun z => PyData.eqv z (iN n))) = !inH n (iN n)
          rw [inH_nat, any_eqv iN_eqv, decide_eq_false (Nat.lt_irrefl n), decide_eq_false (fun z => Nat.lt_irrefl n (List.mem_range.mp z))]; rfl))
      · exact ets_one (et_is (et_w (ew_or (p := true) (q := true) (et_val (ee_isi (d := .bool true) (TN := "bool") T.isinstance T.bool (by decide +kernel) (ee_var 18) (fun _ z => by cases z) rfl)) fun z => by cases z)) rfl)
      · exact ets_one (et_is (et_w (ew_or (p := false) (et_val (ee_isi (d := .str "0") (TN := "bool") T.isinstance T.bool (by decide +kernel) (ee_var 18) (fun _ z => by cases z) rfl)) fun _ => (ew_or1 (et_notIn hr (ee_var 18) (ee_new (en_listRg rfl T.list T.range (ee_var 2) (by omega))) rfl (hall_sh (n := n) (.inr (.inr (.inr (.inr rfl))))) (sh_iNs _))))) (by
          show (false || !(((List.range n).map iN).any fun z => PyData.eqv z (.str "0"))) = !inH n (.str "0")
          rw [any_not (fun _ => rfl)]; rfl))
  have s3 : EsK (cxOf CX0 P w K mg base N_law "law" (defScope s_law) f cdv A outer s H E).nox ⟨p, dx, dj, dl, C, n⟩ (Γ0.set 14 (some (.im od))) (Sk ks line) (stAt (ifE9 (stAt (forB (stAt (defBody s_law) 4)) 0)) 3) Γ2 (Sk ks line) := by
    refine esK_lift (es_set 15 S.nd (ee_is (ee_and (ee_eqD hr (ee_var 14) (ee_new (en_lst (ds := []) ea_nil (by decide))) (sh_odd hx hy _) sh_nil) fun _ => (ee_one (ee_neD hr (ee_var 12) (ee_var 13) (hall_sh hx) (hall_sh hy)))) ?_))
    rw [odd_eqv]
    show PyData.bool ((!(!inH n x) && !(!inH n y)) && !PyData.eqv x y) = .bool (isWayD (.tuple [x, y]) n)
    rw [way_in, Bool.not_not, Bool.not_not, Bool.and_assoc]
  cases hg : gd with
  | false =>
    have hw : isWayD (.tuple [x, y]) n = false := hg
    refine ⟨ks, line, g, by omega, s2 (essK_cons s3 ?_)⟩
    let Γ3 : Gm := Γ2.set 10 (some (.im (.str "bad")))
    have sb : SeqAt.shaped (.str "bad") = true := sh_s _ (by rw [PyData.canLay0]; decide +kernel)
    refine essK_wk (Γ' := Γ3) (essK_cons (Γ1 := Γ3) (S1 := Sk ks line) (esK_tryEr (m := 10) (Γ1 := Γ2) (Γ2 := Γ3) rfl rfl S.nd 11 ⟨rfl, by decide, .inl A0.EB.m⟩ A0.EB.e (fun W pn xe tk => exK_meth tk A0.over rfl A0.D.cls hr (pe_nm 3) rfl (eaK_lift (ea_cons (ee_var 12) (ea_cons (ee_var 13) ea_nil))) (.inr ⟨x, y, rfl, sh_seq2 hx hy, hw, rfl⟩)) rfl rfl (fun a pn => ess_one (es_set 10 S.nd ee_str)))
      (essK_cons (Γ1 := Γ3) (S1 := Sk ks line) (esK_ifF (etK_lift (et_is (et_neD hr (ee_var 10) (ee_ifexp (d := .str "bad") (p := false) (et_is (et_val (ee_var 15)) hg) (fun z => by cases z) fun _ => ee_str) sb sb) (by decide +kernel))) essK_nil)
      (essK_one (esK_lift (es_set 4 S.nd (ee_ifexp (d := rN line) (p := false) (et_is (et_val (ee_var 15)) hg) (fun z => by cases z) fun _ => ee_var 4)))))) (LessL.less (by repeat (first | exact LessL.nil | refine LessL.same ?_ | refine LessL.drop ?_)))
  | true =>
    have hw : isWayD (.tuple [x, y]) n = true := hg
    have hw2 := hw
    rw [way_in, Bool.and_eq_true, Bool.and_eq_true] at hw2
    obtain ⟨k, hk1, rfl⟩ := hall_in hx hw2.1
    obtain ⟨j, hj1, rfl⟩ := hall_in hy hw2.2.1
    have hne : k ≠ j := fun z => by
      have := hw2.2.2
      rw [iN_eqv, z] at this
      simp at this
    have hp : (min k j, max k j) ∈ allPairs n := mem_allPairs.mpr ⟨by show min k j < max k j; omega, by show max k j < n; omega⟩
    refine ⟨togN ks (min k j, max k j), line ++ [(min k j, max k j)], good_push g hp, by simp, s2 (essK_cons s3 ?_)⟩
    let Γ3 : Gm := Γ2.set 10 (some (.im .none))
    have sn : SeqAt.shaped PyData.none = true := shaped_of (by simp [PyData.canLay0]) (by simp [PyData.depth])
    have eS : ((togP (ks.map castP) (mnx (k : Int) (j : Int)), line.map castP ++ [mnx (k : Int) (j : Int)]) : DkS) = Sk (togN ks (min k j, max k j)) (line ++ [(min k j, max k j)]) := by
      rw [mnx_cast, tog_cast]
      simp [Sk]
    refine essK_wk (Γ' := Γ3.set 4 (some (.im (rN (line ++ [(min k j, max k j)]))))) (essK_cons (Γ1 := Γ3) (S1 := Sk (togN ks (min k j, max k j)) (line ++ [(min k j, max k j)])) (esK_tryOk (essK_one (esK_set 10 S.nd (eeK_meth A0.over rfl A0.D.cls hr (pe_nm 3) rfl (eaK_lift (ea_cons (ee_var 12) (ea_cons (ee_var 13) ea_nil))) (.inl ⟨k, j, rfl, hw, by rw [List.length_map]; omega, by rw [List.length_map]; omega, by rw [← eS]⟩)))))
      (essK_cons (Γ1 := Γ3) (S1 := Sk (togN ks (min k j, max k j)) (line ++ [(min k j, max k j)])) (esK_ifF (etK_lift (et_is (et_neD hr (ee_var 10) (ee_ifexp (d := .none) (p := true) (et_is (et_val (ee_var 15)) hg) (fun _ => ee_non) fun z => by cases z) sn sn) rfl)) essK_nil)
      (essK_one (esK_lift (es_set 4 S.nd (ee_ifexp (d := rN (line ++ [(min k j, max k j)])) (p := true) (et_is (et_val (ee_var 15)) hg) (fun _ => ee_is (ee_catT (ds2 := [pN (min k j, max k j)]) (ee_var 4) (ee_tup (ds := [pN (min k j, max k j)]) (ea_cons (ee_is (ee_tupL T.tuple (ea_cons (ee_new (en_sortI (t := [k, j]) hr T.sorted (ea_cons (ee_new (en_lst (ds := [iN k, iN j]) (ea_cons (ee_var 12) (ea_cons (ee_var 13) ea_nil)) (by simp))) ea_nil) rfl)) ea_nil)) (by rw [sort_two]; rfl)) ea_nil) (by simp)) (by rw [List.length_map]; simp; omega)) ?cat) fun z => by cases z)))))) (LessL.less (by repeat (first | exact LessL.nil | refine LessL.same ?_ | refine LessL.drop ?_)))
    case cat => show PyData.tuple (line.map pN ++ [pN (min k j, max k j)]) = rN (line ++ [(min k j, max k j)]); unfold rN; rw [List.map_append]; rfl
end
end DL
end

section
namespace DL
open PySem PySem.Spec PyProof.Rows L2 RM
def oddL (n : Nat) : List PyData := [.none, iN n, .bool true, .str "0"]
def bigL (n : Nat) : List PyData := (List.replicate 3 ((List.range n).map iN)).flatten ++ oddL n
theorem bigL_len (n : Nat) : (bigL n).length = 3 * n + 4 := by
  unfold bigL oddL
  simp [List.replicate]
  omega
theorem bigL_hall {n : Nat} {z : PyData} (h : z ∈ bigL n) : HallV n z := by
  unfold bigL at h
  rcases List.mem_append.mp h with h | h
  · obtain ⟨l, hl, hz⟩ := List.mem_flatten.mp h
    rw [(List.mem_replicate.mp hl).2] at hz
    obtain ⟨i, hi, rfl⟩ := List.mem_map.mp hz
    exact .inl ⟨i, List.mem_range.mp hi, rfl⟩
  · unfold oddL at h
    simp only [List.mem_cons, List.not_mem_nil, or_false] at h
    exact .inr h
section
variable {P : Program} {w : World} {K : PySem.W.Frag} {mg : Str → Option Value} {base : Heap} {C CN CB CS : Addr}
theorem turn_if (A0 : Cas P w K mg base C CN CB CS) {f : Addr} {cdv : Value} {A : Around} {outer : List Env} {s : Shared} {H : Hp} {E : XK} (hr : Room 15 (A.deeper (envOfC "law" (defScope s_law) s.heap.objs.size f cdv)))
    {p dx dj dl : Addr} {ns : List Int} {n i : Nat} (h1 : 1 ≤ n) (h5 : n ≤ 5) {R : Rw} (hi : 0 ≤ R.i) {ks line : List (Nat × Nat)} (g : Goodm n ks line) (hl : line.length ≤ 150) :
    ∃ R' ks' line', 0 ≤ R'.i ∧ Goodm n ks' line' ∧ line'.length ≤ line.length + 1 ∧ EsK (cxOf CX0 P w K mg base N_law "law" (defScope s_law) f cdv A outer s H E).nox ⟨p, dx, dj, dl, C, n⟩ (G8 ns n i p R line) (Sk ks line) (stAt (forB (stAt (defBody s_law) 4)) 0) (G8 ns n i p R' line') (Sk ks' line') := by
  have S := sc_law
  have T := A0.T
  let R1 : Rw := (takenM 4 R).2
  have hi1 : 0 ≤ R1.i := taken_i hi
  have RQ : R_taken (rowD R) [.int 4] (.int (takenM 4 R).1) (rowD R1) := ⟨R, 4, hi, by decide, by decide, rfl, rfl, rfl, rfl⟩
  cases hq : PyData.eqv (.int (takenM 4 R).1) (.int 0) with
  | true =>
    rcases List.eq_nil_or_concat line with rfl | ⟨l, q, rfl⟩
    · exact ⟨R1, ks, [], hi1, g, by simp, esK_ifT (Γ1 := G8 ns n i p R1 []) (etK_lift (et_is (et_eqD hr (ee_caR (row' := rowD R1) (s := .ow (rowD R)) (s1 := .ow (rowD R)) A0.taken hr (pe_nm 1) rfl rfl (ea_cons ee_int ea_nil) rfl rfl RQ) ee_int (sh_int _) (sh_int _)) hq)) (undo_none A0 hr)⟩
    · rw [List.concat_eq_append] at *
      exact ⟨R1, togN ks q, l, hi1, good_pop g, by simp; omega, esK_ifT (Γ1 := G8 ns n i p R1 (l ++ [q])) (etK_lift (et_is (et_eqD hr (ee_caR (row' := rowD R1) (s := .ow (rowD R)) (s1 := .ow (rowD R)) A0.taken hr (pe_nm 1) rfl rfl (ea_cons ee_int ea_nil) rfl rfl RQ) ee_int (sh_int _) (sh_int _)) hq)) (undo_some A0 hr (good_len g (by omega)))⟩
  | false =>
    have hbl := bigL_len n
    obtain ⟨a, ha⟩ : ∃ a, (bigL n)[pickI (bigL n).length R1]? = some a := ⟨_, List.getElem?_eq_getElem (pickI_lt (n := (bigL n).length) (R := R1) (by omega)).1⟩
    have hav := bigL_hall (List.mem_of_getElem? ha)
    let R2 : Rw := (takenM (bigL n).length R1).2
    have hi2 : 0 ≤ R2.i := taken_i hi1
    have RP : R_pick (rowD R1) [.list (bigL n)] a (rowD R2) := ⟨R1, bigL n, hi1, by omega, by omega, rfl, rfl, ha, rfl⟩
    let R3 : Rw := (takenM (n : Int) R2).2
    have hi3 : 0 ≤ R3.i := taken_i hi2
    obtain ⟨b, hb, hbe⟩ : ∃ b : Nat, b < n ∧ (takenM (n : Int) R2).1 = (b : Int) := by
      have := taken_lt (m := (n : Int)) (R := R2) (by omega)
      exact ⟨(takenM (n : Int) R2).1.toNat, by omega, by omega⟩
    have RB : R_taken (rowD R2) [iN n] (iN b) (rowD R3) := ⟨R2, n, hi2, by omega, by omega, rfl, rfl, (by rw [hbe]; rfl), rfl⟩
    have hbv : HallV n (iN b) := .inl ⟨b, hb, rfl⟩
    let R4 : Rw := (takenM 2 R3).2
    have hi4 : 0 ≤ R4.i := taken_i hi3
    have RS : R_taken (rowD R3) [.int 2] (.int (takenM 2 R3).1) (rowD R4) := ⟨R3, 2, hi3, by decide, by decide, rfl, rfl, rfl, rfl⟩
    obtain ⟨x, y, hx, hy, hsw⟩ : ∃ x y, HallV n x ∧ HallV n y ∧ ((PyData.eqv (.int (takenM 2 R3).1) (.int 0) = true ∧ x = a ∧ y = iN b) ∨ (PyData.eqv (.int (takenM 2 R3).1) (.int 0) = false ∧ x = iN b ∧ y = a)) := by
      cases h : PyData.eqv (.int (takenM 2 R3).1) (.int 0) with
      | true => exact ⟨a, iN b, hav, hbv, .inl ⟨rfl, rfl, rfl⟩⟩
      | false => exact ⟨iN b, a, hbv, hav, .inr ⟨rfl, rfl, rfl⟩⟩
    obtain ⟨ks', line', g', hl', hE⟩ := over_rest A0 (outer := outer) (s := s) (H := H) (E := E) (p := p) (dx := dx) (dj := dj) (dl := dl) (ns := ns) (i := i) hr h1 h5 (R := R4) g hl hx hy
    refine ⟨R4, ks', line', hi4, g', hl', esK_ifF (Γ1 := G8 ns n i p R1 line) (etK_lift (et_is (et_eqD hr (ee_caR (row' := rowD R1) (s := .ow (rowD R)) (s1 := .ow (rowD R)) A0.taken hr (pe_nm 1) rfl rfl (ea_cons ee_int ea_nil) rfl rfl RQ) ee_int (sh_int _) (sh_int _)) hq)) (essK_cons (Γ1 := Go ns n i p R3 line a (iN b)) (S1 := Sk ks line) (esK_lift ?e0) (essK_cons (Γ1 := Go ns n i p R4 line x y) (S1 := Sk ks line) (esK_lift ?e1) hE))⟩
    case e0 =>
      refine es_par2 12 13 rfl S.nd (by decide) (ek_d (d := a) (ee_caR (row' := rowD R2) (s := .ow (rowD R1)) (s1 := .ow (rowD R1)) A0.pick hr (pe_nm 1) rfl rfl (ea_cons (ee_is (d2 := .list (bigL n)) (ee_new (en_cat (ds := (List.replicate 3 ((List.range n).map iN)).flatten) (ds2 := oddL n) (ee_new (en_rep (n := 3) (ds := (List.range n).map iN) (ee_new (en_listRg (n := n) rfl T.list T.range (ee_var 2) (by omega))) ee_int (by rw [List.length_map, List.length_range]; omega) (by decide))) (ee_new (en_lst (ds := oddL n) (ea_cons ee_non (ea_cons (ee_var 2) (ea_cons ee_bl (ea_cons ee_str ea_nil)))) (by show 4 ≤ 16777216; decide))) ?hz)) rfl) ea_nil) rfl rfl RP))
        (ek_d (d := iN b) (ee_caR (row' := rowD R3) (s := .ow (rowD R2)) (s1 := .ow (rowD R2)) A0.taken hr (pe_nm 1) rfl rfl (ea_cons (ee_var 2) ea_nil) rfl rfl RB))
      case hz =>
        have e : (List.replicate 3 ((List.range n).map iN)).flatten.length + (oddL n).length = (bigL n).length := by unfold bigL; rw [List.length_append]
        rw [e, hbl]; omega
    case e1 =>
      rcases hsw with ⟨hs, rfl, rfl⟩ | ⟨hs, rfl, rfl⟩
      · exact es_asg (ee_ifexp (d := .tuple [x, iN b]) (p := true) (et_is (et_eqD hr (ee_caR (row' := rowD R4) (s := .ow (rowD R3)) (s1 := .ow (rowD R3)) A0.taken hr (pe_nm 1) rfl rfl (ea_cons ee_int ea_nil) rfl rfl RS) ee_int (sh_int _) (sh_int _)) hs) (fun _ => ee_tup (ds := [x, iN b]) (ea_cons (ee_var 12) (ea_cons (ee_var 13) ea_nil)) (by simp)) fun z => by cases z) (eg_tup2 rfl (eg_name 12 S.nd) (eg_name 13 S.nd))
      · exact es_asg (ee_ifexp (d := .tuple [iN b, y]) (p := false) (et_is (et_eqD hr (ee_caR (row' := rowD R4) (s := .ow (rowD R3)) (s1 := .ow (rowD R3)) A0.taken hr (pe_nm 1) rfl rfl (ea_cons ee_int ea_nil) rfl rfl RS) ee_int (sh_int _) (sh_int _)) hs) (fun z => by cases z) fun _ => ee_tup (ds := [iN b, y]) (ea_cons (ee_var 13) (ea_cons (ee_var 12) ea_nil)) (by simp)) (eg_tup2 rfl (eg_name 12 S.nd) (eg_name 13 S.nd))
end
end DL
end

section
namespace DL
open PySem PySem.Spec PyProof.Rows L2 RM
theorem esK_is {X : Cx} {Z : DkZ} {Γ Γ1 Γ2 : Gm} {S S1 S2 : DkS} {st : Stmt} (h : EsK X Z Γ S st Γ1 S1) (e1 : Γ1 = Γ2) (e2 : S1 = S2) : EsK X Z Γ S st Γ2 S2 := by
  subst e1 e2
  exact h
theorem net_mix9 {t : List Nat} (ht : IsTurn t) (bs : Nat → Bool) {m : Nat} (hm : ∀ i, i < m → RM.G.leftR (RM.G.ringE (ledPair t) (allPairs t.length)) (allPairs t.length) i ≠ []) : IsNet t.length ((mixW (ledPair t) (allPairs t.length) bs m).mergeSort (le_ pLt)) := by
  obtain ⟨a, b⟩ := mix_inv (sysP ht) bs m hm
  exact ⟨sort_asc ordP a, fun p hp => (b p (List.mem_mergeSort.mp hp)).1⟩
theorem lrn_ex (R0 : Rw) (hi0 : 0 ≤ R0.i) : ∃ (t : List Nat) (Q : List (Nat × Nat)) (R2 : Rw), IsTurn t ∧ IsNet t.length Q ∧ R_lrn (rowD R0) [] (.tuple [nN t.length Q, tn t]) (rowD R2) := by
  obtain ⟨ls, hls⟩ : ∃ ls, some3[pickI 9 R0]? = some ls := ⟨_, List.getElem?_eq_getElem (pickI_lt (n := 9) (by decide)).1⟩
  obtain ⟨f1, f2, f3, f4⟩ := some3_ok ls (List.mem_of_getElem? hls)
  let Re : Rw := (takenM (9 : Nat) R0).2
  let R1 : Rw := (turnM ls.sum Re).2
  have hi1 : 0 ≤ R1.i := drawT_i _ _ _ _ (taken_i hi0)
  have hu := (ringed_all (turnM_is Re f1 f2) f4 (by rw [turnM_len])).1
  have RT : R_lrt (rowD R0) [] (tn (ringedM (turnM ls.sum Re).1 ls)) (rowD R1) := ⟨R0, ls, hi0, hls, rfl, rfl, rfl, rfl⟩
  generalize ringedM (turnM ls.sum Re).1 ls = t at *
  have hRp : ∀ p, p ∈ RM.G.ringE (ledPair t) (allPairs t.length) p := fun p => by
    obtain ⟨r, e⟩ := RM.G.ringE_ne (ledPair t) (allPairs t.length) p
    rw [e]; exact List.mem_cons_self
  obtain ⟨m, hmm, hm0, hm1⟩ := RM.G.walk_end hRp (allPairs t.length)
  exact ⟨t, _, drawAt 2 R1 m, hu, net_mix9 hu (bsM R1) hm1, R0, R1, t, m, hi1, hu, RT, hm0, hm1, rfl, rfl, rfl, rfl⟩
section
variable {P : Program} {w : World} {K : PySem.W.Frag} {mg : Str → Option Value} {base : Heap} {C CN CB CS : Addr}
theorem setup_if (A0 : Cas P w K mg base C CN CB CS) {f : Addr} {cdv : Value} {A : Around} {outer : List Env} {s : Shared} {H : Hp} {E : XK} (hr : Room 15 (A.deeper (envOfC "law" (defScope s_law) s.heap.objs.size f cdv)))
    {p dx dj dl : Addr} {ns : List Int} {n : Nat} (h1 : 1 ≤ n) (h5 : n ≤ 5) {R : Rw} (hi : 0 ≤ R.i) :
    ∃ R' ks line, 0 ≤ R'.i ∧ Goodm n ks line ∧ line.length ≤ 81 ∧ EsK (cxOf CX0 P w K mg base N_law "law" (defScope s_law) f cdv A outer s H E).nox ⟨p, dx, dj, dl, C, n⟩ (Gd ns n p R []) (Sk [] []) (stAt (defBody s_law) 3) (Gd ns n p R' line) (Sk ks line) := by
  have S := sc_law
  have T := A0.T
  let R1 : Rw := (takenM 2 R).2
  have hi1 : 0 ≤ R1.i := taken_i hi
  have RQ : R_taken (rowD R) [.int 2] (.int (takenM 2 R).1) (rowD R1) := ⟨R, 2, hi, by decide, by decide, rfl, rfl, rfl, rfl⟩
  cases hq : PyData.eqv (.int (takenM 2 R).1) (.int 0) && decide ((3 : Int) < (n : Int)) with
  | false => exact ⟨R1, [], [], hi1, good_nil n, by simp, esK_ifF (Γ1 := Gd ns n p R1 []) (etK_lift (et_is (et_w (ew_and (et_eqD hr (ee_caR (row' := rowD R1) (s := .ow (rowD R)) (s1 := .ow (rowD R)) A0.taken hr (pe_nm 1) rfl rfl (ea_cons ee_int ea_nil) rfl rfl RQ) ee_int (sh_int _) (sh_int _)) fun _ => (ew_and1 (et_gt (ee_var 2) ee_int)))) hq)) essK_nil⟩
  | true =>
    obtain ⟨t, Q, R2, ht, hqn, RL⟩ := lrn_ex ⟨ns, 0, 5910, 0⟩ (Int.le_refl 0)
    let Q' : List (Nat × Nat) := if t.length = n then Q else []
    have hQm : ∀ q ∈ Q', q ∈ allPairs n := fun q hq => by
      by_cases e : t.length = n
      · have : q ∈ Q := by
          have h2 : Q' = Q := if_pos e
          rw [h2] at hq; exact hq
        rw [← e]; exact hqn.2 q this
      · have h2 : Q' = [] := if_neg e
        rw [h2] at hq; cases hq
    have hQl : Q'.length ≤ 81 := by
      by_cases e : t.length = n
      · have h2 : Q' = Q := if_pos e
        rw [h2]; exact hqn.len (by omega)
      · have h2 : Q' = [] := if_neg e
        rw [h2]; exact Nat.zero_le _
    obtain ⟨fk, fk0, fk1, fk2⟩ := chain_of (I := fun i ks => Goodm n ks (Q'.take i)) (P := fun i ks ks' => ∀ q, Q'[i]? = some q → ks' = togN ks q) [] (good_nil n) Q'.length fun i ks hi g => by
      have hq : Q'[i]? = some Q'[i] := List.getElem?_eq_getElem hi
      refine ⟨togN ks Q'[i], fun q h => by rw [hq] at h; rw [Option.some.inj h], ?_⟩
      rw [List.take_succ, hq]
      exact good_push g (hQm _ (List.getElem_mem hi))
    let Γa : Gm := ((Gd ns n p R1 []).set 7 (some (.im (nN t.length Q)))).set 8 (some (.im (tn t)))
    let G : Nat → Gm := fun i => ((Gd ns n p R1 (Q'.take i)).set 7 (some (.im (nN t.length Q)))).set 8 (some (.im (tn t)))
    let G' : Nat → Gm := fun i => (G i).set 9 (some (.im (pN (Q'.getD i (0, 0)))))
    have hlo : EsK (cxOf CX0 P w K mg base N_law "law" (defScope s_law) f cdv A outer s H E).nox ⟨p, dx, dj, dl, C, n⟩ Γa (Sk (fk 0) (Q'.take 0)) (stAt (ifT9 (stAt (defBody s_law) 3)) 1) (G (Q'.map pN).length) (Sk (fk (Q'.map pN).length) (Q'.take (Q'.map pN).length)) := by
      refine esK_for (is := [9]) G G' (fun i => Sk (fk i) (Q'.take i)) (ei_tup (ee_is (d2 := rN Q') (ee_ifexp (d := rN Q') (p := decide (t.length = n)) (et_is (et_eqD hr (ee_ixT (d := iN t.length) (ds := [iN t.length, rN Q]) (ee_var 7) ee_int rfl) (ee_var 2) (sh_iN _) (sh_iN _)) (iN_eqv _ _)) (fun e => ee_is (ee_ixT (d := rN Q) (ds := [iN t.length, rN Q]) (ee_var 7) ee_int rfl) ?eq1) (fun e => ee_is (ee_tup (ds := []) ea_nil (by decide)) ?eq2)) rfl)) (fun i d hd => ?tg) (fun i hil => ?bd)
      case eq1 =>
        have h2 : Q' = Q := if_pos (of_decide_eq_true e)
        rw [h2]
      case eq2 =>
        have h2 : Q' = [] := if_neg (of_decide_eq_false e)
        rw [h2]; rfl
      case tg =>
        rw [List.getElem?_map] at hd
        cases hq : Q'[i]? with
        | none => rw [hq] at hd; cases hd
        | some q =>
          rw [hq] at hd
          have e : pN (Q'.getD i (0, 0)) = d := by
            rw [List.getD_eq_getElem?_getD, hq]
            exact Option.some.inj hd
          rw [← e]
          exact eg_name 9 S.nd
      case bd =>
        rw [List.length_map] at hil
        have hq : Q'[i]? = some Q'[i] := List.getElem?_eq_getElem hil
        obtain ⟨q, hqe⟩ : ∃ q, Q'[i] = q := ⟨_, rfl⟩
        rw [hqe] at hq
        have hqa : q ∈ allPairs n := hqe ▸ hQm _ (List.getElem_mem hil)
        have hm := mem_allPairs.mp hqa
        have eD : Q'.getD i (0, 0) = q := by rw [List.getD_eq_getElem?_getD, hq]; rfl
        have eT : Q'.take (i + 1) = Q'.take i ++ [q] := by rw [List.take_succ, hq]; rfl
        have g := fk1 i (Nat.le_of_lt hil)
        have hkl := good_len g (by omega)
        have hll : (Q'.take i).length ≤ 81 := by rw [List.length_take]; omega
        have hk := fk2 i hil q hq
        have hwq : isWayD (.tuple [.int (q.1 : Int), .int (q.2 : Int)]) n = true := by
          show (inH n (iN q.1) && (inH n (iN q.2) && !PyData.eqv (iN q.1) (iN q.2))) = true
          rw [inH_nat, inH_nat, iN_eqv, decide_eq_true (by omega), decide_eq_true hm.2, decide_eq_false (by omega)]; rfl
        have emn : mnx (q.1 : Int) (q.2 : Int) = castP q := by
          rw [mnx_cast]
          have a : min q.1 q.2 = q.1 := by omega
          have b : max q.1 q.2 = q.2 := by omega
          rw [a, b]
        show EssK _ _ ((G i).set 9 (some (.im (pN (Q'.getD i (0, 0)))))) _ _ (G (i + 1)) (Sk (fk (i + 1)) (Q'.take (i + 1)))
        rw [hk, eD]
        show EssK _ _ _ _ _ (((Gd ns n p R1 (Q'.take (i + 1))).set 7 (some (.im (nN t.length Q)))).set 8 (some (.im (tn t)))) (Sk (togN (fk i) q) (Q'.take (i + 1)))
        rw [eT]
        let Γn : Gm := (((Gd ns n p R1 (Q'.take i)).set 7 (some (.im (nN t.length Q)))).set 8 (some (.im (tn t)))).set 9 (some (.im (pN q)))
        refine essK_wk (Γ' := Γn.set 4 (some (.im (rN (Q'.take i ++ [q]))))) (essK_cons (Γ1 := Γn) (S1 := Sk (togN (fk i) q) (Q'.take i ++ [q])) (esK_expr (eeK_meth A0.over rfl A0.D.cls hr (pe_nm 3) rfl (eaK_lift (ea_cons (ee_ixT (d := iN q.1) (ds := [iN q.1, iN q.2]) (ee_var 9) ee_int rfl) (ea_cons (ee_ixT (d := iN q.2) (ds := [iN q.1, iN q.2]) (ee_var 9) ee_int rfl) ea_nil))) (.inl ⟨q.1, q.2, rfl, hwq, by rw [List.length_map]; omega, by rw [List.length_map]; omega, ?so⟩)))
          (essK_one (esK_lift (es_set 4 S.nd (ee_is (d2 := rN (Q'.take i ++ [q])) (ee_catT (ds2 := [pN q]) (ee_var 4) (ee_tup (ds := [pN q]) (ea_cons (ee_var 9) ea_nil) (by simp)) (by rw [List.length_map]; simp; omega)) ?cat))))) (LessL.less (by repeat (first | exact LessL.nil | refine LessL.same ?_ | refine LessL.drop ?_)))
        case so =>
          rw [emn, tog_cast]
          simp [Sk]
        case cat => show PyData.tuple ((Q'.take i).map pN ++ [pN q]) = rN (Q'.take i ++ [q]); unfold rN; rw [List.map_append]; rfl
    have hlen : (Q'.map pN).length = Q'.length := List.length_map _
    have g := fk1 Q'.length (Nat.le_refl _)
    rw [List.take_length] at g
    refine ⟨R1, fk Q'.length, Q', hi1, g, hQl, esK_ifT (Γ1 := Gd ns n p R1 []) (etK_lift (et_is (et_w (ew_and (et_eqD hr (ee_caR (row' := rowD R1) (s := .ow (rowD R)) (s1 := .ow (rowD R)) A0.taken hr (pe_nm 1) rfl rfl (ea_cons ee_int ea_nil) rfl rfl RQ) ee_int (sh_int _) (sh_int _)) fun _ => (ew_and1 (et_gt (ee_var 2) ee_int)))) hq)) ?_⟩
    refine essK_wk (Γ' := ((Gd ns n p R1 Q').set 7 (some (.im (nN t.length Q)))).set 8 (some (.im (tn t)))) (essK_cons (Γ1 := Γa) (S1 := Sk [] []) (esK_lift (es_asg (ee_caF A0.lrn hr (en_lst (ds := rowD ⟨ns, 0, 5910, 0⟩) (ea_cons (ee_var 0) (ea_cons ee_int (ea_cons ee_int (ea_cons ee_int ea_nil)))) (by show 4 ≤ 16777216; decide)) RL) (eg_tup2 rfl (eg_name 7 S.nd) (eg_name 8 S.nd)))) (essK_one ?lp)) (LessL.less (by repeat (first | exact LessL.nil | refine LessL.same ?_ | refine LessL.drop ?_)))
    rw [hlen, fk0, List.take_length] at hlo
    have e2 : G Q'.length = ((Gd ns n p R1 Q').set 7 (some (.im (nN t.length Q)))).set 8 (some (.im (tn t))) := by
      show ((Gd ns n p R1 (Q'.take Q'.length)).set 7 _).set 8 _ = _
      rw [List.take_length]
    rw [e2] at hlo
    exact hlo
end
end DL
end

section
namespace DL
open PySem PySem.Spec PyProof.Rows L2 RM
def R_law (ds : List PyData) (d : PyData) : Prop := ∃ ns : List Int, ds = [scrD ns] ∧ d = .bool true
def badL : List PyData := [.none, .int 0, .int 10, .bool true, .str "4"]
theorem bad_facts : ∀ v ∈ badL, (∀ x, v ≠ .dict x) ∧ isNum v 1 9 = false := by
  intro v hv
  unfold badL at hv
  simp only [List.mem_cons, List.not_mem_nil, or_false] at hv
  rcases hv with rfl | rfl | rfl | rfl | rfl
  · exact ⟨(fun _ z => by cases z), rfl⟩
  · exact ⟨(fun _ z => by cases z), by decide⟩
  · exact ⟨(fun _ z => by cases z), by decide⟩
  · exact ⟨(fun _ z => by cases z), rfl⟩
  · exact ⟨(fun _ z => by cases z), rfl⟩
section
variable {P : Program} {w : World} {K : PySem.W.Frag} {mg : Str → Option Value} {base : Heap} {C CN CB CS : Addr}
theorem law_end (A0 : Cas P w K mg base C CN CB CS) {f : Addr} {cdv : Value} {A : Around} {outer : List Env} {s : Shared} {H : Hp} {E : XK} (hr : Room 15 (A.deeper (envOfC "law" (defScope s_law) s.heap.objs.size f cdv)))
    {p : Addr} {ns : List Int} {n : Nat} {R : Rw} (hi : 0 ≤ R.i) {line : List (Nat × Nat)} :
    Er (cxOf CX0 P w K mg base N_law "law" (defScope s_law) f cdv A outer s H E).nox (Gd ns n p R line) ((defBody s_law).drop 5) (.bool true) := by
  have S := sc_law
  obtain ⟨bv, hbv⟩ : ∃ bv, badL[pickI 5 R]? = some bv := ⟨_, List.getElem?_eq_getElem (pickI_lt (n := 5) (by decide)).1⟩
  obtain ⟨b1, b2⟩ := bad_facts bv (List.mem_of_getElem? hbv)
  let R3 : Rw := (takenM (5 : Nat) R).2
  have RB : R_pick (rowD R) [.list badL] bv (rowD R3) := ⟨R, badL, hi, by decide, by decide, rfl, rfl, hbv, rfl⟩
  let Γe : Gm := Gd ns n p R3 line
  exact er_stop (es_tryX (Γ1 := Γe) (Γ2 := Γe) rfl rfl S.nd 11 ⟨rfl, by decide, .inl A0.EN.m⟩ A0.EN.e (fun W pn xe tk => exx_make tk A0.make hr (ee_caR (row' := rowD R3) (s := .ow (rowD R)) (s1 := .ow (rowD R)) A0.pick hr (pe_nm 1) rfl rfl (ea_cons (ee_new (en_lst (ds := badL) (ea_cons ee_non (ea_cons ee_int (ea_cons ee_int (ea_cons ee_bl (ea_cons ee_str ea_nil))))) (by decide))) ea_nil) rfl rfl RB) (.inr ⟨b1, b2, rfl⟩)) rfl (fun a pn => ess_stop (es_ret ee_bl) (by intro _ z; cases z)))
theorem law_loop (A0 : Cas P w K mg base C CN CB CS) {f : Addr} {cdv : Value} {A : Around} {outer : List Env} {s : Shared} {H : Hp} {E : XK} (hr : Room 15 (A.deeper (envOfC "law" (defScope s_law) s.heap.objs.size f cdv)))
    {p dx dj dl : Addr} {ns : List Int} {n : Nat} (h1 : 1 ≤ n) (h5 : n ≤ 5) {R : Rw} (hi : 0 ≤ R.i) {ks line : List (Nat × Nat)} (g : Goodm n ks line) (hl : line.length ≤ 81) :
    ∃ R' ks' line', 0 ≤ R'.i ∧ EsK (cxOf CX0 P w K mg base N_law "law" (defScope s_law) f cdv A outer s H E).nox ⟨p, dx, dj, dl, C, n⟩ (Gd ns n p R line) (Sk ks line) (stAt (defBody s_law) 4) (Gd ns n p R' line') (Sk ks' line') := by
  have S := sc_law
  have T := A0.T
  let R1 : Rw := (takenM 9 R).2
  have hi1 : 0 ≤ R1.i := taken_i hi
  obtain ⟨m, hm, hme⟩ : ∃ m : Nat, m < 9 ∧ (takenM 9 R).1 = (m : Int) := by
    have := taken_lt (m := 9) (R := R) (by decide)
    exact ⟨(takenM 9 R).1.toNat, by omega, by omega⟩
  have RQ : R_taken (rowD R) [.int 9] (iN m) (rowD R1) := ⟨R, 9, hi, by decide, by decide, rfl, rfl, (by rw [hme]; rfl), rfl⟩
  obtain ⟨st, st0, st1, st2⟩ := chain_of (α := Rw × List (Nat × Nat) × List (Nat × Nat)) (I := fun i q => 0 ≤ q.1.i ∧ Goodm n q.2.1 q.2.2 ∧ q.2.2.length ≤ 81 + i)
    (P := fun i q q' => EssK (cxOf CX0 P w K mg base N_law "law" (defScope s_law) f cdv A outer s H E).nox ⟨p, dx, dj, dl, C, n⟩ (G8 ns n i p q.1 q.2.2) (Sk q.2.1 q.2.2) (forB (stAt (defBody s_law) 4)) (Gd ns n p q'.1 q'.2.2) (Sk q'.2.1 q'.2.2)) (R1, ks, line) ⟨hi1, g, by omega⟩ m fun i q him ⟨q1, q2, q3⟩ => by
      obtain ⟨R', ks', line', a1, a2, a3, a4⟩ := turn_if A0 (outer := outer) (s := s) (H := H) (E := E) (p := p) (dx := dx) (dj := dj) (dl := dl) (ns := ns) (i := i) hr h1 h5 q1 q2 (by omega)
      exact ⟨(R', ks', line'), essK_cons a4 (turn_tail A0 hr h1 h5 a2 (by omega)), a1, a2, by show line'.length ≤ 81 + (i + 1); omega⟩
  refine ⟨(st m).1, (st m).2.1, (st m).2.2, (st1 m (Nat.le_refl _)).1, ?_⟩
  let G : Nat → Gm := fun i => Gd ns n p (st i).1 (st i).2.2
  have hlen : ((List.range m).map iN).length = m := by rw [List.length_map, List.length_range]
  have e0 : G 0 = Gd ns n p R1 line := by
    show Gd ns n p (st 0).1 (st 0).2.2 = _
    rw [st0]
  have hlo : EsK (cxOf CX0 P w K mg base N_law "law" (defScope s_law) f cdv A outer s H E).nox ⟨p, dx, dj, dl, C, n⟩ (Gd ns n p R line) (Sk (st 0).2.1 (st 0).2.2) (stAt (defBody s_law) 4) (G ((List.range m).map iN).length) (Sk (st ((List.range m).map iN).length).2.1 (st ((List.range m).map iN).length).2.2) := by
    refine esK_for (is := [8]) G (fun i => (G i).set 8 (some (.im (iN i)))) (fun i => Sk (st i).2.1 (st i).2.2) ?it (fun i d hd => ?tg) (fun i hil => st2 i (by rw [hlen] at hil; exact hil))
    case it =>
      rw [e0]
      exact ei_is (ei_range1 T.range (ea_cons (ee_caR (row' := rowD R1) (s := .ow (rowD R)) (s1 := .ow (rowD R)) A0.taken hr (pe_nm 1) rfl rfl (ea_cons ee_int ea_nil) rfl rfl RQ) ea_nil) (by omega) (by omega)) (rngD_N m)
    case tg =>
      rw [List.getElem?_map] at hd
      have hi3 : i < m := by
        apply Classical.byContradiction
        intro h
        rw [List.getElem?_eq_none (by rw [List.length_range]; omega)] at hd
        cases hd
      rw [List.getElem?_range hi3] at hd
      cases hd
      exact eg_name 8 S.nd
  rw [hlen, st0] at hlo
  exact hlo
theorem ok_law (A0 : Cas P w K mg base C CN CB CS) {f : Addr} {fd : FuncData} (F : Fun K "law" "law" s_law f fd) : FnOk P w K mg base CX0 16 f fd ["script"] (spD K R_law) := by
  have S := sc_law
  have T := A0.T
  refine ok_D F S (fun ds d ⟨_, e, _⟩ => by rw [e]; rfl) fun cdv A outer s H E ds d hr ⟨ns, e1, e2⟩ => ?_
  suffices hh : Er (cxOf CX0 P w K mg base N_law "law" (defScope s_law) f cdv A outer s H E).nox (slots0 N_law ds) (defBody s_law) d by
    obtain ⟨g, hg⟩ := hh
    exact ⟨_, hg, .inl ⟨g, rfl⟩⟩
  subst e1 e2
  let R0 : Rw := ⟨ns, 0, 5909, 0⟩
  have hi0 : 0 ≤ R0.i := Int.le_refl 0
  let R1 : Rw := (takenM 5 R0).2
  have hi1 : 0 ≤ R1.i := taken_i hi0
  obtain ⟨k, hk, hke⟩ : ∃ k : Nat, k < 5 ∧ (takenM 5 R0).1 = (k : Int) := by
    have := taken_lt (m := 5) (R := R0) (by decide)
    exact ⟨(takenM 5 R0).1.toNat, by omega, by omega⟩
  have RQ : R_taken (rowD R0) [.int 5] (iN k) (rowD R1) := ⟨R0, 5, hi0, by decide, by decide, rfl, rfl, (by rw [hke]; rfl), rfl⟩
  obtain ⟨n, hn⟩ : ∃ n, 1 + k = n := ⟨_, rfl⟩
  let B0 : Rw → Gm := fun R => (slots0 N_law [scrD ns]).set 1 (some (.ow (rowD R)))
  let B1 : Gm := ((B0 R0).set 1 (some (.ow (rowD R1)))).set 2 (some (.im (iN n)))
  refine er_cons (Γ1 := B0 R0) (es_own 1 S.nd (en_lst (ds := rowD R0) (ea_cons (ee_var 0) (ea_cons ee_int (ea_cons ee_int (ea_cons ee_int ea_nil)))) (by show 4 ≤ 16777216; decide))) ?_
  refine er_cons (Γ1 := B1) (es_set (d := iN n) 2 S.nd (ee_is (ee_add ee_int (ee_caR (row' := rowD R1) (s := .ow (rowD R0)) (s1 := .ow (rowD R0)) A0.taken hr (pe_nm 1) rfl rfl (ea_cons ee_int ea_nil) rfl rfl RQ)) (by rw [← hn]; show PyData.int (1 + (k : Int)) = PyData.int ((1 + k : Nat) : Int); congr 1))) ?_
  refine er_desk4 (C := C) (h := (n : Int)) (d2 := rN []) (d3 := .list ((allPairs n).map pN)) (d4 := .list ((turnsTo n n).map tn)) 3 4 5 6 rfl S.nd (pe_mkK (d := iN n) A0.make hr (pe_nm 2) rfl (.inl ⟨n, by omega, by omega, rfl, rfl⟩)) (ee_is (ee_tup (ds := []) ea_nil (by decide)) rfl)
    (ee_ca A0.lpairs hr (ea_cons (ee_var 2) ea_nil) ⟨n, rfl, by omega, rfl⟩) (ee_ca A0.lturns hr (ea_cons (ee_var 2) ea_nil) ⟨n, by omega, rfl, rfl⟩) (fun Z hC hh => ?rest) (by show 3 < 20; decide) (by show 4 < 20; decide) (by show 5 < 20; decide) (by show 6 < 20; decide)
  case rest =>
    obtain ⟨p, dx, dj, dl, C', h'⟩ := Z
    have hC : C' = C := hC
    have hh : h' = (n : Int) := hh
    subst hC hh
    obtain ⟨R2, ks, line, b1, b2, b3, b4⟩ := setup_if A0 (outer := outer) (s := s) (H := H) (E := E) (p := p) (dx := dx) (dj := dj) (dl := dl) (ns := ns) hr (by omega : 1 ≤ n) (by omega) hi1
    obtain ⟨R3, ks3, line3, c1, c2⟩ := law_loop A0 (outer := outer) (s := s) (H := H) (E := E) (p := p) (dx := dx) (dj := dj) (dl := dl) (ns := ns) hr (by omega : 1 ≤ n) (by omega) b1 b2 b3
    exact erK_cons b4 (erK_cons c2 (erK_out (law_end A0 hr c1)))
end
end DL
end

section
namespace DL
open PySem PySem.Spec PyProof.Rows L2 RM
section
variable {P : Program} {w : World} {K : PySem.W.Frag} {mg : Str → Option Value} {base h : Heap} {C CN CB CS f g p : Addr}
structure MeF (K : PySem.W.Frag) (C : Addr) (m qual : Str) (st : Stmt) (ps : List Str) : Prop where
  ex : ∃ g fd, Meth K C m g ∧ L2.Binds K fd ps [] ∧ Fun K m qual st g fd
structure PrF (K : PySem.W.Frag) (C : Addr) (m qual : Str) (st : Stmt) : Prop where
  ex : ∃ p g fd, PropOf K C m p g ∧ L2.Binds K fd ["self"] [] ∧ Fun K m qual st g fd
structure InF (K : PySem.W.Frag) (C : Addr) (qual : Str) (st : Stmt) (ps : List Str) : Prop where
  ex : ∃ g fd, Mk K C g ∧ L2.Binds K fd ps [] ∧ Fun K "__init__" qual st g fd
theorem me_mk {m qual : Str} {st : Stmt} {ps : List Str} {od an : Option Addr} {sl : Array (Option Value)} {oc kV dc pm cd ct : Value} (a : PySem.W.findIn K (.ref C) m = some (some (.ref f))) (t : PySem.W.isFn K (.ref f) = true) (k : PySem.W.keepIn K (.ref f) = true)
    (l : K.lookup f = some ⟨oc, od, .func (PySem.W.fnOf m qual (defArgs st) (defBody st) (defScope st) .none kV dc pm an cd ct), sl⟩) (c : PySem.W.codeIn K cd qual = true) (hb : ∀ (fd : FuncData), Fun K m qual st f fd → L2.Binds K fd ps []) : MeF K C m qual st ps :=
  ⟨f, _, ⟨a, t, k⟩, hb _ (fun_mk (st := st) l c k), fun_mk (st := st) l c k⟩
theorem pr_mk {m qual : Str} {st : Stmt} {rest : List Value} {od an : Option Addr} {sl : Array (Option Value)} {oc kV dc pm cd ct : Value} (a : PySem.W.findIn K (.ref C) m = some (some (.ref p))) (s : PySem.W.specialIn K (.ref p) "__get__" = some (some (.builtin "property.__get__"))) (t : PySem.W.takesIn K (.ref p) = some true)
    (r : PySem.W.recIn K p "property" = some (.ref g :: rest)) (k : PySem.W.keepIn K (.ref g) = true)
    (l : K.lookup g = some ⟨oc, od, .func (PySem.W.fnOf m qual (defArgs st) (defBody st) (defScope st) .none kV dc pm an cd ct), sl⟩) (c : PySem.W.codeIn K cd qual = true) (hb : ∀ (fd : FuncData), Fun K m qual st g fd → L2.Binds K fd ["self"] []) : PrF K C m qual st :=
  ⟨p, g, _, ⟨a, s, t, rest, r⟩, hb _ (fun_mk (st := st) l c k), fun_mk (st := st) l c k⟩
theorem in_mk {qual : Str} {st : Stmt} {ps : List Str} {od an : Option Addr} {sl : Array (Option Value)} {oc kV dc pm cd ct : Value} (m : PySem.W.makesIn K C = true) (a : PySem.W.findIn K (.ref C) "__init__" = some (some (.ref f))) (t : PySem.W.isFn K (.ref f) = true) (kC : PySem.W.keepIn K (.ref C) = true) (k : PySem.W.keepIn K (.ref f) = true)
    (l : K.lookup f = some ⟨oc, od, .func (PySem.W.fnOf "__init__" qual (defArgs st) (defBody st) (defScope st) .none kV dc pm an cd ct), sl⟩) (c : PySem.W.codeIn K cd qual = true) (hb : ∀ (fd : FuncData), Fun K "__init__" qual st f fd → L2.Binds K fd ps []) : InF K C qual st ps :=
  ⟨f, _, ⟨m, a, t, kC⟩, hb _ (fun_mk (st := st) l c k), fun_mk (st := st) l c k⟩
theorem exm_mk9 {c d : Addr} {b : Bool} (s : PySem.W.subIn K (.ref c) (.type "BaseException") = some true) (i : PySem.W.isClsIn K c = true) (t : PySem.W.typeIn K (.ref c) = some (.type "type")) (e : PySem.W.subIn K (.ref d) (.ref c) = some b) : PySem.W.exmOne K (.ref d) (.ref c) = some b := by
  have i' : (PySem.W.clsIn K c).isSome = true := i
  unfold PySem.W.exmOne PySem.W.kitCls
  simp only [s, t, i', e, beq_self_eq_true, Bool.and_self, if_true]
theorem er9_mk {x : Str} {D : Addr} (X : K.In h) (G : h.Ns mainGlobals mg) (a : PySem.W.nsIn K mainGlobals x = some (some (.ref D))) (q : PySem.W.excIn K D [.type "ValueError", .type "Exception", .type "BaseException", .type "object"] "ValueError.__new__" = true) (k : PySem.W.keepIn K (.ref D) = true)
    (s : PySem.W.subIn K (.ref D) (.type "BaseException") = some true) (t : PySem.W.typeIn K (.ref D) = some (.type "type")) (i : PySem.W.isClsIn K D = true) (e : PySem.W.subIn K (.ref D) (.ref D) = some true) : ErrF K mg x D :=
  ⟨PySem.W.mg_of X G a, q, k, s, t, exm_mk9 s i t e⟩
/-- what is known of the class and of the errors -/
structure DeskAll (K : PySem.W.Frag) (mg : Str → Option Value) (C CN CB CS : Addr) : Prop where
  D : DeskC K C
  m : mg "Desk" = some (.ref C)
  init : InF K C "Desk.__init__" s_dini ["self", "halls"]
  net : PrF K C "net" "Desk.net" s_dnet
  dne : PrF K C "done" "Desk.done" s_ddone
  over : MeF K C "turn_over" "Desk.turn_over" s_dover ["self", "one", "other"]
  undo : MeF K C "undo" "Desk.undo" s_dundo ["self"]
  res : MeF K C "is_restalike" "Desk.is_restalike" s_dres ["self"]
  chg : MeF K C "_change" "Desk._change" s_dchg ["self", "pair"]
  EN : ErrF K mg "BadNumber" CN
  EB : ErrF K mg "BadPair" CB
  ES : ErrF K mg "NoStep" CS
theorem dk_mk (X : K.In h) (G : h.Ns mainGlobals mg) (a : PySem.W.nsIn K mainGlobals "Desk" = some (some (.ref C))) (pg : PySem.W.plainGet K C Str.empty = true) (hd : PySem.W.hasDictIn K C = true) (po : PySem.W.plainOver K C = true) (sa : PySem.W.findIn K (.ref C) "__setattr__" = some (some (.builtin "object.__setattr__")))
    (n1 : PySem.W.findIn K (.ref C) "_halls" = some none) (n2 : PySem.W.findIn K (.ref C) "_joined" = some none) (n3 : PySem.W.findIn K (.ref C) "_done" = some none)
    (i0 : InF K C "Desk.__init__" s_dini ["self", "halls"]) (i1 : PrF K C "net" "Desk.net" s_dnet) (i2 : PrF K C "done" "Desk.done" s_ddone) (i3 : MeF K C "turn_over" "Desk.turn_over" s_dover ["self", "one", "other"]) (i4 : MeF K C "undo" "Desk.undo" s_dundo ["self"]) (i5 : MeF K C "is_restalike" "Desk.is_restalike" s_dres ["self"]) (i6 : MeF K C "_change" "Desk._change" s_dchg ["self", "pair"])
    (EN : ErrF K mg "BadNumber" CN) (EB : ErrF K mg "BadPair" CB) (ES : ErrF K mg "NoStep" CS) : DeskAll K mg C CN CB CS :=
  ⟨⟨⟨pg, hd, po, sa⟩, n1, n2, n3⟩, PySem.W.mg_of X G a, i0, i1, i2, i3, i4, i5, i6, EN, EB, ES⟩
/-- its methods' promises -/
theorem desk_ok (T : Tx mg) (DA : DeskAll K mg C CN CB CS) (I9 : ∃ t, mg "MOST_HALLS" = some (.int 9 t)) (c1 : Ca P w K mg base 2 "check_number" ["value", "most"] (spD K R_check_number)) (c2 : CaX P w K mg base 2 "check_number" ["value", "most"] CN R_bad_number) (c3 : Ca P w K mg base 2 "is_way" ["value", "halls"] (spD K R_is_way)) (c4 : Ca P w K mg base 13 "rest_turn" ["net"] (spD K R_rest_turn)) :
    MkK P w K mg base 3 "Desk" C CN R_dini ∧ MeK P w K mg base 3 C "turn_over" ["self", "one", "other"] CB R_dover ∧ MeK P w K mg base 2 C "undo" ["self"] CS R_dundo ∧ PmD P w K mg base 1 C "net" (R_dnet C) ∧ PmD P w K mg base 1 C "done" (R_ddone C) ∧ MeD P w K mg base 14 C "is_restalike" (R_dres C) := by
  obtain ⟨g0, fd0, a0, b0, f0⟩ := DA.init.ex
  obtain ⟨p1, g1, fd1, a1, b1, f1⟩ := DA.net.ex
  obtain ⟨p2, g2, fd2, a2, b2, f2⟩ := DA.dne.ex
  obtain ⟨g3, fd3, a3, b3, f3⟩ := DA.over.ex
  obtain ⟨g4, fd4, a4, b4, f4⟩ := DA.undo.ex
  obtain ⟨g5, fd5, a5, b5, f5⟩ := DA.res.ex
  obtain ⟨g6, fd6, a6, b6, f6⟩ := DA.chg.ex
  have M6 := ok_dchg (P := P) (w := w) (mg := mg) (base := base) DA.D a6 b6 f6
  have M1 := ok_dnet (P := P) (w := w) (base := base) T DA.D a1 b1 f1
  exact ⟨ok_dini DA.D I9 DA.m a0 b0 f0 c1 c2, ok_dover T DA.EB DA.D a3 b3 f3 c3 M6, ok_dundo DA.ES DA.D a4 b4 f4 M6, M1, ok_ddone T DA.D a2 b2 f2, ok_dres DA.D a5 b5 f5 M1 c4⟩
end
end DL
end

section
namespace DL
open PySem PySem.Spec PyProof.Rows L2 RM
section
variable {P : Program} {w : World} {K : PySem.W.Frag} {mg : Str → Option Value} {base h : Heap} {C : Addr}
theorem fn_mk {x : Str} {st : Stmt} {ps : List Str} {f : Addr} {od an : Option Addr} {sl : Array (Option Value)} {oc kV dc pm cd ct : Value} (X : K.In h) (G : h.Ns mainGlobals mg) (a : PySem.W.nsIn K mainGlobals x = some (some (.ref f)))
    (l : K.lookup f = some ⟨oc, od, .func (PySem.W.fnOf x x (defArgs st) (defBody st) (defScope st) .none kV dc pm an cd ct), sl⟩) (c : PySem.W.codeIn K cd x = true) (k : PySem.W.keepIn K (.ref f) = true)
    (hb : ∀ (fd : FuncData), Fun K x x st f fd → L2.Binds K fd ps []) : Fn K mg x st ps :=
  ⟨f, _, PySem.W.mg_of X G a, fun_mk (st := st) l c k, hb _ (fun_mk (st := st) l c k)⟩
theorem fnA_mk {y x : Str} {st : Stmt} {ps : List Str} {f : Addr} {od an : Option Addr} {sl : Array (Option Value)} {oc kV dc pm cd ct : Value} (X : K.In h) (G : h.Ns mainGlobals mg) (a : PySem.W.nsIn K mainGlobals y = some (some (.ref f)))
    (l : K.lookup f = some ⟨oc, od, .func (PySem.W.fnOf x x (defArgs st) (defBody st) (defScope st) .none kV dc pm an cd ct), sl⟩) (c : PySem.W.codeIn K cd x = true) (k : PySem.W.keepIn K (.ref f) = true)
    (hb : ∀ (fd : FuncData), Fun K x x st f fd → L2.Binds K fd ps []) : FnA K mg y x st ps :=
  ⟨f, _, PySem.W.mg_of X G a, fun_mk (st := st) l c k, hb _ (fun_mk (st := st) l c k)⟩
theorem law_mk {fa f : Addr} {od an : Option Addr} {sl : Array (Option Value)} {oc kV dc pm cd ct : Value} (X : K.In h) (G : h.Ns mainGlobals mg) (hfa : mg "law" = some (.ref fa)) (a : PySem.W.nsIn K mainGlobals "law" = some (some (.ref f)))
    (l : K.lookup f = some ⟨oc, od, .func (PySem.W.fnOf "law" "law" (defArgs s_law) (defBody s_law) (defScope s_law) .none kV dc pm an cd ct), sl⟩) (c : PySem.W.codeIn K cd "law" = true) (k : PySem.W.keepIn K (.ref f) = true) :
    ∃ fd : FuncData, (∀ (s : Shared) (v : Value), BindsTo s fd ⟨[v], []⟩ [("script", v)]) ∧ Fun K "law" "law" s_law fa fd := by
  have e := hfa.symm.trans (PySem.W.mg_of X G a)
  cases e
  exact ⟨PySem.W.fnOf "law" "law" (defArgs s_law) (defBody s_law) (defScope s_law) .none kV dc pm an cd ct, fun s v => .of_eq rfl, fun_mk (st := s_law) l c k⟩
theorem cas_mk {C CN CB CS : Addr} (T : Tx mg) (DA : DeskAll K mg C CN CB CS)
    (I_MOST_HALLS : ∃ t, mg "MOST_HALLS" = some (.int 9 t))
    (F_is_number : Fn K mg "is_number" s_is_number ["value", "least", "most"])
    (F_check_number : Fn K mg "check_number" s_check_number ["value", "most"])
    (F_is_way : Fn K mg "is_way" s_is_way ["value", "halls"])
    (F_ascends : Fn K mg "ascends" s_ascends ["members"])
    (F_are_ways : Fn K mg "are_ways" s_are_ways ["value", "halls"])
    (F_are_pairs : Fn K mg "are_pairs" s_are_pairs ["value", "halls"])
    (F_wrong_frame : Fn K mg "wrong_frame" s_wrong_frame ["value"])
    (F_wrong_part : Fn K mg "wrong_part" s_wrong_part ["value"])
    (F_check_net : Fn K mg "check_net" s_check_net ["value"])
    (F_can_go_on : Fn K mg "can_go_on" s_can_go_on ["table", "turn", "hall"])
    (F_finish_turn : Fn K mg "finish_turn" s_finish_turn ["table", "turn"])
    (F_find_turn : Fn K mg "find_turn" s_find_turn ["halls", "ways"])
    (F_both_ways : Fn K mg "both_ways" s_both_ways ["pairs"])
    (F_rest_turn : Fn K mg "rest_turn" s_rest_turn ["net"])
    (F__law_taken : Fn K mg "_law_taken" s_taken ["row", "many"])
    (F__law_pick : Fn K mg "_law_pick" s_pick ["row", "things"])
    (F__law_alike : Fn K mg "_law_alike" s_alike ["found", "due"])
    (F__law_turn : Fn K mg "_law_turn" s_lturn ["row", "halls"])
    (F__law_pairs : Fn K mg "_law_pairs" s_lpairs ["halls"])
    (F__law_led : Fn K mg "_law_led" s_lled ["turn", "pairs"])
    (F__law_left : Fn K mg "_law_left" s_lleft ["every", "some"])
    (F__law_ringed : Fn K mg "_law_ringed" s_ringed ["row", "lengths"])
    (F__law_rest_turn : Fn K mg "_law_rest_turn" s_lrt ["row"])
    (F__law_rest_net : Fn K mg "_law_rest_net" s_lrn ["row"])
    (F__law_turns : Fn K mg "_law_turns" s_lturns ["halls"]) : Cas P w K mg base C CN CB CS := by
  have c1 := ok_is_number (P := P) (w := w) (base := base) T F_is_number
  have cn := ok_check_number F_check_number c1
  have cx := ok_check_numberX DA.EN F_check_number c1
  have c3 := ok_is_way T F_is_way c1
  have ca := ok_ascends (P := P) (w := w) (base := base) T F_ascends
  have c4 := ok_are_ways T F_are_ways c3 ca
  have c5 := ok_are_pairs T F_are_pairs c4
  have c6 := ok_wrong_frame T I_MOST_HALLS F_wrong_frame c1
  have c7 := ok_wrong_part (.of F_wrong_part) c6 c5
  have c8 := ok_check_net F_check_net c7
  have f1 := ok_can_go (P := P) (w := w) (base := base) T F_can_go_on
  have f2 := ok_finish T F_finish_turn f1
  have f3 := ok_find T F_find_turn f2
  have bw := ok_both (P := P) (w := w) (base := base) T F_both_ways
  have r1 := ok_rest_turn T F_rest_turn c8 f3 bw
  have d1 := ok_taken (P := P) (w := w) (base := base) T F__law_taken
  have d2 := ok_pick T F__law_pick d1
  have d3 := ok_alike (P := P) (w := w) (base := base) T F__law_alike 4
  have d4 := ok_lturn T F__law_turn d1
  have d5 := ok_lpairs (P := P) (w := w) (base := base) T F__law_pairs
  have d6 := ok_lled (P := P) (w := w) (base := base) T F__law_led
  have d7 := ok_lleft (P := P) (w := w) (base := base) T F__law_left
  have d8 := ok_lturns (P := P) (w := w) (base := base) T F__law_turns
  have d10 := ok_ringed T F__law_ringed d4
  have d11 := ok_lrt F__law_rest_turn d2 d10
  have d12 := ok_lrn T F__law_rest_net d11 d5 d1
  obtain ⟨q1, q2, q3, q4, q5, q6⟩ := desk_ok T DA I_MOST_HALLS cn cx c3 r1
  exact ⟨T, d1, d2, d12, d5, d6, d7, d8, d3, DA.D, q1, q2, q3, q4, q5, q6, DA.EN, DA.EB, DA.ES⟩
theorem all_law {fa : Addr} (X : K.In h) (G : h.Ns mainGlobals mg) (T : Tx mg) (DA : ∃ C CN CB CS, DeskAll K mg C CN CB CS) (L : ∃ fd : FuncData, (∀ (s : Shared) (v : Value), BindsTo s fd ⟨[v], []⟩ [("script", v)]) ∧ Fun K "law" "law" s_law fa fd)
    (I_MOST_HALLS : ∃ t, mg "MOST_HALLS" = some (.int 9 t))
    (F_is_number : Fn K mg "is_number" s_is_number ["value", "least", "most"])
    (F_check_number : Fn K mg "check_number" s_check_number ["value", "most"])
    (F_is_way : Fn K mg "is_way" s_is_way ["value", "halls"])
    (F_ascends : Fn K mg "ascends" s_ascends ["members"])
    (F_are_ways : Fn K mg "are_ways" s_are_ways ["value", "halls"])
    (F_are_pairs : Fn K mg "are_pairs" s_are_pairs ["value", "halls"])
    (F_wrong_frame : Fn K mg "wrong_frame" s_wrong_frame ["value"])
    (F_wrong_part : Fn K mg "wrong_part" s_wrong_part ["value"])
    (F_check_net : Fn K mg "check_net" s_check_net ["value"])
    (F_can_go_on : Fn K mg "can_go_on" s_can_go_on ["table", "turn", "hall"])
    (F_finish_turn : Fn K mg "finish_turn" s_finish_turn ["table", "turn"])
    (F_find_turn : Fn K mg "find_turn" s_find_turn ["halls", "ways"])
    (F_both_ways : Fn K mg "both_ways" s_both_ways ["pairs"])
    (F_rest_turn : Fn K mg "rest_turn" s_rest_turn ["net"])
    (F__law_taken : Fn K mg "_law_taken" s_taken ["row", "many"])
    (F__law_pick : Fn K mg "_law_pick" s_pick ["row", "things"])
    (F__law_alike : Fn K mg "_law_alike" s_alike ["found", "due"])
    (F__law_turn : Fn K mg "_law_turn" s_lturn ["row", "halls"])
    (F__law_pairs : Fn K mg "_law_pairs" s_lpairs ["halls"])
    (F__law_led : Fn K mg "_law_led" s_lled ["turn", "pairs"])
    (F__law_left : Fn K mg "_law_left" s_lleft ["every", "some"])
    (F__law_ringed : Fn K mg "_law_ringed" s_ringed ["row", "lengths"])
    (F__law_rest_turn : Fn K mg "_law_rest_turn" s_lrt ["row"])
    (F__law_rest_net : Fn K mg "_law_rest_net" s_lrn ["row"])
    (F__law_turns : Fn K mg "_law_turns" s_lturns ["halls"]) :
    ∃ fd : FuncData, (∀ (s : Shared) (v : Value), BindsTo s fd ⟨[v], []⟩ [("script", v)]) ∧ ∀ base : Heap, K.In base → base.Ns mainGlobals mg → FnOk P w K mg base CX0 16 fa fd ["script"] (spD K R_law) := by
  obtain ⟨C, CN, CB, CS, DA⟩ := DA
  obtain ⟨fd, hb, hF⟩ := L
  exact ⟨fd, hb, fun base _ _ => ok_law (cas_mk T DA I_MOST_HALLS F_is_number F_check_number F_is_way F_ascends F_are_ways F_are_pairs F_wrong_frame F_wrong_part F_check_net F_can_go_on F_finish_turn F_find_turn F_both_ways F_rest_turn F__law_taken F__law_pick F__law_alike F__law_turn F__law_pairs F__law_led F__law_left F__law_ringed F__law_rest_turn F__law_rest_net F__law_turns) hF⟩
end
end DL
end

section
open PySem PySem.W PyProof.Rows
set_option maxRecDepth 100000 in
set_option maxHeartbeats 0 in
theorem PySem.Challenge.cw_restalike_k09_whole_desks_holds : PySem.Challenge.rw_restalike_k09_whole_desks.Holds := by
  w_on; o_law; k_head; (case hw => w_witness2)
  k_fill
  refine L2.walk_of (l := PySem.Challenge.rw_restalike_k09_whole_desks) (n := 63) (k := 16) (x := "script") (CX := fun _ => L2.CX0) (sp := fun w => DL.spD _ DL.R_law) rfl (by decide) rfl ⟨rfl, by decide, by decide⟩ (fun w h Y => PySem.W.kIn_of Y) ?F (fun w H a ns hl hO hS => ⟨H, [DL.scrD ns], .bool true, DL.Ext.refl H, .cons (.scr hS) .nil, ⟨ns, rfl, rfl⟩, fun v F' H' _ _ _ _ dv => by cases dv; rfl⟩) (fun _ _ _ _ _ h => h)
  case F =>
    intro w mg fa h KX G hmg
    refine' DL.all_law KX G ?T ?DA ?L ?I_MOST_HALLS ?F_is_number ?F_check_number ?F_is_way ?F_ascends ?F_are_ways ?F_are_pairs ?F_wrong_frame ?F_wrong_part ?F_check_net ?F_can_go_on ?F_finish_turn ?F_find_turn ?F_both_ways ?F_rest_turn ?F__law_taken ?F__law_pick ?F__law_alike ?F__law_turn ?F__law_pairs ?F__law_led ?F__law_left ?F__law_ringed ?F__law_rest_turn ?F__law_rest_net ?F__law_turns
    case T =>
      refine' ⟨PySem.W.mg_none_of KX G ?z0, PySem.W.mg_none_of KX G ?z1, PySem.W.mg_none_of KX G ?z2, PySem.W.mg_none_of KX G ?z3, PySem.W.mg_none_of KX G ?z4, PySem.W.mg_none_of KX G ?z5, PySem.W.mg_none_of KX G ?z6, PySem.W.mg_none_of KX G ?z7, PySem.W.mg_none_of KX G ?z8, PySem.W.mg_none_of KX G ?z9, PySem.W.mg_none_of KX G ?z10, PySem.W.mg_none_of KX G ?z11, PySem.W.mg_none_of KX G ?z12, PySem.W.mg_none_of KX G ?z13, PySem.W.mg_none_of KX G ?z14⟩
      (case z0 => k_is)
      (case z1 => k_is)
      (case z2 => k_is)
      (case z3 => k_is)
      (case z4 => k_is)
      (case z5 => k_is)
      (case z6 => k_is)
      (case z7 => k_is)
      (case z8 => k_is)
      (case z9 => k_is)
      (case z10 => k_is)
      (case z11 => k_is)
      (case z12 => k_is)
      (case z13 => k_is)
      (case z14 => k_is)
    case I_MOST_HALLS =>
      refine' ⟨_, (PySem.W.mg_of KX G ?mo_MOST_HALLS).trans ?eq_MOST_HALLS⟩
      (case mo_MOST_HALLS => k_is)
      (case eq_MOST_HALLS => rfl)
    case DA =>
      refine' ⟨_, _, _, _, DL.dk_mk KX G ?e_a ?e_pg ?e_hd ?e_po ?e_sa ?e_n1 ?e_n2 ?e_n3 ?i0 ?i1 ?i2 ?i3 ?i4 ?i5 ?i6 ?xN ?xB ?xS⟩
      (case e_a => k_is)
      (case e_pg => k_is)
      (case e_hd => k_is)
      (case e_po => k_is)
      (case e_sa => k_is)
      (case e_n1 => k_is)
      (case e_n2 => k_is)
      (case e_n3 => k_is)
      case i0 =>
        refine' DL.in_mk ?i0_m ?i0_a ?i0_t ?i0_kC ?i0_k ?i0_l ?i0_c (fun fd F => F.binds fun _ _ _ _ _ _ us hl => match us, hl with | [_, _], _ => rfl)
        (case i0_m => k_is)
        (case i0_a => k_is)
        (case i0_t => k_is)
        (case i0_kC => k_is)
        (case i0_k => k_is)
        (case i0_l => k_is)
        (case i0_c => k_is)
      case i1 =>
        refine' DL.pr_mk ?i1_a ?i1_s ?i1_t ?i1_r ?i1_k ?i1_l ?i1_c (fun fd F => F.binds fun _ _ _ _ _ _ us hl => match us, hl with | [_], _ => rfl)
        (case i1_a => k_is)
        (case i1_s => k_is)
        (case i1_t => k_is)
        (case i1_r => k_is)
        (case i1_k => k_is)
        (case i1_l => k_is)
        (case i1_c => k_is)
      case i2 =>
        refine' DL.pr_mk ?i2_a ?i2_s ?i2_t ?i2_r ?i2_k ?i2_l ?i2_c (fun fd F => F.binds fun _ _ _ _ _ _ us hl => match us, hl with | [_], _ => rfl)
        (case i2_a => k_is)
        (case i2_s => k_is)
        (case i2_t => k_is)
        (case i2_r => k_is)
        (case i2_k => k_is)
        (case i2_l => k_is)
        (case i2_c => k_is)
      case i3 =>
        refine' DL.me_mk ?i3_a ?i3_t ?i3_k ?i3_l ?i3_c (fun fd F => F.binds fun _ _ _ _ _ _ us hl => match us, hl with | [_, _, _], _ => rfl)
        (case i3_a => k_is)
        (case i3_t => k_is)
        (case i3_k => k_is)
        (case i3_l => k_is)
        (case i3_c => k_is)
      case i4 =>
        refine' DL.me_mk ?i4_a ?i4_t ?i4_k ?i4_l ?i4_c (fun fd F => F.binds fun _ _ _ _ _ _ us hl => match us, hl with | [_], _ => rfl)
        (case i4_a => k_is)
        (case i4_t => k_is)
        (case i4_k => k_is)
        (case i4_l => k_is)
        (case i4_c => k_is)
      case i5 =>
        refine' DL.me_mk ?i5_a ?i5_t ?i5_k ?i5_l ?i5_c (fun fd F => F.binds fun _ _ _ _ _ _ us hl => match us, hl with | [_], _ => rfl)
        (case i5_a => k_is)
        (case i5_t => k_is)
        (case i5_k => k_is)
        (case i5_l => k_is)
        (case i5_c => k_is)
      case i6 =>
        refine' DL.me_mk ?i6_a ?i6_t ?i6_k ?i6_l ?i6_c (fun fd F => F.binds fun _ _ _ _ _ _ us hl => match us, hl with | [_, _], _ => rfl)
        (case i6_a => k_is)
        (case i6_t => k_is)
        (case i6_k => k_is)
        (case i6_l => k_is)
        (case i6_c => k_is)
      case xN =>
        refine' DL.er9_mk KX G ?xN_a ?xN_q ?xN_k ?xN_s ?xN_t ?xN_i ?xN_e
        (case xN_a => k_is)
        (case xN_q => k_exc)
        (case xN_k => k_is)
        (case xN_s => k_is)
        (case xN_t => k_is)
        (case xN_i => k_is)
        (case xN_e => first | rfl | k_is)
      case xB =>
        refine' DL.er9_mk KX G ?xB_a ?xB_q ?xB_k ?xB_s ?xB_t ?xB_i ?xB_e
        (case xB_a => k_is)
        (case xB_q => k_exc)
        (case xB_k => k_is)
        (case xB_s => k_is)
        (case xB_t => k_is)
        (case xB_i => k_is)
        (case xB_e => first | rfl | k_is)
      case xS =>
        refine' DL.er9_mk KX G ?xS_a ?xS_q ?xS_k ?xS_s ?xS_t ?xS_i ?xS_e
        (case xS_a => k_is)
        (case xS_q => k_exc)
        (case xS_k => k_is)
        (case xS_s => k_is)
        (case xS_t => k_is)
        (case xS_i => k_is)
        (case xS_e => first | rfl | k_is)
    case L =>
      refine' DL.law_mk KX G hmg ?la ?ll ?lc ?lk
      (case la => k_is); (case ll => k_is); (case lc => k_is); (case lk => k_is)
    case F_is_number =>
      refine' DL.fn_mk KX G ?a_is_number ?l_is_number ?c_is_number ?k_is_number (fun fd F => F.binds fun _ _ _ _ _ _ us hl => match us, hl with | [_, _, _], _ => rfl)
      (case a_is_number => k_is); (case l_is_number => k_is); (case c_is_number => k_is); (case k_is_number => k_is)
    case F_check_number =>
      refine' DL.fn_mk KX G ?a_check_number ?l_check_number ?c_check_number ?k_check_number (fun fd F => F.binds fun _ _ _ _ _ _ us hl => match us, hl with | [_, _], _ => rfl)
      (case a_check_number => k_is); (case l_check_number => k_is); (case c_check_number => k_is); (case k_check_number => k_is)
    case F_is_way =>
      refine' DL.fn_mk KX G ?a_is_way ?l_is_way ?c_is_way ?k_is_way (fun fd F => F.binds fun _ _ _ _ _ _ us hl => match us, hl with | [_, _], _ => rfl)
      (case a_is_way => k_is); (case l_is_way => k_is); (case c_is_way => k_is); (case k_is_way => k_is)
    case F_ascends =>
      refine' DL.fn_mk KX G ?a_ascends ?l_ascends ?c_ascends ?k_ascends (fun fd F => F.binds fun _ _ _ _ _ _ us hl => match us, hl with | [_], _ => rfl)
      (case a_ascends => k_is); (case l_ascends => k_is); (case c_ascends => k_is); (case k_ascends => k_is)
    case F_are_ways =>
      refine' DL.fn_mk KX G ?a_are_ways ?l_are_ways ?c_are_ways ?k_are_ways (fun fd F => F.binds fun _ _ _ _ _ _ us hl => match us, hl with | [_, _], _ => rfl)
      (case a_are_ways => k_is); (case l_are_ways => k_is); (case c_are_ways => k_is); (case k_are_ways => k_is)
    case F_are_pairs =>
      refine' DL.fn_mk KX G ?a_are_pairs ?l_are_pairs ?c_are_pairs ?k_are_pairs (fun fd F => F.binds fun _ _ _ _ _ _ us hl => match us, hl with | [_, _], _ => rfl)
      (case a_are_pairs => k_is); (case l_are_pairs => k_is); (case c_are_pairs => k_is); (case k_are_pairs => k_is)
    case F_wrong_frame =>
      refine' DL.fn_mk KX G ?a_wrong_frame ?l_wrong_frame ?c_wrong_frame ?k_wrong_frame (fun fd F => F.binds fun _ _ _ _ _ _ us hl => match us, hl with | [_], _ => rfl)
      (case a_wrong_frame => k_is); (case l_wrong_frame => k_is); (case c_wrong_frame => k_is); (case k_wrong_frame => k_is)
    case F_wrong_part =>
      refine' DL.fn_mk KX G ?a_wrong_part ?l_wrong_part ?c_wrong_part ?k_wrong_part (fun fd F => F.binds fun _ _ _ _ _ _ us hl => match us, hl with | [_], _ => rfl)
      (case a_wrong_part => k_is); (case l_wrong_part => k_is); (case c_wrong_part => k_is); (case k_wrong_part => k_is)
    case F_check_net =>
      refine' DL.fn_mk KX G ?a_check_net ?l_check_net ?c_check_net ?k_check_net (fun fd F => F.binds fun _ _ _ _ _ _ us hl => match us, hl with | [_], _ => rfl)
      (case a_check_net => k_is); (case l_check_net => k_is); (case c_check_net => k_is); (case k_check_net => k_is)
    case F_can_go_on =>
      refine' DL.fn_mk KX G ?a_can_go_on ?l_can_go_on ?c_can_go_on ?k_can_go_on (fun fd F => F.binds fun _ _ _ _ _ _ us hl => match us, hl with | [_, _, _], _ => rfl)
      (case a_can_go_on => k_is); (case l_can_go_on => k_is); (case c_can_go_on => k_is); (case k_can_go_on => k_is)
    case F_finish_turn =>
      refine' DL.fn_mk KX G ?a_finish_turn ?l_finish_turn ?c_finish_turn ?k_finish_turn (fun fd F => F.binds fun _ _ _ _ _ _ us hl => match us, hl with | [_, _], _ => rfl)
      (case a_finish_turn => k_is); (case l_finish_turn => k_is); (case c_finish_turn => k_is); (case k_finish_turn => k_is)
    case F_find_turn =>
      refine' DL.fn_mk KX G ?a_find_turn ?l_find_turn ?c_find_turn ?k_find_turn (fun fd F => F.binds fun _ _ _ _ _ _ us hl => match us, hl with | [_, _], _ => rfl)
      (case a_find_turn => k_is); (case l_find_turn => k_is); (case c_find_turn => k_is); (case k_find_turn => k_is)
    case F_both_ways =>
      refine' DL.fn_mk KX G ?a_both_ways ?l_both_ways ?c_both_ways ?k_both_ways (fun fd F => F.binds fun _ _ _ _ _ _ us hl => match us, hl with | [_], _ => rfl)
      (case a_both_ways => k_is); (case l_both_ways => k_is); (case c_both_ways => k_is); (case k_both_ways => k_is)
    case F_rest_turn =>
      refine' DL.fn_mk KX G ?a_rest_turn ?l_rest_turn ?c_rest_turn ?k_rest_turn (fun fd F => F.binds fun _ _ _ _ _ _ us hl => match us, hl with | [_], _ => rfl)
      (case a_rest_turn => k_is); (case l_rest_turn => k_is); (case c_rest_turn => k_is); (case k_rest_turn => k_is)
    case F__law_taken =>
      refine' DL.fn_mk KX G ?a__law_taken ?l__law_taken ?c__law_taken ?k__law_taken (fun fd F => F.binds fun _ _ _ _ _ _ us hl => match us, hl with | [_, _], _ => rfl)
      (case a__law_taken => k_is); (case l__law_taken => k_is); (case c__law_taken => k_is); (case k__law_taken => k_is)
    case F__law_pick =>
      refine' DL.fn_mk KX G ?a__law_pick ?l__law_pick ?c__law_pick ?k__law_pick (fun fd F => F.binds fun _ _ _ _ _ _ us hl => match us, hl with | [_, _], _ => rfl)
      (case a__law_pick => k_is); (case l__law_pick => k_is); (case c__law_pick => k_is); (case k__law_pick => k_is)
    case F__law_alike =>
      refine' DL.fn_mk KX G ?a__law_alike ?l__law_alike ?c__law_alike ?k__law_alike (fun fd F => F.binds fun _ _ _ _ _ _ us hl => match us, hl with | [_, _], _ => rfl)
      (case a__law_alike => k_is); (case l__law_alike => k_is); (case c__law_alike => k_is); (case k__law_alike => k_is)
    case F__law_turn =>
      refine' DL.fn_mk KX G ?a__law_turn ?l__law_turn ?c__law_turn ?k__law_turn (fun fd F => F.binds fun _ _ _ _ _ _ us hl => match us, hl with | [_, _], _ => rfl)
      (case a__law_turn => k_is); (case l__law_turn => k_is); (case c__law_turn => k_is); (case k__law_turn => k_is)
    case F__law_pairs =>
      refine' DL.fn_mk KX G ?a__law_pairs ?l__law_pairs ?c__law_pairs ?k__law_pairs (fun fd F => F.binds fun _ _ _ _ _ _ us hl => match us, hl with | [_], _ => rfl)
      (case a__law_pairs => k_is); (case l__law_pairs => k_is); (case c__law_pairs => k_is); (case k__law_pairs => k_is)
    case F__law_led =>
      refine' DL.fn_mk KX G ?a__law_led ?l__law_led ?c__law_led ?k__law_led (fun fd F => F.binds fun _ _ _ _ _ _ us hl => match us, hl with | [_, _], _ => rfl)
      (case a__law_led => k_is); (case l__law_led => k_is); (case c__law_led => k_is); (case k__law_led => k_is)
    case F__law_left =>
      refine' DL.fn_mk KX G ?a__law_left ?l__law_left ?c__law_left ?k__law_left (fun fd F => F.binds fun _ _ _ _ _ _ us hl => match us, hl with | [_, _], _ => rfl)
      (case a__law_left => k_is); (case l__law_left => k_is); (case c__law_left => k_is); (case k__law_left => k_is)
    case F__law_ringed =>
      refine' DL.fn_mk KX G ?a__law_ringed ?l__law_ringed ?c__law_ringed ?k__law_ringed (fun fd F => F.binds fun _ _ _ _ _ _ us hl => match us, hl with | [_, _], _ => rfl)
      (case a__law_ringed => k_is); (case l__law_ringed => k_is); (case c__law_ringed => k_is); (case k__law_ringed => k_is)
    case F__law_rest_turn =>
      refine' DL.fn_mk KX G ?a__law_rest_turn ?l__law_rest_turn ?c__law_rest_turn ?k__law_rest_turn (fun fd F => F.binds fun _ _ _ _ _ _ us hl => match us, hl with | [_], _ => rfl)
      (case a__law_rest_turn => k_is); (case l__law_rest_turn => k_is); (case c__law_rest_turn => k_is); (case k__law_rest_turn => k_is)
    case F__law_rest_net =>
      refine' DL.fn_mk KX G ?a__law_rest_net ?l__law_rest_net ?c__law_rest_net ?k__law_rest_net (fun fd F => F.binds fun _ _ _ _ _ _ us hl => match us, hl with | [_], _ => rfl)
      (case a__law_rest_net => k_is); (case l__law_rest_net => k_is); (case c__law_rest_net => k_is); (case k__law_rest_net => k_is)
    case F__law_turns =>
      refine' DL.fn_mk KX G ?a__law_turns ?l__law_turns ?c__law_turns ?k__law_turns (fun fd F => F.binds fun _ _ _ _ _ _ us hl => match us, hl with | [_], _ => rfl)
      (case a__law_turns => k_is); (case l__law_turns => k_is); (case c__law_turns => k_is); (case k__law_turns => k_is)
end
