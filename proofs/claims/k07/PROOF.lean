import PyProof.Rows.All
import Wide.All
import OpenK.AllK
import Wide.FinOn
import PyProof.EqAt
import PyProof.EqKinds
import PyProof.TupleCall
import PyProof.DictCompW
import HandS.ForMost
import HandS.ForExc
import HandS.Flow
import HandS.Style
import HandS.Deep
import HandS.DictComp
import KE.KDictWalk
import HandS.TupAny
import HandS.TupLe
import HandS.IsInst
import HandS.Conv
import KE.SortData
import KE.DataMinMax
import KE.DataCmp
import KE.DataFind
import KE.GoesMore
import HandS.WordsExc
import HandS.TupMul
import HandS.Star
import KE.KDictZip
import HandS.Zip
import HandS.Gcd
import HandS.Wide
import HandS.WideBits
import HandS.SetFor
import HandS.Strs
import HandS.Iter
import PySem.Challenge.RW_restalike_k07_whole_spans
set_option Elab.async false
set_option linter.all false
set_option maxRecDepth 100000
set_option maxHeartbeats 4000000
section
/-! Dicts whose keys are tuples of ints, the tuples known to their objects. -/
namespace DL
open PySem PySem.Spec PyProof.Rows L2
abbrev DEs := List (List Int × Addr × Addr)
def hsh (ks : List Int) : Int := reduceHash (Builtin.Tuple.tupleHashOf (ks.map hashInt))
def rawE (es : DEs) : List DictEntry := es.map fun e => ⟨hsh e.1, .ref e.2.1, .ref e.2.2⟩
def trip (es : DEs) : List (List Int × Addr × Value) := es.map fun e => (e.1, e.2.1, Value.ref e.2.2)
def DctAt (a : Addr) (es : DEs) (h : Heap) : Prop := es.length ≤ sizeLine ∧ (a == sysModules) = false ∧ (es.map (·.1)).Nodup ∧ ∃ ar ep, h.DictRaw a ar ep ∧ ar.toList = rawE es
def dctO (a : Addr) (es : DEs) : HO := .ext (DctAt a es)
def KyAt (H : Hp) (b : Addr) (ks : List Int) : Prop := Rd H b (.tup (ks.map V.int))
def Kys (H : Hp) (es : DEs) : Prop := ∀ e ∈ es, KyAt H e.2.1 e.1
theorem raw_trip (P : Program) (w : World) (es : DEs) : (trip es).map (entryOfKey (tupleKind (PySem.intKind P w))) = rawE es := by
  unfold trip rawE
  rw [List.map_map]; rfl
theorem keys_trip (es : DEs) : (trip es).map (·.1) = es.map (·.1) := by
  unfold trip
  rw [List.map_map]; rfl
theorem ints_are {P : Program} {w : World} : ∀ {ks : List Int} {us : List Value}, Vals (ks.map V.int) us → PySem.ItemsAre (PySem.intKind P w) ks us
  | [], us, r => by cases r; exact .nil
  | k :: ks, us, r => by
    cases r with
    | cons h t =>
      obtain ⟨tk, e⟩ := (show ∃ t, _ = Value.int k t from h)
      subst e
      exact .cons (by show (k == k) = true; simp) (ints_are t)
section
variable {P : Program} {w : World} {H : Hp} {h h' : Heap} {a b : Addr} {ks : List Int} {es : DEs}
theorem ky_is (ok : HOk P w H h) (k : KyAt H b ks) : (tupleKind (PySem.intKind P w)).is h ks b := by
  obtain ⟨_, its, r, o, e1, e2, n, e3⟩ := (show ObjOk P w H h b (.tup (ks.map V.int)) from Rd.ok k ok)
  exact ⟨o, its.toArray, n, e1, e2, e3, by rw [List.toList_toArray]; exact ints_are r⟩
theorem dct_at (ok : HOk P w H h) (e : H a = some (dctO a es)) (hk : Kys H es) : DctAt a es h ∧ h.DictOfH (tupleKind (PySem.intKind P w)) a (trip es) := by
  obtain ⟨p, _, _⟩ := ok a _ e
  obtain ⟨p1, p2, p3, ar, ep, ⟨o, q1, q2, q3⟩, p5⟩ := p
  refine ⟨⟨p1, p2, p3, ar, ep, ⟨o, q1, q2, q3⟩, p5⟩, o, ar, ep, q1, q2, q3, by rw [raw_trip]; exact p5, fun x hx => ?_, by rw [keys_trip]; exact p3⟩
  obtain ⟨y, hy, rfl⟩ := List.mem_map.mp hx
  exact ky_is ok (hk y hy)
theorem dct_ok {P : Program} {w : World} {H' : Hp} (x : DctAt a es h') : ObjOk P w H' h' a (dctO a es) := by
  refine ⟨x, ?_, fun h1 h2 y k => ?_⟩
  · obtain ⟨_, _, _, ar, ep, ⟨o, q1, _⟩, _⟩ := x
    exact ⟨o, q1⟩
  · obtain ⟨p1, p2, p3, ar, ep, ⟨o, q1, q2, q3⟩, p5⟩ := y
    exact ⟨p1, p2, p3, ar, ep, ⟨o, k o q1, q2, q3⟩, p5⟩
theorem at_trip {es : DEs} {k : List Int} {c : Addr} {b : Addr} (hn : (es.map (·.1)).Nodup) (hm : (k, b, c) ∈ es) : atKey (trip es) k = some (b, Value.ref c) := by
  induction es with
  | nil => cases hm
  | cons e es ih =>
    rw [List.map_cons, List.nodup_cons] at hn
    show ((((e.1, e.2.1, Value.ref e.2.2) :: trip es).find? fun x => decide (x.1 = k)).map (·.2)) = _
    rcases List.mem_cons.mp hm with z | z
    · subst z
      rw [List.find?_cons_of_pos (by simp)]; rfl
    · have hne : ¬ e.1 = k := fun q => hn.1 (by rw [q]; exact List.mem_map.mpr ⟨_, z, rfl⟩)
      rw [List.find?_cons_of_neg (by simp [hne])]
      exact ih hn.2 z
theorem at_none {es : DEs} {k : List Int} (hn : k ∉ es.map (·.1)) : atKey (trip es) k = none := by
  unfold atKey
  rw [Option.map_eq_none_iff, List.find?_eq_none]
  intro x hx
  obtain ⟨y, hy, rfl⟩ := List.mem_map.mp hx
  have : ¬ y.1 = k := fun q => hn (List.mem_map.mpr ⟨y, hy, q⟩)
  simp [this]
theorem dct_new (h : Heap) (hb : sysModules < h.objs.size) : DctAt h.objs.size [] (h.push { cls := .type "dict", data := .dict #[] }) :=
  ⟨Nat.zero_le _, beq_eq_false_iff_ne.mpr (Nat.ne_of_gt hb), List.nodup_nil, #[], 0, ⟨_, Heap.get?_push_size _ rfl, ⟨rfl, rfl, rfl⟩, rfl⟩, rfl⟩
end
section
variable {X : Cx} {pins : List (Addr × Obj)} {σ : L2.St} {H : Hp} {s : Shared} {A : Around} {E : Value → Shared → Prop}
/-- d[k], k among the keys -/
theorem dct_get {a b b' c : Addr} {es : DEs} {ks : List Int} {Q : Value → Shared → Prop} (hu : A.units + 1 < cLine) (I : Inv X pins σ H s) (hD : H a = some (dctO a es)) (hk : Kys H es) (k : KyAt H b ks) (hm : (ks, b', c) ∈ es)
    (q : ∀ s', Inv X pins σ H s' → Q (.ref c) s') : wpAny (model X.prog X.w) A (getItem (.ref a) (.ref b)) Q E s := by
  obtain ⟨d, dd⟩ := dct_at I.hok hD hk
  exact wpAny_getItem_heap (tupleKind_room_in1 hu) (ky_is I.hok k) dd (at_trip d.2.2.1 hm) (q _ (I.tok _))
/-- {.., k: v}, by a comprehension -/
theorem dct_set {D b c : Addr} {es : DEs} {ks : List Int} {Q : Unit → Shared → Prop} (hu : X.A.units < cLine) (I : Inv X pins σ H s) (hD : H D = some (dctO D es)) (hk : Kys H es) (k : KyAt H b ks) (hn : ks ∉ es.map (·.1)) (hz : es.length < sizeLine)
    (q : ∀ s', Inv X pins σ (upd H D (dctO D (es ++ [(ks, b, c)]))) s' → Q () s') : wpAny (model X.prog X.w) X.A (dictSet D (.ref b) (.ref c)) Q E s := by
  obtain ⟨d, dd⟩ := dct_at I.hok hD hk
  have hl : (trip es).length ≤ sizeLine := by unfold trip; rw [List.length_map]; omega
  refine wpAny_dictSet_heap (hsz := hl) (knd := tupleKind (PySem.intKind X.prog X.w)) hu (ky_is I.hok k) dd fun h' dd' hs => q _ ?_
  rw [storedH_new (at_none hn)] at dd'
  obtain ⟨o, ar, ep, q1, q2, q3, q4, _, q5⟩ := dd'
  have e : trip es ++ [(ks, b, Value.ref c)] = trip (es ++ [(ks, b, c)]) := by unfold trip; rw [List.map_append]; rfl
  rw [e] at q4 q5
  rw [raw_trip] at q4
  rw [keys_trip] at q5
  exact I.write (x := D) (e := D) (by rw [hD]; exact True.intro) (.inl rfl) (fun y u hy z => (hs.2 y hy).trans z) ⟨o, q1⟩ (dct_ok ⟨by rw [List.length_append]; exact hz, d.2.1, q5, ar, ep, ⟨o, q1, q2, q3⟩, q4⟩)
theorem dct_type {a : Addr} {es : DEs} (I : Inv X pins σ H s) (hD : H a = some (dctO a es)) : s.TypeIs (.ref a) "dict" := by
  obtain ⟨⟨_, _, _, ar, ep, dr, _⟩, _⟩ := I.hok a _ hD
  exact dr.typeIs
end
section
variable {X : Cx} {o i : Expr} {pos : Pos} {td ty : TE}
def tMapGet (td ty : TE) : TE := fun σ H Q => td σ H fun x H1 => ty σ H1 fun y H2 => ∃ a b c b' es ks, x = .ref a ∧ y = .ref b ∧ H2 a = some (dctO a es) ∧ Kys H2 es ∧ KyAt H2 b ks ∧ (ks, b', c) ∈ es ∧ Q (.ref c) H2
theorem pe_mapGet (hu : X.A.units + 1 < cLine) (ho : PE X o td) (hi : PE X i ty) (hs : NoSl i) : PE X (.Subscript o i pos) (tMapGet td ty) := by
  refine ⟨fun pins s σ H Q I h => subD_of PySem.F.slot_dict_getitem.lookup hs (thn (ho.run pins s σ H _ I h) fun u s1 ⟨x, H1, I1, rx, q1⟩ => thn (hi.run pins s1 σ H1 _ I1 q1) fun iv s2 ⟨y, H2, I2, ry, a, b, c, b', es, ks, ex, ey, hD, hk, k, hm, q2⟩ => ?_)⟩
  subst ex ey
  obtain rfl : u = Value.ref a := rx
  obtain rfl : iv = Value.ref b := ry
  exact ⟨dct_type I2 hD, dct_get hu I2 hD hk k hm fun s3 I3 => ⟨.ref c, H2, I3, rfl, q2⟩⟩
end
end DL
end

section
/-! A layer of data over the hand layer: what an expression is worth as data, with lists of the frame's own. -/
namespace DL
open PySem PySem.Spec PyProof.Rows L2

/-! ### heaps, data -/
def Ext (H H' : Hp) : Prop := ∀ a o, H a = some o → H' a = some o
theorem Ext.refl (H : Hp) : Ext H H := fun _ _ h => h
theorem Ext.trans {H H1 H2 : Hp} (a : Ext H H1) (b : Ext H1 H2) : Ext H H2 := fun x o h => b x o (a x o h)
theorem Ext.new {H : Hp} {p : Addr} {o : HO} (h : H p = none) : Ext H (upd H p o) := fun a u e => by
  rw [upd_ne (ne_of_none e h)]
  exact e
theorem Ext.free {F H : Hp} (e : Ext F H) {a : Addr} (h : H a = none) : F a = none := by
  cases q : F a with
  | none => rfl
  | some o => rw [e a o q] at h; cases h
theorem Ext.upd2 {F H : Hp} (e : Ext F H) (p : Addr) (o : HO) : Ext (upd F p o) (upd H p o) := fun a u h => by
  by_cases ha : a = p
  · subst ha; rw [upd_same] at h ⊢; exact h
  · rw [upd_ne ha] at h ⊢; exact e a u h
/-- below the heap, an address that the lower one does not know may change -/
theorem Ext.mut {F H : Hp} (e : Ext F H) {p : Addr} {o : HO} (h : F p = none) : Ext F (upd H p o) := fun a u ha => by
  rw [upd_ne (ne_of_none ha h)]
  exact e a u ha

abbrev scrD (ns : List Int) : PyData := .dict (ns.map fun n => (PyData.int n, PyData.none))
/-- two ints stand at b -/
def TwoAt (F : Hp) (b : Addr) (p : Int × Int) : Prop := ∃ ob : Obj, F b = some (.frz ob (.tup [V.int p.1, V.int p.2])) ∧ ob.dict = none
def MapE (F : Hp) (e : List Int × Addr × Addr) (p : (Int × Int) × (Int × Int)) : Prop := e.1 = [p.1.1, p.1.2] ∧ TwoAt F e.2.1 p.1 ∧ TwoAt F e.2.2 p.2
theorem TwoAt.up {F F' : Hp} (x : Ext F F') {b : Addr} {p : Int × Int} (h : TwoAt F b p) : TwoAt F' b p := let ⟨ob, h1, h2⟩ := h; ⟨ob, x _ _ h1, h2⟩
theorem MapE.up {F F' : Hp} (x : Ext F F') {e : List Int × Addr × Addr} {p : (Int × Int) × (Int × Int)} (h : MapE F e p) : MapE F' e p := ⟨h.1, h.2.1.up x, h.2.2.up x⟩
/-- the values of a dict whose keys are ints or texts: an int, or two ints -/
inductive LeafE (F : Hp) : V → PyData → Prop
  | int (i : Int) : LeafE F (.int i) (.int i)
  | two {b : Addr} {p : Int × Int} : TwoAt F b p → LeafE F (.ref b) (.tuple [.int p.1, .int p.2])
theorem LeafE.up {F F' : Hp} (x : Ext F F') {v : V} {d : PyData} : LeafE F v d → LeafE F' v d
  | .int i => .int i
  | .two h => .two (h.up x)
def KvE (F : Hp) (e : Key × V) (p : Key × PyData) : Prop := e.1 = p.1 ∧ LeafE F e.2 p.2
theorem KvE.up {F F' : Hp} (x : Ext F F') {e : Key × V} {p : Key × PyData} (h : KvE F e p) : KvE F' e p := ⟨h.1, h.2.up x⟩
def keyD : Key → PyData
  | .inl i => .int i
  | .inr x => .str x
mutual
inductive Dd (K : PySem.W.Frag) (F : Hp) : V → PyData → Prop
  | non : Dd K F .non .none
  | bl (b : Bool) : Dd K F (.bl b) (.bool b)
  | int (i : Int) : Dd K F (.int i) (.int i)
  | str (x : Str) : Dd K F (.str x) (.str x)
  | lst {a : Addr} {xs : List V} {ds : List PyData} : F a = some (.lst xs) → DdA K F xs ds → Dd K F (.ref a) (.list ds)
  | tup {a : Addr} {ob : Obj} {xs : List V} {ds : List PyData} : F a = some (.frz ob (.tup xs)) → ob.dict = none → DdA K F xs ds → Dd K F (.ref a) (.tuple ds)
  | scr {a : Addr} {ns : List Int} : SqL K F a (ns.map V.int) → Dd K F (.ref a) (.dict (ns.map fun n => (PyData.int n, PyData.none)))
  | dct {a : Addr} : F a = some (.dK []) → Dd K F (.ref a) (.dict [(PyData.none, PyData.none)])
  | map {a : Addr} {es : DEs} {kv : List ((Int × Int) × (Int × Int))} : F a = some (dctO a es) → Paired (MapE F) es kv → Dd K F (.ref a) (.dict ((PyData.none, PyData.bool true) :: kv.map fun p => (PyData.tuple [.int p.1.1, .int p.1.2], PyData.tuple [.int p.2.1, .int p.2.2])))
  | dkd {a : Addr} {es : List (Key × V)} {kv : List (Key × PyData)} : F a = some (.dK es) → Paired (KvE F) es kv → Dd K F (.ref a) (.dict ((PyData.none, PyData.bool false) :: kv.map fun p => (keyD p.1, p.2)))
inductive DdA (K : PySem.W.Frag) (F : Hp) : List V → List PyData → Prop
  | nil : DdA K F [] []
  | cons {v : V} {vs : List V} {d : PyData} {ds : List PyData} : Dd K F v d → DdA K F vs ds → DdA K F (v :: vs) (d :: ds)
end
theorem ext_l {K : PySem.W.Frag} {H H' : Hp} {a : Addr} {xs : List V} (e : Ext H H') (h : SqL K H a xs) : SqL K H' a xs := by
  rcases h with (h | ⟨o, h⟩) | h
  · exact .inl (.inl (e _ _ h))
  · exact .inl (.inr ⟨o, e _ _ h⟩)
  · exact .inr h
section
variable {K : PySem.W.Frag} {F F' H H' : Hp}
mutual
theorem Dd.mono (e : Ext F F') : ∀ (d : PyData) (v : V), Dd K F v d → Dd K F' v d
  | .none, _, h => by cases h; exact .non
  | .bool b, _, h => by cases h; exact .bl b
  | .int i, _, h => by cases h; exact .int i
  | .str x, _, h => by cases h; exact .str x
  | .list ds, _, h => by
    cases h with
    | lst h1 h2 => exact .lst (e _ _ h1) (DdA.mono e ds _ h2)
  | .tuple ds, _, h => by
    cases h with
    | tup h1 h0 h2 => exact .tup (e _ _ h1) h0 (DdA.mono e ds _ h2)
  | .dict _, _, h => by
    cases h with
    | scr h1 => exact .scr (ext_l e h1)
    | dct h1 => exact .dct (e _ _ h1)
    | map h1 h2 => exact .map (e _ _ h1) (Paired.mapP h2 fun _ _ z => z.up e)
    | dkd h1 h2 => exact .dkd (e _ _ h1) (Paired.mapP h2 fun _ _ z => z.up e)
theorem DdA.mono (e : Ext F F') : ∀ (ds : List PyData) (vs : List V), DdA K F vs ds → DdA K F' vs ds
  | [], _, h => by cases h; exact .nil
  | d :: ds, _, h => by
    cases h with
    | cons h1 h2 => exact .cons (Dd.mono e d _ h1) (DdA.mono e ds _ h2)
end
theorem Dd.up (e : Ext F F') {d : PyData} {v : V} (h : Dd K F v d) : Dd K F' v d := Dd.mono e d v h
theorem DdA.up (e : Ext F F') {ds : List PyData} {vs : List V} (h : DdA K F vs ds) : DdA K F' vs ds := DdA.mono e ds vs h
mutual
theorem Dd.dp (e : Ext F H) : ∀ (d : PyData) (v : V), d.canLay0 = true → Dd K F v d → Dp K H v d
  | .none, _, _, h => by cases h; exact .non
  | .bool b, _, _, h => by cases h; exact .bl b
  | .int i, _, _, h => by cases h; exact .int i
  | .str x, _, _, h => by cases h; exact .str x
  | .list ds, _, q, h => by
    cases h with
    | lst h1 h2 => exact .lst (SqL.of (e _ _ h1)) (DdA.dp e ds _ (by simpa [PyData.canLay0] using q) h2)
  | .tuple ds, _, q, h => by
    cases h with
    | tup h1 h0 h2 => exact .tup (.inl (.inr ⟨_, e _ _ h1⟩)) (DdA.dp e ds _ (by simpa [PyData.canLay0] using q) h2)
  | .dict _, _, q, _ => by simp [PyData.canLay0] at q
theorem DdA.dp (e : Ext F H) : ∀ (ds : List PyData) (vs : List V), PyData.canLayAll0 ds = true → DdA K F vs ds → DpAll K H vs ds
  | [], _, _, h => by cases h; exact .nil
  | d :: ds, _, q, h => by
    cases h with
    | cons h1 h2 =>
      have q2 : d.canLay0 = true ∧ PyData.canLayAll0 ds = true := by simpa [PyData.canLayAll0] using q
      exact .cons (Dd.dp e d _ q2.1 h1) (DdA.dp e ds _ q2.2 h2)
end
theorem DdA.len : ∀ {ds : List PyData} {vs : List V}, DdA K F vs ds → vs.length = ds.length
  | [], _, h => by cases h; rfl
  | d :: ds, _, h => by
    cases h with
    | cons h1 h2 => rw [List.length_cons, List.length_cons, DdA.len h2]
theorem DdA.get : ∀ {ds : List PyData} {vs : List V} {i : Nat} {d : PyData}, DdA K F vs ds → ds[i]? = some d → ∃ v, vs[i]? = some v ∧ Dd K F v d
  | [], _, i, d, h, q => by simp at q
  | e :: ds, _, 0, d, h, q => by
    cases h with
    | cons h1 h2 =>
      have q' : e = d := Option.some.inj q
      subst q'
      exact ⟨_, rfl, h1⟩
  | e :: ds, _, i + 1, d, h, q => by
    cases h with
    | cons h1 h2 => exact DdA.get (i := i) h2 q
theorem DdA.getv : ∀ {ds : List PyData} {vs : List V} {i : Nat} {v : V}, DdA K F vs ds → vs[i]? = some v → ∃ d, ds[i]? = some d ∧ Dd K F v d
  | [], _, i, d, h, q => by cases h; simp at q
  | e :: ds, _, 0, d, h, q => by
    cases h with
    | cons h1 h2 =>
      have q' := Option.some.inj q
      subst q'
      exact ⟨_, rfl, h1⟩
  | e :: ds, _, i + 1, d, h, q => by
    cases h with
    | cons h1 h2 => exact DdA.getv (i := i) h2 q
theorem DdA.app : ∀ {ds es : List PyData} {vs ws : List V}, DdA K F vs ds → DdA K F ws es → DdA K F (vs ++ ws) (ds ++ es)
  | [], _, _, _, h, h' => by cases h; exact h'
  | d :: ds, _, _, _, h, h' => by
    cases h with
    | cons h1 h2 => exact .cons h1 (DdA.app h2 h')
theorem DdA.set : ∀ {ds : List PyData} {vs : List V} {i : Nat} {d : PyData} {v : V}, DdA K F vs ds → Dd K F v d → DdA K F (vs.set i v) (ds.set i d)
  | [], _, i, d, v, h, _ => by cases h; exact .nil
  | e :: ds, _, 0, d, v, h, q => by
    cases h with
    | cons h1 h2 => exact .cons q h2
  | e :: ds, _, i + 1, d, v, h, q => by
    cases h with
    | cons h1 h2 => exact .cons h1 (DdA.set (i := i) h2 q)
theorem DdA.erase : ∀ {ds : List PyData} {vs : List V} {i : Nat}, DdA K F vs ds → DdA K F (vs.eraseIdx i) (ds.eraseIdx i)
  | [], _, i, h => by cases h; exact .nil
  | e :: ds, _, 0, h => by
    cases h with
    | cons h1 h2 => exact h2
  | e :: ds, _, i + 1, h => by
    cases h with
    | cons h1 h2 => exact .cons h1 (DdA.erase (i := i) h2)
theorem DdA.drop : ∀ {ds : List PyData} {vs : List V} (n : Nat), DdA K F vs ds → DdA K F (vs.drop n) (ds.drop n)
  | _, _, 0, h => h
  | [], _, n + 1, h => by cases h; exact .nil
  | e :: ds, _, n + 1, h => by
    cases h with
    | cons h1 h2 => exact DdA.drop n h2
theorem DdA.take : ∀ {ds : List PyData} {vs : List V} (n : Nat), DdA K F vs ds → DdA K F (vs.take n) (ds.take n)
  | _, _, 0, h => .nil
  | [], _, n + 1, h => by cases h; exact .nil
  | e :: ds, _, n + 1, h => by
    cases h with
    | cons h1 h2 => exact .cons h1 (DdA.take n h2)
theorem DdA.ints : ∀ {ns : List Int} {vs : List V}, DdA K F vs (ns.map .int) → vs = ns.map V.int
  | [], _, h => by cases h; rfl
  | n :: ns, _, h => by
    cases h with
    | cons h1 h2 =>
      cases h1
      rw [DdA.ints (ns := ns) h2]
      rfl
theorem DdA.of_ints : ∀ (ns : List Int), DdA K F (ns.map V.int) (ns.map .int)
  | [] => .nil
  | n :: ns => .cons (.int n) (DdA.of_ints ns)
theorem DdA.rep {v : V} {d : PyData} (h : Dd K F v d) : ∀ n : Nat, DdA K F (List.replicate n v) (List.replicate n d)
  | 0 => .nil
  | n + 1 => .cons h (DdA.rep h n)
end

/-! ### the frame's slots as data -/
inductive Slot where
  | im (d : PyData)
  | ow (ds : List PyData)
  | pr (a : Addr) (ds : List PyData)
  | ad (v : V)
abbrev Gm := List (Option Slot)
def isOw : Slot → Bool
  | .im _ => false
  | .ad _ => false
  | _ => true
def SlotOk (K : PySem.W.Frag) (F H : Hp) (v : V) : Slot → Prop
  | .im d => Dd K F v d
  | .ad w => v = w
  | .ow ds => ∃ l xs, v = .ref l ∧ F l = none ∧ H l = some (.lst xs) ∧ DdA K F xs ds
  | .pr a ds => ∃ xs, v = .ref a ∧ F a = none ∧ H a = some (.lst xs) ∧ DdA K F xs ds
structure EnvOk (K : PySem.W.Frag) (F H : Hp) (σ : L2.St) (Γ : Gm) : Prop where
  len : σ.length = Γ.length
  ats : ∀ (i : Nat) (s : Slot), Γ[i]? = some (some s) → ∃ v, σ[i]? = some (some v) ∧ SlotOk K F H v s
  sep : ∀ (i j : Nat) (s t : Slot) (l : Addr), Γ[i]? = some (some s) → Γ[j]? = some (some t) → isOw s = true → isOw t = true → σ[i]? = some (some (.ref l)) → σ[j]? = some (some (.ref l)) → i = j
def Own (σ : L2.St) (Γ : Gm) (a : Addr) : Prop := ∃ (i : Nat) (s : Slot), Γ[i]? = some (some s) ∧ isOw s = true ∧ σ[i]? = some (some (.ref a))
structure Gr (F H : Hp) (A : Addr → Prop) (F' H' : Hp) (A' : Addr → Prop) : Prop where
  ff : Ext F F'
  fh : Ext F' H'
  hh : ∀ a o, H a = some o → H' a = some o ∨ A a
  nw : ∀ a, F' a ≠ none → F a ≠ none ∨ H a = none ∨ A a
  aa : ∀ a, A' a → A a ∨ H a = none
theorem Gr.refl {F H : Hp} {A : Addr → Prop} (e : Ext F H) : Gr F H A F H A := ⟨Ext.refl F, e, fun _ _ h => .inl h, fun _ h => .inl h, fun _ h => .inl h⟩
theorem Gr.trans {F H F1 H1 F2 H2 : Hp} {A A1 A2 : Addr → Prop} (g : Gr F H A F1 H1 A1) (k : Gr F1 H1 A1 F2 H2 A2) : Gr F H A F2 H2 A2 := by
  have free : ∀ a, H1 a = none → H a = none ∨ A a := fun a h1 => by
    cases q : H a with
    | none => exact .inl rfl
    | some o =>
      rcases g.hh a o q with z | z
      · rw [h1] at z; cases z
      · exact .inr z
  refine ⟨g.ff.trans k.ff, k.fh, fun a o h => ?_, fun a h => ?_, fun a h => ?_⟩
  · rcases g.hh a o h with z | z
    · rcases k.hh a o z with y | y
      · exact .inl y
      · rcases g.aa a y with x | x
        · exact .inr x
        · rw [h] at x; cases x
    · exact .inr z
  · rcases k.nw a h with z | z | z
    · exact g.nw a z
    · rcases free a z with y | y
      · exact .inr (.inl y)
      · exact .inr (.inr y)
    · rcases g.aa a z with y | y
      · exact .inr (.inr y)
      · exact .inr (.inl y)
  · rcases k.aa a h with z | z
    · exact g.aa a z
    · rcases free a z with y | y
      · exact .inr y
      · exact .inl y
/-- a growth that changes no list -/
theorem Gr.ext {F H F' H' : Hp} {A : Addr → Prop} (ff : Ext F F') (fh : Ext F' H') (hh : Ext H H') (nw : ∀ a, F' a ≠ none → F a ≠ none ∨ H a = none) : Gr F H A F' H' A :=
  ⟨ff, fh, fun a o h => .inl (hh a o h), fun a h => (nw a h).elim .inl fun z => .inr (.inl z), fun _ h => .inl h⟩
/-- a new object, data from now on -/
theorem Gr.new {F H : Hp} {A : Addr → Prop} (e : Ext F H) {p : Addr} {o : HO} (h : H p = none) : Gr F H A (upd F p o) (upd H p o) A :=
  Gr.ext (Ext.new (e.free h)) (e.upd2 p o) (Ext.new h) fun a q => by
    by_cases ha : a = p
    · subst ha; exact .inr h
    · rw [upd_ne ha] at q; exact .inl q
/-- a new object that is not data (yet) -/
theorem Gr.newH {F H : Hp} {A : Addr → Prop} (e : Ext F H) {p : Addr} {o : HO} (h : H p = none) : Gr F H A F (upd H p o) A :=
  Gr.ext (Ext.refl F) (e.mut (e.free h)) (Ext.new h) fun a q => .inl q
theorem Gr.free {F H F' H' : Hp} {A A' : Addr → Prop} (g : Gr F H A F' H' A') {a : Addr} (h : H' a = none) : H a = none ∨ A a := by
  cases q : H a with
  | none => exact .inl rfl
  | some o =>
    rcases g.hh a o q with z | z
    · rw [h] at z; cases z
    · exact .inr z
section
variable {K : PySem.W.Frag} {F H F' H' : Hp} {σ : L2.St} {Γ : Gm}
theorem EnvOk.own_at (e : EnvOk K F H σ Γ) {a : Addr} (h : Own σ Γ a) : F a = none ∧ ∃ xs, H a = some (.lst xs) := by
  obtain ⟨i, s, h1, h2, h3⟩ := h
  obtain ⟨v, q1, q2⟩ := e.ats i s h1
  rw [h3] at q1
  cases q1
  cases s with
  | im d => cases h2
  | ad u => cases h2
  | ow ds =>
    obtain ⟨l, xs, e1, e2, e3, _⟩ := q2
    cases e1
    exact ⟨e2, xs, e3⟩
  | pr a' ds =>
    obtain ⟨xs, e1, e2, e3, _⟩ := q2
    cases e1
    exact ⟨e2, xs, e3⟩
/-- behind a growth that changes no list the slots stand as they did -/
theorem EnvOk.keep (e : EnvOk K F H σ Γ) (ff : Ext F F') (hh : Ext H H') (nw : ∀ a, F' a ≠ none → F a ≠ none ∨ H a = none) : EnvOk K F' H' σ Γ := by
  refine ⟨e.len, fun i s h => ?_, e.sep⟩
  obtain ⟨v, q1, q2⟩ := e.ats i s h
  refine ⟨v, q1, ?_⟩
  have fr : ∀ l xs, F l = none → H l = some (.lst xs) → F' l = none := fun l xs h1 h2 => by
    cases q : F' l with
    | none => rfl
    | some o =>
      rcases nw l (by rw [q]; exact Option.some_ne_none o) with z | z
      · exact absurd h1 z
      · rw [h2] at z; cases z
  cases s with
  | im d => exact q2.up ff
  | ad u => exact q2
  | ow ds =>
    obtain ⟨l, xs, e1, e2, e3, e4⟩ := q2
    exact ⟨l, xs, e1, fr l xs e2 e3, hh _ _ e3, e4.up ff⟩
  | pr a ds =>
    obtain ⟨xs, e1, e2, e3, e4⟩ := q2
    exact ⟨xs, e1, fr a xs e2 e3, hh _ _ e3, e4.up ff⟩
theorem EnvOk.new (e : EnvOk K F H σ Γ) (x : Ext F H) {p : Addr} {o : HO} (h : H p = none) : EnvOk K (upd F p o) (upd H p o) σ Γ :=
  e.keep (Ext.new (x.free h)) (Ext.new h) fun a q => by
    by_cases ha : a = p
    · subst ha; exact .inr h
    · rw [upd_ne ha] at q; exact .inl q
theorem EnvOk.newH (e : EnvOk K F H σ Γ) {p : Addr} {o : HO} (h : H p = none) : EnvOk K F (upd H p o) σ Γ :=
  e.keep (Ext.refl F) (Ext.new h) fun a q => .inl q
/-- fewer slots are known -/
theorem EnvOk.less {Γ' : Gm} (e : EnvOk K F H σ Γ) (hl : Γ'.length = Γ.length) (h : ∀ (i : Nat) (s : Slot), Γ'[i]? = some (some s) → Γ[i]? = some (some s)) : EnvOk K F H σ Γ' :=
  ⟨by rw [e.len, hl], fun i s q => e.ats i s (h i s q), fun i j s t l a b => e.sep i j s t l (h i s a) (h j t b)⟩
theorem get_set_some {α : Type} {l : List α} {i j : Nat} {x y : α} (h : (l.set i x)[j]? = some y) : (i = j ∧ x = y ∧ i < l.length) ∨ (i ≠ j ∧ l[j]? = some y) := by
  by_cases e : i = j
  · subst e
    by_cases hl : i < l.length
    · rw [List.getElem?_set_self hl] at h
      exact .inl ⟨rfl, Option.some.inj h, hl⟩
    · rw [List.getElem?_eq_none (by simpa using hl)] at h; cases h
  · rw [List.getElem?_set_ne e] at h
    exact .inr ⟨e, h⟩
/-- a slot is given data -/
theorem EnvOk.store (e : EnvOk K F H σ Γ) {i : Nat} {v : V} {d : PyData} (h : Dd K F v d) (hi : i < Γ.length) : EnvOk K F H (σ.set i (some v)) (Γ.set i (some (.im d))) := by
  have hs : i < σ.length := by rw [e.len]; exact hi
  refine ⟨by rw [List.length_set, List.length_set, e.len], fun j s q => ?_, fun j k s t l a b hs ht c d' => ?_⟩
  · rcases get_set_some q with ⟨rfl, q2, _⟩ | ⟨ne, q2⟩
    · have q3 := Option.some.inj q2
      subst q3
      exact ⟨v, List.getElem?_set_self hs, h⟩
    · obtain ⟨w, w1, w2⟩ := e.ats j s q2
      exact ⟨w, by rw [List.getElem?_set_ne ne]; exact w1, w2⟩
  · rcases get_set_some a with ⟨rfl, q2, _⟩ | ⟨ne, q2⟩
    · have q3 := Option.some.inj q2
      subst q3
      cases hs
    · rcases get_set_some b with ⟨rfl, q3, _⟩ | ⟨ne2, q3⟩
      · have q4 := Option.some.inj q3
        subst q4
        cases ht
      · rw [List.getElem?_set_ne ne] at c
        rw [List.getElem?_set_ne ne2] at d'
        exact e.sep j k s t l q2 q3 hs ht c d'
theorem own_store {i : Nat} {v : V} {d : PyData} {a : Addr} (h : Own (σ.set i (some v)) (Γ.set i (some (.im d))) a) : Own σ Γ a := by
  obtain ⟨j, s, h1, h2, h3⟩ := h
  rcases get_set_some h1 with ⟨rfl, q2, _⟩ | ⟨ne, q2⟩
  · have q3 := Option.some.inj q2
    subst q3
    cases h2
  · rw [List.getElem?_set_ne ne] at h3
    exact ⟨j, s, q2, h2, h3⟩
theorem Gr.store {F0 H0 : Hp} {A : Addr → Prop} (g : Gr F0 H0 A F H (Own σ Γ)) {i : Nat} {v : V} {d : PyData} : Gr F0 H0 A F H (Own (σ.set i (some v)) (Γ.set i (some (.im d)))) :=
  ⟨g.ff, g.fh, g.hh, g.nw, fun a h => g.aa a (own_store h)⟩
/-- a slot is given a new list of the frame's own -/
theorem EnvOk.storeOw (e : EnvOk K F H σ Γ) {i : Nat} {l : Addr} {xs : List V} {ds : List PyData} (hF : F l = none) (hH : H l = some (.lst xs)) (hd : DdA K F xs ds) (hn : ¬ Own σ Γ l) (hi : i < Γ.length) :
    EnvOk K F H (σ.set i (some (.ref l))) (Γ.set i (some (.ow ds))) := by
  have hs : i < σ.length := by rw [e.len]; exact hi
  refine ⟨by rw [List.length_set, List.length_set, e.len], fun j s q => ?_, fun j k s t m a b hs' ht c d' => ?_⟩
  · rcases get_set_some q with ⟨rfl, q2, _⟩ | ⟨ne, q2⟩
    · have q3 := Option.some.inj q2
      subst q3
      exact ⟨_, List.getElem?_set_self hs, l, xs, rfl, hF, hH, hd⟩
    · obtain ⟨w, w1, w2⟩ := e.ats j s q2
      exact ⟨w, by rw [List.getElem?_set_ne ne]; exact w1, w2⟩
  · rcases get_set_some a with ⟨rfl, q2, _⟩ | ⟨ne, q2⟩
    · rcases get_set_some b with ⟨rfl, q3, _⟩ | ⟨ne2, q3⟩
      · rfl
      · rw [List.getElem?_set_self hs] at c
        rw [List.getElem?_set_ne ne2] at d'
        cases c
        exact absurd ⟨k, t, q3, ht, d'⟩ hn
    · rcases get_set_some b with ⟨rfl, q3, _⟩ | ⟨ne2, q3⟩
      · rw [List.getElem?_set_self hs] at d'
        rw [List.getElem?_set_ne ne] at c
        cases d'
        exact absurd ⟨j, s, q2, hs', c⟩ hn
      · rw [List.getElem?_set_ne ne] at c
        rw [List.getElem?_set_ne ne2] at d'
        exact e.sep j k s t m q2 q3 hs' ht c d'
theorem own_storeOw {i : Nat} {l : Addr} {ds : List PyData} {a : Addr} (hs : i < σ.length) (h : Own (σ.set i (some (.ref l))) (Γ.set i (some (.ow ds))) a) : Own σ Γ a ∨ a = l := by
  obtain ⟨j, s, h1, h2, h3⟩ := h
  rcases get_set_some h1 with ⟨rfl, q2, _⟩ | ⟨ne, q2⟩
  · rw [List.getElem?_set_self hs] at h3
    cases h3
    exact .inr rfl
  · rw [List.getElem?_set_ne ne] at h3
    exact .inl ⟨j, s, q2, h2, h3⟩
/-- a list of the frame's own changes -/
def reSlot (ds : List PyData) : Slot → Slot
  | .im d => .im d
  | .ad u => .ad u
  | .ow _ => .ow ds
  | .pr a _ => .pr a ds
theorem isOw_re {ds : List PyData} {s : Slot} : isOw (reSlot ds s) = isOw s := by cases s <;> rfl
theorem EnvOk.change (e : EnvOk K F H σ Γ) {i : Nat} {l : Addr} {s : Slot} {xs : List V} {ds : List PyData} (hs : Γ[i]? = some (some s)) (ho : isOw s = true) (hl : σ[i]? = some (some (.ref l))) (hd : DdA K F xs ds) :
    EnvOk K F (upd H l (.lst xs)) σ (Γ.set i (some (reSlot ds s))) := by
  obtain ⟨hi, _⟩ := List.getElem?_eq_some_iff.mp hs
  have hFl := (e.own_at ⟨i, s, hs, ho, hl⟩).1
  refine ⟨by rw [List.length_set, e.len], fun j t q => ?_, fun j k t u m a b ht hu c d' => ?_⟩
  · rcases get_set_some q with ⟨rfl, q2, _⟩ | ⟨ne, q2⟩
    · have q3 := Option.some.inj q2
      subst q3
      refine ⟨_, hl, ?_⟩
      obtain ⟨v, v1, v2⟩ := e.ats i s hs
      rw [hl] at v1
      cases v1
      cases s with
      | im d => cases ho
      | ad u => cases ho
      | ow es => exact ⟨l, xs, rfl, hFl, upd_same, hd⟩
      | pr a es =>
        obtain ⟨ys, y1, _⟩ := v2
        cases y1
        exact ⟨xs, rfl, hFl, upd_same, hd⟩
    · obtain ⟨w, w1, w2⟩ := e.ats j t q2
      refine ⟨w, w1, ?_⟩
      cases t with
      | im d => exact w2
      | ad u => exact w2
      | ow es =>
        obtain ⟨m, ys, y1, y2, y3, y4⟩ := w2
        subst y1
        have nml : m ≠ l := fun z => by
          subst z
          exact ne (e.sep i j s _ m hs q2 ho rfl hl w1)
        exact ⟨m, ys, rfl, y2, by rw [upd_ne nml]; exact y3, y4⟩
      | pr a es =>
        obtain ⟨ys, y1, y2, y3, y4⟩ := w2
        subst y1
        have nml : a ≠ l := fun z => by
          subst z
          exact ne (e.sep i j s _ a hs q2 ho rfl hl w1)
        exact ⟨ys, rfl, y2, by rw [upd_ne nml]; exact y3, y4⟩
  · rcases get_set_some a with ⟨rfl, q2, _⟩ | ⟨ne, q2⟩
    · rcases get_set_some b with ⟨rfl, q3, _⟩ | ⟨ne2, q3⟩
      · rfl
      · exact e.sep _ _ _ _ _ hs q3 ho hu c d'
    · rcases get_set_some b with ⟨rfl, q3, _⟩ | ⟨ne2, q3⟩
      · exact e.sep _ _ _ _ _ q2 hs ht ho c d'
      · exact e.sep j k t u m q2 q3 ht hu c d'
theorem own_change {i : Nat} {s : Slot} {ds : List PyData} {a : Addr} (hs : Γ[i]? = some (some s)) (h : Own σ (Γ.set i (some (reSlot ds s))) a) : Own σ Γ a := by
  obtain ⟨j, t, h1, h2, h3⟩ := h
  rcases get_set_some h1 with ⟨rfl, q2, _⟩ | ⟨ne, q2⟩
  · have q3 := Option.some.inj q2
    subst q3
    rw [isOw_re] at h2
    exact ⟨i, s, hs, h2, h3⟩
  · exact ⟨j, t, q2, h2, h3⟩
theorem Gr.change {i : Nat} {l : Addr} {s : Slot} {xs : List V} {ds : List PyData} (x : Ext F H) (e : EnvOk K F H σ Γ) (hs : Γ[i]? = some (some s)) (ho : isOw s = true) (hl : σ[i]? = some (some (.ref l))) :
    Gr F H (Own σ Γ) F (upd H l (.lst xs)) (Own σ (Γ.set i (some (reSlot ds s)))) := by
  have hFl := (e.own_at ⟨i, s, hs, ho, hl⟩).1
  refine ⟨Ext.refl F, x.mut hFl, fun a o h => ?_, fun a h => .inl h, fun a h => .inl (own_change hs h)⟩
  by_cases ha : a = l
  · subst ha; exact .inr ⟨i, s, hs, ho, hl⟩
  · left; rw [upd_ne ha]; exact h
/-- a list of the frame's own is data from now on -/
theorem EnvOk.freeze (e : EnvOk K F H σ Γ) {i : Nat} {l : Addr} {ds : List PyData} {xs : List V} (hs : Γ[i]? = some (some (.ow ds))) (hl : σ[i]? = some (some (.ref l))) (hH : H l = some (.lst xs)) (hd : DdA K F xs ds) :
    EnvOk K (upd F l (.lst xs)) H σ (Γ.set i (some (.im (.list ds)))) := by
  obtain ⟨hi, _⟩ := List.getElem?_eq_some_iff.mp hs
  have hFl := (e.own_at ⟨i, _, hs, rfl, hl⟩).1
  have ff : Ext F (upd F l (.lst xs)) := Ext.new hFl
  refine ⟨by rw [List.length_set, e.len], fun j t q => ?_, fun j k t u m a b ht hu c d' => ?_⟩
  · rcases get_set_some q with ⟨rfl, q2, _⟩ | ⟨ne, q2⟩
    · have q3 := Option.some.inj q2
      subst q3
      exact ⟨_, hl, .lst upd_same (hd.up ff)⟩
    · obtain ⟨w, w1, w2⟩ := e.ats j t q2
      refine ⟨w, w1, ?_⟩
      cases t with
      | im d => exact w2.up ff
      | ad u => exact w2
      | ow es =>
        obtain ⟨m, ys, y1, y2, y3, y4⟩ := w2
        subst y1
        have nml : m ≠ l := fun z => by
          subst z
          exact ne (e.sep i j _ _ m hs q2 rfl rfl hl w1)
        exact ⟨m, ys, rfl, by rw [upd_ne nml]; exact y2, y3, y4.up ff⟩
      | pr a es =>
        obtain ⟨ys, y1, y2, y3, y4⟩ := w2
        subst y1
        have nml : a ≠ l := fun z => by
          subst z
          exact ne (e.sep i j _ _ a hs q2 rfl rfl hl w1)
        exact ⟨ys, rfl, by rw [upd_ne nml]; exact y2, y3, y4.up ff⟩
  · rcases get_set_some a with ⟨rfl, q2, _⟩ | ⟨ne, q2⟩
    · have q3 := Option.some.inj q2
      subst q3
      cases ht
    · rcases get_set_some b with ⟨rfl, q3, _⟩ | ⟨ne2, q3⟩
      · have q4 := Option.some.inj q3
        subst q4
        cases hu
      · exact e.sep j k t u m q2 q3 ht hu c d'
theorem Gr.freeze (x : Ext F H) (e : EnvOk K F H σ Γ) {i : Nat} {l : Addr} {ds : List PyData} {xs : List V} (hs : Γ[i]? = some (some (.ow ds))) (hl : σ[i]? = some (some (.ref l))) (hH : H l = some (.lst xs)) :
    Gr F H (Own σ Γ) (upd F l (.lst xs)) H (Own σ (Γ.set i (some (.im (.list ds))))) := by
  have hFl := (e.own_at ⟨i, _, hs, rfl, hl⟩).1
  refine ⟨Ext.new hFl, fun a o h => ?_, fun a o h => .inl h, fun a h => ?_, fun a h => .inl ?_⟩
  · by_cases ha : a = l
    · subst ha; rw [upd_same] at h; cases h; exact hH
    · rw [upd_ne ha] at h; exact x a o h
  · by_cases ha : a = l
    · subst ha; exact .inr (.inr ⟨i, _, hs, rfl, hl⟩)
    · rw [upd_ne ha] at h; exact .inl h
  · obtain ⟨j, t, h1, h2, h3⟩ := h
    rcases get_set_some h1 with ⟨rfl, q2, _⟩ | ⟨ne, q2⟩
    · have q3 := Option.some.inj q2
      subst q3
      cases h2
    · exact ⟨j, t, q2, h2, h3⟩
theorem Dd.tupAt {K : PySem.W.Frag} {F H : Hp} {v : V} {ds : List PyData} (e : Ext F H) (h : Dd K F v (.tuple ds)) : ∃ a ob xs, v = .ref a ∧ H a = some (.frz ob (.tup xs)) ∧ ob.dict = none ∧ SqT K H a xs ∧ DdA K F xs ds := by
  cases h with
  | tup h1 h0 h2 => exact ⟨_, _, _, rfl, e _ _ h1, h0, .inl (.inr ⟨_, e _ _ h1⟩), h2⟩
theorem Dd.lstAt {K : PySem.W.Frag} {F H : Hp} {v : V} {ds : List PyData} (e : Ext F H) (h : Dd K F v (.list ds)) : ∃ a xs, v = .ref a ∧ H a = some (.lst xs) ∧ SqL K H a xs ∧ DdA K F xs ds := by
  cases h with
  | lst h1 h2 => exact ⟨_, _, rfl, e _ _ h1, SqL.of (e _ _ h1), h2⟩
end
end DL
end

section
namespace DL
open PySem PySem.Spec PyProof.Rows L2

/-! ### the judgements -/
def tE (K : PySem.W.Frag) (Γ : Gm) (d : PyData) (Γ' : Gm) : TE := fun σ H Q => ∃ F, EnvOk K F H σ Γ ∧ Ext F H ∧
  ∀ v F' H', Gr F H (Own σ Γ) F' H' (Own σ Γ') → EnvOk K F' H' σ Γ' → Dd K F' v d → Q v H'
/-- worth a new list of the data ds -/
def tN (K : PySem.W.Frag) (Γ : Gm) (ds : List PyData) (Γ' : Gm) : TE := fun σ H Q => ∃ F, EnvOk K F H σ Γ ∧ Ext F H ∧
  ∀ l xs F' H', Gr F H (Own σ Γ) F' H' (Own σ Γ') → EnvOk K F' H' σ Γ' → F' l = none → (H l = none ∨ Own σ Γ l) → H' l = some (.lst xs) → ¬ Own σ Γ' l → DdA K F' xs ds → Q (.ref l) H'
def tT (K : PySem.W.Frag) (Γ : Gm) (b : Bool) (Γ' : Gm) : TT := fun σ H Q => ∃ F, EnvOk K F H σ Γ ∧ Ext F H ∧
  ∀ F' H', Gr F H (Own σ Γ) F' H' (Own σ Γ') → EnvOk K F' H' σ Γ' → Q b H'
def tAs (K : PySem.W.Frag) (Γ : Gm) (ds : List PyData) (Γ' : Gm) : TA := fun σ H Q => ∃ F, EnvOk K F H σ Γ ∧ Ext F H ∧
  ∀ vs F' H', Gr F H (Own σ Γ) F' H' (Own σ Γ') → EnvOk K F' H' σ Γ' → DdA K F' vs ds → Q vs H'
def Ee (X : Cx) (Γ : Gm) (e : Expr) (d : PyData) (Γ' : Gm) : Prop := PE X e (tE X.K Γ d Γ')
def En (X : Cx) (Γ : Gm) (e : Expr) (ds : List PyData) (Γ' : Gm) : Prop := PE X e (tN X.K Γ ds Γ')
def Et (X : Cx) (Γ : Gm) (e : Expr) (b : Bool) (Γ' : Gm) : Prop := PT X e (tT X.K Γ b Γ')
def Ew (X : Cx) (Γ : Gm) (e : Expr) (b : Bool) (Γ' : Gm) : Prop := PW X e (tT X.K Γ b Γ')
def Ea (X : Cx) (Γ : Gm) (es : List Expr) (ds : List PyData) (Γ' : Gm) : Prop := PA X es (tAs X.K Γ ds Γ')

section
variable {X : Cx} {e : Expr} {es : List Expr}
theorem pe_imp {t t' : TE} (h : PE X e t) (q : ∀ σ H Q, t' σ H Q → t σ H Q) : PE X e t' := ⟨fun pins s σ H Q I hw => h.run pins s σ H Q I (q _ _ _ hw)⟩
theorem pt_imp {t t' : TT} (h : PT X e t) (q : ∀ σ H Q, t' σ H Q → t σ H Q) : PT X e t' := ⟨fun pins s σ H Q I hw => h.run pins s σ H Q I (q _ _ _ hw)⟩
theorem pw_imp {t t' : TT} (h : PW X e t) (q : ∀ σ H Q, t' σ H Q → t σ H Q) : PW X e t' := ⟨fun w pins s σ H Q I hw => h.run w pins s σ H Q I (q _ _ _ hw)⟩
theorem pa_imp {t t' : TA} (h : PA X es t) (q : ∀ σ H Q, t' σ H Q → t σ H Q) : PA X es t' := ⟨fun p pins s σ H Q I hw => h.run p pins s σ H Q I (q _ _ _ hw)⟩
theorem ps_imp {st : Stmt} {t t' : TS} (h : PS X st t) (q : ∀ D σ H, t' D σ H → t D σ H) : PS X st t' := ⟨fun pins s σ H D I hw => h.run pins s σ H D I (q _ _ _ hw)⟩
theorem pss_imp {st : List Stmt} {t t' : TS} (h : PSs X st t) (q : ∀ D σ H, t' D σ H → t D σ H) : PSs X st t' := ⟨fun pins s σ H D I hw => h.run pins s σ H D I (q _ _ _ hw)⟩
theorem pg_imp {tg : Expr} {t t' : TG} (h : PG X tg t) (q : ∀ v σ H Q, t' v σ H Q → t v σ H Q) : PG X tg t' := ⟨fun pins s σ H v u Q I r hw => h.run pins s σ H v u Q I r (q _ _ _ _ hw)⟩
theorem pi_imp {tg : Expr} {t t' : TI} (h : PI X tg e t) (q : ∀ σ H R, t' σ H R → t σ H R) : PI X tg e t' := ⟨fun pins s σ H R I hw => h.run pins s σ H R I (q _ _ _ hw)⟩
end

section
variable {X : Cx} {Γ Γ1 Γ2 Γ3 : Gm} {a b c e : Expr} {es : List Expr} {d d1 d2 d3 : PyData} {ds : List PyData} {pos : Pos}

/-! ### names, constants -/
theorem ee_var (i : Nat) {x : Str} (h : Γ[i]? = some (some (.im d)) := by rfl) (hN : X.N[i]? = some x := by rfl) (hv : Vis X.env.scope x := by first | exact Or.inl rfl | exact Or.inr (Or.inl rfl) | exact Or.inr (Or.inr rfl))
    (hd : (x == ("__debug__" : Str)) = false := by decide) (hcd : (x == ("__classdict__" : Str)) = false := by decide) : Ee X Γ (.Name x pos) d Γ :=
  pe_imp (pe_var hN hv hd hcd) fun σ H Q ⟨F, ev, x, q⟩ => by
    obtain ⟨v, v1, v2⟩ := ev.ats i _ h
    exact ⟨v, v1, q v F H (Gr.refl x) ev v2⟩
theorem ee_const {v : V} (h : PE X e (tC v)) (hd : ∀ F, Dd X.K F v d) : Ee X Γ e d Γ := pe_imp h fun σ H Q ⟨F, ev, x, q⟩ => q v F H (Gr.refl x) ev (hd F)
theorem ee_int {i : Int} {j : Nat} : Ee X Γ (.Constant (.int i) j pos) (.int i) Γ := ee_const pe_int fun _ => .int i
theorem ee_bl {b : Bool} {j : Nat} : Ee X Γ (.Constant (.bool b) j pos) (.bool b) Γ := ee_const pe_bl fun _ => .bl b
theorem ee_non {j : Nat} : Ee X Γ (.Constant .none j pos) .none Γ := ee_const pe_non fun _ => .non
theorem ee_str {x : Str} {j : Nat} : Ee X Γ (.Constant (.str x) j pos) (.str x) Γ := ee_const pe_str fun _ => .str x
theorem ee_gint {x : Str} {i : Int} {u : Value} (hm : X.mg x = some u) (r : RelV (.int i) u) (hg : Gl X x := by rfl) (hd : (x == ("__debug__" : Str)) = false := by decide) : Ee X Γ (.Name x pos) (.int i) Γ :=
  ee_const (pe_glob hg hm r hd) fun _ => .int i

/-! ### arguments, tuples, lists -/
theorem ea_nil : Ea X Γ [] [] Γ := pa_imp pa_nil fun σ H Q ⟨F, ev, x, q⟩ => q [] F H (Gr.refl x) ev .nil
theorem ea_cons (ha : Ee X Γ e d Γ1) (hr : Ea X Γ1 es ds Γ2) (hs : starEach (e :: es) X.env = (false, eval e X.env) :: starEach es X.env := by rfl) : Ea X Γ (e :: es) (d :: ds) Γ2 :=
  pa_imp (pa_cons ha hr hs) fun σ H Q ⟨F, ev, x, q⟩ => ⟨F, ev, x, fun v F1 H1 g1 e1 dv => ⟨F1, e1, g1.fh, fun vs F2 H2 g2 e2 dvs =>
    q (v :: vs) F2 H2 (g1.trans g2) e2 (.cons (dv.up g2.ff) dvs)⟩⟩
theorem line_of {K : PySem.W.Frag} {F : Hp} {vs : List V} {ds : List PyData} (h : DdA K F vs ds) (hl : ds.length ≤ 16777216) : vs.length ≤ sizeLine := by
  rw [h.len, sizeLine_eq]; exact hl
/-- tuples are laid with their object, which has no dict -/
def TupNew (H : Hp) (xs : List V) (Q : VK) : Prop := ∀ p ob, H p = none → ob.dict = none → Q (.ref p) (upd H p (.frz ob (.tup xs)))
def tTupF (t : TA) : TE := fun σ H Q => t σ H fun xs H1 => xs.length ≤ sizeLine ∧ TupNew H1 xs Q
theorem tup_end {pins : List (Addr × Obj)} {s1 : Shared} {σ : L2.St} {H1 : Hp} {us : List Value} {xs : List V} {Q : VK} {t' : Nat} (I1 : Inv X pins σ H1 s1) (r : Vals xs us) (z : xs.length ≤ sizeLine) (q : TupNew H1 xs Q) :
    EP X pins σ Q (.ref s1.heap.objs.size) { s1 with heap := s1.heap.push { cls := .type "tuple", data := .seq us.toArray }, toks := t' } := by
  have hf : H1 s1.heap.objs.size = none := I1.hok.fresh (Nat.le_refl _)
  refine ⟨.ref s1.heap.objs.size, upd H1 s1.heap.objs.size (.frz { cls := .type "tuple", data := .seq us.toArray } (.tup xs)), I1.laid (t' := t') (fun b u e => Heap.get?_push_of_some _ e) (Nat.le_refl _) ?_, rfl, q _ _ hf rfl⟩
  exact ⟨Heap.get?_push_size _ rfl, z, us, r, ⟨_, Heap.get?_push_size _ rfl, rfl, _, rfl⟩⟩
theorem pe_tupF {t : TA} {x1 : Nat} (h : PA X es t) : PE X (.Tuple es x1 pos) (tTupF t) := by
  refine ⟨fun pins s σ H Q I hq => ?_⟩
  refine wpAny_Tuple_spliced (thn (h.run pos pins s σ H _ I hq) fun us s1 ⟨xs, H1, I1, r, z, q⟩ => ⟨by rw [← r.length]; exact z, ?_⟩)
  exact tup_end I1 r z q
/-- a tuple newly laid is data -/
theorem tupNew_of {K : PySem.W.Frag} {F H F1 H1 : Hp} {σ : L2.St} {Γ Γ' : Gm} {xs : List V} {ds : List PyData} {Q : VK} (g1 : Gr F H (Own σ Γ) F1 H1 (Own σ Γ')) (e1 : EnvOk K F1 H1 σ Γ') (dv : DdA K F1 xs ds)
    (q : ∀ v F' H', Gr F H (Own σ Γ) F' H' (Own σ Γ') → EnvOk K F' H' σ Γ' → Dd K F' v (.tuple ds) → Q v H') : TupNew H1 xs Q := fun p ob hp hd =>
  q (.ref p) _ _ (g1.trans (Gr.new g1.fh hp)) (e1.new g1.fh hp) (.tup upd_same hd (dv.up (Ext.new (g1.fh.free hp))))
theorem ee_tup {k : Nat} (h : Ea X Γ es ds Γ1) (hl : ds.length ≤ 16777216 := by first | decide | (simp only [List.length_cons, List.length_nil]; omega)) : Ee X Γ (.Tuple es k pos) (.tuple ds) Γ1 :=
  pe_imp (pe_tupF h) fun σ H Q ⟨F, ev, x, q⟩ => ⟨F, ev, x, fun vs F1 H1 g1 e1 dv => ⟨line_of dv hl, tupNew_of g1 e1 dv q⟩⟩
/-- a new list made at p -/
theorem tN_new {K : PySem.W.Frag} {F H F1 H1 : Hp} {σ : L2.St} {Γ Γ' : Gm} {xs : List V} {ds : List PyData} {Q : VK} (g1 : Gr F H (Own σ Γ) F1 H1 (Own σ Γ')) (e1 : EnvOk K F1 H1 σ Γ') (dv : DdA K F1 xs ds)
    (q : ∀ l xs F' H', Gr F H (Own σ Γ) F' H' (Own σ Γ') → EnvOk K F' H' σ Γ' → F' l = none → (H l = none ∨ Own σ Γ l) → H' l = some (.lst xs) → ¬ Own σ Γ' l → DdA K F' xs ds → Q (.ref l) H') :
    ∀ p, H1 p = none → Q (.ref p) (upd H1 p (.lst xs)) := fun p hp => by
  refine q p xs F1 _ (g1.trans (Gr.newH g1.fh hp)) (e1.newH hp) (g1.fh.free hp) (g1.free hp) upd_same (fun o => ?_) dv
  obtain ⟨_, ys, h⟩ := e1.own_at o
  rw [hp] at h; cases h
theorem en_lst (h : Ea X Γ es ds Γ1) (hl : ds.length ≤ 16777216 := by first | decide | (simp only [List.length_cons, List.length_nil]; omega)) : En X Γ (.List es pos) ds Γ1 :=
  pe_imp (pe_lst h) fun σ H Q ⟨F, ev, x, q⟩ => ⟨F, ev, x, fun vs F1 H1 g1 e1 dv => ⟨line_of dv hl, tN_new g1 e1 dv q⟩⟩
theorem EnvOk.froz {K : PySem.W.Frag} {F H : Hp} {σ : L2.St} {Γ : Gm} {l : Addr} {xs : List V} (e : EnvOk K F H σ Γ) (hF : F l = none) (ho : ¬ Own σ Γ l) : EnvOk K (upd F l (.lst xs)) H σ Γ := by
  have ff : Ext F (upd F l (.lst xs)) := Ext.new hF
  refine ⟨e.len, fun i s h => ?_, e.sep⟩
  obtain ⟨v, v1, v2⟩ := e.ats i s h
  refine ⟨v, v1, ?_⟩
  cases s with
  | im d => exact v2.up ff
  | ad u => exact v2
  | ow ds =>
    obtain ⟨m, ys, y1, y2, y3, y4⟩ := v2
    subst y1
    have ne : m ≠ l := fun z => ho ⟨i, _, h, rfl, by rw [← z]; exact v1⟩
    exact ⟨m, ys, rfl, by rw [upd_ne ne]; exact y2, y3, y4.up ff⟩
  | pr m ds =>
    obtain ⟨ys, y1, y2, y3, y4⟩ := v2
    subst y1
    have ne : m ≠ l := fun z => ho ⟨i, _, h, rfl, by rw [← z]; exact v1⟩
    exact ⟨ys, rfl, by rw [upd_ne ne]; exact y2, y3, y4.up ff⟩
theorem Gr.froz {F H F' H' : Hp} {A A' : Addr → Prop} {l : Addr} {xs : List V} (g : Gr F H A F' H' A') (hF : F' l = none) (hH : H l = none ∨ A l) (hl : H' l = some (.lst xs)) : Gr F H A (upd F' l (.lst xs)) H' A' := by
  refine ⟨g.ff.trans (Ext.new hF), fun a o h => ?_, g.hh, fun a h => ?_, g.aa⟩
  · by_cases ha : a = l
    · subst ha; rw [upd_same] at h; cases h; exact hl
    · rw [upd_ne ha] at h; exact g.fh a o h
  · by_cases ha : a = l
    · subst ha; exact .inr hH
    · rw [upd_ne ha] at h; exact g.nw a h
theorem ee_new (h : En X Γ e ds Γ1) : Ee X Γ e (.list ds) Γ1 := pe_imp h fun σ H Q ⟨F, ev, x, q⟩ => ⟨F, ev, x, fun l xs F1 H1 g1 e1 hF hH hl ho dv =>
  q (.ref l) _ H1 (g1.froz hF hH hl) (e1.froz hF ho) (.lst upd_same (dv.up (Ext.new hF)))⟩

/-! ### operations on values -/
/-- what an operation on two values is worth -/
def RD (K : PySem.W.Frag) (r : R2) (d1 d2 d : PyData) : Prop := ∀ (F H : Hp) (x y : V) (Q : VK), Ext F H → Dd K F x d1 → Dd K F y d2 →
  (∀ v F' H', Ext F F' → Ext F' H' → Ext H H' → (∀ a, F' a ≠ none → F a ≠ none ∨ H a = none) → Dd K F' v d → Q v H') → r x y H Q
def RN (K : PySem.W.Frag) (r : R2) (d1 d2 : PyData) (ds : List PyData) : Prop := ∀ (F H : Hp) (x y : V) (Q : VK), Ext F H → Dd K F x d1 → Dd K F y d2 →
  (∃ xs, DdA K F xs ds ∧ ((∀ p, H p = none → Q (.ref p) (upd H p (.lst xs))) → r x y H Q))
theorem rd_here {r : R2} {K : PySem.W.Frag} (h : ∀ (F H : Hp) (x y : V) (Q : VK), Ext F H → Dd K F x d1 → Dd K F y d2 → ∃ v, Dd K F v d ∧ (Q v H → r x y H Q)) : RD K r d1 d2 d := fun F H x y Q e hx hy q => by
  obtain ⟨v, hv, k⟩ := h F H x y Q e hx hy
  exact k (q v F H (Ext.refl F) e (Ext.refl H) (fun a h => .inl h) hv)
theorem ee_binR {op : Operator} {r : R2} (ho : OpR X (binaryOp op) r) (ha : Ee X Γ a d1 Γ1) (hb : Ee X Γ1 b d2 Γ2) (hr : RD X.K r d1 d2 d) : Ee X Γ (.BinOp a op b pos) d Γ2 :=
  pe_imp (pe_op ho ha hb) fun σ H Q ⟨F, ev, x, q⟩ => ⟨F, ev, x, fun v F1 H1 g1 e1 dv => ⟨F1, e1, g1.fh, fun w F2 H2 g2 e2 dw =>
    hr F2 H2 v w Q g2.fh (dv.up g2.ff) dw fun z F3 H3 i1 i2 i3 i4 dz => q z F3 H3 ((g1.trans g2).trans (Gr.ext i1 i2 i3 i4)) (e2.keep i1 i3 i4) dz⟩⟩
theorem en_binR {op : Operator} {r : R2} (ho : OpR X (binaryOp op) r) (ha : Ee X Γ a d1 Γ1) (hb : Ee X Γ1 b d2 Γ2) (hr : RN X.K r d1 d2 ds) : En X Γ (.BinOp a op b pos) ds Γ2 :=
  pe_imp (pe_op ho ha hb) fun σ H Q ⟨F, ev, x, q⟩ => ⟨F, ev, x, fun v F1 H1 g1 e1 dv => ⟨F1, e1, g1.fh, fun w F2 H2 g2 e2 dw => by
    obtain ⟨xs, dx, k⟩ := hr F2 H2 v w Q g2.fh (dv.up g2.ff) dw
    exact k (tN_new (g1.trans g2) e2 dx q)⟩⟩
theorem ee_cmpR {op : CmpOp} {r : R2} (ho : OpR X (compareOp op) r) (ha : Ee X Γ a d1 Γ1) (hb : Ee X Γ1 b d2 Γ2) (hr : RD X.K r d1 d2 d) (hm : behindInMarks op b = false) : Ee X Γ (.Compare a [op] [b] pos) d Γ2 :=
  pe_imp (pe_cmpR ho ha hb hm) fun σ H Q ⟨F, ev, x, q⟩ => ⟨F, ev, x, fun v F1 H1 g1 e1 dv => ⟨F1, e1, g1.fh, fun w F2 H2 g2 e2 dw =>
    hr F2 H2 v w Q g2.fh (dv.up g2.ff) dw fun z F3 H3 i1 i2 i3 i4 dz => q z F3 H3 ((g1.trans g2).trans (Gr.ext i1 i2 i3 i4)) (e2.keep i1 i3 i4) dz⟩⟩
theorem et_cmpR {op : CmpOp} {r : R2} {k : Bool} (ho : OpR X (compareOp op) r) (ha : Ee X Γ a d1 Γ1) (hb : Ee X Γ1 b d2 Γ2) (hr : RD X.K r d1 d2 (.bool k)) (hm : behindInMarks op b = false) : Et X Γ (.Compare a [op] [b] pos) k Γ2 :=
  pt_imp (pt_cmpR ho ha hb hm) fun σ H Q ⟨F, ev, x, q⟩ => ⟨F, ev, x, fun v F1 H1 g1 e1 dv => ⟨F1, e1, g1.fh, fun w F2 H2 g2 e2 dw =>
    hr F2 H2 v w _ g2.fh (dv.up g2.ff) dw fun z F3 H3 i1 i2 i3 i4 dz => by
      cases dz
      exact ⟨k, rfl, q F3 H3 ((g1.trans g2).trans (Gr.ext i1 i2 i3 i4)) (e2.keep i1 i3 i4)⟩⟩⟩
theorem ee_unR {op : UnaryOp} {r : V → Hp → VK → Prop} (ho : UnR X (unaryOp op) r) (ha : Ee X Γ a d1 Γ1) (hr : ∀ (F H : Hp) (x : V) (Q : VK), Dd X.K F x d1 → ∃ v, Dd X.K F v d ∧ (Q v H → r x H Q)) : Ee X Γ (.UnaryOp op a pos) d Γ1 :=
  pe_imp (pe_un ho ha) fun σ H Q ⟨F, ev, x, q⟩ => ⟨F, ev, x, fun v F1 H1 g1 e1 dv => by
    obtain ⟨w, dw, k⟩ := hr F1 H1 v Q dv
    exact k (q w F1 H1 g1 e1 dw)⟩

/-! ### ints -/
theorem rd_I {K : PySem.W.Frag} {C : Int → Int → Prop} {g : Int → Int → V} {i j : Int} (hc : C i j) (hg : ∀ F, Dd K F (g i j) d) : RD K (rI C g) (.int i) (.int j) d := rd_here fun F H x y Q e hx hy => by
  cases hx; cases hy
  exact ⟨g i j, hg F, fun q => ⟨i, j, rfl, rfl, hc, q⟩⟩
theorem rd_I0 {K : PySem.W.Frag} {g : Int → Int → V} {i j : Int} (hg : ∀ F, Dd K F (g i j) d) : RD K (rI0 g) (.int i) (.int j) d := rd_here fun F H x y Q e hx hy => by
  cases hx; cases hy
  exact ⟨g i j, hg F, fun q => ⟨i, j, rfl, rfl, q⟩⟩
variable {i j : Int}
theorem ee_add (ha : Ee X Γ a (.int i) Γ1) (hb : Ee X Γ1 b (.int j) Γ2) : Ee X Γ (.BinOp a .Add b pos) (.int (i + j)) Γ2 := ee_binR op_add ha hb (rd_I0 fun _ => .int _)
theorem ee_sub (ha : Ee X Γ a (.int i) Γ1) (hb : Ee X Γ1 b (.int j) Γ2) : Ee X Γ (.BinOp a .Sub b pos) (.int (i - j)) Γ2 := ee_binR op_sub ha hb (rd_I0 fun _ => .int _)
theorem ee_mul (ha : Ee X Γ a (.int i) Γ1) (hb : Ee X Γ1 b (.int j) Γ2) (hc : CMul i j) : Ee X Γ (.BinOp a .Mult b pos) (.int (i * j)) Γ2 := ee_binR op_mul ha hb (rd_I hc fun _ => .int _)
theorem ee_mod (ha : Ee X Γ a (.int i) Γ1) (hb : Ee X Γ1 b (.int j) Γ2) (hc : j ≠ 0) : Ee X Γ (.BinOp a .Mod b pos) (.int (i.fmod j)) Γ2 := ee_binR op_modN ha hb (rd_I hc fun _ => .int _)
theorem ee_fdiv (ha : Ee X Γ a (.int i) Γ1) (hb : Ee X Γ1 b (.int j) Γ2) (hc : CDivN i j) : Ee X Γ (.BinOp a .FloorDiv b pos) (.int (i.fdiv j)) Γ2 := ee_binR op_fdivN ha hb (rd_I hc fun _ => .int _)
theorem ee_pow (ha : Ee X Γ a (.int i) Γ1) (hb : Ee X Γ1 b (.int j) Γ2) (hc : CPow i j) : Ee X Γ (.BinOp a .Pow b pos) (.int (i ^ j.toNat)) Γ2 := ee_binR op_pow ha hb (rd_I hc fun _ => .int _)
theorem ee_shl (ha : Ee X Γ a (.int i) Γ1) (hb : Ee X Γ1 b (.int j) Γ2) (hc : CPow i j) : Ee X Γ (.BinOp a .LShift b pos) (.int (i * 2 ^ j.toNat)) Γ2 := ee_binR op_shl ha hb (rd_I hc fun _ => .int _)
theorem ee_neg (ha : Ee X Γ a (.int i) Γ1) : Ee X Γ (.UnaryOp .USub a pos) (.int (-i)) Γ1 := ee_unR un_neg ha fun F H x Q hx => by
  cases hx
  exact ⟨_, .int (-i), fun q => ⟨i, rfl, q⟩⟩
theorem ee_lt (ha : Ee X Γ a (.int i) Γ1) (hb : Ee X Γ1 b (.int j) Γ2) : Ee X Γ (.Compare a [.Lt] [b] pos) (.bool (decide (i < j))) Γ2 := ee_cmpR op_lt ha hb (rd_I0 fun _ => .bl _) (nomark _)
theorem ee_le (ha : Ee X Γ a (.int i) Γ1) (hb : Ee X Γ1 b (.int j) Γ2) : Ee X Γ (.Compare a [.LtE] [b] pos) (.bool (decide (i ≤ j))) Γ2 := ee_cmpR op_le ha hb (rd_I0 fun _ => .bl _) (nomark _)
theorem ee_gt (ha : Ee X Γ a (.int i) Γ1) (hb : Ee X Γ1 b (.int j) Γ2) : Ee X Γ (.Compare a [.Gt] [b] pos) (.bool (decide (j < i))) Γ2 := ee_cmpR op_gt ha hb (rd_I0 fun _ => .bl _) (nomark _)
theorem ee_ge (ha : Ee X Γ a (.int i) Γ1) (hb : Ee X Γ1 b (.int j) Γ2) : Ee X Γ (.Compare a [.GtE] [b] pos) (.bool (decide (j ≤ i))) Γ2 := ee_cmpR op_ge ha hb (rd_I0 fun _ => .bl _) (nomark _)
theorem et_lt (ha : Ee X Γ a (.int i) Γ1) (hb : Ee X Γ1 b (.int j) Γ2) : Et X Γ (.Compare a [.Lt] [b] pos) (decide (i < j)) Γ2 := et_cmpR op_lt ha hb (rd_I0 fun _ => .bl _) (nomark _)
theorem et_le (ha : Ee X Γ a (.int i) Γ1) (hb : Ee X Γ1 b (.int j) Γ2) : Et X Γ (.Compare a [.LtE] [b] pos) (decide (i ≤ j)) Γ2 := et_cmpR op_le ha hb (rd_I0 fun _ => .bl _) (nomark _)
theorem et_gt (ha : Ee X Γ a (.int i) Γ1) (hb : Ee X Γ1 b (.int j) Γ2) : Et X Γ (.Compare a [.Gt] [b] pos) (decide (j < i)) Γ2 := et_cmpR op_gt ha hb (rd_I0 fun _ => .bl _) (nomark _)
theorem et_ge (ha : Ee X Γ a (.int i) Γ1) (hb : Ee X Γ1 b (.int j) Γ2) : Et X Γ (.Compare a [.GtE] [b] pos) (decide (j ≤ i)) Γ2 := et_cmpR op_ge ha hb (rd_I0 fun _ => .bl _) (nomark _)

/-! ### == and in of data -/
theorem dp_of {K : PySem.W.Frag} {F H : Hp} {v : V} (e : Ext F H) (hs : SeqAt.shaped d = true) (h : Dd K F v d) : Dp K H v d := Dd.dp e d v (SeqAt.canLay_of_shaped hs) h
theorem rd_eqD {K : PySem.W.Frag} (h1 : SeqAt.shaped d1 = true) (h2 : SeqAt.shaped d2 = true) : RD K (rEqD K) d1 d2 (.bool (PyData.eqv d1 d2)) := rd_here fun F H x y Q e hx hy =>
  ⟨.bl (PyData.eqv d1 d2), .bl _, fun q => ⟨d1, d2, dp_of e h1 hx, dp_of e h2 hy, h1, h2, q⟩⟩
theorem rd_neD {K : PySem.W.Frag} (h1 : SeqAt.shaped d1 = true) (h2 : SeqAt.shaped d2 = true) : RD K (rNeD K) d1 d2 (.bool (!PyData.eqv d1 d2)) := rd_here fun F H x y Q e hx hy =>
  ⟨.bl (!PyData.eqv d1 d2), .bl _, fun q => ⟨d1, d2, dp_of e h1 hx, dp_of e h2 hy, h1, h2, q⟩⟩
theorem ee_eqD {k : Nat} (hr : Room k X.A) (ha : Ee X Γ a d1 Γ1) (hb : Ee X Γ1 b d2 Γ2) (h1 : SeqAt.shaped d1 = true) (h2 : SeqAt.shaped d2 = true) : Ee X Γ (.Compare a [.Eq] [b] pos) (.bool (PyData.eqv d1 d2)) Γ2 :=
  ee_cmpR (op_eqD hr.units) ha hb (rd_eqD h1 h2) (nomark _)
theorem ee_neD {k : Nat} (hr : Room k X.A) (ha : Ee X Γ a d1 Γ1) (hb : Ee X Γ1 b d2 Γ2) (h1 : SeqAt.shaped d1 = true) (h2 : SeqAt.shaped d2 = true) : Ee X Γ (.Compare a [.NotEq] [b] pos) (.bool (!PyData.eqv d1 d2)) Γ2 :=
  ee_cmpR (op_neD hr.units) ha hb (rd_neD h1 h2) (nomark _)
theorem et_eqD {k : Nat} (hr : Room k X.A) (ha : Ee X Γ a d1 Γ1) (hb : Ee X Γ1 b d2 Γ2) (h1 : SeqAt.shaped d1 = true) (h2 : SeqAt.shaped d2 = true) : Et X Γ (.Compare a [.Eq] [b] pos) (PyData.eqv d1 d2) Γ2 :=
  et_cmpR (op_eqD hr.units) ha hb (rd_eqD h1 h2) (nomark _)
theorem et_neD {k : Nat} (hr : Room k X.A) (ha : Ee X Γ a d1 Γ1) (hb : Ee X Γ1 b d2 Γ2) (h1 : SeqAt.shaped d1 = true) (h2 : SeqAt.shaped d2 = true) : Et X Γ (.Compare a [.NotEq] [b] pos) (!PyData.eqv d1 d2) Γ2 :=
  et_cmpR (op_neD hr.units) ha hb (rd_neD h1 h2) (nomark _)
/-- x in c, x not in c, c a list or a tuple of data -/
def rInS (K : PySem.W.Frag) (neg : Bool) : R2 := fun x y H Q => ∃ d ds, Dp K H x d ∧ (Dp K H y (.list ds) ∨ Dp K H y (.tuple ds)) ∧ SeqAt.shaped d = true ∧ SeqAt.shaped (.list ds) = true ∧
  Q (.bl (if neg then !ds.any fun z => PyData.eqv z d else ds.any fun z => PyData.eqv z d)) H
theorem op_inS (hu : X.A.units + 65 < cLine) : OpR X (compareOp .In) (rInS X.K false) := by
  intro pins s σ H x y v u Q I rx ry h
  obtain ⟨d, ds, hd, he, sd, se, q⟩ := h
  obtain ⟨as, r1⟩ := Dp.reads I d x v hd rx
  rcases he with he | he
  · obtain ⟨bs, r2⟩ := Dp.reads I (.list ds) y u he ry
    exact SeqAt.in_list_reads r2 r1 (SeqAt.canLay_of_shaped se) (SeqAt.canLay_of_shaped sd) (room_in_shaped sd hu) ⟨.bl _, H, I, rfl, q⟩
  · obtain ⟨bs, r2⟩ := Dp.reads I (.tuple ds) y u he ry
    exact SeqAt.in_tuple_reads r2 r1 (SeqAt.canLay_of_shaped se) (SeqAt.canLay_of_shaped sd) (room_in_shaped sd hu) ⟨.bl _, H, I, rfl, q⟩
theorem op_notInS (hu : X.A.units + 65 < cLine) : OpR X (compareOp .NotIn) (rInS X.K true) := by
  intro pins s σ H x y v u Q I rx ry h
  obtain ⟨d, ds, hd, he, sd, se, q⟩ := h
  obtain ⟨as, r1⟩ := Dp.reads I d x v hd rx
  rcases he with he | he
  · obtain ⟨bs, r2⟩ := Dp.reads I (.list ds) y u he ry
    exact SeqAt.notIn_list_reads r2 r1 (SeqAt.canLay_of_shaped se) (SeqAt.canLay_of_shaped sd) (room_in_shaped sd hu) ⟨.bl _, H, I, rfl, q⟩
  · obtain ⟨bs, r2⟩ := Dp.reads I (.tuple ds) y u he ry
    exact SeqAt.notIn_tuple_reads r2 r1 (SeqAt.canLay_of_shaped se) (SeqAt.canLay_of_shaped sd) (room_in_shaped sd hu) ⟨.bl _, H, I, rfl, q⟩
/-- the items of a list or a tuple -/
def itemsOf : PyData → Option (List PyData)
  | .list ds => some ds
  | .tuple ds => some ds
  | _ => none
theorem rd_inS {K : PySem.W.Frag} {neg : Bool} (hi : itemsOf d2 = some ds) (h1 : SeqAt.shaped d1 = true) (h2 : SeqAt.shaped (.list ds) = true) :
    RD K (rInS K neg) d1 d2 (.bool (if neg then !ds.any fun z => PyData.eqv z d1 else ds.any fun z => PyData.eqv z d1)) := rd_here fun F H x y Q e hx hy =>
  ⟨.bl _, .bl _, fun q => ⟨d1, ds, dp_of e h1 hx, by
    cases d2 <;> simp [itemsOf] at hi
    · subst hi; exact .inl (dp_of e h2 hy)
    · subst hi; exact .inr (dp_of (d := .tuple _) e h2 hy), h1, h2, q⟩⟩
theorem units65 {k : Nat} (hr : Room k X.A) : X.A.units + 65 < cLine := by have := hr.un; omega
end
end DL
end

section
namespace DL
open PySem PySem.Spec PyProof.Rows L2

section
variable {X : Cx} {Γ Γ1 Γ2 Γ3 : Gm} {a b c e : Expr} {es rest : List Expr} {d d1 d2 d3 : PyData} {ds : List PyData} {pos : Pos} {p q : Bool} {i j k : Int}

/-! ### guards -/
theorem pe_guard {φ : Prop} {t : TE} (h : φ → PE X e t) : PE X e (fun σ H Q => φ ∧ t σ H Q) := ⟨fun pins s σ H Q I hw => (h hw.1).run pins s σ H Q I hw.2⟩
theorem pw_guard {φ : Prop} {t : TT} (h : φ → PW X e t) : PW X e (fun σ H Q => φ ∧ t σ H Q) := ⟨fun w pins s σ H Q I hw => (h hw.1).run w pins s σ H Q I hw.2⟩
theorem pss_guard {φ : Prop} {st : List Stmt} {t : TS} (h : φ → PSs X st t) : PSs X st (fun D σ H => φ ∧ t D σ H) := ⟨fun pins s σ H D I hw => (h hw.1).run pins s σ H D I hw.2⟩

/-! ### and, or, not; tests -/
theorem ee_one {op} (h : Ee X Γ a d Γ1) : Ee X Γ (.BoolOp op [a] pos) d Γ1 := pe_one h
theorem ee_and (ha : Ee X Γ a (.bool p) Γ1) (hb : p = true → Ee X Γ1 (.BoolOp .And (b :: rest) pos) (.bool q) Γ1) : Ee X Γ (.BoolOp .And (a :: b :: rest) pos) (.bool (p && q)) Γ1 :=
  pe_imp (pe_and ha (pe_guard hb)) fun σ H Q ⟨F, ev, x, k⟩ => ⟨F, ev, x, fun v F1 H1 g1 e1 dv => by
    cases dv
    cases p with
    | true => exact ⟨true, rfl, iteT ⟨rfl, F1, e1, g1.fh, fun w F2 H2 g2 e2 dw => k w F2 H2 (g1.trans g2) e2 dw⟩⟩
    | false => exact ⟨false, rfl, iteF (k _ F1 H1 g1 e1 (.bl false))⟩⟩
theorem ee_or (ha : Ee X Γ a (.bool p) Γ1) (hb : p = false → Ee X Γ1 (.BoolOp .Or (b :: rest) pos) (.bool q) Γ1) : Ee X Γ (.BoolOp .Or (a :: b :: rest) pos) (.bool (p || q)) Γ1 :=
  pe_imp (pe_or ha (pe_guard hb)) fun σ H Q ⟨F, ev, x, k⟩ => ⟨F, ev, x, fun v F1 H1 g1 e1 dv => by
    cases dv
    cases p with
    | true => exact ⟨true, rfl, iteT (k _ F1 H1 g1 e1 (.bl true))⟩
    | false => exact ⟨false, rfl, iteF ⟨rfl, F1, e1, g1.fh, fun w F2 H2 g2 e2 dw => k w F2 H2 (g1.trans g2) e2 dw⟩⟩⟩
theorem ee_not (ha : Ee X Γ a (.bool p) Γ1) : Ee X Γ (.UnaryOp .Not a pos) (.bool (!p)) Γ1 :=
  pe_imp (pe_not ha) fun σ H Q ⟨F, ev, x, k⟩ => ⟨F, ev, x, fun v F1 H1 g1 e1 dv => by
    cases dv
    exact ⟨p, rfl, k _ F1 H1 g1 e1 (.bl _)⟩⟩
theorem et_val (h : Ee X Γ e (.bool p) Γ1) (he : ∀ whole, isTrue e X.env whole = (do let v ← whole; standAt e.pos; holding [v] (truthy v)) := by intro _; rfl) : Et X Γ e p Γ1 :=
  pt_imp (pt_val h he) fun σ H Q ⟨F, ev, x, k⟩ => ⟨F, ev, x, fun v F1 H1 g1 e1 dv => by
    cases dv
    exact ⟨p, rfl, k F1 H1 g1 e1⟩⟩
/-- the truth of data -/
def tru : PyData → Bool
  | .none => false
  | .bool b => b
  | .int i => i != 0
  | .str x => (x.length : Int) != 0
  | .list xs => !xs.isEmpty
  | .tuple xs => !xs.isEmpty
  | .dict xs => !xs.isEmpty
theorem isEmpty_of {K : PySem.W.Frag} {F : Hp} {xs : List V} {ds : List PyData} (h : DdA K F xs ds) : xs.isEmpty = ds.isEmpty := by
  cases ds with
  | nil => cases h; rfl
  | cons d ds => cases h; rfl
theorem tru_of {K : PySem.W.Frag} {F H : Hp} {v : V} (e : Ext F H) (hd : SeqAt.shaped d = true) (hs : ∀ x, d ≠ .str x) (h : Dd K F v d) : TruV K v H (tru d) := by
  cases h with
  | non => rfl
  | bl b => rfl
  | int i => rfl
  | str x => exact absurd rfl (hs x)
  | lst h1 h2 => exact .inl ⟨_, SqL.of (e _ _ h1), by rw [isEmpty_of h2]; rfl⟩
  | tup h1 h0 h2 => exact .inr (.inl ⟨_, .inl (.inr ⟨_, e _ _ h1⟩), by rw [isEmpty_of h2]; rfl⟩)
  | scr h1 => simp [SeqAt.shaped, PyData.canLay0] at hd
  | dct h1 => simp [SeqAt.shaped, PyData.canLay0] at hd
  | map h1 h2 => simp [SeqAt.shaped, PyData.canLay0] at hd
  | dkd h1 h2 => simp [SeqAt.shaped, PyData.canLay0] at hd
theorem et_tru (h : Ee X Γ e d Γ1) (hd : SeqAt.shaped d = true) (hs : ∀ x, d ≠ .str x) (he : ∀ whole, isTrue e X.env whole = (do let v ← whole; standAt e.pos; holding [v] (truthy v)) := by intro _; rfl) : Et X Γ e (tru d) Γ1 :=
  pt_imp (pt_truth h he) fun σ H Q ⟨F, ev, x, k⟩ => ⟨F, ev, x, fun v F1 H1 g1 e1 dv => ⟨tru d, tru_of g1.fh hd hs dv, k F1 H1 g1 e1⟩⟩
theorem ee_notT (ha : Ee X Γ a d Γ1) (hd : SeqAt.shaped d = true) (hs : ∀ x, d ≠ .str x) : Ee X Γ (.UnaryOp .Not a pos) (.bool (!tru d)) Γ1 :=
  pe_imp (pe_notT ha) fun σ H Q ⟨F, ev, x, k⟩ => ⟨F, ev, x, fun v F1 H1 g1 e1 dv => ⟨tru d, tru_of g1.fh hd hs dv, k _ F1 H1 g1 e1 (.bl _)⟩⟩
theorem et_not (h : Et X Γ a p Γ1) : Et X Γ (.UnaryOp .Not a pos) (!p) Γ1 := pt_imp (pt_not h) fun σ H Q ⟨F, ev, x, k⟩ => ⟨F, ev, x, fun F1 H1 g1 e1 => k F1 H1 g1 e1⟩
theorem et_w (h : Ew X Γ a p Γ1) : Et X Γ a p Γ1 := PW.pt h
theorem ew_and1 (h : Et X Γ a p Γ1) : Ew X Γ (.BoolOp .And [a] pos) p Γ1 := pw_and1 h
theorem ew_or1 (h : Et X Γ a p Γ1) : Ew X Γ (.BoolOp .Or [a] pos) p Γ1 := pw_or1 h
theorem ew_and (ha : Et X Γ a p Γ1) (hb : p = true → Ew X Γ1 (.BoolOp .And (b :: rest) pos) q Γ1) : Ew X Γ (.BoolOp .And (a :: b :: rest) pos) (p && q) Γ1 :=
  pw_imp (pw_and ha (pw_guard hb)) fun σ H Q ⟨F, ev, x, k⟩ => ⟨F, ev, x, fun F1 H1 g1 e1 => by
    cases p with
    | true => exact iteT ⟨rfl, F1, e1, g1.fh, fun F2 H2 g2 e2 => k F2 H2 (g1.trans g2) e2⟩
    | false => exact iteF (k F1 H1 g1 e1)⟩
theorem ew_or (ha : Et X Γ a p Γ1) (hb : p = false → Ew X Γ1 (.BoolOp .Or (b :: rest) pos) q Γ1) : Ew X Γ (.BoolOp .Or (a :: b :: rest) pos) (p || q) Γ1 :=
  pw_imp (pw_or ha (pw_guard hb)) fun σ H Q ⟨F, ev, x, k⟩ => ⟨F, ev, x, fun F1 H1 g1 e1 => by
    cases p with
    | true => exact iteT (k F1 H1 g1 e1)
    | false => exact iteF ⟨rfl, F1, e1, g1.fh, fun F2 H2 g2 e2 => k F2 H2 (g1.trans g2) e2⟩⟩
theorem et_is (h : Et X Γ e p Γ1) (hp : p = q) : Et X Γ e q Γ1 := hp ▸ h
theorem ee_is (h : Ee X Γ e d Γ1) (hp : d = d2) : Ee X Γ e d2 Γ1 := hp ▸ h
theorem en_is {ds' : List PyData} (h : En X Γ e ds Γ1) (hp : ds = ds') : En X Γ e ds' Γ1 := hp ▸ h
theorem pt_guard {φ : Prop} {t : TT} (h : φ → PT X e t) : PT X e (fun σ H Q => φ ∧ t σ H Q) := ⟨fun pins s σ H Q I hw => (h hw.1).run pins s σ H Q I hw.2⟩
theorem ee_ifexp {pos : Pos} (hc : Et X Γ c p Γ1) (ha : p = true → Ee X Γ1 a d Γ2) (hb : p = false → Ee X Γ1 b d Γ2) : Ee X Γ (.IfExp c a b pos) d Γ2 :=
  pe_imp (pe_ifExp hc (pe_guard ha) (pe_guard hb)) fun σ H Q ⟨F, ev, x, k⟩ => ⟨F, ev, x, fun F1 H1 g1 e1 => by
    cases p with
    | true => exact iteT ⟨rfl, F1, e1, g1.fh, fun v F2 H2 g2 e2 dv => k v F2 H2 (g1.trans g2) e2 dv⟩
    | false => exact iteF ⟨rfl, F1, e1, g1.fh, fun v F2 H2 g2 e2 dv => k v F2 H2 (g1.trans g2) e2 dv⟩⟩

/-! ### chains -/
theorem ee_chainR {op op' : CmpOp} {r r' : R2} (ho : OpR X (compareOp op) r) (ho' : OpR X (compareOp op') r') (ha : Ee X Γ a d1 Γ1) (hb : Ee X Γ1 b d2 Γ2) (hr : RD X.K r d1 d2 (.bool p)) (hc : p = true → Ee X Γ2 c d3 Γ2) (hr' : p = true → RD X.K r' d2 d3 (.bool q))
    (hm : lastMarks [op, op'] [b, c] = false := by with_unfolding_all rfl) : Ee X Γ (.Compare a [op, op'] [b, c] pos) (.bool (p && q)) Γ2 :=
  pe_imp (pe_chain ho ho' ha hb (pe_guard hc) hm) fun σ H Q ⟨F, ev, x, k⟩ => ⟨F, ev, x, fun v F1 H1 g1 e1 dv => ⟨F1, e1, g1.fh, fun w F2 H2 g2 e2 dw =>
    hr F2 H2 v w _ g2.fh (dv.up g2.ff) dw fun z F3 H3 i1 i2 i3 i4 dz => by
      cases dz
      have g3 := (g1.trans g2).trans (Gr.ext i1 i2 i3 i4)
      have e3 := e2.keep i1 i3 i4
      cases p with
      | false => exact ⟨false, rfl, iteF (k _ F3 H3 g3 e3 (.bl false))⟩
      | true => exact ⟨true, rfl, iteT ⟨rfl, F3, e3, i2, fun y F4 H4 g4 e4 dy =>
          hr' rfl F4 H4 w y Q g4.fh ((dw.up i1).up g4.ff) dy fun z F5 H5 j1 j2 j3 j4 dz => k z F5 H5 ((g3.trans g4).trans (Gr.ext j1 j2 j3 j4)) (e4.keep j1 j3 j4) dz⟩⟩⟩⟩
theorem et_chainR {op op' : CmpOp} {r r' : R2} (ho : OpR X (compareOp op) r) (ho' : OpR X (compareOp op') r') (ha : Ee X Γ a d1 Γ1) (hb : Ee X Γ1 b d2 Γ2) (hr : RD X.K r d1 d2 (.bool p)) (hc : p = true → Ee X Γ2 c d3 Γ2) (hr' : p = true → RD X.K r' d2 d3 (.bool q))
    (hm : lastMarks [op, op'] [b, c] = false := by with_unfolding_all rfl) : Et X Γ (.Compare a [op, op'] [b, c] pos) (p && q) Γ2 :=
  pt_imp (pt_chain ho ho' ha hb (pe_guard hc) hm) fun σ H Q ⟨F, ev, x, k⟩ => ⟨F, ev, x, fun v F1 H1 g1 e1 dv => ⟨F1, e1, g1.fh, fun w F2 H2 g2 e2 dw =>
    hr F2 H2 v w _ g2.fh (dv.up g2.ff) dw fun z F3 H3 i1 i2 i3 i4 dz => by
      cases dz
      have g3 := (g1.trans g2).trans (Gr.ext i1 i2 i3 i4)
      have e3 := e2.keep i1 i3 i4
      cases p with
      | false => exact ⟨false, rfl, iteF ⟨false, rfl, k F3 H3 g3 e3⟩⟩
      | true => exact ⟨true, rfl, iteT ⟨rfl, F3, e3, i2, fun y F4 H4 g4 e4 dy =>
          hr' rfl F4 H4 w y _ g4.fh ((dw.up i1).up g4.ff) dy fun z F5 H5 j1 j2 j3 j4 dz => by
            cases dz
            exact ⟨q, rfl, k F5 H5 ((g3.trans g4).trans (Gr.ext j1 j2 j3 j4)) (e4.keep j1 j3 j4)⟩⟩⟩⟩⟩
theorem ee_lele (ha : Ee X Γ a (.int i) Γ1) (hb : Ee X Γ1 b (.int j) Γ2) (hc : Ee X Γ2 c (.int k) Γ2) (hm : lastMarks [CmpOp.LtE, CmpOp.LtE] [b, c] = false := by with_unfolding_all rfl) :
    Ee X Γ (.Compare a [.LtE, .LtE] [b, c] pos) (.bool (decide (i ≤ j) && decide (j ≤ k))) Γ2 := ee_chainR op_le op_le ha hb (rd_I0 fun _ => .bl _) (fun _ => hc) (fun _ => rd_I0 fun _ => .bl _) hm
theorem et_lele (ha : Ee X Γ a (.int i) Γ1) (hb : Ee X Γ1 b (.int j) Γ2) (hc : Ee X Γ2 c (.int k) Γ2) (hm : lastMarks [CmpOp.LtE, CmpOp.LtE] [b, c] = false := by with_unfolding_all rfl) :
    Et X Γ (.Compare a [.LtE, .LtE] [b, c] pos) (decide (i ≤ j) && decide (j ≤ k)) Γ2 := et_chainR op_le op_le ha hb (rd_I0 fun _ => .bl _) (fun _ => hc) (fun _ => rd_I0 fun _ => .bl _) hm

/-! ### in, is -/
theorem ee_in {kk : Nat} (hr : Room kk X.A) (ha : Ee X Γ a d1 Γ1) (hb : Ee X Γ1 b d2 Γ2) (hi : itemsOf d2 = some ds) (h1 : SeqAt.shaped d1 = true) (h2 : SeqAt.shaped (.list ds) = true) (hm : behindInMarks .In b = false := by rfl) :
    Ee X Γ (.Compare a [.In] [b] pos) (.bool (ds.any fun z => PyData.eqv z d1)) Γ2 := ee_cmpR (op_inS (units65 hr)) ha hb (rd_inS hi h1 h2) hm
theorem ee_notIn {kk : Nat} (hr : Room kk X.A) (ha : Ee X Γ a d1 Γ1) (hb : Ee X Γ1 b d2 Γ2) (hi : itemsOf d2 = some ds) (h1 : SeqAt.shaped d1 = true) (h2 : SeqAt.shaped (.list ds) = true) (hm : behindInMarks .NotIn b = false := by rfl) :
    Ee X Γ (.Compare a [.NotIn] [b] pos) (.bool (!ds.any fun z => PyData.eqv z d1)) Γ2 := ee_cmpR (op_notInS (units65 hr)) ha hb (rd_inS hi h1 h2) hm
theorem et_in {kk : Nat} (hr : Room kk X.A) (ha : Ee X Γ a d1 Γ1) (hb : Ee X Γ1 b d2 Γ2) (hi : itemsOf d2 = some ds) (h1 : SeqAt.shaped d1 = true) (h2 : SeqAt.shaped (.list ds) = true) (hm : behindInMarks .In b = false := by rfl) :
    Et X Γ (.Compare a [.In] [b] pos) (ds.any fun z => PyData.eqv z d1) Γ2 := et_cmpR (op_inS (units65 hr)) ha hb (rd_inS hi h1 h2) hm
theorem et_notIn {kk : Nat} (hr : Room kk X.A) (ha : Ee X Γ a d1 Γ1) (hb : Ee X Γ1 b d2 Γ2) (hi : itemsOf d2 = some ds) (h1 : SeqAt.shaped d1 = true) (h2 : SeqAt.shaped (.list ds) = true) (hm : behindInMarks .NotIn b = false := by rfl) :
    Et X Γ (.Compare a [.NotIn] [b] pos) (!ds.any fun z => PyData.eqv z d1) Γ2 := et_cmpR (op_notInS (units65 hr)) ha hb (rd_inS hi h1 h2) hm
def isNo : PyData → Bool
  | .none => true
  | _ => false
theorem rd_isN {K : PySem.W.Frag} (hd : p = isNo d) : RD K (fun x y H Q => y = .non ∧ Q (.bl (decide (x = .non))) H) d .none (.bool p) := rd_here fun F H x y Q e hx hy => by
  cases hy
  refine ⟨.bl p, .bl p, fun k => ⟨rfl, ?_⟩⟩
  have : decide (x = V.non) = p := by rw [hd]; cases hx <;> simp [isNo]
  rw [this]; exact k
theorem rd_notN {K : PySem.W.Frag} (hd : p = !isNo d) : RD K (fun x y H Q => y = .non ∧ Q (.bl (!decide (x = .non))) H) d .none (.bool p) := rd_here fun F H x y Q e hx hy => by
  cases hy
  refine ⟨.bl p, .bl p, fun k => ⟨rfl, ?_⟩⟩
  have : (!decide (x = V.non)) = p := by rw [hd]; cases hx <;> simp [isNo]
  rw [this]; exact k
theorem et_isN (ha : Ee X Γ a d Γ1) (hb : Ee X Γ1 b .none Γ2) : Et X Γ (.Compare a [.Is] [b] pos) (isNo d) Γ2 := et_cmpR op_isN ha hb (rd_isN rfl) (nomark _)
theorem et_notN (ha : Ee X Γ a d Γ1) (hb : Ee X Γ1 b .none Γ2) : Et X Γ (.Compare a [.IsNot] [b] pos) (!isNo d) Γ2 := et_cmpR op_notN ha hb (rd_notN rfl) (nomark _)
theorem ee_isN (ha : Ee X Γ a d Γ1) (hb : Ee X Γ1 b .none Γ2) : Ee X Γ (.Compare a [.Is] [b] pos) (.bool (isNo d)) Γ2 := ee_cmpR op_isN ha hb (rd_isN rfl) (nomark _)
theorem ee_notN (ha : Ee X Γ a d Γ1) (hb : Ee X Γ1 b .none Γ2) : Ee X Γ (.Compare a [.IsNot] [b] pos) (.bool (!isNo d)) Γ2 := ee_cmpR op_notN ha hb (rd_notN rfl) (nomark _)
theorem rd_isB {K : PySem.W.Frag} : RD K rIsB (.bool p) (.bool q) (.bool (decide (p = q))) := rd_here fun F H x y Q e hx hy => by
  cases hx; cases hy
  exact ⟨_, .bl _, fun k => ⟨p, q, rfl, rfl, k⟩⟩
theorem ee_isB (ha : Ee X Γ a (.bool p) Γ1) (hb : Ee X Γ1 b (.bool q) Γ2) : Ee X Γ (.Compare a [.Is] [b] pos) (.bool (decide (p = q))) Γ2 := ee_cmpR op_isBl ha hb rd_isB (nomark _)
theorem rd_notB {K : PySem.W.Frag} : RD K rNotB (.bool p) (.bool q) (.bool (!decide (p = q))) := rd_here fun F H x y Q e hx hy => by
  cases hx; cases hy
  exact ⟨_, .bl _, fun k => ⟨p, q, rfl, rfl, k⟩⟩
theorem ee_notB (ha : Ee X Γ a (.bool p) Γ1) (hb : Ee X Γ1 b (.bool q) Γ2) : Ee X Γ (.Compare a [.IsNot] [b] pos) (.bool (!decide (p = q))) Γ2 := ee_cmpR op_notBl ha hb rd_notB (nomark _)
theorem et_isB (ha : Ee X Γ a (.bool p) Γ1) (hb : Ee X Γ1 b (.bool q) Γ2) : Et X Γ (.Compare a [.Is] [b] pos) (decide (p = q)) Γ2 := et_cmpR op_isBl ha hb rd_isB (nomark _)
theorem et_notB (ha : Ee X Γ a (.bool p) Γ1) (hb : Ee X Γ1 b (.bool q) Γ2) : Et X Γ (.Compare a [.IsNot] [b] pos) (!decide (p = q)) Γ2 := et_cmpR op_notBl ha hb rd_notB (nomark _)

/-! ### items -/
theorem atI_get {K : PySem.W.Frag} {F : Hp} {xs : List V} (h : DdA K F xs ds) (hi : atI ds i = some d) : ∃ v, atI xs i = some v ∧ Dd K F v d := by
  unfold atI at hi ⊢
  rw [h.len]
  cases e : ixN ds.length i with
  | none => rw [e] at hi; cases hi
  | some j =>
    rw [e] at hi
    exact h.get (i := j) hi
theorem ee_ixT (ha : Ee X Γ a (.tuple ds) Γ1) (hb : Ee X Γ1 b (.int i) Γ2) (hi : atI ds i = some d) (hs : PlainIx b := by exact fun _ _ => rfl) : Ee X Γ (.Subscript a b pos) d Γ2 :=
  pe_imp (pe_ix ix_tup ha hb hs) fun σ H Q ⟨F, ev, x, k⟩ => ⟨F, ev, x, fun v F1 H1 g1 e1 dv => ⟨F1, e1, g1.fh, fun w F2 H2 g2 e2 dw => by
    cases dw
    obtain ⟨p, ob, xs, rfl, _, _, hT, hA⟩ := (dv.up g2.ff).tupAt g2.fh
    obtain ⟨u, hu, du⟩ := atI_get hA hi
    exact ⟨p, xs, i, u, rfl, rfl, hT, hu, k u F2 H2 (g1.trans g2) e2 du⟩⟩⟩
theorem ee_ixL (ha : Ee X Γ a (.list ds) Γ1) (hb : Ee X Γ1 b (.int i) Γ2) (hi : atI ds i = some d) (hs : PlainIx b := by exact fun _ _ => rfl) : Ee X Γ (.Subscript a b pos) d Γ2 :=
  pe_imp (pe_ix ix_list ha hb hs) fun σ H Q ⟨F, ev, x, k⟩ => ⟨F, ev, x, fun v F1 H1 g1 e1 dv => ⟨F1, e1, g1.fh, fun w F2 H2 g2 e2 dw => by
    cases dw
    obtain ⟨p, xs, rfl, _, hT, hA⟩ := (dv.up g2.ff).lstAt g2.fh
    obtain ⟨u, hu, du⟩ := atI_get hA hi
    exact ⟨p, xs, i, u, rfl, rfl, hT, hu, k u F2 H2 (g1.trans g2) e2 du⟩⟩⟩
/-- an item of the script -/
theorem ee_ixS {ns : List Int} {n : Int} (ha : Ee X Γ a (scrD ns) Γ1) (hb : Ee X Γ1 b (.int i) Γ2) (hi : atI ns i = some n) (hs : PlainIx b := by exact fun _ _ => rfl) : Ee X Γ (.Subscript a b pos) (.int n) Γ2 :=
  pe_imp (pe_ix ix_list ha hb hs) fun σ H Q ⟨F, ev, x, k⟩ => ⟨F, ev, x, fun v F1 H1 g1 e1 dv => ⟨F1, e1, g1.fh, fun w F2 H2 g2 e2 dw => by
    cases dw
    have key : ∀ (m : PyData) (v : V), m = scrD ns → Dd X.K F2 v m → ∃ p, v = .ref p ∧ SqL X.K F2 p (ns.map V.int) := fun m v em hm => by
      cases hm with
      | dct h1 => cases ns with
        | nil => cases em
        | cons n r => simp [scrD] at em
      | map h1 h2 => cases ns with
        | nil => cases em
        | cons n r => simp [scrD] at em
      | dkd h1 h2 => cases ns with
        | nil => cases em
        | cons n r => simp [scrD] at em
      | scr h1 =>
        rename_i a' ns'
        have e' : ns' = ns := by
          have := PyData.dict.inj em
          have h2 := congrArg (List.map fun p : PyData × PyData => match p.1 with | .int i => i | _ => 0) this
          simpa [List.map_map, Function.comp_def] using h2
        subst e'
        exact ⟨_, rfl, h1⟩
      | _ => cases em
    obtain ⟨p, rfl, hS⟩ := key _ _ rfl (dv.up g2.ff)
    refine ⟨p, ns.map V.int, i, .int n, rfl, rfl, ext_l g2.fh hS, ?_, k _ F2 H2 (g1.trans g2) e2 (.int n)⟩
    unfold atI at hi ⊢
    rw [List.length_map]
    cases q : ixN ns.length i with
    | none => rw [q] at hi; cases hi
    | some j =>
      rw [q] at hi
      show (ns.map V.int)[j]? = some (.int n)
      rw [List.getElem?_map, show ns[j]? = some n from hi]
      rfl⟩⟩
end
end DL
end

section
namespace DL
open PySem PySem.Spec PyProof.Rows L2

section
variable {X : Cx} {Γ Γ1 Γ2 Γ3 : Gm} {a b c e : Expr} {es rest : List Expr} {d d1 d2 d3 : PyData} {ds es' : List PyData} {pos : Pos} {p q : Bool} {i j k : Int}

/-! ### calls of built-ins -/
def CD (K : PySem.W.Frag) (r : List V → Hp → VK → Prop) (ds : List PyData) (d : PyData) : Prop := ∀ (F H : Hp) (vs : List V) (Q : VK), Ext F H → DdA K F vs ds →
  (∀ v F' H', Ext F F' → Ext F' H' → Ext H H' → (∀ a, F' a ≠ none → F a ≠ none ∨ H a = none) → Dd K F' v d → Q v H') → r vs H Q
/-- a new list -/
def CN (K : PySem.W.Frag) (r : List V → Hp → VK → Prop) (ds es : List PyData) : Prop := ∀ (F H : Hp) (vs : List V) (Q : VK), Ext F H → DdA K F vs ds →
  ∃ xs, DdA K F xs es ∧ ((∀ p, H p = none → Q (.ref p) (upd H p (.lst xs))) → r vs H Q)
/-- a new tuple -/
def CT (K : PySem.W.Frag) (r : List V → Hp → VK → Prop) (ds es : List PyData) : Prop := ∀ (F H : Hp) (vs : List V) (Q : VK), Ext F H → DdA K F vs ds →
  ∃ xs, DdA K F xs es ∧ (TupNew H xs Q → r vs H Q)
variable {r : List V → Hp → VK → Prop} {x : Str} {pp : Pos}
theorem tCB_D {ta : TA} {σ : L2.St} {H : Hp} {Q : VK} (hr : CD X.K r ds d) (h : tE X.K Γ d Γ1 σ H Q) : tAs X.K Γ ds Γ1 σ H (fun vs H1 => r vs H1 Q) := by
  obtain ⟨F, ev, x, k⟩ := h
  exact ⟨F, ev, x, fun vs F1 H1 g1 e1 dv => hr F1 H1 vs Q g1.fh dv fun z F3 H3 i1 i2 i3 i4 dz => k z F3 H3 (g1.trans (Gr.ext i1 i2 i3 i4)) (e1.keep i1 i3 i4) dz⟩
theorem tCB_N {σ : L2.St} {H : Hp} {Q : VK} (hr : CN X.K r ds es') (h : tN X.K Γ es' Γ1 σ H Q) : tAs X.K Γ ds Γ1 σ H (fun vs H1 => r vs H1 Q) := by
  obtain ⟨F, ev, x, k⟩ := h
  refine ⟨F, ev, x, fun vs F1 H1 g1 e1 dv => ?_⟩
  obtain ⟨xs, dx, kk⟩ := hr F1 H1 vs Q g1.fh dv
  exact kk (tN_new g1 e1 dx k)
theorem tCB_T {σ : L2.St} {H : Hp} {Q : VK} (hr : CT X.K r ds es') (h : tE X.K Γ (.tuple es') Γ1 σ H Q) : tAs X.K Γ ds Γ1 σ H (fun vs H1 => r vs H1 Q) := by
  obtain ⟨F, ev, x, k⟩ := h
  refine ⟨F, ev, x, fun vs F1 H1 g1 e1 dv => ?_⟩
  obtain ⟨xs, dx, kk⟩ := hr F1 H1 vs Q g1.fh dv
  exact kk (tupNew_of g1 e1 dx k)
theorem ee_cb {id : String} (hc : CallR X (.builtin id) r) (hm : X.mg x = none) (hv : bootBuiltins x = some (.builtin id)) (ha : Ea X Γ (e :: es) ds Γ1) (hr : CD X.K r ds d) (hg : Gl X x := by rfl) (hn : x ≠ "__name__" := by decide) (hdb : (x == ("__debug__" : Str)) = false := by decide)
    (he : starEach (e :: es) X.env = (false, eval e X.env) :: starEach es X.env := by rfl) (hpl : (backTo pos (starEach es X.env)).any (·.1) = false := by rfl) : Ee X Γ (.Call (.Name x pp) (e :: es) [] pos) d Γ1 :=
  pe_imp (pe_callB hc hg hm hv ha hn hdb he hpl) fun σ H Q h => tCB_D (ta := tNil) hr h
theorem en_cb {id : String} (hc : CallR X (.builtin id) r) (hm : X.mg x = none) (hv : bootBuiltins x = some (.builtin id)) (ha : Ea X Γ (e :: es) ds Γ1) (hr : CN X.K r ds es') (hg : Gl X x := by rfl) (hn : x ≠ "__name__" := by decide) (hdb : (x == ("__debug__" : Str)) = false := by decide)
    (he : starEach (e :: es) X.env = (false, eval e X.env) :: starEach es X.env := by rfl) (hpl : (backTo pos (starEach es X.env)).any (·.1) = false := by rfl) : En X Γ (.Call (.Name x pp) (e :: es) [] pos) es' Γ1 :=
  pe_imp (pe_callB hc hg hm hv ha hn hdb he hpl) fun σ H Q h => tCB_N hr h
theorem ee_cty {T : String} (hc : CallR X (.type T) r) (hm : X.mg x = none) (hv : bootBuiltins x = some (.type T)) (ha : Ea X Γ (e :: es) ds Γ1) (hr : CD X.K r ds d) (hg : Gl X x := by rfl) (hn : x ≠ "__name__" := by decide) (hdb : (x == ("__debug__" : Str)) = false := by decide)
    (he : starEach (e :: es) X.env = (false, eval e X.env) :: starEach es X.env := by rfl) (hpl : (backTo pos (starEach es X.env)).any (·.1) = false := by rfl) : Ee X Γ (.Call (.Name x pp) (e :: es) [] pos) d Γ1 :=
  pe_imp (pe_callTy hc hg hm hv ha hn hdb he hpl) fun σ H Q h => tCB_D (ta := tNil) hr h
theorem en_cty {T : String} (hc : CallR X (.type T) r) (hm : X.mg x = none) (hv : bootBuiltins x = some (.type T)) (ha : Ea X Γ (e :: es) ds Γ1) (hr : CN X.K r ds es') (hg : Gl X x := by rfl) (hn : x ≠ "__name__" := by decide) (hdb : (x == ("__debug__" : Str)) = false := by decide)
    (he : starEach (e :: es) X.env = (false, eval e X.env) :: starEach es X.env := by rfl) (hpl : (backTo pos (starEach es X.env)).any (·.1) = false := by rfl) : En X Γ (.Call (.Name x pp) (e :: es) [] pos) es' Γ1 :=
  pe_imp (pe_callTy hc hg hm hv ha hn hdb he hpl) fun σ H Q h => tCB_N hr h
theorem et_cty {T : String} (hc : CallR X (.type T) r) (hm : X.mg x = none) (hv : bootBuiltins x = some (.type T)) (ha : Ea X Γ (e :: es) ds Γ1) (hr : CT X.K r ds es') (hg : Gl X x := by rfl) (hn : x ≠ "__name__" := by decide) (hdb : (x == ("__debug__" : Str)) = false := by decide)
    (he : starEach (e :: es) X.env = (false, eval e X.env) :: starEach es X.env := by rfl) (hpl : (backTo pos (starEach es X.env)).any (·.1) = false := by rfl) : Ee X Γ (.Call (.Name x pp) (e :: es) [] pos) (.tuple es') Γ1 :=
  pe_imp (pe_callTy hc hg hm hv ha hn hdb he hpl) fun σ H Q h => tCB_T hr h
theorem cd_here {K : PySem.W.Frag} (h : ∀ (F H : Hp) (vs : List V) (Q : VK), Ext F H → DdA K F vs ds → ∃ v, Dd K F v d ∧ (Q v H → r vs H Q)) : CD K r ds d := fun F H vs Q e hx q => by
  obtain ⟨v, hv, k⟩ := h F H vs Q e hx
  exact k (q v F H (Ext.refl F) e (Ext.refl H) (fun a h => .inl h) hv)
theorem one_of {K : PySem.W.Frag} {F : Hp} {vs : List V} (h : DdA K F vs [d]) : ∃ v, vs = [v] ∧ Dd K F v d := by
  cases h with
  | cons h1 h2 => cases h2; exact ⟨_, rfl, h1⟩
theorem two_of {K : PySem.W.Frag} {F : Hp} {vs : List V} (h : DdA K F vs [d1, d2]) : ∃ v w, vs = [v, w] ∧ Dd K F v d1 ∧ Dd K F w d2 := by
  cases h with
  | cons h1 h2 =>
    cases h2 with
    | cons h3 h4 => cases h4; exact ⟨_, _, rfl, h1, h3⟩

/-! len, int, min, max, list, tuple -/
theorem cd_len (hi : itemsOf d = some ds) : CD X.K (fun xs H Q => ∃ p ys, xs = [.ref p] ∧ (SqL X.K H p ys ∨ SqT X.K H p ys) ∧ Q (.int ys.length) H) [d] (.int ds.length) := cd_here fun F H vs Q e hx => by
  obtain ⟨v, rfl, hv⟩ := one_of hx
  refine ⟨_, .int _, fun k => ?_⟩
  cases d <;> simp [itemsOf] at hi
  · subst hi
    obtain ⟨p, xs, rfl, _, hS, hA⟩ := hv.lstAt e
    exact ⟨p, xs, rfl, .inl hS, by rw [hA.len]; exact k⟩
  · subst hi
    obtain ⟨p, ob, xs, rfl, _, _, hS, hA⟩ := hv.tupAt e
    exact ⟨p, xs, rfl, .inr hS, by rw [hA.len]; exact k⟩
theorem ee_len (hm : X.mg "len" = none) (ha : Ea X Γ [e] [d] Γ1) (hi : itemsOf d = some ds) (hg : Gl X "len" := by rfl) (he : starEach [e] X.env = (false, eval e X.env) :: starEach [] X.env := by rfl) : Ee X Γ (.Call (.Name "len" pp) [e] [] pos) (.int ds.length) Γ1 :=
  ee_cb call_len_seq hm PySem.boot_len ha (cd_len hi) hg (by decide) (by decide) he rfl
theorem scr_of {K : PySem.W.Frag} {F : Hp} {ns : List Int} {v : V} (h : Dd K F v (scrD ns)) : ∃ p, v = .ref p ∧ SqL K F p (ns.map V.int) := by
  have key : ∀ (m : PyData) (v : V), m = scrD ns → Dd K F v m → ∃ p, v = .ref p ∧ SqL K F p (ns.map V.int) := fun m v em hm => by
    cases hm with
    | dct h1 => cases ns with
      | nil => cases em
      | cons n r => simp [scrD] at em
    | map h1 h2 => cases ns with
      | nil => cases em
      | cons n r => simp [scrD] at em
    | dkd h1 h2 => cases ns with
      | nil => cases em
      | cons n r => simp [scrD] at em
    | scr h1 =>
      rename_i a' ns'
      have e' : ns' = ns := by
        have := PyData.dict.inj em
        have h2 := congrArg (List.map fun p : PyData × PyData => match p.1 with | .int i => i | _ => 0) this
        simpa [List.map_map, Function.comp_def] using h2
      subst e'
      exact ⟨_, rfl, h1⟩
    | _ => cases em
  exact key _ _ rfl h
theorem ee_lenS {ns : List Int} (hm : X.mg "len" = none) (ha : Ea X Γ [e] [scrD ns] Γ1) (hg : Gl X "len" := by rfl) (he : starEach [e] X.env = (false, eval e X.env) :: starEach [] X.env := by rfl) : Ee X Γ (.Call (.Name "len" pp) [e] [] pos) (.int ns.length) Γ1 :=
  ee_cb call_len_seq hm PySem.boot_len ha (cd_here fun F H vs Q e hx => by
    obtain ⟨v, rfl, hv⟩ := one_of hx
    obtain ⟨p, rfl, hS⟩ := scr_of hv
    exact ⟨_, .int _, fun k => ⟨p, _, rfl, .inl (ext_l e hS), by rw [List.length_map]; exact k⟩⟩) hg (by decide) (by decide) he rfl
theorem ee_intC (hm : X.mg "int" = none) (ha : Ea X Γ [e] [.int i] Γ1) (hg : Gl X "int" := by rfl) (he : starEach [e] X.env = (false, eval e X.env) :: starEach [] X.env := by rfl) : Ee X Γ (.Call (.Name "int" pp) [e] [] pos) (.int i) Γ1 :=
  ee_cty call_int1 hm (by decide +kernel) ha (cd_here fun F H vs Q e hx => by
    obtain ⟨v, rfl, hv⟩ := one_of hx
    cases hv
    exact ⟨_, .int i, fun k => .inl ⟨i, rfl, k⟩⟩) hg (by decide) (by decide) he rfl
theorem ee_min2 (hc : X.calm = true) (hm : X.mg "min" = none) (ha : Ea X Γ [a, b] [.int i, .int j] Γ1) (hg : Gl X "min" := by rfl) (he : starEach [a, b] X.env = (false, eval a X.env) :: starEach [b] X.env := by rfl) (hpl : (backTo pos (starEach [b] X.env)).any (·.1) = false := by rfl) :
    Ee X Γ (.Call (.Name "min" pp) [a, b] [] pos) (.int (if j < i then j else i)) Γ1 :=
  ee_cb (call_min2 hc) hm boot_min ha (cd_here fun F H vs Q e hx => by
    obtain ⟨v, w, rfl, hv, hw⟩ := two_of hx
    cases hv; cases hw
    exact ⟨_, .int _, fun k => ⟨i, j, rfl, k⟩⟩) hg (by decide) (by decide) he hpl
theorem ee_max2 (hc : X.calm = true) (hm : X.mg "max" = none) (ha : Ea X Γ [a, b] [.int i, .int j] Γ1) (hg : Gl X "max" := by rfl) (he : starEach [a, b] X.env = (false, eval a X.env) :: starEach [b] X.env := by rfl) (hpl : (backTo pos (starEach [b] X.env)).any (·.1) = false := by rfl) :
    Ee X Γ (.Call (.Name "max" pp) [a, b] [] pos) (.int (if j > i then j else i)) Γ1 :=
  ee_cb (call_max2 hc) hm (by decide +kernel) ha (cd_here fun F H vs Q e hx => by
    obtain ⟨v, w, rfl, hv, hw⟩ := two_of hx
    cases hv; cases hw
    exact ⟨_, .int _, fun k => ⟨i, j, rfl, k⟩⟩) hg (by decide) (by decide) he hpl
theorem cn_list (hi : itemsOf d = some ds) : CN X.K (fun xs H Q => ∃ p ys, xs = [.ref p] ∧ (SqL X.K H p ys ∨ SqT X.K H p ys) ∧ ∀ l, H l = none → Q (.ref l) (upd H l (.lst ys))) [d] ds := fun F H vs Q e hx => by
  obtain ⟨v, rfl, hv⟩ := one_of hx
  cases d <;> simp [itemsOf] at hi
  · subst hi
    obtain ⟨p, xs, rfl, _, hS, hA⟩ := hv.lstAt e
    exact ⟨xs, hA, fun k => ⟨p, xs, rfl, .inl hS, k⟩⟩
  · subst hi
    obtain ⟨p, ob, xs, rfl, _, _, hS, hA⟩ := hv.tupAt e
    exact ⟨xs, hA, fun k => ⟨p, xs, rfl, .inr hS, k⟩⟩
theorem en_list (hm : X.mg "list" = none) (ha : Ea X Γ [e] [d] Γ1) (hi : itemsOf d = some ds) (hg : Gl X "list" := by rfl) (he : starEach [e] X.env = (false, eval e X.env) :: starEach [] X.env := by rfl) : En X Γ (.Call (.Name "list" pp) [e] [] pos) ds Γ1 :=
  en_cty call_list_of hm (by decide +kernel) ha (cn_list hi) hg (by decide) (by decide) he rfl
/-- tuple(a list) -/
theorem call_tupleF : CallR X (.type "tuple") (fun xs H Q => ∃ p ys, xs = [.ref p] ∧ SqL X.K H p ys ∧ TupNew H ys Q) := by
  intro pins s σ H xs us Q I r h
  obtain ⟨p, ys, rfl, hq, q⟩ := h
  obtain ⟨u, rfl, rx⟩ := vals1 r
  cases rx
  obtain ⟨its, r', pl, hz⟩ := I.list hq
  have hlen := r'.length
  refine call_tuple_list pl.isList (fun h' kp => ?_) (by simp only [List.size_toArray] <;> omega)
  have I1 : Inv X pins σ H { s with heap := h' } := I.kept (t' := s.toks) kp
  exact tup_end I1 r' hz q
theorem ee_tupL (hm : X.mg "tuple" = none) (ha : Ea X Γ [e] [.list ds] Γ1) (hg : Gl X "tuple" := by rfl) (he : starEach [e] X.env = (false, eval e X.env) :: starEach [] X.env := by rfl) : Ee X Γ (.Call (.Name "tuple" pp) [e] [] pos) (.tuple ds) Γ1 :=
  et_cty call_tupleF hm (by decide +kernel) ha (fun F H vs Q e hx => by
    obtain ⟨v, rfl, hv⟩ := one_of hx
    obtain ⟨p, xs, rfl, _, hS, hA⟩ := hv.lstAt e
    exact ⟨xs, hA, fun k => ⟨p, xs, rfl, hS, k⟩⟩) hg (by decide) (by decide) he rfl
/-- list(range(n)) -/
theorem dda_range {K : PySem.W.Frag} {F : Hp} (a b : Int) : DdA K F (rgV a b) ((List.range (b - a).toNat).map fun i : Nat => PyData.int (a + i)) := by
  have : rgV a b = ((List.range (b - a).toNat).map fun i : Nat => a + (i : Int)).map V.int := by
    unfold rgV
    rw [List.map_map]
    rfl
  rw [this]
  have h2 : (List.range (b - a).toNat).map (fun i : Nat => PyData.int (a + i)) = ((List.range (b - a).toNat).map fun i : Nat => a + (i : Int)).map PyData.int := by
    rw [List.map_map]; rfl
  rw [h2]
  exact DdA.of_ints _
theorem en_listRg {p1 p2 : Pos} {n : Nat} (hc : X.calm = true) (hl : X.mg "list" = none) (hr : X.mg "range" = none) (ha : Ee X Γ e (.int n) Γ1) (hn : n ≤ 16777216) (hg : Gl X "list" := by rfl) (hg2 : Gl X "range" := by rfl) (na : starEach [e] X.env = (false, eval e X.env) :: starEach [] X.env := by rfl)
    (na2 : starEach [Expr.Call (.Name "range" p1) [e] [] p2] X.env = (false, eval (Expr.Call (.Name "range" p1) [e] [] p2) X.env) :: starEach [] X.env := by rfl) :
    En X Γ (.Call (.Name "list" pp) [.Call (.Name "range" p1) [e] [] p2] [] pos) ((List.range n).map fun i : Nat => PyData.int i) Γ1 :=
  pe_imp (pe_listRg hc hg hl (prg_1 hg2 hr ha na) na2) fun σ H Q ⟨F, ev, x, k⟩ => ⟨F, ev, x, fun v F1 H1 g1 e1 dv => by
    cases dv
    refine ⟨n, rfl, RgOk.of_le (by omega) (by omega) (by omega) (by omega), ?_⟩
    have h := dda_range (K := X.K) (F := F1) 0 (n : Int)
    have e2 : ((n : Int) - 0).toNat = n := by omega
    rw [e2] at h
    simp only [Int.zero_add] at h
    exact tN_new g1 e1 h k⟩
/-- isinstance against one built-in class -/
def tyName : PyData → String
  | .none => "NoneType"
  | .bool _ => "bool"
  | .int _ => "int"
  | .str _ => "str"
  | .list _ => "list"
  | .tuple _ => "tuple"
  | .dict _ => "dict"
theorem tyX_of {K : PySem.W.Frag} {F H : Hp} {v : V} (e : Ext F H) (hd : ∀ x, d ≠ .dict x) (h : Dd K F v d) : TyX K H v (.type (tyName d)) := by
  cases h with
  | non => exact .base .non
  | bl b => exact .base (.bl b)
  | int i => exact .base (.int i)
  | str x => exact .base (.str x)
  | lst h1 h2 => exact .base (.lst (e _ _ h1))
  | tup h1 h0 h2 => exact .fTuple (e _ _ h1)
  | scr h1 => exact absurd rfl (hd _)
  | dct h1 => exact absurd rfl (hd _)
  | map h1 h2 => exact absurd rfl (hd _)
  | dkd h1 h2 => exact absurd rfl (hd _)
/-- a value beside its class -/
theorem ee_isi {T : Str} {TN : String} {p1 : Pos} (hm : X.mg "isinstance" = none) (hT : X.mg T = none) (hb : bootBuiltins T = some (.type TN)) (ha : Ee X Γ e d Γ1) (hd : ∀ x, d ≠ .dict x) (hk : kitB (tyName d) TN = some p) (hg : Gl X "isinstance" := by rfl) (hg2 : Gl X T := by rfl) (hn : T ≠ "__name__" := by decide) (hdb : (T == ("__debug__" : Str)) = false := by decide)
    (he : starEach [e, .Name T p1] X.env = (false, eval e X.env) :: starEach [.Name T p1] X.env := by rfl) (he2 : starEach [.Name T p1] X.env = (false, eval (.Name T p1) X.env) :: starEach [] X.env := by rfl) (hpl : (backTo pos (starEach [.Name T p1] X.env)).any (·.1) = false := by rfl) :
    Ee X Γ (.Call (.Name "isinstance" pp) [e, .Name T p1] [] pos) (.bool p) Γ1 :=
  pe_imp (pe_callB call_isi hg hm (by decide +kernel) (pa_cons ha (pa_cons (pe_bltn (v := .ty TN) hg2 hT hb rfl hn hdb) pa_nil he2) he) (by decide) (by decide) he hpl) fun σ H Q ⟨F, ev, x, k⟩ => ⟨F, ev, x, fun v F1 H1 g1 e1 dv =>
    ⟨v, .ty TN, .type (tyName d), .type TN, p, rfl, .ty TN, tyX_of g1.fh hd dv, kit_ty hk, k _ F1 H1 g1 e1 (.bl p)⟩⟩
theorem ee_isi2 {T U : Str} {TN UN : String} {p1 p2 p3 : Pos} {kk : Nat} {q : Bool} (hm : X.mg "isinstance" = none) (hT : X.mg T = none) (hb : bootBuiltins T = some (.type TN)) (hU : X.mg U = none) (hbU : bootBuiltins U = some (.type UN)) (ha : Ee X Γ e d Γ1) (hd : ∀ x, d ≠ .dict x) (hk : kitB (tyName d) TN = some p) (hk2 : kitB (tyName d) UN = some q)
    (hg : Gl X "isinstance" := by rfl) (hg2 : Gl X T := by rfl) (hg3 : Gl X U := by rfl) (hn : T ≠ "__name__" := by decide) (hdb : (T == ("__debug__" : Str)) = false := by decide) (hn3 : U ≠ "__name__" := by decide) (hdb3 : (U == ("__debug__" : Str)) = false := by decide)
    (he : starEach [e, .Tuple [.Name T p1, .Name U p2] kk p3] X.env = (false, eval e X.env) :: starEach [.Tuple [.Name T p1, .Name U p2] kk p3] X.env := by rfl) (he2 : starEach [.Tuple [.Name T p1, .Name U p2] kk p3] X.env = (false, eval (.Tuple [.Name T p1, .Name U p2] kk p3) X.env) :: starEach [] X.env := by rfl)
    (hpl : (backTo pos (starEach [.Tuple [.Name T p1, .Name U p2] kk p3] X.env)).any (·.1) = false := by rfl)
    (he4 : starEach [.Name T p1, .Name U p2] X.env = (false, eval (.Name T p1) X.env) :: starEach [.Name U p2] X.env := by rfl) (he5 : starEach [.Name U p2] X.env = (false, eval (.Name U p2) X.env) :: starEach [] X.env := by rfl) :
    Ee X Γ (.Call (.Name "isinstance" pp) [e, .Tuple [.Name T p1, .Name U p2] kk p3] [] pos) (.bool (p || q)) Γ1 :=
  pe_imp (pe_callB call_isiT hg hm (by decide +kernel) (pa_cons ha (pa_cons (pe_tup (pa_cons (pe_bltn (v := .ty TN) hg2 hT hb rfl hn hdb) (pa_cons (pe_bltn (v := .ty UN) hg3 hU hbU rfl hn3 hdb3) pa_nil he5) he4)) pa_nil he2) he) (by decide) (by decide) he hpl)
    fun σ H Q ⟨F, ev, x, k⟩ => ⟨F, ev, x, fun v F1 H1 g1 e1 dv => ⟨by show 2 ≤ sizeLine; decide, fun t ht => by
      have hx := tyX_of (Ext.trans g1.fh (Ext.new (o := .tup [.ty TN, .ty UN]) ht)) hd dv
      refine ⟨v, t, [.ty TN, .ty UN], .type (tyName d), [.type TN, .type UN], p || q, rfl, upd_same, .cons (.ty TN) (.cons (.ty UN) .nil), hx, ?_, k _ F1 _ (g1.trans (Gr.newH g1.fh ht)) (e1.newH ht) (.bl _)⟩
      cases p with
      | true => exact kitAny_cons (kit_ty hk) (fun z => by cases z) (fun _ => by simp)
      | false => exact kitAny_cons (kit_ty hk) (fun _ => kitAny_cons (r := q) (kit_ty hk2) (fun z => by rw [z]; exact kitAny_nil) (fun z => z)) (fun z => by cases z)⟩⟩

/-! sums, min, sorted, count -/
theorem reads_of {pins : List (Addr × Obj)} {σ : L2.St} {H F : Hp} {s : Shared} {u : Value} {v : V} (I : Inv X pins σ H s) (e : Ext F H) (hs : d.canLay0 = true) (h : Dd X.K F v d) (r : RelV v u) : ∃ as, Reads s.heap u d as := Dp.reads I d v u (Dd.dp e d v hs h) r
theorem readsAll_of {pins : List (Addr × Obj)} {σ : L2.St} {H F : Hp} {s : Shared} {us : List Value} {vs : List V} (I : Inv X pins σ H s) (e : Ext F H) (hs : PyData.canLayAll0 ds = true) (h : DdA X.K F vs ds) (r : Vals vs us) : ∃ as, ReadsAll s.heap us ds as := Dp.readsAll I ds vs us (DdA.dp e ds vs hs h) r
end
end DL
end

section
namespace DL
open PySem PySem.Spec PyProof.Rows L2
open PySem.W (AlikeAll minD AllAlike Sortable dataLe EachIs)

theorem dda_at {K : PySem.W.Frag} {F : Hp} {xs : List V} {ds : List PyData} (h : DdA K F xs ds) {i : Nat} {v : V} {d : PyData} (h1 : xs[i]? = some v) (h2 : ds[i]? = some d) : Dd K F v d := by
  obtain ⟨d', e1, e2⟩ := h.getv h1
  rw [h2] at e1; cases e1
  exact e2
theorem layAll_mem : ∀ {ds : List PyData} {d : PyData}, PyData.canLayAll0 ds = true → d ∈ ds → d.canLay0 = true
  | e :: ds, d, h, hm => by
    have h' : e.canLay0 = true ∧ PyData.canLayAll0 ds = true := by simpa [PyData.canLayAll0] using h
    rcases List.mem_cons.mp hm with rfl | hm
    · exact h'.1
    · exact layAll_mem h'.2 hm
theorem minD_mem : ∀ (ds : List PyData) (x : PyData), minD x ds ∈ x :: ds
  | [], x => List.mem_cons_self
  | y :: ds, x => by
    show (ds.foldl (fun a y => if PySem.W.dataLt y a then y else a) (if PySem.W.dataLt y x then y else x)) ∈ _
    have := minD_mem ds (if PySem.W.dataLt y x then y else x)
    unfold minD at this
    rcases List.mem_cons.mp this with h | h
    · rw [h]
      split
      · exact List.mem_cons_of_mem _ List.mem_cons_self
      · exact List.mem_cons_self
    · exact List.mem_cons_of_mem _ (List.mem_cons_of_mem _ h)

section
variable {X : Cx} {Γ Γ1 Γ2 Γ3 : Gm} {a b c e : Expr} {es rest : List Expr} {d d1 d2 d3 : PyData} {ds es' : List PyData} {pos pp : Pos} {p q : Bool} {i j k : Int}
/-- min(a list of alike data) -/
def rMinD (K : PySem.W.Frag) : List V → Hp → VK → Prop := fun xs H Q => ∃ (p : Addr) (ys : List V) (x : PyData) (ds : List PyData), xs = [.ref p] ∧ SqL K H p ys ∧ DpAll K H ys (x :: ds) ∧ AlikeAll (x :: ds) ∧ PyData.canLayAll0 (x :: ds) = true ∧ PyData.depthAll (x :: ds) ≤ 60 ∧
  ∀ (i : Nat) (y : V), ys[i]? = some y → (x :: ds)[i]? = some (minD x ds) → Q y H
theorem call_minD {kk : Nat} (hr : Room kk X.A) (hc : X.calm = true) : CallR X (.builtin "min") (rMinD X.K) := by
  intro pins s σ H xs us Q I r h
  obtain ⟨p, ys, x, ds, rfl, hs, hd, ha, hl, hdep, q⟩ := h
  obtain ⟨u, rfl, rx⟩ := vals1 r
  cases rx
  obtain ⟨its, rv, pl, hz⟩ := I.list hs
  obtain ⟨as, hR⟩ := Dp.readsAll I (x :: ds) ys its hd rv
  refine PySem.W.min_list_data (I.ok.hd hc) pl.isList hR ha (by have := hr.un; omega) fun i v h' tk bs hv hrd hk => ?_
  have hvi : its[i]? = some v := by rw [← Array.getElem?_toList] at hv; exact hv
  have hlen := rv.length
  have hlt : i < ys.length := by
    rw [hlen]; exact (List.getElem?_eq_some_iff.mp hvi).1
  obtain ⟨w, hw, rw'⟩ := rv.get (List.getElem?_eq_getElem hlt)
  rw [hvi] at hw
  cases hw
  have hdl : ∀ {ys : List V} {ds : List PyData}, DpAll X.K H ys ds → ∀ (i : Nat) (y : V), ys[i]? = some y → ∃ d, ds[i]? = some d ∧ Dp X.K H y d := by
    intro ys ds h
    induction ds generalizing ys with
    | nil => intro i y hy; cases h; simp at hy
    | cons d ds ih =>
      intro i y hy
      cases h with
      | cons h1 h2 =>
        cases i with
        | zero => cases hy; exact ⟨d, rfl, h1⟩
        | succ i => exact ih h2 i y hy
  obtain ⟨d, hdi, hdd⟩ := hdl hd i _ (List.getElem?_eq_getElem hlt)
  have I2 : Inv X pins σ H { s with heap := h', toks := tk } := I.kept hk
  obtain ⟨cs, hrd2⟩ := Dp.reads I2 d _ _ hdd rw'
  have lay : d.canLay0 = true := layAll_mem hl (List.mem_of_getElem? hdi)
  have e : d = minD x ds := PySem.SeqAt.Reads.unique d _ _ _ _ lay hrd2 hrd
  exact ⟨_, H, I2, rw', q i _ (List.getElem?_eq_getElem hlt) (by rw [hdi, e])⟩
theorem ee_minD {kk : Nat} {x : PyData} (hr : Room kk X.A) (hc : X.calm = true) (hm : X.mg "min" = none) (ha : Ea X Γ [e] [.list (x :: ds)] Γ1) (hal : AlikeAll (x :: ds)) (hl : PyData.canLayAll0 (x :: ds) = true) (hdep : PyData.depthAll (x :: ds) ≤ 60) (hg : Gl X "min" := by rfl)
    (he : starEach [e] X.env = (false, eval e X.env) :: starEach [] X.env := by rfl) : Ee X Γ (.Call (.Name "min" pp) [e] [] pos) (minD x ds) Γ1 :=
  ee_cb (call_minD hr hc) hm boot_min ha (fun F H vs Q e hx q => by
    obtain ⟨v, rfl, hv⟩ := one_of hx
    obtain ⟨p, xs, rfl, _, hS, hA⟩ := hv.lstAt e
    exact ⟨p, xs, x, ds, rfl, hS, DdA.dp e _ _ hl hA, hal, hl, hdep, fun i y h1 h2 => q y F H (Ext.refl F) e (Ext.refl H) (fun a h => .inl h) (dda_at hA h1 h2)⟩) hg (by decide) (by decide) he rfl

/-! ### sorted -/
theorem collect_seq {prog : Program} {w : World} {A : Around} {E : Value → Shared → Prop} {s : Shared} {l : Addr} {vs : List Value} {T : String} {o : Obj} {n : Nat} {Q : List Value → Shared → Prop} (hT : T = "list" ∨ T = "tuple") (ho : s.heap.get? l = some o) (hc : o.cls = .type T) (hd : o.data = .seq vs.toArray n)
    (h : Q vs { s with heap := (s.heap.push (seqObj "list" #[] 0)).update s.heap.objs.size (Obj.mapSeq (· ++ vs.toArray)) }) (hsz : vs.length ≤ sizeLine) :
    wpAny (model prog w) A (collect (.ref l)) Q E s := by
  unfold collect
  refine wpAny_bind (wpAny_runValue (codeAny_builtin entry_proto_collect' ?_))
  show wpAny _ _ (do again (.builtin "list.__iadd__" ⟨[← newList [], .ref l], []⟩)) _ _ s
  refine wpAny_bind (wpAny_newList (wpAny_pure ⟨Code.quiet_builtin _ (by decide +kernel), codeAny_builtin entry_list_iadd' ?_⟩))
  show wpAny _ _ (Builtin.List.listExtendWith (.ref s.heap.objs.size) (.ref l) (.ref s.heap.objs.size)) _ _ { s with heap := s.heap.push (seqObj "list" #[] 0) }
  unfold Builtin.List.listExtendWith
  have ho' : (s.heap.push (seqObj "list" #[] 0)).get? l = some o := Heap.get?_push_of_some _ ho
  refine wpAny_bind (wpAny_typeOf (T := T) ⟨o, ho', hc⟩ ?_)
  have ht : (Value.type T == Value.type "list" || Value.type T == Value.type "tuple") = true := by
    rcases hT with rfl | rfl <;> rfl
  rw [if_pos (by rw [Bool.or_assoc, ht]; simp)]
  refine wpAny_bind (listItems_at ho' hd ?_)
  refine wpAny_bind (listItems_at (xs := #[]) (n := 0) (Heap.get?_push_size _ rfl) rfl ?_)
  rw [if_neg (by simp)]
  refine wpAny_bind (listUpdate_at (xs := #[]) (n := 0) (Heap.get?_push_size _ rfl) rfl ?_ (Nat.zero_le _) (by show (#[] ++ vs.toArray).size ≤ sizeLine + 1; simp only [Array.size_append, List.size_toArray, List.length_nil]; omega))
  refine wpAny_pure ?_
  show wpAny (model prog w) A (do
      let o ← load s.heap.objs.size
      match o.data with
      | .seq xs _ => pure xs.toList
      | _ => unsupported "internal:collect") Q E { s with heap := (s.heap.push (seqObj "list" #[] 0)).update s.heap.objs.size (Obj.mapSeq (· ++ vs.toArray)) }
  refine wpAny_bind (wpAny_load (get?_update_seq (Heap.get?_push_size _ rfl) _) ?_)
  show wpAny _ _ (pure ((#[] : Array Value) ++ vs.toArray).toList) Q E _
  rw [show ((#[] : Array Value) ++ vs.toArray).toList = vs by simp]
  exact wpAny_pure h
open PySem.W in
theorem sorted_seq {prog : Program} {w : World} {A : Around} {E : Value → Shared → Prop} {s : Shared} {β : Type} {vs : List Value} {bs : List β} {enc : β → PyData} {R : Value → β → Prop} {l : Addr} {T : String} {o : Obj} {n : Nat} {Q : Value → Shared → Prop} (hT : T = "list" ∨ T = "tuple") (ho : s.heap.get? l = some o) (hc : o.cls = .type T) (hd : o.data = .seq vs.toArray n)
    (e : EachIs R vs bs) (er : EachIs (fun v b => ∃ as, Reads s.heap v (enc b) as) vs bs) (hal : AllAlike (bs.map enc)) (hk : Sortable (bs.map enc)) (hL : bs.length ≤ sizeLine)
    (hu : ∀ b, b ∈ bs → A.units + 2 + (enc b).depth < cLine) (h : ∀ out, out.length = bs.length → EachIs R out (bs.mergeSort (dataLe false enc)) → Q (.ref (s.heap.objs.size + 1)) { s with heap := sortedAll s.heap vs (List.toArray out) }) :
    wpAny (model prog w) A (call (.builtin "sorted") [.ref l]) Q E s := by
  have er' : EachIs (fun v b => ∃ as, Reads (sortingHeap (copyHeap s.heap vs) (s.heap.objs.size + 1) vs) v (enc b) as) vs bs := er.mono fun _ _ ⟨as, r⟩ => ⟨as, PyProof.Rows.Reads.keeps (fun _ _ => sorting_copy_old) r⟩
  have hLv : vs.length ≤ sizeLine := by rw [e.length]; exact hL
  refine call_function_entry_kw kind_sorted plain_sorted entry_sorted (args_sorted1 _) ?_
  unfold Builtin.«sorted»
  refine wpAny_bind (m := checkCount "sorted" 1 1 _) (wpAny_pure ?_)
  refine wpAny_bind (collect_seq hT ho hc hd ?_ hLv)
  refine wpAny_bind (wpAny_newList ?_ hLv)
  have hsz : ((s.heap.push (seqObj "list" #[] 0)).update s.heap.objs.size (Obj.mapSeq (· ++ vs.toArray))).objs.size = s.heap.objs.size + 1 := by
    rw [Heap.size_update, size_push']
  show wpAny _ _ _ _ _ { s with heap := copyHeap s.heap vs }
  rw [hsz]
  refine wpAny_bind (wpAny_holding (wpAny_call_entry_kw slot_list_sort ⟨_, copyHeap_at s.heap vs, rfl⟩ entry_list_sort ?body (args_list_sort _)))
  case body =>
    show wpAny (model prog w) A.in1.in1 (Builtin.«list.sort» ⟨[.ref (s.heap.objs.size + 1)], []⟩) _ _ _
    refine list_sort_vals (s := { s with heap := copyHeap s.heap vs }) (copyHeap_at s.heap vs) (SortsAt.data (s := { s with heap := sortingHeap (copyHeap s.heap vs) (s.heap.objs.size + 1) vs }) (each_map (R := fun v d => ∃ as, Reads (sortingHeap (copyHeap s.heap vs) (s.heap.objs.size + 1) vs) v d as) enc er') hal hk (bound_map hu)) hLv ?_
    exact ⟨_, rfl, wpAny_pure ⟨_, rfl, h _ (by rw [sortVals_length false rfl]; exact e.length) (sortVals_data false e er' hal)⟩⟩
/-- the order of data -/
abbrev dLe : PyData → PyData → Bool := PySem.W.dataLe false (fun d : PyData => d)
/-- sorted(a list or a tuple of alike data) -/
def rSortD (K : PySem.W.Frag) : List V → Hp → VK → Prop := fun xs H Q => ∃ (p : Addr) (zs : List (V × PyData)), xs = [.ref p] ∧ (SqL K H p (zs.map (·.1)) ∨ SqT K H p (zs.map (·.1))) ∧ DpAll K H (zs.map (·.1)) (zs.map (·.2)) ∧ AllAlike (zs.map (·.2)) ∧ Sortable (zs.map (·.2)) ∧
  PyData.canLayAll0 (zs.map (·.2)) = true ∧ PyData.depthAll (zs.map (·.2)) ≤ 60 ∧ ∀ p, H p = none → Q (.ref p) (upd H p (.lst ((zs.mergeSort (PySem.W.dataLe false (fun z : V × PyData => z.2))).map (·.1))))
theorem depth_le : ∀ {ds : List PyData} {d : PyData}, d ∈ ds → d.depth ≤ PyData.depthAll ds
  | e :: ds, d, h => by
    rw [PyData.depthAll]
    rcases List.mem_cons.mp h with rfl | h
    · exact Nat.le_max_left _ _
    · exact Nat.le_trans (depth_le h) (Nat.le_max_right _ _)
theorem each_of_vals : ∀ {zs : List (V × PyData)} {us : List Value}, Vals (zs.map (·.1)) us → EachIs (fun (u : Value) (z : V × PyData) => RelV z.1 u) us zs
  | [], _, h => by
    rw [List.map_nil] at h; cases h; exact .nil
  | z :: zs, _, h => by
    rw [List.map_cons] at h
    cases h with
    | cons h1 h2 => exact .cons h1 (each_of_vals h2)
theorem vals_of_each : ∀ {zs : List (V × PyData)} {us : List Value}, EachIs (fun (u : Value) (z : V × PyData) => RelV z.1 u) us zs → Vals (zs.map (·.1)) us
  | [], _, h => by cases h; exact .nil
  | z :: zs, _, h => by
    cases h with
    | cons h1 h2 => exact .cons h1 (vals_of_each h2)
theorem each_reads {pins : List (Addr × Obj)} {σ : L2.St} {H : Hp} {s : Shared} (I : Inv X pins σ H s) : ∀ {zs : List (V × PyData)} {us : List Value}, Vals (zs.map (·.1)) us → DpAll X.K H (zs.map (·.1)) (zs.map (·.2)) → EachIs (fun (u : Value) (z : V × PyData) => ∃ as, Reads s.heap u z.2 as) us zs
  | [], _, h, _ => by
    rw [List.map_nil] at h; cases h; exact .nil
  | z :: zs, _, h, hd => by
    rw [List.map_cons] at h
    rw [List.map_cons, List.map_cons] at hd
    cases h with
    | cons h1 h2 =>
      cases hd with
      | cons d1 d2 => exact .cons (Dp.reads I _ _ _ d1 h1) (each_reads I h2 d2)
theorem call_sortD {kk : Nat} (hr : Room kk X.A) : CallR X (.builtin "sorted") (rSortD X.K) := by
  intro pins s σ H xs us Q I r h
  obtain ⟨p, zs, rfl, hs, hd, ha, hk, hl, hdep, q⟩ := h
  obtain ⟨u, rfl, rx⟩ := vals1 r
  cases rx
  have go : ∀ (its : List Value) (T : String) (o : Obj) (n : Nat), (T = "list" ∨ T = "tuple") → s.heap.get? p = some o → o.cls = .type T → o.data = .seq its.toArray n → Vals (zs.map (·.1)) its → (zs.map (·.1)).length ≤ sizeLine →
      wpAny (model X.prog X.w) X.A (call (.builtin "sorted") [.ref p]) (EP X pins σ Q) X.xe s := fun its T o n hT ho hc hdt rv hz => by
    have hz' : zs.length ≤ sizeLine := by rw [List.length_map] at hz; exact hz
    refine sorted_seq (R := fun (u : Value) (z : V × PyData) => RelV z.1 u) (enc := fun z : V × PyData => z.2) hT ho hc hdt (each_of_vals rv) (each_reads I rv hd) ha hk hz' (fun z hz => ?_) fun out hlen hout => ?_
    · have := depth_le (List.mem_map.mpr ⟨z, hz, rfl⟩ : z.2 ∈ zs.map (·.2))
      have := hr.un
      omega
    · obtain ⟨ep, he'⟩ := PyProof.Rows.sortedAll_at s.heap its out.toArray
      have hlen2 : ((zs.mergeSort (PySem.W.dataLe false (fun z : V × PyData => z.2))).map (·.1)).length ≤ sizeLine := by
        rw [List.length_map, List.length_mergeSort]; exact hz'
      exact ⟨.ref _, upd H (s.heap.objs.size + 1) (.lst ((zs.mergeSort (PySem.W.dataLe false (fun z : V × PyData => z.2))).map (·.1))), I.laid (t' := s.toks) (fun _ _ => PyProof.Rows.sortedAll_old) (Nat.le_succ _) ⟨hlen2, out, ep, vals_of_each hout, he'⟩, rfl, q _ (I.hok.fresh (Nat.le_succ _))⟩
  rcases hs with hs | hs
  · obtain ⟨its, rv, pl, hz⟩ := I.list hs
    obtain ⟨o, ho, hc, n, hdt⟩ := pl.isList
    exact go its "list" o n (.inl rfl) ho hc hdt rv hz
  · obtain ⟨its, rv, pl, hz⟩ := I.tuple hs
    obtain ⟨o, ho, hc, n, hdt⟩ := pl
    exact go its "tuple" o n (.inr rfl) ho hc hdt rv hz
theorem zip_fst : ∀ {xs : List V} {ds : List PyData}, xs.length = ds.length → (xs.zip ds).map (·.1) = xs
  | [], [], _ => rfl
  | x :: xs, d :: ds, h => by
    rw [List.zip_cons_cons, List.map_cons, zip_fst (by simpa using h)]
theorem zip_snd : ∀ {xs : List V} {ds : List PyData}, xs.length = ds.length → (xs.zip ds).map (·.2) = ds
  | [], [], _ => rfl
  | x :: xs, d :: ds, h => by
    rw [List.zip_cons_cons, List.map_cons, zip_snd (by simpa using h)]
theorem dda_zip {K : PySem.W.Frag} {F : Hp} : ∀ {zs : List (V × PyData)}, (∀ z ∈ zs, Dd K F z.1 z.2) → DdA K F (zs.map (·.1)) (zs.map (·.2))
  | [], _ => .nil
  | z :: zs, h => .cons (h z List.mem_cons_self) (dda_zip fun y hy => h y (List.mem_cons_of_mem _ hy))
theorem zip_dd {K : PySem.W.Frag} {F : Hp} : ∀ {xs : List V} {ds : List PyData}, DdA K F xs ds → ∀ z ∈ xs.zip ds, Dd K F z.1 z.2
  | _, [], h, z, hz => by cases h; simp at hz
  | _, d :: ds, h, z, hz => by
    cases h with
    | cons h1 h2 =>
      rw [List.zip_cons_cons] at hz
      rcases List.mem_cons.mp hz with rfl | hz
      · exact h1
      · exact zip_dd h2 z hz
theorem cn_sort (hi : itemsOf d = some ds) (ha : AllAlike ds) (hk : Sortable ds) (hl : PyData.canLayAll0 ds = true) (hdep : PyData.depthAll ds ≤ 60) : CN X.K (rSortD X.K) [d] (ds.mergeSort dLe) := fun F H vs Q e hx => by
  obtain ⟨v, rfl, hv⟩ := one_of hx
  have go : ∀ (p : Addr) (xs : List V), (SqL X.K H p xs ∨ SqT X.K H p xs) → DdA X.K F xs ds → v = .ref p → ∃ ys, DdA X.K F ys (ds.mergeSort dLe) ∧ ((∀ p, H p = none → Q (.ref p) (upd H p (.lst ys))) → rSortD X.K [v] H Q) := fun p xs hS hA hv => by
    subst hv
    have hlen := hA.len
    refine ⟨((xs.zip ds).mergeSort (PySem.W.dataLe false (fun z : V × PyData => z.2))).map (·.1), ?_, fun k => ⟨p, xs.zip ds, rfl, by rw [zip_fst hlen]; exact hS, by rw [zip_fst hlen, zip_snd hlen]; exact DdA.dp e _ _ hl hA, by rw [zip_snd hlen]; exact ha, by rw [zip_snd hlen]; exact hk, by rw [zip_snd hlen]; exact hl, by rw [zip_snd hlen]; exact hdep, k⟩⟩
    have h1 : ((xs.zip ds).mergeSort (PySem.W.dataLe false (fun z : V × PyData => z.2))).map (·.2) = ds.mergeSort dLe := by
      have h2 := PySem.W.sort_maps (r := PySem.W.dataLe false (fun z : V × PyData => z.2)) (s := dLe) (fun z : V × PyData => z.2) (l := xs.zip ds) (fun a _ b _ => rfl)
      rw [zip_snd hlen] at h2
      exact h2
    rw [← h1]
    exact dda_zip fun z hz => zip_dd hA z (List.mem_mergeSort.mp hz)
  cases d <;> simp [itemsOf] at hi
  · subst hi
    obtain ⟨p, xs, rfl, _, hS, hA⟩ := hv.lstAt e
    exact go p xs (.inl hS) hA rfl
  · subst hi
    obtain ⟨p, ob, xs, rfl, _, _, hS, hA⟩ := hv.tupAt e
    exact go p xs (.inr hS) hA rfl
theorem en_sort {kk : Nat} (hr : Room kk X.A) (hm : X.mg "sorted" = none) (h : Ea X Γ [e] [d] Γ1) (hi : itemsOf d = some ds) (ha : AllAlike ds) (hk : Sortable ds) (hl : PyData.canLayAll0 ds = true) (hdep : PyData.depthAll ds ≤ 60) (hg : Gl X "sorted" := by rfl)
    (he : starEach [e] X.env = (false, eval e X.env) :: starEach [] X.env := by rfl) : En X Γ (.Call (.Name "sorted" pp) [e] [] pos) (ds.mergeSort dLe) Γ1 :=
  en_cb (call_sortD hr) hm (by decide +kernel) h (cn_sort hi ha hk hl hdep) hg (by decide) (by decide) he rfl
end
end DL
end

section
namespace DL
open PySem PySem.Spec PyProof.Rows L2

section
variable {X : Cx} {Γ Γ1 Γ2 Γ3 : Gm} {a b c e : Expr} {es rest : List Expr} {d d1 d2 d3 : PyData} {ds es' : List PyData} {pos pp : Pos} {p q : Bool} {i j k : Int}
/-! ### sum, count -/
theorem presum_take (ns : List Int) : ∀ n, n ≤ ns.length → preSum (fun i => ns.getD i 0) n = (ns.take n).sum
  | 0, _ => rfl
  | n + 1, h => by
    have ih := presum_take ns n (by omega)
    show preSum (fun i => ns.getD i 0) n + ns.getD n 0 = _
    rw [ih]
    have hn : ns[n]? = some ns[n] := List.getElem?_eq_getElem (by omega)
    rw [L2.sum_take hn, List.getD_eq_getElem?_getD, hn]
    rfl
theorem sum_tupI {prog : Program} {w : World} {A : Around} {E : Value → Shared → Prop} {s : Shared} {l : Addr} {its : List Value} {ns : List Int} {Q : Value → Shared → Prop} (hh : A.handled = none) (hl : s.heap.IsTuple l its.toArray) (hi : IntsAre its ns)
    (h : ∀ h' tk t', (∀ b o, s.heap.get? b = some o → h'.get? b = some o) → Q (.int ns.sum t') { s with heap := h', toks := tk }) : wpAny (model prog w) A (call (.builtin "sum") [.ref l]) Q E s := by
  refine call_sum_walkAnyS (PySem.W.iter_tupleW (A := A.in1) hh hl fun s₂ e W st hfp hw hk => ?_)
  have at_ : ∀ {its : List Value} {ns : List Int}, IntsAre its ns → ∀ (i : Nat) v, its[i]? = some v → ∃ t, v = .int (ns.getD i 0) t := by
    intro its ns hi
    induction hi with
    | nil => intro i v hv; simp at hv
    | cons n t r ih =>
      intro i v hv
      cases i with
      | zero =>
        cases hv
        exact ⟨t, rfl⟩
      | succ i =>
        obtain ⟨t', e'⟩ := ih i v hv
        exact ⟨t', by simpa using e'⟩
  refine ⟨_, _, _, _, _, _, _, fun i => ns.getD i 0, rfl, W, st, hfp, fun i v hv => at_ hi i v (by rw [← Array.getElem?_toList] at hv; exact hv), fun s' t' m => ?_⟩
  obtain ⟨h', tk, rfl, hk'⟩ := PySem.W.moved_old e rfl m
  have hsz : its.toArray.size = ns.length := by rw [List.size_toArray]; exact hi.length
  rw [hsz, presum_take ns ns.length (Nat.le_refl _), List.take_of_length_le (Nat.le_refl _)]
  exact h h' tk t' hk'
def rSumT (K : PySem.W.Frag) : List V → Hp → VK → Prop := fun vs H Q => ∃ (a : Addr) (ns : List Int), vs = [V.ref a] ∧ (SqL K H a (ns.map V.int) ∨ SqT K H a (ns.map V.int)) ∧ Q (.int ns.sum) H
theorem call_sumT (hc : X.calm = true) : CallR X (.builtin "sum") (rSumT X.K) := by
  intro pins s σ H vs us Q I r h
  obtain ⟨a, ns, rfl, hs, q⟩ := h
  rcases hs with hs | hs
  · exact cr_sum hc pins s σ H _ us Q I r ⟨a, ns, rfl, hs, q⟩
  · obtain ⟨its, rv, hl, _⟩ := I.tuple hs
    rw [Vals.ref1 r]
    exact sum_tupI (I.ok.hd hc) hl (intsAre_of rv) fun h' tk t' hk => ⟨.int _, H, I.kept hk, ⟨_, rfl⟩, q⟩
theorem ee_sum {ns : List Int} (hc : X.calm = true) (hm : X.mg "sum" = none) (ha : Ea X Γ [e] [d] Γ1) (hi : itemsOf d = some (ns.map PyData.int)) (hg : Gl X "sum" := by rfl) (he : starEach [e] X.env = (false, eval e X.env) :: starEach [] X.env := by rfl) : Ee X Γ (.Call (.Name "sum" pp) [e] [] pos) (.int ns.sum) Γ1 :=
  ee_cb (call_sumT hc) hm (by decide +kernel) ha (cd_here fun F H vs Q e hx => by
    obtain ⟨v, rfl, hv⟩ := one_of hx
    refine ⟨_, .int _, fun k => ?_⟩
    cases d <;> simp [itemsOf] at hi
    · subst hi
      obtain ⟨p, xs, rfl, _, hS, hA⟩ := hv.lstAt e
      have := hA.ints
      subst this
      exact ⟨p, ns, rfl, .inl hS, k⟩
    · subst hi
      obtain ⟨p, ob, xs, rfl, _, _, hS, hA⟩ := hv.tupAt e
      have := hA.ints
      subst this
      exact ⟨p, ns, rfl, .inr hS, k⟩) hg (by decide) (by decide) he rfl

/-- o.count(x), o a tuple of data -/
theorem ee_countT {kk : Nat} {apos : Pos} (hr : Room kk X.A) (ho : Ee X Γ a (.tuple ds) Γ1) (hb : Ea X Γ1 [b] [d] Γ2) (hl : PyData.canLayAll0 ds = true) (hl2 : d.canLay0 = true) (hdep : PyData.depthAll ds ≤ 60)
    (hbase : attributeBase a "count" X.env (eval a X.env) = eval a X.env := by rfl) (hline : (apos.endLine == pos.line) = true := by rfl) (hs : starEach [b] X.env = (false, eval b X.env) :: starEach [] X.env := by rfl) :
    Ee X Γ (.Call (.Attribute a "count" apos) [b] [] pos) (.int (ds.countP fun y => PyData.eqv y d : Nat)) Γ2 := by
  refine ⟨fun pins s σ H Q I h => ?_⟩
  obtain ⟨F, ev, x, k⟩ := h
  have htr : backTo pos (starEach [b] X.env) = [(false, eval b X.env)] := by rw [hs]; rfl
  refine wpAny_Call_method1_late hbase hline htr (thn (ho.run pins s σ H (fun v H1 => ∃ F1, Gr F H (Own σ Γ) F1 H1 (Own σ Γ1) ∧ EnvOk X.K F1 H1 σ Γ1 ∧ Dd X.K F1 v (.tuple ds)) I ⟨F, ev, x, fun v F1 H1 g1 e1 dv => ⟨F1, g1, e1, dv⟩⟩) fun v s1 hh => ?_)
  obtain ⟨w, H1, I1, r1, F1, g1, e1, dv⟩ := hh
  obtain ⟨p, ob, xs, rfl, hH, hd0, hS, hA⟩ := dv.tupAt g1.fh
  cases r1
  obtain ⟨hget, hz, its, rv, o2, ho2, hc2, n2, hd2⟩ : s1.heap.get? p = some ob ∧ xs.length ≤ sizeLine ∧ ∃ its : List Value, Vals xs its ∧ IsTup s1.heap p its.toArray := I1.hok p _ hH
  refine ⟨"tuple", "tuple.count", PySem.F.plainAttrs_tuple, PySem.F.slot_tuple_count, PySem.F.type_tuple_count, ⟨o2, ho2, hc2⟩, fun a ea => ?_, ?_⟩
  · cases ea
    exact ⟨ob, hget, hd0⟩
  refine Calls.callWith_builtin rfl (Calls.evalArgs_plain ?_)
  have hR := hb.run pos pins s1 σ H1 (fun vs H2 => ∃ F2, Gr F1 H1 (Own σ Γ1) F2 H2 (Own σ Γ2) ∧ EnvOk X.K F2 H2 σ Γ2 ∧ DdA X.K F2 vs [d]) I1 ⟨F1, e1, g1.fh, fun vs F2 H2 g2 e2 dv2 => ⟨F2, g2, e2, dv2⟩⟩
  rw [htr] at hR
  refine thn hR fun us s2 hh2 => ?_
  obtain ⟨vs, H2, I2, rvs, F2, g2, e2, dv2⟩ := hh2
  obtain ⟨z, rfl, dz⟩ := one_of dv2
  obtain ⟨u, rfl, ru⟩ := Vals.one rvs
  obtain ⟨p', ob', xs', ep, hH', hd0', hS', hA'⟩ := (dv.up g2.ff).tupAt g2.fh
  cases ep
  obtain ⟨its', rv', pl', hz'⟩ := I2.tuple hS'
  obtain ⟨as, ra⟩ := readsAll_of I2 g2.fh hl hA' rv'
  obtain ⟨bs, rb⟩ := reads_of I2 g2.fh hl2 dz ru
  refine PySem.SeqAt.count_tuple_data pl' ra rb (PySem.PyData.plainAll_of_canLay0 _ hl) (PySem.PyData.plain_of_canLay0 _ hl2) ?_ ⟨.int _, H2, I2.tok _, ⟨_, rfl⟩, k _ F2 H2 (g1.trans g2) e2 (.int _)⟩
  have := hr.un
  have : min (PyData.depthAll ds) d.depth ≤ PyData.depthAll ds := Nat.min_le_left _ _
  omega

/-! ### slices of lists, any written step -/
def pick {α : Type} (xs : List α) (lo hi st : Option Int) : List α := (sliceRange (sliceBounds lo hi st xs.length).1 (sliceBounds lo hi st xs.length).2.1 (sliceBounds lo hi st xs.length).2.2).filterMap (xs[·]?)
theorem dda_pick {K : PySem.W.Frag} {F : Hp} {xs : List V} (h : DdA K F xs ds) : ∀ is : List Nat, DdA K F (is.filterMap (xs[·]?)) (is.filterMap (ds[·]?))
  | [] => .nil
  | i :: is => by
    rw [List.filterMap_cons, List.filterMap_cons]
    cases e : ds[i]? with
    | none =>
      have : xs[i]? = none := by
        rw [List.getElem?_eq_none_iff] at e ⊢
        rw [h.len]; exact e
      rw [this]
      exact dda_pick h is
    | some d =>
      obtain ⟨v, hv, hd⟩ := h.get e
      rw [hv]
      exact .cons hd (dda_pick h is)
theorem vals_pick {xs : List V} {us : List Value} (r : Vals xs us) : ∀ is : List Nat, Vals (is.filterMap (xs[·]?)) (is.filterMap (us[·]?))
  | [] => .nil
  | i :: is => by
    rw [List.filterMap_cons, List.filterMap_cons]
    cases e : xs[i]? with
    | none =>
      have : us[i]? = none := r.none_of e
      rw [this]
      exact vals_pick r is
    | some x =>
      obtain ⟨u, hu, ru⟩ := r.get e
      rw [hu]
      exact .cons ru (vals_pick r is)
theorem en_sliceStep {n : Nat} {kk : Nat} {p2 p3 : Pos} {lo : Option Expr} {tl : TO} {l : Option Int} (hn : 0 < n) (he : Ee X Γ e (.list ds) Γ1) (hlo : PO X lo tl) (hl : ∀ σ H Q, Q l H → tl σ H Q)
    (hop : subscriptTail e (.Slice lo none (some (.Constant (.int n) kk p2)) p3) = subscriptTail e (.Slice lo none (some (.Constant (.int n) kk p2)) p3) := by rfl) : En X Γ (.Subscript e (.Slice lo none (some (.Constant (.int n) kk p2)) p3) pos) (pick ds l none (some (n : Int))) Γ1 := by
  refine ⟨fun pins s σ H Q I h => ?_⟩
  obtain ⟨F, ev, x, k⟩ := h
  refine Subscript_ (thn (he.run pins s σ H (fun v H1 => ∃ F1, Gr F H (Own σ Γ) F1 H1 (Own σ Γ1) ∧ EnvOk X.K F1 H1 σ Γ1 ∧ Dd X.K F1 v (.list ds)) I ⟨F, ev, x, fun v F1 H1 g1 e1 dv => ⟨F1, g1, e1, dv⟩⟩) fun v s1 hh => ?_)
  obtain ⟨w, H1, I1, r1, F1, g1, e1, dv⟩ := hh
  obtain ⟨p, xs, rfl, hH, hS, hA⟩ := dv.lstAt g1.fh
  cases r1
  refine wpAny_Slice (thn (hlo.run pins s1 σ H1 (fun o H2 => o = l ∧ H2 = H1) I1 (hl _ _ _ ⟨rfl, rfl⟩)) fun vl s2 ⟨ol, H2, I2, pl, el, e2⟩ => ?_)
  subst el e2
  refine thn (po_none.run pins s2 σ H2 (fun o H3 => o = none ∧ H3 = H2) I2 ⟨rfl, rfl⟩) fun vu s3 ⟨u, H3, I3, pu, eu, e3⟩ => ?_
  subst eu e3
  refine thn ((po_some (pe_int (X := X) (i := (n : Int)) (j := kk) (pos := p2))).run pins s3 σ H3 (fun o H4 => o = some (n : Int) ∧ H4 = H3) I3 ⟨n, rfl, rfl, rfl⟩) fun vs s4 ⟨o, H4, I4, ps, eo, e4⟩ => ?_
  subst eo e4
  have I5 : Inv X pins σ H4 { s4 with heap := s4.heap.push { cls := .type "slice", data := .fields #[vl, vu, vs] } } := I4.kept (t' := s4.toks) fun b ob q => Heap.get?_push_of_some _ q
  obtain ⟨its, r, ht, hz⟩ := I5.list hS
  have hlen := r.length
  show wpAny (model X.prog X.w) X.A (subscriptTail e (.Slice lo none (some (.Constant (.int n) kk p2)) p3) (.ref p) (.ref s4.heap.objs.size)) (EP X pins σ Q) X.xe { s4 with heap := s4.heap.push { cls := .type "slice", data := .fields #[vl, vu, vs] } }
  refine tail_any (ops := [.ref p, .ref s4.heap.objs.size]) ht.isList.typeIs (PySem.slot_list_getitem.lookup) ?_ (by with_unfolding_all rfl)
  have hn0 : (some (n : Int)) ≠ some 0 := by intro z; injection z with z; omega
  refine wpAny_getItem_list_slice ht.isList (Heap.IsSliceOf.new _ vl vu vs) pl pu ps hn0 ?_ (by rw [List.size_toArray]; omega)
  have hpk : slicePick its.toArray ol none (some (n : Int)) = (pick its ol none (some (n : Int))).toArray := by
    unfold slicePick pick
    rw [List.size_toArray]
    congr 1
    congr 1
    funext z
    simp
  rw [hpk]
  have hxs : (pick xs ol none (some (n : Int))).length ≤ sizeLine := by
    have h1 := slicePick_size_le its.toArray ol none (some (n : Int))
    rw [hpk, List.size_toArray, List.size_toArray] at h1
    have h2 : (pick xs ol none (some (n : Int))).length = (pick its ol none (some (n : Int))).length := by
      unfold pick
      rw [← hlen]
      exact (vals_pick r _).length
    omega
  have hv : Vals (pick xs ol none (some (n : Int))) (pick its ol none (some (n : Int))) := by
    unfold pick
    rw [← hlen]
    exact vals_pick r _
  have hd : DdA X.K F1 (pick xs ol none (some (n : Int))) (pick ds ol none (some (n : Int))) := by
    unfold pick
    rw [hA.len]
    exact dda_pick hA _
  exact ⟨.ref _, _, I5.laid (t' := s4.toks) (o := .lst (pick xs ol none (some (n : Int)))) (fun b ob q => Heap.get?_push_of_some _ q) (Nat.le_refl _) ⟨hxs, _, 0, hv, Heap.get?_push_size _ rfl⟩, rfl, tN_new g1 e1 hd k _ (I5.hok.fresh (Nat.le_refl _))⟩
end
end DL
end

section
namespace DL
open PySem PySem.Spec PyProof.Rows L2

section
variable {X : Cx} {Γ Γ1 Γ2 Γ3 : Gm} {a b c e : Expr} {es rest : List Expr} {d d1 d2 d3 : PyData} {ds ds2 es' : List PyData} {pos pp : Pos} {p q : Bool} {i j k : Int}
/-! ### + and * of lists and tuples -/
theorem en_cat (ha : Ee X Γ a (.list ds) Γ1) (hb : Ee X Γ1 b (.list ds2) Γ2) (hl : ds.length + ds2.length ≤ 16777216) : En X Γ (.BinOp a .Add b pos) (ds ++ ds2) Γ2 :=
  en_binR op_cat ha hb fun F H x y Q e hx hy => by
    obtain ⟨p1, xs, rfl, h1, _, a1⟩ := hx.lstAt e
    obtain ⟨p2, ys, rfl, h2, _, a2⟩ := hy.lstAt e
    exact ⟨xs ++ ys, a1.app a2, fun k => ⟨p1, p2, xs, ys, rfl, rfl, h1, h2, by rw [a1.len, a2.len, sizeLine_eq]; exact hl, k⟩⟩
theorem dda_flat {K : PySem.W.Frag} {F : Hp} {xs : List V} (h : DdA K F xs ds) : ∀ n : Nat, DdA K F (List.replicate n xs).flatten (List.replicate n ds).flatten
  | 0 => .nil
  | n + 1 => by
    rw [List.replicate_succ, List.replicate_succ, List.flatten_cons, List.flatten_cons]
    exact h.app (dda_flat h n)
theorem en_rep {n : Nat} (ha : Ee X Γ a (.list ds) Γ1) (hb : Ee X Γ1 b (.int n) Γ2) (hl : ds.length * n ≤ 16777216) (hn : n ≤ 16777216) : En X Γ (.BinOp a .Mult b pos) ((List.replicate n ds).flatten) Γ2 :=
  en_binR op_rep ha hb fun F H x y Q e hx hy => by
    obtain ⟨p1, xs, rfl, h1, _, a1⟩ := hx.lstAt e
    cases hy
    exact ⟨(List.replicate n xs).flatten, dda_flat a1 n, fun k => ⟨p1, n, xs, rfl, rfl, h1, by omega, by omega, by rw [a1.len, sizeLine_eq, Int.toNat_natCast]; exact hl, by rw [Int.toNat_natCast]; exact k⟩⟩
def rCatF (K : PySem.W.Frag) : R2 := fun x y H Q => ∃ a b xs ys, x = .ref a ∧ y = .ref b ∧ SqT K H a xs ∧ SqT K H b ys ∧ xs.length + ys.length ≤ sizeLine ∧
  (xs = [] → Q (.ref b) H) ∧ (xs ≠ [] → ys = [] → Q (.ref a) H) ∧ (xs ≠ [] → ys ≠ [] → TupNew H (xs ++ ys) Q)
theorem op_catF : OpR X (binaryOp .Add) (rCatF X.K) := by
  intro pins s σ H x y v u Q I rx ry h
  obtain ⟨a, b, xs, ys, rfl, rfl, ha, hb, hz, q0, q1, q2⟩ := h
  cases rx
  cases ry
  obtain ⟨its, r1, p1, _⟩ := I.tuple ha
  obtain ⟨its2, r2, p2, _⟩ := I.tuple hb
  by_cases hx : xs = []
  · subst hx
    cases r1
    exact cat_tup0 p1 p2 ⟨.ref b, H, I, rfl, q0 rfl⟩
  · refine HT.cat_tup p1 p2 (fun z => hx (r1.nil_iff.mp z)) (fun z => ⟨.ref a, H, I, rfl, q1 hx (r2.nil_iff.mp z)⟩) (fun z => ?_) (by rw [← r1.length, ← r2.length]; exact hz)
    exact tup_end I (r1.append r2) (by rw [List.length_append]; exact hz) (q2 hx (fun w => z (r2.nil_iff.mpr w)))
theorem dda_nil_iff {K : PySem.W.Frag} {F : Hp} {xs : List V} (h : DdA K F xs ds) : xs = [] ↔ ds = [] := by
  cases ds with
  | nil => cases h; simp
  | cons d ds => cases h; simp
theorem ee_catT (ha : Ee X Γ a (.tuple ds) Γ1) (hb : Ee X Γ1 b (.tuple ds2) Γ2) (hl : ds.length + ds2.length ≤ 16777216) : Ee X Γ (.BinOp a .Add b pos) (.tuple (ds ++ ds2)) Γ2 :=
  pe_imp (pe_op op_catF ha hb) fun σ H Q ⟨F, ev, x, k⟩ => ⟨F, ev, x, fun v F1 H1 g1 e1 dv => ⟨F1, e1, g1.fh, fun w F2 H2 g2 e2 dw => by
    obtain ⟨p1, ob1, xs, rfl, h1, _, s1, a1⟩ := (dv.up g2.ff).tupAt g2.fh
    obtain ⟨p2, ob2, ys, rfl, h2, _, s2, a2⟩ := dw.tupAt g2.fh
    refine ⟨p1, p2, xs, ys, rfl, rfl, s1, s2, by rw [a1.len, a2.len, sizeLine_eq]; exact hl, fun z => ?_, fun _ z => ?_, fun _ _ => tupNew_of (g1.trans g2) e2 (a1.app a2) k⟩
    · have hd := (dda_nil_iff a1).mp z
      subst hd
      exact k _ F2 H2 (g1.trans g2) e2 dw
    · have hd := (dda_nil_iff a2).mp z
      subst hd
      rw [List.append_nil] at k
      exact k _ F2 H2 (g1.trans g2) e2 (dv.up g2.ff)⟩⟩
/-- xs[lo:hi] of a list -/
def cutD (ds : List PyData) (lo hi : Option Int) : List PyData := (ds.drop (HT.sIx ds.length 0 lo)).take (HT.sIx ds.length ds.length hi - HT.sIx ds.length 0 lo)
theorem en_sliceHi {p2 : Pos} (ha : Ee X Γ a (.list ds) Γ1) (hb : Ee X Γ1 b (.int i) Γ1) : En X Γ (.Subscript a (.Slice none (some b) none p2) pos) (cutD ds none (some i)) Γ1 :=
  pe_imp (pe_slice sl_list ha po_none (po_some hb)) fun σ H Q ⟨F, ev, x, k⟩ => ⟨F, ev, x, fun v F1 H1 g1 e1 dv => by
    show tE X.K Γ1 (.int i) Γ1 σ H1 _
    refine ⟨F1, e1, g1.fh, fun w F2 H2 g2 e2 dw => ?_⟩
    cases dw
    obtain ⟨p1, xs, rfl, h1, s1, a1⟩ := (dv.up g2.ff).lstAt g2.fh
    refine ⟨i, rfl, p1, xs, rfl, s1, ?_⟩
    have hd : DdA X.K F2 (cutV xs none (some i)) (cutD ds none (some i)) := by
      unfold cutV cutD
      rw [a1.len]
      exact (a1.drop _).take _
    exact tN_new (g1.trans g2) e2 hd k⟩

/-! ### the frame's own lists -/
def slotDs : Slot → List PyData
  | .im _ => []
  | .ad _ => []
  | .ow ds => ds
  | .pr _ ds => ds
theorem own_get {K : PySem.W.Frag} {F H : Hp} {σ : L2.St} {s : Slot} {n : Nat} (ev : EnvOk K F H σ Γ) (h : Γ[n]? = some (some s)) (ho : isOw s = true) : ∃ l xs, σ[n]? = some (some (.ref l)) ∧ F l = none ∧ H l = some (.lst xs) ∧ DdA K F xs (slotDs s) := by
  obtain ⟨v, v1, v2⟩ := ev.ats n s h
  cases s with
  | im d => cases ho
  | ad u => cases ho
  | ow ds =>
    obtain ⟨l, xs, rfl, h1, h2, h3⟩ := v2
    exact ⟨l, xs, v1, h1, h2, h3⟩
  | pr l ds =>
    obtain ⟨xs, rfl, h1, h2, h3⟩ := v2
    exact ⟨l, xs, v1, h1, h2, h3⟩
/-- x[e], x the frame's own -/
theorem ee_ownIx {n : Nat} {s : Slot} {x : Str} {p1 : Pos} (hb : Ee X Γ b (.int i) Γ1) (h : Γ1[n]? = some (some s)) (ho : isOw s = true) (h0 : Γ[n]?.isSome = true) (hi : atI (slotDs s) i = some d) (hx : PE X (.Name x p1) (tVar n)) (hsame : ∀ K F H σ, EnvOk K F H σ Γ → ∃ v, σ[n]? = some (some v)) (hs : PlainIx b := by exact fun _ _ => rfl) :
    Ee X Γ (.Subscript (.Name x p1) b pos) d Γ1 :=
  pe_imp (pe_ix ix_list hx hb hs) fun σ H Q ⟨F, ev, x, k⟩ => by
    obtain ⟨v, hv⟩ := hsame _ _ _ _ ev
    refine ⟨v, hv, F, ev, x, fun w F2 H2 g2 e2 dw => ?_⟩
    cases dw
    obtain ⟨l, xs, h1, h2, h3, h4⟩ := own_get e2 h ho
    rw [hv] at h1
    cases h1
    obtain ⟨u, hu, du⟩ := atI_get h4 hi
    exact ⟨l, xs, i, u, rfl, rfl, SqL.of h3, hu, k u F2 H2 g2 e2 du⟩
theorem has_slot {K : PySem.W.Frag} {n : Nat} {s : Slot} (h : Γ[n]? = some (some s)) : ∀ K F H σ, EnvOk K F H σ Γ → ∃ v, σ[n]? = some (some v) := fun K F H σ ev => by
  obtain ⟨v, v1, _⟩ := ev.ats n s h
  exact ⟨v, v1⟩
/-- a list of the frame's own, read for a while as data: the answer holds no address -/
def flatD : PyData → Bool
  | .none => true
  | .bool _ => true
  | .int _ => true
  | .str _ => true
  | _ => false
theorem dd_flat {K : PySem.W.Frag} {F F' : Hp} {v : V} (hf : flatD d = true) (h : Dd K F v d) : Dd K F' v d := by
  cases h with
  | non => exact .non
  | bl b => exact .bl b
  | int i => exact .int i
  | str x => exact .str x
  | lst _ _ => cases hf
  | tup _ _ _ => cases hf
  | scr _ => cases hf
  | dct _ => cases hf
  | map _ _ => cases hf
  | dkd _ _ => cases hf
/-- a comparison whose answer is a truth value, one side a list of the frame's own -/
theorem own_rd {K : PySem.W.Frag} {r : R2} {F H : Hp} {σ : L2.St} {x y : V} {Q : VK} {l : Addr} {xs : List V} (ev : EnvOk K F H σ Γ) (xt : Ext F H) (hF : F l = none) (hH : H l = some (.lst xs)) (hd : DdA K F xs ds)
    (hx : Dd K (upd F l (.lst xs)) x d1) (hy : Dd K (upd F l (.lst xs)) y d2) (hr : RD K r d1 d2 d) (hf : flatD d = true) (q : ∀ v H', Ext H H' → Dd K F v d → Q v H') : r x y H Q := by
  have xt' : Ext (upd F l (.lst xs)) H := fun a o h => by
    by_cases ha : a = l
    · subst ha; rw [upd_same] at h; cases h; exact hH
    · rw [upd_ne ha] at h; exact xt a o h
  exact hr _ H x y Q xt' hx hy fun v F' H' i1 i2 i3 i4 dv => q v H' i3 (dd_flat hf dv)
theorem et_cmpOwnR {op : CmpOp} {r : R2} {kk : Bool} {n : Nat} {s : Slot} {x : Str} {p1 : Pos} (ho : OpR X (compareOp op) r) (ha : Ee X Γ a d1 Γ1) (h : Γ1[n]? = some (some s)) (hw : isOw s = true) (hx : PE X (.Name x p1) (tVar n)) (hr : RD X.K r d1 (.list (slotDs s)) (.bool kk)) (hm : behindInMarks op (.Name x p1) = false) :
    Et X Γ (.Compare a [op] [.Name x p1] pos) kk Γ1 :=
  pt_imp (pt_cmpR ho ha hx hm) fun σ H Q ⟨F, ev, xt, q⟩ => ⟨F, ev, xt, fun v F1 H1 g1 e1 dv => by
    obtain ⟨l, xs, h1, h2, h3, h4⟩ := own_get e1 h hw
    refine ⟨.ref l, h1, ?_⟩
    refine own_rd e1 g1.fh h2 h3 h4 (dv.up (Ext.new h2)) (.lst upd_same (h4.up (Ext.new h2))) hr rfl fun z H' eh dz => ?_
    cases dz
    exact ⟨kk, rfl, q F1 H' (g1.trans (Gr.ext (Ext.refl F1) (g1.fh.trans eh) eh fun a h => .inl h)) (e1.keep (Ext.refl F1) eh fun a h => .inl h)⟩⟩
theorem et_cmpOwnL {op : CmpOp} {r : R2} {kk : Bool} {n : Nat} {s : Slot} {x : Str} {p1 : Pos} (ho : OpR X (compareOp op) r) (hb : Ee X Γ b d2 Γ1) (h0 : ∀ K F H σ, EnvOk K F H σ Γ → ∃ v, σ[n]? = some (some v)) (h : Γ1[n]? = some (some s)) (hw : isOw s = true) (hx : PE X (.Name x p1) (tVar n)) (hr : RD X.K r (.list (slotDs s)) d2 (.bool kk)) (hm : behindInMarks op b = false) :
    Et X Γ (.Compare (.Name x p1) [op] [b] pos) kk Γ1 :=
  pt_imp (pt_cmpR ho hx hb hm) fun σ H Q ⟨F, ev, xt, q⟩ => by
    obtain ⟨v, hv⟩ := h0 _ _ _ _ ev
    refine ⟨v, hv, F, ev, xt, fun w F1 H1 g1 e1 dw => ?_⟩
    obtain ⟨l, xs, h1, h2, h3, h4⟩ := own_get e1 h hw
    rw [hv] at h1
    cases h1
    refine own_rd e1 g1.fh h2 h3 h4 (.lst upd_same (h4.up (Ext.new h2))) (dw.up (Ext.new h2)) hr rfl fun z H' eh dz => ?_
    cases dz
    exact ⟨kk, rfl, q F1 H' (g1.trans (Gr.ext (Ext.refl F1) (g1.fh.trans eh) eh fun a h => .inl h)) (e1.keep (Ext.refl F1) eh fun a h => .inl h)⟩
theorem ee_lenOwn {n : Nat} {s : Slot} {x : Str} {p1 : Pos} (hm : X.mg "len" = none) (h : Γ[n]? = some (some s)) (hw : isOw s = true) (hx : PE X (.Name x p1) (tVar n)) (hg : Gl X "len" := by rfl) (he : starEach [Expr.Name x p1] X.env = (false, eval (Expr.Name x p1) X.env) :: starEach [] X.env := by rfl) :
    Ee X Γ (.Call (.Name "len" pp) [.Name x p1] [] pos) (.int (slotDs s).length) Γ :=
  pe_imp (pe_callB call_len_seq hg hm PySem.boot_len (pa_cons hx pa_nil he) (by decide) (by decide) he rfl) fun σ H Q ⟨F, ev, xt, q⟩ => by
    obtain ⟨l, xs, h1, h2, h3, h4⟩ := own_get ev h hw
    exact ⟨.ref l, h1, l, xs, rfl, .inl (SqL.of h3), by rw [h4.len]; exact q _ F H (Gr.refl xt) ev (.int _)⟩
end

/-! ### statements -/
inductive Out where
  | nx (Γ : Gm)
  | rt (d : PyData) (Γ : Gm)
  | bk (Γ : Gm)
  | ct (Γ : Gm)
def OutOk (K : PySem.W.Frag) (F H : Hp) (σ : L2.St) (Γ : Gm) (D : Ends) : Out → Prop
  | .nx Γ' => ∀ σ' F' H', Gr F H (Own σ Γ) F' H' (Own σ' Γ') → EnvOk K F' H' σ' Γ' → D.nx σ' H'
  | .rt d Γ' => ∀ v σ' F' H', Gr F H (Own σ Γ) F' H' (Own σ' Γ') → EnvOk K F' H' σ' Γ' → Dd K F' v d → D.rt v H'
  | .bk Γ' => ∀ σ' F' H', Gr F H (Own σ Γ) F' H' (Own σ' Γ') → EnvOk K F' H' σ' Γ' → D.bk σ' H'
  | .ct Γ' => ∀ σ' F' H', Gr F H (Own σ Γ) F' H' (Own σ' Γ') → EnvOk K F' H' σ' Γ' → D.ct σ' H'
def tS (K : PySem.W.Frag) (Γ : Gm) (o : Out) : TS := fun D σ H => ∃ F, EnvOk K F H σ Γ ∧ Ext F H ∧ OutOk K F H σ Γ D o
def Es (X : Cx) (Γ : Gm) (st : Stmt) (o : Out) : Prop := PS X st (tS X.K Γ o)
def Ess (X : Cx) (Γ : Gm) (sts : List Stmt) (o : Out) : Prop := PSs X sts (tS X.K Γ o)
/-- what is wanted behind, from a later state -/
theorem OutOk.later {K : PySem.W.Frag} {F H F1 H1 : Hp} {σ σ1 : L2.St} {Γ Γ1 : Gm} {D : Ends} {o : Out} (g : Gr F H (Own σ Γ) F1 H1 (Own σ1 Γ1)) (h : OutOk K F H σ Γ D o) : OutOk K F1 H1 σ1 Γ1 D o := by
  cases o with
  | nx Γ' => exact fun σ' F' H' g' e' => h σ' F' H' (g.trans g') e'
  | rt d Γ' => exact fun v σ' F' H' g' e' dv => h v σ' F' H' (g.trans g') e' dv
  | bk Γ' => exact fun σ' F' H' g' e' => h σ' F' H' (g.trans g') e'
  | ct Γ' => exact fun σ' F' H' g' e' => h σ' F' H' (g.trans g') e'
section
variable {X : Cx} {Γ Γ1 Γ2 Γ3 : Gm} {a b c e : Expr} {es : List Expr} {d d1 d2 d3 : PyData} {ds ds2 es' : List PyData} {pos pp : Pos} {p q : Bool} {i j k : Int} {o : Out} {st : Stmt} {sts rest body orelse : List Stmt}
theorem ess_nil : Ess X Γ [] (.nx Γ) := pss_imp pss_nil fun D σ H ⟨F, ev, x, k⟩ => k σ F H (Gr.refl x) ev
theorem ess_cons (h1 : Es X Γ st (.nx Γ1)) (h2 : Ess X Γ1 rest o) : Ess X Γ (st :: rest) o :=
  pss_imp (pss_cons h1 h2) fun D σ H ⟨F, ev, x, k⟩ => ⟨F, ev, x, fun σ' F' H' g' e' => ⟨F', e', g'.fh, k.later g'⟩⟩
theorem ess_one (h1 : Es X Γ st o) : Ess X Γ [st] o := pss_one h1
/-- a statement that isn't left by its end -/
theorem ess_stop (h1 : Es X Γ st o) (ho : ∀ Γ', o ≠ .nx Γ') : Ess X Γ (st :: rest) o :=
  pss_imp (pss_cons h1 pss_never) fun D σ H ⟨F, ev, x, k⟩ => ⟨F, ev, x, by
    cases o with
    | nx Γ' => exact absurd rfl (ho Γ')
    | rt d Γ' => exact k
    | bk Γ' => exact k
    | ct Γ' => exact k⟩
theorem es_ret (h : Ee X Γ e d Γ1) : Es X Γ (.Return (some e) pos) (.rt d Γ1) := ps_imp (ps_ret h) fun D σ H ⟨F, ev, x, k⟩ => ⟨F, ev, x, fun v F1 H1 g1 e1 dv => k v σ F1 H1 g1 e1 dv⟩
theorem es_retN : Es X Γ (.Return none pos) (.rt .none Γ) := ps_imp ps_retN fun D σ H ⟨F, ev, x, k⟩ => k .non σ F H (Gr.refl x) ev .non
theorem es_expr (h : Ee X Γ e d Γ1) (hs : swapsWith e none pos.line X.env = pure false := by rfl) : Es X Γ (.Expr e pos) (.nx Γ1) := ps_imp (ps_expr h hs) fun D σ H ⟨F, ev, x, k⟩ => ⟨F, ev, x, fun v F1 H1 g1 e1 dv => k σ F1 H1 g1 e1⟩
theorem es_if {pos : Pos} (hc : Et X Γ c p Γ1) (h1 : p = true → Ess X Γ1 body o) (h2 : p = false → Ess X Γ1 orelse o) : Es X Γ (.If c body orelse pos) o :=
  ps_imp (ps_if hc (pss_guard h1) (pss_guard h2)) fun D σ H ⟨F, ev, x, k⟩ => ⟨F, ev, x, fun F1 H1 g1 e1 => by
    cases p with
    | true => exact iteT ⟨rfl, F1, e1, g1.fh, k.later g1⟩
    | false => exact iteF ⟨rfl, F1, e1, g1.fh, k.later g1⟩⟩
theorem es_ifT {pos : Pos} (hc : Et X Γ c true Γ1) (h1 : Ess X Γ1 body o) : Es X Γ (.If c body orelse pos) o := es_if hc (fun _ => h1) (fun h => by cases h)
theorem es_ifF {pos : Pos} (hc : Et X Γ c false Γ1) (h2 : Ess X Γ1 orelse o) : Es X Γ (.If c body orelse pos) o := es_if hc (fun h => by cases h) (fun _ => h2)
theorem es_break : Es X Γ (.Break pos) (.bk Γ) := ps_imp ps_break fun D σ H ⟨F, ev, x, k⟩ => k σ F H (Gr.refl x) ev
theorem es_continue : Es X Γ (.Continue pos) (.ct Γ) := ps_imp ps_continue fun D σ H ⟨F, ev, x, k⟩ => k σ F H (Gr.refl x) ev
theorem es_pass : Es X Γ (.Pass pos) (.nx Γ) := ps_imp ps_pass fun D σ H ⟨F, ev, x, k⟩ => k σ F H (Gr.refl x) ev
/-- a list of the frame's own is data from here on -/
theorem ess_freeze (n : Nat) (h : Γ[n]? = some (some (.ow ds))) (h1 : Ess X (Γ.set n (some (.im (.list ds)))) sts o) : Ess X Γ sts o :=
  pss_imp h1 fun D σ H ⟨F, ev, x, k⟩ => by
    obtain ⟨l, xs, g1, g2, g3, g4⟩ := own_get ev h rfl
    have g := Gr.freeze x ev h g1 g3
    exact ⟨_, ev.freeze h g1 g3 g4, g.fh, k.later g⟩
/-- fewer slots are known -/
theorem ess_less {Γ' : Gm} (hl : Γ'.length = Γ.length) (h : ∀ (i : Nat) (s : Slot), Γ'[i]? = some (some s) → Γ[i]? = some (some s)) (h1 : Ess X Γ' sts o) : Ess X Γ sts o :=
  pss_imp h1 fun D σ H ⟨F, ev, x, k⟩ => ⟨F, ev.less hl h, x, k.later ⟨Ext.refl F, x, fun a o h => .inl h, fun a h => .inl h, fun a ⟨i, s, q1, q2, q3⟩ => .inl ⟨i, s, h i s q1, q2, q3⟩⟩⟩

/-! assignments -/
def tGt (K : PySem.W.Frag) (Γ : Gm) (d : PyData) (is : List Nat) (Γ' : Gm) : TG := fun v σ H Q => ∃ F, EnvOk K F H σ Γ ∧ Ext F H ∧ Dd K F v d ∧
  ∀ σ' F' H', Gr F H (Own σ Γ) F' H' (Own σ' Γ') → EnvOk K F' H' σ' Γ' → (∀ vs : List Nat, (∀ i ∈ is, i ∈ vs) → wipe σ' vs = wipe σ vs) → Q σ' H'
def Eg (X : Cx) (Γ : Gm) (tg : Expr) (d : PyData) (is : List Nat) (Γ' : Gm) : Prop := PG X tg (tGt X.K Γ d is Γ')
theorem wipe_get (σ : L2.St) : ∀ (vs : List Nat) (j : Nat), (wipe σ vs)[j]? = if j ∈ vs then (σ[j]?).map (fun _ => none) else σ[j]?
  | [], j => by simp [wipe]
  | v :: vs, j => by
    show ((wipe σ vs).set v none)[j]? = _
    by_cases h : v = j
    · subst h
      rw [if_pos List.mem_cons_self]
      by_cases hl : v < σ.length
      · rw [List.getElem?_set_self (by rw [wipe_length]; exact hl), List.getElem?_eq_getElem hl]; rfl
      · rw [List.getElem?_eq_none (by rw [List.length_set, wipe_length]; omega), List.getElem?_eq_none (by omega)]; rfl
    · rw [List.getElem?_set_ne h, wipe_get σ vs j]
      have : (j ∈ v :: vs) ↔ j ∈ vs := by
        rw [List.mem_cons]
        exact ⟨fun z => z.resolve_left (fun y => h y.symm), .inr⟩
      simp only [this]
theorem wipe_set {σ : L2.St} {i : Nat} {v : Option V} {vs : List Nat} (h : i ∈ vs) : wipe (σ.set i v) vs = wipe σ vs := by
  apply List.ext_getElem?
  intro j
  rw [wipe_get, wipe_get]
  by_cases hj : j ∈ vs
  · rw [if_pos hj, if_pos hj]
    by_cases hij : i = j
    · subst hij
      by_cases hl : i < σ.length
      · rw [List.getElem?_set_self hl, List.getElem?_eq_getElem hl]; rfl
      · rw [List.getElem?_eq_none (by rw [List.length_set]; omega), List.getElem?_eq_none (by omega)]
    · rw [List.getElem?_set_ne hij]
  · rw [if_neg hj, if_neg hj, List.getElem?_set_ne (fun (z : i = j) => hj (z ▸ h))]
theorem eg_name (n : Nat) {x : Str} (hN : X.N.Nodup) (hi : X.N[n]? = some x := by rfl) (hx : Loc X.env.scope x := by first | exact Or.inl rfl | exact Or.inr rfl) (hf : X.fn x = true ∨ X.env.scope.names.lookup x = some .local := by first | exact .inl rfl | exact .inr rfl) (hl : Γ[n]?.isSome = true := by rfl) :
    Eg X Γ (.Name x pos) d [n] (Γ.set n (some (.im d))) :=
  pg_imp (pg_name hN hi hx hf) fun v σ H Q ⟨F, ev, x, dv, k⟩ => by
    have hn : n < Γ.length := by
      cases h : Γ[n]? with
      | none => rw [h] at hl; cases hl
      | some z => exact (List.getElem?_eq_some_iff.mp h).1
    exact k (σ.set n (some v)) F H ((Gr.refl x).store) (ev.store dv hn) fun vs hv => wipe_set (hv n (by simp))
theorem eg_tup2 {t1 t2 : Expr} {kk : Nat} {is1 is2 : List Nat} (hc : X.calm = true) (h1 : Eg X Γ t1 d1 is1 Γ1) (h2 : Eg X Γ1 t2 d2 is2 Γ2) (hn : (assignEach [t1, t2] X.env).length = 2 := by rfl) (hst : (assignEach [t1, t2] X.env).findIdx? (·.1) = none := by rfl)
    (hs1 : (assignEach [t1, t2] X.env).map (·.2) = assign t1 X.env :: (assignEach [t2] X.env).map (·.2) := by rfl) (hs2 : (assignEach [t2] X.env).map (·.2) = assign t2 X.env :: (assignEach [] X.env).map (·.2) := by rfl) : Eg X Γ (.Tuple [t1, t2] kk pos) (.tuple [d1, d2]) (is1 ++ is2) Γ2 :=
  pg_imp (pg_tup (n := 2) hc (pgs_cons h1 (pgs_cons h2 pgs_nil hs2) hs1) hn hst) fun v σ H Q ⟨F, ev, x, dv, k⟩ => by
    obtain ⟨a, ob, xs, rfl, _, _, hS, hA⟩ := dv.tupAt x
    obtain ⟨v1, v2, rfl, hv1, hv2⟩ := two_of hA
    refine ⟨a, [v1, v2], rfl, hS, rfl, v1, [v2], rfl, F, ev, x, hv1, fun σ1 F1 H1 g1 e1 w1 => ⟨v2, [], rfl, F1, e1, g1.fh, hv2.up g1.ff, fun σ2 F2 H2 g2 e2 w2 => ⟨rfl, ?_⟩⟩⟩
    exact k σ2 F2 H2 (g1.trans g2) e2 fun vs hvs => (w2 vs fun i hi => hvs i (List.mem_append_right _ hi)).trans (w1 vs fun i hi => hvs i (List.mem_append_left _ hi))
theorem es_asg {tg : Expr} {is : List Nat} (he : Ee X Γ e d Γ1) (hg : Eg X Γ1 tg d is Γ2) (hs : swapsWithSole [tg] e pos.line X.env = pure false := by rfl) (hw : swappedStores [tg] e X.env = pure none := by rfl) (h1 : (assignEach [tg] X.env).map (·.2) = [assign tg X.env] := by rfl) : Es X Γ (.Assign [tg] e pos) (.nx Γ2) :=
  ps_imp (ps_asg he hg hs hw h1) fun D σ H ⟨F, ev, x, k⟩ => ⟨F, ev, x, fun v F1 H1 g1 e1 dv => ⟨F1, e1, g1.fh, dv, fun σ2 F2 H2 g2 e2 _ => k σ2 F2 H2 (g1.trans g2) e2⟩⟩
theorem es_set (n : Nat) {x : Str} {pos' : Pos} (hN : X.N.Nodup) (he : Ee X Γ e d Γ1) (hi : X.N[n]? = some x := by rfl) (hx : Loc X.env.scope x := by first | exact Or.inl rfl | exact Or.inr rfl) (hl : Γ1[n]?.isSome = true := by rfl) (hs : swapsWith e (some (.Name x pos')) pos.line X.env = pure false := by rfl) (hf : X.fn x = true ∨ X.env.scope.names.lookup x = some .local := by first | exact .inl rfl | exact .inr rfl) :
    Es X Γ (.Assign [.Name x pos'] e pos) (.nx (Γ1.set n (some (.im d)))) :=
  ps_imp (ps_set hN hi hx he hs hf) fun D σ H ⟨F, ev, x, k⟩ => ⟨F, ev, x, fun v F1 H1 g1 e1 dv => by
    have hn : n < Γ1.length := by
      cases h : Γ1[n]? with
      | none => rw [h] at hl; cases hl
      | some z => exact (List.getElem?_eq_some_iff.mp h).1
    exact k (σ.set n (some v)) F1 H1 g1.store (e1.store dv hn)⟩
/-- x = a new list, kept as the frame's own -/
theorem es_own (n : Nat) {x : Str} {pos' : Pos} (hN : X.N.Nodup) (he : En X Γ e ds Γ1) (hi : X.N[n]? = some x := by rfl) (hx : Loc X.env.scope x := by first | exact Or.inl rfl | exact Or.inr rfl) (hl : Γ1[n]?.isSome = true := by rfl) (hs : swapsWith e (some (.Name x pos')) pos.line X.env = pure false := by rfl) (hf : X.fn x = true ∨ X.env.scope.names.lookup x = some .local := by first | exact .inl rfl | exact .inr rfl) :
    Es X Γ (.Assign [.Name x pos'] e pos) (.nx (Γ1.set n (some (.ow ds)))) :=
  ps_imp (ps_set hN hi hx he hs hf) fun D σ H ⟨F, ev, x, k⟩ => ⟨F, ev, x, fun l xs F1 H1 g1 e1 hF hH hl' ho dv => by
    have hn : n < Γ1.length := by
      cases h : Γ1[n]? with
      | none => rw [h] at hl; cases hl
      | some z => exact (List.getElem?_eq_some_iff.mp h).1
    refine k (σ.set n (some (.ref l))) F1 H1 ⟨g1.ff, g1.fh, g1.hh, g1.nw, fun a h => ?_⟩ (e1.storeOw hF hl' dv ho hn)
    rcases own_storeOw (by rw [e1.len]; exact hn) h with z | z
    · exact g1.aa a z
    · subst z
      exact hH.elim .inr .inl⟩
/-- x.append(e), x the frame's own -/
theorem es_append {n : Nat} {s : Slot} {x : Str} {p1 apos cpos : Pos} (hx : PE X (.Name x p1) (tVar n)) (h0 : Γ[n]? = some (some s)) (ho0 : isOw s = true) {s1 : Slot} (ha : Ea X Γ [e] [d] Γ1) (h : Γ1[n]? = some (some s1)) (ho : isOw s1 = true) (hl : (slotDs s1).length < 16777216)
    (hbase : attributeBase (.Name x p1) "append" X.env (eval (.Name x p1) X.env) = eval (.Name x p1) X.env := by rfl)
    (hfew : ((backTo cpos (starEach [e] X.env)).all (fun x => !x.1) && (backToKw cpos (keywordEach [] X.env)).all (fun x => x.1.isSome) && decide ([e].length + ([] : List Keyword).length + (if ([] : List Keyword).isEmpty then 0 else 1) < 30)) = true := by rfl)
    (hline : (apos.endLine == cpos.line) = true := by rfl) (hs : starEach [e] X.env = (false, eval e X.env) :: starEach [] X.env := by rfl) (hplain : (backTo cpos (starEach [] X.env)).any (·.1) = false := by rfl) (hsw : swapsWith (.Call (.Attribute (.Name x p1) "append" apos) [e] [] cpos) none pos.line X.env = pure false := by rfl) :
    Es X Γ (.Expr (.Call (.Attribute (.Name x p1) "append" apos) [e] [] cpos) pos) (.nx (Γ1.set n (some (reSlot (slotDs s1 ++ [d]) s1)))) :=
  ps_imp (ps_expr (pe_bm PySem.F.plainAttrs_list PySem.F.slot_list_append PySem.F.type_list_append mt_append hx ha hbase hfew hline hs hplain) hsw) fun D σ H ⟨F, ev, xt, k⟩ => by
    obtain ⟨l0, xs0, a1, a2, a3, a4⟩ := own_get ev h0 ho0
    refine ⟨.ref l0, a1, .inl ⟨rfl, xs0, SqL.of a3⟩, F, ev, xt, fun vs F1 H1 g1 e1 dv => ?_⟩
    obtain ⟨z, rfl, dz⟩ := one_of dv
    obtain ⟨l, xs, b1, b2, b3, b4⟩ := own_get e1 h ho
    rw [a1] at b1
    cases b1
    refine ⟨l0, xs, z, rfl, rfl, b3, by rw [b4.len, sizeLine_eq]; exact hl, ?_⟩
    exact k σ F1 _ (g1.trans (Gr.change g1.fh e1 h ho a1)) (e1.change h ho a1 (b4.app (.cons dz .nil)))
end
end DL
end

section
namespace DL
open PySem PySem.Spec PyProof.Rows L2

/-! ### values that are data, or new lists -/
inductive Kd where
  | d (d : PyData)
  | n (ds : List PyData)
def Kd.slot : Kd → Slot
  | .d z => .im z
  | .n zs => .ow zs
/-- H0, A0: where the values' making began -/
def KdOk (K : PySem.W.Frag) (H0 : Hp) (A0 : Addr → Prop) (F H : Hp) (A : Addr → Prop) (v : V) : Kd → Prop
  | .d d => Dd K F v d
  | .n ds => ∃ l xs, v = .ref l ∧ F l = none ∧ H l = some (.lst xs) ∧ ¬ A l ∧ DdA K F xs ds ∧ (H0 l = none ∨ A0 l)
theorem KdOk.later {K : PySem.W.Frag} {H0 : Hp} {A0 : Addr → Prop} {F H F' H' : Hp} {A A' : Addr → Prop} {v : V} {k : Kd} (g : Gr F H A F' H' A') (h : KdOk K H0 A0 F H A v k) : KdOk K H0 A0 F' H' A' v k := by
  cases k with
  | d d => exact (show Dd K F v d from h).up g.ff
  | n ds =>
    obtain ⟨l, xs, e1, e2, e3, e4, e5, e6⟩ := h
    refine ⟨l, xs, e1, ?_, (g.hh l _ e3).resolve_right e4, fun z => ?_, e5.up g.ff, e6⟩
    · cases q : F' l with
      | none => rfl
      | some o =>
        rcases g.nw l (by rw [q]; exact Option.some_ne_none o) with z | z | z
        · exact absurd e2 z
        · rw [e3] at z; cases z
        · exact absurd z e4
    · rcases g.aa l z with y | y
      · exact e4 y
      · rw [e3] at y; cases y
def tK (K : PySem.W.Frag) (Γ : Gm) (k : Kd) (Γ' : Gm) : TE := fun σ H Q => ∃ F, EnvOk K F H σ Γ ∧ Ext F H ∧
  ∀ v F' H', Gr F H (Own σ Γ) F' H' (Own σ Γ') → EnvOk K F' H' σ Γ' → KdOk K H (Own σ Γ) F' H' (Own σ Γ') v k → Q v H'
def Ek (X : Cx) (Γ : Gm) (e : Expr) (k : Kd) (Γ' : Gm) : Prop := PE X e (tK X.K Γ k Γ')
section
variable {X : Cx} {Γ Γ1 Γ2 Γ3 : Gm} {a b c e : Expr} {es : List Expr} {d d1 d2 d3 : PyData} {ds ds2 es' : List PyData} {pos pp : Pos} {p q : Bool} {i j : Int} {k k1 k2 k3 : Kd} {o : Out} {st : Stmt} {sts rest body orelse : List Stmt}
theorem ek_d (h : Ee X Γ e d Γ1) : Ek X Γ e (.d d) Γ1 := pe_imp h fun σ H Q ⟨F, ev, x, q⟩ => ⟨F, ev, x, fun v F1 H1 g1 e1 dv => q v F1 H1 g1 e1 dv⟩
theorem ek_n (h : En X Γ e ds Γ1) : Ek X Γ e (.n ds) Γ1 := pe_imp h fun σ H Q ⟨F, ev, x, q⟩ => ⟨F, ev, x, fun l xs F1 H1 g1 e1 hF hH hl ho dv => q (.ref l) F1 H1 g1 e1 ⟨l, xs, rfl, hF, hl, ho, dv, hH⟩⟩
/-- a slot is given such a value -/
theorem EnvOk.storeK {K : PySem.W.Frag} {H0 : Hp} {A0 : Addr → Prop} {F H : Hp} {σ : L2.St} {n : Nat} {v : V} (ev : EnvOk K F H σ Γ) (h : KdOk K H0 A0 F H (Own σ Γ) v k) (hn : n < Γ.length) : EnvOk K F H (σ.set n (some v)) (Γ.set n (some k.slot)) := by
  cases k with
  | d d => exact ev.store h hn
  | n ds =>
    obtain ⟨l, xs, rfl, e2, e3, e4, e5, e6⟩ := h
    exact ev.storeOw e2 e3 e5 e4 hn
theorem Gr.storeK {K : PySem.W.Frag} {F0 H0 F H : Hp} {σ0 σ : L2.St} {Γ0 : Gm} {n : Nat} {v : V} (g : Gr F0 H0 (Own σ0 Γ0) F H (Own σ Γ)) (ev : EnvOk K F H σ Γ) (h : KdOk K H0 (Own σ0 Γ0) F H (Own σ Γ) v k) (hn : n < Γ.length) : Gr F0 H0 (Own σ0 Γ0) F H (Own (σ.set n (some v)) (Γ.set n (some k.slot))) := by
  cases k with
  | d d => exact g.store
  | n ds =>
    obtain ⟨l, xs, rfl, e2, e3, e4, e5, e6⟩ := h
    refine ⟨g.ff, g.fh, g.hh, g.nw, fun a q => ?_⟩
    rcases own_storeOw (by rw [ev.len]; exact hn) q with z | z
    · exact g.aa a z
    · subst z; exact e6.elim .inr .inl
/-- another such value beside it: still not owned -/
theorem KdOk.store {K : PySem.W.Frag} {H0 : Hp} {A0 : Addr → Prop} {F H : Hp} {σ : L2.St} {n : Nat} {v w : V} (ev : EnvOk K F H σ Γ) (hn : n < Γ.length) (h : KdOk K H0 A0 F H (Own σ Γ) v k1) (h2 : KdOk K H0 A0 F H (Own σ Γ) w k2) (ne : ∀ l, k1 ≠ .d .none → k2 ≠ .d .none → (∃ ds, k1 = .n ds) → (∃ ds, k2 = .n ds) → v = .ref l → w = .ref l → False) :
    KdOk K H0 A0 F H (Own (σ.set n (some v)) (Γ.set n (some k1.slot))) w k2 := by
  cases k2 with
  | d d => exact h2
  | n ds =>
    obtain ⟨l, xs, rfl, e2, e3, e4, e5, e6⟩ := h2
    refine ⟨l, xs, rfl, e2, e3, fun z => ?_, e5, e6⟩
    cases k1 with
    | d d => exact e4 (own_store z)
    | n ds1 =>
      obtain ⟨l1, xs1, rfl, _⟩ := h
      rcases own_storeOw (by rw [ev.len]; exact hn) z with y | y
      · exact e4 y
      · subst y; exact ne l (by intro q; cases q) (by intro q; cases q) ⟨_, rfl⟩ ⟨_, rfl⟩ rfl rfl
theorem some_lt {n : Nat} (hl : Γ[n]?.isSome = true) : n < Γ.length := by
  cases h : Γ[n]? with
  | none => rw [h] at hl; cases hl
  | some z => exact (List.getElem?_eq_some_iff.mp h).1
/-- a new list made later is another one -/
theorem kd_ne {K : PySem.W.Frag} {H0 : Hp} {A0 : Addr → Prop} {F H F' H' : Hp} {A A' : Addr → Prop} {v w : V} (h : KdOk K H0 A0 F H A v k1) (h2 : KdOk K H A F' H' A' w k2) : ∀ l, (∃ ds, k1 = .n ds) → (∃ ds, k2 = .n ds) → v = .ref l → w = .ref l → False := by
  rintro l ⟨ds, rfl⟩ ⟨ds2, rfl⟩ rfl rfl
  obtain ⟨l1, xs1, e1, e2, e3, e4, e5, e6⟩ := h
  obtain ⟨l2, xs2, f1, f2, f3, f4, f5, f6⟩ := h2
  cases e1; cases f1
  rcases f6 with z | z
  · rw [e3] at z; cases z
  · exact e4 z
/-- made from a later state: made from the earlier one -/
theorem KdOk.from {K : PySem.W.Frag} {F0 H0 F1 H1 F H : Hp} {A0 A1 A : Addr → Prop} {v : V} (g : Gr F0 H0 A0 F1 H1 A1) (h : KdOk K H1 A1 F H A v k) : KdOk K H0 A0 F H A v k := by
  cases k with
  | d d => exact h
  | n ds =>
    obtain ⟨l, xs, e1, e2, e3, e4, e5, e6⟩ := h
    refine ⟨l, xs, e1, e2, e3, e4, e5, ?_⟩
    rcases e6 with z | z
    · exact g.free z
    · rcases g.aa l z with y | y
      · exact .inr y
      · exact .inl y
/-- x = e, e data or a new list -/
theorem es_setK (n : Nat) {x : Str} {pos' : Pos} (hN : X.N.Nodup) (he : Ek X Γ e k Γ1) (hi : X.N[n]? = some x := by rfl) (hx : Loc X.env.scope x := by first | exact Or.inl rfl | exact Or.inr rfl) (hl : Γ1[n]?.isSome = true := by rfl) (hs : swapsWith e (some (.Name x pos')) pos.line X.env = pure false := by rfl) (hf : X.fn x = true ∨ X.env.scope.names.lookup x = some .local := by first | exact .inl rfl | exact .inr rfl) :
    Es X Γ (.Assign [.Name x pos'] e pos) (.nx (Γ1.set n (some k.slot))) :=
  ps_imp (ps_set hN hi hx he hs hf) fun D σ H ⟨F, ev, x, kk⟩ => ⟨F, ev, x, fun v F1 H1 g1 e1 hk => kk _ F1 H1 (g1.storeK e1 hk (some_lt hl)) (e1.storeK hk (some_lt hl))⟩
/-- a, b = e1, e2 : plain locals -/
theorem es_par2 (n m : Nat) {x y : Str} {px py pt pt2 : Pos} {kt kt2 : Nat} (hc : X.calm = true) (hN : X.N.Nodup) (hnm : n ≠ m) (h1 : Ek X Γ a k1 Γ1) (h2 : Ek X Γ1 b k2 Γ2) (hi : X.N[n]? = some x := by rfl) (hj : X.N[m]? = some y := by rfl)
    (hx : X.env.scope.names.lookup x = some .local := by rfl) (hy : X.env.scope.names.lookup y = some .local := by rfl) (hl : Γ2[n]?.isSome = true := by rfl) (hl2 : Γ2[m]?.isSome = true := by rfl) (he1 : starEach [a, b] X.env = (false, eval a X.env) :: starEach [b] X.env := by rfl) (he2 : starEach [b] X.env = (false, eval b X.env) :: starEach [] X.env := by rfl)
    (hw : swappedStores [.Tuple [.Name x px, .Name y py] kt pt] (.Tuple [a, b] kt2 pt2) X.env = pure (some [x, y]) := by rfl) (hs : swapsWithSole [.Tuple [.Name x px, .Name y py] kt pt] (.Tuple [a, b] kt2 pt2) pos.line X.env = pure false := by rfl) :
    Es X Γ (.Assign [.Tuple [.Name x px, .Name y py] kt pt] (.Tuple [a, b] kt2 pt2) pos) (.nx ((Γ2.set n (some k1.slot)).set m (some k2.slot))) :=
  ps_imp (ps_par hc hN hi hj hnm hx hy (pa_cons h1 (pa_cons h2 pa_nil he2) he1) hw hs) fun D σ H ⟨F, ev, xt, kk⟩ => ⟨F, ev, xt, fun v F1 H1 g1 e1 hk1 => ⟨F1, e1, g1.fh, fun w F2 H2 g2 e2 hk2 => by
    refine ⟨v, w, rfl, ?_⟩
    have hk1' := hk1.later g2
    have hk2' := KdOk.from g1 hk2
    have g := g1.trans g2
    have l1 := some_lt hl
    have l2 : m < (Γ2.set n (some k1.slot)).length := by rw [List.length_set]; exact some_lt hl2
    have hk3 := KdOk.store e2 l1 hk1' hk2' fun l _ _ => kd_ne hk1 hk2 l
    exact kk _ F2 H2 ((g.storeK e2 hk1' l1).storeK (e2.storeK hk1' l1) hk3 l2) ((e2.storeK hk1' l1).storeK hk3 l2)⟩⟩
/-- a, b = e1, e2 by way of the tuple (a name may be captured) -/
theorem es_tup2 (n m : Nat) {x y : Str} {px py pt pt2 : Pos} {kt kt2 : Nat} (hc : X.calm = true) (hN : X.N.Nodup) (h1 : Ek X Γ a k1 Γ1) (h2 : Ek X Γ1 b k2 Γ2) (hi : X.N[n]? = some x := by rfl) (hj : X.N[m]? = some y := by rfl)
    (hx : Loc X.env.scope x := by first | exact Or.inl rfl | exact Or.inr rfl) (hy : Loc X.env.scope y := by first | exact Or.inl rfl | exact Or.inr rfl) (hf : X.fn x = true ∨ X.env.scope.names.lookup x = some .local := by first | exact .inl rfl | exact .inr rfl) (hf2 : X.fn y = true ∨ X.env.scope.names.lookup y = some .local := by first | exact .inl rfl | exact .inr rfl)
    (hl : Γ2[n]?.isSome = true := by rfl) (hl2 : Γ2[m]?.isSome = true := by rfl) (he1 : starEach [a, b] X.env = (false, eval a X.env) :: starEach [b] X.env := by rfl) (he2 : starEach [b] X.env = (false, eval b X.env) :: starEach [] X.env := by rfl)
    (hs1 : (assignEach [Expr.Name x px, .Name y py] X.env).map (·.2) = assign (.Name x px) X.env :: (assignEach [Expr.Name y py] X.env).map (·.2) := by rfl) (hs2 : (assignEach [Expr.Name y py] X.env).map (·.2) = assign (.Name y py) X.env :: (assignEach [] X.env).map (·.2) := by rfl)
    (hna : (assignEach [Expr.Name x px, .Name y py] X.env).length = 2 := by rfl) (hst : (assignEach [Expr.Name x px, .Name y py] X.env).findIdx? (·.1) = none := by rfl)
    (hs : swapsWithSole [.Tuple [.Name x px, .Name y py] kt pt] (.Tuple [a, b] kt2 pt2) pos.line X.env = pure false := by rfl) (hw : swappedStores [.Tuple [.Name x px, .Name y py] kt pt] (.Tuple [a, b] kt2 pt2) X.env = pure none := by rfl) (h1' : (assignEach [.Tuple [.Name x px, .Name y py] kt pt] X.env).map (·.2) = [assign (.Tuple [.Name x px, .Name y py] kt pt) X.env] := by rfl) :
    Es X Γ (.Assign [.Tuple [.Name x px, .Name y py] kt pt] (.Tuple [a, b] kt2 pt2) pos) (.nx ((Γ2.set n (some k1.slot)).set m (some k2.slot))) :=
  ps_imp (ps_asg (pe_tup (pa_cons h1 (pa_cons h2 pa_nil he2) he1)) (pg_tup (n := 2) hc (pgs_cons (pg_name hN hi hx hf) (pgs_cons (pg_name hN hj hy hf2) pgs_nil hs2) hs1) hna hst) hs hw h1') fun D σ H ⟨F, ev, xt, kk⟩ => ⟨F, ev, xt, fun v F1 H1 g1 e1 hk1 => ⟨F1, e1, g1.fh, fun w F2 H2 g2 e2 hk2 => by
    refine ⟨by show 2 ≤ sizeLine; decide, fun t ht => ⟨t, [v, w], rfl, SqT.of upd_same, rfl, v, [w], rfl, w, [], rfl, rfl, ?_⟩⟩
    have gt : Gr F2 H2 (Own σ Γ2) F2 (upd H2 t (.tup [v, w])) (Own σ Γ2) := Gr.newH g2.fh ht
    have e3 : EnvOk X.K F2 (upd H2 t (.tup [v, w])) σ Γ2 := e2.newH ht
    have hk1' := (hk1.later g2).later gt
    have hk2' := (KdOk.from g1 hk2).later gt
    have g := (g1.trans g2).trans gt
    have l1 := some_lt hl
    have l2 : m < (Γ2.set n (some k1.slot)).length := by rw [List.length_set]; exact some_lt hl2
    have hk3 := KdOk.store e3 l1 hk1' hk2' fun l _ _ => kd_ne hk1 hk2 l
    exact kk _ F2 _ ((g.storeK e3 hk1' l1).storeK (e3.storeK hk1' l1) hk3 l2) ((e3.storeK hk1' l1).storeK hk3 l2)⟩⟩
/-- a, b, c = e1, e2, e3 : plain locals -/
theorem es_par3 (n m l : Nat) {x y z : Str} {px py pz pt pt2 : Pos} {kt kt2 : Nat} (hc : X.calm = true) (hN : X.N.Nodup) (hnm : n ≠ m) (hnl : n ≠ l) (hml : m ≠ l) (h1 : Ek X Γ a k1 Γ1) (h2 : Ek X Γ1 b k2 Γ2) (h3 : Ek X Γ2 c k3 Γ3) (hi : X.N[n]? = some x := by rfl) (hj : X.N[m]? = some y := by rfl) (hk : X.N[l]? = some z := by rfl)
    (hx : X.env.scope.names.lookup x = some .local := by rfl) (hy : X.env.scope.names.lookup y = some .local := by rfl) (hz : X.env.scope.names.lookup z = some .local := by rfl) (hl : Γ3[n]?.isSome = true := by rfl) (hl2 : Γ3[m]?.isSome = true := by rfl) (hl3 : Γ3[l]?.isSome = true := by rfl)
    (he1 : starEach [a, b, c] X.env = (false, eval a X.env) :: starEach [b, c] X.env := by rfl) (he2 : starEach [b, c] X.env = (false, eval b X.env) :: starEach [c] X.env := by rfl) (he3 : starEach [c] X.env = (false, eval c X.env) :: starEach [] X.env := by rfl)
    (hw : swappedStores [.Tuple [.Name x px, .Name y py, .Name z pz] kt pt] (.Tuple [a, b, c] kt2 pt2) X.env = pure (some [x, y, z]) := by rfl) (hs : swapsWithSole [.Tuple [.Name x px, .Name y py, .Name z pz] kt pt] (.Tuple [a, b, c] kt2 pt2) pos.line X.env = pure false := by rfl) :
    Es X Γ (.Assign [.Tuple [.Name x px, .Name y py, .Name z pz] kt pt] (.Tuple [a, b, c] kt2 pt2) pos) (.nx (((Γ3.set n (some k1.slot)).set m (some k2.slot)).set l (some k3.slot))) :=
  ps_imp (ps_par3 hc hN hi hj hk hnm hnl hml hx hy hz (pa_cons h1 (pa_cons h2 (pa_cons h3 pa_nil he3) he2) he1) hw hs) fun D σ H ⟨F, ev, xt, kk⟩ => ⟨F, ev, xt, fun u F1 H1 g1 e1 hk1 => ⟨F1, e1, g1.fh, fun v F2 H2 g2 e2 hk2 => ⟨F2, e2, g2.fh, fun w F3 H3 g3 e3 hk3 => by
    refine ⟨u, v, w, rfl, ?_⟩
    have a1 := (hk1.later g2).later g3
    have a2 := (KdOk.from g1 hk2).later g3
    have a3 := KdOk.from (g1.trans g2) hk3
    have g := (g1.trans g2).trans g3
    have l1 := some_lt hl
    have l2 : m < (Γ3.set n (some k1.slot)).length := by rw [List.length_set]; exact some_lt hl2
    have l3 : l < ((Γ3.set n (some k1.slot)).set m (some k2.slot)).length := by rw [List.length_set, List.length_set]; exact some_lt hl3
    have b2 := KdOk.store e3 l1 a1 a2 fun l _ _ => kd_ne hk1 hk2 l
    have b3 := KdOk.store e3 l1 a1 a3 fun l _ _ => kd_ne (hk1.later g2) hk3 l
    have ev1 := e3.storeK a1 l1
    have c3 := KdOk.store ev1 l2 b2 b3 fun l _ _ => kd_ne hk2 hk3 l
    exact kk _ F3 H3 (((g.storeK e3 a1 l1).storeK ev1 b2 l2).storeK (ev1.storeK b2 l2) c3 l3) ((ev1.storeK b2 l2).storeK c3 l3)⟩⟩⟩

/-! ### x.pop(e), x[i] = e of the frame's own -/
theorem ee_popAt {n j : Nat} {s s1 : Slot} {x : Str} {p1 apos cpos : Pos} (hx : PE X (.Name x p1) (tVar n)) (h0 : Γ[n]? = some (some s)) (ho0 : isOw s = true) (ha : Ea X Γ [e] [.int i] Γ1) (h : Γ1[n]? = some (some s1)) (ho : isOw s1 = true) (h1 : -(2 ^ 63) ≤ i) (h2 : i < 2 ^ 63) (hj : seqIndex? i (slotDs s1).length = some j) (hd : (slotDs s1)[j]? = some d)
    (hbase : attributeBase (.Name x p1) "pop" X.env (eval (.Name x p1) X.env) = eval (.Name x p1) X.env := by rfl)
    (hfew : ((backTo cpos (starEach [e] X.env)).all (fun x => !x.1) && (backToKw cpos (keywordEach [] X.env)).all (fun x => x.1.isSome) && decide ([e].length + ([] : List Keyword).length + (if ([] : List Keyword).isEmpty then 0 else 1) < 30)) = true := by rfl)
    (hline : (apos.endLine == cpos.line) = true := by rfl) (hs : starEach [e] X.env = (false, eval e X.env) :: starEach [] X.env := by rfl) (hplain : (backTo cpos (starEach [] X.env)).any (·.1) = false := by rfl) :
    Ee X Γ (.Call (.Attribute (.Name x p1) "pop" apos) [e] [] cpos) d (Γ1.set n (some (reSlot ((slotDs s1).eraseIdx j) s1))) :=
  pe_imp (pe_bm PySem.F.plainAttrs_list PySem.F.slot_list_pop PySem.F.type_list_pop (fun pins s σ H x xs v us Q => mt_popAt pins s σ H x xs v us Q) hx ha hbase hfew hline hs hplain) fun σ H Q ⟨F, ev, xt, k⟩ => by
    obtain ⟨l0, xs0, a1, a2, a3, a4⟩ := own_get ev h0 ho0
    refine ⟨.ref l0, a1, .inl ⟨rfl, xs0, SqL.of a3⟩, F, ev, xt, fun vs F1 H1 g1 e1 dv => ?_⟩
    obtain ⟨z, rfl, dz⟩ := one_of dv
    cases dz
    obtain ⟨l, xs, b1, b2, b3, b4⟩ := own_get e1 h ho
    rw [a1] at b1
    cases b1
    obtain ⟨y, hy, dy⟩ := b4.get hd
    refine ⟨l0, xs, i, j, y, rfl, rfl, b3, h1, h2, by rw [b4.len]; exact hj, hy, ?_⟩
    exact k y F1 _ (g1.trans (Gr.change g1.fh e1 h ho a1)) (e1.change h ho a1 b4.erase) dy
theorem es_setIx {n j : Nat} {s s1 : Slot} {x : Str} {p1 ps : Pos} (hx : PE X (.Name x p1) (tVar n)) (he : Ee X Γ e d Γ1) (h0 : Γ1[n]? = some (some s)) (ho0 : isOw s = true) (hb : Ee X Γ1 b (.int i) Γ2) (h : Γ2[n]? = some (some s1)) (ho : isOw s1 = true) (hj : ixN (slotDs s1).length i = some j)
    (hq : ∀ v, assign (.Subscript (.Name x p1) b ps) X.env v = (do
      let ov ← holding [v] (eval (.Name x p1) X.env)
      let iv ← holding [v, ov] (eval b X.env)
      standAt ps
      holding [v, ov, iv] (setItem ov iv v)
      release [v, ov, iv] []) := by intro _; rfl)
    (hs : swapsWithSole [.Subscript (.Name x p1) b ps] e pos.line X.env = pure false := by rfl) (hw : swappedStores [.Subscript (.Name x p1) b ps] e X.env = pure none := by rfl) (h1 : (assignEach [.Subscript (.Name x p1) b ps] X.env).map (·.2) = [assign (.Subscript (.Name x p1) b ps) X.env] := by rfl) :
    Es X Γ (.Assign [.Subscript (.Name x p1) b ps] e pos) (.nx (Γ2.set n (some (reSlot ((slotDs s1).set j d) s1)))) :=
  ps_imp (ps_asg he (pg_sub hx hb set_list hq) hs hw h1) fun D σ H ⟨F, ev, xt, k⟩ => ⟨F, ev, xt, fun v F1 H1 g1 e1 dv => by
    obtain ⟨l0, xs0, a1, a2, a3, a4⟩ := own_get e1 h0 ho0
    refine ⟨.ref l0, a1, F1, e1, g1.fh, fun w F2 H2 g2 e2 dw => ?_⟩
    cases dw
    obtain ⟨l, xs, b1, b2, b3, b4⟩ := own_get e2 h ho
    rw [a1] at b1
    cases b1
    refine ⟨l0, xs, i, j, rfl, rfl, b3, by rw [b4.len]; exact hj, ?_⟩
    exact k σ F2 _ ((g1.trans g2).trans (Gr.change g2.fh e2 h ho a1)) (e2.change h ho a1 (b4.set (dv.up g2.ff)))⟩

/-! ### while -/
/-- what a loop's turn that leaves it is worth -/
def exitOut : Out → Option Out
  | .bk Γ => some (.nx Γ)
  | .rt d Γ => some (.rt d Γ)
  | _ => none
/-- a turn that goes on -/
def goesOn (o : Out) (Γ : Gm) : Prop := o = .nx Γ ∨ o = .ct Γ
theorem es_while {pos : Pos} (G G' : Nat → Gm) (ob : Nat → Out) (n : Nat) (t : Bool) (hp : PassesOwn (model X.prog X.w) X.A X.env X.xe) (hc : ∀ i, i < n → Et X (G i) c true (G' i)) (hb : ∀ i, i < n → Ess X (G' i) body (ob i) ∧ goesOn (ob i) (G (i + 1)))
    (hl : Et X (G n) c t (G' n)) (hlb : t = true → Ess X (G' n) body (ob n) ∧ exitOut (ob n) = some o) (ho : t = false → o = .nx (G' n)) : Es X (G 0) (.While c body [] pos) o := by
  have hcT : ∀ i, i ≤ n → Et X (G i) c (if i < n then true else t) (G' i) := fun i hi => by
    by_cases h : i < n
    · rw [if_pos h]; exact hc i h
    · have : i = n := by omega
      subst this
      rw [if_neg h]; exact hl
  have hcA : PT X c (fun σ H Q => ∃ i, i ≤ n ∧ tT X.K (G i) (if i < n then true else t) (G' i) σ H Q) := ⟨fun pins s σ H Q I ⟨i, hi, h⟩ => (hcT i hi).run pins s σ H Q I h⟩
  have hbA : PSs X body (fun D σ H => ∃ i, i ≤ n ∧ (i < n ∨ t = true) ∧ tS X.K (G' i) (ob i) D σ H) := ⟨fun pins s σ H D I ⟨i, hi, h1, h⟩ => by
    by_cases hlt : i < n
    · exact (hb i hlt).1.run pins s σ H D I h
    · have : i = n := by omega
      subst this
      exact (hlb (h1.resolve_left hlt)).1.run pins s σ H D I h⟩
  refine ps_imp (ps_while hp hcA hbA) fun D σ H ⟨F, ev, x, k⟩ => ?_
  refine ⟨fun m σ' H' => ∃ i, m = n - i ∧ i ≤ n ∧ ∃ F', EnvOk X.K F' H' σ' (G i) ∧ Gr F H (Own σ (G 0)) F' H' (Own σ' (G i)), ⟨n, 0, by omega, Nat.zero_le _, F, ev, Gr.refl x⟩, ?_⟩
  rintro m σ' H' ⟨i, rfl, hi, F', ev', g'⟩
  refine ⟨i, hi, F', ev', g'.fh, fun F1 H1 g1 e1 => ?_⟩
  have g := g'.trans g1
  by_cases hlt : i < n
  · rw [if_pos hlt]
    refine iteT ⟨fun σ2 H2 => ∃ F2, EnvOk X.K F2 H2 σ2 (G (i + 1)) ∧ Gr F H (Own σ (G 0)) F2 H2 (Own σ2 (G (i + 1))), fun σ2 H2 ⟨F2, e2, g2⟩ => ⟨n - (i + 1), by omega, i + 1, rfl, hlt, F2, e2, g2⟩, i, hi, .inl hlt, F1, e1, g1.fh, ?_⟩
    rcases (hb i hlt).2 with e | e <;> rw [e] <;> exact fun σ2 F2 H2 g2 e2 => ⟨F2, e2, g.trans g2⟩
  · have hin : i = n := by omega
    subst hin
    rw [if_neg hlt]
    cases t with
    | false =>
      refine iteF ?_
      have := ho rfl
      subst this
      exact k σ' F1 H1 g e1
    | true =>
      obtain ⟨_, hx⟩ := hlb rfl
      refine iteT ⟨fun _ _ => False, fun _ _ z => z.elim, i, hi, .inr rfl, F1, e1, g1.fh, ?_⟩
      cases hob : ob i with
      | nx Γ => rw [hob] at hx; cases hx
      | ct Γ => rw [hob] at hx; cases hx
      | bk Γ =>
        rw [hob] at hx; cases hx
        exact fun σ2 F2 H2 g2 e2 => k σ2 F2 H2 (g.trans g2) e2
      | rt d Γ =>
        rw [hob] at hx; cases hx
        exact fun v σ2 F2 H2 g2 e2 dv => k v σ2 F2 H2 (g.trans g2) e2 dv

/-! ### for -/
def WalkD (K : PySem.W.Frag) (J : It) (F : Hp) (ds : List PyData) : Prop := ∀ (i : Nat) (F2 H2 : Hp), Ext F F2 → Ext F2 H2 →
  (∀ d, ds[i]? = some d → J.go i H2 ∧ ∀ x H3, J.yld i H2 x H3 → ∃ F3, Ext F2 F3 ∧ Ext F3 H3 ∧ Ext H2 H3 ∧ (∀ a, F3 a ≠ none → F2 a ≠ none ∨ H2 a = none) ∧ Dd K F3 x d) ∧ (ds.length ≤ i → J.stop i H2)
def tIt (K : PySem.W.Frag) (Γ : Gm) (ds : List PyData) (Γ' : Gm) : TI := fun σ H R => ∃ F, EnvOk K F H σ Γ ∧ Ext F H ∧ ∀ J F' H', Gr F H (Own σ Γ) F' H' (Own σ Γ') → EnvOk K F' H' σ Γ' → WalkD K J F' ds → R J H'
def Ei (X : Cx) (Γ : Gm) (tg e : Expr) (ds : List PyData) (Γ' : Gm) : Prop := PI X tg e (tIt X.K Γ ds Γ')
theorem ei_list {tg : Expr} (h : Ee X Γ e (.list ds) Γ1) : Ei X Γ tg e ds Γ1 := pi_imp (pi_list h) fun σ H R ⟨F, ev, x, k⟩ => ⟨F, ev, x, fun v F1 H1 g1 e1 dv => by
  cases dv with
  | @lst a xs _ h1 h2 =>
    refine ⟨a, rfl, ⟨xs, SqL.of (g1.fh _ _ h1)⟩, k _ F1 H1 g1 e1 fun i F2 H2 x1 x2 => ⟨fun d hd => ?_, fun hle => ⟨xs, SqL.of (x2 _ _ (x1 _ _ h1)), by rw [h2.len]; exact hle⟩⟩⟩
    have hS : SqL X.K H2 a xs := SqL.of (x2 _ _ (x1 _ _ h1))
    obtain ⟨v, hv, dv⟩ := h2.get hd
    refine ⟨⟨xs, v, hS, hv⟩, fun y H3 ⟨e3, hy⟩ => ?_⟩
    subst e3
    have := hy xs hS
    rw [hv] at this; cases this
    exact ⟨F2, Ext.refl _, x2, Ext.refl _, fun a h => .inl h, dv.up x1⟩⟩
theorem ei_tup {tg : Expr} (h : Ee X Γ e (.tuple ds) Γ1) : Ei X Γ tg e ds Γ1 := pi_imp (pi_tup h) fun σ H R ⟨F, ev, x, k⟩ => ⟨F, ev, x, fun v F1 H1 g1 e1 dv => by
  cases dv with
  | @tup a ob xs _ h1 h0 h2 =>
    refine ⟨a, rfl, ⟨xs, .inl (.inr ⟨ob, g1.fh _ _ h1⟩)⟩, k _ F1 H1 g1 e1 fun i F2 H2 x1 x2 => ⟨fun d hd => ?_, fun hle => ⟨xs, .inl (.inr ⟨ob, x2 _ _ (x1 _ _ h1)⟩), by rw [h2.len]; exact hle⟩⟩⟩
    have hS : SqT X.K H2 a xs := .inl (.inr ⟨ob, x2 _ _ (x1 _ _ h1)⟩)
    obtain ⟨v, hv, dv⟩ := h2.get hd
    refine ⟨⟨xs, v, hS, hv⟩, fun y H3 ⟨e3, hy⟩ => ?_⟩
    subst e3
    have := hy xs hS
    rw [hv] at this; cases this
    exact ⟨F2, Ext.refl _, x2, Ext.refl _, fun a h => .inl h, dv.up x1⟩⟩
/-- the rngD lo, lo + 1, .., n of them -/
def rngD (lo : Int) (n : Nat) : List PyData := (List.range n).map fun i : Nat => PyData.int (lo + i)
theorem walk_rng {K : PySem.W.Frag} {F : Hp} (lo : Int) (n : Nat) : WalkD K (Itr lo n) F (rngD lo n) := fun i F2 H2 x1 x2 => by
  refine ⟨fun d hd => ?_, fun hle => by unfold rngD at hle; rw [List.length_map, List.length_range] at hle; exact hle⟩
  unfold rngD at hd
  rw [List.getElem?_map] at hd
  by_cases h : i < n
  · rw [List.getElem?_range h] at hd
    cases hd
    refine ⟨h, fun y H3 ⟨e3, hy⟩ => ?_⟩
    subst e3 hy
    exact ⟨F2, Ext.refl _, x2, Ext.refl _, fun a h => .inl h, .int _⟩
  · rw [List.getElem?_eq_none (by rw [List.length_range]; omega)] at hd; cases hd
theorem ei_range1 {tg : Expr} {p1 : Pos} (hm : X.mg "range" = none) (h : Ea X Γ [e] [.int i] Γ1) (h1 : -(2 ^ 62) ≤ i) (h2 : i < 2 ^ 62) (hg : Gl X "range" := by rfl) (hs : starEach [e] X.env = [(false, eval e X.env)] := by rfl) : Ei X Γ tg (.Call (.Name "range" p1) [e] [] pos) (rngD 0 i.toNat) Γ1 :=
  pi_imp (pi_range1 hg hm h hs) fun σ H R ⟨F, ev, x, k⟩ => ⟨F, ev, x, fun vs F1 H1 g1 e1 dv => by
    obtain ⟨v, e0, dv1⟩ := one_of dv
    cases dv1
    exact ⟨i, e0, h1, h2, k _ F1 H1 g1 e1 (walk_rng 0 _)⟩⟩
theorem ei_range2 {tg : Expr} {p1 : Pos} (hm : X.mg "range" = none) (h : Ea X Γ [a, b] [.int i, .int j] Γ1) (h1 : -(2 ^ 62) ≤ i ∧ i < 2 ^ 62 ∧ -(2 ^ 62) ≤ j ∧ j < 2 ^ 62) (hg : Gl X "range" := by rfl) (hs : starEach [a, b] X.env = [(false, eval a X.env), (false, eval b X.env)] := by rfl) (hs2 : starEach [b] X.env = [(false, eval b X.env)] := by rfl) :
    Ei X Γ tg (.Call (.Name "range" p1) [a, b] [] pos) (rngD i (j - i).toNat) Γ1 :=
  pi_imp (pi_range2 hg hm h hs hs2) fun σ H R ⟨F, ev, x, k⟩ => ⟨F, ev, x, fun vs F1 H1 g1 e1 dv => by
    obtain ⟨v, w, rfl, dv, dw⟩ := two_of dv
    cases dv; cases dw
    exact ⟨i, j, rfl, h1, k _ F1 H1 g1 e1 (walk_rng i _)⟩⟩
theorem es_for {tg iter : Expr} {pos : Pos} {is : List Nat} (G G' : Nat → Gm) (ob : Nat → Out) (n : Nat) (hp : PassesOwn (model X.prog X.w) X.A X.env X.xe) (hcm : X.calm = true) (hi : Ei X Γ tg iter ds (G 0)) (hn : n ≤ ds.length) (hg : ∀ i d, ds[i]? = some d → i ≤ n → Eg X (G i) tg d is (G' i))
    (hb : ∀ i, i < n → Ess X (G' i) body (ob i) ∧ goesOn (ob i) (G (i + 1))) (hend : (n = ds.length ∧ o = .nx (G n)) ∨ (n < ds.length ∧ Ess X (G' n) body (ob n) ∧ exitOut (ob n) = some o)) (hs : ∀ x, foldedSetIterable iter X.env x = pure x := by intro _; rfl) : Es X Γ (.For tg iter body [] pos) o := by
  have hgA : PG X tg (fun v σ H Q => ∃ i d, ds[i]? = some d ∧ i ≤ n ∧ tGt X.K (G i) d is (G' i) v σ H Q) := ⟨fun pins s σ H v u Q I r ⟨i, d, h1, h2, h⟩ => (hg i d h1 h2).run pins s σ H v u Q I r h⟩
  have hbA : PSs X body (fun D σ H => ∃ i, (i < n ∨ (i = n ∧ n < ds.length ∧ exitOut (ob n) = some o ∧ Ess X (G' n) body (ob n))) ∧ tS X.K (G' i) (ob i) D σ H) := ⟨fun pins s σ H D I ⟨i, h1, h⟩ => by
    rcases h1 with h1 | ⟨rfl, _, _, hE⟩
    · exact (hb i h1).1.run pins s σ H D I h
    · exact hE.run pins s σ H D I h⟩
  refine ps_imp (ps_for hp hcm hi hgA hbA hs) fun D σ H ⟨F, ev, x, k⟩ => ⟨F, ev, x, fun J F0 H0 g0 e0 hW => ?_⟩
  refine ⟨fun i m σ' H' => m = ds.length - i ∧ i ≤ n ∧ ∃ F', EnvOk X.K F' H' σ' (G i) ∧ Gr F0 H0 (Own σ (G 0)) F' H' (Own σ' (G i)), ⟨ds.length, by omega, Nat.zero_le _, F0, e0, Gr.refl g0.fh⟩, ?_⟩
  rintro i m σ' H' ⟨rfl, hin, F', ev', g'⟩
  have wk := hW i F' H' g'.ff g'.fh
  by_cases hlt : i < ds.length ∧ (i < n ∨ n < ds.length)
  · obtain ⟨hid, hor⟩ := hlt
    have hd : ds[i]? = some ds[i] := List.getElem?_eq_getElem hid
    obtain ⟨go, yl⟩ := wk.1 _ hd
    by_cases h1 : i < n
    · refine .inr ⟨go, fun σ2 H2 => ∃ F2, EnvOk X.K F2 H2 σ2 (G (i + 1)) ∧ Gr F0 H0 (Own σ (G 0)) F2 H2 (Own σ2 (G (i + 1))), fun σ2 H2 ⟨F2, e2, g2⟩ => ⟨ds.length - (i + 1), by omega, rfl, h1, F2, e2, g2⟩, fun y H3 hy => ?_⟩
      obtain ⟨F3, y1, y2, y3, y4, dy⟩ := yl y H3 hy
      have gy := g'.trans (Gr.ext y1 y2 y3 y4)
      refine ⟨i, _, hd, hin, F3, ev'.keep y1 y3 y4, y2, dy, fun σ4 F4 H4 g4 e4 _ => ⟨i, .inl h1, F4, e4, g4.fh, ?_⟩⟩
      rcases (hb i h1).2 with e | e <;> rw [e] <;> exact fun σ5 F5 H5 g5 e5 => ⟨F5, e5, (gy.trans g4).trans g5⟩
    · have hi' : i = n := by omega
      subst hi'
      rcases hend with ⟨z, _⟩ | ⟨z, hE, hx⟩
      · omega
      refine .inr ⟨go, fun _ _ => False, fun _ _ z => z.elim, fun y H3 hy => ?_⟩
      obtain ⟨F3, y1, y2, y3, y4, dy⟩ := yl y H3 hy
      have gy := g'.trans (Gr.ext y1 y2 y3 y4)
      refine ⟨i, _, hd, hin, F3, ev'.keep y1 y3 y4, y2, dy, fun σ4 F4 H4 g4 e4 _ => ⟨i, .inr ⟨rfl, z, hx, hE⟩, F4, e4, g4.fh, ?_⟩⟩
      have gz := g0.trans (gy.trans g4)
      cases hob : ob i with
      | nx Γ => rw [hob] at hx; cases hx
      | ct Γ => rw [hob] at hx; cases hx
      | bk Γ =>
        rw [hob] at hx; cases hx
        exact fun σ2 F2 H2 g2 e2 => k σ2 F2 H2 (gz.trans g2) e2
      | rt d Γ =>
        rw [hob] at hx; cases hx
        exact fun v σ2 F2 H2 g2 e2 dv => k v σ2 F2 H2 (gz.trans g2) e2 dv
  · have hi' : i = n ∧ n = ds.length := by omega
    obtain ⟨rfl, hnd⟩ := hi'
    rcases hend with ⟨_, ho⟩ | ⟨z, _⟩
    · subst ho
      exact .inl ⟨wk.2 (by omega), k σ' F' H' (g0.trans g') ev'⟩
    · omega
end
end DL
end

section
namespace DL
open PySem PySem.Spec PyProof.Rows L2

/-! ### comprehensions -/
def noV (Γ : Gm) (vs : List Nat) : Bool := vs.all fun i => match Γ[i]? with
  | some (some _) => false
  | _ => true
theorem noV_out {Γ : Gm} {vs : List Nat} (h : noV Γ vs = true) {i : Nat} {s : Slot} (hs : Γ[i]? = some (some s)) : i ∉ vs := fun hi => by
  have := List.all_eq_true.mp h i hi
  rw [hs] at this
  cases this
theorem agree_get {σ τ : L2.St} {vs : List Nat} (h : wipe σ vs = wipe τ vs) {i : Nat} (hi : i ∉ vs) : σ[i]? = τ[i]? := by
  have := congrArg (fun l : L2.St => l[i]?) h
  simp only [wipe_get, if_neg hi] at this
  exact this
theorem agree_len {σ τ : L2.St} {vs : List Nat} (h : wipe σ vs = wipe τ vs) : σ.length = τ.length := by
  have := congrArg List.length h
  rw [wipe_length, wipe_length] at this
  exact this
section
variable {K : PySem.W.Frag} {F H F' H' : Hp} {σ τ : L2.St} {Γ Γ' : Gm} {vs : List Nat}
/-- the slots outside vs tell all -/
theorem EnvOk.agree (e : EnvOk K F H σ Γ) (hv : noV Γ vs = true) (h : wipe σ vs = wipe τ vs) : EnvOk K F H τ Γ :=
  ⟨by rw [← agree_len h]; exact e.len, fun i s q => by rw [← agree_get h (noV_out hv q)]; exact e.ats i s q,
    fun i j s t l a b hs ht c d => e.sep i j s t l a b hs ht (by rw [agree_get h (noV_out hv a)]; exact c) (by rw [agree_get h (noV_out hv b)]; exact d)⟩
theorem own_agree (hv : noV Γ vs = true) (h : wipe σ vs = wipe τ vs) {a : Addr} (o : Own σ Γ a) : Own τ Γ a := by
  obtain ⟨i, s, q1, q2, q3⟩ := o
  exact ⟨i, s, q1, q2, by rw [← agree_get h (noV_out hv q1)]; exact q3⟩
theorem wipe_idem (σ : L2.St) (vs : List Nat) : wipe (wipe σ vs) vs = wipe σ vs := by
  apply List.ext_getElem?
  intro j
  rw [wipe_get, wipe_get]
  by_cases h : j ∈ vs
  · rw [if_pos h, if_pos h]; cases σ[j]? <;> rfl
  · rw [if_neg h, if_neg h]
theorem Gr.left {A B A' : Addr → Prop} (g : Gr F H A F' H' A') (h : ∀ a, A a → B a) : Gr F H B F' H' A' := ⟨g.ff, g.fh, fun a o q => (g.hh a o q).imp id (h a), fun a q => (g.nw a q).imp id fun z => z.imp id (h a), fun a q => (g.aa a q).imp (h a) id⟩
theorem Gr.right {A A' B' : Addr → Prop} (g : Gr F H A F' H' A') (h : ∀ a, B' a → A' a) : Gr F H A F' H' B' := ⟨g.ff, g.fh, g.hh, g.nw, fun a q => g.aa a (h a q)⟩
theorem Gr.mutNew {A A' : Addr → Prop} (g : Gr F H A F' H' A') {D : Addr} {o : HO} (h : H D = none) (hF : F' D = none) : Gr F H A F' (upd H' D o) A' :=
  ⟨g.ff, g.fh.mut hF, fun a u q => by
    rw [upd_ne (ne_of_none q h)]
    exact g.hh a u q, g.nw, g.aa⟩
theorem EnvOk.mutOther (e : EnvOk K F H σ Γ) {D : Addr} {o : HO} (h : ¬ Own σ Γ D) : EnvOk K F (upd H D o) σ Γ := by
  refine ⟨e.len, fun i s q => ?_, e.sep⟩
  obtain ⟨v, v1, v2⟩ := e.ats i s q
  refine ⟨v, v1, ?_⟩
  cases s with
  | im d => exact v2
  | ad u => exact v2
  | ow ds =>
    obtain ⟨l, xs, rfl, y1, y2, y3⟩ := v2
    have ne : l ≠ D := fun z => h ⟨i, _, q, rfl, by rw [← z]; exact v1⟩
    exact ⟨l, xs, rfl, y1, by rw [upd_ne ne]; exact y2, y3⟩
  | pr l ds =>
    obtain ⟨xs, rfl, y1, y2, y3⟩ := v2
    have ne : l ≠ D := fun z => h ⟨i, _, q, rfl, by rw [← z]; exact v1⟩
    exact ⟨xs, rfl, y1, by rw [upd_ne ne]; exact y2, y3⟩
theorem Gr.keepD {A A' : Addr → Prop} (g : Gr F H A F' H' A') {D : Addr} {o : HO} (h : H D = some o) (hF : F D = none) (ho : ¬ A D) : H' D = some o ∧ F' D = none := by
  refine ⟨(g.hh D o h).resolve_right ho, ?_⟩
  cases q : F' D with
  | none => rfl
  | some u =>
    rcases g.nw D (by rw [q]; exact Option.some_ne_none u) with z | z | z
    · exact absurd hF z
    · rw [h] at z; cases z
    · exact absurd z ho
end
def Less (Γ Γ' : Gm) : Prop := Γ'.length = Γ.length ∧ ∀ (i : Nat) (s : Slot), Γ[i]? = some (some s) → Γ'[i]? = some (some s)
theorem less_set {Γ : Gm} {n : Nat} {z : Option Slot} (h : noV Γ [n] = true) : Less Γ (Γ.set n z) := ⟨by rw [List.length_set], fun i s q => by
  rw [List.getElem?_set_ne (fun e => noV_out h q (by rw [← e]; simp))]; exact q⟩
theorem Less.trans {Γ Γ1 Γ2 : Gm} (a : Less Γ Γ1) (b : Less Γ1 Γ2) : Less Γ Γ2 := ⟨b.1.trans a.1, fun i s q => b.2 i s (a.2 i s q)⟩
theorem Less.own {Γ Γ' : Gm} (l : Less Γ Γ') {σ : L2.St} {a : Addr} (o : Own σ Γ a) : Own σ Γ' a := by
  obtain ⟨i, s, q1, q2, q3⟩ := o
  exact ⟨i, s, l.2 i s q1, q2, q3⟩
theorem Less.env {Γ Γ' : Gm} (l : Less Γ Γ') {K : PySem.W.Frag} {F H : Hp} {σ : L2.St} (e : EnvOk K F H σ Γ') : EnvOk K F H σ Γ := e.less l.1.symm l.2
def Ets (X : Cx) (Γ : Gm) (ifs : List Expr) (b : Bool) : Prop := PTs X ifs (tT X.K Γ b Γ)
section
variable {X : Cx} {Γ Γ1 Γ2 Γ3 : Gm} {a b c e : Expr} {es : List Expr} {d d1 d2 d3 : PyData} {ds ds2 es' : List PyData} {pos pp : Pos} {p q : Bool} {i j : Int}
theorem pts_imp {ifs : List Expr} {t t' : TT} (h : PTs X ifs t) (q : ∀ σ H Q, t' σ H Q → t σ H Q) : PTs X ifs t' := ⟨fun pins s σ H Q I hw => h.run pins s σ H Q I (q _ _ _ hw)⟩
theorem ets_nil : Ets X Γ [] true := pts_imp pts_nil fun σ H Q ⟨F, ev, x, k⟩ => k F H (Gr.refl x) ev
theorem ets_one (h : Et X Γ c p Γ) : Ets X Γ [c] p := pts_one h
variable {α : Type}
/-- the reading of a comprehension -/
theorem lc_read {xs : List α} {enc : α → PyData} {f : α → Bool} {h : α → PyData} {Γt : α → Gm} {vs is : List Nat} {g : TG} {tt : TT} {te : TE} {wi : TI} (hv : noV Γ1 vs = true) (hless : ∀ x, x ∈ xs → Less Γ1 (Γt x)) (his : ∀ i ∈ is, i ∈ vs) (hsz : xs.length ≤ 16777216)
    (hw : ∀ σ H R, tIt X.K Γ (xs.map enc) Γ1 σ H R → wi σ H R) (hg : ∀ x, x ∈ xs → ∀ v σ H Q, tGt X.K Γ1 (enc x) is (Γt x) v σ H Q → g v σ H Q) (ht : ∀ x, x ∈ xs → ∀ σ H Q, tT X.K (Γt x) (f x) (Γt x) σ H Q → tt σ H Q) (he : ∀ x, x ∈ xs → f x = true → ∀ σ H Q, tE X.K (Γt x) (h x) (Γt x) σ H Q → te σ H Q) :
    ∀ σ H Q, tN X.K Γ ((xs.filter f).map h) Γ1 σ H Q → tLc wi g tt te vs σ H Q := by
  intro σ H Q ⟨F, ev, x, k⟩
  refine hw σ H _ ⟨F, ev, x, fun J F1 H1 g1 e1 hW => fun D hD => ?_⟩
  have nD : ¬ Own σ Γ1 D := fun o => by
    obtain ⟨_, ys, z⟩ := e1.own_at o
    rw [hD] at z; cases z
  have ag : wipe (wipe σ vs) vs = wipe σ vs := wipe_idem σ vs
  refine ⟨fun i m H2 => m = xs.length - i ∧ i ≤ xs.length ∧ ∃ F2 acc, EnvOk X.K F2 H2 σ Γ1 ∧ Gr F1 H1 (Own σ Γ1) F2 H2 (Own σ Γ1) ∧ F2 D = none ∧ H2 D = some (.lst acc) ∧ DdA X.K F2 acc (((xs.take i).filter f).map h), ⟨xs.length, by omega, Nat.zero_le _, F1, [], e1.newH hD, Gr.newH g1.fh hD, g1.fh.free hD, upd_same, .nil⟩, ?_⟩
  rintro i m H2 ⟨rfl, hi, F2, acc, e2, g2, hF2, hH2, hd2⟩
  have wk := hW i F2 H2 g2.ff g2.fh
  by_cases hlt : i < xs.length
  · have hx : xs[i]? = some xs[i] := List.getElem?_eq_getElem hlt
    have hxm : xs[i] ∈ xs := List.getElem_mem hlt
    obtain ⟨go, yl⟩ := wk.1 (enc xs[i]) (by rw [List.getElem?_map, hx]; rfl)
    refine .inr ⟨go, fun H3 => ∃ F3 acc, EnvOk X.K F3 H3 σ Γ1 ∧ Gr F1 H1 (Own σ Γ1) F3 H3 (Own σ Γ1) ∧ F3 D = none ∧ H3 D = some (.lst acc) ∧ DdA X.K F3 acc (((xs.take (i + 1)).filter f).map h), fun H3 ⟨F3, acc, z⟩ => ⟨xs.length - (i + 1), by omega, rfl, hlt, F3, acc, z⟩, fun y H3 hy => ?_⟩
    obtain ⟨F3, y1, y2, y3, y4, dy⟩ := yl y H3 hy
    have e3 := e2.keep y1 y3 y4
    have g3 := g2.trans (Gr.ext (A := Own σ Γ1) y1 y2 y3 y4)
    have hD3 : H3 D = some (.lst acc) ∧ F3 D = none := (Gr.ext (A := Own σ Γ1) y1 y2 y3 y4).keepD hH2 hF2 nD
    refine hg xs[i] hxm y _ H3 _ ⟨F3, e3.agree hv ag.symm, y2, dy, fun σ4 F4 H4 g4 e4 w4 => ?_⟩
    have w4' := w4 vs his
    rw [ag] at w4'
    refine ⟨w4', ?_⟩
    have l4 := hless xs[i] hxm
    have g4' : Gr F3 H3 (Own σ Γ1) F4 H4 (Own σ4 (Γt xs[i])) := g4.left fun a o => own_agree hv ag o
    have back : ∀ a, Own σ Γ1 a → Own σ4 (Γt xs[i]) a := fun a o => l4.own (own_agree hv w4'.symm o)
    have nD4 : ¬ Own σ4 (Γt xs[i]) D := fun o => by
      rcases g4'.aa D o with z | z
      · exact nD z
      · rw [hD3.1] at z; cases z
    have hD4 := g4'.keepD hD3.1 hD3.2 nD
    refine ht xs[i] hxm σ4 H4 _ ⟨F4, e4, g4'.fh, fun F5 H5 g5 e5 => ?_⟩
    have hD5 := g5.keepD hD4.1 hD4.2 nD4
    have g5' := g4'.trans g5
    have htake : (xs.take (i + 1)).filter f = (xs.take i).filter f ++ (if f xs[i] = true then [xs[i]] else []) := by
      rw [List.take_add_one, hx, List.filter_append]
      congr 1
      show [xs[i]].filter f = _
      by_cases hf : f xs[i] = true
      · rw [if_pos hf, List.filter_cons_of_pos hf]; rfl
      · rw [if_neg hf, List.filter_cons_of_neg hf]; rfl
    cases hf : f xs[i] with
    | false =>
      refine iteF ⟨F5, acc, (l4.env e5).agree hv w4', (g3.trans g5').right back, hD5.2, hD5.1, ?_⟩
      rw [htake, hf]
      simp only [Bool.false_eq_true, if_false, List.append_nil]
      exact hd2.up (y1.trans g5'.ff)
    | true =>
      refine iteT (he xs[i] hxm hf σ4 H5 _ ⟨F5, e5, g5'.fh, fun v F6 H6 g6 e6 dv => ?_⟩)
      have hD6 := g6.keepD hD5.1 hD5.2 nD4
      have g6' := g5'.trans g6
      have hlen : acc.length < sizeLine := by
        rw [hd2.len, List.length_map, sizeLine_eq]
        have h1 : ((xs.take i).filter f).length ≤ (xs.take i).length := List.length_filter_le _ _
        rw [List.length_take] at h1
        omega
      refine ⟨acc, hD6.1, hlen, F6, acc ++ [v], ((l4.env e6).agree hv w4').mutOther nD, ((g3.trans g6').right back).mutNew hD hD6.2, hD6.2, upd_same, ?_⟩
      rw [htake, hf]
      simp only [if_true, List.map_append]
      exact (hd2.up (y1.trans g6'.ff)).app (.cons dv .nil)
  · have hie : i = xs.length := by omega
    subst hie
    refine .inl ⟨wk.2 (by rw [List.length_map]; exact Nat.le_refl _), ?_⟩
    rw [List.take_of_length_le (Nat.le_refl _)] at hd2
    exact k D acc F2 H2 (g1.trans g2) e2 hF2 (g1.free hD) hH2 nD hd2
theorem en_lc {elt tg iter : Expr} {ifs : List Expr} {scope : Scope} {own : List (Str × Nat)} (xs : List α) (enc : α → PyData) (f : α → Bool) (h : α → PyData) (Γt : α → Gm) (is : List Nat) (hc : X.calm = true) (hN : X.N.Nodup) (ok : BlkOk X.N X.env.scope scope own) (hv : noV Γ1 (own.map (·.2)) = true)
    (his : ∀ i ∈ is, i ∈ own.map (·.2)) (hsz : xs.length ≤ 16777216) (hless : ∀ x, x ∈ xs → Less Γ1 (Γt x)) (hi : Ei X Γ tg iter (xs.map enc) Γ1)
    (hg : ∀ x, x ∈ xs → ∀ (s : Shared) (H : Hp) (C : Addr) (cl : List (Str × Addr)) (fp : List Addr), Eg (X.blk s H scope (compEnvC scope cl C X.env) fp) Γ1 tg (enc x) is (Γt x))
    (ht : ∀ x, x ∈ xs → ∀ (s : Shared) (H : Hp) (C : Addr) (cl : List (Str × Addr)) (fp : List Addr), Ets (X.blk s H scope (compEnvC scope cl C X.env) fp) (Γt x) ifs (f x))
    (he : ∀ x, x ∈ xs → f x = true → ∀ (s : Shared) (H : Hp) (C : Addr) (cl : List (Str × Addr)) (fp : List Addr), Ee (X.blk s H scope (compEnvC scope cl C X.env) fp) (Γt x) elt (h x) (Γt x)) (hs : ∀ x, foldedSetIterable iter X.env x = pure x := by intro _; rfl) :
    En X Γ (.ListComp elt [⟨tg, iter, ifs, 0⟩] scope pos) ((xs.filter f).map h) Γ1 :=
  pe_imp (pe_lc (g := fun v σ H Q => ∃ x, x ∈ xs ∧ tGt X.K Γ1 (enc x) is (Γt x) v σ H Q) (tt := fun σ H Q => ∃ x, x ∈ xs ∧ tT X.K (Γt x) (f x) (Γt x) σ H Q) (te := fun σ H Q => ∃ x, x ∈ xs ∧ f x = true ∧ tE X.K (Γt x) (h x) (Γt x) σ H Q) hc hN hi ok
    (fun s H C cl fp => ⟨fun pins s' σ H' v u Q I r ⟨x, hx, hh⟩ => (hg x hx s H C cl fp).run pins s' σ H' v u Q I r hh⟩) (fun s H C cl fp => ⟨fun pins s' σ H' Q I ⟨x, hx, hh⟩ => (ht x hx s H C cl fp).run pins s' σ H' Q I hh⟩)
    (fun s H C cl fp => ⟨fun pins s' σ H' Q I ⟨x, hx, hf, hh⟩ => (he x hx hf s H C cl fp).run pins s' σ H' Q I hh⟩) hs)
    (lc_read hv hless his hsz (fun σ H R z => z) (fun x hx v σ H Q z => ⟨x, hx, z⟩) (fun x hx σ H Q z => ⟨x, hx, z⟩) (fun x hx hf σ H Q z => ⟨x, hx, hf, z⟩))
/-- y = [..], y a local: kept as the frame's own or as data -/
theorem es_setLc {elt tg iter : Expr} {ifs : List Expr} {scope : Scope} {own : List (Str × Nat)} (n : Nat) {y : Str} {py spos : Pos} (xs : List α) (enc : α → PyData) (f : α → Bool) (h : α → PyData) (Γt : α → Gm) (is : List Nat) (hc : X.calm = true) (hN : X.N.Nodup) (ok : BlkOk X.N X.env.scope scope own) (hv : noV Γ1 (own.map (·.2)) = true)
    (his : ∀ i ∈ is, i ∈ own.map (·.2)) (hsz : xs.length ≤ 16777216) (hless : ∀ x, x ∈ xs → Less Γ1 (Γt x)) (hi : Ei X Γ tg iter (xs.map enc) Γ1)
    (hg : ∀ x, x ∈ xs → ∀ (s : Shared) (H : Hp) (C : Addr) (cl : List (Str × Addr)) (fp : List Addr), Eg (X.blk s H scope (compEnvC scope cl C X.env) fp) Γ1 tg (enc x) is (Γt x))
    (ht : ∀ x, x ∈ xs → ∀ (s : Shared) (H : Hp) (C : Addr) (cl : List (Str × Addr)) (fp : List Addr), Ets (X.blk s H scope (compEnvC scope cl C X.env) fp) (Γt x) ifs (f x))
    (he : ∀ x, x ∈ xs → f x = true → ∀ (s : Shared) (H : Hp) (C : Addr) (cl : List (Str × Addr)) (fp : List Addr), Ee (X.blk s H scope (compEnvC scope cl C X.env) fp) (Γt x) elt (h x) (Γt x))
    (hy : X.N[n]? = some y := by rfl) (hyl : X.env.scope.names.lookup y = some .local := by rfl) (hl : Γ1[n]?.isSome = true := by rfl) (hsw : swapsWith (.ListComp elt [⟨tg, iter, ifs, 0⟩] scope pos) (some (.Name y py)) spos.line X.env = pure true := by exact sw_true rfl rfl rfl (by decide +kernel)) (hs : ∀ x, foldedSetIterable iter X.env x = pure x := by intro _; rfl) :
    Es X Γ (.Assign [.Name y py] (.ListComp elt [⟨tg, iter, ifs, 0⟩] scope pos) spos) (.nx (Γ1.set n (some (.ow ((xs.filter f).map h))))) :=
  ps_imp (ps_setLc (g := fun v σ H Q => ∃ x, x ∈ xs ∧ tGt X.K Γ1 (enc x) is (Γt x) v σ H Q) (tt := fun σ H Q => ∃ x, x ∈ xs ∧ tT X.K (Γt x) (f x) (Γt x) σ H Q) (te := fun σ H Q => ∃ x, x ∈ xs ∧ f x = true ∧ tE X.K (Γt x) (h x) (Γt x) σ H Q) hc hN hy hyl hsw hi ok
    (fun s H C cl fp => ⟨fun pins s' σ H' v u Q I r ⟨x, hx, hh⟩ => (hg x hx s H C cl fp).run pins s' σ H' v u Q I r hh⟩) (fun s H C cl fp => ⟨fun pins s' σ H' Q I ⟨x, hx, hh⟩ => (ht x hx s H C cl fp).run pins s' σ H' Q I hh⟩)
    (fun s H C cl fp => ⟨fun pins s' σ H' Q I ⟨x, hx, hf, hh⟩ => (he x hx hf s H C cl fp).run pins s' σ H' Q I hh⟩) hs) fun D σ H ⟨F, ev, x, kk⟩ =>
    lc_read hv hless his hsz (fun σ H R z => z) (fun x hx v σ H Q z => ⟨x, hx, z⟩) (fun x hx σ H Q z => ⟨x, hx, z⟩) (fun x hx hf σ H Q z => ⟨x, hx, hf, z⟩) σ H _ ⟨F, ev, x, fun l ys F1 H1 g1 e1 hF hH hl' ho dv => by
      have hk : KdOk X.K H (Own σ Γ) F1 H1 (Own σ Γ1) (.ref l) (.n ((xs.filter f).map h)) := ⟨l, ys, rfl, hF, hl', ho, dv, hH⟩
      exact kk _ F1 H1 (g1.storeK e1 hk (some_lt hl)) (e1.storeK hk (some_lt hl))⟩
end
end DL
end

section
namespace DL
open PySem PySem.Spec PyProof.Rows L2
section
variable {X : Cx} {Γ Γ1 Γ2 Γ3 : Gm} {a b c e : Expr} {es : List Expr} {d d1 d2 d3 : PyData} {ds ds2 es' : List PyData} {pos pp : Pos} {p q : Bool} {i j : Int}
variable {α β : Type}
theorem take_flat {xs : List α} {i : Nat} (hlt : i < xs.length) (g : α → List PyData) : (xs.take (i + 1)).flatMap g = (xs.take i).flatMap g ++ g xs[i] := by
  rw [List.take_add_one, List.getElem?_eq_getElem hlt, List.flatMap_append]
  simp
/-- the reading of a comprehension of two clauses, without tests -/
theorem lc2_read {xs : List α} {enc : α → PyData} {ys : α → List β} {enc1 : α → β → PyData} {h : α → β → PyData} {Γt : α → Gm} {Γu : α → β → Gm} {vs vs1 is is1 : List Nat} {g g1 : TG} {te : TE} {wi wi1 : TI} (hv : noV Γ1 vs = true) (hv1 : ∀ x, x ∈ xs → noV (Γt x) vs1 = true) (hless : ∀ x, x ∈ xs → Less Γ1 (Γt x)) (hless1 : ∀ x, x ∈ xs → ∀ y, y ∈ ys x → Less (Γt x) (Γu x y))
    (his : ∀ i ∈ is, i ∈ vs) (his1 : ∀ i ∈ is1, i ∈ vs1) (hvs : ∀ i ∈ vs1, i ∈ vs) (hsz : (xs.flatMap ys).length ≤ 16777216)
    (hw : ∀ σ H R, tIt X.K Γ (xs.map enc) Γ1 σ H R → wi σ H R) (hg : ∀ x, x ∈ xs → ∀ v σ H Q, tGt X.K Γ1 (enc x) is (Γt x) v σ H Q → g v σ H Q)
    (hw1 : ∀ x, x ∈ xs → ∀ σ H R, tIt X.K (Γt x) ((ys x).map (enc1 x)) (Γt x) σ H R → wi1 σ H R) (hg1 : ∀ x, x ∈ xs → ∀ y, y ∈ ys x → ∀ v σ H Q, tGt X.K (Γt x) (enc1 x y) is1 (Γu x y) v σ H Q → g1 v σ H Q)
    (he : ∀ x, x ∈ xs → ∀ y, y ∈ ys x → ∀ σ H Q, tE X.K (Γu x y) (h x y) (Γu x y) σ H Q → te σ H Q) :
    ∀ σ H Q, tN X.K Γ (xs.flatMap fun x => (ys x).map (h x)) Γ1 σ H Q → tLc2 wi g tYes wi1 g1 tYes te vs vs1 σ H Q := by
  intro σ H Q ⟨F, ev, x, k⟩
  refine hw σ H _ ⟨F, ev, x, fun J F1 H1 g1' e1 hW => fun D hD => ?_⟩
  have nD : ¬ Own σ Γ1 D := fun o => by
    obtain ⟨_, ys, z⟩ := e1.own_at o
    rw [hD] at z; cases z
  have ag : wipe (wipe σ vs) vs = wipe σ vs := wipe_idem σ vs
  refine ⟨fun i m H2 => m = xs.length - i ∧ i ≤ xs.length ∧ ∃ F2 acc, EnvOk X.K F2 H2 σ Γ1 ∧ Gr F1 H1 (Own σ Γ1) F2 H2 (Own σ Γ1) ∧ F2 D = none ∧ H2 D = some (.lst acc) ∧ DdA X.K F2 acc ((xs.take i).flatMap fun x => (ys x).map (h x)), ⟨xs.length, by omega, Nat.zero_le _, F1, [], e1.newH hD, Gr.newH g1'.fh hD, g1'.fh.free hD, upd_same, .nil⟩, ?_⟩
  rintro i m H2 ⟨rfl, hi, F2, acc, e2, g2, hF2, hH2, hd2⟩
  have wk := hW i F2 H2 g2.ff g2.fh
  by_cases hlt : i < xs.length
  · have hx : xs[i]? = some xs[i] := List.getElem?_eq_getElem hlt
    have hxm : xs[i] ∈ xs := List.getElem_mem hlt
    obtain ⟨go, yl⟩ := wk.1 (enc xs[i]) (by rw [List.getElem?_map, hx]; rfl)
    refine .inr ⟨go, fun H3 => ∃ F3 acc, EnvOk X.K F3 H3 σ Γ1 ∧ Gr F1 H1 (Own σ Γ1) F3 H3 (Own σ Γ1) ∧ F3 D = none ∧ H3 D = some (.lst acc) ∧ DdA X.K F3 acc ((xs.take (i + 1)).flatMap fun x => (ys x).map (h x)), fun H3 ⟨F3, acc, z⟩ => ⟨xs.length - (i + 1), by omega, rfl, hlt, F3, acc, z⟩, fun y H3 hy => ?_⟩
    obtain ⟨F3, y1, y2, y3, y4, dy⟩ := yl y H3 hy
    have e3 := e2.keep y1 y3 y4
    have g3 := g2.trans (Gr.ext (A := Own σ Γ1) y1 y2 y3 y4)
    have hD3 : H3 D = some (.lst acc) ∧ F3 D = none := (Gr.ext (A := Own σ Γ1) y1 y2 y3 y4).keepD hH2 hF2 nD
    refine hg xs[i] hxm y _ H3 _ ⟨F3, e3.agree hv ag.symm, y2, dy, fun σ4 F4 H4 g4 e4 w4 => ?_⟩
    have w4' := w4 vs his
    rw [ag] at w4'
    refine ⟨w4', ?_⟩
    unfold tYes
    refine iteT ?_
    have l4 := hless xs[i] hxm
    have g4' : Gr F3 H3 (Own σ Γ1) F4 H4 (Own σ4 (Γt xs[i])) := g4.left fun a o => own_agree hv ag o
    have back : ∀ a, Own σ Γ1 a → Own σ4 (Γt xs[i]) a := fun a o => l4.own (own_agree hv w4'.symm o)
    have nD4 : ¬ Own σ4 (Γt xs[i]) D := fun o => by
      rcases g4'.aa D o with z | z
      · exact nD z
      · rw [hD3.1] at z; cases z
    have hD4 := g4'.keepD hD3.1 hD3.2 nD
    -- the second walk
    refine hw1 xs[i] hxm σ4 H4 _ ⟨F4, e4, g4'.fh, fun J1 F5 H5 g5 e5 hW1 => ?_⟩
    have hD5 := g5.keepD hD4.1 hD4.2 nD4
    have gA := g3.trans (g4'.trans g5)
    have ag1 : wipe (wipe σ4 vs1) vs1 = wipe σ4 vs1 := wipe_idem σ4 vs1
    refine ⟨fun j m H6 => m = (ys xs[i]).length - j ∧ j ≤ (ys xs[i]).length ∧ ∃ F6 acc6, EnvOk X.K F6 H6 σ4 (Γt xs[i]) ∧ Gr F1 H1 (Own σ Γ1) F6 H6 (Own σ4 (Γt xs[i])) ∧ Ext F5 F6 ∧ F6 D = none ∧ H6 D = some (.lst acc6) ∧ DdA X.K F6 acc6 (((xs.take i).flatMap fun x => (ys x).map (h x)) ++ ((ys xs[i]).take j).map (h xs[i])),
      ⟨(ys xs[i]).length, by omega, Nat.zero_le _, F5, acc, e5, gA, Ext.refl _, hD5.2, hD5.1, ?_⟩, ?_⟩
    · simpa using hd2.up ((y1.trans g4'.ff).trans g5.ff)
    rintro j m H6 ⟨rfl, hj, F6, acc6, e6, g6, x56, hF6, hH6, hd6⟩
    have wk1 := hW1 j F6 H6 x56 g6.fh
    by_cases hjt : j < (ys xs[i]).length
    · have hyj : (ys xs[i])[j]? = some (ys xs[i])[j] := List.getElem?_eq_getElem hjt
      have hym : (ys xs[i])[j] ∈ ys xs[i] := List.getElem_mem hjt
      obtain ⟨go1, yl1⟩ := wk1.1 (enc1 xs[i] (ys xs[i])[j]) (by rw [List.getElem?_map, hyj]; rfl)
      refine .inr ⟨go1, fun H7 => ∃ F6 acc6, EnvOk X.K F6 H7 σ4 (Γt xs[i]) ∧ Gr F1 H1 (Own σ Γ1) F6 H7 (Own σ4 (Γt xs[i])) ∧ Ext F5 F6 ∧ F6 D = none ∧ H7 D = some (.lst acc6) ∧ DdA X.K F6 acc6 (((xs.take i).flatMap fun x => (ys x).map (h x)) ++ ((ys xs[i]).take (j + 1)).map (h xs[i])), fun H7 ⟨F7, acc7, z⟩ => ⟨(ys xs[i]).length - (j + 1), by omega, rfl, hjt, F7, acc7, z⟩, fun y7 H7 hy7 => ?_⟩
      obtain ⟨F7, z1, z2, z3, z4, dz⟩ := yl1 y7 H7 hy7
      have e7 := e6.keep z1 z3 z4
      have g7 := g6.trans (Gr.ext (A := Own σ4 (Γt xs[i])) z1 z2 z3 z4)
      have hD7 : H7 D = some (.lst acc6) ∧ F7 D = none := (Gr.ext (A := Own σ4 (Γt xs[i])) z1 z2 z3 z4).keepD hH6 hF6 nD4
      refine hg1 xs[i] hxm _ hym y7 _ H7 _ ⟨F7, e7.agree (hv1 xs[i] hxm) ag1.symm, z2, dz, fun σ8 F8 H8 g8 e8 w8 => ?_⟩
      have w8' := w8 vs1 his1
      rw [ag1] at w8'
      refine ⟨w8', ?_⟩
      skip
      refine iteT ?_
      have l8 := hless1 xs[i] hxm _ hym
      have g8' : Gr F7 H7 (Own σ4 (Γt xs[i])) F8 H8 (Own σ8 (Γu xs[i] (ys xs[i])[j])) := g8.left fun a o => own_agree (hv1 xs[i] hxm) ag1 o
      have back1 : ∀ a, Own σ4 (Γt xs[i]) a → Own σ8 (Γu xs[i] (ys xs[i])[j]) a := fun a o => l8.own (own_agree (hv1 xs[i] hxm) w8'.symm o)
      have nD8 : ¬ Own σ8 (Γu xs[i] (ys xs[i])[j]) D := fun o => by
        rcases g8'.aa D o with z | z
        · exact nD4 z
        · rw [hD7.1] at z; cases z
      have hD8 := g8'.keepD hD7.1 hD7.2 nD4
      refine he xs[i] hxm _ hym σ8 H8 _ ⟨F8, e8, g8'.fh, fun v F9 H9 g9 e9 dv => ?_⟩
      have hD9 := g9.keepD hD8.1 hD8.2 nD8
      have g9' := g8'.trans g9
      have hlen : acc6.length < sizeLine := by
        rw [hd6.len, sizeLine_eq]
        have h1 : (((xs.take i).flatMap fun x => (ys x).map (h x)) ++ ((ys xs[i]).take j).map (h xs[i])).length < (xs.flatMap ys).length := by
          have h2 : ((xs.take (i + 1)).flatMap ys).length ≤ (xs.flatMap ys).length := by
            conv => rhs; rw [← List.take_append_drop (i + 1) xs, List.flatMap_append]
            rw [List.length_append]; omega
          have h3 : ((xs.take (i + 1)).flatMap ys).length = ((xs.take i).flatMap ys).length + (ys xs[i]).length := by
            rw [List.take_add_one, hx, List.flatMap_append, List.length_append]; simp
          have h4 : ((xs.take i).flatMap fun x => (ys x).map (h x)).length = ((xs.take i).flatMap ys).length := by
            rw [List.length_flatMap, List.length_flatMap]; simp
          rw [List.length_append, List.length_map, List.length_take, h4]
          omega
        omega
      refine ⟨acc6, hD9.1, hlen, F9, acc6 ++ [v], ((l8.env e9).agree (hv1 xs[i] hxm) w8').mutOther nD4, ((g7.trans g9').right back1).mutNew hD hD9.2, (x56.trans z1).trans g9'.ff, hD9.2, upd_same, ?_⟩
      rw [List.take_add_one, hyj, List.map_append, ← List.append_assoc]
      exact (hd6.up (z1.trans g9'.ff)).app (.cons dv .nil)
    · have hje : j = (ys xs[i]).length := by omega
      subst hje
      refine .inl ⟨wk1.2 (by rw [List.length_map]; exact Nat.le_refl _), F6, acc6, (l4.env e6).agree hv w4', g6.right back, hF6, hH6, ?_⟩
      rw [List.take_of_length_le (Nat.le_refl _)] at hd6
      rw [take_flat hlt]
      exact hd6
  · have hie : i = xs.length := by omega
    subst hie
    refine .inl ⟨wk.2 (by rw [List.length_map]; exact Nat.le_refl _), ?_⟩
    rw [List.take_of_length_le (Nat.le_refl _)] at hd2
    exact k D acc F2 H2 (g1'.trans g2) e2 hF2 (g1'.free hD) hH2 nD hd2
theorem en_lc2 {elt tg iter tg1 iter1 : Expr} {scope : Scope} {own : List (Str × Nat)} {vs1 : List Nat} (xs : List α) (enc : α → PyData) (ys : α → List β) (enc1 : α → β → PyData) (h : α → β → PyData) (Γt : α → Gm) (Γu : α → β → Gm) (is is1 : List Nat) (hc : X.calm = true) (hN : X.N.Nodup) (ok : BlkOk X.N X.env.scope scope own) (hvs : ∀ i ∈ vs1, i ∈ own.map (·.2)) (hv : noV Γ1 (own.map (·.2)) = true)
    (hv1 : ∀ x, x ∈ xs → noV (Γt x) vs1 = true) (his : ∀ i ∈ is, i ∈ own.map (·.2)) (his1 : ∀ i ∈ is1, i ∈ vs1) (hsz : (xs.flatMap ys).length ≤ 16777216) (hless : ∀ x, x ∈ xs → Less Γ1 (Γt x)) (hless1 : ∀ x, x ∈ xs → ∀ y, y ∈ ys x → Less (Γt x) (Γu x y)) (hi : Ei X Γ tg iter (xs.map enc) Γ1)
    (hg : ∀ x, x ∈ xs → ∀ (s : Shared) (H : Hp) (C : Addr) (cl : List (Str × Addr)) (fp : List Addr), Eg (X.blk s H scope (compEnvC scope cl C X.env) fp) Γ1 tg (enc x) is (Γt x))
    (hi1 : ∀ x, x ∈ xs → ∀ (s : Shared) (H : Hp) (C : Addr) (cl : List (Str × Addr)) (fp : List Addr), Ei (X.blk s H scope (compEnvC scope cl C X.env) fp) (Γt x) tg1 iter1 ((ys x).map (enc1 x)) (Γt x))
    (hg1 : ∀ x, x ∈ xs → ∀ y, y ∈ ys x → ∀ (s : Shared) (H : Hp) (C : Addr) (cl : List (Str × Addr)) (fp : List Addr), Eg (X.blk s H scope (compEnvC scope cl C X.env) fp) (Γt x) tg1 (enc1 x y) is1 (Γu x y))
    (he : ∀ x, x ∈ xs → ∀ y, y ∈ ys x → ∀ (s : Shared) (H : Hp) (C : Addr) (cl : List (Str × Addr)) (fp : List Addr), Ee (X.blk s H scope (compEnvC scope cl C X.env) fp) (Γu x y) elt (h x y) (Γu x y))
    (hs : ∀ x, foldedSetIterable iter X.env x = pure x := by intro _; rfl) (hs1 : ∀ env x, foldedSetIterable iter1 env x = pure x := by intro _ _; rfl) :
    En X Γ (.ListComp elt [⟨tg, iter, [], 0⟩, ⟨tg1, iter1, [], 0⟩] scope pos) (xs.flatMap fun x => (ys x).map (h x)) Γ1 :=
  pe_imp (pe_lc2 (g := fun v σ H Q => ∃ x, x ∈ xs ∧ tGt X.K Γ1 (enc x) is (Γt x) v σ H Q) (wi1 := fun σ H R => ∃ x, x ∈ xs ∧ tIt X.K (Γt x) ((ys x).map (enc1 x)) (Γt x) σ H R) (g1 := fun v σ H Q => ∃ x y, x ∈ xs ∧ y ∈ ys x ∧ tGt X.K (Γt x) (enc1 x y) is1 (Γu x y) v σ H Q) (te := fun σ H Q => ∃ x y, x ∈ xs ∧ y ∈ ys x ∧ tE X.K (Γu x y) (h x y) (Γu x y) σ H Q) hc hN hi ok hvs
    (fun s H C cl fp => ⟨fun pins s' σ H' v u Q I r ⟨x, hx, hh⟩ => (hg x hx s H C cl fp).run pins s' σ H' v u Q I r hh⟩) (fun s H C cl fp => pts_nil) (fun s H C cl fp => ⟨fun pins s' σ H' R I ⟨x, hx, hh⟩ => (hi1 x hx s H C cl fp).run pins s' σ H' R I hh⟩)
    (fun s H C cl fp => ⟨fun pins s' σ H' v u Q I r ⟨x, y, hx, hy, hh⟩ => (hg1 x hx y hy s H C cl fp).run pins s' σ H' v u Q I r hh⟩) (fun s H C cl fp => pts_nil)
    (fun s H C cl fp => ⟨fun pins s' σ H' Q I ⟨x, y, hx, hy, hh⟩ => (he x hx y hy s H C cl fp).run pins s' σ H' Q I hh⟩) hs hs1)
    (lc2_read hv hv1 hless hless1 his his1 hvs hsz (fun σ H R z => z) (fun x hx v σ H Q z => ⟨x, hx, z⟩) (fun x hx σ H R z => ⟨x, hx, z⟩) (fun x hx y hy v σ H Q z => ⟨x, y, hx, hy, z⟩) (fun x hx y hy σ H Q z => ⟨x, y, hx, hy, z⟩))
end

/-! ### what a def promises -/
/-- a def of data -/
def spD (K : PySem.W.Frag) (R : List PyData → PyData → Prop) : Sp := fun vs H Q _ => ∃ (F : Hp) (ds : List PyData) (d : PyData), Ext F H ∧ DdA K F vs ds ∧ R ds d ∧
  ∀ v F' H', Ext F F' → Ext F' H' → Ext H H' → (∀ a, F' a ≠ none → F a ≠ none ∨ H a = none) → Dd K F' v d → Q v H'
/-- a def whose first argument is a list that it may change, the others data -/
def spR (K : PySem.W.Frag) (R : List PyData → List PyData → PyData → List PyData → Prop) : Sp := fun vs H Q _ => ∃ (F : Hp) (r : Addr) (xs : List V) (row : List PyData) (ws : List V) (ds : List PyData) (d : PyData) (row' : List PyData),
  vs = .ref r :: ws ∧ Ext F H ∧ F r = none ∧ H r = some (.lst xs) ∧ DdA K F xs row ∧ DdA K F ws ds ∧ R row ds d row' ∧
  ∀ v F' H' xs', Ext F F' → Ext F' H' → (∀ a o, a ≠ r → H a = some o → H' a = some o) → (∀ a, F' a ≠ none → F a ≠ none ∨ H a = none) → H' r = some (.lst xs') → DdA K F' xs' row' → Dd K F' v d → Q v H'
def slots0 (N : List Str) (ds : List PyData) : Gm := ds.map (fun d => some (.im d)) ++ List.replicate (N.length - ds.length) none
def slotsR (N : List Str) (r : Addr) (row ds : List PyData) : Gm := some (.pr r row) :: (ds.map (fun d => some (.im d)) ++ List.replicate (N.length - ds.length - 1) none)
/-- how a def's block ends with the value d -/
def endsWith (o : Out) (d : PyData) : Prop := (∃ Γ', o = .rt d Γ') ∨ (d = .none ∧ ∃ Γ', o = .nx Γ')
theorem env_args {K : PySem.W.Frag} {F H : Hp} : ∀ {vs : List V} {ds : List PyData}, DdA K F vs ds → ∀ (i : Nat) (s : Slot), (ds.map fun d => some (Slot.im d))[i]? = some (some s) → ∃ v, (vs.map some)[i]? = some (some v) ∧ SlotOk K F H v s
  | _, [], h, i, s, q => by simp at q
  | _, d :: ds, h, 0, s, q => by
    cases h with
    | cons h1 h2 =>
      cases q
      exact ⟨_, rfl, h1⟩
  | _, d :: ds, h, i + 1, s, q => by
    cases h with
    | cons h1 h2 => exact env_args h2 i s q
theorem slots_im {N : List Str} {ds : List PyData} {i : Nat} {s : Slot} (h : (slots0 N ds)[i]? = some (some s)) : (ds.map fun d => some (Slot.im d))[i]? = some (some s) := by
  unfold slots0 at h
  by_cases hi : i < ds.length
  · rw [List.getElem?_append_left (by simpa using hi)] at h; exact h
  · rw [List.getElem?_append_right (by simpa using hi), List.getElem?_replicate] at h
    split at h <;> cases h
theorem im_of {ds : List PyData} {i : Nat} {s : Slot} (h : (ds.map fun d => some (Slot.im d))[i]? = some (some s)) : isOw s = false := by
  rw [List.getElem?_map] at h
  cases e : ds[i]? with
  | none => rw [e] at h; cases h
  | some d => rw [e] at h; cases h; rfl
theorem env_start {K : PySem.W.Frag} {F H : Hp} {N : List Str} {vs : List V} {ds : List PyData} (h : DdA K F vs ds) (hl : ds.length ≤ N.length) : EnvOk K F H (L2.start N vs) (slots0 N ds) := by
  refine ⟨?_, fun i s q => ?_, fun i j s t l a b hs ht _ _ => ?_⟩
  · unfold L2.start slots0
    rw [List.length_append, List.length_append, List.length_map, List.length_map, List.length_replicate, List.length_replicate, h.len]
  · obtain ⟨v, v1, v2⟩ := env_args (H := H) h i s (slots_im q)
    refine ⟨v, ?_, v2⟩
    unfold L2.start
    rw [List.getElem?_append_left (List.getElem?_eq_some_iff.mp v1).1]
    exact v1
  · rw [im_of (slots_im a)] at hs; cases hs
theorem own_start {N : List Str} {vs : List V} {ds : List PyData} {a : Addr} (h : Own (L2.start N vs) (slots0 N ds) a) : False := by
  obtain ⟨i, s, q1, q2, _⟩ := h
  rw [im_of (slots_im q1)] at q2; cases q2
section
variable {P : Program} {w : World} {K : PySem.W.Frag} {mg : Str → Option Value} {base : Heap}
/-- THE RULE for a def of data -/
theorem ok_D {x qual : Str} {st : Stmt} {f : Addr} {fd : FuncData} {N ps : List Str} {k : Nat} {R : List PyData → PyData → Prop} (F : Fun K x qual st f fd) (S : FnScope N ps (defScope st)) (hlen : ∀ ds d, R ds d → ds.length = ps.length)
    (hbody : ∀ (cdv : Value) (A : Around) (outer : List Env) (s : Shared) (H : Hp) (E : XK) (ds : List PyData) (d : PyData), Room k (A.deeper (envOfC qual (defScope st) s.heap.objs.size f cdv)) → R ds d →
      ∃ o, Ess (cxOf CX0 P w K mg base N qual (defScope st) f cdv A outer s H E).nox (slots0 N ds) (defBody st) o ∧ endsWith o d) : FnOk P w K mg base CX0 (k + 1) f fd ps (spD K R) := by
  have hpl : ps.length ≤ N.length := by have := congrArg List.length S.pre; rw [List.length_take] at this; omega
  refine F.ok S (fun vs H Q E h => ?_) (fun cdv A outer s H vs Q E hr h => ?_)
  · obtain ⟨F, ds, d, _, hA, hR, _⟩ := h
    rw [hA.len]; exact hlen ds d hR
  · obtain ⟨F, ds, d, xt, hA, hR, q⟩ := h
    obtain ⟨o, ho, he⟩ := hbody cdv A outer s H E ds d hr hR
    refine ⟨_, ho, F, env_start hA (by rw [hlen ds d hR]; exact hpl), xt, ?_⟩
    have fin : ∀ (v : V) (σ' : L2.St) (F' H' : Hp) (Γ' : Gm), Gr F H (Own (L2.start N vs) (slots0 N ds)) F' H' (Own σ' Γ') → Dd K F' v d → Q v H' := fun v σ' F' H' Γ' g dv =>
      q v F' H' g.ff g.fh (fun a o' h => (g.hh a o' h).resolve_right fun z => own_start z) (fun a h => (g.nw a h).imp id fun z => z.resolve_right fun z => own_start z) dv
    rcases he with ⟨Γ', rfl⟩ | ⟨rfl, Γ', rfl⟩
    · exact fun v σ' F' H' g e dv => fin v σ' F' H' Γ' g dv
    · exact fun σ' F' H' g e => fin .non σ' F' H' Γ' g .non
theorem env_startR {F H : Hp} {N : List Str} {r : Addr} {xs ws : List V} {row ds : List PyData} (hr : F r = none) (hH : H r = some (.lst xs)) (hx : DdA K F xs row) (h : DdA K F ws ds) : EnvOk K F H (L2.start N (.ref r :: ws)) (slotsR N r row ds) := by
  have low : ∀ (i : Nat) (s : Slot), (slotsR N r row ds)[i + 1]? = some (some s) → (ds.map fun d => some (Slot.im d))[i]? = some (some s) := fun i s q => by
    unfold slotsR at q
    rw [List.getElem?_cons_succ] at q
    by_cases hi : i < ds.length
    · rw [List.getElem?_append_left (by simpa using hi)] at q; exact q
    · rw [List.getElem?_append_right (by simpa using hi), List.getElem?_replicate] at q
      split at q <;> cases q
  refine ⟨?_, fun i s q => ?_, fun i j s t l a b hs ht _ _ => ?_⟩
  · have := h.len
    unfold L2.start slotsR
    simp only [List.length_append, List.length_cons, List.length_map, List.length_replicate]
    omega
  · cases i with
    | zero =>
      cases q
      exact ⟨.ref r, rfl, xs, rfl, hr, hH, hx⟩
    | succ i =>
      obtain ⟨v, v1, v2⟩ := env_args (H := H) h i s (low i s q)
      refine ⟨v, ?_, v2⟩
      unfold L2.start
      rw [List.map_cons, List.cons_append, List.getElem?_cons_succ, List.getElem?_append_left (List.getElem?_eq_some_iff.mp v1).1]
      exact v1
  · cases i with
    | succ i => rw [im_of (low i s a)] at hs; cases hs
    | zero =>
      cases j with
      | zero => rfl
      | succ j => rw [im_of (low j t b)] at ht; cases ht
theorem own_startR {N : List Str} {r : Addr} {ws : List V} {row ds : List PyData} {a : Addr} (h : Own (L2.start N (.ref r :: ws)) (slotsR N r row ds) a) : a = r := by
  obtain ⟨i, s, q1, q2, q3⟩ := h
  cases i with
  | zero =>
    cases q3
    rfl
  | succ i =>
    unfold slotsR at q1
    rw [List.getElem?_cons_succ] at q1
    by_cases hi : i < ds.length
    · rw [List.getElem?_append_left (by simpa using hi)] at q1
      rw [im_of q1] at q2; cases q2
    · rw [List.getElem?_append_right (by simpa using hi), List.getElem?_replicate] at q1
      split at q1 <;> cases q1
/-- THE RULE for a def that changes its first argument; the first name holds it to the end -/
theorem ok_R {x qual : Str} {st : Stmt} {f : Addr} {fd : FuncData} {N ps : List Str} {k : Nat} {R : List PyData → List PyData → PyData → List PyData → Prop} (F : Fun K x qual st f fd) (S : FnScope N ps (defScope st)) (hlen : ∀ row ds d row', R row ds d row' → ds.length + 1 = ps.length)
    (hbody : ∀ (cdv : Value) (A : Around) (outer : List Env) (s : Shared) (H : Hp) (E : XK) (r : Addr) (row ds : List PyData) (d : PyData) (row' : List PyData), Room k (A.deeper (envOfC qual (defScope st) s.heap.objs.size f cdv)) → R row ds d row' →
      ∃ Γ', Ess (cxOf CX0 P w K mg base N qual (defScope st) f cdv A outer s H E).nox (slotsR N r row ds) (defBody st) (.rt d Γ') ∧ Γ'[0]? = some (some (.pr r row'))) : FnOk P w K mg base CX0 (k + 1) f fd ps (spR K R) := by
  refine F.ok S (fun vs H Q E h => ?_) (fun cdv A outer s H vs Q E hr h => ?_)
  · obtain ⟨F, r, xs, row, ws, ds, d, row', rfl, _, _, _, _, hA, hR, _⟩ := h
    rw [List.length_cons, hA.len]; exact hlen row ds d row' hR
  · obtain ⟨F, r, xs, row, ws, ds, d, row', rfl, xt, hF, hH, hx, hA, hR, q⟩ := h
    obtain ⟨Γ', ho, he⟩ := hbody cdv A outer s H E r row ds d row' hr hR
    refine ⟨_, ho, F, env_startR hF hH hx hA, xt, fun v σ' F' H' g e dv => ?_⟩
    obtain ⟨v', v1, xs', rfl, h1, h2, h3⟩ := e.ats 0 _ he
    refine q v F' H' xs' g.ff g.fh (fun a o' ha h => (g.hh a o' h).resolve_right fun z => ha (own_startR z)) (fun a h => ?_) h2 h3 dv
    rcases g.nw a h with z | z | z
    · exact .inl z
    · exact .inr z
    · exact absurd h1 (by rw [← own_startR z]; exact h)
end
section
variable {X : Cx} {Γ Γ1 Γ2 Γ3 : Gm} {a b c e : Expr} {es : List Expr} {d d1 d2 d3 : PyData} {ds ds2 es' : List PyData} {pos pp : Pos} {p q : Bool} {i j : Int} {k : Nat} {f : Addr} {fd : FuncData} {ps : List Str} {x : Str}
/-- f(e, ..) of data -/
theorem ee_call {R : List PyData → PyData → Prop} (F : FnOk X.prog X.w X.K X.mg X.base CX0 k f fd ps (spD X.K R)) (hr : Room k X.A) (hm : X.mg x = some (.ref f)) (hk : PySem.W.keepIn X.K (.ref f) = true) (hb : Binds X.K fd ps []) (ha : Ea X Γ (e :: es) ds Γ1) (hR : R ds d) (hg : Gl X x := by rfl) (hdb : (x == ("__debug__" : Str)) = false := by decide)
    (he : starEach (e :: es) X.env = (false, eval e X.env) :: starEach es X.env := by rfl) (hpl : (backTo pos (starEach es X.env)).any (·.1) = false := by rfl) : Ee X Γ (.Call (.Name x pp) (e :: es) [] pos) d Γ1 :=
  pe_imp (pe_call F hr hg hm hk hb .nil pass0 ha hdb he hpl) fun σ H Q ⟨F, ev, xt, kk⟩ => ⟨F, ev, xt, fun vs F1 H1 g1 e1 dv => by
    show spD X.K R (vs ++ []) H1 Q _
    rw [List.append_nil]
    exact ⟨F1, ds, d, g1.fh, dv, hR, fun v F' H' i1 i2 i3 i4 dv' => kk v F' H' (g1.trans (Gr.ext i1 i2 i3 i4)) (e1.keep i1 i3 i4) dv'⟩⟩
/-- f(row, e, ..): row the frame's own -/
theorem ee_callR {R : List PyData → List PyData → PyData → List PyData → Prop} {n : Nat} {y : Str} {py : Pos} {s s1 : Slot} {row' : List PyData} (F : FnOk X.prog X.w X.K X.mg X.base CX0 k f fd ps (spR X.K R)) (hr : Room k X.A) (hm : X.mg x = some (.ref f)) (hk : PySem.W.keepIn X.K (.ref f) = true) (hb : Binds X.K fd ps []) (hx : PE X (.Name y py) (tVar n)) (h0 : Γ[n]? = some (some s)) (ho0 : isOw s = true)
    (ha : Ea X Γ es ds Γ1) (h : Γ1[n]? = some (some s1)) (ho : isOw s1 = true) (hR : R (slotDs s1) ds d row') (hg : Gl X x := by rfl) (hdb : (x == ("__debug__" : Str)) = false := by decide)
    (he : starEach (Expr.Name y py :: es) X.env = (false, eval (Expr.Name y py) X.env) :: starEach es X.env := by rfl) (hpl : (backTo pos (starEach es X.env)).any (·.1) = false := by rfl) : Ee X Γ (.Call (.Name x pp) (.Name y py :: es) [] pos) d (Γ1.set n (some (reSlot row' s1))) :=
  pe_imp (pe_call F hr hg hm hk hb .nil pass0 (pa_cons hx ha he) hdb he hpl) fun σ H Q ⟨F, ev, xt, kk⟩ => by
    obtain ⟨l0, xs0, a1, a2, a3, a4⟩ := own_get ev h0 ho0
    refine ⟨.ref l0, a1, F, ev, xt, fun vs F1 H1 g1 e1 dv => ?_⟩
    obtain ⟨l, xs, b1, b2, b3, b4⟩ := own_get e1 h ho
    rw [a1] at b1
    cases b1
    show spR X.K R ((.ref l0 :: vs) ++ []) H1 Q _
    rw [List.append_nil]
    refine ⟨F1, l0, xs, slotDs s1, vs, ds, d, row', rfl, g1.fh, b2, b3, b4, dv, hR, fun v F' H' xs' i1 i2 i3 i4 i5 i6 dv' => ?_⟩
    have hF' : F' l0 = none := by
      cases q : F' l0 with
      | none => rfl
      | some o =>
        rcases i4 l0 (by rw [q]; exact Option.some_ne_none o) with z | z
        · exact absurd b2 z
        · rw [b3] at z; cases z
    -- first the growth with the list as it was, then the change
    have hi : n < Γ1.length := (List.getElem?_eq_some_iff.mp h).1
    have hold : Ext H1 (upd H' l0 (.lst xs)) := fun a o q => by
      by_cases hal : a = l0
      · subst hal; rw [upd_same]; rw [b3] at q; exact q
      · rw [upd_ne hal]; exact i3 a o hal q
    have fold : Ext F' (upd H' l0 (.lst xs)) := i2.mut hF'
    have e2 := e1.keep i1 hold i4
    have g2 : Gr F1 H1 (Own σ Γ1) F' (upd H' l0 (.lst xs)) (Own σ Γ1) := Gr.ext i1 fold hold i4
    have e3 := e2.change (xs := xs') (ds := row') h ho a1 i6
    have g3 := Gr.change (xs := xs') (ds := row') fold e2 h ho a1
    have eH : upd (upd H' l0 (.lst xs)) l0 (.lst xs') = H' := by
      funext a
      by_cases hal : a = l0
      · subst hal; rw [upd_same]; exact i5.symm
      · rw [upd_ne hal, upd_ne hal]
    rw [eH] at e3 g3
    exact kk v F' H' ((g1.trans g2).trans g3) e3 dv'
end
end DL
end

section
namespace PySem
open Sem (wp)
open AutoSeq1 (wpAny_loadPart')
theorem meets_enumerate_newTup (l : Addr) (items : Array Value) (n : Nat) (dct : Option Addr) (sl : Array (Option Value)) :
    Meets (Builtin.«enumerate.__new__» ⟨[.type "enumerate", .ref l], []⟩) (fun _ R s => s.heap.get? l = some { cls := .type "tuple", dict := dct, data := .seq items n, slots := sl } ∧
      R (.ok (.ret (.ref (s.heap.push { cls := .type "tuple_iterator", data := .fields #[.ref l, .int 0 0] }).objs.size)))
        { s with heap := (s.heap.push { cls := .type "tuple_iterator", data := .fields #[.ref l, .int 0 0] }).push { cls := .type "enumerate", data := .fields #[.none, .bool false, .ref s.heap.objs.size, rawInt 0, .none, .none] } }) :=
  .of_wp fun prog w A R s h => by
    obtain ⟨hp, g, d, tk, os⟩ := s; obtain ⟨hl, h⟩ := h
    have hsub := sub_enumerate
    have hL : Heap.IsTuple (Shared.heap ⟨hp, g, d, tk, os⟩) l items := ⟨_, hl, rfl, n, rfl⟩
    wp_walk using wpAny_loadPart' hl
    refine wpAny_stack_any fun st => wpAny_pure ?_
    split
    · rename_i c _ _ _ _ _
      cases (c == Value.type "enumerate")
      · wp_walk using wpAny_loadPart' hl, wpAny_pyIter_tuple hL
        exact ⟨_, rfl, h⟩
      · wp_walk using wpAny_loadPart' hl, wpAny_pyIter_tuple hL
        exact ⟨_, rfl, h⟩
    · wp_walk using wpAny_loadPart' hl, wpAny_pyIter_tuple hL
      exact ⟨_, rfl, h⟩
theorem call_enumerate_tup {prog : Program} {w : World} {A : Around} {E : Value → Shared → Prop} {s : Shared} {l : Addr} {items : Array Value} {Q : Value → Shared → Prop} (hL : s.heap.IsTuple l items)
    (h : ∀ h', IsEnum h' (s.heap.objs.size + 1) s.heap.objs.size 0 .none → h'.IsTupleIter s.heap.objs.size l 0 →
      (∀ b o, s.heap.get? b = some o → h'.get? b = some o) → Q (.ref (s.heap.objs.size + 1)) { s with heap := h' }) :
    wpAny (model prog w) A (call (.type "enumerate") [.ref l]) Q E s := by
  obtain ⟨⟨c, dct, dt, sl⟩, hl, hc, n, hd⟩ := hL
  replace hc : c = .type "tuple" := hc
  replace hd : dt = .seq items n := hd
  subst hc hd
  refine callType_new F.called_enumerate (by decide) (F.typeCall_enumerate_1 _) (F.newCall_enumerate_1 _) (fun obj => F.args_object_init_2 obj _) F.entry_enumerate_new
    (meets_enumerate_newTup l items n dct sl) ⟨hl, ?_⟩
  have hz : (s.heap.push { cls := .type "tuple_iterator", data := .fields #[.ref l, .int 0 0] }).objs.size = s.heap.objs.size + 1 := Heap.size_push ..
  show _ ∧ _
  rw [hz]
  have he : IsEnum ((s.heap.push { cls := .type "tuple_iterator", data := .fields #[.ref l, .int 0 0] }).push
      { cls := .type "enumerate", data := .fields #[.none, .bool false, .ref s.heap.objs.size, rawInt 0, .none, .none] }) (s.heap.objs.size + 1) s.heap.objs.size 0 .none := by
    have q := Heap.get?_push_size (s.heap.push { cls := .type "tuple_iterator", data := .fields #[.ref l, .int 0 0] })
      (o := { cls := .type "enumerate", data := .fields #[.none, .bool false, .ref s.heap.objs.size, rawInt 0, .none, .none] }) rfl
    rw [hz] at q
    exact q
  refine ⟨⟨_, he, rfl⟩, h _ he ⟨_, Heap.get?_push_of_some _ (Heap.get?_push_size _ rfl), rfl, rfl⟩ fun b o x => Heap.get?_push_of_some _ (Heap.get?_push_of_some _ x)⟩
end PySem
namespace DL
open PySem PySem.Spec PyProof.Rows L2
/-- the tuple at a, each item in a new pair -/
def Itf (a : Addr) : It :=
  ⟨fun i H => ∃ (ob : Obj) (xs : List V) (x : V), H a = some (.frz ob (.tup xs)) ∧ xs[i]? = some x, fun i H v H' => ∃ T x ob, v = .ref T ∧ H T = none ∧ ob.dict = none ∧ H' = upd H T (.frz ob (.tup [.int (i : Nat), x])) ∧ ∀ ob xs, H a = some (.frz ob (.tup xs)) → xs[i]? = some x,
    fun i H => ∃ (ob : Obj) (xs : List V), H a = some (.frz ob (.tup xs)) ∧ xs.length ≤ i⟩
theorem turn_enumT {P : Program} {w : World} {K : PySem.W.Frag} {elts : List Expr} {kk : Nat} {tpos : Pos} (a e it : Addr) :
    Turn P w K (.Tuple elts kk tpos) (Itf a) [e, it] e (fun i h => (∃ old, IsEnum h e it ((i : Nat) : Int) old) ∧ h.IsTupleIter it a i ∧ e ≠ it) where
  mem := by simp
  obj := fun i h st b hb => by
    obtain ⟨⟨old, he⟩, ⟨o, ho, hc, hd⟩, _⟩ := st
    have e' : b = e ∨ b = it := by simpa using hb
    rcases e' with z | z
    · rw [z]; exact ⟨_, he, fun v q => nomatch q⟩
    · rw [z]; exact ⟨o, ho, fun v q => by rw [hd] at q; cases q⟩
  keep := fun i h h' st k => let ⟨⟨old, he⟩, ⟨o, ho, hc, hd⟩, hne⟩ := st; ⟨⟨old, k e (by simp) _ he⟩, ⟨o, k it (by simp) o ho, hc, hd⟩, hne⟩
  item := by
    intro X hP hw hK hc i pins s σ H E I hf st hg
    subst hP hw hK
    obtain ⟨⟨old, he⟩, hit, hne⟩ := st
    obtain ⟨ob, xs, x, hq, hx⟩ := hg
    obtain ⟨its, rv, p, hz⟩ := I.tuple (.inl (.inr ⟨ob, hq⟩))
    obtain ⟨u, hu, ru⟩ := rv.get hx
    have hil : it < s.heap.objs.size := by obtain ⟨_, q, _⟩ := hit; exact Heap.lt_size q
    have nea : a ≠ e := ne_of_none hq (hf e (by simp)).1
    have nia : a ≠ it := ne_of_none hq (hf it (by simp)).1
    have D := PySem.Draws.tuple (prog := X.prog) (w := X.w) (A := X.A.in1) (I.ok.hd hc) it a nia its.toArray
    have hlt : i < its.toArray.size := by
      have := (List.getElem?_eq_some_iff.mp hu).1
      simpa using this
    refine wpAny_pyNext_enum_itemD D he ⟨hit, p⟩ hlt hne (by simp [hne, nea.symm]) fun x' h' tk hx' ho hst' hT hsz hk => ?_
    have hx2 : its[i]? = some x' := by rw [← Array.getElem?_toList] at hx'; exact hx'
    rw [hu] at hx2
    cases hx2
    refine ⟨_, rfl, wpAny_letOwnedTupleGo_enum (s := { s with heap := h', toks := tk + 1 }) ho fun h'' he' sb => ?_⟩
    have hel : e < s.heap.objs.size := Heap.lt_size he
    have hT2 : h''.get? s.heap.objs.size = some { cls := .type "tuple", data := .seq #[.int i tk, u] } := (sb.2 _ (Nat.ne_of_gt hel)).trans hT
    have new : ObjOk X.prog X.w (upd H s.heap.objs.size (.frz { cls := .type "tuple", data := .seq #[.int i tk, u] } (.tup [.int (i : Nat), x]))) h'' s.heap.objs.size (.frz { cls := .type "tuple", data := .seq #[.int i tk, u] } (.tup [.int (i : Nat), x])) :=
      ⟨hT2, by show 2 ≤ sizeLine; decide, [.int i tk, u], .cons ⟨_, rfl⟩ (.cons ru .nil), ⟨_, hT2, rfl, _, rfl⟩⟩
    have I1 : Inv X pins σ (upd H s.heap.objs.size (.frz { cls := .type "tuple", data := .seq #[.int i tk, u] } (.tup [.int (i : Nat), x]))) { s with heap := h'', toks := tk + 1 } :=
      I.turnedNew (ch := [e, it]) (fun b ob hb q => (sb.2 b (fun z => hb (by simp [z]))).trans (hk b ob (fun z => hb (by simp [z])) (fun z => hb (by simp [z])) q)) hf (Nat.le_refl _) new
    refine ⟨.ref s.heap.objs.size, _, I1, rfl, ⟨_, x, _, rfl, I.hok.fresh (Nat.le_refl _), rfl, rfl, fun ob' ys hy => ?_⟩, ⟨⟨u, ?_⟩, ?_, hne⟩, fun b hb => ?_⟩
    · rw [hq] at hy; cases hy; exact hx
    · have e1 : ((i + 1 : Nat) : Int) = (i : Int) + 1 := by omega
      rw [e1]; exact he'
    · obtain ⟨⟨o, ho2, hc2, hd2⟩, _⟩ := hst'
      exact ⟨o, (sb.2 it (Ne.symm hne)).trans ho2, hc2, hd2⟩
    · have hb' : b < s.heap.objs.size := by
        have e' : b = e ∨ b = it := by simpa using hb
        rcases e' with z | z
        · rw [z]; exact hel
        · rw [z]; exact hil
      rw [upd_ne (Nat.ne_of_lt hb')]
      exact (hf b hb).1
  done := by
    intro X hP hw hK hc i pins s σ H E I hf st hg
    subst hP hw hK
    obtain ⟨⟨old, he⟩, hit, hne⟩ := st
    obtain ⟨ob, xs, hq, hx⟩ := hg
    obtain ⟨its, rv, p, hz⟩ := I.tuple (.inl (.inr ⟨ob, hq⟩))
    obtain ⟨f0, f1, f2, f3, f4, f5⟩ := hf it (by simp)
    have hl := rv.length
    have nia : a ≠ it := ne_of_none hq (hf it (by simp)).1
    have D := PySem.Draws.tuple (prog := X.prog) (w := X.w) (A := X.A.in1) (I.ok.hd hc) it a nia its.toArray
    have fin : ∀ Q : Option Value → Shared → Prop, (∀ h', Heap.ExtBut it s.heap h' → Q none { s with heap := h' }) → wpAny (model X.prog X.w) X.A (pyNext (.ref e)) Q E s := fun Q hQ => by
      have hT : s.TypeIs (.ref e) "enumerate" := ⟨_, he, rfl⟩
      unfold pyNext
      refine wpAny_bind (wpAny_attempt (wpAny_callSpecial?_slot (name := Str.ofString "__next__") hT F.slot_enumerate_next
        (wpAny_call_entry F.slot_enumerate_next hT F.entry_enumerate_next ?_ (F.args_enumerate_next_1 _))))
      show wpAny _ _ (field (.ref e) 2 >>= _) _ _ _
      refine wpAny_bind (wpAny_field he rfl (x := .ref it) rfl ?_)
      refine wpAny_bind (PySem.wpAny_nextOf_tuple_end (I.ok.hd hc) hit p (by rw [List.getElem?_toArray]; rw [List.getElem?_eq_none_iff]; omega) fun h' x he' hx' => ?_)
      obtain ⟨o, ho, hc'⟩ := hx'
      refine wpAny_bind (wpAny_isInstance (T := "StopIteration") (b := true) ⟨o, ho, hc'⟩ isSubtype_stop ?_)
      exact wpAny_pure (hQ _ he')
    exact fin _ fun h' eb => ⟨rfl, I.turned (t' := s.toks) (fun b o hb q => eb b o hb q) f0 f1 f3 f4 f5⟩
  self := fun A i s Q E st h => let ⟨⟨_, he⟩, _⟩ := st; wpAny_pyIter_enum he h
section
variable {X : Cx} {Γ Γ1 : Gm} {e : Expr} {ds : List PyData} {pos : Pos}
theorem ei_enumT {elts : List Expr} {kk : Nat} {p tpos : Pos} (hm : X.mg "enumerate" = none) (h : Ee X Γ e (.tuple ds) Γ1) (hg : Gl X "enumerate" := by rfl) (hs0 : starEach [e] X.env = (false, eval e X.env) :: starEach [] X.env := by rfl) (hs : starEach [e] X.env = [(false, eval e X.env)] := by rfl) :
    Ei X Γ (.Tuple elts kk tpos) (.Call (.Name "enumerate" p) [e] [] pos) ((List.range ds.length).map fun i => .tuple [.int (i : Nat), ds.getD i .none]) Γ1 := by
  refine ⟨fun pins s σ H R I hR => ?_⟩
  obtain ⟨F, ev, x, k⟩ := hR
  have ha : PA X [e] (tCons (tE X.K Γ (.tuple ds) Γ1) tNil) := pa_cons h pa_nil hs0
  refine Call_ (ld_blt I hg hm boot_enumerate (PyProof.Rows.callWith_type1 (thn (ha.run pos pins s σ H (fun vs H1 => ∃ v F1, vs = [v] ∧ Gr F H (Own σ Γ) F1 H1 (Own σ Γ1) ∧ EnvOk X.K F1 H1 σ Γ1 ∧ Dd X.K F1 v (.tuple ds)) I ⟨F, ev, x, fun v F1 H1 g1 e1 dv => ⟨v, F1, rfl, g1, e1, dv⟩⟩) fun us s1 hh => ?_) hs rfl))
  obtain ⟨vs, H1, I1, r1, v, F1, rfl, g1, e1, dv⟩ := hh
  obtain ⟨u, rfl, ru⟩ := Vals.one r1
  cases dv with
  | @tup a ob xs _ h1 h0 hA =>
    cases ru
    have hH1 := g1.fh _ _ h1
    obtain ⟨its, rv, p', hz⟩ := I1.tuple (.inl (.inr ⟨ob, hH1⟩))
    refine call_enumerate_tup p' fun h' he hit hk => wpAny_pyIter_enum he ?_
    have I2 : Inv X pins σ H1 { s1 with heap := h' } := I1.kept (t' := s1.toks) hk
    refine ⟨s1.heap.objs.size + 1, [s1.heap.objs.size + 1, s1.heap.objs.size], _, _, H1, rfl, I2, turn_enumT a (s1.heap.objs.size + 1) s1.heap.objs.size, ⟨⟨.none, he⟩, hit, Nat.succ_ne_self _⟩, fun b hb => ?_, ?_⟩
    · have e' : b = s1.heap.objs.size + 1 ∨ b = s1.heap.objs.size := by simpa using hb
      have hle : s1.heap.objs.size ≤ b := by
        rcases e' with z | z
        · rw [z]; exact Nat.le_add_right _ _
        · rw [z]; exact Nat.le_refl _
      exact I1.fpOk hle (I1.hok.fresh hle)
    · refine k _ F1 H1 g1 e1 fun i F2 H2 x1 x2 => ⟨fun d hd => ?_, fun hle => ⟨ob, xs, x2 _ _ (x1 _ _ h1), by rw [hA.len]; simpa using hle⟩⟩
      have hi : i < ds.length := by
        have := (List.getElem?_eq_some_iff.mp hd).1
        simpa using this
      have hdi : ds[i]? = some ds[i] := List.getElem?_eq_getElem hi
      rw [List.getElem?_map, List.getElem?_range hi] at hd
      cases hd
      obtain ⟨w, hw, dw⟩ := hA.get hdi
      refine ⟨⟨ob, xs, w, x2 _ _ (x1 _ _ h1), hw⟩, fun y H3 hy => ?_⟩
      obtain ⟨T, z, ob2, rfl, hT, hd2, rfl, hz2⟩ := hy
      have := hz2 ob xs (x2 _ _ (x1 _ _ h1))
      rw [hw] at this
      cases this
      have gn : Gr F2 H2 (fun _ => False) (upd F2 T (.frz ob2 (.tup [.int (i : Nat), w]))) (upd H2 T (.frz ob2 (.tup [.int (i : Nat), w]))) (fun _ => False) := Gr.new x2 hT
      refine ⟨_, gn.ff, gn.fh, fun a o q => (gn.hh a o q).resolve_right id, fun a q => (gn.nw a q).imp id fun z => z.resolve_right id, .tup upd_same hd2 (.cons (.int _) (.cons ?_ .nil))⟩
      rw [List.getD_eq_getElem?_getD, hdi]
      exact (dw.up x1).up gn.ff
end
end DL
end

section
namespace DL
open PySem PySem.Spec PyProof.Rows L2

/-- a def of the text where the top has put it -/
structure Fn (K : PySem.W.Frag) (mg : Str → Option Value) (x : Str) (st : Stmt) (ps : List Str) : Prop where
  ex : ∃ f fd, mg x = some (.ref f) ∧ Fun K x x st f fd ∧ L2.Binds K fd ps []
/-- a def of the text, with its promise -/
structure Ca (P : Program) (w : World) (K : PySem.W.Frag) (mg : Str → Option Value) (base : Heap) (k : Nat) (x : Str) (ps : List Str) (sp : Sp) : Prop where
  ex : ∃ f fd, mg x = some (.ref f) ∧ PySem.W.keepIn K (.ref f) = true ∧ L2.Binds K fd ps [] ∧ FnOk P w K mg base CX0 k f fd ps sp
section
variable {P : Program} {w : World} {K : PySem.W.Frag} {mg : Str → Option Value} {base : Heap} {k : Nat} {x : Str} {ps : List Str}
theorem ca_D {st : Stmt} {N : List Str} {R : List PyData → PyData → Prop} (F : Fn K mg x st ps) (S : FnScope N ps (defScope st)) (hlen : ∀ ds d, R ds d → ds.length = ps.length)
    (hbody : ∀ (f : Addr) (cdv : Value) (A : Around) (outer : List Env) (s : Shared) (H : Hp) (E : XK) (ds : List PyData) (d : PyData), Room k (A.deeper (envOfC x (defScope st) s.heap.objs.size f cdv)) → R ds d →
      ∃ o, Ess (cxOf CX0 P w K mg base N x (defScope st) f cdv A outer s H E).nox (slots0 N ds) (defBody st) o ∧ endsWith o d) : Ca P w K mg base (k + 1) x ps (spD K R) := by
  obtain ⟨f, fd, hm, hF, hb⟩ := F.ex
  exact ⟨f, fd, hm, hF.kp, hb, ok_D hF S hlen fun cdv A outer s H E ds d hr hR => hbody f cdv A outer s H E ds d hr hR⟩
theorem ca_R {st : Stmt} {N : List Str} {R : List PyData → List PyData → PyData → List PyData → Prop} (F : Fn K mg x st ps) (S : FnScope N ps (defScope st)) (hlen : ∀ row ds d row', R row ds d row' → ds.length + 1 = ps.length)
    (hbody : ∀ (f : Addr) (cdv : Value) (A : Around) (outer : List Env) (s : Shared) (H : Hp) (E : XK) (r : Addr) (row ds : List PyData) (d : PyData) (row' : List PyData), Room k (A.deeper (envOfC x (defScope st) s.heap.objs.size f cdv)) → R row ds d row' →
      ∃ Γ', Ess (cxOf CX0 P w K mg base N x (defScope st) f cdv A outer s H E).nox (slotsR N r row ds) (defBody st) (.rt d Γ') ∧ Γ'[0]? = some (some (.pr r row'))) : Ca P w K mg base (k + 1) x ps (spR K R) := by
  obtain ⟨f, fd, hm, hF, hb⟩ := F.ex
  exact ⟨f, fd, hm, hF.kp, hb, ok_R hF S hlen fun cdv A outer s H E r row ds d row' hr hR => hbody f cdv A outer s H E r row ds d row' hr hR⟩
end
section
variable {X : Cx} {Γ Γ1 Γ2 : Gm} {e : Expr} {es : List Expr} {d : PyData} {ds : List PyData} {pos pp : Pos} {k j : Nat} {ps : List Str} {x : Str}
theorem ee_ca {R : List PyData → PyData → Prop} (C : Ca X.prog X.w X.K X.mg X.base k x ps (spD X.K R)) (hr : Room j X.A) (ha : Ea X Γ (e :: es) ds Γ1) (hR : R ds d) (hj : k ≤ j := by decide) (hg : Gl X x := by rfl) (hdb : (x == ("__debug__" : Str)) = false := by decide)
    (he : starEach (e :: es) X.env = (false, eval e X.env) :: starEach es X.env := by rfl) (hpl : (backTo pos (starEach es X.env)).any (·.1) = false := by rfl) : Ee X Γ (.Call (.Name x pp) (e :: es) [] pos) d Γ1 := by
  obtain ⟨f, fd, hm, hk, hb, F⟩ := C.ex
  exact ee_call F (hr.mono hj) hm hk hb ha hR hg hdb he hpl
theorem ee_caR {R : List PyData → List PyData → PyData → List PyData → Prop} {n : Nat} {y : Str} {py : Pos} {s s1 : Slot} {row' : List PyData} (C : Ca X.prog X.w X.K X.mg X.base k x ps (spR X.K R)) (hr : Room j X.A) (hx : PE X (.Name y py) (tVar n)) (h0 : Γ[n]? = some (some s)) (ho0 : isOw s = true)
    (ha : Ea X Γ es ds Γ1) (h : Γ1[n]? = some (some s1)) (ho : isOw s1 = true) (hR : R (slotDs s1) ds d row') (hj : k ≤ j := by decide) (hg : Gl X x := by rfl) (hdb : (x == ("__debug__" : Str)) = false := by decide)
    (he : starEach (Expr.Name y py :: es) X.env = (false, eval (Expr.Name y py) X.env) :: starEach es X.env := by rfl) (hpl : (backTo pos (starEach es X.env)).any (·.1) = false := by rfl) : Ee X Γ (.Call (.Name x pp) (.Name y py :: es) [] pos) d (Γ1.set n (some (reSlot row' s1))) := by
  obtain ⟨f, fd, hm, hk, hb, F⟩ := C.ex
  exact ee_callR F (hr.mono hj) hm hk hb hx h0 ho0 ha h ho hR hg hdb he hpl
end

/-! ### numbers, pairs, tuples of them as data -/
def iN (n : Nat) : PyData := .int (n : Int)
def pN (p : Nat × Nat) : PyData := .tuple [iN p.1, iN p.2]
theorem shaped_of {d : PyData} (h1 : d.canLay0 = true) (h2 : d.depth ≤ 64) : SeqAt.shaped d = true := by
  unfold SeqAt.shaped
  rw [h1, decide_eq_true h2]; rfl
theorem lay_all {α : Type} {enc : α → PyData} : ∀ {xs : List α}, (∀ x ∈ xs, (enc x).canLay0 = true) → PyData.canLayAll0 (xs.map enc) = true
  | [], _ => by simp [PyData.canLayAll0]
  | x :: xs, h => by
    rw [List.map_cons, PyData.canLayAll0, h x List.mem_cons_self, lay_all fun y hy => h y (List.mem_cons_of_mem _ hy)]; rfl
theorem dep_all {α : Type} {enc : α → PyData} {n : Nat} : ∀ {xs : List α}, (∀ x ∈ xs, (enc x).depth ≤ n) → PyData.depthAll (xs.map enc) ≤ n
  | [], _ => by simp [PyData.depthAll]
  | x :: xs, h => by
    rw [List.map_cons, PyData.depthAll]
    exact Nat.max_le.mpr ⟨h x List.mem_cons_self, dep_all fun y hy => h y (List.mem_cons_of_mem _ hy)⟩
theorem iN_lay (n : Nat) : (iN n).canLay0 = true := by simp [iN, PyData.canLay0]
theorem iN_dep (n : Nat) : (iN n).depth = 0 := by simp [iN, PyData.depth]
theorem pN_lay (p : Nat × Nat) : (pN p).canLay0 = true := by simp [pN, iN, PyData.canLay0, PyData.canLayAll0]
theorem pN_dep (p : Nat × Nat) : (pN p).depth = 1 := by simp [pN, iN, PyData.depth, PyData.depthAll]
theorem iN_eqv (a b : Nat) : PyData.eqv (iN a) (iN b) = decide (a = b) := by
  show ((a : Int) == (b : Int)) = _
  by_cases h : a = b
  · subst h; simp
  · rw [decide_eq_false h]; exact beq_eq_false_iff_ne.mpr (fun z => h (by omega))
theorem pN_eqv (a b : Nat × Nat) : PyData.eqv (pN a) (pN b) = decide (a = b) := by
  obtain ⟨a1, a2⟩ := a
  obtain ⟨b1, b2⟩ := b
  have : PyData.eqv (pN (a1, a2)) (pN (b1, b2)) = (PyData.eqv (iN a1) (iN b1) && (PyData.eqv (iN a2) (iN b2) && true)) := by simp only [pN, PyData.eqv, PyData.eqvAll]
  rw [this, iN_eqv, iN_eqv]
  by_cases h1 : a1 = b1 <;> by_cases h2 : a2 = b2 <;> simp [h1, h2]
theorem any_eqv {α : Type} [DecidableEq α] {enc : α → PyData} (he : ∀ a b, PyData.eqv (enc a) (enc b) = decide (a = b)) (xs : List α) (x : α) : ((xs.map enc).any fun z => PyData.eqv z (enc x)) = decide (x ∈ xs) := by
  induction xs with
  | nil => simp
  | cons y ys ih =>
    rw [List.map_cons, List.any_cons, ih, he]
    by_cases h : y = x
    · subst h; simp
    · simp [h, Ne.symm h, eq_comm]
theorem eqvAll_map {α : Type} [DecidableEq α] {enc : α → PyData} (he : ∀ a b, PyData.eqv (enc a) (enc b) = decide (a = b)) : ∀ (xs ys : List α), PyData.eqvAll (xs.map enc) (ys.map enc) = decide (xs = ys)
  | [], [] => by simp [PyData.eqvAll]
  | [], _ :: _ => by simp [PyData.eqvAll]
  | _ :: _, [] => by simp [PyData.eqvAll]
  | x :: xs, y :: ys => by
    rw [List.map_cons, List.map_cons, PyData.eqvAll, he, eqvAll_map he xs ys]
    by_cases h1 : x = y <;> by_cases h2 : xs = ys <;> simp [h1, h2]
theorem eqv_list {α : Type} [DecidableEq α] {enc : α → PyData} (he : ∀ a b, PyData.eqv (enc a) (enc b) = decide (a = b)) (xs ys : List α) : PyData.eqv (.list (xs.map enc)) (.list (ys.map enc)) = decide (xs = ys) := by
  rw [PyData.eqv, eqvAll_map he]
theorem eqv_tup {α : Type} [DecidableEq α] {enc : α → PyData} (he : ∀ a b, PyData.eqv (enc a) (enc b) = decide (a = b)) (xs ys : List α) : PyData.eqv (.tuple (xs.map enc)) (.tuple (ys.map enc)) = decide (xs = ys) := by
  rw [PyData.eqv, eqvAll_map he]
theorem atI_map {α : Type} {enc : α → PyData} {xs : List α} {i : Nat} {x : α} (h : xs[i]? = some x) : atI (xs.map enc) (i : Int) = some (enc x) := atI_nat (by rw [List.getElem?_map, h]; rfl)
abbrev tn (t : List Nat) : PyData := .tuple (t.map iN)
theorem lay_tup {α : Type} {enc : α → PyData} {xs : List α} (h : ∀ x, (enc x).canLay0 = true) : PyData.canLay0 (.tuple (xs.map enc)) = true := by
  rw [PyData.canLay0]; exact lay_all fun x _ => h x
theorem lay_lst {α : Type} {enc : α → PyData} {xs : List α} (h : ∀ x, (enc x).canLay0 = true) : PyData.canLay0 (.list (xs.map enc)) = true := by
  rw [PyData.canLay0]; exact lay_all fun x _ => h x
theorem dep_tup {α : Type} {enc : α → PyData} {xs : List α} {n : Nat} (h : ∀ x, (enc x).depth ≤ n) : PyData.depth (.tuple (xs.map enc)) ≤ n + 1 := by
  rw [PyData.depth]; exact Nat.succ_le_succ (dep_all fun x _ => h x)
theorem dep_lst {α : Type} {enc : α → PyData} {xs : List α} {n : Nat} (h : ∀ x, (enc x).depth ≤ n) : PyData.depth (.list (xs.map enc)) ≤ n + 1 := by
  rw [PyData.depth]; exact Nat.succ_le_succ (dep_all fun x _ => h x)
theorem sh_int (i : Int) : SeqAt.shaped (.int i) = true := shaped_of (by simp [PyData.canLay0]) (by simp [PyData.depth])
theorem sh_bool (b : Bool) : SeqAt.shaped (.bool b) = true := shaped_of (by simp [PyData.canLay0]) (by simp [PyData.depth])
theorem sh_iN (n : Nat) : SeqAt.shaped (iN n) = true := sh_int _
theorem sh_pN (p : Nat × Nat) : SeqAt.shaped (pN p) = true := shaped_of (pN_lay p) (by rw [pN_dep]; decide)
theorem sh_lst {α : Type} {enc : α → PyData} (xs : List α) (h1 : ∀ x, (enc x).canLay0 = true) (h2 : ∀ x, (enc x).depth ≤ 60) : SeqAt.shaped (.list (xs.map enc)) = true := shaped_of (lay_lst h1) (Nat.le_trans (dep_lst h2) (by decide))
theorem sh_tup {α : Type} {enc : α → PyData} (xs : List α) (h1 : ∀ x, (enc x).canLay0 = true) (h2 : ∀ x, (enc x).depth ≤ 60) : SeqAt.shaped (.tuple (xs.map enc)) = true := shaped_of (lay_tup h1) (Nat.le_trans (dep_tup h2) (by decide))
theorem sh_nil : SeqAt.shaped (.list []) = true := shaped_of (by simp [PyData.canLay0, PyData.canLayAll0]) (by simp [PyData.depth, PyData.depthAll])
theorem int_eqv (i j : Int) : PyData.eqv (.int i) (.int j) = decide (i = j) := by
  show (i == j) = _
  exact Bool.beq_eq_decide_eq i j
theorem bool_eqv (i j : Bool) : PyData.eqv (.bool i) (.bool j) = decide (i = j) := by
  cases i <;> cases j <;> rfl
end DL
end

section
namespace DL
open PySem PySem.Spec PyProof.Rows L2
/-- a block that hands back d -/
def Er (X : Cx) (Γ : Gm) (sts : List Stmt) (d : PyData) : Prop := ∃ Γ', Ess X Γ sts (.rt d Γ')
/-- a block that is walked to its end -/
def Ez (X : Cx) (Γ : Gm) (sts : List Stmt) : Prop := ∃ Γ', Ess X Γ sts (.nx Γ')
section
variable {X : Cx} {Γ Γ1 : Gm} {c e : Expr} {d d1 : PyData} {ds : List PyData} {pos : Pos} {st : Stmt} {rest body orelse : List Stmt} {p : Bool}
theorem er_cons (h1 : Es X Γ st (.nx Γ1)) (h2 : Er X Γ1 rest d) : Er X Γ (st :: rest) d := let ⟨g, h⟩ := h2; ⟨g, ess_cons h1 h⟩
theorem er_stop (h1 : Es X Γ st (.rt d Γ1)) : Er X Γ (st :: rest) d := ⟨Γ1, ess_stop h1 (by intro _ z; cases z)⟩
theorem er_ret (h : Ee X Γ e d Γ1) : Er X Γ (.Return (some e) pos :: rest) d := er_stop (es_ret h)
theorem er_retN : Er X Γ (.Return none pos :: rest) .none := er_stop es_retN
theorem er_ifT {pos : Pos} (hc : Et X Γ c true Γ1) (h : Er X Γ1 body d) : Er X Γ (.If c body orelse pos :: rest) d := let ⟨g, h⟩ := h; ⟨g, ess_stop (es_ifT hc h) (by intro _ z; cases z)⟩
theorem er_ifF {pos : Pos} (hc : Et X Γ c false Γ1) (h : Er X Γ1 rest d) : Er X Γ (.If c body [] pos :: rest) d := er_cons (es_ifF hc ess_nil) h
theorem er_freeze (n : Nat) (h : Γ[n]? = some (some (.ow ds)) := by rfl) (h1 : Er X (Γ.set n (some (.im (.list ds)))) rest d) : Er X Γ rest d := let ⟨g, z⟩ := h1; ⟨g, ess_freeze n h z⟩
theorem ez_nil : Ez X Γ [] := ⟨Γ, ess_nil⟩
theorem ez_cons (h1 : Es X Γ st (.nx Γ1)) (h2 : Ez X Γ1 rest) : Ez X Γ (st :: rest) := let ⟨g, h⟩ := h2; ⟨g, ess_cons h1 h⟩
theorem ez_ifF {pos : Pos} (hc : Et X Γ c false Γ1) (h : Ez X Γ1 rest) : Ez X Γ (.If c body [] pos :: rest) := ez_cons (es_ifF hc ess_nil) h
theorem er_is (h : Er X Γ rest d) (e : d = d1) : Er X Γ rest d1 := e ▸ h
end
section
variable {P : Program} {w : World} {K : PySem.W.Frag} {mg : Str → Option Value} {base : Heap} {k : Nat} {x : Str} {ps : List Str}
theorem ca_Er {st : Stmt} {N : List Str} {R : List PyData → PyData → Prop} (F : Fn K mg x st ps) (S : FnScope N ps (defScope st)) (hlen : ∀ ds d, R ds d → ds.length = ps.length)
    (hbody : ∀ (f : Addr) (cdv : Value) (A : Around) (outer : List Env) (s : Shared) (H : Hp) (E : XK) (ds : List PyData) (d : PyData), Room k (A.deeper (envOfC x (defScope st) s.heap.objs.size f cdv)) → R ds d →
      Er (cxOf CX0 P w K mg base N x (defScope st) f cdv A outer s H E).nox (slots0 N ds) (defBody st) d) : Ca P w K mg base (k + 1) x ps (spD K R) :=
  ca_D F S hlen fun f cdv A outer s H E ds d hr hR => let ⟨g, h⟩ := hbody f cdv A outer s H E ds d hr hR; ⟨_, h, .inl ⟨g, rfl⟩⟩
theorem ca_Ez {st : Stmt} {N : List Str} {R : List PyData → PyData → Prop} (F : Fn K mg x st ps) (S : FnScope N ps (defScope st)) (hlen : ∀ ds d, R ds d → ds.length = ps.length)
    (hbody : ∀ (f : Addr) (cdv : Value) (A : Around) (outer : List Env) (s : Shared) (H : Hp) (E : XK) (ds : List PyData) (d : PyData), Room k (A.deeper (envOfC x (defScope st) s.heap.objs.size f cdv)) → R ds d →
      d = .none ∧ Ez (cxOf CX0 P w K mg base N x (defScope st) f cdv A outer s H E).nox (slots0 N ds) (defBody st)) : Ca P w K mg base (k + 1) x ps (spD K R) :=
  ca_D F S hlen fun f cdv A outer s H E ds d hr hR => let ⟨hd, g, h⟩ := hbody f cdv A outer s H E ds d hr hR; ⟨_, h, .inr ⟨hd, g, rfl⟩⟩
end
theorem ei_is {X : Cx} {Γ Γ1 : Gm} {tg e : Expr} {ds ds' : List PyData} (h : Ei X Γ tg e ds Γ1) (hp : ds = ds') : Ei X Γ tg e ds' Γ1 := hp ▸ h
theorem rngD_N (n : Nat) : rngD 0 (n : Int).toNat = (List.range n).map iN := by
  unfold rngD
  rw [Int.toNat_natCast]
  apply List.map_congr_left
  intro i _
  show PyData.int (0 + (i : Int)) = PyData.int (i : Int)
  rw [Int.zero_add]
theorem rngD_from (a b : Nat) : rngD (a : Int) ((b : Int) - (a : Int)).toNat = (List.range (b - a)).map fun j => iN (a + j) := by
  unfold rngD
  have : ((b : Int) - (a : Int)).toNat = b - a := by omega
  rw [this]
  apply List.map_congr_left
  intro i _
  show PyData.int ((a : Int) + (i : Int)) = PyData.int ((a + i : Nat) : Int)
  rw [Int.natCast_add]
/-! the built-in classes -/
theorem bt_bool : bootBuiltins "bool" = some (.type "bool") := by decide +kernel
theorem bt_int : bootBuiltins "int" = some (.type "int") := by decide +kernel
theorem bt_str : bootBuiltins "str" = some (.type "str") := by decide +kernel
theorem bt_tuple : bootBuiltins "tuple" = some (.type "tuple") := by decide +kernel
theorem bt_list : bootBuiltins "list" = some (.type "list") := by decide +kernel
def isBoolD : PyData → Bool
  | .bool _ => true
  | _ => false
def isIntD : PyData → Bool
  | .bool _ => true
  | .int _ => true
  | _ => false
def isStrD : PyData → Bool
  | .str _ => true
  | _ => false
def isTupD : PyData → Bool
  | .tuple _ => true
  | _ => false
def isListD : PyData → Bool
  | .list _ => true
  | _ => false
theorem kit_bool (d : PyData) : kitB (tyName d) "bool" = some (isBoolD d) := by
  cases d
  · show kitB "NoneType" "bool" = some false; decide +kernel
  · show kitB "bool" "bool" = some true; decide +kernel
  · show kitB "int" "bool" = some false; decide +kernel
  · show kitB "str" "bool" = some false; decide +kernel
  · show kitB "list" "bool" = some false; decide +kernel
  · show kitB "tuple" "bool" = some false; decide +kernel
  · show kitB "dict" "bool" = some false; decide +kernel
theorem kit_int (d : PyData) : kitB (tyName d) "int" = some (isIntD d) := by
  cases d
  · show kitB "NoneType" "int" = some false; decide +kernel
  · show kitB "bool" "int" = some true; decide +kernel
  · show kitB "int" "int" = some true; decide +kernel
  · show kitB "str" "int" = some false; decide +kernel
  · show kitB "list" "int" = some false; decide +kernel
  · show kitB "tuple" "int" = some false; decide +kernel
  · show kitB "dict" "int" = some false; decide +kernel
theorem kit_str (d : PyData) : kitB (tyName d) "str" = some (isStrD d) := by
  cases d
  · show kitB "NoneType" "str" = some false; decide +kernel
  · show kitB "bool" "str" = some false; decide +kernel
  · show kitB "int" "str" = some false; decide +kernel
  · show kitB "str" "str" = some true; decide +kernel
  · show kitB "list" "str" = some false; decide +kernel
  · show kitB "tuple" "str" = some false; decide +kernel
  · show kitB "dict" "str" = some false; decide +kernel
theorem kit_tuple (d : PyData) : kitB (tyName d) "tuple" = some (isTupD d) := by
  cases d
  · show kitB "NoneType" "tuple" = some false; decide +kernel
  · show kitB "bool" "tuple" = some false; decide +kernel
  · show kitB "int" "tuple" = some false; decide +kernel
  · show kitB "str" "tuple" = some false; decide +kernel
  · show kitB "list" "tuple" = some false; decide +kernel
  · show kitB "tuple" "tuple" = some true; decide +kernel
  · show kitB "dict" "tuple" = some false; decide +kernel
theorem kit_list (d : PyData) : kitB (tyName d) "list" = some (isListD d) := by
  cases d
  · show kitB "NoneType" "list" = some false; decide +kernel
  · show kitB "bool" "list" = some false; decide +kernel
  · show kitB "int" "list" = some false; decide +kernel
  · show kitB "str" "list" = some false; decide +kernel
  · show kitB "list" "list" = some true; decide +kernel
  · show kitB "tuple" "list" = some false; decide +kernel
  · show kitB "dict" "list" = some false; decide +kernel
end DL
end

section
namespace DL
open PySem PySem.Spec PyProof.Rows L2
section
variable {X : Cx} {Γ Γ1 Γ2 : Gm} {a b c e tg iter : Expr} {d d1 d2 : PyData} {ds : List PyData} {pos : Pos} {st : Stmt} {sts rest body orelse : List Stmt} {p : Bool} {is : List Nat}
/-- fewer slots are told behind a block -/
theorem ess_wk (h : Ess X Γ sts (.nx Γ1)) (hl : Less Γ2 Γ1) : Ess X Γ sts (.nx Γ2) :=
  pss_imp h fun D σ H ⟨F, ev, x, k⟩ => ⟨F, ev, x, fun σ' F' H' g e => k σ' F' H' (g.right fun a o => hl.own o) (hl.env e)⟩
theorem es_wk (h : Es X Γ st (.nx Γ1)) (hl : Less Γ2 Γ1) : Es X Γ st (.nx Γ2) :=
  ps_imp h fun D σ H ⟨F, ev, x, k⟩ => ⟨F, ev, x, fun σ' F' H' g e => k σ' F' H' (g.right fun a o => hl.own o) (hl.env e)⟩
theorem less_set2 {n m : Nat} {z y : Option Slot} (h : noV Γ [n, m] = true) : Less Γ ((Γ.set n z).set m y) := ⟨by rw [List.length_set, List.length_set], fun i s q => by
  rw [List.getElem?_set_ne (fun e => noV_out h q (by rw [← e]; simp)), List.getElem?_set_ne (fun e => noV_out h q (by rw [← e]; simp))]; exact q⟩
theorem less_set3 {n m l : Nat} {z y x : Option Slot} (h : noV Γ [n, m, l] = true) : Less Γ (((Γ.set n z).set m y).set l x) := ⟨by rw [List.length_set, List.length_set, List.length_set], fun i s q => by
  rw [List.getElem?_set_ne (fun e => noV_out h q (by rw [← e]; simp)), List.getElem?_set_ne (fun e => noV_out h q (by rw [← e]; simp)), List.getElem?_set_ne (fun e => noV_out h q (by rw [← e]; simp))]; exact q⟩
theorem Less.refl (Γ : Gm) : Less Γ Γ := ⟨rfl, fun _ _ h => h⟩
/-- a loop that carries nothing, run through -/
theorem es_forThru (G' : Nat → Gm) (hi : Ei X Γ tg iter ds Γ1) (hg : ∀ i d, ds[i]? = some d → Eg X Γ1 tg d is (G' i)) (hb : ∀ i, i < ds.length → ∃ Γ2, Ess X (G' i) body (.nx Γ2) ∧ Less Γ1 Γ2)
    (hp : PassesOwn (model X.prog X.w) X.A X.env X.xe := by exact PassesOwn.never) (hcm : X.calm = true := by rfl) (hs : ∀ x, foldedSetIterable iter X.env x = pure x := by intro _; rfl) : Es X Γ (.For tg iter body [] pos) (.nx Γ1) :=
  es_for (fun _ => Γ1) G' (fun _ => .nx Γ1) ds.length hp hcm hi (Nat.le_refl _) (fun i d h _ => hg i d h) (fun i h => let ⟨g2, h1, h2⟩ := hb i h; ⟨ess_wk h1 h2, .inl rfl⟩) (.inl ⟨rfl, rfl⟩) hs
/-- a loop that carries nothing, left by a return in its turn n -/
theorem er_forRet (G' : Nat → Gm) (n : Nat) (hi : Ei X Γ tg iter ds Γ1) (hn : n < ds.length) (hg : ∀ i d, ds[i]? = some d → Eg X Γ1 tg d is (G' i)) (hb : ∀ i, i < n → ∃ Γ2, Ess X (G' i) body (.nx Γ2) ∧ Less Γ1 Γ2) (hx : Er X (G' n) body d)
    (hp : PassesOwn (model X.prog X.w) X.A X.env X.xe := by exact PassesOwn.never) (hcm : X.calm = true := by rfl) (hs : ∀ x, foldedSetIterable iter X.env x = pure x := by intro _; rfl) : Er X Γ (.For tg iter body [] pos :: rest) d := by
  obtain ⟨g, hx⟩ := hx
  refine ⟨g, ess_stop (es_for (fun _ => Γ1) G' (fun i => if i < n then .nx Γ1 else .rt d g) n hp hcm hi (Nat.le_of_lt hn) (fun i d h _ => hg i d h) (fun i h => ?_) (.inr ⟨hn, ?_, ?_⟩) hs) (by intro _ z; cases z)⟩
  · obtain ⟨g2, h1, h2⟩ := hb i h
    rw [if_pos h]
    exact ⟨ess_wk h1 h2, .inl rfl⟩
  · rw [if_neg (Nat.lt_irrefl n)]
    exact hx
  · rw [if_neg (Nat.lt_irrefl n)]
    rfl
def forBody (s : Stmt) : List Stmt := match s with
  | .For _ _ b _ _ => b
  | _ => []
def whileBody (s : Stmt) : List Stmt := match s with
  | .While _ b _ _ => b
  | _ => []
def ifBody (s : Stmt) : List Stmt := match s with
  | .If _ b _ _ => b
  | _ => []
def stAt (l : List Stmt) (i : Nat) : Stmt := l.getD i (.Pass ⟨0, 0, 0, 0⟩)
/-- the first place where a test fails -/
theorem first_fail (f : Nat → Bool) : ∀ n, (∀ i, i < n → f i = true) ∨ ∃ m, m < n ∧ f m = false ∧ ∀ i, i < m → f i = true
  | 0 => .inl fun i h => absurd h (Nat.not_lt_zero i)
  | n + 1 => by
    rcases first_fail f n with h | ⟨m, h1, h2, h3⟩
    · cases hf : f n with
      | true =>
        left
        intro i hi
        by_cases e : i = n
        · subst e; exact hf
        · exact h i (by omega)
      | false => exact .inr ⟨n, Nat.lt_succ_self n, hf, h⟩
    · exact .inr ⟨m, by omega, h2, h3⟩
/-! order of data -/
def rLeDd (K : PySem.W.Frag) : R2 := fun x y H Q => ∃ d e, Dp K H x d ∧ Dp K H y e ∧ PySem.W.alike d e = true ∧ d ≠ .none ∧ d.depth ≤ 60 ∧ Q (.bl (!PySem.W.dataLt e d)) H
theorem op_leDd {k : Nat} (hr : Room k X.A) : OpR X (compareOp .LtE) (rLeDd X.K) := by
  intro pins s σ H x y v u Q I rx ry h
  obtain ⟨d, e, hd, he, ha, hn, hdep, q⟩ := h
  obtain ⟨as, r1⟩ := Dp.reads I d x v hd rx
  obtain ⟨bs, r2⟩ := Dp.reads I e y u he ry
  refine PySem.W.le_data r1 r2 ha hn ?_ ⟨.bl _, H, I, rfl, q⟩
  have := hr.un
  have : min d.depth e.depth ≤ d.depth := Nat.min_le_left _ _
  omega
theorem et_leD {k : Nat} (hr : Room k X.A) (ha : Ee X Γ a d1 Γ1) (hb : Ee X Γ1 b d2 Γ2) (h1 : d1.canLay0 = true) (h2 : d2.canLay0 = true) (hal : PySem.W.alike d1 d2 = true) (hn : d1 ≠ .none) (hdep : d1.depth ≤ 60) : Et X Γ (.Compare a [.LtE] [b] pos) (!PySem.W.dataLt d2 d1) Γ2 :=
  et_cmpR (op_leDd hr) ha hb (rd_here fun F H x y Q e hx hy => ⟨.bl _, .bl _, fun q => ⟨d1, d2, Dd.dp e _ _ h1 hx, Dd.dp e _ _ h2 hy, hal, hn, hdep, q⟩⟩) (nomark _)
theorem alike_ii (x y x' y' : Int) : PySem.W.alike (.tuple [.int x, .int y]) (.tuple [.int x', .int y']) = true := by simp [PySem.W.alike, PySem.W.alikeAll]
end
end DL
end

section
/-! The mathematics: pairs of halls, turns, rings. Plain Lean. -/
namespace RM
/-- all pairs of halls, ascending -/
def allPairs (n : Nat) : List (Nat × Nat) := (List.range n).flatMap fun x => (List.range (n - (x + 1))).map fun j => (x, x + 1 + j)
def at_ (t : List Nat) (h : Nat) : Nat := t.getD h 0
def ledPair (t : List Nat) (p : Nat × Nat) : Nat × Nat := (min (at_ t p.1) (at_ t p.2), max (at_ t p.1) (at_ t p.2))
/-- a turn of 1 to 9 halls -/
def IsTurn (t : List Nat) : Prop := 1 ≤ t.length ∧ t.length ≤ 9 ∧ t.Nodup ∧ ∀ x ∈ t, x < t.length
/-- f done n times -/
def itr {α : Type} (f : α → α) : Nat → α → α
  | 0, a => a
  | n + 1, a => f (itr f n a)
/-- n is the first positive number of times that lead back -/
def IsPer {α : Type} (f : α → α) (a : α) (n : Nat) : Prop := 1 ≤ n ∧ itr f n a = a ∧ ∀ i, 1 ≤ i → i < n → itr f i a ≠ a
def ringN {α : Type} (f : α → α) (a : α) (n : Nat) : List α := (List.range n).map fun i => itr f i a
theorem flatLen (n : Nat) (h : n ≤ 9) : ((List.range n).flatMap fun x => List.range (n - (x + 1))).length ≤ 81 := by
  rw [List.length_flatMap]
  have : ∀ (l : List Nat), (∀ x ∈ l, x ≤ 9) → (l.map fun x => (List.range (n - (x + 1))).length).sum ≤ 9 * l.length := by
    intro l
    induction l with
    | nil => intro _; simp
    | cons a r ih =>
      intro hl
      have h1 := ih fun x hx => hl x (List.mem_cons_of_mem _ hx)
      rw [List.map_cons, List.sum_cons, List.length_cons, List.length_range]
      omega
  have h2 := this (List.range n) (fun x hx => by have := List.mem_range.mp hx; omega)
  rw [List.length_range] at h2
  omega
theorem allPairs_len (n : Nat) (h : n ≤ 9) : (allPairs n).length ≤ 81 := by
  have := flatLen n h
  unfold allPairs
  rw [List.length_flatMap] at this ⊢
  simpa using this
theorem mem_allPairs {n : Nat} {p : Nat × Nat} : p ∈ allPairs n ↔ p.1 < p.2 ∧ p.2 < n := by
  obtain ⟨x, y⟩ := p
  unfold allPairs
  simp only [List.mem_flatMap, List.mem_range, List.mem_map, Prod.mk.injEq]
  constructor
  · rintro ⟨a, ha, j, hj, rfl, rfl⟩
    omega
  · rintro ⟨h1, h2⟩
    exact ⟨x, by omega, y - (x + 1), by omega, rfl, by omega⟩
end RM
end

section
/-! Orders on pairs and rows of pairs; how often a map is done to come back. -/
namespace RM
def pLt (a b : Nat × Nat) : Bool := decide (a.1 < b.1 ∨ (a.1 = b.1 ∧ a.2 < b.2))
def rLt {α : Type} [DecidableEq α] (lt : α → α → Bool) : List α → List α → Bool
  | [], [] => false
  | [], _ :: _ => true
  | _ :: _, [] => false
  | x :: xs, y :: ys => if x = y then rLt lt xs ys else lt x y
/-- a strict order on all -/
structure Ordd {α : Type} (lt : α → α → Bool) : Prop where
  ir : ∀ a, lt a a = false
  tr : ∀ a b c, lt a b = true → lt b c = true → lt a c = true
  tri : ∀ a b, lt a b = false → lt b a = false → a = b
abbrev le_ {α : Type} (lt : α → α → Bool) (a b : α) : Bool := !lt b a
theorem ordN : Ordd (fun a b : Nat => decide (a < b)) := ⟨fun a => by simp, fun a b c h1 h2 => by simp at *; omega, fun a b h1 h2 => by simp at *; omega⟩
theorem ordP : Ordd pLt := ⟨fun a => by simp [pLt], fun a b c h1 h2 => by simp [pLt] at *; omega, fun a b h1 h2 => by
  simp [pLt] at *
  exact Prod.ext (by omega) (by omega)⟩
section
variable {α : Type} [DecidableEq α] {lt : α → α → Bool}
theorem rLt_ir (o : Ordd lt) : ∀ xs : List α, rLt lt xs xs = false
  | [] => rfl
  | x :: xs => by rw [rLt, if_pos rfl, rLt_ir o xs]
theorem rLt_tr (o : Ordd lt) : ∀ xs ys zs : List α, rLt lt xs ys = true → rLt lt ys zs = true → rLt lt xs zs = true
  | [], [], _, h, _ => by simp [rLt] at h
  | _ :: _, [], _, h, _ => by simp [rLt] at h
  | _, _ :: _, [], _, h => by simp [rLt] at h
  | [], _ :: _, _ :: _, _, _ => rfl
  | x :: xs, y :: ys, z :: zs, h1, h2 => by
    simp only [rLt] at *
    by_cases e1 : x = y
    · subst e1
      rw [if_pos rfl] at h1
      by_cases e2 : x = z
      · subst e2
        rw [if_pos rfl] at h2 ⊢
        exact rLt_tr o _ _ _ h1 h2
      · rw [if_neg e2] at h2 ⊢
        exact h2
    · rw [if_neg e1] at h1
      by_cases e2 : y = z
      · subst e2
        rw [if_neg e1]
        exact h1
      · rw [if_neg e2] at h2
        have h3 := o.tr _ _ _ h1 h2
        rw [if_neg (fun e => by subst e; rw [o.ir] at h3; cases h3)]
        exact h3
theorem rLt_tri (o : Ordd lt) : ∀ xs ys : List α, rLt lt xs ys = false → rLt lt ys xs = false → xs = ys
  | [], [], _, _ => rfl
  | [], _ :: _, h, _ => by simp [rLt] at h
  | _ :: _, [], _, h => by simp [rLt] at h
  | x :: xs, y :: ys, h1, h2 => by
    simp only [rLt] at *
    by_cases e : x = y
    · subst e
      rw [if_pos rfl] at h1 h2
      rw [rLt_tri o _ _ h1 h2]
    · rw [if_neg e] at h1
      rw [if_neg (Ne.symm e)] at h2
      exact absurd (o.tri _ _ h1 h2) e
theorem ordR (o : Ordd lt) : Ordd (rLt lt) := ⟨rLt_ir o, rLt_tr o, rLt_tri o⟩
end
section
variable {α : Type} {lt : α → α → Bool}
theorem Ordd.asym (o : Ordd lt) {a b : α} (h : lt a b = true) : lt b a = false := by
  cases h2 : lt b a with
  | false => rfl
  | true => have := o.tr _ _ _ h h2; rw [o.ir] at this; cases this
theorem Ordd.letr (o : Ordd lt) (a b c : α) (h1 : le_ lt a b = true) (h2 : le_ lt b c = true) : le_ lt a c = true := by
  simp only [le_, Bool.not_eq_true'] at *
  cases h : lt c a with
  | false => rfl
  | true =>
    cases h3 : lt a b with
    | true => rw [o.tr _ _ _ h h3] at h2; cases h2
    | false => rw [o.tri _ _ h3 h1] at h; rw [h2] at h; cases h
theorem Ordd.tot (o : Ordd lt) (a b : α) : (le_ lt a b || le_ lt b a) = true := by
  simp only [le_]
  cases h : lt b a with
  | false => rfl
  | true => rw [o.asym h]; rfl
theorem sort_up (o : Ordd lt) (l : List α) : (l.mergeSort (le_ lt)).Pairwise (fun a b => le_ lt a b = true) := List.pairwise_mergeSort (o.letr) (o.tot) l
theorem sort_same (o : Ordd lt) {l m : List α} (hp : l.Perm m) : l.mergeSort (le_ lt) = m.mergeSort (le_ lt) :=
  List.Perm.eq_of_pairwise (le := fun a b => le_ lt a b = true) (fun a b _ _ h1 h2 => by
    simp only [le_, Bool.not_eq_true'] at h1 h2
    exact o.tri _ _ h2 h1) (sort_up o l) (sort_up o m) ((List.mergeSort_perm l _).trans (hp.trans (List.mergeSort_perm m _).symm))
theorem le_of_lt (o : Ordd lt) {l : List α} (h : l.Pairwise fun a b => lt a b = true) : l.Pairwise (fun a b => le_ lt a b = true) := h.imp fun {a b} h => by simp only [le_]; rw [o.asym h]; rfl
/-- an ascending row is what sorting gives of a row with the same things -/
theorem sort_is (o : Ordd lt) {l m : List α} (hp : l.Perm m) (h : l.Pairwise fun a b => lt a b = true) : m.mergeSort (le_ lt) = l := by
  rw [← sort_same o hp]
  exact List.mergeSort_of_pairwise (le_of_lt o h)
theorem asc_nodup (o : Ordd lt) {l : List α} (h : l.Pairwise fun a b => lt a b = true) : l.Nodup := h.imp fun {a b} h e => by subst e; rw [o.ir] at h; cases h
theorem sort_asc (o : Ordd lt) {l : List α} (h : l.Nodup) : (l.mergeSort (le_ lt)).Pairwise fun a b => lt a b = true := by
  have h1 := sort_up o l
  have h2 : (l.mergeSort (le_ lt)).Nodup := (List.mergeSort_perm l _).nodup_iff.mpr h
  exact (h1.and h2).imp fun {a b} ⟨h, n⟩ => by
    simp only [le_, Bool.not_eq_true'] at h
    cases h3 : lt a b with
    | true => rfl
    | false => exact absurd (o.tri _ _ h3 h) n
end
theorem allPairs_asc (n : Nat) : (allPairs n).Pairwise fun a b => pLt a b = true := by
  unfold allPairs
  rw [List.pairwise_flatMap]
  constructor
  · intro x _
    rw [List.pairwise_map]
    exact List.pairwise_lt_range.imp fun {a b} h => by simp [pLt]; omega
  · exact List.pairwise_lt_range.imp fun {a b} h x hx y hy => by
      rw [List.mem_map] at hx hy
      obtain ⟨_, _, rfl⟩ := hx
      obtain ⟨_, _, rfl⟩ := hy
      simp [pLt]; omega
theorem perm_range {t : List Nat} (h1 : t.Nodup) (h2 : ∀ x ∈ t, x < t.length) : t.Perm (List.range t.length) := by
  rw [List.perm_ext_iff_of_nodup h1 List.nodup_range]
  intro a
  rw [List.mem_range]
  constructor
  · exact h2 a
  · intro ha
    apply Classical.byContradiction
    intro hn
    have h3 : (a :: t).Nodup := List.nodup_cons.mpr ⟨hn, h1⟩
    have h4 := h3.length_le_of_subset (l₂ := List.range t.length) (fun x hx => by
      rw [List.mem_range]
      rcases List.mem_cons.mp hx with e | e
      · subst e; exact ha
      · exact h2 x e)
    rw [List.length_range, List.length_cons] at h4
    omega
theorem turn_sorted {t : List Nat} (h : IsTurn t) : t.mergeSort (le_ fun a b : Nat => decide (a < b)) = List.range t.length :=
  sort_is ordN (perm_range h.2.2.1 h.2.2.2).symm (List.pairwise_lt_range.imp fun {a b} h => decide_eq_true h)
/-! ### coming back -/
section
variable {α : Type} {f : α → α} {a : α}
theorem itr_add (n m : Nat) : itr f (n + m) a = itr f n (itr f m a) := by
  induction n with
  | zero => rw [Nat.zero_add]; rfl
  | succ n ih => rw [Nat.succ_add]; show f _ = f _; rw [ih]
theorem itr_succ (n : Nat) : itr f (n + 1) a = itr f n (f a) := itr_add n 1
theorem itr_mem {L : List α} (h : ∀ x ∈ L, f x ∈ L) (ha : a ∈ L) : ∀ n, itr f n a ∈ L
  | 0 => ha
  | n + 1 => h _ (itr_mem h ha n)
theorem itr_inj {L : List α} (h : ∀ x ∈ L, f x ∈ L) (hi : ∀ x ∈ L, ∀ y ∈ L, f x = f y → x = y) {b : α} (ha : a ∈ L) (hb : b ∈ L) : ∀ n, itr f n a = itr f n b → a = b
  | 0, e => e
  | n + 1, e => itr_inj h hi ha hb n (hi _ (itr_mem h ha n) _ (itr_mem h hb n) e)
theorem ex_back {L : List α} (h : ∀ x ∈ L, f x ∈ L) (hi : ∀ x ∈ L, ∀ y ∈ L, f x = f y → x = y) (ha : a ∈ L) : ∃ k, 1 ≤ k ∧ k ≤ L.length ∧ itr f k a = a := by
  have hn : ¬ ((List.range (L.length + 1)).map fun i => itr f i a).Nodup := fun hn => by
    have := hn.length_le_of_subset (l₂ := L) (fun x hx => by
      obtain ⟨i, _, rfl⟩ := List.mem_map.mp hx
      exact itr_mem h ha i)
    rw [List.length_map, List.length_range] at this
    omega
  have : ∃ i j, i < j ∧ j ≤ L.length ∧ itr f i a = itr f j a := by
    apply Classical.byContradiction
    intro hc
    apply hn
    rw [List.nodup_iff_pairwise_ne, List.pairwise_map]
    rw [List.pairwise_iff_getElem]
    intro i j hi hj hij e
    rw [List.length_range] at hi hj
    rw [List.getElem_range, List.getElem_range] at e
    exact hc ⟨i, j, hij, by omega, e⟩
  obtain ⟨i, j, hij, hj, e⟩ := this
  refine ⟨j - i, by omega, by omega, ?_⟩
  rw [show j = i + (j - i) by omega, itr_add] at e
  exact (itr_inj h hi ha (itr_mem h ha _) i e).symm
theorem least {p : Nat → Prop} : ∀ n, p n → ∃ m, m ≤ n ∧ p m ∧ ∀ i, i < m → ¬ p i := by
  intro n
  induction n using Nat.strongRecOn with
  | ind n ih =>
    intro hp
    by_cases h : ∃ m, m < n ∧ p m
    · obtain ⟨m, hm, hpm⟩ := h
      obtain ⟨l, hl, hpl, hh⟩ := ih m hm hpm
      exact ⟨l, by omega, hpl, hh⟩
    · exact ⟨n, Nat.le_refl n, hp, fun i hi hpi => h ⟨i, hi, hpi⟩⟩
theorem ex_per {L : List α} (h : ∀ x ∈ L, f x ∈ L) (hi : ∀ x ∈ L, ∀ y ∈ L, f x = f y → x = y) (ha : a ∈ L) : ∃ k, k ≤ L.length ∧ IsPer f a k := by
  obtain ⟨k, k1, k2, k3⟩ := ex_back h hi ha
  obtain ⟨m, m1, ⟨m2, m3⟩, m4⟩ := least (p := fun k => 1 ≤ k ∧ itr f k a = a) k ⟨k1, k3⟩
  exact ⟨m, by omega, m2, m3, fun i i1 i2 e => m4 i i2 ⟨i1, e⟩⟩
end
/-- how often, worked out -/
def perN {α : Type} [DecidableEq α] (f : α → α) (a : α) (m : Nat) : Nat := (((List.range m).find? fun k => decide (itr f (k + 1) a = a)).getD 0) + 1
theorem per_is {α : Type} [DecidableEq α] {f : α → α} {a : α} {k m : Nat} (h : IsPer f a k) (hm : k ≤ m) : perN f a m = k := by
  obtain ⟨h1, h2, h3⟩ := h
  have : (List.range m).find? (fun k => decide (itr f (k + 1) a = a)) = some (k - 1) := by
    rw [List.find?_range_eq_some]
    refine ⟨decide_eq_true (by rw [show k - 1 + 1 = k by omega]; exact h2), List.mem_range.mpr (by omega), fun j hj => ?_⟩
    rw [decide_eq_false (h3 (j + 1) (by omega) (by omega))]
    rfl
  unfold perN
  rw [this]
  show k - 1 + 1 = k
  omega
theorem at_mem {t : List Nat} (h : IsTurn t) : ∀ x ∈ List.range t.length, at_ t x ∈ List.range t.length := fun x hx => by
  have hx := List.mem_range.mp hx
  unfold at_
  rw [List.mem_range, List.getD_eq_getElem?_getD, List.getElem?_eq_getElem hx]
  exact h.2.2.2 _ (List.getElem_mem hx)
theorem at_inj {t : List Nat} (h : IsTurn t) : ∀ x ∈ List.range t.length, ∀ y ∈ List.range t.length, at_ t x = at_ t y → x = y := fun x hx y hy e => by
  have hx := List.mem_range.mp hx
  have hy := List.mem_range.mp hy
  unfold at_ at e
  rw [List.getD_eq_getElem?_getD, List.getElem?_eq_getElem hx, List.getD_eq_getElem?_getD, List.getElem?_eq_getElem hy] at e
  exact (List.getElem_inj h.2.2.1).mp e
theorem led_mem {t : List Nat} (h : IsTurn t) : ∀ p ∈ allPairs t.length, ledPair t p ∈ allPairs t.length := fun p hp => by
  obtain ⟨h1, h2⟩ := mem_allPairs.mp hp
  have a1 := List.mem_range.mp (at_mem h p.1 (List.mem_range.mpr (by omega)))
  have a2 := List.mem_range.mp (at_mem h p.2 (List.mem_range.mpr h2))
  have ne : at_ t p.1 ≠ at_ t p.2 := fun e => by
    have := at_inj h p.1 (List.mem_range.mpr (by omega)) p.2 (List.mem_range.mpr h2) e
    omega
  rw [mem_allPairs]
  unfold ledPair
  simp only
  omega
theorem led_inj {t : List Nat} (h : IsTurn t) : ∀ p ∈ allPairs t.length, ∀ q ∈ allPairs t.length, ledPair t p = ledPair t q → p = q := fun p hp q hq e => by
  obtain ⟨p1, p2⟩ := mem_allPairs.mp hp
  obtain ⟨q1, q2⟩ := mem_allPairs.mp hq
  have inj := fun x y (hx : x < t.length) (hy : y < t.length) => at_inj h x (List.mem_range.mpr hx) y (List.mem_range.mpr hy)
  have i1 := inj p.1 q.1 (by omega) (by omega)
  have i2 := inj p.1 q.2 (by omega) (by omega)
  have i3 := inj p.2 q.1 (by omega) (by omega)
  have i4 := inj p.2 q.2 (by omega) (by omega)
  unfold ledPair at e
  injection e with e1 e2
  have : (at_ t p.1 = at_ t q.1 ∧ at_ t p.2 = at_ t q.2) ∨ (at_ t p.1 = at_ t q.2 ∧ at_ t p.2 = at_ t q.1) := by omega
  rcases this with ⟨a, b⟩ | ⟨a, b⟩
  · exact Prod.ext (i1 a) (i4 b)
  · have := i2 a; have := i3 b; omega
/-- how often a hall, a pair comes back -/
def hPer (t : List Nat) (x : Nat) : Nat := perN (at_ t) x t.length
def pPer (t : List Nat) (p : Nat × Nat) : Nat := perN (ledPair t) p (allPairs t.length).length
theorem hPer_is {t : List Nat} (h : IsTurn t) {x : Nat} (hx : x < t.length) : IsPer (at_ t) x (hPer t x) ∧ hPer t x ≤ t.length := by
  obtain ⟨k, h1, h2⟩ := ex_per (at_mem h) (at_inj h) (List.mem_range.mpr hx)
  rw [List.length_range] at h1
  have : hPer t x = k := per_is h2 h1
  rw [this]; exact ⟨h2, h1⟩
theorem pPer_is {t : List Nat} (h : IsTurn t) {p : Nat × Nat} (hp : p ∈ allPairs t.length) : IsPer (ledPair t) p (pPer t p) ∧ pPer t p ≤ (allPairs t.length).length := by
  obtain ⟨k, h1, h2⟩ := ex_per (led_mem h) (led_inj h) hp
  have : pPer t p = k := per_is h2 h1
  rw [this]; exact ⟨h2, h1⟩
def hRing (t : List Nat) (x : Nat) : List Nat := ringN (at_ t) x (hPer t x)
def pRing (t : List Nat) (p : Nat × Nat) : List (Nat × Nat) := ringN (ledPair t) p (pPer t p)
end RM
end

section
namespace DL
open PySem PySem.Spec PyProof.Rows L2 RM
open PySem.W (AlikeAll minD AllAlike Sortable dataLe alike alikeAll dataLt rowLt)
/-! order of encoded things -/
theorem dLe_is {α : Type} {enc : α → PyData} {lt : α → α → Bool} (h : ∀ a b, dataLt (enc a) (enc b) = lt a b) (a b : α) : dLe (enc a) (enc b) = le_ lt a b := by
  show (!dataLt (enc b) (enc a)) = _
  rw [h]
theorem sort_enc {α : Type} {enc : α → PyData} {lt : α → α → Bool} (h : ∀ a b, dataLt (enc a) (enc b) = lt a b) (xs : List α) : (xs.map enc).mergeSort dLe = (xs.mergeSort (le_ lt)).map enc :=
  (PySem.W.sort_maps (r := le_ lt) (s := dLe) enc (l := xs) (fun a _ b _ => (dLe_is h a b).symm)).symm
theorem min_enc {α : Type} {enc : α → PyData} {lt : α → α → Bool} (h : ∀ a b, dataLt (enc a) (enc b) = lt a b) : ∀ (xs : List α) (x : α), minD (enc x) (xs.map enc) = enc (xs.foldl (fun a y => if lt y a = true then y else a) x)
  | [], x => rfl
  | y :: ys, x => by
    have e : minD (enc x) ((y :: ys).map enc) = minD (if dataLt (enc y) (enc x) = true then enc y else enc x) (ys.map enc) := rfl
    rw [e, h, ← apply_ite enc, min_enc h ys]
    rfl
theorem lt_iN (a b : Nat) : dataLt (iN a) (iN b) = decide (a < b) := by
  unfold iN
  rw [PySem.W.dataLt_int]
  by_cases h : a < b
  · rw [decide_eq_true h, decide_eq_true (by omega)]
  · rw [decide_eq_false h, decide_eq_false (by omega)]
theorem lt_pN (a b : Nat × Nat) : dataLt (pN a) (pN b) = pLt a b := by
  unfold pN iN pLt
  rw [PySem.W.dataLt_ii]
  by_cases h : a.1 < b.1 ∨ (a.1 = b.1 ∧ a.2 < b.2)
  · rw [decide_eq_true h, decide_eq_true (by omega)]
  · rw [decide_eq_false h, decide_eq_false (by omega)]
theorem al_iN (a b : Nat) : alike (iN a) (iN b) = true := by simp [iN, alike]
theorem al_pN (a b : Nat × Nat) : alike (pN a) (pN b) = true := by simp [pN, iN, alike, alikeAll]
theorem al_all {α : Type} {enc : α → PyData} (h : ∀ a b, alike (enc a) (enc b) = true) : ∀ xs ys : List α, alikeAll (xs.map enc) (ys.map enc) = true
  | [], _ => by simp [alikeAll]
  | _ :: _, [] => by simp [alikeAll]
  | x :: xs, y :: ys => by
    rw [List.map_cons, List.map_cons, alikeAll, h, al_all h xs ys]; rfl
theorem al_tup {α : Type} {enc : α → PyData} (h : ∀ a b, alike (enc a) (enc b) = true) (xs ys : List α) : alike (.tuple (xs.map enc)) (.tuple (ys.map enc)) = true := by
  rw [alike]; exact al_all h xs ys
theorem al_lst {α : Type} {enc : α → PyData} (h : ∀ a b, alike (enc a) (enc b) = true) (xs ys : List α) : alike (.list (xs.map enc)) (.list (ys.map enc)) = true := by
  rw [alike]; exact al_all h xs ys
theorem row_nil_cons (y : PyData) (ys : List PyData) : rowLt [] (y :: ys) = true := by
  unfold rowLt
  rw [PySem.W.toks_all_cons]
  simp only [PySem.W.keyToksAll]
  rw [PyProof.Rows.lex_diff (O := itemOrd) (by simp)]
  rfl
theorem row_cons_nil (y : PyData) (ys : List PyData) : rowLt (y :: ys) [] = false := by
  unfold rowLt
  rw [PySem.W.toks_all_cons]
  simp only [PySem.W.keyToksAll]
  rw [PyProof.Rows.lex_diff (O := itemOrd) (by simp)]
  rfl
theorem lt_row {α : Type} [DecidableEq α] {enc : α → PyData} {lt : α → α → Bool} (h : ∀ a b, dataLt (enc a) (enc b) = lt a b) (he : ∀ a b, PyData.eqv (enc a) (enc b) = decide (a = b)) (ha : ∀ a b, alike (enc a) (enc b) = true) : ∀ xs ys : List α, rowLt (xs.map enc) (ys.map enc) = rLt lt xs ys
  | [], [] => by unfold rowLt; exact PyProof.Rows.lex_irrefl _
  | [], _ :: _ => row_nil_cons _ _
  | _ :: _, [] => row_cons_nil _ _
  | x :: xs, y :: ys => by
    have e := PySem.W.dataLt_cons (ha x y) (xs.map enc) (ys.map enc)
    rw [he, h] at e
    have ih := lt_row h he ha xs ys
    unfold rowLt at ih ⊢
    rw [List.map_cons, List.map_cons, e, ih, rLt]
    by_cases h1 : x = y <;> simp [h1]
theorem lt_tup {α : Type} [DecidableEq α] {enc : α → PyData} {lt : α → α → Bool} (h : ∀ a b, dataLt (enc a) (enc b) = lt a b) (he : ∀ a b, PyData.eqv (enc a) (enc b) = decide (a = b)) (ha : ∀ a b, alike (enc a) (enc b) = true) (xs ys : List α) : dataLt (.tuple (xs.map enc)) (.tuple (ys.map enc)) = rLt lt xs ys := by
  rw [PySem.W.dataLt_tuple]; exact lt_row h he ha xs ys
/-! rows of pairs, nets of n halls -/
abbrev rN (S : List (Nat × Nat)) : PyData := .tuple (S.map pN)
def nN (n : Nat) (S : List (Nat × Nat)) : PyData := .tuple [iN n, rN S]
theorem rN_eqv (S U : List (Nat × Nat)) : PyData.eqv (rN S) (rN U) = decide (S = U) := eqv_tup pN_eqv S U
theorem lt_rN (S U : List (Nat × Nat)) : dataLt (rN S) (rN U) = rLt pLt S U := lt_tup lt_pN pN_eqv al_pN S U
theorem al_rN (S U : List (Nat × Nat)) : alike (rN S) (rN U) = true := al_tup al_pN S U
theorem nN_eqv (n : Nat) (S U : List (Nat × Nat)) : PyData.eqv (nN n S) (nN n U) = decide (S = U) := by
  have : PyData.eqv (nN n S) (nN n U) = (PyData.eqv (iN n) (iN n) && (PyData.eqv (rN S) (rN U) && true)) := by simp only [nN, PyData.eqv, PyData.eqvAll]
  rw [this, iN_eqv, rN_eqv, decide_eq_true rfl, Bool.true_and, Bool.and_true]
theorem al_nN (n : Nat) (S U : List (Nat × Nat)) : alike (nN n S) (nN n U) = true := by
  unfold nN
  rw [alike]
  simp only [alikeAll]
  rw [al_iN, al_rN]; rfl
theorem lt_nN (n : Nat) (S U : List (Nat × Nat)) : dataLt (nN n S) (nN n U) = rLt pLt S U := by
  unfold nN
  rw [PySem.W.dataLt_pair (al_iN n n) (al_rN S U), iN_eqv, decide_eq_true rfl, if_pos rfl, rN_eqv, lt_rN]
  by_cases h : S = U
  · subst h; rw [decide_eq_true rfl, if_pos rfl, rLt_ir ordP]
  · rw [decide_eq_false h, if_neg (by simp)]
theorem rN_lay (S : List (Nat × Nat)) : (rN S).canLay0 = true := lay_tup pN_lay
theorem rN_dep (S : List (Nat × Nat)) : (rN S).depth ≤ 2 := dep_tup fun x => by rw [pN_dep]; decide
theorem nN_lay (n : Nat) (S : List (Nat × Nat)) : (nN n S).canLay0 = true := by
  unfold nN
  rw [PyData.canLay0, PyData.canLayAll0, iN_lay, PyData.canLayAll0, rN_lay, PyData.canLayAll0]; rfl
theorem nN_dep (n : Nat) (S : List (Nat × Nat)) : (nN n S).depth ≤ 3 := by
  unfold nN
  rw [PyData.depth, PyData.depthAll, iN_dep, PyData.depthAll, PyData.depthAll]
  have := rN_dep S
  omega
theorem sh_rN (S : List (Nat × Nat)) : SeqAt.shaped (rN S) = true := shaped_of (rN_lay S) (Nat.le_trans (rN_dep S) (by decide))
theorem sh_nN (n : Nat) (S : List (Nat × Nat)) : SeqAt.shaped (nN n S) = true := shaped_of (nN_lay n S) (Nat.le_trans (nN_dep n S) (by decide))
theorem sh_pNs (S : List (Nat × Nat)) : SeqAt.shaped (.list (S.map pN)) = true := sh_lst S pN_lay fun x => by rw [pN_dep]; decide
theorem sh_iNs (t : List Nat) : SeqAt.shaped (.list (t.map iN)) = true := sh_lst t iN_lay (fun x => by rw [iN_dep]; decide)
theorem sh_tn (t : List Nat) : SeqAt.shaped (tn t) = true := sh_tup t iN_lay (fun x => by rw [iN_dep]; decide)
theorem sb_iN (t : List Nat) : Sortable (t.map iN) := .others fun b => ⟨(by intro z; cases z), fun xs z => by cases z⟩
theorem sb_pN (S : List (Nat × Nat)) : Sortable (S.map pN) := .tuples fun b => ⟨_, _, rfl⟩
theorem sb_nN (n : Nat) (L : List (List (Nat × Nat))) : Sortable (L.map (nN n)) := .tuples fun b => ⟨_, _, rfl⟩
section
variable {X : Cx} {Γ Γ1 : Gm} {e : Expr} {d : PyData} {pos pp : Pos} {kk : Nat}
/-- sorted, of encoded things -/
theorem en_sortE {α : Type} {enc : α → PyData} {lt : α → α → Bool} {xs : List α} (hlt : ∀ a b, dataLt (enc a) (enc b) = lt a b) (hal : ∀ a b, alike (enc a) (enc b) = true) (hlay : ∀ a, (enc a).canLay0 = true) (hdp : ∀ a, (enc a).depth ≤ 60) (hk : Sortable (xs.map enc)) (hr : Room kk X.A) (hm : X.mg "sorted" = none) (h : Ea X Γ [e] [d] Γ1) (hi : itemsOf d = some (xs.map enc)) (hg : Gl X "sorted" := by rfl)
    (he : starEach [e] X.env = (false, eval e X.env) :: starEach [] X.env := by rfl) : En X Γ (.Call (.Name "sorted" pp) [e] [] pos) ((xs.mergeSort (le_ lt)).map enc) Γ1 :=
  sort_enc hlt xs ▸ en_sort hr hm h hi (.of hal) hk (lay_all fun x _ => hlay x) (dep_all fun x _ => hdp x) hg he
theorem en_sortI {t : List Nat} (hr : Room kk X.A) (hm : X.mg "sorted" = none) (h : Ea X Γ [e] [d] Γ1) (hi : itemsOf d = some (t.map iN)) (hg : Gl X "sorted" := by rfl)
    (he : starEach [e] X.env = (false, eval e X.env) :: starEach [] X.env := by rfl) : En X Γ (.Call (.Name "sorted" pp) [e] [] pos) ((t.mergeSort (le_ fun a b : Nat => decide (a < b))).map iN) Γ1 :=
  en_sortE lt_iN al_iN iN_lay (fun a => by rw [iN_dep]; decide) (sb_iN t) hr hm h hi hg he
theorem en_sortP {S : List (Nat × Nat)} (hr : Room kk X.A) (hm : X.mg "sorted" = none) (h : Ea X Γ [e] [d] Γ1) (hi : itemsOf d = some (S.map pN)) (hg : Gl X "sorted" := by rfl)
    (he : starEach [e] X.env = (false, eval e X.env) :: starEach [] X.env := by rfl) : En X Γ (.Call (.Name "sorted" pp) [e] [] pos) ((S.mergeSort (le_ pLt)).map pN) Γ1 :=
  en_sortE lt_pN al_pN pN_lay (fun a => by rw [pN_dep]; decide) (sb_pN S) hr hm h hi hg he
theorem en_sortN {n : Nat} {L : List (List (Nat × Nat))} (hr : Room kk X.A) (hm : X.mg "sorted" = none) (h : Ea X Γ [e] [d] Γ1) (hi : itemsOf d = some (L.map (nN n))) (hg : Gl X "sorted" := by rfl)
    (he : starEach [e] X.env = (false, eval e X.env) :: starEach [] X.env := by rfl) : En X Γ (.Call (.Name "sorted" pp) [e] [] pos) ((L.mergeSort (le_ (rLt pLt))).map (nN n)) Γ1 :=
  en_sortE (lt_nN n) (al_nN n) (nN_lay n) (fun a => Nat.le_trans (nN_dep n a) (by decide)) (sb_nN n L) hr hm h hi hg he
end
end DL
end

section
namespace DL
open PySem PySem.Spec PyProof.Rows L2 RM
section
variable {X : Cx} {Γ Γ1 Γ2 : Gm} {a b c e tg iter : Expr} {d d1 d2 : PyData} {ds : List PyData} {pos : Pos} {st : Stmt} {sts rest body orelse : List Stmt} {p : Bool} {is : List Nat}
theorem getD_map {α : Type} {enc : α → PyData} {xs : List α} {i : Nat} (hi : i < xs.length) : (xs.map enc).getD i .none = enc xs[i] := by
  rw [List.getD_eq_getElem?_getD, List.getElem?_map, List.getElem?_eq_getElem hi]; rfl
/-- a loop that hands back d1 at the first thing that fails -/
theorem er_search {α : Type} {xs : List α} {enc : α → PyData} {f : α → Bool} (Γt : α → Gm) (hi : Ei X Γ tg iter (xs.map enc) Γ1) (hg : ∀ x, x ∈ xs → Eg X Γ1 tg (enc x) is (Γt x))
    (hok : ∀ x, x ∈ xs → f x = true → ∃ Γ2, Ess X (Γt x) body (.nx Γ2) ∧ Less Γ1 Γ2) (hbad : ∀ x, x ∈ xs → f x = false → Er X (Γt x) body d1) (hrest : Er X Γ1 rest d2)
    (hp : PassesOwn (model X.prog X.w) X.A X.env X.xe := by exact PassesOwn.never) (hcm : X.calm = true := by rfl) (hs : ∀ x, foldedSetIterable iter X.env x = pure x := by intro _; rfl) : Er X Γ (.For tg iter body [] pos :: rest) (if xs.all f = true then d2 else d1) := by
  by_cases hne : xs = []
  · subst hne
    exact er_cons (es_forThru (is := is) (fun _ => Γ1) hi (fun i d hd => by simp at hd) (fun i hi => absurd hi (Nat.not_lt_zero i)) hp hcm hs) hrest
  obtain ⟨x0, hx0⟩ : ∃ x, xs.head? = some x := by
    cases xs with
    | nil => exact absurd rfl hne
    | cons x _ => exact ⟨x, rfl⟩
  let g : Nat → Gm := fun i => Γt (xs.getD i x0)
  have ge : ∀ i (hi : i < xs.length), g i = Γt xs[i] := fun i hi => by
    show Γt (xs.getD i x0) = _
    rw [List.getD_eq_getElem?_getD, List.getElem?_eq_getElem hi]; rfl
  have hgt : ∀ i d, (xs.map enc)[i]? = some d → Eg X Γ1 tg d is (g i) := fun i d hd => by
    rw [List.getElem?_map] at hd
    cases h : xs[i]? with
    | none => rw [h] at hd; cases hd
    | some x =>
      rw [h] at hd
      cases hd
      obtain ⟨hl, e⟩ := List.getElem?_eq_some_iff.mp h
      rw [ge i hl, e]
      exact hg x (e ▸ List.getElem_mem hl)
  rcases first_fail (fun i => match xs[i]? with | some x => f x | none => true) xs.length with hall | ⟨m, hm, hf, hlt⟩
  · have ha : xs.all f = true := by
      rw [List.all_eq_true]
      intro x hx
      obtain ⟨i, hi, e⟩ := List.getElem_of_mem hx
      have := hall i hi
      rw [List.getElem?_eq_getElem hi, e] at this
      exact this
    rw [if_pos ha]
    refine er_cons (es_forThru (is := is) g hi hgt (fun i hi => ?_) hp hcm hs) hrest
    rw [List.length_map] at hi
    have := hall i hi
    rw [List.getElem?_eq_getElem hi] at this
    rw [ge i hi]
    exact hok _ (List.getElem_mem hi) this
  · rw [List.getElem?_eq_getElem hm] at hf
    have ha : xs.all f = false := by
      rw [List.all_eq_false]
      exact ⟨xs[m], List.getElem_mem hm, by rw [show f xs[m] = false from hf]; decide⟩
    rw [ha, if_neg (by decide)]
    refine er_forRet (is := is) g m hi (by rw [List.length_map]; exact hm) hgt (fun i hi => ?_) ?_ hp hcm hs
    · have := hlt i hi
      rw [List.getElem?_eq_getElem (by omega)] at this
      rw [ge i (by omega)]
      exact hok _ (List.getElem_mem _) this
    · rw [ge m hm]
      exact hbad _ (List.getElem_mem hm) hf
theorem pe_nm (n : Nat) {x : Str} (hN : X.N[n]? = some x := by rfl) (hv : Vis X.env.scope x := by first | exact Or.inl rfl | exact Or.inr (Or.inl rfl) | exact Or.inr (Or.inr rfl)) (hd : (x == ("__debug__" : Str)) = false := by decide) (hcd : (x == ("__classdict__" : Str)) = false := by decide) : PE X (.Name x pos) (tVar n) := pe_var hN hv hd hcd
/-- `return a` of a comparison's words -/
theorem shp_beq {a b : Bool} : PyData.eqv (.bool a) (.bool b) = (a == b) := by cases a <;> cases b <;> rfl
end
end DL
end

section
namespace DL
open PySem PySem.Spec PyProof.Rows L2
section
variable {X : Cx} {Γ Γ1 Γ2 : Gm} {pos : Pos} {α β : Type}
/-- y = [.. for .. for ..], y a local -/
theorem es_setLc2 {elt tg iter tg1 iter1 : Expr} {scope : Scope} {own : List (Str × Nat)} {vs1 : List Nat} (n : Nat) {y : Str} {py spos : Pos} (xs : List α) (enc : α → PyData) (ys : α → List β) (enc1 : α → β → PyData) (h : α → β → PyData) (Γt : α → Gm) (Γu : α → β → Gm) (is is1 : List Nat) (hc : X.calm = true) (hN : X.N.Nodup) (ok : BlkOk X.N X.env.scope scope own) (hvs : ∀ i ∈ vs1, i ∈ own.map (·.2)) (hv : noV Γ1 (own.map (·.2)) = true)
    (hv1 : ∀ x, x ∈ xs → noV (Γt x) vs1 = true) (his : ∀ i ∈ is, i ∈ own.map (·.2)) (his1 : ∀ i ∈ is1, i ∈ vs1) (hsz : (xs.flatMap ys).length ≤ 16777216) (hless : ∀ x, x ∈ xs → Less Γ1 (Γt x)) (hless1 : ∀ x, x ∈ xs → ∀ y, y ∈ ys x → Less (Γt x) (Γu x y)) (hi : Ei X Γ tg iter (xs.map enc) Γ1)
    (hg : ∀ x, x ∈ xs → ∀ (s : Shared) (H : Hp) (C : Addr) (cl : List (Str × Addr)) (fp : List Addr), Eg (X.blk s H scope (compEnvC scope cl C X.env) fp) Γ1 tg (enc x) is (Γt x))
    (hi1 : ∀ x, x ∈ xs → ∀ (s : Shared) (H : Hp) (C : Addr) (cl : List (Str × Addr)) (fp : List Addr), Ei (X.blk s H scope (compEnvC scope cl C X.env) fp) (Γt x) tg1 iter1 ((ys x).map (enc1 x)) (Γt x))
    (hg1 : ∀ x, x ∈ xs → ∀ y, y ∈ ys x → ∀ (s : Shared) (H : Hp) (C : Addr) (cl : List (Str × Addr)) (fp : List Addr), Eg (X.blk s H scope (compEnvC scope cl C X.env) fp) (Γt x) tg1 (enc1 x y) is1 (Γu x y))
    (he : ∀ x, x ∈ xs → ∀ y, y ∈ ys x → ∀ (s : Shared) (H : Hp) (C : Addr) (cl : List (Str × Addr)) (fp : List Addr), Ee (X.blk s H scope (compEnvC scope cl C X.env) fp) (Γu x y) elt (h x y) (Γu x y))
    (hy : X.N[n]? = some y := by rfl) (hyl : X.env.scope.names.lookup y = some .local := by rfl) (hl : Γ1[n]?.isSome = true := by rfl) (hsw : swapsWith (.ListComp elt [⟨tg, iter, [], 0⟩, ⟨tg1, iter1, [], 0⟩] scope pos) (some (.Name y py)) spos.line X.env = pure true := by exact sw_true rfl rfl rfl (by decide +kernel)) (hs : ∀ x, foldedSetIterable iter X.env x = pure x := by intro _; rfl) (hs1 : ∀ env x, foldedSetIterable iter1 env x = pure x := by intro _ _; rfl) :
    Es X Γ (.Assign [.Name y py] (.ListComp elt [⟨tg, iter, [], 0⟩, ⟨tg1, iter1, [], 0⟩] scope pos) spos) (.nx (Γ1.set n (some (.ow (xs.flatMap fun x => (ys x).map (h x)))))) :=
  ps_imp (ps_setLc2 (g := fun v σ H Q => ∃ x, x ∈ xs ∧ tGt X.K Γ1 (enc x) is (Γt x) v σ H Q) (wi1 := fun σ H R => ∃ x, x ∈ xs ∧ tIt X.K (Γt x) ((ys x).map (enc1 x)) (Γt x) σ H R) (g1 := fun v σ H Q => ∃ x y, x ∈ xs ∧ y ∈ ys x ∧ tGt X.K (Γt x) (enc1 x y) is1 (Γu x y) v σ H Q) (te := fun σ H Q => ∃ x y, x ∈ xs ∧ y ∈ ys x ∧ tE X.K (Γu x y) (h x y) (Γu x y) σ H Q) hc hN hy hyl hsw hi ok hvs
    (fun s H C cl fp => ⟨fun pins s' σ H' v u Q I r ⟨x, hx, hh⟩ => (hg x hx s H C cl fp).run pins s' σ H' v u Q I r hh⟩) (fun s H C cl fp => pts_nil) (fun s H C cl fp => ⟨fun pins s' σ H' R I ⟨x, hx, hh⟩ => (hi1 x hx s H C cl fp).run pins s' σ H' R I hh⟩)
    (fun s H C cl fp => ⟨fun pins s' σ H' v u Q I r ⟨x, y, hx, hy, hh⟩ => (hg1 x hx y hy s H C cl fp).run pins s' σ H' v u Q I r hh⟩) (fun s H C cl fp => pts_nil)
    (fun s H C cl fp => ⟨fun pins s' σ H' Q I ⟨x, y, hx, hy, hh⟩ => (he x hx y hy s H C cl fp).run pins s' σ H' Q I hh⟩) hs hs1) fun D σ H ⟨F, ev, x, kk⟩ =>
    lc2_read hv hv1 hless hless1 his his1 hvs hsz (fun σ H R z => z) (fun x hx v σ H Q z => ⟨x, hx, z⟩) (fun x hx σ H R z => ⟨x, hx, z⟩) (fun x hx y hy v σ H Q z => ⟨x, y, hx, hy, z⟩) (fun x hx y hy σ H Q z => ⟨x, y, hx, hy, z⟩) σ H _ ⟨F, ev, x, fun l zs F1 H1 g1 e1 hF hH hl' ho dv => by
      have hk : KdOk X.K H (Own σ Γ) F1 H1 (Own σ Γ1) (.ref l) (.n (xs.flatMap fun x => (ys x).map (h x))) := ⟨l, zs, rfl, hF, hl', ho, dv, hH⟩
      exact kk _ F1 H1 (g1.storeK e1 hk (some_lt hl)) (e1.storeK hk (some_lt hl))⟩
end
end DL
end

section
/-! What the functions answer. -/
namespace RM
/-- the least of some things -/
def leastOf {α : Type} (lt : α → α → Bool) (x : α) (xs : List α) : α := xs.foldl (fun a y => if lt y a = true then y else a) x
/-- the first is the least -/
def headMin {α : Type} [DecidableEq α] (lt : α → α → Bool) : List α → Bool
  | [] => false
  | x :: xs => decide (x = leastOf lt x xs)
def hRings (t : List Nat) : List (List Nat) := ((List.range t.length).map (hRing t)).filter (headMin fun a b => decide (a < b))
def ringsM (t : List Nat) : List Nat := ((hRings t).map List.length).mergeSort (le_ fun a b : Nat => decide (a < b))
def othersM (t : List Nat) : List Nat := (ringsM t).filter fun n => decide (n % 4 ≠ 0)
def canLeadM (t : List Nat) : Bool := decide (othersM t = []) || decide (othersM t = [1])
def pairRingsM (t : List Nat) : List (List (Nat × Nat)) := ((allPairs t.length).map (pRing t)).filter (headMin pLt)
def countLedM (t : List Nat) : Nat := if canLeadM t = true then 2 ^ (pairRingsM t).length else 0
theorem ring_ne {α : Type} {f : α → α} {a : α} {n : Nat} (h : 1 ≤ n) : ∃ r, ringN f a n = a :: r := by
  obtain ⟨m, rfl⟩ : ∃ m, n = m + 1 := ⟨n - 1, by omega⟩
  unfold ringN
  rw [List.range_succ_eq_map]
  exact ⟨_, rfl⟩
theorem hRing_ne (t : List Nat) (x : Nat) : ∃ r, hRing t x = x :: r := ring_ne (by unfold hPer perN; omega)
theorem pRing_ne (t : List Nat) (p : Nat × Nat) : ∃ r, pRing t p = p :: r := ring_ne (by unfold pPer perN; omega)
theorem ring_len {α : Type} {f : α → α} {a : α} {n : Nat} : (ringN f a n).length = n := by
  unfold ringN
  rw [List.length_map, List.length_range]
/-- every other thing, from the first; from the second -/
def evens {α : Type} : List α → List α
  | [] => []
  | [x] => [x]
  | x :: _ :: r => x :: evens r
def odds {α : Type} (l : List α) : List α := evens l.tail
def ledNetM (t : List Nat) : List (Nat × Nat) := ((pairRingsM t).flatMap evens).mergeSort (le_ pLt)
/-- the lots, ring by ring -/
def lotsStep {α : Type} (L : List (List α)) (r : List α) : List (List α) := L.flatMap fun l => [evens r, odds r].map fun h => l ++ h
def lotsM {α : Type} (R : List (List α)) : List (List α) := R.foldl lotsStep [[]]
def ledNetsM (t : List Nat) : List (List (Nat × Nat)) := if canLeadM t = true then ((lotsM (pairRingsM t)).map fun l => l.mergeSort (le_ pLt)).mergeSort (le_ (rLt pLt)) else []
theorem lots_len {α : Type} (R : List (List α)) : (lotsM R).length = 2 ^ R.length := by
  have step : ∀ (L : List (List α)) (r : List α), (lotsStep L r).length = 2 * L.length := by
    intro L r
    unfold lotsStep
    induction L with
    | nil => rfl
    | cons l L ih => rw [List.flatMap_cons, List.length_append, ih, List.length_cons]; simp; omega
  have go : ∀ (R : List (List α)) (L : List (List α)), (R.foldl lotsStep L).length = L.length * 2 ^ R.length := by
    intro R
    induction R with
    | nil => intro L; simp
    | cons r R ih => intro L; rw [List.foldl_cons, ih, step, List.length_cons, Nat.pow_succ]; rw [Nat.mul_comm 2 L.length, Nat.mul_assoc, Nat.mul_comm 2]
  unfold lotsM
  rw [go]; simp
end RM
end

section
namespace DL
open PySem PySem.Spec PyProof.Rows L2 RM
theorem evens_ix {α : Type} : ∀ (l : List α), (List.range ((l.length + 1) / 2)).filterMap (fun k => l[2 * k]?) = evens l
  | [] => by simp [evens]
  | [x] => by simp [evens]
  | x :: y :: r => by
    have e : ((x :: y :: r).length + 1) / 2 = (r.length + 1) / 2 + 1 := by
      show (r.length + 1 + 1 + 1) / 2 = _
      omega
    rw [e, List.range_succ_eq_map, List.filterMap_cons]
    show x :: _ = x :: evens r
    rw [List.filterMap_map, ← evens_ix r]
    congr 1
theorem odds_ix {α : Type} (l : List α) : (List.range (l.length / 2)).filterMap (fun k => l[1 + 2 * k]?) = odds l := by
  cases l with
  | nil => simp [odds, evens]
  | cons x r =>
    unfold odds
    rw [List.tail_cons, ← evens_ix r]
    show (List.range ((r.length + 1) / 2)).filterMap _ = _
    congr 1
    funext k
    rw [show 1 + 2 * k = 2 * k + 1 by omega, List.getElem?_cons_succ]
theorem pick_evens {α : Type} (l : List α) : pick l none none (some 2) = evens l := by
  unfold pick
  have e1 : sliceBounds none none (some 2) l.length = (0, (l.length : Int), 2) := rfl
  rw [e1, ← evens_ix]
  have e2 : sliceRange 0 (l.length : Int) 2 = (List.range ((l.length + 1) / 2)).map fun k => 2 * k := by
    unfold sliceRange
    have h1 : (if (2 : Int) > 0 then (if (0 : Int) < (l.length : Int) then ((l.length : Int) - 0 + 2 - 1) / 2 else 0) else (if (0 : Int) > l.length then (0 - (l.length : Int) - 2 - 1) / -2 else 0)).toNat = (l.length + 1) / 2 := by
      rw [if_pos (by decide)]
      split <;> omega
    show List.map _ (List.range (_ : Int).toNat) = _
    rw [h1]
    apply List.map_congr_left
    intro k _
    omega
  rw [e2, List.filterMap_map]
  rfl
theorem pick_odds {α : Type} (l : List α) : pick l (some 1) none (some 2) = odds l := by
  unfold pick
  rw [← odds_ix]
  cases l with
  | nil => simp
  | cons x r =>
    have e1 : sliceBounds (some 1) none (some 2) (x :: r).length = (1, ((x :: r).length : Int), 2) := by
      unfold sliceBounds
      have : max 0 (min (1 : Int) ((x :: r).length : Int)) = 1 := by rw [List.length_cons]; omega
      show (max 0 (min (1 : Int) ((x :: r).length : Int)), _, _) = _
      rw [this]; rfl
    rw [e1]
    generalize x :: r = l at *
    have e2 : sliceRange 1 (l.length : Int) 2 = (List.range (l.length / 2)).map fun k => 1 + 2 * k := by
      unfold sliceRange
      have h1 : (if (2 : Int) > 0 then (if (1 : Int) < (l.length : Int) then ((l.length : Int) - 1 + 2 - 1) / 2 else 0) else (if (1 : Int) > l.length then (1 - (l.length : Int) - 2 - 1) / -2 else 0)).toNat = l.length / 2 := by
        rw [if_pos (by decide)]
        split <;> omega
      show List.map _ (List.range (_ : Int).toNat) = _
      rw [h1]
      apply List.map_congr_left
      intro k _
      omega
    rw [e2, List.filterMap_map]
    rfl
theorem evens_map {α β : Type} (f : α → β) : ∀ l : List α, evens (l.map f) = (evens l).map f
  | [] => rfl
  | [_] => rfl
  | x :: y :: r => by
    show f x :: evens (r.map f) = f x :: (evens r).map f
    rw [evens_map f r]
theorem odds_map {α β : Type} (f : α → β) (l : List α) : odds (l.map f) = (odds l).map f := by
  unfold odds
  rw [← List.map_tail, evens_map]
theorem evens_sub {α : Type} : ∀ l : List α, (evens l).Sublist l
  | [] => .slnil
  | [x] => List.Sublist.refl _
  | x :: y :: r => .cons_cons x (.cons y (evens_sub r))
theorem odds_sub {α : Type} (l : List α) : (odds l).Sublist l := (evens_sub _).trans (List.tail_sublist l)
section
variable {X : Cx} {Γ Γ1 : Gm} {e : Expr} {pos : Pos} {α : Type} {enc : α → PyData} {xs : List α}
/-- r[::2], r[1::2] -/
theorem ee_evens {kk : Nat} {p2 p3 : Pos} (he : Ee X Γ e (.list (xs.map enc)) Γ1) (hop : subscriptTail e (.Slice none none (some (.Constant (.int (2 : Nat)) kk p2)) p3) = subscriptTail e (.Slice none none (some (.Constant (.int (2 : Nat)) kk p2)) p3) := by rfl) :
    Ee X Γ (.Subscript e (.Slice none none (some (.Constant (.int 2) kk p2)) p3) pos) (.list ((evens xs).map enc)) Γ1 :=
  ee_is (ee_new (en_sliceStep (n := 2) (l := none) (tl := fun σ H Q => Q none H) (by decide) he po_none (fun _ _ _ q => q) hop)) (by rw [show ((2 : Nat) : Int) = 2 from rfl, pick_evens, evens_map])
theorem ee_odds {kk k2 : Nat} {p2 p3 p4 : Pos} (he : Ee X Γ e (.list (xs.map enc)) Γ1) (hop : subscriptTail e (.Slice (some (.Constant (.int 1) k2 p4)) none (some (.Constant (.int (2 : Nat)) kk p2)) p3) = subscriptTail e (.Slice (some (.Constant (.int 1) k2 p4)) none (some (.Constant (.int (2 : Nat)) kk p2)) p3) := by rfl) :
    Ee X Γ (.Subscript e (.Slice (some (.Constant (.int 1) k2 p4)) none (some (.Constant (.int 2) kk p2)) p3) pos) (.list ((odds xs).map enc)) Γ1 :=
  ee_is (ee_new (en_sliceStep (n := 2) (l := some 1) (by decide) he (po_some pe_int) (fun _ _ _ q => ⟨_, rfl, q⟩) hop)) (by rw [show ((2 : Nat) : Int) = 2 from rfl, pick_odds, odds_map])
end
end DL
end

section
namespace DL
open PySem PySem.Spec PyProof.Rows L2
/-! errors without fields: a def that may raise one; try with one clause -/
section
variable {X : Cx} {Γ Γ1 : Gm} {c : Expr} {st : Stmt} {rest body orelse : List Stmt} {pos : Pos} {C : Addr} {E : XK}
/-- out of a block by an error of the class at C -/
def Rx (X : Cx) (Γ : Gm) (sts : List Stmt) (C : Addr) (E : XK) : Prop := PSs X sts (fun _ σ H => ∃ F, EnvOk X.K F H σ Γ ∧ Ext F H ∧ ∀ σ' Γ' F' H', Gr F H (Own σ Γ) F' H' (Own σ' Γ') → E (.ref C) none H')
theorem rx_cons (h1 : Es X.nox Γ st (.nx Γ1)) (h2 : Rx X Γ1 rest C E) : Rx X Γ (st :: rest) C E := by
  have h3 : PS X st (tS X.K Γ (.nx Γ1)) := by
    refine ⟨fun pins s σ H D I hw => ?_⟩
    refine wpAny_mono (h1.run pins s σ H D (I.wish _) hw) (fun _ _ q => ?_) (fun _ _ z => ?_)
    · exact q.unwish
    · exact False.elim z
  exact pss_imp (pss_cons h3 h2) fun D σ H ⟨F, ev, x, k⟩ => ⟨F, ev, x, fun σ1 F1 H1 g1 e1 => ⟨F1, e1, g1.fh, fun σ2 Γ2 F2 H2 g2 => k σ2 Γ2 F2 H2 (g1.trans g2)⟩⟩
theorem rx_if (hc : Et X.nox Γ c true Γ1) (h : Rx X Γ1 body C E) : Rx X Γ (.If c body orelse pos :: rest) C E := by
  have hc' : PT X c (tT X.K Γ true Γ1) := PT.nox hc
  exact pss_imp (pss_cons (ps_if hc' h pss_never) pss_never) fun D σ H ⟨F, ev, x, k⟩ => ⟨F, ev, x, fun F1 H1 g1 e1 => by
    show (if true = true then _ else _)
    rw [if_pos rfl]
    exact ⟨F1, e1, g1.fh, fun σ2 Γ2 F2 H2 g2 => k σ2 Γ2 F2 H2 (g1.trans g2)⟩⟩
theorem rx_raise {e : Expr} (hc : X.calm = true) (tk : Takes X (fun cls d _ H => E cls d H)) (he : PMk X e (fun _ H Q => Q (.ref C) none H)) : Rx X Γ (.Raise (some e) none pos :: rest) C E :=
  pss_imp (pss_cons (ps_raise hc tk he) pss_never) fun D σ H ⟨F, ev, x, k⟩ => k σ Γ F H (Gr.refl x)
/-- C(), a class of its own over a built-in one, without __init__ -/
theorem pmk_zero {B newId initId : String} {bmB : List Value} {x : Str} {p : Pos} (Fx : ExcBaseFacts B newId initId bmB) (hq : PySem.W.excIn X.K C bmB newId = true) (hm : X.mg x = some (.ref C)) (hk : PySem.W.keepIn X.K (.ref C) = true)
    (hr : Raises X (.ref C)) (hg : Gl X x := by rfl) (hdb : (x == ("__debug__" : Str)) = false := by decide) : PMk X (.Call (.Name x p) [] [] pos) (fun _ H Q => Q (.ref C) none H) := by
  intro pn s0 σ0 H0 Q0 J hw
  refine wpAny_Call_Name_kw (ld_glob J hg hm ?_ hdb)
  refine PySem.W.callWith_K0 J.kIn hk ?_
  show wpAny _ _ (call (.ref C) []) _ _ _
  obtain ⟨z1, z2, z3, z4, z5, z6, z7, z8, z9, y1, y2, y3, y4, y5, y6, y7, y8, hC, hN, hni, tl⟩ := exc_obj J.kIn hq
  refine wpAny_call_exc_subT Fx tl hC hN hni (fun hp a made => ?_) (Nat.zero_le _)
  exact mk_of J made hr hw (J.hok.gone made.new)
end
/-- a def of data that hands one back or raises the error of the class at C -/
def spX (K : PySem.W.Frag) (C : Addr) (R : List PyData → Option PyData → Prop) : Sp := fun vs H Q E => ∃ (F : Hp) (ds : List PyData) (od : Option PyData), Ext F H ∧ DdA K F vs ds ∧ R ds od ∧
  (∀ d, od = some d → ∀ v F' H', Ext F F' → Ext F' H' → Ext H H' → (∀ a, F' a ≠ none → F a ≠ none ∨ H a = none) → Dd K F' v d → Q v H') ∧ (od = none → ∀ H', Ext H H' → E (.ref C) none H')
structure CaX (P : Program) (w : World) (K : PySem.W.Frag) (mg : Str → Option Value) (base : Heap) (k : Nat) (x : Str) (ps : List Str) (C : Addr) (R : List PyData → Option PyData → Prop) : Prop where
  ex : ∃ f fd, mg x = some (.ref f) ∧ PySem.W.keepIn K (.ref f) = true ∧ L2.Binds K fd ps [] ∧ FnOk P w K mg base (L2.CX P w) k f fd ps (spX K C R)
section
variable {P : Program} {w : World} {K : PySem.W.Frag} {mg : Str → Option Value} {base : Heap} {k : Nat} {x : Str} {ps : List Str} {C : Addr}
theorem ca_X {st : Stmt} {N : List Str} {R : List PyData → Option PyData → Prop} (F : Fn K mg x st ps) (S : FnScope N ps (defScope st)) (hlen : ∀ ds d, R ds d → ds.length = ps.length)
    (hyes : ∀ (f : Addr) (cdv : Value) (A : Around) (outer : List Env) (s : Shared) (H : Hp) (E : XK) (ds : List PyData) (d : PyData), Room k (A.deeper (envOfC x (defScope st) s.heap.objs.size f cdv)) → R ds (some d) →
      Er (cxOf (L2.CX P w) P w K mg base N x (defScope st) f cdv A outer s H E).nox (slots0 N ds) (defBody st) d)
    (hno : ∀ (f : Addr) (cdv : Value) (A : Around) (outer : List Env) (s : Shared) (H : Hp) (E : XK) (ds : List PyData), Room k (A.deeper (envOfC x (defScope st) s.heap.objs.size f cdv)) → R ds none →
      Rx (cxOf (L2.CX P w) P w K mg base N x (defScope st) f cdv A outer s H E) (slots0 N ds) (defBody st) C E) : CaX P w K mg base (k + 1) x ps C R := by
  obtain ⟨f, fd, hm, hF, hb⟩ := F.ex
  refine ⟨f, fd, hm, hF.kp, hb, hF.okX S (fun vs H Q E h => ?_) (fun cdv A outer s H vs Q E hr h => ?_)⟩
  · obtain ⟨F, ds, d, _, hA, hR, _⟩ := h
    rw [hA.len]; exact hlen ds d hR
  · have hpl : ps.length ≤ N.length := by have := congrArg List.length S.pre; rw [List.length_take] at this; omega
    obtain ⟨F, ds, od, xt, hA, hR, q1, q2⟩ := h
    have ev := env_start (N := N) (H := H) hA (by rw [hlen ds od hR]; exact hpl)
    cases od with
    | some d =>
      obtain ⟨Γ', ho⟩ := hyes f cdv A outer s H E ds d hr hR
      refine ⟨_, PSs.nox ho, F, ev, xt, fun v σ' F' H' g e dv => ?_⟩
      exact q1 d rfl v F' H' g.ff g.fh (fun a o' h => (g.hh a o' h).resolve_right fun z => own_start z) (fun a h => (g.nw a h).imp id fun z => z.resolve_right fun z => own_start z) dv
    | none =>
      refine ⟨_, hno f cdv A outer s H E ds hr hR, F, ev, xt, fun σ' Γ' F' H' g => ?_⟩
      exact q2 rfl H' fun a o' h => (g.hh a o' h).resolve_right fun z => own_start z
end
end DL
end

section
namespace DL
open PySem PySem.Spec PyProof.Rows L2
section
variable {X : Cx} {Γ Γ1 : Gm} {e : Expr} {es : List Expr} {ds : List PyData} {k j i m : Nat} {g n y xn : Str} {ps : List Str} {C : Addr} {R : List PyData → Option PyData → Prop} {od : Option PyData} {o : Out} {pg cp ap py np pos pos' : Pos} {b0 : Stmt} {suite : List Stmt}
/-- try: y = g(e, ..), except C as n: a suite that hands something back -/
theorem es_try1 (hs : X.stack = X.env :: X.outer) (hf : X.env.frame = some X.env.locals) (hN : X.N.Nodup) (i m : Nat) (hc : Names X xn (.ref C)) (hexm : PySem.W.exmOne X.K (.ref C) (.ref C) = some true)
    (F : CaX X.prog X.w X.K X.mg X.base k g ps C R) (hr : Room j X.A) (hj : k ≤ j) (ha : ∀ pn xe, Ea (X.tr pn xe) Γ (e :: es) ds Γ1) (hR : R ds od)
    (hyes : ∀ d, od = some d → o = .nx (Γ1.set m (some (.im d)))) (hno : od = none → (∃ d Γ', o = .rt d Γ') ∧ noV Γ1 [i] = true ∧ ∀ a pn, Ess (X.suite a pn) Γ1 (b0 :: suite) o)
    (hi : X.N[i]? = some n := by rfl) (hln : X.env.kindOf n = some .local := by rfl) (hy : X.N[m]? = some y := by rfl) (hyl : Loc X.env.scope y := by first | exact Or.inl rfl | exact Or.inr rfl) (hyf : X.fn y = true ∨ X.env.scope.names.lookup y = some .local := by first | exact .inl rfl | exact .inr rfl) (hl : Γ1[m]?.isSome = true := by rfl)
    (hsw : swapsWith (.Call (.Name g pg) (e :: es) [] cp) (some (.Name y py)) ap.line X.env = pure false := by rfl) (hg : Gl X g := by rfl) (hdb : (g == ("__debug__" : Str)) = false := by decide)
    (he : starEach (e :: es) X.env = (false, eval e X.env) :: starEach es X.env := by rfl) (hpl : (backTo cp (starEach es X.env)).any (·.1) = false := by rfl) :
    Es X Γ (.Try [.Assign [.Name y py] (.Call (.Name g pg) (e :: es) [] cp) ap] [.ExceptHandler (some (.Name xn np)) (some n) (b0 :: suite) pos'] [] [] pos) o := by
  obtain ⟨f, fd, hm, hk, hb, hF⟩ := F.ex
  refine ps_imp (ps_try_as (i := i) (tb := fun W => tAsg (tCallS (spX X.K C R) (WE W) (tAs X.K Γ ds Γ1)) (gName m)) (ts := fun a cls d => fun D σ H => od = none ∧ tS X.K Γ1 o D σ H) (Wout := fun _ _ _ _ => False) hs hf hN hi hln hc takes0
    (fun W pn xe tk _ => pss_one (ps_set (X := X.tr pn xe) hN hy hyl (pe_callS (X := X.tr pn xe) hF (hr.mono hj) hg hm hk hb (fun σ => passAt tk σ) (ha pn xe) hdb he hpl) hsw hyf))
    (fun a oe cls d pn _ _ => ⟨fun pins s σ H D I ⟨h0, h⟩ => ((hno h0).2.2 a _).run pins s σ H D I h⟩)) fun D σ H ⟨F0, ev, xt, kk⟩ => ?_
  refine ⟨F0, ev, xt, fun vs F1 H1 g1 e1 dv => ⟨F1, ds, od, g1.fh, dv, hR, fun d hd v F' H' i1 i2 i3 i4 dv' => ?_, fun h0 H' x1 => ?_⟩⟩
  · have ho := hyes d hd
    subst ho
    have g2 := g1.trans (Gr.ext i1 i2 i3 i4)
    have e2 := e1.keep i1 i3 i4
    have hk : KdOk X.K H (Own σ Γ) F' H' (Own σ Γ1) v (.d d) := dv'
    exact kk _ F' H' (g2.storeK e2 hk (some_lt hl)) (e2.storeK hk (some_lt hl))
  · obtain ⟨⟨d, Γ', ho⟩, hv, _⟩ := hno h0
    subst ho
    refine ⟨true, hexm, fun _ a na => ⟨h0, F1, ?_, g1.fh.trans x1, ?_⟩, fun z => by cases z⟩
    · exact (e1.keep (Ext.refl F1) x1 fun a h => .inl h).agree hv (wipe_set (List.mem_singleton.mpr rfl)).symm
    · intro v σ' F' H2 g2 e2 dv'
      refine kk v σ' F' H2 ?_ e2 dv'
      have g3 : Gr F0 H (Own σ Γ) F1 H' (Own σ Γ1) := g1.trans (Gr.ext (Ext.refl F1) (g1.fh.trans x1) x1 fun a h => .inl h)
      exact (g3.right fun a q => own_agree hv (wipe_set (List.mem_singleton.mpr rfl)) q).trans g2
end
end DL
end

section
namespace DL
open PySem PySem.Spec PyProof.Rows L2
section
variable {X : Cx} {Γ Γ1 Γ2 : Gm} {a b : Expr} {rest : List Expr} {pos : Pos} {q : Bool}
/-- and, the first part known -/
theorem ew_andT (ha : Et X Γ a true Γ1) (hb : Ew X Γ1 (.BoolOp .And (b :: rest) pos) q Γ2) : Ew X Γ (.BoolOp .And (a :: b :: rest) pos) q Γ2 :=
  pw_imp (pw_and ha (pw_guard fun _ : true = true => hb)) fun σ H Q ⟨F, ev, x, k⟩ => ⟨F, ev, x, fun F1 H1 g1 e1 =>
    iteT ⟨rfl, F1, e1, g1.fh, fun F2 H2 g2 e2 => k F2 H2 (g1.trans g2) e2⟩⟩
theorem ew_andF (ha : Et X Γ a false Γ1) : Ew X Γ (.BoolOp .And (a :: b :: rest) pos) false Γ1 :=
  pw_imp (pw_and ha (pw_guard (t := tT X.K Γ1 true Γ1) fun z : false = true => by cases z)) fun σ H Q ⟨F, ev, x, k⟩ => ⟨F, ev, x, fun F1 H1 g1 e1 =>
    iteF (k F1 H1 g1 e1)⟩
end
theorem cut_take (ds : List PyData) (k : Nat) : cutD ds none (some (k : Int)) = ds.take k := by
  unfold cutD
  rw [HT.sIx_none, HT.sIx_nat, Nat.sub_zero, List.drop_zero]
  by_cases h : k ≤ ds.length
  · rw [Nat.min_eq_left h]
  · rw [Nat.min_eq_right (by omega), List.take_of_length_le (Nat.le_refl _), List.take_of_length_le (by omega)]
end DL
end

section
namespace DL
open PySem PySem.Spec PyProof.Rows L2
section
variable {X : Cx} {Γ Γ1 : Gm} {c : Expr} {p : Bool} {pos : Pos}
/-- the tests of a clause, that may change lists of the frame's own -/
def Ezs (X : Cx) (Γ : Gm) (ifs : List Expr) (b : Bool) (Γ' : Gm) : Prop := PTs X ifs (tT X.K Γ b Γ')
theorem ezs_one (h : Et X Γ c p Γ1) : Ezs X Γ [c] p Γ1 := pts_one h
def keptOf (n : Nat) (f : Nat → Bool) (h : Nat → PyData) : List PyData := ((List.range n).filter f).map h
theorem kept_step (n : Nat) (f : Nat → Bool) (h : Nat → PyData) : keptOf (n + 1) f h = keptOf n f h ++ (if f n = true then [h n] else []) := by
  unfold keptOf
  rw [List.range_succ, List.filter_append, List.map_append]
  congr 1
  cases hf : f n <;> simp [hf]
theorem kept_len (n : Nat) (f : Nat → Bool) (h : Nat → PyData) : (keptOf n f h).length ≤ n := by
  unfold keptOf
  rw [List.length_map]
  exact Nat.le_trans (List.length_filter_le _ _) (by rw [List.length_range]; exact Nat.le_refl n)
/-- the reading of a comprehension whose test changes lists of the frame's own: G i is told behind i turns -/
theorem lcS_read {ds : List PyData} {f : Nat → Bool} {h : Nat → PyData} {G Γt Γu : Nat → Gm} {vs is : List Nat} {g : TG} {tt : TT} {te : TE} {wi : TI} (hv : ∀ i, noV (G i) vs = true) (hown : ∀ i (σ : L2.St) a, Own σ (G i) a → Own σ (G 0) a) (hless : ∀ i, i < ds.length → Less (G (i + 1)) (Γu i)) (his : ∀ i ∈ is, i ∈ vs) (hsz : ds.length ≤ 16777216)
    (hut : ∀ i, i < ds.length → ∀ (σ : L2.St) a, Own σ (Γt i) a → Own σ (G i) a)
    (hw : ∀ σ H R, tIt X.K Γ ds (G 0) σ H R → wi σ H R) (hg : ∀ i d, ds[i]? = some d → ∀ v σ H Q, tGt X.K (G i) d is (Γt i) v σ H Q → g v σ H Q) (ht : ∀ i, i < ds.length → ∀ σ H Q, tT X.K (Γt i) (f i) (Γu i) σ H Q → tt σ H Q) (he : ∀ i, i < ds.length → f i = true → ∀ σ H Q, tE X.K (Γu i) (h i) (Γu i) σ H Q → te σ H Q)
    (huu : ∀ i, i < ds.length → ∀ (σ : L2.St) a, Own σ (Γu i) a → Own σ (Γt i) a) :
    ∀ σ H Q, tN X.K Γ (keptOf ds.length f h) (G ds.length) σ H Q → tLc wi g tt te vs σ H Q := by
  intro σ H Q ⟨F, ev, x, k⟩
  refine hw σ H _ ⟨F, ev, x, fun J F1 H1 g1 e1 hW => fun D hD => ?_⟩
  have nD0 : ¬ Own σ (G 0) D := fun o => by
    obtain ⟨_, ys, z⟩ := e1.own_at o
    rw [hD] at z; cases z
  have nD : ∀ i, ¬ Own σ (G i) D := fun i o => nD0 (hown i σ D o)
  have ag : wipe (wipe σ vs) vs = wipe σ vs := wipe_idem σ vs
  refine ⟨fun i m H2 => m = ds.length - i ∧ i ≤ ds.length ∧ ∃ F2 acc, EnvOk X.K F2 H2 σ (G i) ∧ Gr F1 H1 (Own σ (G 0)) F2 H2 (Own σ (G i)) ∧ F2 D = none ∧ H2 D = some (.lst acc) ∧ DdA X.K F2 acc (keptOf i f h), ⟨ds.length, by omega, Nat.zero_le _, F1, [], e1.newH hD, Gr.newH g1.fh hD, g1.fh.free hD, upd_same, .nil⟩, ?_⟩
  rintro i m H2 ⟨rfl, hi, F2, acc, e2, g2, hF2, hH2, hd2⟩
  have wk := hW i F2 H2 g2.ff g2.fh
  by_cases hlt : i < ds.length
  · have hx : ds[i]? = some ds[i] := List.getElem?_eq_getElem hlt
    obtain ⟨go, yl⟩ := wk.1 ds[i] hx
    refine .inr ⟨go, fun H3 => ∃ F3 acc, EnvOk X.K F3 H3 σ (G (i + 1)) ∧ Gr F1 H1 (Own σ (G 0)) F3 H3 (Own σ (G (i + 1))) ∧ F3 D = none ∧ H3 D = some (.lst acc) ∧ DdA X.K F3 acc (keptOf (i + 1) f h), fun H3 ⟨F3, acc, z⟩ => ⟨ds.length - (i + 1), by omega, rfl, hlt, F3, acc, z⟩, fun y H3 hy => ?_⟩
    obtain ⟨F3, y1, y2, y3, y4, dy⟩ := yl y H3 hy
    have e3 := e2.keep y1 y3 y4
    have g3 := g2.trans (Gr.ext (A := Own σ (G i)) y1 y2 y3 y4)
    have hD3 : H3 D = some (.lst acc) ∧ F3 D = none := (Gr.ext (A := Own σ (G i)) y1 y2 y3 y4).keepD hH2 hF2 (nD i)
    refine hg i ds[i] hx y _ H3 _ ⟨F3, e3.agree (hv i) ag.symm, y2, dy, fun σ4 F4 H4 g4 e4 w4 => ?_⟩
    have w4' := w4 vs his
    rw [ag] at w4'
    refine ⟨w4', ?_⟩
    have l4 := hless i hlt
    have g4' : Gr F3 H3 (Own σ (G i)) F4 H4 (Own σ4 (Γt i)) := g4.left fun a o => own_agree (hv i) ag o
    have back : ∀ a, Own σ (G (i + 1)) a → Own σ4 (Γu i) a := fun a o => l4.own (own_agree (hv (i + 1)) w4'.symm o)
    have nD4 : ¬ Own σ4 (Γt i) D := fun o => nD i (own_agree (hv i) w4' (hut i hlt σ4 D o))
    have hD4 := g4'.keepD hD3.1 hD3.2 (nD i)
    refine ht i hlt σ4 H4 _ ⟨F4, e4, g4'.fh, fun F5 H5 g5 e5 => ?_⟩
    have hD5 := g5.keepD hD4.1 hD4.2 nD4
    have nD5 : ¬ Own σ4 (Γu i) D := fun o => nD4 (huu i hlt σ4 D o)
    have g5' := g4'.trans g5
    have hst := kept_step i f h
    cases hf : f i with
    | false =>
      refine iteF ⟨F5, acc, (l4.env e5).agree (hv (i + 1)) w4', (g3.trans g5').right back, hD5.2, hD5.1, ?_⟩
      rw [hst, hf, if_neg (by decide), List.append_nil]
      exact hd2.up (y1.trans g5'.ff)
    | true =>
      refine iteT (he i hlt hf σ4 H5 _ ⟨F5, e5, g5'.fh, fun v F6 H6 g6 e6 dv => ?_⟩)
      have hD6 := g6.keepD hD5.1 hD5.2 nD5
      have g6' := g5'.trans g6
      have hlen : acc.length < sizeLine := by
        rw [hd2.len, sizeLine_eq]
        have h1 := kept_len i f h
        omega
      refine ⟨acc, hD6.1, hlen, F6, acc ++ [v], ((l4.env e6).agree (hv (i + 1)) w4').mutOther (nD (i + 1)), ((g3.trans g6').right back).mutNew hD hD6.2, hD6.2, upd_same, ?_⟩
      rw [hst, hf, if_pos rfl]
      exact (hd2.up (y1.trans g6'.ff)).app (.cons dv .nil)
  · have hie : i = ds.length := by omega
    subst hie
    refine .inl ⟨wk.2 (Nat.le_refl _), ?_⟩
    exact k D acc F2 H2 (g1.trans g2) e2 hF2 (g1.free hD) hH2 (nD _) hd2
/-- which slots hold lists of the frame's own -/
def ownIx (Γ : Gm) : List Bool := Γ.map fun o => match o with
  | some s => isOw s
  | none => false
theorem own_ix {Γ Γ' : Gm} (h : ownIx Γ = ownIx Γ') {σ : L2.St} {a : Addr} (o : Own σ Γ a) : Own σ Γ' a := by
  obtain ⟨i, s, h1, h2, h3⟩ := o
  have e : (ownIx Γ)[i]? = some true := by
    unfold ownIx
    rw [List.getElem?_map, h1]
    show some (isOw s) = _
    rw [h2]
  rw [h] at e
  unfold ownIx at e
  rw [List.getElem?_map] at e
  cases q : Γ'[i]? with
  | none => rw [q] at e; cases e
  | some z =>
    rw [q] at e
    cases z with
    | none => cases e
    | some s' => exact ⟨i, s', q, Option.some.inj e, h3⟩
theorem en_lcS {elt tg iter : Expr} {ifs : List Expr} {scope : Scope} {own : List (Str × Nat)} {ds : List PyData} (f : Nat → Bool) (h : Nat → PyData) (G Γt Γu : Nat → Gm) (is : List Nat) (hc : X.calm = true) (hN : X.N.Nodup) (ok : BlkOk X.N X.env.scope scope own) (hv : ∀ i, noV (G i) (own.map (·.2)) = true)
    (his : ∀ i ∈ is, i ∈ own.map (·.2)) (hsz : ds.length ≤ 16777216) (hless : ∀ i, i < ds.length → Less (G (i + 1)) (Γu i)) (hi : Ei X Γ tg iter ds (G 0))
    (hg : ∀ i d, ds[i]? = some d → ∀ (s : Shared) (H : Hp) (C : Addr) (cl : List (Str × Addr)) (fp : List Addr), Eg (X.blk s H scope (compEnvC scope cl C X.env) fp) (G i) tg d is (Γt i))
    (ht : ∀ i, i < ds.length → ∀ (s : Shared) (H : Hp) (C : Addr) (cl : List (Str × Addr)) (fp : List Addr), Ezs (X.blk s H scope (compEnvC scope cl C X.env) fp) (Γt i) ifs (f i) (Γu i))
    (he : ∀ i, i < ds.length → f i = true → ∀ (s : Shared) (H : Hp) (C : Addr) (cl : List (Str × Addr)) (fp : List Addr), Ee (X.blk s H scope (compEnvC scope cl C X.env) fp) (Γu i) elt (h i) (Γu i))
    (oG : ∀ i, ownIx (G i) = ownIx (G 0) := by intro _; rfl) (oT : ∀ i, ownIx (Γt i) = ownIx (G i) := by intro _; rfl) (oU : ∀ i, ownIx (Γu i) = ownIx (Γt i) := by intro _; rfl) (hs : ∀ x, foldedSetIterable iter X.env x = pure x := by intro _; rfl) :
    En X Γ (.ListComp elt [⟨tg, iter, ifs, 0⟩] scope pos) (keptOf ds.length f h) (G ds.length) :=
  pe_imp (pe_lc (g := fun v σ H Q => ∃ i d, ds[i]? = some d ∧ tGt X.K (G i) d is (Γt i) v σ H Q) (tt := fun σ H Q => ∃ i, i < ds.length ∧ tT X.K (Γt i) (f i) (Γu i) σ H Q) (te := fun σ H Q => ∃ i, (i < ds.length ∧ f i = true) ∧ tE X.K (Γu i) (h i) (Γu i) σ H Q) hc hN hi ok
    (fun s H C cl fp => ⟨fun pins s' σ H' v u Q I r ⟨i, d, hd, hh⟩ => (hg i d hd s H C cl fp).run pins s' σ H' v u Q I r hh⟩) (fun s H C cl fp => ⟨fun pins s' σ H' Q I ⟨i, hl, hh⟩ => (ht i hl s H C cl fp).run pins s' σ H' Q I hh⟩)
    (fun s H C cl fp => ⟨fun pins s' σ H' Q I ⟨i, hl, hh⟩ => (he i hl.1 hl.2 s H C cl fp).run pins s' σ H' Q I hh⟩) hs)
    (lcS_read hv (fun i σ a o => own_ix (oG i) o) hless his hsz (fun i _ σ a o => own_ix (oT i) o) (fun σ H R z => z) (fun i d hd v σ H Q z => ⟨i, d, hd, z⟩) (fun i hl σ H Q z => ⟨i, hl, z⟩) (fun i hl hf σ H Q z => ⟨i, ⟨hl, hf⟩, z⟩) (fun i _ σ a o => own_ix (oU i) o))
/-- the same as y = [..], y a local -/
theorem es_setLcS {elt tg iter : Expr} {ifs : List Expr} {scope : Scope} {own : List (Str × Nat)} {ds : List PyData} (n : Nat) {y : Str} {py spos : Pos} (f : Nat → Bool) (h : Nat → PyData) (G Γt Γu : Nat → Gm) (is : List Nat) (hc : X.calm = true) (hN : X.N.Nodup) (ok : BlkOk X.N X.env.scope scope own) (hv : ∀ i, noV (G i) (own.map (·.2)) = true)
    (his : ∀ i ∈ is, i ∈ own.map (·.2)) (hsz : ds.length ≤ 16777216) (hless : ∀ i, i < ds.length → Less (G (i + 1)) (Γu i)) (hi : Ei X Γ tg iter ds (G 0))
    (hg : ∀ i d, ds[i]? = some d → ∀ (s : Shared) (H : Hp) (C : Addr) (cl : List (Str × Addr)) (fp : List Addr), Eg (X.blk s H scope (compEnvC scope cl C X.env) fp) (G i) tg d is (Γt i))
    (ht : ∀ i, i < ds.length → ∀ (s : Shared) (H : Hp) (C : Addr) (cl : List (Str × Addr)) (fp : List Addr), Ezs (X.blk s H scope (compEnvC scope cl C X.env) fp) (Γt i) ifs (f i) (Γu i))
    (he : ∀ i, i < ds.length → f i = true → ∀ (s : Shared) (H : Hp) (C : Addr) (cl : List (Str × Addr)) (fp : List Addr), Ee (X.blk s H scope (compEnvC scope cl C X.env) fp) (Γu i) elt (h i) (Γu i))
    (oG : ∀ i, ownIx (G i) = ownIx (G 0) := by intro _; rfl) (oT : ∀ i, ownIx (Γt i) = ownIx (G i) := by intro _; rfl) (oU : ∀ i, ownIx (Γu i) = ownIx (Γt i) := by intro _; rfl)
    (hy : X.N[n]? = some y := by rfl) (hyl : X.env.scope.names.lookup y = some .local := by rfl) (hl : (G ds.length)[n]?.isSome = true := by rfl) (hsw : swapsWith (.ListComp elt [⟨tg, iter, ifs, 0⟩] scope pos) (some (.Name y py)) spos.line X.env = pure true := by exact sw_true rfl rfl rfl (by decide +kernel)) (hs : ∀ x, foldedSetIterable iter X.env x = pure x := by intro _; rfl) :
    Es X Γ (.Assign [.Name y py] (.ListComp elt [⟨tg, iter, ifs, 0⟩] scope pos) spos) (.nx ((G ds.length).set n (some (.ow (keptOf ds.length f h))))) :=
  ps_imp (ps_setLc (g := fun v σ H Q => ∃ i d, ds[i]? = some d ∧ tGt X.K (G i) d is (Γt i) v σ H Q) (tt := fun σ H Q => ∃ i, i < ds.length ∧ tT X.K (Γt i) (f i) (Γu i) σ H Q) (te := fun σ H Q => ∃ i, (i < ds.length ∧ f i = true) ∧ tE X.K (Γu i) (h i) (Γu i) σ H Q) hc hN hy hyl hsw hi ok
    (fun s H C cl fp => ⟨fun pins s' σ H' v u Q I r ⟨i, d, hd, hh⟩ => (hg i d hd s H C cl fp).run pins s' σ H' v u Q I r hh⟩) (fun s H C cl fp => ⟨fun pins s' σ H' Q I ⟨i, hl, hh⟩ => (ht i hl s H C cl fp).run pins s' σ H' Q I hh⟩)
    (fun s H C cl fp => ⟨fun pins s' σ H' Q I ⟨i, hl, hh⟩ => (he i hl.1 hl.2 s H C cl fp).run pins s' σ H' Q I hh⟩) hs) fun D σ H ⟨F, ev, x, kk⟩ =>
    lcS_read hv (fun i σ a o => own_ix (oG i) o) hless his hsz (fun i _ σ a o => own_ix (oT i) o) (fun σ H R z => z) (fun i d hd v σ H Q z => ⟨i, d, hd, z⟩) (fun i hl σ H Q z => ⟨i, hl, z⟩) (fun i hl hf σ H Q z => ⟨i, ⟨hl, hf⟩, z⟩) (fun i _ σ a o => own_ix (oU i) o) σ H _ ⟨F, ev, x, fun l ys F1 H1 g1 e1 hF hH hl' ho dv => by
      have hk : KdOk X.K H (Own σ Γ) F1 H1 (Own σ (G ds.length)) (.ref l) (.n (keptOf ds.length f h)) := ⟨l, ys, rfl, hF, hl', ho, dv, hH⟩
      exact kk _ F1 H1 (g1.storeK e1 hk (some_lt hl)) (e1.storeK hk (some_lt hl))⟩
end
end DL
end

section
namespace DL
open PySem PySem.Spec PyProof.Rows L2
section
variable {X : Cx} {Γ Γ1 Γ2 Γ3 : Gm} {a b c : Expr} {pos : Pos} {k1 k2 k3 : Kd} {ds : List PyData}
/-- a, b, c = e1, e2, e3 : names that inner blocks may read -/
theorem es_tup3 (n m l : Nat) {x y z : Str} {px py pz pt pt2 : Pos} {kt kt2 : Nat} (hc : X.calm = true) (hN : X.N.Nodup) (h1 : Ek X Γ a k1 Γ1) (h2 : Ek X Γ1 b k2 Γ2) (h3 : Ek X Γ2 c k3 Γ3) (hi : X.N[n]? = some x := by rfl) (hj : X.N[m]? = some y := by rfl) (hk : X.N[l]? = some z := by rfl)
    (hx : Loc X.env.scope x := by first | exact Or.inl rfl | exact Or.inr rfl) (hy : Loc X.env.scope y := by first | exact Or.inl rfl | exact Or.inr rfl) (hz : Loc X.env.scope z := by first | exact Or.inl rfl | exact Or.inr rfl) (hf : X.fn x = true ∨ X.env.scope.names.lookup x = some .local := by first | exact .inl rfl | exact .inr rfl) (hf2 : X.fn y = true ∨ X.env.scope.names.lookup y = some .local := by first | exact .inl rfl | exact .inr rfl) (hf3 : X.fn z = true ∨ X.env.scope.names.lookup z = some .local := by first | exact .inl rfl | exact .inr rfl)
    (hl : Γ3[n]?.isSome = true := by rfl) (hl2 : Γ3[m]?.isSome = true := by rfl) (hl3 : Γ3[l]?.isSome = true := by rfl) (he1 : starEach [a, b, c] X.env = (false, eval a X.env) :: starEach [b, c] X.env := by rfl) (he2 : starEach [b, c] X.env = (false, eval b X.env) :: starEach [c] X.env := by rfl) (he3 : starEach [c] X.env = (false, eval c X.env) :: starEach [] X.env := by rfl)
    (hs1 : (assignEach [Expr.Name x px, .Name y py, .Name z pz] X.env).map (·.2) = assign (.Name x px) X.env :: (assignEach [Expr.Name y py, .Name z pz] X.env).map (·.2) := by rfl) (hs2 : (assignEach [Expr.Name y py, .Name z pz] X.env).map (·.2) = assign (.Name y py) X.env :: (assignEach [Expr.Name z pz] X.env).map (·.2) := by rfl) (hs3 : (assignEach [Expr.Name z pz] X.env).map (·.2) = assign (.Name z pz) X.env :: (assignEach [] X.env).map (·.2) := by rfl)
    (hna : (assignEach [Expr.Name x px, .Name y py, .Name z pz] X.env).length = 3 := by rfl) (hst : (assignEach [Expr.Name x px, .Name y py, .Name z pz] X.env).findIdx? (·.1) = none := by rfl)
    (hs : swapsWithSole [.Tuple [.Name x px, .Name y py, .Name z pz] kt pt] (.Tuple [a, b, c] kt2 pt2) pos.line X.env = pure false := by rfl) (hw : swappedStores [.Tuple [.Name x px, .Name y py, .Name z pz] kt pt] (.Tuple [a, b, c] kt2 pt2) X.env = pure none := by rfl) (h1' : (assignEach [.Tuple [.Name x px, .Name y py, .Name z pz] kt pt] X.env).map (·.2) = [assign (.Tuple [.Name x px, .Name y py, .Name z pz] kt pt) X.env] := by rfl) :
    Es X Γ (.Assign [.Tuple [.Name x px, .Name y py, .Name z pz] kt pt] (.Tuple [a, b, c] kt2 pt2) pos) (.nx (((Γ3.set n (some k1.slot)).set m (some k2.slot)).set l (some k3.slot))) :=
  ps_imp (ps_asg (pe_tup (pa_cons h1 (pa_cons h2 (pa_cons h3 pa_nil he3) he2) he1)) (pg_tup (n := 3) hc (pgs_cons (pg_name hN hi hx hf) (pgs_cons (pg_name hN hj hy hf2) (pgs_cons (pg_name hN hk hz hf3) pgs_nil hs3) hs2) hs1) hna hst) hs hw h1') fun D σ H ⟨F, ev, xt, kk⟩ => ⟨F, ev, xt, fun u F1 H1 g1 e1 hk1 => ⟨F1, e1, g1.fh, fun v F2 H2 g2 e2 hk2 => ⟨F2, e2, g2.fh, fun w F3 H3 g3 e3 hk3 => by
    refine ⟨by show 3 ≤ sizeLine; decide, fun t ht => ⟨t, [u, v, w], rfl, SqT.of upd_same, rfl, u, [v, w], rfl, v, [w], rfl, w, [], rfl, rfl, ?_⟩⟩
    have gt : Gr F3 H3 (Own σ Γ3) F3 (upd H3 t (.tup [u, v, w])) (Own σ Γ3) := Gr.newH g3.fh ht
    have e4 : EnvOk X.K F3 (upd H3 t (.tup [u, v, w])) σ Γ3 := e3.newH ht
    have a1 := ((hk1.later g2).later g3).later gt
    have a2 := ((KdOk.from g1 hk2).later g3).later gt
    have a3 := (KdOk.from (g1.trans g2) hk3).later gt
    have g := ((g1.trans g2).trans g3).trans gt
    have l1 := some_lt hl
    have l2 : m < (Γ3.set n (some k1.slot)).length := by rw [List.length_set]; exact some_lt hl2
    have l3 : l < ((Γ3.set n (some k1.slot)).set m (some k2.slot)).length := by rw [List.length_set, List.length_set]; exact some_lt hl3
    have b2 := KdOk.store e4 l1 a1 a2 fun l _ _ => kd_ne hk1 hk2 l
    have b3 := KdOk.store e4 l1 a1 a3 fun l _ _ => kd_ne (hk1.later g2) hk3 l
    have ev1 := e4.storeK a1 l1
    have c3 := KdOk.store ev1 l2 b2 b3 fun l _ _ => kd_ne hk2 hk3 l
    exact kk _ F3 _ (((g.storeK e4 a1 l1).storeK ev1 b2 l2).storeK (ev1.storeK b2 l2) c3 l3) ((ev1.storeK b2 l2).storeK c3 l3)⟩⟩⟩
end
end DL
end

section
namespace DL
open PySem PySem.Spec PyProof.Rows L2
section
variable {X : Cx} {Γ Γ1 : Gm} {e : Expr} {ds : List PyData} {pos : Pos}
/-- xs[::st] of a list of data, st written as any term worth k -/
theorem en_sliceBy {st : Expr} {k : Int} {ts : TE} {p3 : Pos} (hk : k ≠ 0) (he : Ee X Γ e (.list ds) Γ1) (hst : PE X st ts) (hs : ∀ σ H Q, Q (.int k) H → ts σ H Q)
    (hop : subscriptTail e (.Slice none none (some st) p3) = subscriptTail e (.Slice none none (some st) p3) := by rfl) : En X Γ (.Subscript e (.Slice none none (some st) p3) pos) (pick ds none none (some k)) Γ1 := by
  refine ⟨fun pins s σ H Q I h => ?_⟩
  obtain ⟨F, ev, x, kk⟩ := h
  refine Subscript_ (thn (he.run pins s σ H (fun v H1 => ∃ F1, Gr F H (Own σ Γ) F1 H1 (Own σ Γ1) ∧ EnvOk X.K F1 H1 σ Γ1 ∧ Dd X.K F1 v (.list ds)) I ⟨F, ev, x, fun v F1 H1 g1 e1 dv => ⟨F1, g1, e1, dv⟩⟩) fun v s1 hh => ?_)
  obtain ⟨w, H1, I1, r1, F1, g1, e1, dv⟩ := hh
  obtain ⟨p, xs, rfl, hH, hS, hA⟩ := dv.lstAt g1.fh
  cases r1
  refine wpAny_Slice (thn (po_none.run pins s1 σ H1 (fun o H2 => o = none ∧ H2 = H1) I1 ⟨rfl, rfl⟩) fun vl s2 ⟨ol, H2, I2, pl, el, e2⟩ => ?_)
  subst el e2
  refine thn (po_none.run pins s2 σ H2 (fun o H3 => o = none ∧ H3 = H2) I2 ⟨rfl, rfl⟩) fun vu s3 ⟨u, H3, I3, pu, eu, e3⟩ => ?_
  subst eu e3
  refine thn ((po_some hst).run pins s3 σ H3 (fun o H4 => o = some k ∧ H4 = H3) I3 (hs _ _ _ ⟨k, rfl, rfl, rfl⟩)) fun vs s4 ⟨o, H4, I4, ps, eo, e4⟩ => ?_
  subst eo e4
  have I5 : Inv X pins σ H4 { s4 with heap := s4.heap.push { cls := .type "slice", data := .fields #[vl, vu, vs] } } := I4.kept (t' := s4.toks) fun b ob q => Heap.get?_push_of_some _ q
  obtain ⟨its, r, ht, hz⟩ := I5.list hS
  have hlen := r.length
  show wpAny (model X.prog X.w) X.A (subscriptTail e (.Slice none none (some st) p3) (.ref p) (.ref s4.heap.objs.size)) (EP X pins σ Q) X.xe { s4 with heap := s4.heap.push { cls := .type "slice", data := .fields #[vl, vu, vs] } }
  refine tail_any (ops := [.ref p, .ref s4.heap.objs.size]) ht.isList.typeIs (PySem.slot_list_getitem.lookup) ?_ (by with_unfolding_all rfl)
  have hn0 : (some k) ≠ some 0 := by intro z; injection z with z; exact hk z
  refine wpAny_getItem_list_slice ht.isList (Heap.IsSliceOf.new _ vl vu vs) pl pu ps hn0 ?_ (by rw [List.size_toArray]; omega)
  have hpk : slicePick its.toArray none none (some k) = (pick its none none (some k)).toArray := by
    unfold slicePick pick
    rw [List.size_toArray]
    congr 1
    congr 1
    funext z
    simp
  rw [hpk]
  have hxs : (pick xs none none (some k)).length ≤ sizeLine := by
    have h1 := slicePick_size_le its.toArray none none (some k)
    rw [hpk, List.size_toArray, List.size_toArray] at h1
    have h2 : (pick xs none none (some k)).length = (pick its none none (some k)).length := by
      unfold pick
      rw [← hlen]
      exact (vals_pick r _).length
    omega
  have hv : Vals (pick xs none none (some k)) (pick its none none (some k)) := by
    unfold pick
    rw [← hlen]
    exact vals_pick r _
  have hd : DdA X.K F1 (pick xs none none (some k)) (pick ds none none (some k)) := by
    unfold pick
    rw [hA.len]
    exact dda_pick hA _
  exact ⟨.ref _, _, I5.laid (t' := s4.toks) (o := .lst (pick xs none none (some k))) (fun b ob q => Heap.get?_push_of_some _ q) (Nat.le_refl _) ⟨hxs, _, 0, hv, Heap.get?_push_size _ rfl⟩, rfl, tN_new g1 e1 hd kk _ (I5.hok.fresh (Nat.le_refl _))⟩
theorem range_get {α : Type} : ∀ l : List α, (List.range l.length).filterMap (fun k => l[k]?) = l
  | [] => rfl
  | x :: r => by
    rw [List.length_cons, List.range_succ_eq_map, List.filterMap_cons]
    show x :: _ = _
    rw [List.filterMap_map]
    congr 1
    exact range_get r
theorem pick_rev {α : Type} (l : List α) : pick l none none (some (-1)) = l.reverse := by
  have e0 := range_get l.reverse
  rw [List.length_reverse] at e0
  rw [← e0]
  unfold pick
  have e1 : sliceBounds none none (some (-1)) l.length = ((l.length : Int) - 1, -1, -1) := rfl
  rw [e1]
  have e2 : sliceRange ((l.length : Int) - 1) (-1) (-1) = (List.range l.length).map fun k => l.length - 1 - k := by
    unfold sliceRange
    have h1 : (if (-1 : Int) > 0 then (if (l.length : Int) - 1 < -1 then (-1 - ((l.length : Int) - 1) + -1 - 1) / -1 else 0) else (if (l.length : Int) - 1 > -1 then ((l.length : Int) - 1 - -1 - -1 - 1) / - -1 else 0)).toNat = l.length := by
      rw [if_neg (by decide)]
      split
      · rw [show (- -1 : Int) = 1 by decide, Int.ediv_one]; omega
      · omega
    show List.map _ (List.range (_ : Int).toNat) = _
    rw [h1]
    apply List.map_congr_left
    intro k hk
    have := List.mem_range.mp hk
    omega
  rw [e2, List.filterMap_map]
  have cong : ∀ (ks : List Nat), (∀ k ∈ ks, k < l.length) → ks.filterMap ((fun x => l[x]?) ∘ fun k => l.length - 1 - k) = ks.filterMap fun k => l.reverse[k]? := by
    intro ks
    induction ks with
    | nil => intro _; rfl
    | cons k ks ih =>
      intro h
      have hk := h k List.mem_cons_self
      have e : ((fun x => l[x]?) ∘ fun k => l.length - 1 - k) k = l.reverse[k]? := by
        show l[l.length - 1 - k]? = _
        rw [List.getElem?_reverse hk]
      rw [List.filterMap_cons, List.filterMap_cons, e, ih fun y hy => h y (List.mem_cons_of_mem _ hy)]
  exact cong _ fun k hk => List.mem_range.mp hk
section
variable {X : Cx} {Γ Γ1 : Gm} {e : Expr} {ds : List PyData} {pos : Pos}
/-- xs[::-1] -/
theorem en_rev {kk : Nat} {p1 p2 p3 : Pos} (he : Ee X Γ e (.list ds) Γ1) (hop : subscriptTail e (.Slice none none (some (.UnaryOp .USub (.Constant (.int 1) kk p1) p2)) p3) = subscriptTail e (.Slice none none (some (.UnaryOp .USub (.Constant (.int 1) kk p1) p2)) p3) := by rfl) :
    En X Γ (.Subscript e (.Slice none none (some (.UnaryOp .USub (.Constant (.int 1) kk p1) p2)) p3) pos) ds.reverse Γ1 := by
  rw [← pick_rev]
  exact en_sliceBy (by decide) he (pe_un un_neg pe_int) (fun σ H Q q => ⟨1, rfl, q⟩) hop
end
end
end DL
end

section
namespace DL
open PySem PySem.Spec PyProof.Rows L2
/-- a tuple once is the tuple itself -/
theorem once_same (l : Addr) (its : Array Value) (n : Nat) (dd : Option Addr) (sl : Array (Option Value)) (u : Tok) :
    Meets (Builtin.«tuple.__mul__» ⟨[.ref l, .int 1 u], []⟩) (fun _ R s => s.heap.get? l = some { cls := .type "tuple", dict := dd, data := .seq its n, slots := sl } ∧ R (.ok (.ret (Value.ref l))) s) :=
  .of_wp fun prog w A R s0 h0 => by
    obtain ⟨hp0, g0, d0, tk0, os0⟩ := s0
    obtain ⟨hl0, hR⟩ := h0
    have ix := AutoSeq1.idx_int
    have c1 : (its.isEmpty || (1 : Int) == 1) = true := by simp
    wp_walk using wpAny_loadPart' hl0
    repeat (first
      | (refine wpAny_ite_false (by decide) ?_; wp_walk using wpAny_loadPart' hl0)
      | (refine wpAny_ite_true (by simp) ?_; wp_walk using wpAny_loadPart' hl0))
    exact ⟨_, rfl, hR⟩
def rOnce (K : PySem.W.Frag) : R2 := fun x y H Q => ∃ l xs, x = .ref l ∧ y = .int 1 ∧ SqT K H l xs ∧ Q (.ref l) H
section
variable {X : Cx} {Γ Γ1 Γ2 : Gm} {a b : Expr} {ds : List PyData} {pos : Pos}
theorem op_once : OpR X (binaryOp .Mult) (rOnce X.K) := by
  intro pins s0 σ0 H0 x y v u Q J rx ry h
  obtain ⟨l, xs, rfl, rfl, hT, q⟩ := h
  cases rx
  obtain ⟨tk, rfl⟩ := ry
  obtain ⟨its, r, ⟨⟨cl, dd, da, sl⟩, ho, hc, n, hd⟩, _⟩ := J.tuple hT
  simp only at hc hd
  subst hc hd
  refine wpAny_binaryOp_repeat_ref (T := "tuple") (U := "int") (by decide) ⟨_, ho, rfl⟩ (fun s' => typeIs_int s' 1 tk) noFill_tuple_mul F.fills_int_mul F.slot_int_rmul repeat_tuple F.slot_int_index.lookup
    (call_meets F.slot_int_rmul (typeIs_int s0 1 tk) F.entry_int_rmul (F.args_int_rmul_2 _ _) (int_rmul_tuple 1 tk l its.toArray n dd sl)
      ⟨ho, rfl, ⟨_, ho, rfl⟩, call_meets F.slot_tuple_mul ⟨_, ho, rfl⟩ F.entry_tuple_mul (F.args_tuple_mul_2 _ _) (once_same l its.toArray n dd sl tk) ⟨ho, ?_⟩⟩)
  exact ⟨.ref l, H0, J, rfl, q⟩
def rRepF (K : PySem.W.Frag) : R2 := fun x y H Q => ∃ l k xs, x = .ref l ∧ y = .int k ∧ SqT K H l xs ∧ xs ≠ [] ∧ 2 ≤ k ∧ k ≤ 1000 ∧ xs.length ≤ 1000 ∧ TupNew H (List.replicate k.toNat xs).flatten Q
theorem op_repF : OpR X (binaryOp .Mult) (rRepF X.K) := by
  intro pins s0 σ0 H0 x y v u Q J rx ry h
  obtain ⟨l, k, xs, rfl, rfl, hT, hne, k1, k2, hz, q⟩ := h
  cases rx
  obtain ⟨tk, rfl⟩ := ry
  obtain ⟨its, r, ⟨⟨cl, dd, da, sl⟩, ho, hc, n, hd⟩, _⟩ := J.tuple hT
  simp only at hc hd
  subst hc hd
  have len : its.length = xs.length := r.length.symm
  have nn : its ≠ [] := fun e => hne (List.eq_nil_of_length_eq_zero (by rw [← len, e]; rfl))
  have emp : its.toArray.isEmpty = false := by
    cases its with
    | nil => exact absurd rfl nn
    | cons _ _ => rfl
  have sz : its.toArray.size = xs.length := by rw [List.size_toArray, len]
  have few : ((its.toArray.size : Nat) : Int) * k ≤ 1000000 := by
    rw [sz]
    have : ((xs.length : Nat) : Int) * k ≤ 1000 * k := Int.mul_le_mul_of_nonneg_right (by omega) (by omega)
    omega
  have fl : (List.replicate k.toNat its).flatten.length ≤ sizeLine := by
    rw [PyProof.Rows.lm_len_rep_flat, len, sizeLine_eq]
    have : k.toNat * xs.length ≤ 1000 * 1000 := Nat.mul_le_mul (by omega) hz
    omega
  have b0 : (decide (k < -(2 ^ 63)) || decide (k ≥ 2 ^ 63)) = false := by rw [decide_eq_false (by omega), decide_eq_false (by omega)]; rfl
  have b1 : (its.toArray.isEmpty || k == 1) = false := by rw [emp, Bool.false_or]; exact beq_eq_false_iff_ne.mpr (by omega)
  have b2 : (decide (k ≤ 0) || its.toArray.isEmpty) = false := by rw [emp, decide_eq_false (by omega)]; rfl
  have b4 : Builtin.Tuple.tupleTooMany (((its.toArray.size : Nat) : Int) * k) = false := by
    unfold Builtin.Tuple.tupleTooMany
    exact decide_eq_false (by rw [sizeLine_eq]; omega)
  refine wpAny_binaryOp_repeat_ref (T := "tuple") (U := "int") (by decide) ⟨_, ho, rfl⟩ (fun s' => typeIs_int s' k tk) noFill_tuple_mul F.fills_int_mul F.slot_int_rmul repeat_tuple F.slot_int_index.lookup
    (call_meets F.slot_int_rmul (typeIs_int s0 k tk) F.entry_int_rmul (F.args_int_rmul_2 _ _) (int_rmul_tuple k tk l its.toArray n dd sl)
      ⟨ho, rfl, ⟨_, ho, rfl⟩, call_meets F.slot_tuple_mul ⟨_, ho, rfl⟩ F.entry_tuple_mul (F.args_tuple_mul_2 _ _) (tuple_mulW l its.toArray n dd sl k tk b0 b1 b2 (by omega) b4 (by rw [size_rep, List.size_toArray]; exact fl)) ⟨ho, ?_⟩⟩)
  rw [size_rep]
  exact tup_end J (r.rep k.toNat) (by rw [PyProof.Rows.lm_len_rep_flat, ← len, ← PyProof.Rows.lm_len_rep_flat]; exact fl) q
/-- (e, ..) * n, n from 1 to 1000 -/
theorem ee_repT {n : Nat} (ha : Ee X Γ a (.tuple ds) Γ1) (hb : Ee X Γ1 b (.int n) Γ2) (h0 : ds ≠ []) (h1 : 1 ≤ n) (h2 : n ≤ 1000) (h3 : ds.length ≤ 1000) : Ee X Γ (.BinOp a .Mult b pos) (.tuple ((List.replicate n ds).flatten)) Γ2 := by
  by_cases hn : n = 1
  · subst hn
    refine pe_imp (pe_op op_once ha hb) fun σ H Q ⟨F, ev, x, k⟩ => ⟨F, ev, x, fun v F1 H1 g1 e1 dv => ⟨F1, e1, g1.fh, fun w F2 H2 g2 e2 dw => ?_⟩⟩
    have dv2 := dv.up g2.ff
    obtain ⟨p1, ob1, xs, rfl, hh, _, s1, a1⟩ := dv2.tupAt g2.fh
    cases dw
    have e : (List.replicate 1 ds).flatten = ds := by simp
    rw [e] at k
    exact ⟨p1, xs, rfl, rfl, s1, k _ F2 H2 (g1.trans g2) e2 dv2⟩
  · refine pe_imp (pe_op op_repF ha hb) fun σ H Q ⟨F, ev, x, k⟩ => ⟨F, ev, x, fun v F1 H1 g1 e1 dv => ⟨F1, e1, g1.fh, fun w F2 H2 g2 e2 dw => ?_⟩⟩
    obtain ⟨p1, ob1, xs, rfl, hh, _, s1, a1⟩ := (dv.up g2.ff).tupAt g2.fh
    cases dw
    exact ⟨p1, n, xs, rfl, rfl, s1, fun z => h0 ((dda_nil_iff a1).mp z), by omega, by omega, by rw [a1.len]; exact h3, tupNew_of (g1.trans g2) e2 (dda_flat a1 n) k⟩
end
end DL
end

section
namespace DL
open PySem PySem.Spec PyProof.Rows L2
/-- {} : a dict without keys, only made and passed on -/
def emptyD : PyData := .dict [(.none, .none)]
theorem dct_of {K : PySem.W.Frag} {F : Hp} {v : V} (h : Dd K F v emptyD) : ∃ p, v = .ref p ∧ F p = some (.dK []) := by
  have key : ∀ (m : PyData), m = emptyD → Dd K F v m → ∃ p, v = .ref p ∧ F p = some (.dK []) := fun m em hm => by
    cases hm with
    | dct h1 => exact ⟨_, rfl, h1⟩
    | scr h1 =>
      rename_i a ns
      cases ns with
      | nil => cases em
      | cons n r => simp [emptyD] at em
    | _ => cases em
  exact key _ rfl h
section
variable {X : Cx} {Γ Γ1 : Gm} {e : Expr} {pos pp : Pos} {p : Bool}
theorem ee_emptyD : Ee X Γ (.Dict [] [] pos) emptyD Γ :=
  pe_imp pe_dnewK fun σ H Q ⟨F, ev, x, k⟩ => fun a ha => by
    have hF : F a = none := x.free ha
    have nw : ∀ b, (upd F a (.dK [])) b ≠ none → F b ≠ none ∨ H b = none := fun b h => by
      by_cases hb : b = a
      · subst hb; exact .inr ha
      · rw [upd_ne hb] at h; exact .inl h
    have fh : Ext (upd F a (.dK [])) (upd H a (.dK [])) := fun b o h => by
      by_cases hb : b = a
      · subst hb; rw [upd_same] at h ⊢; exact h
      · rw [upd_ne hb] at h ⊢; exact x b o h
    exact k (.ref a) _ _ (Gr.ext (Ext.new hF) fh (Ext.new ha) nw) (ev.keep (Ext.new hF) (Ext.new ha) nw) (.dct upd_same)
theorem ee_isiE {T : Str} {TN : String} {p1 : Pos} (hm : X.mg "isinstance" = none) (hT : X.mg T = none) (hb : bootBuiltins T = some (.type TN)) (ha : Ee X Γ e emptyD Γ1) (hk : kitB "dict" TN = some p) (hg : Gl X "isinstance" := by rfl) (hg2 : Gl X T := by rfl) (hn : T ≠ "__name__" := by decide) (hdb : (T == ("__debug__" : Str)) = false := by decide)
    (he : starEach [e, .Name T p1] X.env = (false, eval e X.env) :: starEach [.Name T p1] X.env := by rfl) (he2 : starEach [.Name T p1] X.env = (false, eval (.Name T p1) X.env) :: starEach [] X.env := by rfl) (hpl : (backTo pos (starEach [.Name T p1] X.env)).any (·.1) = false := by rfl) :
    Ee X Γ (.Call (.Name "isinstance" pp) [e, .Name T p1] [] pos) (.bool p) Γ1 :=
  pe_imp (pe_callB call_isi hg hm (by decide +kernel) (pa_cons ha (pa_cons (pe_bltn (v := .ty TN) hg2 hT hb rfl hn hdb) pa_nil he2) he) (by decide) (by decide) he hpl) fun σ H Q ⟨F, ev, x, k⟩ => ⟨F, ev, x, fun v F1 H1 g1 e1 dv => by
    obtain ⟨a, rfl, h1⟩ := dct_of dv
    exact ⟨.ref a, .ty TN, .type "dict", .type TN, p, rfl, .ty TN, .base (.dK (g1.fh _ _ h1)), kit_ty hk, k _ F1 H1 g1 e1 (.bl p)⟩⟩
end
end DL
end

section
namespace DL
open PySem PySem.Spec PyProof.Rows L2
section
variable {X : Cx} {Γ Γ1 Γ2 Γ3 : Gm} {a b c e : Expr} {es : List Expr} {d d1 d2 d3 : PyData} {ds ds2 es' : List PyData} {pos pp : Pos} {p q : Bool} {i j : Int}
variable {α β : Type}
/-- the reading of a comprehension of two clauses, a test behind the second -/
theorem lc2T_read {xs : List α} {enc : α → PyData} {ys : α → List β} {enc1 : α → β → PyData} {h : α → β → PyData} {pf : α → β → Bool} {Γt : α → Gm} {Γu : α → β → Gm} {vs vs1 is is1 : List Nat} {g g1 : TG} {tt1 : TT} {te : TE} {wi wi1 : TI} (hv : noV Γ1 vs = true) (hv1 : ∀ x, x ∈ xs → noV (Γt x) vs1 = true) (hless : ∀ x, x ∈ xs → Less Γ1 (Γt x)) (hless1 : ∀ x, x ∈ xs → ∀ y, y ∈ ys x → Less (Γt x) (Γu x y))
    (his : ∀ i ∈ is, i ∈ vs) (his1 : ∀ i ∈ is1, i ∈ vs1) (hvs : ∀ i ∈ vs1, i ∈ vs) (hsz : (xs.flatMap ys).length ≤ 16777216)
    (hw : ∀ σ H R, tIt X.K Γ (xs.map enc) Γ1 σ H R → wi σ H R) (hg : ∀ x, x ∈ xs → ∀ v σ H Q, tGt X.K Γ1 (enc x) is (Γt x) v σ H Q → g v σ H Q)
    (hw1 : ∀ x, x ∈ xs → ∀ σ H R, tIt X.K (Γt x) ((ys x).map (enc1 x)) (Γt x) σ H R → wi1 σ H R) (hg1 : ∀ x, x ∈ xs → ∀ y, y ∈ ys x → ∀ v σ H Q, tGt X.K (Γt x) (enc1 x y) is1 (Γu x y) v σ H Q → g1 v σ H Q)
    (ht : ∀ x, x ∈ xs → ∀ y, y ∈ ys x → ∀ σ H Q, tT X.K (Γu x y) (pf x y) (Γu x y) σ H Q → tt1 σ H Q)
    (he : ∀ x, x ∈ xs → ∀ y, y ∈ ys x → pf x y = true → ∀ σ H Q, tE X.K (Γu x y) (h x y) (Γu x y) σ H Q → te σ H Q) :
    ∀ σ H Q, tN X.K Γ (xs.flatMap fun x => ((ys x).filter (pf x)).map (h x)) Γ1 σ H Q → tLc2 wi g tYes wi1 g1 tt1 te vs vs1 σ H Q := by
  intro σ H Q ⟨F, ev, x, k⟩
  refine hw σ H _ ⟨F, ev, x, fun J F1 H1 g1' e1 hW => fun D hD => ?_⟩
  have nD : ¬ Own σ Γ1 D := fun o => by
    obtain ⟨_, ys, z⟩ := e1.own_at o
    rw [hD] at z; cases z
  have ag : wipe (wipe σ vs) vs = wipe σ vs := wipe_idem σ vs
  refine ⟨fun i m H2 => m = xs.length - i ∧ i ≤ xs.length ∧ ∃ F2 acc, EnvOk X.K F2 H2 σ Γ1 ∧ Gr F1 H1 (Own σ Γ1) F2 H2 (Own σ Γ1) ∧ F2 D = none ∧ H2 D = some (.lst acc) ∧ DdA X.K F2 acc ((xs.take i).flatMap fun x => ((ys x).filter (pf x)).map (h x)), ⟨xs.length, by omega, Nat.zero_le _, F1, [], e1.newH hD, Gr.newH g1'.fh hD, g1'.fh.free hD, upd_same, .nil⟩, ?_⟩
  rintro i m H2 ⟨rfl, hi, F2, acc, e2, g2, hF2, hH2, hd2⟩
  have wk := hW i F2 H2 g2.ff g2.fh
  by_cases hlt : i < xs.length
  · have hx : xs[i]? = some xs[i] := List.getElem?_eq_getElem hlt
    have hxm : xs[i] ∈ xs := List.getElem_mem hlt
    obtain ⟨go, yl⟩ := wk.1 (enc xs[i]) (by rw [List.getElem?_map, hx]; rfl)
    refine .inr ⟨go, fun H3 => ∃ F3 acc, EnvOk X.K F3 H3 σ Γ1 ∧ Gr F1 H1 (Own σ Γ1) F3 H3 (Own σ Γ1) ∧ F3 D = none ∧ H3 D = some (.lst acc) ∧ DdA X.K F3 acc ((xs.take (i + 1)).flatMap fun x => ((ys x).filter (pf x)).map (h x)), fun H3 ⟨F3, acc, z⟩ => ⟨xs.length - (i + 1), by omega, rfl, hlt, F3, acc, z⟩, fun y H3 hy => ?_⟩
    obtain ⟨F3, y1, y2, y3, y4, dy⟩ := yl y H3 hy
    have e3 := e2.keep y1 y3 y4
    have g3 := g2.trans (Gr.ext (A := Own σ Γ1) y1 y2 y3 y4)
    have hD3 : H3 D = some (.lst acc) ∧ F3 D = none := (Gr.ext (A := Own σ Γ1) y1 y2 y3 y4).keepD hH2 hF2 nD
    refine hg xs[i] hxm y _ H3 _ ⟨F3, e3.agree hv ag.symm, y2, dy, fun σ4 F4 H4 g4 e4 w4 => ?_⟩
    have w4' := w4 vs his
    rw [ag] at w4'
    refine ⟨w4', ?_⟩
    unfold tYes
    refine iteT ?_
    have l4 := hless xs[i] hxm
    have g4' : Gr F3 H3 (Own σ Γ1) F4 H4 (Own σ4 (Γt xs[i])) := g4.left fun a o => own_agree hv ag o
    have back : ∀ a, Own σ Γ1 a → Own σ4 (Γt xs[i]) a := fun a o => l4.own (own_agree hv w4'.symm o)
    have nD4 : ¬ Own σ4 (Γt xs[i]) D := fun o => by
      rcases g4'.aa D o with z | z
      · exact nD z
      · rw [hD3.1] at z; cases z
    have hD4 := g4'.keepD hD3.1 hD3.2 nD
    -- the second walk
    refine hw1 xs[i] hxm σ4 H4 _ ⟨F4, e4, g4'.fh, fun J1 F5 H5 g5 e5 hW1 => ?_⟩
    have hD5 := g5.keepD hD4.1 hD4.2 nD4
    have gA := g3.trans (g4'.trans g5)
    have ag1 : wipe (wipe σ4 vs1) vs1 = wipe σ4 vs1 := wipe_idem σ4 vs1
    refine ⟨fun j m H6 => m = (ys xs[i]).length - j ∧ j ≤ (ys xs[i]).length ∧ ∃ F6 acc6, EnvOk X.K F6 H6 σ4 (Γt xs[i]) ∧ Gr F1 H1 (Own σ Γ1) F6 H6 (Own σ4 (Γt xs[i])) ∧ Ext F5 F6 ∧ F6 D = none ∧ H6 D = some (.lst acc6) ∧ DdA X.K F6 acc6 (((xs.take i).flatMap fun x => ((ys x).filter (pf x)).map (h x)) ++ (((ys xs[i]).take j).filter (pf xs[i])).map (h xs[i])),
      ⟨(ys xs[i]).length, by omega, Nat.zero_le _, F5, acc, e5, gA, Ext.refl _, hD5.2, hD5.1, ?_⟩, ?_⟩
    · simpa using hd2.up ((y1.trans g4'.ff).trans g5.ff)
    rintro j m H6 ⟨rfl, hj, F6, acc6, e6, g6, x56, hF6, hH6, hd6⟩
    have wk1 := hW1 j F6 H6 x56 g6.fh
    by_cases hjt : j < (ys xs[i]).length
    · have hyj : (ys xs[i])[j]? = some (ys xs[i])[j] := List.getElem?_eq_getElem hjt
      have hym : (ys xs[i])[j] ∈ ys xs[i] := List.getElem_mem hjt
      obtain ⟨go1, yl1⟩ := wk1.1 (enc1 xs[i] (ys xs[i])[j]) (by rw [List.getElem?_map, hyj]; rfl)
      refine .inr ⟨go1, fun H7 => ∃ F6 acc6, EnvOk X.K F6 H7 σ4 (Γt xs[i]) ∧ Gr F1 H1 (Own σ Γ1) F6 H7 (Own σ4 (Γt xs[i])) ∧ Ext F5 F6 ∧ F6 D = none ∧ H7 D = some (.lst acc6) ∧ DdA X.K F6 acc6 (((xs.take i).flatMap fun x => ((ys x).filter (pf x)).map (h x)) ++ (((ys xs[i]).take (j + 1)).filter (pf xs[i])).map (h xs[i])), fun H7 ⟨F7, acc7, z⟩ => ⟨(ys xs[i]).length - (j + 1), by omega, rfl, hjt, F7, acc7, z⟩, fun y7 H7 hy7 => ?_⟩
      obtain ⟨F7, z1, z2, z3, z4, dz⟩ := yl1 y7 H7 hy7
      have e7 := e6.keep z1 z3 z4
      have g7 := g6.trans (Gr.ext (A := Own σ4 (Γt xs[i])) z1 z2 z3 z4)
      have hD7 : H7 D = some (.lst acc6) ∧ F7 D = none := (Gr.ext (A := Own σ4 (Γt xs[i])) z1 z2 z3 z4).keepD hH6 hF6 nD4
      refine hg1 xs[i] hxm _ hym y7 _ H7 _ ⟨F7, e7.agree (hv1 xs[i] hxm) ag1.symm, z2, dz, fun σ8 F8 H8 g8 e8 w8 => ?_⟩
      have w8' := w8 vs1 his1
      rw [ag1] at w8'
      refine ⟨w8', ?_⟩
      have l8 := hless1 xs[i] hxm _ hym
      have g8' : Gr F7 H7 (Own σ4 (Γt xs[i])) F8 H8 (Own σ8 (Γu xs[i] (ys xs[i])[j])) := g8.left fun a o => own_agree (hv1 xs[i] hxm) ag1 o
      have back1 : ∀ a, Own σ4 (Γt xs[i]) a → Own σ8 (Γu xs[i] (ys xs[i])[j]) a := fun a o => l8.own (own_agree (hv1 xs[i] hxm) w8'.symm o)
      have nD8 : ¬ Own σ8 (Γu xs[i] (ys xs[i])[j]) D := fun o => by
        rcases g8'.aa D o with z | z
        · exact nD4 z
        · rw [hD7.1] at z; cases z
      have hD8 := g8'.keepD hD7.1 hD7.2 nD4
      refine ht xs[i] hxm _ hym σ8 H8 _ ⟨F8, e8, g8'.fh, fun F8b H8b g8b e8b => ?_⟩
      have hD8b := g8b.keepD hD8.1 hD8.2 nD8
      have htake : ((ys xs[i]).take (j + 1)).filter (pf xs[i]) = ((ys xs[i]).take j).filter (pf xs[i]) ++ (if pf xs[i] (ys xs[i])[j] = true then [(ys xs[i])[j]] else []) := by
        rw [List.take_add_one, hyj, List.filter_append]
        congr 1
        show [(ys xs[i])[j]].filter (pf xs[i]) = _
        by_cases hf : pf xs[i] (ys xs[i])[j] = true
        · rw [if_pos hf, List.filter_cons_of_pos hf]; rfl
        · rw [if_neg hf, List.filter_cons_of_neg hf]; rfl
      cases hf : pf xs[i] (ys xs[i])[j] with
      | false =>
        have g9' := g8'.trans g8b
        refine iteF ⟨F8b, acc6, (l8.env e8b).agree (hv1 xs[i] hxm) w8', (g7.trans g9').right back1, (x56.trans z1).trans g9'.ff, hD8b.2, hD8b.1, ?_⟩
        rw [htake, hf]
        simp only [Bool.false_eq_true, if_false, List.append_nil]
        exact hd6.up (z1.trans g9'.ff)
      | true =>
        refine iteT (he xs[i] hxm _ hym hf σ8 H8b _ ⟨F8b, e8b, (g8'.trans g8b).fh, fun v F9 H9 g9 e9 dv => ?_⟩)
        have hD9 := g9.keepD hD8b.1 hD8b.2 nD8
        have g9' := (g8'.trans g8b).trans g9
        have hlen : acc6.length < sizeLine := by
          rw [hd6.len, sizeLine_eq]
          have h1 : (((xs.take i).flatMap fun x => ((ys x).filter (pf x)).map (h x)) ++ (((ys xs[i]).take j).filter (pf xs[i])).map (h xs[i])).length < (xs.flatMap ys).length := by
            have h2 : ((xs.take (i + 1)).flatMap ys).length ≤ (xs.flatMap ys).length := by
              conv => rhs; rw [← List.take_append_drop (i + 1) xs, List.flatMap_append]
              rw [List.length_append]; omega
            have h3 : ((xs.take (i + 1)).flatMap ys).length = ((xs.take i).flatMap ys).length + (ys xs[i]).length := by
              rw [List.take_add_one, hx, List.flatMap_append, List.length_append]; simp
            have h4 : ∀ L : List α, (L.flatMap fun x => ((ys x).filter (pf x)).map (h x)).length ≤ (L.flatMap ys).length := fun L => by
              induction L with
              | nil => exact Nat.le_refl _
              | cons a L ih =>
                rw [List.flatMap_cons, List.flatMap_cons, List.length_append, List.length_append, List.length_map]
                have := List.length_filter_le (pf a) (ys a)
                omega
            have h5 := List.length_filter_le (pf xs[i]) ((ys xs[i]).take j)
            have h6 := h4 (xs.take i)
            rw [List.length_take] at h5
            rw [List.length_append, List.length_map]
            omega
          omega
        refine ⟨acc6, hD9.1, hlen, F9, acc6 ++ [v], ((l8.env e9).agree (hv1 xs[i] hxm) w8').mutOther nD4, ((g7.trans g9').right back1).mutNew hD hD9.2, (x56.trans z1).trans g9'.ff, hD9.2, upd_same, ?_⟩
        rw [htake, hf]
        simp only [if_true, List.map_append]
        rw [← List.append_assoc]
        exact (hd6.up (z1.trans g9'.ff)).app (.cons dv .nil)
    · have hje : j = (ys xs[i]).length := by omega
      subst hje
      refine .inl ⟨wk1.2 (by rw [List.length_map]; exact Nat.le_refl _), F6, acc6, (l4.env e6).agree hv w4', g6.right back, hF6, hH6, ?_⟩
      rw [List.take_of_length_le (Nat.le_refl _)] at hd6
      rw [take_flat hlt]
      exact hd6
  · have hie : i = xs.length := by omega
    subst hie
    refine .inl ⟨wk.2 (by rw [List.length_map]; exact Nat.le_refl _), ?_⟩
    rw [List.take_of_length_le (Nat.le_refl _)] at hd2
    exact k D acc F2 H2 (g1'.trans g2) e2 hF2 (g1'.free hD) hH2 nD hd2
theorem en_lc2T {elt tg iter tg1 iter1 : Expr} {ifs1 : List Expr} {scope : Scope} {own : List (Str × Nat)} {vs1 : List Nat} (xs : List α) (enc : α → PyData) (ys : α → List β) (enc1 : α → β → PyData) (pf : α → β → Bool) (h : α → β → PyData) (Γt : α → Gm) (Γu : α → β → Gm) (is is1 : List Nat) (hc : X.calm = true) (hN : X.N.Nodup) (ok : BlkOk X.N X.env.scope scope own) (hvs : ∀ i ∈ vs1, i ∈ own.map (·.2)) (hv : noV Γ1 (own.map (·.2)) = true)
    (hv1 : ∀ x, x ∈ xs → noV (Γt x) vs1 = true) (his : ∀ i ∈ is, i ∈ own.map (·.2)) (his1 : ∀ i ∈ is1, i ∈ vs1) (hsz : (xs.flatMap ys).length ≤ 16777216) (hless : ∀ x, x ∈ xs → Less Γ1 (Γt x)) (hless1 : ∀ x, x ∈ xs → ∀ y, y ∈ ys x → Less (Γt x) (Γu x y)) (hi : Ei X Γ tg iter (xs.map enc) Γ1)
    (hg : ∀ x, x ∈ xs → ∀ (s : Shared) (H : Hp) (C : Addr) (cl : List (Str × Addr)) (fp : List Addr), Eg (X.blk s H scope (compEnvC scope cl C X.env) fp) Γ1 tg (enc x) is (Γt x))
    (hi1 : ∀ x, x ∈ xs → ∀ (s : Shared) (H : Hp) (C : Addr) (cl : List (Str × Addr)) (fp : List Addr), Ei (X.blk s H scope (compEnvC scope cl C X.env) fp) (Γt x) tg1 iter1 ((ys x).map (enc1 x)) (Γt x))
    (hg1 : ∀ x, x ∈ xs → ∀ y, y ∈ ys x → ∀ (s : Shared) (H : Hp) (C : Addr) (cl : List (Str × Addr)) (fp : List Addr), Eg (X.blk s H scope (compEnvC scope cl C X.env) fp) (Γt x) tg1 (enc1 x y) is1 (Γu x y))
    (ht : ∀ x, x ∈ xs → ∀ y, y ∈ ys x → ∀ (s : Shared) (H : Hp) (C : Addr) (cl : List (Str × Addr)) (fp : List Addr), Ets (X.blk s H scope (compEnvC scope cl C X.env) fp) (Γu x y) ifs1 (pf x y))
    (he : ∀ x, x ∈ xs → ∀ y, y ∈ ys x → pf x y = true → ∀ (s : Shared) (H : Hp) (C : Addr) (cl : List (Str × Addr)) (fp : List Addr), Ee (X.blk s H scope (compEnvC scope cl C X.env) fp) (Γu x y) elt (h x y) (Γu x y))
    (hs : ∀ x, foldedSetIterable iter X.env x = pure x := by intro _; rfl) (hs1 : ∀ env x, foldedSetIterable iter1 env x = pure x := by intro _ _; rfl) :
    En X Γ (.ListComp elt [⟨tg, iter, [], 0⟩, ⟨tg1, iter1, ifs1, 0⟩] scope pos) (xs.flatMap fun x => ((ys x).filter (pf x)).map (h x)) Γ1 :=
  pe_imp (pe_lc2 (g := fun v σ H Q => ∃ x, x ∈ xs ∧ tGt X.K Γ1 (enc x) is (Γt x) v σ H Q) (wi1 := fun σ H R => ∃ x, x ∈ xs ∧ tIt X.K (Γt x) ((ys x).map (enc1 x)) (Γt x) σ H R) (g1 := fun v σ H Q => ∃ x y, x ∈ xs ∧ y ∈ ys x ∧ tGt X.K (Γt x) (enc1 x y) is1 (Γu x y) v σ H Q) (tt1 := fun σ H Q => ∃ x y, x ∈ xs ∧ y ∈ ys x ∧ tT X.K (Γu x y) (pf x y) (Γu x y) σ H Q) (te := fun σ H Q => ∃ x y, x ∈ xs ∧ y ∈ ys x ∧ pf x y = true ∧ tE X.K (Γu x y) (h x y) (Γu x y) σ H Q) hc hN hi ok hvs
    (fun s H C cl fp => ⟨fun pins s' σ H' v u Q I r ⟨x, hx, hh⟩ => (hg x hx s H C cl fp).run pins s' σ H' v u Q I r hh⟩) (fun s H C cl fp => pts_nil) (fun s H C cl fp => ⟨fun pins s' σ H' R I ⟨x, hx, hh⟩ => (hi1 x hx s H C cl fp).run pins s' σ H' R I hh⟩)
    (fun s H C cl fp => ⟨fun pins s' σ H' v u Q I r ⟨x, y, hx, hy, hh⟩ => (hg1 x hx y hy s H C cl fp).run pins s' σ H' v u Q I r hh⟩) (fun s H C cl fp => ⟨fun pins s' σ H' Q I ⟨x, y, hx, hy, hh⟩ => (ht x hx y hy s H C cl fp).run pins s' σ H' Q I hh⟩)
    (fun s H C cl fp => ⟨fun pins s' σ H' Q I ⟨x, y, hx, hy, hf, hh⟩ => (he x hx y hy hf s H C cl fp).run pins s' σ H' Q I hh⟩) hs hs1)
    (lc2T_read hv hv1 hless hless1 his his1 hvs hsz (fun σ H R z => z) (fun x hx v σ H Q z => ⟨x, hx, z⟩) (fun x hx σ H R z => ⟨x, hx, z⟩) (fun x hx y hy v σ H Q z => ⟨x, y, hx, hy, z⟩) (fun x hx y hy σ H Q z => ⟨x, y, hx, hy, z⟩) (fun x hx y hy hf σ H Q z => ⟨x, y, hx, hy, hf, z⟩))
end
end DL
end

section
namespace DL
open PySem PySem.Spec PyProof.Rows L2 StX
section
variable {X : Cx} {Γ Γ1 Γ2 : Gm} {e : Expr} {es : List Expr} {ds ds2 : List PyData} {p : Pos}
/-- (*xs, ..), xs a tuple -/
theorem ea_star (he : Ee X Γ e (.tuple ds) Γ1) (hr : Ea X Γ1 es ds2 Γ2) (hs : starEach (.Starred e p :: es) X.env = (true, eval e X.env) :: starEach es X.env := by rfl) : Ea X Γ (.Starred e p :: es) (ds ++ ds2) Γ2 :=
  pa_imp (pa_star he hr hs) fun σ H Q ⟨F, ev, x, q⟩ => ⟨F, ev, x, fun v F1 H1 g1 e1 dv => by
    obtain ⟨a, ob, xs, rfl, _, _, hS, hA⟩ := dv.tupAt g1.fh
    exact ⟨a, xs, rfl, .inl hS, F1, e1, g1.fh, fun vs F2 H2 g2 e2 dvs => q (xs ++ vs) F2 H2 (g1.trans g2) e2 ((hA.up g2.ff).app dvs)⟩⟩
end
def lcScope : Expr → Scope
  | .ListComp _ _ sc _ => sc
  | _ => ⟨.function, [], false, false, []⟩
/-- the scope of a block as a block within it sees it -/
def relB (sc0 sc : Scope) : Scope := { sc with names := sc.names.map fun p => if (p.2 == .free && sc0.names.lookup p.1 == some .cell) then (p.1, .cell) else p }
def asgVal : Stmt → Expr
  | .Assign _ v _ => v
  | _ => .Constant .none 0 ⟨0, 0, 0, 0⟩
end DL
end

section
namespace DL
open PySem PySem.Spec PyProof.Rows L2
section
variable {X : Cx} {Γ Γ1 : Gm} {e : Expr} {pos pp p1 p2 : Pos} {te : L2.St → Hp → (Int → Int → Hp → Prop) → Prop}
/-- tuple(range(..)), laid with its object -/
theorem pe_tupRgF {p : Pos} (hc : X.calm = true) (hg : Gl X "tuple") (hm : X.mg "tuple" = none) (he : PRg X e te) (na : starEach [e] X.env = (false, eval e X.env) :: starEach [] X.env := by rfl) : PE X (.Call (.Name "tuple" p) [e] [] pos) (fun σ H Q => te σ H fun a b H1 => RgOk a b ∧ TupNew H1 (rgV a b) Q) := by
  refine ⟨fun pins s σ H Q I h => Call_ (ld_blt I hg hm boot_tuple (PyProof.Rows.callWith_type1 (args_cons (thn (he pins s σ H _ I h) fun x s1 ⟨r, a, b, t, u, v, H1, ex, hr, I1, ok, q⟩ => args_nil ?_) na) na))⟩
  subst ex
  obtain ⟨b1, b2, b3, b4, b5⟩ := ok
  refine call_tuple_range (n := (b - a).toNat) (I1.ok.hd hc) hr (small_one b1 b2 b3 b4) (rangeSize_nat a b) b5 fun h' tk acc hk hi => ?_
  have I2 : Inv X pins σ H1 { s1 with heap := h', toks := tk } := I1.kept hk
  have hf : H1 h'.objs.size = none := I2.hok.fresh (Nat.le_refl _)
  have hz : (rgV a b).length ≤ sizeLine := by rw [rgV_length, sizeLine_eq]; omega
  refine ⟨.ref h'.objs.size, upd H1 h'.objs.size (.frz { cls := .type "tuple", data := .seq acc } (.tup (rgV a b))), I2.laid (t' := tk) (fun c o z => Heap.get?_push_of_some _ z) (Nat.le_refl _) ⟨Heap.get?_push_size _ rfl, hz, acc.toList, vals_rg hi, ?_⟩, rfl, q _ _ hf rfl⟩
  rw [Array.toArray_toList]
  exact ⟨_, Heap.get?_push_size _ rfl, rfl, _, rfl⟩
theorem ee_tupRg {n : Nat} (hc : X.calm = true) (hl : X.mg "tuple" = none) (hr : X.mg "range" = none) (ha : Ee X Γ e (.int n) Γ1) (hn : n ≤ 16777216) (hg : Gl X "tuple" := by rfl) (hg2 : Gl X "range" := by rfl) (na : starEach [e] X.env = (false, eval e X.env) :: starEach [] X.env := by rfl)
    (na2 : starEach [Expr.Call (.Name "range" p1) [e] [] p2] X.env = (false, eval (Expr.Call (.Name "range" p1) [e] [] p2) X.env) :: starEach [] X.env := by rfl) :
    Ee X Γ (.Call (.Name "tuple" pp) [.Call (.Name "range" p1) [e] [] p2] [] pos) (.tuple ((List.range n).map fun i : Nat => PyData.int i)) Γ1 :=
  pe_imp (pe_tupRgF hc hg hl (prg_1 hg2 hr ha na) na2) fun σ H Q ⟨F, ev, x, k⟩ => ⟨F, ev, x, fun v F1 H1 g1 e1 dv => by
    cases dv
    refine ⟨n, rfl, RgOk.of_le (by omega) (by omega) (by omega) (by omega), ?_⟩
    have h := dda_range (K := X.K) (F := F1) 0 (n : Int)
    have e2 : ((n : Int) - 0).toNat = n := by omega
    rw [e2] at h
    refine tupNew_of g1 e1 ?_ k
    simpa using h⟩
end
end DL
end

section
namespace DL
open PySem PySem.Spec PyProof.Rows L2
section
variable {X : Cx} {Γ : Gm} {b e : Expr} {pos ps p1 : Pos}
def rGetN (K : PySem.W.Frag) : V → V → Hp → VK → Prop := fun o i H Q => ∃ (p : Addr) (xs : List V) (j : Nat) (v : V), o = .ref p ∧ i = .int (j : Nat) ∧ SqL K H p xs ∧ j < 16777216 ∧ xs[j]? = some v ∧ Q v H
theorem get_listN : PGet X (rGetN X.K) := by
  intro pins s σ H o i ov iv Q I ro ri h
  obtain ⟨p, xs, j, v, rfl, rfl, hq, hj, hx, q⟩ := h
  cases ro
  obtain ⟨t, rfl⟩ := ri
  obtain ⟨its, r, pl, _⟩ := I.list hq
  obtain ⟨u, hu, ru⟩ := r.get hx
  exact wpAny_getItem_list pl.isList (Int.natCast_nonneg j) (by omega) (by rw [Int.toNat_natCast]; simpa using hu) ⟨v, H, I, ru, q⟩
/-- x[j] += c, x a list of the frame's own -/
theorem es_augIx {n j : Nat} {a c : Int} {s : Slot} {x : Str} (hx : PE X (.Name x p1) (tVar n)) (h : Γ[n]? = some (some s)) (ho : isOw s = true) (hb : Ee X Γ b (.int (j : Nat)) Γ) (hd : (slotDs s)[j]? = some (.int a)) (hl : (slotDs s).length ≤ 16777216) (he : Ee X Γ e (.int c) Γ)
    (ha : ∀ ov iv new, augStore b ov iv new = (do holding [new, ov, iv] (setItem ov iv new); release [new, ov, iv] []; pure .next) := by intros; rfl) :
    Es X Γ (.AugAssign (.Subscript (.Name x p1) b ps) .Add e pos) (.nx (Γ.set n (some (reSlot ((slotDs s).set j (.int (a + c))) s)))) :=
  ps_imp (ps_augS hx hb get_listN he ip_add set_list ha) fun D σ H ⟨F, ev, xt, k⟩ => by
    obtain ⟨l0, xs0, a1, a2, a3, a4⟩ := own_get ev h ho
    have hjl : j < (slotDs s).length := (List.getElem?_eq_some_iff.mp hd).1
    refine ⟨.ref l0, a1, F, ev, xt, fun w F1 H1 g1 e1 dw => ?_⟩
    cases dw
    obtain ⟨l, xs, b1, b2, b3, b4⟩ := own_get e1 h ho
    rw [a1] at b1
    cases b1
    obtain ⟨y, hy, dy⟩ := b4.get hd
    cases dy
    refine ⟨l0, xs, j, _, rfl, rfl, SqL.of b3, by omega, hy, F1, e1, g1.fh, fun w F2 H2 g2 e2 dw => ?_⟩
    cases dw
    obtain ⟨l, xs2, c1, c2, c3, c4⟩ := own_get e2 h ho
    rw [a1] at c1
    cases c1
    refine ⟨a, c, rfl, rfl, l0, xs2, j, j, rfl, rfl, c3, ?_, ?_⟩
    · unfold ixN
      rw [if_pos (by omega), if_pos (by rw [c4.len]; omega), Int.toNat_natCast]
    · exact k σ F2 _ ((g1.trans g2).trans (Gr.change g2.fh e2 h ho a1)) (e2.change h ho a1 (c4.set (.int (a + c))))
end
end DL
end

section
/-! zip of two lists, its pairs kept by a name. -/
namespace DL
open PySem PySem.Spec PyProof.Rows L2
section
variable {prog : Program} {w : World} {A : Around} {E : Value → Shared → Prop} {s : Shared}
/-- the tuple that was handed out is gone: the zip is free again -/
theorem zip_gone {z TI TO T : Addr} {f : Bool} {Q : Bool → Shared → Prop} (hz : IsZipHeld s.heap z TI TO T f) (hT : s.heap.get? T = none) (h : Q true s) : wpAny (model prog w) A (Builtin.SmallTypes.ownedTupleIsFree (.ref z)) Q E s := by
  unfold Builtin.SmallTypes.ownedTupleIsFree
  refine wpAny_bind (wpAny_field (x := rawInt T) hz rfl rfl ?_)
  have e : ((T : Int).toNat) = T := Int.toNat_natCast T
  show wpAny _ _ (loadIfAlive ((T : Int).toNat) >>= _) _ _ s
  rw [e]
  refine wpAny_bind (Q := _) (show wpAny _ _ (loadIfAlive T) _ _ s from ?_)
  have hh : (fun (o : Option Obj) (s' : Shared) => o = none ∧ s' = s) (s.heap.get? T) s := ⟨hT, rfl⟩
  refine wpAny_mono (Q := fun o s' => o = none ∧ s' = s) (fun _ _ _ => hh) (fun o s' ⟨ho, hs'⟩ => ?_) fun _ _ z => z
  subst ho hs'
  exact wpAny_pure h
abbrev ZipF (h : Heap) (z TI TO : Addr) (f0 f1 : Value) : Prop := h.get? z = some { cls := .type "zip", dict := none, data := .fields #[f0, f1, .bool false, .ref TI, .ref TO], slots := #[] }
/-- a free zip gives its next pair -/
theorem zip_item_free {z TI TO i1 i2 l1 l2 : Addr} {k1 k2 : Nat} {xs ys : Array Value} {x y a b f0 f1 : Value} {Q : Value → Shared → Prop} (D : ZipApart z TI TO i1 i2 l1 l2)
    (hfree : ∀ (Q : Bool → Shared → Prop) (E : Value → Shared → Prop), Q true s → wpAny (model prog w) A (Builtin.SmallTypes.ownedTupleIsFree (.ref z)) Q E s)
    (hz : ZipF s.heap z TI TO f0 f1) (hTI : IsPair s.heap TI (.ref i1) (.ref i2)) (hTO : IsPair s.heap TO a b) (h1 : s.heap.IsListIter i1 l1 k1) (h2 : s.heap.IsListIter i2 l2 k2) (hl1 : s.heap.IsList l1 xs) (hl2 : s.heap.IsList l2 ys) (hx : xs[k1]? = some x) (hy : ys[k2]? = some y)
    (hQ : ∀ h', IsZipHeld h' z TI TO s.heap.objs.size false → IsPair h' TO x y → h'.IsListIter i1 l1 (k1 + 1) → h'.IsListIter i2 l2 (k2 + 1) → IsPair h' s.heap.objs.size x y → h'.objs.size = s.heap.objs.size + 1 → (∀ c o, c ≠ z → c ≠ TO → c ≠ i1 → c ≠ i2 → s.heap.get? c = some o → h'.get? c = some o) → Q (.ref s.heap.objs.size) { s with heap := h' }) :
    wpAny (model prog w) A (Builtin.«zip.__next__» ⟨[.ref z], []⟩) (fun fin s' => ∃ v, fin = .done (.ret v) ∧ Q v s') E s := by
  show wpAny _ _ (field (.ref z) 2 >>= fun _ => _) _ _ s
  refine wpAny_bind (wpAny_field (x := .bool false) hz rfl rfl ?_); show wpAny _ _ (field (.ref z) 3 >>= fun _ => _) _ _ s
  refine wpAny_bind (wpAny_field (x := .ref TI) hz rfl rfl (wpAny_bind (wpAny_seqItems hTI rfl ?_))); show wpAny _ _ (Builtin.SmallTypes.ownedTupleIsFree (.ref z) >>= fun _ => _) _ _ s
  refine wpAny_bind (hfree _ _ ?_); simp only [if_true]
  refine wpAny_bind (wpAny_rule (wpAny_bind (wpAny_field (x := .ref TO) hz rfl rfl (wpAny_bind (wpAny_setField_rec hz (by simp) fun g1 hz1 s1 => ?_))))); replace hz1 : ZipF g1 z TI TO .ellipsis f1 := hz1
  refine wpAny_bind ?_; simp only [List.forIn_cons, List.forIn_nil, List.zipIdx_cons, List.zipIdx_nil]; refine wpAny_bind (wpAny_bind (wpAny_onRaise ?_)); show wpAny _ _ (Builtin.SmallTypes.nextOf (.ref i1) >>= fun _ => _) _ _ _
  refine wpAny_bind (wpAny_nextOf_list_item (h1.extBut s1.extBut D.i1z) (hl1.extBut s1.extBut D.l1z) hx fun g2 a2 s2 => wpAny_pure ?_)
  have t2 : IsPair g2 TO a b := s2.extBut _ _ D.TOi1 (s1.extBut _ _ D.TOz hTO)
  refine wpAny_bind (wpAny_seqItems t2 rfl (wpAny_bind (wpAny_updateSeq_pair t2 fun g3 t3 s3 => ?_))); replace t3 : IsPair g3 TO x b := t3
  refine wpAny_bind (wpAny_letGo (wpAny_pure (wpAny_bind (wpAny_bind (wpAny_onRaise ?_))))); show wpAny _ _ (Builtin.SmallTypes.nextOf (.ref i2) >>= fun _ => _) _ _ _
  have b3 : g3.IsListIter i2 l2 k2 := ((h2.extBut s1.extBut D.i2z).extBut s2.extBut D.i12.symm).extBut s3.extBut D.TOi2.symm
  have c3 : g3.IsList l2 ys := ((hl2.extBut s1.extBut D.l2z).extBut s2.extBut D.l2i1).extBut s3.extBut D.l2TO
  refine wpAny_bind (wpAny_nextOf_list_item b3 c3 hy fun g4 b4 s4 => wpAny_pure ?_)
  have t4 : IsPair g4 TO x b := s4.extBut _ _ D.TOi2 t3
  refine wpAny_bind (wpAny_seqItems t4 rfl (wpAny_bind (wpAny_updateSeq_pair t4 fun g5 t5 s5 => ?_))); replace t5 : IsPair g5 TO x y := t5
  refine wpAny_bind (wpAny_letGo (wpAny_pure (wpAny_pure (wpAny_bind (wpAny_seqItems t5 rfl (wpAny_bind (wpAny_newTuple ?_)))))))
  have size5 : g5.objs.size = s.heap.objs.size := s5.1.trans (s4.1.trans (s3.1.trans (s2.1.trans s1.1)))
  have z5 : ZipF g5 z TI TO .ellipsis f1 := s5.extBut _ _ D.TOz.symm (s4.extBut _ _ D.i2z.symm (s3.extBut _ _ D.TOz.symm (s2.extBut _ _ D.i1z.symm hz1)))
  have k5 : ∀ c o, c ≠ z → c ≠ TO → c ≠ i1 → c ≠ i2 → s.heap.get? c = some o → g5.get? c = some o := fun c o n1 n2 n3 n4 e => s5.extBut _ _ n2 (s4.extBut _ _ n4 (s3.extBut _ _ n2 (s2.extBut _ _ n3 (s1.extBut _ _ n1 e))))
  have a5 : g5.IsListIter i1 l1 (k1 + 1) := ((a2.extBut s3.extBut D.TOi1.symm).extBut s4.extBut D.i12).extBut s5.extBut D.TOi1.symm
  have b5 : g5.IsListIter i2 l2 (k2 + 1) := b4.extBut s5.extBut D.TOi2.symm
  have zlt : z < g5.objs.size := Heap.lt_size z5
  show wpAny _ _ (Builtin.SmallTypes.ownedTupleHandOut (.ref z) (.ref g5.objs.size) >>= fun _ => _) _ _ _; refine wpAny_bind ?_; unfold Builtin.SmallTypes.ownedTupleHandOut
  have z6 : ZipF (g5.push { cls := .type "tuple", data := .seq #[x, y] }) z TI TO .ellipsis f1 := Heap.get?_push_of_some _ z5
  refine wpAny_bind (wpAny_setField_rec z6 (by simp) fun g7 z7 s7 => ?_); replace z7 : ZipF g7 z TI TO (rawInt g5.objs.size) f1 := z7
  refine wpAny_setField_rec z7 (by simp) fun g8 z8 s8 => ?_; replace z8 : IsZipHeld g8 z TI TO g5.objs.size false := z8
  have up : ∀ c o, c ≠ z → g5.get? c = some o → g8.get? c = some o := fun c o n1 e => s8.extBut _ _ n1 (s7.extBut _ _ n1 (Heap.get?_push_of_some _ e))
  have t8 : IsPair g8 g5.objs.size x y := s8.extBut _ _ (Nat.ne_of_gt zlt) (s7.extBut _ _ (Nat.ne_of_gt zlt) (Heap.get?_push_size _ rfl))
  have size8 : g8.objs.size = g5.objs.size + 1 := by rw [s8.1, s7.1, Heap.size_push]
  rw [size5] at z8 t8 size8; refine wpAny_pure ⟨_, rfl, ?_⟩; show Q (.ref g5.objs.size) _; rw [size5]
  exact hQ g8 z8 (up _ _ D.TOz t5) (a5.at fun o e => up _ o D.i1z e) (b5.at fun o e => up _ o D.i2z e) t8 size8 fun c o n1 n2 n3 n4 e => up c o n1 (k5 c o n1 n2 n3 n4 e)
/-- a free zip comes to its end, both lists being of one length -/
theorem zip_end_free {z TI TO i1 i2 l1 l2 : Addr} {k1 : Nat} {xs : Array Value} {f0 f1 : Value} {Q : Fin → Shared → Prop} (hh : A.handled = none) (D : ZipApart z TI TO i1 i2 l1 l2)
    (hfree : ∀ (Q : Bool → Shared → Prop) (E : Value → Shared → Prop), Q true s → wpAny (model prog w) A (Builtin.SmallTypes.ownedTupleIsFree (.ref z)) Q E s)
    (hz : ZipF s.heap z TI TO f0 f1) (hTI : IsPair s.heap TI (.ref i1) (.ref i2)) (h1 : s.heap.IsListIter i1 l1 k1) (hl1 : s.heap.IsList l1 xs) (hx : xs[k1]? = none)
    (hE : ∀ h' e, (∀ c o, c ≠ z → c ≠ i1 → s.heap.get? c = some o → h'.get? c = some o) → (∃ o, h'.get? e = some o ∧ o.cls = .type "StopIteration") → E (.ref e) { s with heap := h' }) :
    wpAny (model prog w) A (Builtin.«zip.__next__» ⟨[.ref z], []⟩) Q E s := by
  show wpAny _ _ (field (.ref z) 2 >>= fun _ => _) _ _ s
  refine wpAny_bind (wpAny_field (x := .bool false) hz rfl rfl ?_); show wpAny _ _ (field (.ref z) 3 >>= fun _ => _) _ _ s
  refine wpAny_bind (wpAny_field (x := .ref TI) hz rfl rfl (wpAny_bind (wpAny_seqItems hTI rfl ?_))); show wpAny _ _ (Builtin.SmallTypes.ownedTupleIsFree (.ref z) >>= fun _ => _) _ _ s
  refine wpAny_bind (hfree _ _ ?_); simp only [if_true]
  refine wpAny_bind (wpAny_rule (wpAny_bind (wpAny_field (x := .ref TO) hz rfl rfl (wpAny_bind (wpAny_setField_rec hz (by simp) fun g1 hz1 s1 => ?_))))); replace hz1 : ZipF g1 z TI TO .ellipsis f1 := hz1
  refine wpAny_bind ?_; simp only [List.forIn_cons, List.forIn_nil, List.zipIdx_cons, List.zipIdx_nil]; refine wpAny_bind (wpAny_bind (wpAny_onRaise ?_)); show wpAny _ _ (Builtin.SmallTypes.nextOf (.ref i1) >>= fun _ => _) _ _ _
  refine wpAny_bind (wpAny_nextOf_list_end hh (h1.extBut s1.extBut D.i1z) (hl1.extBut s1.extBut D.l1z) hx fun g2 e s2 ⟨oe, hoe, hce⟩ => ?_)
  have z2 : ZipF g2 z TI TO .ellipsis f1 := s2 _ _ D.i1z.symm hz1
  have ez : e ≠ z := fun q => by subst q; rw [z2] at hoe; cases hoe; simp at hce
  exact wpAny_setField_rec z2 (by simp) fun g3 _ s3 => hE g3 e (fun c o n1 n2 q => s3.extBut _ _ n1 (s2 _ _ n2 (s1.extBut _ _ n1 q))) ⟨oe, s3.extBut _ _ ez hoe, hce⟩
end
end DL
end

section
namespace DL
open PySem PySem.Spec PyProof.Rows L2
section
variable {prog : Program} {w : World} {A : Around} {E : Value → Shared → Prop} {s : Shared}
/-- a zip that is free, or whose last pair is held -/
def ZipAny (h : Heap) (z TI TO : Addr) : Prop := IsZip h z TI TO .none ∨ ∃ T f, IsZipHeld h z TI TO T f
theorem zip_none_free {z TI TO : Addr} (hz : IsZip s.heap z TI TO .none) : ∀ (Q : Bool → Shared → Prop) (E : Value → Shared → Prop), Q true s → wpAny (model prog w) A (Builtin.SmallTypes.ownedTupleIsFree (.ref z)) Q E s := fun Q E h => by
  unfold Builtin.SmallTypes.ownedTupleIsFree
  exact wpAny_bind (wpAny_field (x := .none) hz rfl rfl (wpAny_pure h))
theorem any_next {z TI TO i1 i2 l1 l2 : Addr} {k : Nat} {xs ys : Array Value} {x y : Value} {Q : Option Value → Shared → Prop} (D : ZipApart z TI TO i1 i2 l1 l2) (hz : ZipAny s.heap z TI TO) (hTI : IsPair s.heap TI (.ref i1) (.ref i2)) (hTO : ∃ a b, IsPair s.heap TO a b)
    (h1 : s.heap.IsListIter i1 l1 k) (h2 : s.heap.IsListIter i2 l2 k) (hl1 : s.heap.IsList l1 xs) (hl2 : s.heap.IsList l2 ys) (hx : xs[k]? = some x) (hy : ys[k]? = some y)
    (hQ : ∀ h', ZipAny h' z TI TO → (∃ a b, IsPair h' TO a b) → h'.IsListIter i1 l1 (k + 1) → h'.IsListIter i2 l2 (k + 1) → IsPair h' s.heap.objs.size x y → (∀ c o, c ≠ z → c ≠ TO → c ≠ i1 → c ≠ i2 → s.heap.get? c = some o → h'.get? c = some o) → Q (some (.ref s.heap.objs.size)) { s with heap := h' }) :
    wpAny (model prog w) A (pyNext (.ref z)) Q E s := by
  obtain ⟨a, b, hTO⟩ := hTO
  have free : ∀ f0 f1, ZipF s.heap z TI TO f0 f1 → (∀ (Q : Bool → Shared → Prop) (E : Value → Shared → Prop), Q true s → wpAny (model prog w) A.in1 (Builtin.SmallTypes.ownedTupleIsFree (.ref z)) Q E s) → wpAny (model prog w) A (pyNext (.ref z)) Q E s := fun f0 f1 hz hf => by
    have ty : s.TypeIs (.ref z) "zip" := ⟨_, hz, rfl⟩
    unfold pyNext
    exact wpAny_bind (wpAny_attempt (wpAny_callSpecial?_slot (name := Str.ofString "__next__") ty F.slot_zip_next (wpAny_call_entry F.slot_zip_next ty F.entry_zip_next
      (zip_item_free D hf hz hTI hTO h1 h2 hl1 hl2 hx hy fun h' a1 a2 a3 a4 a5 a6 a7 => wpAny_pure (hQ h' (.inr ⟨_, _, a1⟩) ⟨_, _, a2⟩ a3 a4 a5 a7)) (F.args_zip_next_1 _))))
  rcases hz with hz | ⟨T, f, hz⟩
  · exact free _ _ hz (zip_none_free hz)
  · cases hT : s.heap.get? T with
    | none => exact free _ _ hz fun Q E h => zip_gone hz hT h
    | some oT => exact wpAny_pyNext_zip_item_held D hz hT hTI h1 h2 hl1 hl2 hx hy fun h' a1 a3 a4 a5 a6 a7 => hQ h' (.inr ⟨_, _, a1⟩) ⟨a, b, a7 TO _ D.TOz D.TOi1 D.TOi2 hTO⟩ a3 a4 a5 fun c o n1 _ n3 n4 e => a7 c o n1 n3 n4 e
theorem any_end {z TI TO i1 i2 l1 l2 : Addr} {k : Nat} {xs ys : Array Value} {Q : Option Value → Shared → Prop} (hh : A.handled = none) (D : ZipApart z TI TO i1 i2 l1 l2) (hz : ZipAny s.heap z TI TO) (hTI : IsPair s.heap TI (.ref i1) (.ref i2))
    (h1 : s.heap.IsListIter i1 l1 k) (h2 : s.heap.IsListIter i2 l2 k) (hl1 : s.heap.IsList l1 xs) (hl2 : s.heap.IsList l2 ys) (hx : xs[k]? = none)
    (hQ : ∀ h', (∀ c o, c ≠ z → c ≠ i1 → c ≠ i2 → s.heap.get? c = some o → h'.get? c = some o) → Q none { s with heap := h' }) : wpAny (model prog w) A (pyNext (.ref z)) Q E s := by
  have free : ∀ f0 f1, ZipF s.heap z TI TO f0 f1 → (∀ (Q : Bool → Shared → Prop) (E : Value → Shared → Prop), Q true s → wpAny (model prog w) A.in1 (Builtin.SmallTypes.ownedTupleIsFree (.ref z)) Q E s) → wpAny (model prog w) A (pyNext (.ref z)) Q E s := fun f0 f1 hz hf => by
    have ty : s.TypeIs (.ref z) "zip" := ⟨_, hz, rfl⟩
    unfold pyNext
    refine wpAny_bind (wpAny_attempt (wpAny_callSpecial?_slot (name := Str.ofString "__next__") ty F.slot_zip_next (wpAny_call_entry F.slot_zip_next ty F.entry_zip_next (zip_end_free hh D hf hz hTI h1 hl1 hx fun h' e hk he => ?_) (F.args_zip_next_1 _))))
    obtain ⟨o, ho, hc⟩ := he
    exact wpAny_bind (wpAny_isInstance (T := "StopIteration") (b := true) ⟨o, ho, hc⟩ isSubtype_stop (wpAny_pure (hQ _ fun c o n1 n2 _ e => hk c o n1 n2 e)))
  rcases hz with hz | ⟨T, f, hz⟩
  · exact free _ _ hz (zip_none_free hz)
  · cases hT : s.heap.get? T with
    | none => exact free _ _ hz fun Q E h => zip_gone hz hT h
    | some oT => exact wpAny_pyNext_zip_end_held hh D hz hT hTI h1 h2 hl1 hl2 (.inl hx) hQ
end
/-- two lists of one length side by side, the pairs laid with their objects -/
def ItzF (K : PySem.W.Frag) (a b : Addr) : It :=
  ⟨fun i H => ∃ (xs ys : List V) (x y : V), SqL K H a xs ∧ SqL K H b ys ∧ xs[i]? = some x ∧ ys[i]? = some y,
    fun i H v H' => ∃ T ob x y, v = .ref T ∧ H T = none ∧ ob.dict = none ∧ H' = upd H T (.frz ob (.tup [x, y])) ∧ (∀ xs, SqL K H a xs → xs[i]? = some x) ∧ ∀ ys, SqL K H b ys → ys[i]? = some y,
    fun i H => ∃ xs ys : List V, SqL K H a xs ∧ SqL K H b ys ∧ xs.length ≤ i⟩
theorem turn_zipN {P : Program} {w : World} {K : PySem.W.Frag} {n : Str} {np : Pos} {a b z TI TO i1 i2 : Addr} (D : ZipApart z TI TO i1 i2 a b) :
    Turn P w K (.Name n np) (ItzF K a b) [z, TI, TO, i1, i2] z (fun i h => ZipAny h z TI TO ∧ IsPair h TI (.ref i1) (.ref i2) ∧ (∃ x y, IsPair h TO x y) ∧ h.IsListIter i1 a i ∧ h.IsListIter i2 b i) where
  mem := by simp
  obj := fun i h st c hc => by
    obtain ⟨hz, hTI, ⟨x, y, hTO⟩, ⟨o1, e1, _, d1⟩, ⟨o2, e2, _, d2⟩⟩ := st
    have zo : ∃ o, h.get? z = some o ∧ ∀ v, o.data ≠ .cell v := by
      rcases hz with hz | ⟨T, f, hz⟩
      · exact ⟨_, hz, fun v q => nomatch q⟩
      · exact ⟨_, hz, fun v q => nomatch q⟩
    simp only [List.mem_cons, List.not_mem_nil, or_false] at hc
    rcases hc with rfl | rfl | rfl | rfl | rfl
    · exact zo
    · exact ⟨_, hTI, fun v q => nomatch q⟩
    · exact ⟨_, hTO, fun v q => nomatch q⟩
    · exact ⟨o1, e1, fun v q => by rw [d1] at q; cases q⟩
    · exact ⟨o2, e2, fun v q => by rw [d2] at q; cases q⟩
  keep := fun i h h' st k => by
    obtain ⟨hz, hTI, ⟨x, y, hTO⟩, h1, h2⟩ := st
    refine ⟨?_, k TI (by simp) _ hTI, ⟨x, y, k TO (by simp) _ hTO⟩, h1.at fun o q => k i1 (by simp) o q, h2.at fun o q => k i2 (by simp) o q⟩
    rcases hz with hz | ⟨T, f, hz⟩
    · exact .inl (k z (by simp) _ hz)
    · exact .inr ⟨T, f, k z (by simp) _ hz⟩
  item := by
    intro X hP hw hK hc i pins s σ H E I hf st hg
    subst hP hw hK
    obtain ⟨hz, hTI, hTO, h1, h2⟩ := st
    obtain ⟨xs, ys, x, y, hqx, hqy, hx, hy⟩ := hg
    obtain ⟨its, rv, p, _⟩ := I.list hqx
    obtain ⟨its2, rv2, p2, _⟩ := I.list hqy
    obtain ⟨u, hu, ru⟩ := rv.get hx
    obtain ⟨u2, hu2, ru2⟩ := rv2.get hy
    refine any_next D hz hTI hTO h1 h2 p.isList p2.isList (x := u) (y := u2) (by simpa using hu) (by simpa using hu2) fun h' z' TO' h1' h2' hT hk => ?_
    refine ⟨_, rfl, wpAny_pure ?_⟩
    let ob : Obj := { cls := .type "tuple", data := .seq #[u, u2] }
    have new : ObjOk X.prog X.w (upd H s.heap.objs.size (.frz ob (.tup [x, y]))) h' s.heap.objs.size (.frz ob (.tup [x, y])) := ⟨hT, by show 2 ≤ sizeLine; decide, [u, u2], .cons ru (.cons ru2 .nil), ⟨_, hT, rfl, _, rfl⟩⟩
    have I1 : Inv X pins σ (upd H s.heap.objs.size (.frz ob (.tup [x, y]))) { s with heap := h' } :=
      I.turnedNew (t' := s.toks) (ch := [z, TI, TO, i1, i2]) (fun c o hb q => hk c o (fun e => hb (by simp [e])) (fun e => hb (by simp [e])) (fun e => hb (by simp [e])) (fun e => hb (by simp [e])) q) hf (Nat.le_refl _) new
    have hTIk := hk TI _ D.TIz D.TITO D.TIi1 D.TIi2 hTI
    refine ⟨.ref s.heap.objs.size, _, I1, rfl, ⟨_, ob, x, y, rfl, I.hok.fresh (Nat.le_refl _), rfl, rfl, fun l hl => by rw [I.list_inj hl hqx]; exact hx, fun l hl => by rw [I.list_inj hl hqy]; exact hy⟩, ⟨z', hTIk, TO', h1', h2'⟩, fun c hcm => ?_⟩
    have hlt : c < s.heap.objs.size := by
      obtain ⟨a0, b0, hTO⟩ := hTO
      simp only [List.mem_cons, List.not_mem_nil, or_false] at hcm
      rcases hcm with rfl | rfl | rfl | rfl | rfl
      · rcases hz with hz | ⟨T, f, hz⟩ <;> exact Heap.lt_size hz
      · exact Heap.lt_size hTI
      · exact Heap.lt_size hTO
      · obtain ⟨_, e1, _⟩ := h1; exact Heap.lt_size e1
      · obtain ⟨_, e2, _⟩ := h2; exact Heap.lt_size e2
    rw [upd_ne (Nat.ne_of_lt hlt)]
    exact (hf c hcm).1
  done := by
    intro X hP hw hK hc i pins s σ H E I hf st hg
    subst hP hw hK
    obtain ⟨hz, hTI, hTO, h1, h2⟩ := st
    obtain ⟨xs, ys, hqx, hqy, hend⟩ := hg
    obtain ⟨its, rv, p, _⟩ := I.list hqx
    obtain ⟨its2, rv2, p2, _⟩ := I.list hqy
    have ll := rv.length
    refine any_end (I.ok.hd hc) D hz hTI h1 h2 p.isList p2.isList (by simp; omega) fun h' hk => ⟨rfl, I.turnedL (t' := s.toks) (ch := [z, TI, TO, i1, i2]) (fun c o hb q => hk c o (fun e => hb (by simp [e])) (fun e => hb (by simp [e])) (fun e => hb (by simp [e])) q) hf⟩
  self := fun A i s Q E st h => by
    have ty : s.TypeIs (.ref z) "zip" := by
      obtain ⟨hz | ⟨T, f, hz⟩, _⟩ := st
      · exact ⟨_, hz, rfl⟩
      · exact ⟨_, hz, rfl⟩
    refine wpAny_pyIter_slot ty F.slot_zip_iter (wpAny_call_entry F.slot_zip_iter ty F.entry_zip_iter ?_ (F.args_zip_iter_1 _))
    show wpAny _ _ (ret (.ref z)) _ _ s
    exact wpAny_pure ⟨_, rfl, "zip", _, ty, F.slot_zip_next.lookup, h⟩
section
variable {X : Cx} {Γ Γ1 : Gm} {e e2 : Expr} {ds es : List PyData} {pos : Pos}
theorem ei_zipN {n : Str} {np p : Pos} (hm : X.mg "zip" = none) (h : Ea X Γ [e, e2] [.list ds, .list es] Γ1) (hl : es.length = ds.length) (hg : Gl X "zip" := by rfl) (hs : starEach [e, e2] X.env = (false, eval e X.env) :: starEach [e2] X.env := by rfl) (hs2 : starEach [e2] X.env = [(false, eval e2 X.env)] := by rfl) :
    Ei X Γ (.Name n np) (.Call (.Name "zip" p) [e, e2] [] pos) ((List.range ds.length).map fun i => .tuple [ds.getD i .none, es.getD i .none]) Γ1 := by
  refine ⟨fun pins s σ H R I hR => ?_⟩
  obtain ⟨F, ev, x, k⟩ := hR
  refine Call_ (ld_blt I hg hm boot_zip (PyProof.Rows.callWith_type1 (thn (h.run pos pins s σ H (fun vs H1 => ∃ v u F1, vs = [v, u] ∧ Gr F H (Own σ Γ) F1 H1 (Own σ Γ1) ∧ EnvOk X.K F1 H1 σ Γ1 ∧ Dd X.K F1 v (.list ds) ∧ Dd X.K F1 u (.list es)) I ⟨F, ev, x, fun vs F1 H1 g1 e1 dv => by
    obtain ⟨v, u, rfl, dv, du⟩ := two_of dv
    exact ⟨v, u, F1, rfl, g1, e1, dv, du⟩⟩) fun us s1 hh => ?_) hs (by rw [hs2]; rfl)))
  obtain ⟨vs, H1, I1, r1, v, u, F1, rfl, g1, e1, dv, du⟩ := hh
  obtain ⟨va, ub, rfl, ru, rv⟩ := Vals.two r1
  cases dv with
  | @lst a xs _ h1 hA =>
  cases du with
  | @lst b ys _ h2 hB =>
    cases ru
    cases rv
    have qa : H1 a = some (.lst xs) := g1.fh _ _ h1
    have qb : H1 b = some (.lst ys) := g1.fh _ _ h2
    obtain ⟨its, _, p1, _⟩ := I1.list (SqL.of (K := X.K) qa)
    obtain ⟨its2, _, p2, _⟩ := I1.list (SqL.of (K := X.K) qb)
    have la : a < s1.heap.objs.size := by obtain ⟨_, e0, _⟩ := p1.isList; exact Heap.lt_size e0
    have lb : b < s1.heap.objs.size := by obtain ⟨_, e0, _⟩ := p2.isList; exact Heap.lt_size e0
    refine call_zip_2 p1.isList p2.isList fun h' hz hTI hTO hi1 hi2 hsz hk => ?_
    have D := PySem.W.ktu_apart s1.heap.objs.size a b la lb
    have TT := turn_zipN (P := X.prog) (w := X.w) (K := X.K) (n := n) (np := np) D
    have I2 : Inv X pins σ H1 { s1 with heap := h' } := I1.kept (t' := s1.toks) hk
    have st0 : ZipAny h' (s1.heap.objs.size + 4) (s1.heap.objs.size + 2) (s1.heap.objs.size + 3) ∧ IsPair h' (s1.heap.objs.size + 2) (.ref s1.heap.objs.size) (.ref (s1.heap.objs.size + 1)) ∧ (∃ x y, IsPair h' (s1.heap.objs.size + 3) x y) ∧ h'.IsListIter s1.heap.objs.size a 0 ∧ h'.IsListIter (s1.heap.objs.size + 1) b 0 := ⟨.inl hz, hTI, ⟨_, _, hTO⟩, hi1, hi2⟩
    refine TT.self _ 0 _ _ _ st0 ?_
    refine ⟨s1.heap.objs.size + 4, _, _, _, H1, rfl, I2, TT, st0, fun c hc => ?_, ?_⟩
    · have hle : s1.heap.objs.size ≤ c := by
        simp only [List.mem_cons, List.not_mem_nil, or_false] at hc
        rcases hc with rfl | rfl | rfl | rfl | rfl
        · exact Nat.le_add_right _ _
        · exact Nat.le_add_right _ _
        · exact Nat.le_add_right _ _
        · exact Nat.le_refl _
        · exact Nat.le_add_right _ _
      exact I1.fpOk hle (I1.hok.fresh hle)
    · refine k _ F1 H1 g1 e1 fun i F2 H2 x1 x2 => ⟨fun d hd => ?_, fun hle => ⟨xs, ys, SqL.of (x2 _ _ (x1 _ _ h1)), SqL.of (x2 _ _ (x1 _ _ h2)), by rw [hA.len]; simpa using hle⟩⟩
      have hi : i < ds.length := by
        have := (List.getElem?_eq_some_iff.mp hd).1
        simpa using this
      have hdi : ds[i]? = some ds[i] := List.getElem?_eq_getElem hi
      have hei : es[i]? = some (es[i]'(by rw [hl]; exact hi)) := List.getElem?_eq_getElem (by rw [hl]; exact hi)
      rw [List.getElem?_map, List.getElem?_range hi] at hd
      cases hd
      obtain ⟨w, hw, dw⟩ := hA.get hdi
      obtain ⟨w2, hw2, dw2⟩ := hB.get hei
      have sa : SqL X.K H2 a xs := SqL.of (x2 _ _ (x1 _ _ h1))
      have sb : SqL X.K H2 b ys := SqL.of (x2 _ _ (x1 _ _ h2))
      refine ⟨⟨xs, ys, w, w2, sa, sb, hw, hw2⟩, fun y H3 hy => ?_⟩
      obtain ⟨T, ob, z, z2, rfl, hT, hd2, rfl, hz1, hz2⟩ := hy
      have q1 := hz1 xs sa
      have q2 := hz2 ys sb
      rw [hw] at q1
      rw [hw2] at q2
      cases q1; cases q2
      have gn : Gr F2 H2 (fun _ => False) (upd F2 T (.frz ob (.tup [w, w2]))) (upd H2 T (.frz ob (.tup [w, w2]))) (fun _ => False) := Gr.new x2 hT
      refine ⟨_, gn.ff, gn.fh, fun a o q => (gn.hh a o q).resolve_right id, fun a q => (gn.nw a q).imp id fun z => z.resolve_right id, .tup upd_same hd2 (.cons ?_ (.cons ?_ .nil))⟩
      · rw [List.getD_eq_getElem?_getD, hdi]
        exact (dw.up x1).up gn.ff
      · rw [List.getD_eq_getElem?_getD, hei]
        exact (dw2.up x1).up gn.ff
end
end DL
end

section
/-! gcd, factorial; great ints; x += c, x //= c. -/
namespace DL
open PySem PySem.Spec PyProof.Rows L2
section
variable {X : Cx} {Γ Γ1 Γ2 : Gm} {a b e : Expr} {es : List Expr} {ds : List PyData} {d : PyData} {pos pp : Pos} {i j : Int} {x : Str}
/-- f(e, ..), f a name of the module for a built-in function -/
theorem ee_cbG {id : String} {r : List V → Hp → VK → Prop} (hc : CallR X (.builtin id) r) (hm : X.mg x = some (.builtin id)) (ha : Ea X Γ (e :: es) ds Γ1) (hr : CD X.K r ds d) (hg : Gl X x := by rfl) (hdb : (x == ("__debug__" : Str)) = false := by decide)
    (he : starEach (e :: es) X.env = (false, eval e X.env) :: starEach es X.env := by rfl) (hpl : (backTo pos (starEach es X.env)).any (·.1) = false := by rfl) : Ee X Γ (.Call (.Name x pp) (e :: es) [] pos) d Γ1 :=
  pe_imp (pe_callBfun hc hg hm ha hdb he hpl) fun σ H Q h => tCB_D (ta := tNil) hr h
theorem ee_gcd (hm : X.mg x = some (.builtin "math.gcd")) (ha : Ea X Γ [a, b] [.int i, .int j] Γ1) (hg : Gl X x := by rfl) (hdb : (x == ("__debug__" : Str)) = false := by decide)
    (he : starEach [a, b] X.env = (false, eval a X.env) :: starEach [b] X.env := by rfl) (hpl : (backTo pos (starEach [b] X.env)).any (·.1) = false := by rfl) : Ee X Γ (.Call (.Name x pp) [a, b] [] pos) (.int ((Nat.gcd i.natAbs j.natAbs : Nat) : Int)) Γ1 :=
  ee_cbG cr_gcd hm ha (cd_here fun F H vs Q e hx => by
    obtain ⟨v, w, rfl, hv, hw⟩ := two_of hx
    cases hv; cases hw
    exact ⟨_, .int _, fun k => ⟨i, j, rfl, k⟩⟩) hg hdb he hpl
def rFact : List V → Hp → VK → Prop := fun vs H Q => ∃ n : Nat, vs = [.int (n : Int)] ∧ n ≤ 20000 ∧ (((Builtin.Math.factorialNat n : Nat) : Int)).natAbs.log2 < bitsLine ∧ Q (.int ((Builtin.Math.factorialNat n : Nat) : Int)) H
theorem cr_fact : CallR X (.builtin "math.factorial") rFact := by
  intro pins s σ H vs us Q I r h
  obtain ⟨n, rfl, h1, h2, q⟩ := h
  obtain ⟨u, rfl, ru⟩ := Vals.one r
  obtain ⟨t, rfl⟩ := ru
  have e : ((n : Int)).toNat = n := Int.toNat_natCast n
  exact PySem.W.mg_factorial (by unfold Builtin.Math.maxSsize; omega) (by omega) (by unfold Builtin.Math.manyFactors; omega) (by rw [e]; exact h2) ⟨.int _, H, I.tok _, ⟨_, rfl⟩, by rw [e]; exact q⟩
theorem ee_fact {n : Nat} (hm : X.mg x = some (.builtin "math.factorial")) (ha : Ea X Γ [a] [.int (n : Int)] Γ1) (h1 : n ≤ 20000) (h2 : (((Builtin.Math.factorialNat n : Nat) : Int)).natAbs.log2 < bitsLine) (hg : Gl X x := by rfl) (hdb : (x == ("__debug__" : Str)) = false := by decide)
    (he : starEach [a] X.env = (false, eval a X.env) :: starEach [] X.env := by rfl) : Ee X Γ (.Call (.Name x pp) [a] [] pos) (.int ((Builtin.Math.factorialNat n : Nat) : Int)) Γ1 :=
  ee_cbG cr_fact hm ha (cd_here fun F H vs Q e hx => by
    obtain ⟨v, rfl, hv⟩ := one_of hx
    cases hv
    exact ⟨_, .int _, fun k => ⟨n, rfl, h1, h2, k⟩⟩) hg hdb he rfl
theorem ee_fdivW (ha : Ee X Γ a (.int i) Γ1) (hb : Ee X Γ1 b (.int j) Γ2) (hc : CDivW i j) : Ee X Γ (.BinOp a .FloorDiv b pos) (.int (i / j)) Γ2 := ee_binR op_fdivW ha hb (rd_I hc fun _ => .int _)
theorem ee_shlW (ha : Ee X Γ a (.int i) Γ1) (hb : Ee X Γ1 b (.int j) Γ2) (hc : CShl i j) : Ee X Γ (.BinOp a .LShift b pos) (.int (i * 2 ^ j.toNat)) Γ2 := ee_binR op_shlW ha hb (rd_I hc fun _ => .int _)
theorem ee_mulW (ha : Ee X Γ a (.int i) Γ1) (hb : Ee X Γ1 b (.int j) Γ2) (hc : CMulW i j) : Ee X Γ (.BinOp a .Mult b pos) (.int (i * j)) Γ2 := ee_binR op_mulW ha hb (rd_I hc fun _ => .int _)
theorem ip_fdivW : PIp X .FloorDiv fun x y H Q => ∃ i j, x = .int i ∧ y = .int j ∧ CDivW i j ∧ Q (.int (i / j)) H := by
  intro pins s σ H x y v u Q I r1 r2 h
  obtain ⟨i, j, e1, e2, hc, q⟩ := h
  subst e1; subst e2
  obtain ⟨t, rfl⟩ := r1
  obtain ⟨t', rfl⟩ := r2
  have h1 : (0 : Int) < j := hc.1
  exact ifloordiv_int (by omega) (by rw [Int.fdiv_eq_ediv_of_nonneg i (by omega)]; exact ⟨.int _, H, I.tok _, ⟨_, rfl⟩, q⟩) (.inl (PyProof.noPylong_of_log2 hc.2))
/-- x += c -/
theorem es_augAdd (n : Nat) {px : Pos} (hN : X.N.Nodup) (h : Γ[n]? = some (some (.im (.int i)))) (he : Ee X Γ e (.int j) Γ1) (hi : X.N[n]? = some x := by rfl) (hx : Loc X.env.scope x := by first | exact Or.inl rfl | exact Or.inr rfl) (hl : Γ1[n]?.isSome = true := by rfl) (hf : X.fn x = true ∨ X.env.scope.names.lookup x = some .local := by first | exact .inl rfl | exact .inr rfl) :
    Es X Γ (.AugAssign (.Name x px) .Add e pos) (.nx (Γ1.set n (some (.im (.int (i + j)))))) :=
  ps_imp (ps_aug hN hi hx he ip_add hf) fun D σ H ⟨F, ev, xt, k⟩ => by
    obtain ⟨v, v1, v2⟩ := ev.ats n _ h
    cases v2
    refine ⟨_, v1, F, ev, xt, fun w F1 H1 g1 e1 dw => ?_⟩
    cases dw
    have hn : n < Γ1.length := by
      cases h : Γ1[n]? with
      | none => rw [h] at hl; cases hl
      | some z => exact (List.getElem?_eq_some_iff.mp h).1
    exact ⟨i, j, rfl, rfl, k (σ.set n (some (.int (i + j)))) F1 H1 g1.store (e1.store (.int _) hn)⟩
/-- x //= c -/
theorem es_augDiv (n : Nat) {px : Pos} (hN : X.N.Nodup) (h : Γ[n]? = some (some (.im (.int i)))) (he : Ee X Γ e (.int j) Γ1) (hc : CDivW i j) (hi : X.N[n]? = some x := by rfl) (hx : Loc X.env.scope x := by first | exact Or.inl rfl | exact Or.inr rfl) (hl : Γ1[n]?.isSome = true := by rfl) (hf : X.fn x = true ∨ X.env.scope.names.lookup x = some .local := by first | exact .inl rfl | exact .inr rfl) :
    Es X Γ (.AugAssign (.Name x px) .FloorDiv e pos) (.nx (Γ1.set n (some (.im (.int (i / j)))))) :=
  ps_imp (ps_aug hN hi hx he ip_fdivW hf) fun D σ H ⟨F, ev, xt, k⟩ => by
    obtain ⟨v, v1, v2⟩ := ev.ats n _ h
    cases v2
    refine ⟨_, v1, F, ev, xt, fun w F1 H1 g1 e1 dw => ?_⟩
    cases dw
    have hn : n < Γ1.length := by
      cases h : Γ1[n]? with
      | none => rw [h] at hl; cases hl
      | some z => exact (List.getElem?_eq_some_iff.mp h).1
    exact ⟨i, j, rfl, rfl, hc, k (σ.set n (some (.int (i / j)))) F1 H1 g1.store (e1.store (.int _) hn)⟩
end
end DL
end

section
/-! sorted(set(t)), t a tuple of whole numbers. -/
namespace DL
open PySem PySem.Spec PyProof.Rows L2
/-- the numbers of a row, ascending, each once -/
def uniqN (t : List Nat) : List Nat := (List.range (t.foldl max 0 + 1)).filter fun k => decide (k ∈ t)
theorem le_foldmax : ∀ (t : List Nat) (a x : Nat), (x ≤ a ∨ x ∈ t) → x ≤ t.foldl max a
  | [], a, x, h => h.elim id fun z => by cases z
  | y :: t, a, x, h => by
    rw [List.foldl_cons]
    refine le_foldmax t (max a y) x ?_
    rcases h with h | h
    · exact .inl (Nat.le_trans h (Nat.le_max_left _ _))
    · rcases List.mem_cons.mp h with e | e
      · exact .inl (by rw [e]; exact Nat.le_max_right _ _)
      · exact .inr e
theorem mem_uniqN {t : List Nat} {x : Nat} : x ∈ uniqN t ↔ x ∈ t := by
  unfold uniqN
  rw [List.mem_filter, List.mem_range, decide_eq_true_iff]
  exact ⟨fun h => h.2, fun h => ⟨Nat.lt_succ_of_le (le_foldmax t 0 x (.inr h)), h⟩⟩
theorem uniqN_asc (t : List Nat) : (uniqN t).Pairwise (· < ·) := List.pairwise_lt_range.sublist List.filter_sublist
theorem uniq_ints {ns : List Int} {t : List Nat} (h1 : ns.Pairwise (· < ·)) (h2 : ∀ k : Int, k ∈ ns ↔ k ∈ t.map fun n : Nat => (n : Int)) : ns = (uniqN t).map fun n : Nat => (n : Int) := by
  have h3 : ((uniqN t).map fun n : Nat => (n : Int)).Pairwise (· < ·) := List.pairwise_map.mpr ((uniqN_asc t).imp fun {a b} h => by omega)
  have n1 : ns.Nodup := h1.imp fun {a b} h e => by omega
  have n3 : ((uniqN t).map fun n : Nat => (n : Int)).Nodup := h3.imp fun {a b} h e => by omega
  refine List.Perm.eq_of_pairwise (le := fun a b : Int => a < b) (fun a b _ _ x y => by omega) h1 h3 ((List.perm_ext_iff_of_nodup n1 n3).mpr fun k => ?_)
  rw [h2, List.mem_map, List.mem_map]
  constructor
  · rintro ⟨n, hn, rfl⟩; exact ⟨n, mem_uniqN.mpr hn, rfl⟩
  · rintro ⟨n, hn, rfl⟩; exact ⟨n, mem_uniqN.mp hn, rfl⟩
section
variable {X : Cx} {Γ Γ1 : Gm} {e : Expr} {pos p1 p2 pos2 : Pos}
def rSetT (K : PySem.W.Frag) (w : World) : List V → Hp → VK → Prop := fun vs H Q => ∃ (l : Addr) (ns : List Int), vs = [.ref l] ∧ SqT K H l (ns.map V.int) ∧ ns.length ≤ 1000 ∧ ∀ p c, H p = none → c ≤ ns.length → Q (.ref p) (upd H p (SetO w p (fun j => decide (j ∈ ns)) c))
theorem cr_setT (hc : X.calm = true) : CallR X (.type "set") (rSetT X.K X.w) := by
  intro pins s σ H vs us Q I r h
  obtain ⟨l, ns, rfl, hq, hl, q⟩ := h
  rw [Vals.ref1 r]
  obtain ⟨its, rv, pt, hz⟩ := I.tuple hq
  have hi : IntsAre its.toArray.toList ns := ints_of_vals rv
  refine call_set_tupI ns (I.ok.hd hc) (show s.heap.IsTuple l its.toArray from pt) hi (by unfold scanBound; omega) fun h' tk c R1 hcn k => ?_
  exact ⟨.ref _, upd H s.heap.objs.size (SetO X.w s.heap.objs.size (fun j => decide (j ∈ ns)) c), I.laid (t' := tk) (fun b u e => k b u e) (Nat.le_refl _) (setO_new R1), rfl, q _ _ (I.hok.fresh (Nat.le_refl _)) hcn⟩
theorem en_sortSet {t : List Nat} (hc : X.calm = true) (hm1 : X.mg "sorted" = none) (hm2 : X.mg "set" = none) (h : Ee X Γ e (.tuple (t.map iN)) Γ1) (hl : t.length < 64) (hg1 : Gl X "sorted" := by rfl) (hg2 : Gl X "set" := by rfl) (hs : starEach [e] X.env = (false, eval e X.env) :: starEach [] X.env := by rfl)
    (hs2 : starEach [.Call (.Name "set" p2) [e] [] pos2] X.env = (false, eval (.Call (.Name "set" p2) [e] [] pos2) X.env) :: starEach [] X.env := by rfl) :
    En X Γ (.Call (.Name "sorted" p1) [.Call (.Name "set" p2) [e] [] pos2] [] pos) ((uniqN t).map iN) Γ1 :=
  pe_imp (pe_callB (cr_sortedSet hc) hg1 hm1 (by decide +kernel) (pa_cons (pe_callTy (cr_setT hc) hg2 hm2 PyProof.Rows.boot_set (pa_cons h pa_nil hs) (by decide) (by decide) hs rfl) pa_nil hs2) (by decide) (by decide) hs2 rfl) fun σ H Q ⟨F, ev, x, k⟩ => by
    refine ⟨F, ev, x, fun v F1 H1 g1 e1 dv => ?_⟩
    cases dv with
    | @tup a ob xs _ h1 h0 hA =>
      have hx : xs = (t.map fun n : Nat => (n : Int)).map V.int := by
        have e : t.map iN = (t.map fun n : Nat => (n : Int)).map PyData.int := by rw [List.map_map]; rfl
        rw [e] at hA
        exact hA.ints
      subst hx
      refine ⟨a, t.map fun n : Nat => (n : Int), rfl, .inl (.inr ⟨ob, g1.fh _ _ h1⟩), by rw [List.length_map]; omega, fun p c hp hcn => ?_⟩
      rw [List.length_map] at hcn
      refine ⟨p, _, c, rfl, upd_same, by omega, fun ns q o1 o2 o3 hq => ?_⟩
      have hns := uniq_ints (t := t) o1 fun j => by rw [o2, decide_eq_true_iff]
      subst hns
      have g2 := g1.trans (Gr.newH (A := Own σ Γ1) (o := SetO X.w p (fun j => decide (j ∈ t.map fun n : Nat => (n : Int))) c) g1.fh hp)
      refine tN_new (ds := (uniqN t).map iN) g2 (e1.newH hp) ?_ k q hq
      have dI : ∀ (K : PySem.W.Frag) (F : Hp) (l : List Nat), DdA K F ((l.map fun n : Nat => (n : Int)).map V.int) (l.map iN) := fun K F l => by
        induction l with
        | nil => exact .nil
        | cons y l ih => exact .cons (.int _) ih
      exact dI _ _ _
end
end DL
end

section
/-! t[:i] of a tuple; t * 0. -/
namespace DL
open PySem PySem.Spec PyProof.Rows L2
/-- a tuple taken no times is a new empty one -/
theorem none_new (l : Addr) (its : Array Value) (n : Nat) (dd : Option Addr) (sl : Array (Option Value)) (u : Tok) (hne : its.isEmpty = false) :
    Meets (Builtin.«tuple.__mul__» ⟨[.ref l, .int 0 u], []⟩) (fun _ R s => s.heap.get? l = some { cls := .type "tuple", dict := dd, data := .seq its n, slots := sl } ∧
      R (.ok (.ret (Value.ref s.heap.objs.size))) { s with heap := s.heap.push { cls := Value.type "tuple", data := Data.seq #[] }, toks := s.toks }) :=
  .of_wp fun prog w A R s0 h0 => by
    obtain ⟨hp0, g0, d0, tk0, os0⟩ := s0
    obtain ⟨hl0, hR⟩ := h0
    have ix := AutoSeq1.idx_int
    have c1 : (its.isEmpty || (0 : Int) == 1) = false := by rw [hne]; rfl
    have c2 : (decide ((0 : Int) ≤ 0) || its.isEmpty) = true := by simp
    wp_walk using wpAny_loadPart' hl0
    repeat (first
      | (refine wpAny_ite_false (by decide) ?_; wp_walk using wpAny_loadPart' hl0)
      | (refine wpAny_ite_false (decide_eq_false (by rw [c1]; exact Bool.false_ne_true)) ?_; wp_walk using wpAny_loadPart' hl0)
      | (refine wpAny_ite_true (by simp) ?_; wp_walk using wpAny_loadPart' hl0))
    exact ⟨_, rfl, hR⟩
def rSlTF (K : PySem.W.Frag) : V → Option Int → Option Int → Hp → VK → Prop := fun x lo hi H Q => ∃ a xs, x = .ref a ∧ SqT K H a xs ∧
  ¬ (HT.sIx xs.length 0 lo = 0 ∧ HT.sIx xs.length xs.length hi = xs.length) ∧ TupNew H (cutV xs lo hi) Q
section
variable {X : Cx} {Γ Γ1 Γ2 : Gm} {a b : Expr} {ds : List PyData} {pos p2 : Pos}
theorem sl_tupF : SlR X (rSlTF X.K) := by
  intro pins s σ H x v vl vu lo hi sl Q I rx hs pl pu h
  obtain ⟨a, xs, rfl, hx, hw, q⟩ := h
  cases rx
  obtain ⟨its, r, ht, hz⟩ := I.tuple hx
  have hlen : its.toArray.size = xs.length := by rw [List.size_toArray]; exact r.length.symm
  refine ⟨"tuple", _, PyProof.Rows.slot_tuple_getitem.lookup, ht.typeIs, ?_⟩
  refine HT.getItem_tuple_cut ht hs pl pu (by rw [hlen]; exact hw) ?_ (by rw [hlen]; exact hz)
  rw [hlen]
  exact tup_end I ((r.drop (HT.sIx xs.length 0 lo)).take (HT.sIx xs.length xs.length hi - HT.sIx xs.length 0 lo)) (Nat.le_trans (cutV_length xs lo hi) hz) q
/-- t[:i], i smaller than its length -/
theorem ee_sliceHiT {i : Nat} (ha : Ee X Γ a (.tuple ds) Γ1) (hb : Ee X Γ1 b (.int (i : Int)) Γ1) (hi : i < ds.length) : Ee X Γ (.Subscript a (.Slice none (some b) none p2) pos) (.tuple (ds.take i)) Γ1 :=
  pe_imp (pe_slice sl_tupF ha po_none (po_some hb)) fun σ H Q ⟨F, ev, x, k⟩ => ⟨F, ev, x, fun v F1 H1 g1 e1 dv => by
    show tE X.K Γ1 (.int i) Γ1 σ H1 _
    refine ⟨F1, e1, g1.fh, fun w F2 H2 g2 e2 dw => ?_⟩
    cases dw
    obtain ⟨p1, ob1, xs, rfl, hh, _, s1, a1⟩ := (dv.up g2.ff).tupAt g2.fh
    have hl := a1.len
    have e0 : HT.sIx xs.length 0 none = 0 := rfl
    have e1' : HT.sIx xs.length xs.length (some (i : Int)) = i := by
      have hn : ¬ ((i : Int) < 0) := by omega
      unfold HT.sIx
      simp [hn]
      omega
    refine ⟨(i : Int), rfl, p1, xs, rfl, s1, fun z => ?_, ?_⟩
    · have := z.2
      rw [e1'] at this
      omega
    · have hd : DdA X.K F2 (cutV xs none (some (i : Int))) (ds.take i) := by
        unfold cutV
        rw [e0, e1', List.drop_zero, Nat.sub_zero]
        exact a1.take i
      exact tupNew_of (g1.trans g2) e2 hd k⟩
def rZero (K : PySem.W.Frag) : R2 := fun x y H Q => ∃ l xs, x = .ref l ∧ y = .int 0 ∧ SqT K H l xs ∧ xs ≠ [] ∧ TupNew H [] Q
theorem op_zero : OpR X (binaryOp .Mult) (rZero X.K) := by
  intro pins s0 σ0 H0 x y v u Q J rx ry h
  obtain ⟨l, xs, rfl, rfl, hT, hne, q⟩ := h
  cases rx
  obtain ⟨tk, rfl⟩ := ry
  obtain ⟨its, r, ⟨⟨cl, dd, da, sl⟩, ho, hc, n, hd⟩, _⟩ := J.tuple hT
  simp only at hc hd
  subst hc hd
  have len : its.length = xs.length := r.length.symm
  have nn : its ≠ [] := fun e => hne (List.eq_nil_of_length_eq_zero (by rw [← len, e]; rfl))
  have emp : its.toArray.isEmpty = false := by
    cases its with
    | nil => exact absurd rfl nn
    | cons _ _ => rfl
  refine wpAny_binaryOp_repeat_ref (T := "tuple") (U := "int") (by decide) ⟨_, ho, rfl⟩ (fun s' => typeIs_int s' 0 tk) noFill_tuple_mul F.fills_int_mul F.slot_int_rmul repeat_tuple F.slot_int_index.lookup
    (call_meets F.slot_int_rmul (typeIs_int s0 0 tk) F.entry_int_rmul (F.args_int_rmul_2 _ _) (int_rmul_tuple 0 tk l its.toArray n dd sl)
      ⟨ho, rfl, ⟨_, ho, rfl⟩, call_meets F.slot_tuple_mul ⟨_, ho, rfl⟩ F.entry_tuple_mul (F.args_tuple_mul_2 _ _) (none_new l its.toArray n dd sl tk emp) ⟨ho, ?_⟩⟩)
  exact tup_end (us := []) J .nil (Nat.zero_le _) q
theorem ee_zeroT (ha : Ee X Γ a (.tuple ds) Γ1) (hb : Ee X Γ1 b (.int 0) Γ2) (h0 : ds ≠ []) : Ee X Γ (.BinOp a .Mult b pos) (.tuple []) Γ2 :=
  pe_imp (pe_op op_zero ha hb) fun σ H Q ⟨F, ev, x, k⟩ => ⟨F, ev, x, fun v F1 H1 g1 e1 dv => ⟨F1, e1, g1.fh, fun w F2 H2 g2 e2 dw => by
    have dv2 := dv.up g2.ff
    obtain ⟨p1, ob1, xs, rfl, hh, _, s1, a1⟩ := dv2.tupAt g2.fh
    cases dw
    exact ⟨p1, xs, rfl, rfl, s1, fun z => h0 ((dda_nil_iff a1).mp z), tupNew_of (g1.trans g2) e2 .nil k⟩⟩⟩
end
end DL
end

section
/-! range(a, 0, -1). -/
namespace DL
open PySem PySem.Spec PyProof.Rows L2
theorem walk_stp {K : PySem.W.Frag} {F : Hp} (lo c : Int) (n : Nat) : WalkD K (Itc lo c n) F ((List.range n).map fun i : Nat => PyData.int (lo + (i : Nat) * c)) := fun i F2 H2 x1 x2 => by
  refine ⟨fun d hd => ?_, fun hle => by rw [List.length_map, List.length_range] at hle; exact hle⟩
  rw [List.getElem?_map] at hd
  by_cases h : i < n
  · rw [List.getElem?_range h] at hd
    cases hd
    refine ⟨h, fun y H3 ⟨e3, hy⟩ => ?_⟩
    subst e3 hy
    exact ⟨F2, Ext.refl _, x2, Ext.refl _, fun a h => .inl h, .int _⟩
  · rw [List.getElem?_eq_none (by rw [List.length_range]; omega)] at hd; cases hd
theorem three_of {K : PySem.W.Frag} {F : Hp} {vs : List V} {d1 d2 d3 : PyData} (h : DdA K F vs [d1, d2, d3]) : ∃ u v w, vs = [u, v, w] ∧ Dd K F u d1 ∧ Dd K F v d2 ∧ Dd K F w d3 := by
  cases h with
  | cons h1 h =>
    cases h with
    | cons h2 h =>
      cases h with
      | cons h3 h => cases h; exact ⟨_, _, _, rfl, h1, h2, h3⟩
section
variable {X : Cx} {Γ Γ1 : Gm} {a b c : Expr} {pos : Pos}
/-- range(n, 0, -1): n, n - 1, .., 1 -/
theorem ei_rangeDn {tg : Expr} {p1 : Pos} {n : Nat} (hm : X.mg "range" = none) (h : Ea X Γ [a, b, c] [.int (n : Int), .int 0, .int (-1)] Γ1) (hn : n ≤ 1000000) (hg : Gl X "range" := by rfl)
    (hs : starEach [a, b, c] X.env = (false, eval a X.env) :: starEach [b, c] X.env := by rfl) (hpl : (backTo pos (starEach [b, c] X.env)).any (·.1) = false := by rfl) :
    Ei X Γ tg (.Call (.Name "range" p1) [a, b, c] [] pos) ((List.range n).map fun i => iN (n - i)) Γ1 := by
  have h0 : Ei X Γ tg (.Call (.Name "range" p1) [a, b, c] [] pos) ((List.range n).map fun i : Nat => PyData.int ((n : Int) + (i : Nat) * (-1))) Γ1 := pi_imp (pi_range3 hg hm h hs hpl) fun σ H R ⟨F, ev, x, k⟩ => ⟨F, ev, x, fun vs F1 H1 g1 e1 dv => by
    obtain ⟨u, v, w, rfl, h1, h2, h3⟩ := three_of dv
    cases h1; cases h2; cases h3
    have hR : RgC (n : Int) 0 (-1) n := by
      have := RgC.neg (i := (n : Int)) (j := 0) (by omega) (by omega) (by omega) (by omega)
      rw [show ((n : Int) - 0).toNat = n by omega] at this
      exact this
    exact ⟨n, 0, -1, n, rfl, hR, k _ F1 H1 g1 e1 (walk_stp (n : Int) (-1) n)⟩⟩
  exact ei_is h0 (List.map_congr_left fun i hi => by
    have := List.mem_range.mp hi
    show PyData.int ((n : Int) + (i : Nat) * (-1)) = PyData.int ((n - i : Nat) : Int)
    congr 1; omega)
end
end DL
end

section
/-! x < y of data; max of a list. -/
namespace DL
open PySem PySem.Spec PyProof.Rows L2
open PySem.W (AlikeAll minD AllAlike Sortable dataLe EachIs)
section
variable {X : Cx} {Γ Γ1 Γ2 Γ3 : Gm} {a b c e : Expr} {es rest : List Expr} {d d1 d2 d3 : PyData} {ds es' : List PyData} {pos pp : Pos} {p q : Bool} {i j k : Int}
def rLtDd (K : PySem.W.Frag) : R2 := fun x y H Q => ∃ d e, Dp K H x d ∧ Dp K H y e ∧ PySem.W.alike d e = true ∧ d ≠ .none ∧ d.depth ≤ 60 ∧ Q (.bl (PySem.W.dataLt d e)) H
theorem op_ltDd {k : Nat} (hr : Room k X.A) : OpR X (compareOp .Lt) (rLtDd X.K) := by
  intro pins s σ H x y v u Q I rx ry h
  obtain ⟨d, e, hd, he, ha, hn, hdep, q⟩ := h
  obtain ⟨as, r1⟩ := Dp.reads I d x v hd rx
  obtain ⟨bs, r2⟩ := Dp.reads I e y u he ry
  refine PySem.W.lt_data r1 r2 ha hn ?_ ⟨.bl _, H, I, rfl, q⟩
  have := hr.un
  have : min d.depth e.depth ≤ d.depth := Nat.min_le_left _ _
  omega
theorem ee_ltD {k : Nat} (hr : Room k X.A) (ha : Ee X Γ a d1 Γ1) (hb : Ee X Γ1 b d2 Γ2) (h1 : d1.canLay0 = true) (h2 : d2.canLay0 = true) (hal : PySem.W.alike d1 d2 = true) (hn : d1 ≠ .none) (hdep : d1.depth ≤ 60) : Ee X Γ (.Compare a [.Lt] [b] pos) (.bool (PySem.W.dataLt d1 d2)) Γ2 :=
  ee_cmpR (op_ltDd hr) ha hb (rd_here fun F H x y Q e hx hy => ⟨.bl _, .bl _, fun q => ⟨d1, d2, Dd.dp e _ _ h1 hx, Dd.dp e _ _ h2 hy, hal, hn, hdep, q⟩⟩) (nomark _)
/-- max(a list of alike data) -/
def rMaxD (K : PySem.W.Frag) : List V → Hp → VK → Prop := fun xs H Q => ∃ (p : Addr) (ys : List V) (x : PyData) (ds : List PyData), xs = [.ref p] ∧ SqL K H p ys ∧ DpAll K H ys (x :: ds) ∧ AlikeAll (x :: ds) ∧ PyData.canLayAll0 (x :: ds) = true ∧ PyData.depthAll (x :: ds) ≤ 60 ∧
  ∀ (i : Nat) (y : V), ys[i]? = some y → (x :: ds)[i]? = some (PySem.W.maxD x ds) → Q y H
theorem call_maxD {kk : Nat} (hr : Room kk X.A) (hc : X.calm = true) : CallR X (.builtin "max") (rMaxD X.K) := by
  intro pins s σ H xs us Q I r h
  obtain ⟨p, ys, x, ds, rfl, hs, hd, ha, hl, hdep, q⟩ := h
  obtain ⟨u, rfl, rx⟩ := vals1 r
  cases rx
  obtain ⟨its, rv, pl, hz⟩ := I.list hs
  obtain ⟨as, hR⟩ := Dp.readsAll I (x :: ds) ys its hd rv
  refine PySem.W.max_list_data (I.ok.hd hc) pl.isList hR ha (by have := hr.un; omega) fun i v h' tk bs hv hrd hk => ?_
  have hvi : its[i]? = some v := by rw [← Array.getElem?_toList] at hv; exact hv
  have hlen := rv.length
  have hlt : i < ys.length := by
    rw [hlen]; exact (List.getElem?_eq_some_iff.mp hvi).1
  obtain ⟨w, hw, rw'⟩ := rv.get (List.getElem?_eq_getElem hlt)
  rw [hvi] at hw
  cases hw
  have hdl : ∀ {ys : List V} {ds : List PyData}, DpAll X.K H ys ds → ∀ (i : Nat) (y : V), ys[i]? = some y → ∃ d, ds[i]? = some d ∧ Dp X.K H y d := by
    intro ys ds h
    induction ds generalizing ys with
    | nil => intro i y hy; cases h; simp at hy
    | cons d ds ih =>
      intro i y hy
      cases h with
      | cons h1 h2 =>
        cases i with
        | zero => cases hy; exact ⟨d, rfl, h1⟩
        | succ i => exact ih h2 i y hy
  obtain ⟨d, hdi, hdd⟩ := hdl hd i _ (List.getElem?_eq_getElem hlt)
  have I2 : Inv X pins σ H { s with heap := h', toks := tk } := I.kept hk
  obtain ⟨cs, hrd2⟩ := Dp.reads I2 d _ _ hdd rw'
  have lay : d.canLay0 = true := layAll_mem hl (List.mem_of_getElem? hdi)
  have e : d = PySem.W.maxD x ds := PySem.SeqAt.Reads.unique d _ _ _ _ lay hrd2 hrd
  exact ⟨_, H, I2, rw', q i _ (List.getElem?_eq_getElem hlt) (by rw [hdi, e])⟩
theorem ee_maxD {kk : Nat} {x : PyData} (hr : Room kk X.A) (hc : X.calm = true) (hm : X.mg "max" = none) (ha : Ea X Γ [e] [.list (x :: ds)] Γ1) (hal : AlikeAll (x :: ds)) (hl : PyData.canLayAll0 (x :: ds) = true) (hdep : PyData.depthAll (x :: ds) ≤ 60) (hg : Gl X "max" := by rfl)
    (he : starEach [e] X.env = (false, eval e X.env) :: starEach [] X.env := by rfl) : Ee X Γ (.Call (.Name "max" pp) [e] [] pos) (PySem.W.maxD x ds) Γ1 :=
  ee_cb (call_maxD hr hc) hm (by decide +kernel) ha (fun F H vs Q e hx q => by
    obtain ⟨v, rfl, hv⟩ := one_of hx
    obtain ⟨p, xs, rfl, _, hS, hA⟩ := hv.lstAt e
    exact ⟨p, xs, x, ds, rfl, hS, DdA.dp e _ _ hl hA, hal, hl, hdep, fun i y h1 h2 => q y F H (Ext.refl F) e (Ext.refl H) (fun a h => .inl h) (dda_at hA h1 h2)⟩) hg (by decide) (by decide) he rfl

end
end DL
end

section
/-! {k: v for x in xs}, keys tuples of ints. -/
namespace DL
open PySem PySem.Spec PyProof.Rows L2
def tMapC (wi : TI) (g : TG) (tk tv : TE) (vs : List Nat) : TE := fun σ H Q => wi σ H fun J H1 => ∀ D, H1 D = none → ∃ W : Nat → Nat → Hp → Prop, (∃ m, W 0 m (upd H1 D (dctO D []))) ∧
  ∀ i m H, W i m H → (J.stop i H ∧ Q (.ref D) H) ∨ (J.go i H ∧ ∃ Nx : Hp → Prop, (∀ H', Nx H' → ∃ m', m' < m ∧ W (i + 1) m' H') ∧
    ∀ x H', J.yld i H x H' → g x (wipe σ vs) H' fun σ2 H2 => wipe σ2 vs = wipe σ vs ∧ tk σ2 H2 fun y H4 => tv σ2 H4 fun z H5 =>
      ∃ es ks b c, y = .ref b ∧ z = .ref c ∧ H5 D = some (dctO D es) ∧ Kys H5 es ∧ KyAt H5 b ks ∧ ks ∉ es.map (·.1) ∧ es.length < sizeLine ∧ Nx (upd H5 D (dctO D (es ++ [(ks, b, c)]))))
section
variable {X : Cx}
abbrev InBlk (X : Cx) (scope : Scope) (p : Cx → Prop) : Prop := ∀ (s : Shared) (H : Hp) (C : Addr) (cl : List (Str × Addr)) (fp : List Addr), p (X.blk s H scope (compEnvC scope cl C X.env) fp)
theorem pe_mapC {kx vx tg iter : Expr} {scope : Scope} {own : List (Str × Nat)} {pos : Pos} {wi : TI} {g : TG} {tk tv : TE} (hc : X.calm = true) (hu : X.A.units < cLine) (hN : X.N.Nodup) (hi : PI X tg iter wi) (ok : BlkOk X.N X.env.scope scope own)
    (hg : InBlk X scope fun Y => PG Y tg g) (hk : InBlk X scope fun Y => PE Y kx tk) (hv : InBlk X scope fun Y => PE Y vx tv) (hs : ∀ x, foldedSetIterable iter X.env x = pure x := by intro _; rfl) :
    PE X (.DictComp kx vx [⟨tg, iter, [], 0⟩] scope pos) (tMapC wi g tk tv (own.map (·.2))) := by
  refine ⟨fun pins s σ H Q I h => ?_⟩
  rw [arm_eval_DictComp]
  have cells : ∀ y ∈ scope.names, y.2 = .free → ∃ c, X.env.cells.lookup y.1 = some c := fun y hy e => (ok.free y hy e).elim (fun z => I.ok.has _ (.inl z)) fun z => I.ok.has _ (.inr z)
  refine wpAny_comprehension_free rfl hs (closure_ok cells) ok.kind (fun y hy e => by rw [ok.uniq y hy, e]) (thn (hi.run pins s σ H _ I h) fun xv s1 hx => thn hx fun itv s2 h2 => ?_)
  obtain ⟨it, fp, tn, J, H2, e, I2, T, st2, f2, q⟩ := h2
  subst e
  refine wpAny_newObj_type (newEnv_comp ?_)
  obtain ⟨D, hD⟩ : ∃ D, D = s2.heap.objs.size := ⟨_, rfl⟩
  obtain ⟨W, ⟨m0, w0⟩, turn⟩ := q D (I2.hok.fresh (Nat.le_of_eq hD.symm))
  obtain ⟨s3, h3⟩ : ∃ s3 : Shared, s3 = { s2 with heap := s2.heap.push { cls := .type "dict", data := .dict #[] } } := ⟨_, rfl⟩
  have hh3 : s3.heap = s2.heap.push { cls := .type "dict", data := .dict #[] } := by rw [h3]
  have I3 : Inv X pins σ (upd H2 D (dctO D [])) s3 := by
    subst h3 hD
    exact I2.laid (t' := s2.toks) (fun b o z => Heap.get?_push_of_some _ z) (Nat.le_refl _) (dct_ok (dct_new s2.heap I2.big))
  have f3 : ∀ b ∈ fp, FpOk X pins (upd H2 D (dctO D [])) b ∧ b < s3.heap.objs.size := fun b hb => by
    obtain ⟨o, z, _⟩ := T.obj _ _ st2 b hb
    have lt := Heap.lt_size z
    exact ⟨⟨by rw [upd_ne (by rw [hD]; exact Nat.ne_of_lt lt)]; exact (f2 b hb).1, (f2 b hb).2⟩, by rw [hh3, Heap.size_push]; exact Nat.lt_succ_of_lt lt⟩
  have st3 : tn 0 s3.heap := T.keep _ _ _ st2 fun b _ o z => by rw [hh3]; exact Heap.get?_push_of_some _ z
  have I4 := block_start I3 ok hN f3
  have pg := hg s3 (upd H2 D (dctO D [])) s3.heap.objs.size (cellsFrom (s3.heap.objs.size + 1) scope.names (cloFrom X.env.cells scope.names [])) fp
  have pk := hk s3 (upd H2 D (dctO D [])) s3.heap.objs.size (cellsFrom (s3.heap.objs.size + 1) scope.names (cloFrom X.env.cells scope.names [])) fp
  have pv := hv s3 (upd H2 D (dctO D [])) s3.heap.objs.size (cellsFrom (s3.heap.objs.size + 1) scope.names (cloFrom X.env.cells scope.names [])) fp
  have nfp : ∀ b ∈ fp, (upd H2 D (dctO D [])) b = none := fun b hb => (f3 b hb).1.1
  obtain ⟨ce, hce⟩ : ∃ ce, ce = compEnvC scope (cellsFrom (s3.heap.objs.size + 1) scope.names (cloFrom X.env.cells scope.names [])) s3.heap.objs.size X.env := ⟨_, rfl⟩
  have cL : ce.locals = s3.heap.objs.size := by rw [hce]; rfl
  obtain ⟨s4, hs4⟩ : ∃ s4 : Shared, s4 = { s3 with heap := pushCells (s3.heap.push { cls := .type "dict", data := .dict #[] }) scope.names } := ⟨_, rfl⟩
  rw [← hs4, ← hce] at I4
  rw [← hce] at pg pk pv
  have goal : codeAny (model X.prog X.w) X.A (.compStart (.DictComp kx vx [⟨tg, iter, [], 0⟩] scope pos) 0 (.ref it) (.ref D) ce) (compPost (model X.prog X.w) X.A X.xe none (EP X pins σ Q) (.ref D) s3.heap.objs.size) s4 := by
    have st4 : tn 0 s4.heap := T.keep _ _ _ st3 fun b _ o z => by rw [hs4]; exact pushCells_keeps _ _ _ _ (Heap.get?_push_of_some _ z)
    clear hs4
    obtain ⟨H3, hH3⟩ : ∃ H3, H3 = upd H2 D (dctO D []) := ⟨_, rfl⟩
    rw [← hH3] at I3 I4 pg pk pv w0 nfp f3
    have stat : ∀ {σ' : L2.St} {H' : Hp} {s' : Shared}, Inv (X.blk s3 H3 scope ce fp) [] σ' H' s' → (∀ b ∈ fp, H' b = none) → ∀ b ∈ fp, FpOk (X.blk s3 H3 scope ce fp) [] H' b := fun {σ' H' s'} I' hn b hb =>
      ⟨hn b hb, (I'.ok.exf b hb).1, I'.ok.exfs b hb, .inl hb, fun x c z => (I'.ok.exf b hb).2 x c z, fun p hp => by cases (show p ∈ ([] : List (Addr × Obj)) from hp)⟩
    have loop : codeAny (model X.prog X.w) X.A (.compLoop (.DictComp kx vx [⟨tg, iter, [], 0⟩] scope pos) 0 (.ref it) (.ref D) ce) (compPost (model X.prog X.w) X.A X.xe none (EP X pins σ Q) (.ref D) s3.heap.objs.size) s4 := by
      refine compLoop_anyD (fun n s' => ∃ i H', Inv (X.blk s3 H3 scope ce fp) [] (wipe σ (own.map (·.2))) H' s' ∧ tn i s'.heap ∧ (∀ b ∈ fp, H' b = none) ∧ W i n H') ?_ m0 ⟨0, H3, I4, st4, nfp, w0⟩
      rintro n s5 ⟨i, H5, I5, st5, n5, w5⟩
      rcases turn i n H5 w5 with ⟨stop, qq⟩ | ⟨go, Nx, hNx, step⟩
      · refine thnF (T.done (X.blk s3 H3 scope ce fp) rfl rfl rfl hc i [] s5 _ H5 (fun _ _ => False) I5 (stat I5 n5) st5 stop) fun r s6 ⟨hr, I6⟩ => ?_
        subst hr
        have I7 : Inv X pins σ H5 s6 := I3.call' (ch := fp) I6.os I6.base I6.hok I6.bare fun b hb => ⟨(f3 b hb).1.2.2.2.1, (f3 b hb).1.2.1, (f3 b hb).1.2.2.2.2.1, (f3 b hb).1.2.2.2.2.2⟩
        have nC : H5 s3.heap.objs.size = none := cL ▸ (show H5 ce.locals = none from I6.free)
        obtain ⟨m, hn, _⟩ := I6.loc
        have hn : s6.heap.Ns s3.heap.objs.size m := cL ▸ (show s6.heap.Ns ce.locals m from hn)
        refine ⟨m, hn, fun h'' sb => ?_⟩
        obtain ⟨g0, g1, g2, g3, g4, g5⟩ := I3.fpOk (Nat.le_refl _) nC
        exact ⟨.ref D, H5, I7.turned (t' := s6.toks) (fun b o hb z => (sb.2 b hb).trans z) g0 g1 g3 g4 g5, rfl, qq⟩
      · refine thnF (T.item (X.blk s3 H3 scope ce fp) rfl rfl rfl hc i [] s5 _ H5 (fun _ _ => False) I5 (stat I5 n5) st5 go) fun r s6 ⟨u, hr, h6⟩ => ?_
        subst hr
        refine thnF h6 fun _ s7 ⟨x, H7, I7, r7, y7, st7, n7⟩ => ?_
        refine thnF (pg.run _ s7 _ H7 x u _ (I7.pinned (stat I7 n7) (T.obj _ _ st7)) r7 (step x H7 y7)) fun _ s8 ⟨σ8, H8, I8, hw8, q8⟩ => ?_
        refine thnF ((pts_nil (X := X.blk s3 H3 scope ce fp)).run _ s8 σ8 H8 (fun b K' => b = true ∧ K' = H8) I8 ⟨rfl, rfl⟩) fun b s9 ⟨H9, I9, hb9, hh9⟩ => ?_
        subst hb9 hh9
        have fin : ∀ {s' : Shared} {H' : Hp}, Inv (X.blk s3 H3 scope ce fp) ([] ++ pinsAt fp s7.heap) σ8 H' s' → Nx H' → ∃ m, m < n ∧ ∃ i H', Inv (X.blk s3 H3 scope ce fp) [] (wipe σ (own.map (·.2))) H' s' ∧ tn i s'.heap ∧ (∀ b ∈ fp, H' b = none) ∧ W i m H' := fun {s' H'} I' nx => by
          obtain ⟨m', hm, w'⟩ := hNx H' nx
          have pin : ∀ b ∈ fp, ∀ o, s7.heap.get? b = some o → s'.heap.get? b = some o ∧ H' b = none := fun b hb o z =>
            have k := I'.pin (b, o) (List.mem_append_right _ (List.mem_append_right _ (mem_pinsAt hb z)))
            ⟨k.1, k.2.1⟩
          exact ⟨m', hm, i + 1, H', (I'.unpinned (pins := [])).weak (by rw [← hw8, wipe_length]) (fun j v z => (wipe_some (vs := own.map (·.2)) (by rw [hw8]; exact z)).1), T.keep _ _ _ st7 fun b hb o z => (pin b hb o z).1,
            fun b hb => by obtain ⟨o, z, _⟩ := T.obj _ _ st7 b hb; exact (pin b hb o z).2, w'⟩
        rw [if_pos rfl]
        refine thnF (pk.run _ s9 σ8 H9 _ I9 q8) fun z s10 ⟨yk, H10, I10, r10, q10⟩ => thnF (pv.run _ s10 σ8 H10 _ I10 q10) fun z2 s11 ⟨yv, H11, I11, r11, es, ks, b, c, e1, e2, hD11, hK, k11, hno, hz, nx⟩ => ?_
        subst e1 e2
        obtain rfl : z = Value.ref b := r10
        obtain rfl : z2 = Value.ref c := r11
        exact dct_set (X := X.blk s3 H3 scope ce fp) hu I11 hD11 hK k11 hno hz fun s12 I12 => fin I12 nx
    exact codeAny_compStart_dict loop (T.self X.A 0 _ _ _ st4 loop)
  subst hs4 hce h3 hD
  exact goal
end
end DL
end

section
/-! Dicts from pairs to pairs, as data. -/
namespace DL
open PySem PySem.Spec PyProof.Rows L2
abbrev twoD (p : Int × Int) : PyData := .tuple [.int p.1, .int p.2]
abbrev mapD (kv : List ((Int × Int) × (Int × Int))) : PyData := .dict ((PyData.none, PyData.bool true) :: kv.map fun p => (PyData.tuple [.int p.1.1, .int p.1.2], PyData.tuple [.int p.2.1, .int p.2.2]))
theorem paired_mem {α β : Type} {R : α → β → Prop} : ∀ {l : List α} {m : List β} {y : β}, Paired R l m → y ∈ m → ∃ x ∈ l, R x y
  | _, _, y, .nil, h => by cases h
  | _, _, y, .cons r t, h => by
    rcases List.mem_cons.mp h with e | h
    · subst e; exact ⟨_, List.mem_cons_self, r⟩
    · obtain ⟨x, hx, hr⟩ := paired_mem t h
      exact ⟨x, List.mem_cons_of_mem _ hx, hr⟩
theorem paired_memL {α β : Type} {R : α → β → Prop} : ∀ {l : List α} {m : List β} {x : α}, Paired R l m → x ∈ l → ∃ y ∈ m, R x y
  | _, _, x, .nil, h => by cases h
  | _, _, x, .cons r t, h => by
    rcases List.mem_cons.mp h with e | h
    · subst e; exact ⟨_, List.mem_cons_self, r⟩
    · obtain ⟨y, hy, hr⟩ := paired_memL t h
      exact ⟨y, List.mem_cons_of_mem _ hy, hr⟩
theorem paired_snoc {α β : Type} {R : α → β → Prop} {x : α} {y : β} (h : R x y) : ∀ {l : List α} {m : List β}, Paired R l m → Paired R (l ++ [x]) (m ++ [y])
  | _, _, .nil => .cons h .nil
  | _, _, .cons r t => .cons r (paired_snoc h t)
section
variable {K : PySem.W.Frag} {F H F' H' : Hp} {σ : L2.St} {Γ Γ' : Gm} {v : V} {l : Addr} {o : HO}
theorem pair_of {p : Int × Int} (h : Dd K F v (twoD p)) : ∃ b, v = .ref b ∧ TwoAt F b p := by
  cases h with
  | tup h1 h0 h2 =>
    cases h2 with
    | cons a t => cases t with
      | cons b t => cases t; cases a; cases b; exact ⟨_, rfl, _, h1, h0⟩
theorem dd_two {b : Addr} {p : Int × Int} (h : TwoAt F b p) : Dd K F (.ref b) (twoD p) := let ⟨_, h1, h0⟩ := h; .tup h1 h0 (.cons (.int _) (.cons (.int _) .nil))
theorem TwoAt.ky {b : Addr} {p : Int × Int} (x : Ext F H) (h : TwoAt F b p) : KyAt H b [p.1, p.2] := let ⟨ob, h1, _⟩ := h; .inr ⟨ob, x _ _ h1⟩
theorem map_of {kv : List ((Int × Int) × (Int × Int))} (h : Dd K F v (mapD kv)) : ∃ a es, v = .ref a ∧ F a = some (dctO a es) ∧ Paired (MapE F) es kv := by
  have key : ∀ m : PyData, m = mapD kv → Dd K F v m → ∃ a es, v = .ref a ∧ F a = some (dctO a es) ∧ Paired (MapE F) es kv := fun m em hm => by
    cases hm with
    | map h1 h2 =>
      rename_i a es kv'
      have e : kv' = kv := by
        have e1 := (List.cons.inj (PyData.dict.inj em)).2
        have e2 := congrArg (List.map fun p : PyData × PyData => match p with
          | (.tuple [.int i, .int j], .tuple [.int m, .int n]) => ((i, j), (m, n))
          | _ => ((0, 0), (0, 0))) e1
        simpa [List.map_map, Function.comp_def] using e2
      subst e
      exact ⟨a, es, rfl, h1, h2⟩
    | dct h1 => cases em
    | scr h1 =>
      rename_i a ns
      cases ns with
      | nil => cases em
      | cons n r => cases em
    | _ => cases em
  exact key _ rfl h
theorem EnvOk.frozO (e : EnvOk K F H σ Γ) (hF : F l = none) (ho : ¬ Own σ Γ l) : EnvOk K (upd F l o) H σ Γ := by
  have ff : Ext F (upd F l o) := Ext.new hF
  refine ⟨e.len, fun i s h => ?_, e.sep⟩
  obtain ⟨v, v1, v2⟩ := e.ats i s h
  refine ⟨v, v1, ?_⟩
  have ne : ∀ m, isOw s = true → v = .ref m → m ≠ l := fun m hs hm z => ho ⟨i, s, h, hs, by rw [v1, hm, z]⟩
  cases s with
  | im d => exact v2.up ff
  | ad u => exact v2
  | ow ds =>
    obtain ⟨m, ys, y1, y2, y3, y4⟩ := v2
    exact ⟨m, ys, y1, by rw [upd_ne (ne m rfl y1)]; exact y2, y3, y4.up ff⟩
  | pr m ds =>
    obtain ⟨ys, y1, y2, y3, y4⟩ := v2
    exact ⟨ys, y1, by rw [upd_ne (ne m rfl y1)]; exact y2, y3, y4.up ff⟩
theorem Gr.frozO {A A' : Addr → Prop} (g : Gr F H A F' H' A') (hF : F' l = none) (hH : H l = none ∨ A l) (hl : H' l = some o) : Gr F H A (upd F' l o) H' A' := by
  refine ⟨g.ff.trans (Ext.new hF), fun a u h => ?_, g.hh, fun a h => ?_, g.aa⟩
  all_goals
    by_cases ha : a = l
    · subst ha
      first | exact .inr hH | (rw [upd_same] at h; cases h; exact hl)
    · rw [upd_ne ha] at h
      first | exact g.nw a h | exact g.fh a u h
end
section
variable {X : Cx} {Γ Γ1 Γ2 : Gm} {a b : Expr} {pos : Pos}
theorem ee_mapGet {kv : List ((Int × Int) × (Int × Int))} {p q : Int × Int} {kk : Nat} (hr : Room kk X.A) (ha : Ee X Γ a (mapD kv) Γ1) (hb : Ee X Γ1 b (twoD p) Γ2) (hm : (p, q) ∈ kv) (hs : NoSl b := by exact fun _ _ => rfl) : Ee X Γ (.Subscript a b pos) (twoD q) Γ2 :=
  pe_imp (pe_mapGet (by have := hr.un; omega) ha hb hs) fun σ H Q ⟨F, ev, x, k⟩ => ⟨F, ev, x, fun v F1 H1 g1 e1 dv => ⟨F1, e1, g1.fh, fun w F2 H2 g2 e2 dw => by
    obtain ⟨c, es, rfl, h1, h2⟩ := map_of (dv.up g2.ff)
    obtain ⟨b, rfl, hb2⟩ := pair_of dw
    obtain ⟨e, he, z1, z2, z3⟩ := paired_mem h2 hm
    obtain ⟨e1', b', c'⟩ := e
    cases z1
    refine ⟨c, b, c', b', es, _, rfl, rfl, g2.fh _ _ h1, fun e he => ?_, hb2.ky g2.fh, he, k _ F2 H2 (g1.trans g2) e2 (dd_two z3)⟩
    obtain ⟨y, _, y1, y2, _⟩ := paired_memL h2 he
    rw [y1]
    exact y2.ky g2.fh⟩⟩
end
end DL
end

section
namespace DL
open PySem PySem.Spec PyProof.Rows L2
section
variable {X : Cx} {Γ Γ1 : Gm} {α : Type}
theorem map_read {xs : List α} {enc : α → PyData} {kf vf : α → Int × Int} {Γt : α → Gm} {vs is : List Nat} {g : TG} {tk tv : TE} {wi : TI} (hv : noV Γ1 vs = true) (hless : ∀ x, x ∈ xs → Less Γ1 (Γt x)) (his : ∀ i ∈ is, i ∈ vs) (hsz : xs.length ≤ 16777216) (hnd : (xs.map kf).Nodup)
    (hw : ∀ σ H R, tIt X.K Γ (xs.map enc) Γ1 σ H R → wi σ H R) (hg : ∀ x, x ∈ xs → ∀ v σ H Q, tGt X.K Γ1 (enc x) is (Γt x) v σ H Q → g v σ H Q)
    (hk : ∀ x, x ∈ xs → ∀ σ H Q, tE X.K (Γt x) (twoD (kf x)) (Γt x) σ H Q → tk σ H Q) (he : ∀ x, x ∈ xs → ∀ σ H Q, tE X.K (Γt x) (twoD (vf x)) (Γt x) σ H Q → tv σ H Q) :
    ∀ σ H Q, tE X.K Γ (mapD (xs.map fun x => (kf x, vf x))) Γ1 σ H Q → tMapC wi g tk tv vs σ H Q := by
  intro σ H Q ⟨F, ev, x, k⟩
  refine hw σ H _ ⟨F, ev, x, fun J F1 H1 g1 e1 hW => fun D hD => ?_⟩
  have nD : ¬ Own σ Γ1 D := fun o => by
    obtain ⟨_, ys, z⟩ := e1.own_at o
    rw [hD] at z; cases z
  have ag : wipe (wipe σ vs) vs = wipe σ vs := wipe_idem σ vs
  let kv : α → (Int × Int) × (Int × Int) := fun x => (kf x, vf x)
  let St : Nat → Hp → Prop := fun i H2 => ∃ F2 es, EnvOk X.K F2 H2 σ Γ1 ∧ Gr F1 H1 (Own σ Γ1) F2 H2 (Own σ Γ1) ∧ F2 D = none ∧ H2 D = some (dctO D es) ∧ Paired (MapE F2) es ((xs.take i).map kv)
  refine ⟨fun i m H2 => m = xs.length - i ∧ i ≤ xs.length ∧ St i H2, ⟨xs.length, by omega, Nat.zero_le _, F1, [], e1.newH hD, Gr.newH g1.fh hD, g1.fh.free hD, upd_same, .nil⟩, ?_⟩
  rintro i m H2 ⟨rfl, hi, F2, es, e2, g2, hF2, hH2, hd2⟩
  have wk := hW i F2 H2 g2.ff g2.fh
  by_cases hlt : i < xs.length
  · have hx : xs[i]? = some xs[i] := List.getElem?_eq_getElem hlt
    have hxm : xs[i] ∈ xs := List.getElem_mem hlt
    obtain ⟨go, yl⟩ := wk.1 (enc xs[i]) (by rw [List.getElem?_map, hx]; rfl)
    refine .inr ⟨go, St (i + 1), fun H3 z => ⟨xs.length - (i + 1), by omega, rfl, hlt, z⟩, fun y H3 hy => ?_⟩
    obtain ⟨F3, y1, y2, y3, y4, dy⟩ := yl y H3 hy
    have g23 : Gr F2 H2 (Own σ Γ1) F3 H3 (Own σ Γ1) := Gr.ext y1 y2 y3 y4
    have hD3 := g23.keepD hH2 hF2 nD
    refine hg xs[i] hxm y _ H3 _ ⟨F3, (e2.keep y1 y3 y4).agree hv ag.symm, y2, dy, fun σ4 F4 H4 g4 e4 w4 => ?_⟩
    have w4' := w4 vs his
    rw [ag] at w4'
    refine ⟨w4', ?_⟩
    have l4 := hless xs[i] hxm
    have g34 : Gr F3 H3 (Own σ Γ1) F4 H4 (Own σ4 (Γt xs[i])) := g4.left fun a o => own_agree hv ag o
    have back : ∀ a, Own σ Γ1 a → Own σ4 (Γt xs[i]) a := fun a o => l4.own (own_agree hv w4'.symm o)
    have nD4 : ¬ Own σ4 (Γt xs[i]) D := fun o => (g34.aa D o).elim nD fun z => by rw [hD3.1] at z; cases z
    have hD4 := g34.keepD hD3.1 hD3.2 nD
    refine hk xs[i] hxm σ4 H4 _ ⟨F4, e4, g34.fh, fun v5 F5 H5 g5 e5 dv5 => ?_⟩
    have hD5 := g5.keepD hD4.1 hD4.2 nD4
    refine he xs[i] hxm σ4 H5 _ ⟨F5, e5, g5.fh, fun v6 F6 H6 g6 e6 dv6 => ?_⟩
    have hD6 := g6.keepD hD5.1 hD5.2 nD4
    have g26 := g23.trans ((g34.trans g5).trans g6)
    obtain ⟨b, rfl, tb⟩ := pair_of dv5
    obtain ⟨c, rfl, tc⟩ := pair_of dv6
    have tb6 := tb.up g6.ff
    have hes : Paired (MapE F6) es ((xs.take i).map kv) := Paired.mapP hd2 fun _ _ z => z.up g26.ff
    have hel : es.length = i := by
      rw [Paired.length hes, List.length_map, List.length_take]
      omega
    refine ⟨es, [(kf xs[i]).1, (kf xs[i]).2], b, c, rfl, rfl, hD6.1, fun e hh => ?_, tb6.ky g6.fh, fun hin => ?_, by rw [sizeLine_eq]; omega, F6, es ++ [([(kf xs[i]).1, (kf xs[i]).2], b, c)], ((l4.env e6).agree hv w4').mutOther nD, ((g2.trans g26).right back).mutNew hD hD6.2, hD6.2, upd_same, ?_⟩
    · obtain ⟨y, _, y1, y2, _⟩ := paired_memL hes hh
      rw [y1]
      exact y2.ky g6.fh
    · obtain ⟨e, hh, q⟩ := List.mem_map.mp hin
      obtain ⟨y, hy, y1, _, _⟩ := paired_memL hes hh
      obtain ⟨z, hz, rfl⟩ := List.mem_map.mp hy
      rw [y1] at q
      have q1 : kf z = kf xs[i] := Prod.ext (List.cons.inj q).1 (List.cons.inj (List.cons.inj q).2).1
      obtain ⟨j, hj, hzj⟩ := List.getElem_of_mem hz
      rw [List.length_take] at hj
      rw [List.getElem_take] at hzj
      have := (List.getElem_inj (i := j) (j := i) (h₀ := by rw [List.length_map]; omega) (h₁ := by rw [List.length_map]; omega) hnd).mp (by rw [List.getElem_map, List.getElem_map, hzj]; exact q1)
      omega
    · rw [List.take_add_one, hx, List.map_append]
      exact paired_snoc ⟨rfl, tb6, tc⟩ hes
  · have hie : i = xs.length := by omega
    subst hie
    refine .inl ⟨wk.2 (by rw [List.length_map]; exact Nat.le_refl _), ?_⟩
    rw [List.take_of_length_le (Nat.le_refl _)] at hd2
    exact k (.ref D) _ H2 ((g1.trans g2).frozO hF2 (g1.free hD) hH2) (e2.frozO hF2 nD) (.map upd_same (Paired.mapP hd2 fun _ _ z => z.up (Ext.new hF2)))
/-- {k: v for x in xs} -/
theorem ee_mapC {kx vx tg iter : Expr} {scope : Scope} {own : List (Str × Nat)} {pos : Pos} {kk : Nat} (xs : List α) (enc : α → PyData) (kf vf : α → Int × Int) (Γt : α → Gm) (is : List Nat) (hr : Room kk X.A) (hc : X.calm = true) (hN : X.N.Nodup) (ok : BlkOk X.N X.env.scope scope own) (hv : noV Γ1 (own.map (·.2)) = true)
    (his : ∀ i ∈ is, i ∈ own.map (·.2)) (hsz : xs.length ≤ 16777216) (hnd : (xs.map kf).Nodup) (hless : ∀ x, x ∈ xs → Less Γ1 (Γt x)) (hi : Ei X Γ tg iter (xs.map enc) Γ1)
    (hg : ∀ x, x ∈ xs → InBlk X scope fun Y => Eg Y Γ1 tg (enc x) is (Γt x)) (hk : ∀ x, x ∈ xs → InBlk X scope fun Y => Ee Y (Γt x) kx (twoD (kf x)) (Γt x)) (he : ∀ x, x ∈ xs → InBlk X scope fun Y => Ee Y (Γt x) vx (twoD (vf x)) (Γt x))
    (hs : ∀ x, foldedSetIterable iter X.env x = pure x := by intro _; rfl) : Ee X Γ (.DictComp kx vx [⟨tg, iter, [], 0⟩] scope pos) (mapD (xs.map fun x => (kf x, vf x))) Γ1 :=
  pe_imp (pe_mapC (g := fun v σ H Q => ∃ x, x ∈ xs ∧ tGt X.K Γ1 (enc x) is (Γt x) v σ H Q) (tk := fun σ H Q => ∃ x, x ∈ xs ∧ tE X.K (Γt x) (twoD (kf x)) (Γt x) σ H Q) (tv := fun σ H Q => ∃ x, x ∈ xs ∧ tE X.K (Γt x) (twoD (vf x)) (Γt x) σ H Q) hc (by have := hr.un; omega) hN hi ok
    (fun s H C cl fp => ⟨fun pins s' σ H' v u Q I r ⟨x, hx, hh⟩ => (hg x hx s H C cl fp).run pins s' σ H' v u Q I r hh⟩)
    (fun s H C cl fp => ⟨fun pins s' σ H' Q I ⟨x, hx, hh⟩ => (hk x hx s H C cl fp).run pins s' σ H' Q I hh⟩)
    (fun s H C cl fp => ⟨fun pins s' σ H' Q I ⟨x, hx, hh⟩ => (he x hx s H C cl fp).run pins s' σ H' Q I hh⟩) hs)
    (map_read hv hless his hsz hnd (fun σ H R z => z) (fun x hx v σ H Q z => ⟨x, hx, z⟩) (fun x hx σ H Q z => ⟨x, hx, z⟩) (fun x hx σ H Q z => ⟨x, hx, z⟩))
end
end DL
end

section
namespace DL
open PySem PySem.Spec PyProof.Rows L2
section
variable {X : Cx} {Γ Γ1 : Gm} {e : Expr} {pos pp : Pos}
theorem bools_of {K : PySem.W.Frag} {F : Hp} : ∀ {bs : List Bool} {vs : List V}, DdA K F vs (bs.map .bool) → vs = bs.map V.bl
  | [], _, h => by cases h; rfl
  | b :: bs, _, h => by
    cases h with
    | cons h1 h2 =>
      cases h1
      rw [bools_of h2]; rfl
/-- all([..]) -/
theorem ee_all {bs : List Bool} (hc : X.calm = true) (hm : X.mg "all" = none) (ha : Ea X Γ [e] [.list (bs.map .bool)] Γ1) (hg : Gl X "all" := by rfl) (he : starEach [e] X.env = (false, eval e X.env) :: starEach [] X.env := by rfl) :
    Ee X Γ (.Call (.Name "all" pp) [e] [] pos) (.bool (bs.all id)) Γ1 :=
  ee_cb (id := "all") (cr_all hc) hm (by decide +kernel) ha (cd_here fun F H vs Q x hx => by
    obtain ⟨v, rfl, hv⟩ := one_of hx
    obtain ⟨a, xs, rfl, _, hS, hA⟩ := hv.lstAt x
    rw [bools_of hA] at hS
    exact ⟨_, .bl _, fun k => ⟨a, bs, rfl, hS, k⟩⟩) hg (by decide) (by decide) he rfl
end
end DL
end

section
namespace DL
open PySem PySem.Spec PyProof.Rows L2 RM
def prog1 : Program := PySem.Challenge.pw_restalike_k07_whole_spans
def topS (i : Nat) : Stmt := prog1.main.body.getD i (.Pass ⟨0, 0, 0, 0⟩)
/-- the built-ins' names are not the module's -/
abbrev MostH (mg : Str → Option Value) : Prop := ∃ t, mg "MOST_HALLS" = some (.int 9 t)
structure Tx (mg : Str → Option Value) : Prop where
  isinstance : mg "isinstance" = none
  bool : mg "bool" = none
  int : mg "int" = none
  str : mg "str" = none
  tuple : mg "tuple" = none
  list : mg "list" = none
  len : mg "len" = none
  range : mg "range" = none
  min : mg "min" = none
  max : mg "max" = none
  sorted : mg "sorted" = none
  all : mg "all" = none
  sum : mg "sum" = none
  enumerate : mg "enumerate" = none
  zip : mg "zip" = none
abbrev s_is_number : Stmt := topS 5
abbrev N_is_number : List Str := ["value", "least", "most"]
theorem sc_is_number : FnScope N_is_number ["value", "least", "most"] (defScope s_is_number) := ⟨rfl, rfl, rfl, by decide +kernel, rfl, by decide +kernel, by decide +kernel⟩
section
variable {P : Program} {w : World} {K : PySem.W.Frag} {mg : Str → Option Value} {base : Heap}
def isNum (d : PyData) (a b : Int) : Bool := match d with
  | .int i => decide (a ≤ i) && decide (i ≤ b)
  | _ => false
def R_is_number (ds : List PyData) (d : PyData) : Prop := ∃ v a b, ds = [v, .int a, .int b] ∧ (∀ x, v ≠ .dict x) ∧ d = .bool (isNum v a b)
theorem ok_is_number (T : Tx mg) (F : Fn K mg "is_number" s_is_number ["value", "least", "most"]) : Ca P w K mg base 1 "is_number" ["value", "least", "most"] (spD K R_is_number) := by
  have S := sc_is_number
  refine ca_Er F S (fun ds d ⟨v, a, b, e, _⟩ => by rw [e]; rfl) fun f cdv A outer s H E ds d hr ⟨v, a, b, e1, hv, e2⟩ => ?_
  subst e1 e2
  by_cases hc : (isBoolD v || !isIntD v) = true
  · have e : isNum v a b = false := by
      cases v <;> first | rfl | (simp [isBoolD, isIntD] at hc)
    rw [e]
    exact er_ifT (et_is (et_w (ew_or (et_val (ee_isi T.isinstance T.bool bt_bool (ee_var 0) hv (kit_bool v))) fun _ => (ew_or1 (et_not (et_val (ee_isi T.isinstance T.int bt_int (ee_var 0) hv (kit_int v))))))) hc) (er_ret ee_bl)
  · obtain ⟨i, rfl⟩ : ∃ i, v = .int i := by
      cases v <;> first | exact ⟨_, rfl⟩ | (simp [isBoolD, isIntD] at hc)
    exact er_ifF (et_w (ew_or (et_val (ee_isi T.isinstance T.bool bt_bool (ee_var 0) hv (kit_bool _))) fun _ => (ew_or1 (et_not (et_val (ee_isi T.isinstance T.int bt_int (ee_var 0) hv (kit_int _)))))))
      (er_ret (ee_lele (ee_var 1) (ee_var 0) (ee_var 2)))

end
end DL
end

section
namespace DL
open PySem PySem.Spec PyProof.Rows L2 RM
abbrev s_is_way : Stmt := topS 7
abbrev N_is_way : List Str := ["value", "halls", "x", "y"]
theorem sc_is_way : FnScope N_is_way ["value", "halls"] (defScope s_is_way) := ⟨rfl, rfl, rfl, by decide +kernel, rfl, by decide +kernel, by decide +kernel⟩

abbrev s_are_ways : Stmt := topS 9
abbrev N_are_ways : List Str := ["value", "halls", "way"]
theorem sc_are_ways : FnScope N_are_ways ["value", "halls"] (defScope s_are_ways) := ⟨rfl, rfl, rfl, by decide +kernel, rfl, by decide +kernel, by decide +kernel⟩

abbrev s_ascends : Stmt := topS 8
abbrev N_ascends : List Str := ["members", "at"]
theorem sc_ascends : FnScope N_ascends ["members"] (defScope s_ascends) := ⟨rfl, rfl, rfl, by decide +kernel, rfl, by decide +kernel, by decide +kernel⟩

abbrev s_wrong_frame : Stmt := topS 11
abbrev N_wrong_frame : List Str := ["value"]
theorem sc_wrong_frame : FnScope N_wrong_frame ["value"] (defScope s_wrong_frame) := ⟨rfl, rfl, rfl, by decide +kernel, rfl, by decide +kernel, by decide +kernel⟩

section
variable {P : Program} {w : World} {K : PySem.W.Frag} {mg : Str → Option Value} {base : Heap}

theorem sh_dict {d : PyData} (h : SeqAt.shaped d = true) : ∀ x, d ≠ .dict x := fun x e => by
  subst e
  simp [SeqAt.shaped, PyData.canLay0] at h
theorem sh_item {ds : List PyData} {d : PyData} (h : SeqAt.shaped (.tuple ds) = true) (hd : d ∈ ds) : SeqAt.shaped d = true := by
  have h1 := SeqAt.canLay_of_shaped h
  have h2 := SeqAt.depth_of_shaped h
  rw [PyData.canLay0] at h1
  rw [PyData.depth] at h2
  exact shaped_of (layAll_mem h1 hd) (by have := depth_le hd; omega)
theorem isNum_int {v : PyData} {a b : Int} (h : isNum v a b = true) : ∃ i, v = .int i := by
  cases v <;> first | exact ⟨_, rfl⟩ | (simp [isNum] at h)
/-- is_way, of any data -/
def isWayD (v : PyData) (h : Int) : Bool := match v with
  | .tuple [x, y] => isNum x 0 (h - 1) && (isNum y 0 (h - 1) && !PyData.eqv x y)
  | _ => false
def R_is_way (ds : List PyData) (d : PyData) : Prop := ∃ v h, ds = [v, .int h] ∧ SeqAt.shaped v = true ∧ d = .bool (isWayD v h)
theorem ok_is_way (T : Tx mg) (F : Fn K mg "is_way" s_is_way ["value", "halls"]) (C : Ca P w K mg base 1 "is_number" ["value", "least", "most"] (spD K R_is_number)) : Ca P w K mg base 2 "is_way" ["value", "halls"] (spD K R_is_way) := by
  have S := sc_is_way
  refine ca_Er F S (fun ds d ⟨v, h, e, _⟩ => by rw [e]; rfl) fun f cdv A outer s H E ds d hr ⟨v, h, e1, hv, e2⟩ => ?_
  subst e1 e2
  by_cases hT : ∃ xs, v = .tuple xs
  · obtain ⟨xs, rfl⟩ := hT
    by_cases h2 : xs.length = 2
    · obtain ⟨x, y, rfl⟩ : ∃ x y, xs = [x, y] := by
        match xs, h2 with
        | [x, y], _ => exact ⟨x, y, rfl⟩
      have sx := sh_item hv (show x ∈ [x, y] by simp)
      have sy := sh_item hv (show y ∈ [x, y] by simp)
      have hx := sh_dict sx
      have hy := sh_dict sy
      refine er_ifF (et_is (et_w (ew_or (et_not (et_val (ee_isi T.isinstance T.tuple bt_tuple (ee_var 0) (sh_dict hv) (kit_tuple _)))) fun _ => (ew_or1 (et_neD hr (ee_len T.len (ea_cons (ee_var 0) ea_nil) rfl) ee_int (sh_int _) (sh_int _))))) (by rw [int_eqv]; rfl)) ?_
      refine er_cons (es_asg (ee_var 0) (eg_tup2 rfl (eg_name 2 S.nd) (eg_name 3 S.nd))) ?_
      rw [show isWayD (.tuple [x, y]) h = (isNum x 0 (h - 1) && (isNum y 0 (h - 1) && !PyData.eqv x y)) from rfl]
      exact er_ret (ee_and (ee_ca C hr (ea_cons (ee_var 2) (ea_cons ee_int (ea_cons (ee_sub (ee_var 1) ee_int) ea_nil))) ⟨x, 0, h - 1, rfl, hx, rfl⟩) fun _ => ee_and (ee_ca C hr (ea_cons (ee_var 3) (ea_cons ee_int (ea_cons (ee_sub (ee_var 1) ee_int) ea_nil))) ⟨y, 0, h - 1, rfl, hy, rfl⟩) fun _ => ee_one (ee_neD hr (ee_var 2) (ee_var 3) sx sy))
    · have e : isWayD (.tuple xs) h = false := by
        match xs, h2 with
        | [], _ => rfl
        | [_], _ => rfl
        | [_, _], h2 => exact absurd rfl h2
        | _ :: _ :: _ :: _, _ => rfl
      rw [e]
      refine er_ifT (et_is (q := true) (et_w (ew_or (et_not (et_val (ee_isi T.isinstance T.tuple bt_tuple (ee_var 0) (sh_dict hv) (kit_tuple _)))) fun _ => (ew_or1 (et_neD hr (ee_len T.len (ea_cons (ee_var 0) ea_nil) rfl) ee_int (sh_int _) (sh_int _))))) ?_) (er_ret ee_bl)
      rw [int_eqv, decide_eq_false (fun z => h2 (by omega))]
      simp
  · have e : isWayD v h = false := by
      cases v <;> first | rfl | exact absurd ⟨_, rfl⟩ hT
    rw [e]
    have e3 : isTupD v = false := by
      cases v <;> first | rfl | exact absurd ⟨_, rfl⟩ hT
    exact er_ifT (et_is (p := !isTupD v || true) (et_w (ew_or (et_not (et_val (ee_isi T.isinstance T.tuple bt_tuple (ee_var 0) (sh_dict hv) (kit_tuple _)))) fun z => absurd z (by rw [e3]; decide))) (by simp)) (er_ret ee_bl)
end
section
variable {P : Program} {w : World} {K : PySem.W.Frag} {mg : Str → Option Value} {base : Heap}

/-- turn i of are_ways finds nothing wrong -/
def okWay (ds : List PyData) (h : Int) (i : Nat) : Bool := isWayD (ds.getD i .none) h && (i == 0 || PySem.W.dataLt (ds.getD (i - 1) .none) (ds.getD i .none))
def areWaysD (v : PyData) (h : Int) : Bool := match v with
  | .tuple ds => (List.range ds.length).all (okWay ds h)
  | _ => false
theorem isWay_form {v : PyData} {h : Int} (hp : isWayD v h = true) : ∃ x y, v = .tuple [.int x, .int y] := by
  unfold isWayD at hp
  split at hp
  · rename_i x y
    rw [Bool.and_eq_true, Bool.and_eq_true] at hp
    obtain ⟨i, rfl⟩ := isNum_int hp.1
    obtain ⟨j, rfl⟩ := isNum_int hp.2.1
    exact ⟨i, j, rfl⟩
  · cases hp
theorem ii_lay (x y : Int) : PyData.canLay0 (.tuple [.int x, .int y]) = true := by simp [PyData.canLay0, PyData.canLayAll0]
theorem ii_dep (x y : Int) : PyData.depth (.tuple [.int x, .int y]) ≤ 60 := by simp [PyData.depth, PyData.depthAll]
/-- members ascend -/
def ascD (xs : List PyData) : Bool := (List.range (xs.length - 1)).all fun j => PySem.W.dataLt (xs.getD j .none) (xs.getD (j + 1) .none)
def AscOk (xs : List PyData) : Prop := xs.length ≤ 1000 ∧ (∀ x ∈ xs, x.canLay0 = true ∧ x.depth ≤ 60 ∧ x ≠ .none) ∧ ∀ x ∈ xs, ∀ y ∈ xs, PySem.W.alike x y = true
def R_ascends (ds : List PyData) (d : PyData) : Prop := ∃ xs : List PyData, AscOk xs ∧ ds = [.tuple xs] ∧ d = .bool (ascD xs)
theorem getD_mem {xs : List PyData} {i : Nat} (hi : i < xs.length) : xs.getD i .none ∈ xs := by
  rw [List.getD_eq_getElem?_getD, List.getElem?_eq_getElem hi]; exact List.getElem_mem hi
theorem at_here {xs : List PyData} {i : Nat} (hi : i < xs.length) : atI xs (i : Int) = some (xs.getD i .none) := atI_nat (by rw [List.getD_eq_getElem?_getD, List.getElem?_eq_getElem hi]; rfl)
theorem ok_ascends (T : Tx mg) (F : Fn K mg "ascends" s_ascends ["members"]) : Ca P w K mg base 1 "ascends" ["members"] (spD K R_ascends) := by
  have S := sc_ascends
  refine ca_Er F S (fun ds d ⟨_, _, e, _⟩ => by rw [e]; rfl) fun f cdv A outer s H E ds d hr ⟨xs, ⟨hl, hx_, hal⟩, e1, e2⟩ => ?_
  subst e1 e2
  refine er_is (er_ret (ee_all (bs := (List.range (xs.length - 1)).map fun j => PySem.W.dataLt (xs.getD j .none) (xs.getD (j + 1) .none)) rfl T.all (ea_cons (ee_is (ee_new (en_lc (own := [("at", 1)]) (List.range (xs.length - 1)) (fun j => iN (1 + j)) (fun _ => true) (fun j => .bool (PySem.W.dataLt (xs.getD j .none) (xs.getD (j + 1) .none))) (fun j => (slots0 N_ascends [.tuple xs]).set 1 (some (.im (iN (1 + j))))) [1] rfl S.nd (blkOk_by (N := N_ascends) (sc := defScope s_ascends) (by decide +kernel)) rfl (by decide) (by rw [List.length_range]; omega) (fun x _ => less_set rfl)
    (ei_is (ei_range2 T.range (ea_cons ee_int (ea_cons (ee_len T.len (ea_cons (ee_var 0) ea_nil) rfl) ea_nil)) ?b1) ?rg) (fun x hx _ _ _ _ _ => (eg_name 1 S.nd)) (fun x hx _ _ _ _ _ => ets_nil) (fun x hx hf _ _ _ _ _ => (ee_ltD hr (ee_ixT (d := xs.getD x .none) (ee_var 0) (ee_sub (ee_var 1) ee_int) ?i1) (ee_ixT (d := xs.getD (x + 1) .none) (ee_var 0) (ee_var 1) ?i2) ?l1 ?l2 ?l3 ?l4 ?l5)))) ?its) ea_nil))) ?fin
  case b1 => omega
  case rg => exact rngD_from 1 xs.length
  case i1 =>
    have := List.mem_range.mp hx
    rw [show ((1 + x : Nat) : Int) - 1 = ((x : Nat) : Int) by omega]
    exact at_here (by omega)
  case i2 =>
    have := List.mem_range.mp hx
    rw [show ((1 + x : Nat) : Int) = ((x + 1 : Nat) : Int) by omega]
    exact at_here (by omega)
  case l1 => have := List.mem_range.mp hx; exact (hx_ _ (getD_mem (by omega))).1
  case l2 => have := List.mem_range.mp hx; exact (hx_ _ (getD_mem (by omega))).1
  case l3 => have := List.mem_range.mp hx; exact hal _ (getD_mem (by omega)) _ (getD_mem (by omega))
  case l4 => have := List.mem_range.mp hx; exact (hx_ _ (getD_mem (by omega))).2.2
  case l5 => have := List.mem_range.mp hx; exact (hx_ _ (getD_mem (by omega))).2.1
  case its => rw [List.filter_eq_self.mpr (fun _ _ => rfl), List.map_map]; rfl
  case fin =>
    unfold ascD
    rw [List.all_map]; rfl
def R_are_ways (ds : List PyData) (d : PyData) : Prop := ∃ v h, ds = [v, .int h] ∧ SeqAt.shaped v = true ∧ (∀ xs, v = .tuple xs → xs.length ≤ 1000) ∧ d = .bool (areWaysD v h)
theorem areWays_split (xs : List PyData) (h : Int) : areWaysD (.tuple xs) h = (xs.all (fun x => isWayD x h) && ascD xs) := by
  show (List.range xs.length).all (okWay xs h) = _
  rw [Bool.eq_iff_iff, Bool.and_eq_true, List.all_eq_true, List.all_eq_true]
  unfold ascD
  rw [List.all_eq_true]
  constructor
  · intro a
    refine ⟨fun x hx => ?_, fun j hj => ?_⟩
    · obtain ⟨i, hi, rfl⟩ := List.getElem_of_mem hx
      have := a i (List.mem_range.mpr hi)
      unfold okWay at this
      rw [Bool.and_eq_true, List.getD_eq_getElem?_getD, List.getElem?_eq_getElem hi] at this
      exact this.1
    · have hj := List.mem_range.mp hj
      have := a (j + 1) (List.mem_range.mpr (by omega))
      unfold okWay at this
      rw [Bool.and_eq_true] at this
      have h2 := this.2
      rw [show ((j + 1) == 0) = false from rfl, Bool.false_or] at h2
      exact h2
  · rintro ⟨a, b⟩ i hi
    have hi := List.mem_range.mp hi
    unfold okWay
    rw [Bool.and_eq_true]
    refine ⟨a _ (getD_mem hi), ?_⟩
    by_cases h0 : i = 0
    · subst h0; rfl
    · have := b (i - 1) (List.mem_range.mpr (by omega))
      rw [show i - 1 + 1 = i by omega] at this
      rw [this, Bool.or_true]
theorem ok_are_ways (T : Tx mg) (F : Fn K mg "are_ways" s_are_ways ["value", "halls"]) (C : Ca P w K mg base 2 "is_way" ["value", "halls"] (spD K R_is_way)) (C2 : Ca P w K mg base 1 "ascends" ["members"] (spD K R_ascends)) : Ca P w K mg base 3 "are_ways" ["value", "halls"] (spD K R_are_ways) := by
  have S := sc_are_ways
  refine ca_Er F S (fun ds d ⟨v, h, e, _⟩ => by rw [e]; rfl) fun f cdv A outer s H E ds d hr ⟨v, h, e1, hv, hl, e2⟩ => ?_
  subst e1 e2
  by_cases hT : ∃ xs, v = .tuple xs
  · obtain ⟨xs, rfl⟩ := hT
    have hl := hl xs rfl
    refine er_is (er_ret (ee_and (ee_isi T.isinstance T.tuple bt_tuple (ee_var 0) (sh_dict hv) (kit_tuple _)) fun _ => ee_and (ee_all (bs := xs.map fun x => isWayD x h) rfl T.all (ea_cons (ee_is (ee_new (en_lc (own := [("way", 2)]) xs id (fun _ => true) (fun x => .bool (isWayD x h)) (fun x => (slots0 N_are_ways [.tuple xs, .int h]).set 2 (some (.im x))) [2] rfl S.nd (blkOk_by (N := N_are_ways) (sc := defScope s_are_ways) (by decide +kernel)) rfl (by decide) (by omega) (fun x _ => less_set rfl)
      (ei_is (ei_tup (ee_var 0)) (List.map_id _).symm) (fun x hx _ _ _ _ _ => (eg_name 2 S.nd)) (fun x hx _ _ _ _ _ => ets_nil) (fun x hx hf _ _ _ _ _ => (ee_ca C hr (ea_cons (ee_var 2) (ea_cons (ee_var 1) ea_nil)) ⟨x, h, rfl, sh_item hv hx, rfl⟩)))) ?its) ea_nil)) fun hall => ee_one (ee_ca C2 hr (ea_cons (ee_var 0) ea_nil) ⟨xs, ?asc, rfl, rfl⟩))) ?fin
    case its => rw [List.filter_eq_self.mpr (fun _ _ => rfl), List.map_map]; rfl
    case asc =>
      have form : ∀ x ∈ xs, ∃ a b, x = .tuple [.int a, .int b] := fun x hx => by
        rw [List.all_eq_true] at hall
        exact isWay_form (hall _ (List.mem_map.mpr ⟨x, hx, rfl⟩))
      refine ⟨hl, fun x hx => ?_, fun x hx y hy => ?_⟩
      · obtain ⟨a, b, rfl⟩ := form x hx
        exact ⟨ii_lay a b, ii_dep a b, by intro z; cases z⟩
      · obtain ⟨a, b, rfl⟩ := form x hx
        obtain ⟨a2, b2, rfl⟩ := form y hy
        exact alike_ii a b a2 b2
    case fin =>
      rw [areWays_split, List.all_map]
      show PyData.bool (true && _) = _
      rw [Bool.true_and]; rfl
  · have e : areWaysD v h = false := by
      cases v <;> first | rfl | exact absurd ⟨_, rfl⟩ hT
    rw [e]
    have e3 : isTupD v = false := by
      cases v <;> first | rfl | exact absurd ⟨_, rfl⟩ hT
    exact er_is (er_ret (ee_and (q := true) (ee_isi T.isinstance T.tuple bt_tuple (ee_var 0) (sh_dict hv) (kit_tuple _)) fun z => absurd z (by rw [e3]; decide))) (by rw [e3]; rfl)
/-- the ways of a value that are_ways lets pass -/
theorem areWays_form {v : PyData} {h : Int} (hp : areWaysD v h = true) : ∃ l : List (Int × Int), v = .tuple (l.map twoD) := by
  cases v with
  | tuple ds =>
    have hall : ∀ d ∈ ds, ∃ p : Int × Int, d = twoD p := fun d hd => by
      obtain ⟨i, hi, rfl⟩ := List.getElem_of_mem hd
      have := List.all_eq_true.mp hp i (List.mem_range.mpr hi)
      unfold okWay at this
      rw [Bool.and_eq_true, List.getD_eq_getElem?_getD, List.getElem?_eq_getElem hi] at this
      obtain ⟨x, y, e⟩ := isWay_form this.1
      exact ⟨(x, y), e⟩
    clear hp
    induction ds with
    | nil => exact ⟨[], rfl⟩
    | cons d ds ih =>
      obtain ⟨p, hp⟩ := hall d List.mem_cons_self
      obtain ⟨l, hl⟩ := ih fun d hd => hall d (List.mem_cons_of_mem _ hd)
      exact ⟨p :: l, by rw [hp, PyData.tuple.inj hl]; rfl⟩
  | _ => cases hp
def frameD (v : PyData) : PyData := match v with
  | .tuple [h, _] => if isNum h 1 9 = true then .none else .str "halls"
  | _ => .str "whole"
def R_wrong_frame (ds : List PyData) (d : PyData) : Prop := ∃ v, ds = [v] ∧ SeqAt.shaped v = true ∧ d = frameD v
theorem ok_wrong_frame (T : Tx mg) (Mh : MostH mg) (F : Fn K mg "wrong_frame" s_wrong_frame ["value"]) (C : Ca P w K mg base 1 "is_number" ["value", "least", "most"] (spD K R_is_number)) : Ca P w K mg base 2 "wrong_frame" ["value"] (spD K R_wrong_frame) := by
  have S := sc_wrong_frame
  refine ca_Er F S (fun ds d ⟨v, e, _⟩ => by rw [e]; rfl) fun f cdv A outer s H E ds d hr ⟨v, e1, hv, e2⟩ => ?_
  obtain ⟨tm, hmo⟩ := Mh
  subst e1 e2
  by_cases hT : ∃ xs, v = .tuple xs
  · obtain ⟨xs, rfl⟩ := hT
    by_cases h2 : xs.length = 2
    · obtain ⟨x, y, rfl⟩ : ∃ x y, xs = [x, y] := by
        match xs, h2 with
        | [x, y], _ => exact ⟨x, y, rfl⟩
      have hx := sh_dict (sh_item hv (show x ∈ [x, y] by simp))
      refine er_ifF (et_is (et_w (ew_or (et_not (et_val (ee_isi T.isinstance T.tuple bt_tuple (ee_var 0) (sh_dict hv) (kit_tuple _)))) fun _ => (ew_or1 (et_neD hr (ee_len T.len (ea_cons (ee_var 0) ea_nil) rfl) ee_int (sh_int _) (sh_int _))))) (by rw [int_eqv]; rfl)) ?_
      cases hn : isNum x 1 9 with
      | true =>
        rw [show frameD (.tuple [x, y]) = .none from if_pos hn]
        exact er_ifF (et_is (et_not (et_val (ee_ca C hr (ea_cons (ee_ixT (ee_var 0) ee_int rfl) (ea_cons ee_int (ea_cons (ee_gint hmo ⟨_, rfl⟩) ea_nil))) ⟨x, 1, 9, rfl, hx, rfl⟩))) (by rw [hn]; rfl)) (er_ret ee_non)
      | false =>
        rw [show frameD (.tuple [x, y]) = .str "halls" from if_neg (by rw [hn]; decide)]
        exact er_ifT (et_is (et_not (et_val (ee_ca C hr (ea_cons (ee_ixT (ee_var 0) ee_int rfl) (ea_cons ee_int (ea_cons (ee_gint hmo ⟨_, rfl⟩) ea_nil))) ⟨x, 1, 9, rfl, hx, rfl⟩))) (by rw [hn]; rfl)) (er_ret ee_str)
    · have e : frameD (.tuple xs) = .str "whole" := by
        match xs, h2 with
        | [], _ => rfl
        | [_], _ => rfl
        | [_, _], h2 => exact absurd rfl h2
        | _ :: _ :: _ :: _, _ => rfl
      rw [e]
      refine er_ifT (et_is (q := true) (et_w (ew_or (et_not (et_val (ee_isi T.isinstance T.tuple bt_tuple (ee_var 0) (sh_dict hv) (kit_tuple _)))) fun _ => (ew_or1 (et_neD hr (ee_len T.len (ea_cons (ee_var 0) ea_nil) rfl) ee_int (sh_int _) (sh_int _))))) ?_) (er_ret ee_str)
      rw [int_eqv, decide_eq_false (fun z => h2 (by omega))]
      simp
  · have e : frameD v = .str "whole" := by
      cases v <;> first | rfl | exact absurd ⟨_, rfl⟩ hT
    rw [e]
    have e3 : isTupD v = false := by
      cases v <;> first | rfl | exact absurd ⟨_, rfl⟩ hT
    exact er_ifT (et_is (p := !isTupD v || true) (et_w (ew_or (et_not (et_val (ee_isi T.isinstance T.tuple bt_tuple (ee_var 0) (sh_dict hv) (kit_tuple _)))) fun z => absurd z (by rw [e3]; decide))) (by simp)) (er_ret ee_str)
end
end DL
end

section
namespace DL
open PySem PySem.Spec PyProof.Rows L2 RM
abbrev N_is_turn : List Str := ["value", "hall"]
abbrev N_check_turn : List Str := ["value"]
section
variable {P : Program} {w : World} {K : PySem.W.Frag} {mg : Str → Option Value} {base : Heap}
/-- is_turn: of a turn -/
def R_is_turn (ds : List PyData) (d : PyData) : Prop := ∃ t : List Nat, IsTurn t ∧ ds = [tn t] ∧ d = .bool true
theorem isNum_iN {n : Nat} {a x : Int} (h1 : a ≤ n) (h2 : (n : Int) ≤ x) : isNum (iN n) a x = true := by
  show (decide (a ≤ n) && decide ((n : Int) ≤ x)) = true
  rw [decide_eq_true (by omega), decide_eq_true (by omega)]; rfl
def R_check_turn (ds : List PyData) (d : PyData) : Prop := ∃ t : List Nat, IsTurn t ∧ ds = [tn t] ∧ d = .none
theorem ways_good {n : Nat} {S : List (Nat × Nat)} (ha : S.Pairwise fun a b => pLt a b = true) (h : ∀ p ∈ S, p.1 < n ∧ p.2 < n ∧ p.1 ≠ p.2) : areWaysD (rN S) (n : Int) = true := by
  show (List.range (S.map pN).length).all (okWay (S.map pN) n) = true
  rw [List.length_map, List.all_eq_true]
  intro i hi
  have hi := List.mem_range.mp hi
  have gi : ∀ j (hj : j < S.length), (S.map pN).getD j .none = pN S[j] := fun j hj => by
    rw [List.getD_eq_getElem?_getD, List.getElem?_map, List.getElem?_eq_getElem hj]; rfl
  unfold okWay
  rw [gi i hi]
  obtain ⟨m1, m2, m3⟩ := h _ (List.getElem_mem hi)
  have e1 : isWayD (pN S[i]) n = true := by
    show (isNum (iN S[i].1) 0 ((n : Int) - 1) && (isNum (iN S[i].2) 0 ((n : Int) - 1) && !PyData.eqv (iN S[i].1) (iN S[i].2))) = true
    rw [isNum_iN (by omega) (by omega), isNum_iN (by omega) (by omega), iN_eqv, decide_eq_false m3]; rfl
  rw [e1, Bool.true_and]
  by_cases h0 : i = 0
  · subst h0; rfl
  · rw [gi (i - 1) (by omega), lt_pN, (List.pairwise_iff_getElem.mp ha) (i - 1) i (by omega) hi (by omega), Bool.or_true]
theorem frame_good {n : Nat} {x : PyData} (h1 : 1 ≤ n) (h9 : n ≤ 9) : frameD (.tuple [iN n, x]) = .none := by
  show (if isNum (iN n) 1 9 = true then _ else _) = _
  rw [if_pos (isNum_iN (by omega) (by omega))]
theorem at_get {t : List Nat} {x : Nat} (hx : x < t.length) : atI (t.map iN) (x : Int) = some (iN (at_ t x)) := atI_map (by
  unfold at_
  rw [List.getD_eq_getElem?_getD, List.getElem?_eq_getElem hx]; rfl)
def lI (r : List Nat) : PyData := .list (r.map iN)
def lP (r : List (Nat × Nat)) : PyData := .list (r.map pN)
theorem itr_lt {t : List Nat} (ht : IsTurn t) {x : Nat} (hx : x < t.length) (n : Nat) : itr (at_ t) n x < t.length := List.mem_range.mp (itr_mem (at_mem ht) (List.mem_range.mpr hx) n)
theorem ringN_succ {α : Type} (f : α → α) (a : α) (n : Nat) : ringN f a (n + 1) = ringN f a n ++ [itr f n a] := by
  unfold ringN
  rw [List.range_succ, List.map_append]; rfl
theorem fmod_iN (n k : Nat) : (n : Int).fmod (k : Int) = ((n % k : Nat) : Int) := by
  rw [Int.fmod_eq_emod_of_nonneg _ (by omega)]; rfl
end
end DL
end

section
/-! The drawing of numbers. -/
namespace RM
structure Rw where
  ns : List Int
  i : Int
  r : Int
  c : Int
def takenM (m : Int) (R : Rw) : Int × Rw :=
  if 0 < R.c then (R.c.fmod m, { R with c := R.c.fdiv m })
  else if (R.ns.length : Int) < R.i + 1 then ((((R.r * 48271 + 11).fmod 2147483647).fdiv 7).fmod m, { R with i := R.i + 1, r := (R.r * 48271 + 11).fmod 2147483647 })
  else ((R.ns.getD R.i.toNat 0).fmod m, { R with i := R.i + 1, r := (R.r * 48271 + R.ns.getD R.i.toNat 0 + 11).fmod 2147483647, c := if 10 ^ 18 ≤ R.ns.getD R.i.toNat 0 then (R.ns.getD R.i.toNat 0).fdiv m else R.c })
theorem taken_i {m : Int} {R : Rw} (h : 0 ≤ R.i) : 0 ≤ (takenM m R).2.i := by
  unfold takenM
  split
  · exact h
  · split
    · show 0 ≤ R.i + 1; omega
    · show 0 ≤ R.i + 1; omega
theorem fmod_range {a m : Int} (h : 0 < m) : 0 ≤ a.fmod m ∧ a.fmod m < m := ⟨Int.fmod_nonneg_of_pos a h, Int.fmod_lt_of_pos a h⟩
theorem taken_lt {m : Int} {R : Rw} (h : 0 < m) : 0 ≤ (takenM m R).1 ∧ (takenM m R).1 < m := by
  unfold takenM
  split
  · exact fmod_range h
  · split <;> exact fmod_range h
end RM
namespace RM
def pairsTo (n i : Nat) : List (Nat × Nat) := (List.range i).flatMap fun x => (List.range (n - (x + 1))).map fun j => (x, x + 1 + j)
theorem pairsTo_succ (n i : Nat) : pairsTo n (i + 1) = pairsTo n i ++ (List.range (n - (i + 1))).map fun j => (i, i + 1 + j) := by
  unfold pairsTo
  rw [List.range_succ, List.flatMap_append]
  simp
def ledLot (t : List Nat) (S : List (Nat × Nat)) : List (Nat × Nat) := (S.map (ledPair t)).mergeSort (le_ pLt)
def leftLot (E S : List (Nat × Nat)) : List (Nat × Nat) := E.filter fun p => !decide (p ∈ S)
def allLots {α : Type} (E : List α) : List (List α) := E.foldl (fun F x => F ++ F.map fun l => l ++ [x]) [[]]
theorem allLots_len {α : Type} (E : List α) : (allLots E).length = 2 ^ E.length := by
  have go : ∀ (E : List α) (F : List (List α)), (E.foldl (fun F x => F ++ F.map fun l => l ++ [x]) F).length = F.length * 2 ^ E.length := by
    intro E
    induction E with
    | nil => intro F; simp
    | cons x E ih =>
      intro F
      rw [List.foldl_cons, ih, List.length_append, List.length_map, List.length_cons, Nat.pow_succ, ← Nat.two_mul, Nat.mul_comm 2 F.length, Nat.mul_assoc, Nat.mul_comm 2]
  unfold allLots
  rw [go]; simp
theorem sort_two (a b : Nat) : [a, b].mergeSort (le_ fun a b : Nat => decide (a < b)) = [min a b, max a b] := by
  have h : [min a b, max a b].Perm [a, b] := by
    by_cases h : a ≤ b
    · rw [Nat.min_eq_left h, Nat.max_eq_right h]
    · rw [Nat.min_eq_right (by omega), Nat.max_eq_left (by omega)]
      exact List.Perm.swap _ _ _
  rw [← sort_same ordN h]
  exact List.mergeSort_of_pairwise (by simp [le_]; omega)
end RM
namespace RM
theorem mem_lots_go {α : Type} : ∀ (E : List α) (F : List (List α)) (l : List α), l ∈ E.foldl (fun F x => F ++ F.map fun l => l ++ [x]) F ↔ ∃ l0 ∈ F, ∃ s : List α, s.Sublist E ∧ l = l0 ++ s
  | [], F, l => by
    constructor
    · intro h; exact ⟨l, h, [], .slnil, by simp⟩
    · rintro ⟨l0, h, s, hs, rfl⟩
      cases hs
      simpa using h
  | x :: E, F, l => by
    rw [List.foldl_cons, mem_lots_go E]
    constructor
    · rintro ⟨l0, h, s, hs, rfl⟩
      rcases List.mem_append.mp h with h | h
      · exact ⟨l0, h, s, .cons x hs, rfl⟩
      · obtain ⟨l1, h1, rfl⟩ := List.mem_map.mp h
        exact ⟨l1, h1, x :: s, .cons_cons x hs, by simp⟩
    · rintro ⟨l0, h, s, hs, rfl⟩
      cases hs with
      | cons _ hs => exact ⟨l0, List.mem_append_left _ h, s, hs, rfl⟩
      | cons_cons _ hs => exact ⟨l0 ++ [x], List.mem_append_right _ (List.mem_map.mpr ⟨l0, h, rfl⟩), _, hs, by simp⟩
theorem mem_lots {α : Type} {E l : List α} : l ∈ allLots E ↔ l.Sublist E := by
  unfold allLots
  rw [mem_lots_go]
  constructor
  · rintro ⟨l0, h, s, hs, rfl⟩
    rw [List.mem_singleton.mp h]; exact hs
  · intro h
    exact ⟨[], List.mem_singleton.mpr rfl, l, h, rfl⟩
end RM
end

section
namespace DL
open PySem PySem.Spec PyProof.Rows L2 RM
abbrev s_taken : Stmt := topS 19
abbrev N_taken : List Str := ["row", "many", "found", "cell"]
theorem sc_taken : FnScope N_taken ["row", "many"] (defScope s_taken) := ⟨rfl, rfl, rfl, by decide +kernel, rfl, by decide +kernel, by decide +kernel⟩
def rowD (R : Rw) : List PyData := [scrD R.ns, .int R.i, .int R.r, .int R.c]
section
variable {X : Cx} {Γ Γ1 : Gm}
theorem ee_row {i : Int} {d : PyData} {a : Addr} {r : List PyData} {x : Str} {p1 p2 pos : Pos} {kk : Nat} (hi : atI r i = some d) (h : Γ[0]? = some (some (.pr a r)) := by rfl) (hx : PE X (.Name x p1) (tVar 0) := by exact pe_nm 0) : Ee X Γ (.Subscript (.Name x p1) (.Constant (.int i) kk p2) pos) d Γ :=
  ee_ownIx ee_int h rfl (by rw [h]; rfl) hi hx (has_slot (K := X.K) h)
theorem es_row {i : Int} {j : Nat} {d : PyData} {a : Addr} {r : List PyData} {x : Str} {p1 p2 ps pos : Pos} {kk : Nat} {e : Expr} (he : Ee X Γ e d Γ) (hj : ixN r.length i = some j) (h : Γ[0]? = some (some (.pr a r)) := by rfl) (hx : PE X (.Name x p1) (tVar 0) := by exact pe_nm 0)
    (hq : ∀ v, assign (.Subscript (.Name x p1) (.Constant (.int i) kk p2) ps) X.env v = (do
      let ov ← holding [v] (eval (.Name x p1) X.env)
      let iv ← holding [v, ov] (eval (.Constant (.int i) kk p2) X.env)
      standAt ps
      holding [v, ov, iv] (setItem ov iv v)
      release [v, ov, iv] []) := by intro _; rfl)
    (hs : swapsWithSole [.Subscript (.Name x p1) (.Constant (.int i) kk p2) ps] e pos.line X.env = pure false := by rfl) (hw : swappedStores [.Subscript (.Name x p1) (.Constant (.int i) kk p2) ps] e X.env = pure none := by rfl) (h1 : (assignEach [.Subscript (.Name x p1) (.Constant (.int i) kk p2) ps] X.env).map (·.2) = [assign (.Subscript (.Name x p1) (.Constant (.int i) kk p2) ps) X.env] := by rfl) :
    Es X Γ (.Assign [.Subscript (.Name x p1) (.Constant (.int i) kk p2) ps] e pos) (.nx (Γ.set 0 (some (.pr a (r.set j d))))) :=
  es_setIx (s := .pr a r) (s1 := .pr a r) hx he h rfl ee_int h rfl hj hq hs hw h1
end
section
variable {P : Program} {w : World} {K : PySem.W.Frag} {mg : Str → Option Value} {base : Heap}
def R_taken (row ds : List PyData) (d : PyData) (row' : List PyData) : Prop := ∃ (R : Rw) (m : Int), 0 ≤ R.i ∧ 0 < m ∧ m < 1073741824 ∧ row = rowD R ∧ ds = [.int m] ∧ d = .int (takenM m R).1 ∧ row' = rowD (takenM m R).2
theorem ok_taken (T : Tx mg) (F : Fn K mg "_law_taken" s_taken ["row", "many"]) : Ca P w K mg base 1 "_law_taken" ["row", "many"] (spR K R_taken) := by
  have S := sc_taken
  refine ca_R F S (fun row ds d row' ⟨_, _, _, _, _, _, e, _⟩ => by rw [e]; rfl) fun f cdv A outer s H E r row ds d row' hr ⟨R, m, hi, hm, hm2, e1, e2, e3, e4⟩ => ?_
  subst e1 e2 e3 e4
  have dv : CDivN R.c m := ⟨by omega, by omega⟩
  unfold takenM
  by_cases hc : 0 < R.c
  · rw [if_pos hc]
    refine ⟨_, ess_stop (es_ifT (et_is (et_gt (ee_row rfl) ee_int) (decide_eq_true hc)) (ess_cons (es_set 2 S.nd (ee_mod (ee_intC T.int (ea_cons (ee_row rfl) ea_nil)) (ee_var 1) (by omega))) (ess_cons (es_row (j := 3) (ee_fdiv (ee_row rfl) (ee_var 1) dv) rfl) (ess_stop (es_ret (ee_var 2)) (by intro _ z; cases z))))) (by intro _ z; cases z), rfl⟩
  · rw [if_neg hc]
    by_cases hl : (R.ns.length : Int) < R.i + 1
    · rw [if_pos hl]
      exact ⟨_, ess_cons (es_ifF (et_is (et_gt (ee_row rfl) ee_int) (decide_eq_false hc)) ess_nil) (ess_cons (es_row (j := 1) (ee_add (ee_row rfl) ee_int) rfl) (ess_stop (es_ifT (et_is (et_gt (ee_row (i := 1) rfl) (ee_lenS T.len (ea_cons (ee_row (i := 0) rfl) ea_nil))) (decide_eq_true hl)) (ess_cons (es_row (j := 2) (ee_mod (ee_intC T.int (ea_cons (ee_add (ee_mul (ee_row (i := 2) rfl) ee_int (.inr (by decide))) ee_int) ea_nil)) ee_int (by decide)) rfl) (ess_stop (es_ret (ee_mod (ee_intC T.int (ea_cons (ee_fdiv (ee_row (i := 2) rfl) ee_int ⟨by decide, by decide⟩) ea_nil)) (ee_var 1) (by omega))) (by intro _ z; cases z)))) (by intro _ z; cases z))), rfl⟩
    · rw [if_neg hl]
      have hcell : atI R.ns (R.i + 1 - 1) = some (R.ns.getD R.i.toNat 0) := by
        rw [show R.i + 1 - 1 = ((R.i.toNat : Nat) : Int) by omega]
        refine atI_nat ?_
        rw [List.getD_eq_getElem?_getD, List.getElem?_eq_getElem (by omega)]; rfl
      by_cases hg : 10 ^ 18 ≤ R.ns.getD R.i.toNat 0
      · rw [if_pos hg]
        exact ⟨_, ess_cons (es_ifF (et_is (et_gt (ee_row rfl) ee_int) (decide_eq_false hc)) ess_nil) (ess_cons (es_row (j := 1) (ee_add (ee_row rfl) ee_int) rfl) (ess_cons (es_ifF (et_is (et_gt (ee_row (i := 1) rfl) (ee_lenS T.len (ea_cons (ee_row (i := 0) rfl) ea_nil))) (decide_eq_false hl)) ess_nil) (ess_cons (es_set 3 S.nd (ee_ixS (ee_row (i := 0) rfl) (ee_sub (ee_row (i := 1) rfl) ee_int) hcell)) (ess_cons (es_row (j := 2) (ee_mod (ee_intC T.int (ea_cons (ee_add (ee_add (ee_mul (ee_row (i := 2) rfl) ee_int (.inr (by decide))) (ee_var 3)) ee_int) ea_nil)) ee_int (by decide)) rfl)
          (ess_cons (es_ifT (et_is (et_ge (ee_var 3) (ee_pow ee_int ee_int ⟨by decide, by decide, by decide⟩)) (decide_eq_true hg)) (ess_one (es_row (j := 3) (ee_fdiv (ee_var 3) (ee_var 1) ⟨by omega, by omega⟩) rfl))) (ess_stop (es_ret (ee_mod (ee_intC T.int (ea_cons (ee_var 3) ea_nil)) (ee_var 1) (by omega))) (by intro _ z; cases z))))))), rfl⟩
      · rw [if_neg hg]
        exact ⟨_, ess_cons (es_ifF (et_is (et_gt (ee_row rfl) ee_int) (decide_eq_false hc)) ess_nil) (ess_cons (es_row (j := 1) (ee_add (ee_row rfl) ee_int) rfl) (ess_cons (es_ifF (et_is (et_gt (ee_row (i := 1) rfl) (ee_lenS T.len (ea_cons (ee_row (i := 0) rfl) ea_nil))) (decide_eq_false hl)) ess_nil) (ess_cons (es_set 3 S.nd (ee_ixS (ee_row (i := 0) rfl) (ee_sub (ee_row (i := 1) rfl) ee_int) hcell)) (ess_cons (es_row (j := 2) (ee_mod (ee_intC T.int (ea_cons (ee_add (ee_add (ee_mul (ee_row (i := 2) rfl) ee_int (.inr (by decide))) (ee_var 3)) ee_int) ea_nil)) ee_int (by decide)) rfl)
          (ess_cons (es_ifF (et_is (et_ge (ee_var 3) (ee_pow ee_int ee_int ⟨by decide, by decide, by decide⟩)) (decide_eq_false hg)) ess_nil) (ess_stop (es_ret (ee_mod (ee_intC T.int (ea_cons (ee_var 3) ea_nil)) (ee_var 1) (by omega))) (by intro _ z; cases z))))))), rfl⟩
end
end DL
end

section
namespace DL
open PySem PySem.Spec PyProof.Rows L2 RM
abbrev s_pick : Stmt := topS 20
abbrev N_pick : List Str := ["row", "things"]
theorem sc_pick : FnScope N_pick ["row", "things"] (defScope s_pick) := ⟨rfl, rfl, rfl, by decide +kernel, rfl, by decide +kernel, by decide +kernel⟩
abbrev s_lturn : Stmt := topS 22
abbrev N_lturn : List Str := ["row", "halls", "found", "left"]
theorem sc_lturn : FnScope N_lturn ["row", "halls"] (defScope s_lturn) := ⟨rfl, rfl, rfl, by decide +kernel, rfl, by decide +kernel, by decide +kernel⟩
section
variable {P : Program} {w : World} {K : PySem.W.Frag} {mg : Str → Option Value} {base : Heap}
def pickI (n : Nat) (R : Rw) : Nat := (takenM n R).1.toNat
theorem pickI_lt {n : Nat} {R : Rw} (h : 0 < n) : pickI n R < n ∧ (takenM n R).1 = (pickI n R : Int) := by
  have := taken_lt (m := n) (R := R) (by omega)
  unfold pickI
  omega
def R_pick (row ds : List PyData) (d : PyData) (row' : List PyData) : Prop := ∃ (R : Rw) (xs : List PyData), 0 ≤ R.i ∧ 0 < xs.length ∧ xs.length < 1073741824 ∧ row = rowD R ∧ ds = [.list xs] ∧ xs[pickI xs.length R]? = some d ∧ row' = rowD (takenM xs.length R).2
theorem ok_pick (T : Tx mg) (F : Fn K mg "_law_pick" s_pick ["row", "things"]) (C : Ca P w K mg base 1 "_law_taken" ["row", "many"] (spR K R_taken)) : Ca P w K mg base 2 "_law_pick" ["row", "things"] (spR K R_pick) := by
  have S := sc_pick
  refine ca_R F S (fun row ds d row' ⟨_, _, _, _, _, _, e, _⟩ => by rw [e]; rfl) fun f cdv A outer s H E r row ds d row' hr ⟨R, xs, hi, h1, h2, e1, e2, e3, e4⟩ => ?_
  subst e1 e2 e4
  have hx : atI xs (takenM xs.length R).1 = some d := by
    rw [(pickI_lt h1).2]
    exact atI_nat e3
  exact ⟨_, ess_stop (es_ret (ee_ixL (ee_var 1) (ee_caR C hr (pe_nm 0) rfl rfl (ea_cons (ee_len T.len (ea_cons (ee_var 1) ea_nil) rfl) ea_nil) rfl rfl ⟨R, xs.length, hi, by omega, by omega, rfl, rfl, rfl, rfl⟩) hx)) (by intro _ z; cases z), rfl⟩
/-- _law_turn: the turn and the row behind it -/
def drawT : Nat → List Nat → List Nat → Rw → List Nat × Rw
  | 0, found, _, R => (found, R)
  | k + 1, found, left, R => drawT k (found ++ [left.getD (pickI left.length R) 0]) (left.eraseIdx (pickI left.length R)) (takenM left.length R).2
def turnM (n : Nat) (R : Rw) : List Nat × Rw := drawT n [] (List.range n) R
def R_lturn (row ds : List PyData) (d : PyData) (row' : List PyData) : Prop := ∃ (R : Rw) (n : Nat), 0 ≤ R.i ∧ n ≤ 9 ∧ row = rowD R ∧ ds = [iN n] ∧ d = tn (turnM n R).1 ∧ row' = rowD (turnM n R).2
theorem ix_nat {n j : Nat} (hj : j < n) : ixN n (j : Int) = some j := by
  unfold ixN
  rw [if_pos (by omega), if_pos (by omega), Int.toNat_natCast]
theorem ok_lturn (T : Tx mg) (F : Fn K mg "_law_turn" s_lturn ["row", "halls"]) (C : Ca P w K mg base 1 "_law_taken" ["row", "many"] (spR K R_taken)) : Ca P w K mg base 2 "_law_turn" ["row", "halls"] (spR K R_lturn) := by
  have S := sc_lturn
  refine ca_R F S (fun row ds d row' ⟨_, _, _, _, _, e, _⟩ => by rw [e]; rfl) fun f cdv A outer s H E r row ds d row' hr ⟨R, n, hi, h9, e1, e2, e3, e4⟩ => ?_
  subst e1 e2 e3 e4
  -- the state of the loop's turn i
  let st : Nat → List Nat × List Nat × Rw := fun i => Nat.rec ([], List.range n, R) (fun _ q => (q.1 ++ [q.2.1.getD (pickI q.2.1.length q.2.2) 0], q.2.1.eraseIdx (pickI q.2.1.length q.2.2), (takenM q.2.1.length q.2.2).2)) i
  have st0 : st 0 = ([], List.range n, R) := rfl
  have stS : ∀ i, st (i + 1) = ((st i).1 ++ [(st i).2.1.getD (pickI (st i).2.1.length (st i).2.2) 0], (st i).2.1.eraseIdx (pickI (st i).2.1.length (st i).2.2), (takenM (st i).2.1.length (st i).2.2).2) := fun i => rfl
  have hlen : ∀ i, i ≤ n → (st i).2.1.length = n - i ∧ (st i).1.length = i ∧ 0 ≤ (st i).2.2.i := by
    intro i
    induction i with
    | zero => intro _; exact ⟨by rw [st0]; show (List.range n).length = _; rw [List.length_range]; rfl, rfl, hi⟩
    | succ i ih =>
      intro hin
      obtain ⟨i1, i2, i3⟩ := ih (by omega)
      rw [stS]
      refine ⟨?_, ?_, taken_i i3⟩
      · show ((st i).2.1.eraseIdx _).length = _
        rw [List.length_eraseIdx_of_lt (pickI_lt (by omega)).1, i1]; omega
      · show ((st i).1 ++ [_]).length = _
        rw [List.length_append, i2]; rfl
  have hdr : ∀ k i, drawT k (st i).1 (st i).2.1 (st i).2.2 = ((st (i + k)).1, (st (i + k)).2.2) := by
    intro k
    induction k with
    | zero => intro i; rfl
    | succ k ih =>
      intro i
      have := ih (i + 1)
      rw [show i + 1 + k = i + (k + 1) by omega] at this
      rw [← this]; rfl
  let G : Nat → Gm := fun i => ((slotsR N_lturn r (rowD (st i).2.2) [iN n]).set 2 (some (.im (tn (st i).1)))).set 3 (some (.ow ((st i).2.1.map iN)))
  have hfin : turnM n R = ((st n).1, (st n).2.2) := by
    have := hdr n 0
    rw [Nat.zero_add] at this
    rw [← this]; rfl
  rw [hfin]
  refine ⟨_, ess_cons (es_par2 2 3 rfl S.nd (by decide) (ek_d (ee_tup (ds := []) ea_nil (by decide))) (ek_n (en_listRg (n := n) rfl T.list T.range (ee_var 1) (by omega)))) (ess_cons (Γ1 := G n) (es_while G G (fun i => .nx (G (i + 1))) n false PassesOwn.never (fun i hin => ?_) (fun i hin => ?_) ?_ (fun z => by cases z) (fun _ => rfl)) (ess_stop (es_ret (ee_var 2)) (by intro _ z; cases z))), rfl⟩
  · refine et_is (et_cmpOwnL (op_neD hr.units) (ee_new (en_lst (ds := []) ea_nil (by decide))) (has_slot (K := K) (n := 3) (s := .ow ((st i).2.1.map iN)) rfl) (s := .ow ((st i).2.1.map iN)) rfl rfl (pe_nm 3) (rd_neD (sh_iNs _) sh_nil) (nomark _)) ?_
    have h1 := (hlen i (by omega)).1
    show (!PyData.eqv (.list ((st i).2.1.map iN)) (.list (([] : List Nat).map iN))) = true
    rw [eqv_list iN_eqv, decide_eq_false (fun z => by rw [z] at h1; simp at h1; omega)]; rfl
  · obtain ⟨h1, h2, h3⟩ := hlen i (by omega)
    have hp := pickI_lt (n := (st i).2.1.length) (R := (st i).2.2) (by omega)
    refine ⟨ess_one ?_, .inl rfl⟩
    let j := pickI (st i).2.1.length (st i).2.2
    have m1 : ((st i).2.1.map iN).eraseIdx j = ((st i).2.1.eraseIdx j).map iN := by
      rw [List.eraseIdx_eq_take_drop_succ, List.eraseIdx_eq_take_drop_succ, List.map_append, List.map_take, List.map_drop]
    have m2 : (st i).1.map iN ++ [iN ((st i).2.1.getD j 0)] = ((st i).1 ++ [(st i).2.1.getD j 0]).map iN := by simp
    have eG : G (i + 1) = (((G i).set 0 (some (.pr r (rowD (takenM (st i).2.1.length (st i).2.2).2)))).set 3 (some (.ow (((st i).2.1.map iN).eraseIdx j)))).set 2 (some (.im (.tuple ((st i).1.map iN ++ [iN ((st i).2.1.getD j 0)])))) := by
      rw [m1, m2]; rfl
    rw [eG]
    have RR : R_taken (rowD (st i).2.2) [.int ((slotDs (.ow ((st i).2.1.map iN))).length : Nat)] (.int (takenM (st i).2.1.length (st i).2.2).1) (rowD (takenM (st i).2.1.length (st i).2.2).2) := ⟨(st i).2.2, ((st i).2.1.length : Int), h3, by omega, by omega, rfl, by show [PyData.int (((st i).2.1.map iN).length : Nat)] = _; rw [List.length_map], rfl, rfl⟩
    refine es_set 2 S.nd (ee_catT (ds2 := [iN ((st i).2.1.getD j 0)]) (ee_var 2) (ee_tup (ea_cons (ee_popAt (s := .ow ((st i).2.1.map iN)) (s1 := .ow ((st i).2.1.map iN)) (i := (takenM (st i).2.1.length (st i).2.2).1) (j := j) (pe_nm 3) rfl rfl (ea_cons (ee_caR C hr (pe_nm 0) rfl rfl (ea_cons (ee_lenOwn (s := .ow ((st i).2.1.map iN)) T.len rfl rfl (pe_nm 3)) ea_nil) (s1 := .pr r (rowD (st i).2.2)) rfl rfl RR) ea_nil) rfl rfl ?b1 ?b2 ?b3 ?b4) ea_nil) (by simp)) ?b5)
    case b1 => rw [hp.2]; omega
    case b2 => rw [hp.2]; omega
    case b3 =>
      show seqIndex? _ ((st i).2.1.map iN).length = _
      rw [hp.2, List.length_map]
      exact (ixN_seq (ix_nat hp.1)).1
    case b4 =>
      show ((st i).2.1.map iN)[_]? = _
      rw [List.getElem?_map, List.getD_eq_getElem?_getD, List.getElem?_eq_getElem hp.1]; rfl
    case b5 =>
      rw [List.length_map, h2]
      show i + 1 ≤ _
      omega
  · refine et_is (et_cmpOwnL (op_neD hr.units) (ee_new (en_lst (ds := []) ea_nil (by decide))) (has_slot (K := K) (n := 3) (s := .ow ((st n).2.1.map iN)) rfl) (s := .ow ((st n).2.1.map iN)) rfl rfl (pe_nm 3) (rd_neD (sh_iNs _) sh_nil) (nomark _)) ?_
    have h1 := (hlen n (by omega)).1
    show (!PyData.eqv (.list ((st n).2.1.map iN)) (.list (([] : List Nat).map iN))) = false
    rw [eqv_list iN_eqv, decide_eq_true (List.eq_nil_of_length_eq_zero (by omega))]; rfl
end
end DL
end

section
namespace DL
open PySem PySem.Spec PyProof.Rows L2 RM
abbrev N_lleft : List Str := ["every", "some", "thing"]
section
variable {P : Program} {w : World} {K : PySem.W.Frag} {mg : Str → Option Value} {base : Heap}
def R_lleft (ds : List PyData) (d : PyData) : Prop := ∃ (E Q : List (Nat × Nat)), E.length ≤ 81 ∧ ds = [.list (E.map pN), rN Q] ∧ d = rN (leftLot E Q)
end
end DL
end

section
/-! The law's own walks round the rings of pairs. -/
namespace RM
def wStep (t : List Nat) : List (Nat × Nat) → List (Nat × Nat)
  | [] => []
  | p :: r => (p :: r).filter fun x => !decide (x ∈ pRing t p)
def wLeft (t : List Nat) (E : List (Nat × Nat)) : Nat → List (Nat × Nat)
  | 0 => E
  | i + 1 => wStep t (wLeft t E i)
def wHead (t : List Nat) (E : List (Nat × Nat)) (i : Nat) : Nat × Nat := (wLeft t E i).headD (0, 0)
def wSizes (t : List Nat) (E : List (Nat × Nat)) (i : Nat) : List Nat := (List.range i).map fun j => (pRing t (wHead t E j)).length
/-- n turns of the walk leave nothing -/
def WEnd (t : List Nat) (E : List (Nat × Nat)) (n : Nat) : Prop := wLeft t E n = [] ∧ ∀ i, i < n → wLeft t E i ≠ []
theorem wStep_sub (t : List Nat) (L : List (Nat × Nat)) : (wStep t L).Sublist L := by
  cases L with
  | nil => exact List.Sublist.refl _
  | cons p r => exact List.filter_sublist ..
theorem wLeft_sub (t : List Nat) (E : List (Nat × Nat)) : ∀ i, (wLeft t E i).Sublist E
  | 0 => List.Sublist.refl _
  | i + 1 => (wStep_sub t _).trans (wLeft_sub t E i)
theorem wHead_mem {t : List Nat} {E : List (Nat × Nat)} {i : Nat} (h : wLeft t E i ≠ []) : ∃ r, wLeft t E i = wHead t E i :: r := by
  unfold wHead
  cases e : wLeft t E i with
  | nil => exact absurd e h
  | cons p r => exact ⟨r, rfl⟩
theorem wSizes_succ (t : List Nat) (E : List (Nat × Nat)) (i : Nat) : wSizes t E (i + 1) = wSizes t E i ++ [(pRing t (wHead t E i)).length] := by
  unfold wSizes
  rw [List.range_succ, List.map_append]; rfl
theorem wStep_lt {t : List Nat} {L : List (Nat × Nat)} (h : L ≠ []) : (wStep t L).length < L.length := by
  cases L with
  | nil => exact absurd rfl h
  | cons p r =>
    obtain ⟨q, e⟩ := pRing_ne t p
    have : (!decide (p ∈ pRing t p)) = false := by
      rw [e]; simp
    rw [wStep, List.filter_cons, this, if_neg (by decide), List.length_cons]
    have := List.length_filter_le (fun x => !decide (x ∈ pRing t p)) r
    omega
theorem wEnd_ex (t : List Nat) (E : List (Nat × Nat)) : ∃ n, WEnd t E n := by
  have h : ∀ i, (∀ j, j < i → wLeft t E j ≠ []) → (wLeft t E i).length + i ≤ E.length := by
    intro i
    induction i with
    | zero => intro _; exact Nat.le_refl _
    | succ i ih =>
      intro hj
      have h1 := ih fun j h => hj j (by omega)
      have h2 := wStep_lt (t := t) (hj i (Nat.lt_succ_self i))
      show (wStep t (wLeft t E i)).length + (i + 1) ≤ _
      omega
  apply Classical.byContradiction
  intro hn
  have key : ∀ i, wLeft t E i ≠ [] := by
    intro i
    induction i using Nat.strongRecOn with
    | ind i ih => exact fun e => hn ⟨i, e, ih⟩
  have := h (E.length + 1) fun j _ => key j
  omega
end RM
namespace RM
theorem wLeft_len (t : List Nat) (E : List (Nat × Nat)) (i : Nat) (hj : ∀ j, j < i → wLeft t E j ≠ []) : (wLeft t E i).length + i ≤ E.length := by
  induction i with
  | zero => exact Nat.le_refl _
  | succ i ih =>
    have h1 := ih fun j h => hj j (by omega)
    have h2 := wStep_lt (t := t) (hj i (Nat.lt_succ_self i))
    show (wStep t (wLeft t E i)).length + (i + 1) ≤ _
    omega
theorem mem_ringN {α : Type} {f : α → α} {a b : α} {n : Nat} : b ∈ ringN f a n ↔ ∃ k, k < n ∧ itr f k a = b := by
  unfold ringN
  rw [List.mem_map]
  constructor
  · rintro ⟨k, hk, e⟩
    exact ⟨k, List.mem_range.mp hk, e⟩
  · rintro ⟨k, hk, e⟩
    exact ⟨k, List.mem_range.mpr hk, e⟩
theorem per_ne {α : Type} {f : α → α} {a : α} {n : Nat} {L : List α} (h : ∀ x ∈ L, f x ∈ L) (hi : ∀ x ∈ L, ∀ y ∈ L, f x = f y → x = y) (ha : a ∈ L) (hp : IsPer f a n) {j k : Nat} (hjk : j < k) (hk : k < n) : itr f j a ≠ itr f k a := fun e => by
  rw [show k = j + (k - j) by omega, itr_add] at e
  exact hp.2.2 (k - j) (by omega) (by omega) (itr_inj h hi ha (itr_mem h ha _) j e).symm
theorem per_notin {α : Type} {f : α → α} {a : α} {n : Nat} {L : List α} (h : ∀ x ∈ L, f x ∈ L) (hi : ∀ x ∈ L, ∀ y ∈ L, f x = f y → x = y) (ha : a ∈ L) (hp : IsPer f a n) {k : Nat} (hk : k < n) : itr f k a ∉ ringN f a k := fun hm => by
  obtain ⟨j, hj, e⟩ := mem_ringN.mp hm
  exact per_ne h hi ha hp hj hk e
theorem per_in {α : Type} {f : α → α} {a : α} {n : Nat} (hp : IsPer f a n) : itr f n a ∈ ringN f a n := mem_ringN.mpr ⟨0, hp.1, hp.2.1.symm⟩
end RM
end

section
/-! A turn with rings of some lengths. -/
namespace RM
theorem cons_erase {α : Type} {l : List α} {j : Nat} (h : j < l.length) : (l[j] :: l.eraseIdx j).Perm l := by
  rw [List.eraseIdx_eq_take_drop_succ]
  have : l = l.take j ++ l[j] :: l.drop (j + 1) := by
    rw [List.getElem_cons_drop, List.take_append_drop]
  have h2 := (List.perm_middle (a := l[j]) (l₁ := l.take j) (l₂ := l.drop (j + 1))).symm
  rw [← this] at h2
  exact h2
def ringIn (names : List Nat) (at0 len : Nat) : Nat → List Nat → List Nat
  | 0, f => f
  | k + 1, f => (ringIn names at0 len k f).set (at_ names (at0 + k)) (at_ names (at0 + (k + 1) % len))
def ringOut (names : List Nat) : List Nat → Nat → List Nat → List Nat
  | [], _, f => f
  | l :: ls, a, f => ringOut names ls (a + l) (ringIn names a l l f)
def ringedM (names lens : List Nat) : List Nat := ringOut names lens 0 (List.replicate lens.sum 0)
theorem ringIn_len (names : List Nat) (a len : Nat) (f : List Nat) : ∀ k, (ringIn names a len k f).length = f.length
  | 0 => rfl
  | k + 1 => by rw [ringIn, List.length_set, ringIn_len names a len f k]
theorem ringOut_len (names : List Nat) : ∀ (ls : List Nat) (a : Nat) (f : List Nat), (ringOut names ls a f).length = f.length
  | [], _, _ => rfl
  | l :: ls, a, f => by rw [ringOut, ringOut_len names ls, ringIn_len]
theorem ringOut_snoc (names : List Nat) : ∀ (ls : List Nat) (l a : Nat) (f : List Nat), ringOut names (ls ++ [l]) a f = ringIn names (a + ls.sum) l l (ringOut names ls a f)
  | [], l, a, f => by simp [ringOut]
  | m :: ls, l, a, f => by
    rw [List.cons_append, ringOut, ringOut_snoc names ls, ringOut, List.sum_cons, Nat.add_assoc]
end RM
end

section
/-! What the law asks of a turn, in plain Lean. -/
namespace RM
def dueM (t : List Nat) : List (List (Nat × Nat)) := (allLots (allPairs t.length)).filter fun l => decide (ledLot t l = leftLot (allPairs t.length) l)
def leadsB (t : List Nat) (S : List (Nat × Nat)) : Bool := (allPairs t.length).all fun p => decide (p ∈ S) != decide (ledPair t p ∈ S)
structure LawK01 (t : List Nat) : Prop where
  rings20 : (pairRingsM t).length ≤ 20
  can : canLeadM t = decide (dueM t ≠ [])
  count : countLedM t = (dueM t).length
  nets : ledNetsM t = (dueM t).mergeSort (le_ (rLt pLt))
  walks : ∀ n, WEnd t (allPairs t.length) n → (pairRingsM t).length = (wSizes t (allPairs t.length) n).length
  even : ∀ n, WEnd t (allPairs t.length) n → decide (dueM t ≠ []) = decide ((wSizes t (allPairs t.length) n).filter (fun z => decide (z % 2 = 1)) = [])
  sum : (ringsM t).sum = t.length
  ones : (ringsM t).countP (fun z => decide (z = 1)) = ((List.range t.length).filter fun x => decide (at_ t x = x)).length
  odd : decide (dueM t ≠ []) = (decide ((ringsM t).countP (fun z => decide (z = 1)) < 2) && decide ((ringsM t).filter (fun z => decide (z % 4 ≠ 0) && decide (z ≠ 1)) = []))
  leads : ∀ l ∈ allLots (allPairs t.length), leadsB t l = decide (l ∈ dueM t)
  one : canLeadM t = true → ledNetM t ∈ dueM t
end RM
end

section
/-! Halves of rings: which lots a turn leads to what they leave out. -/
namespace RM
theorem allPairs_nodup (n : Nat) : (allPairs n).Nodup := asc_nodup ordP (allPairs_asc n)
/-- an ascending row whose things stand in another one is a part of it -/
theorem asc_sub {S E : List (Nat × Nat)} (hS : S.Pairwise fun a b => pLt a b = true) (hE : E.Pairwise fun a b => pLt a b = true) (h : ∀ x ∈ S, x ∈ E) : S.Sublist E := by
  have hf : (E.filter fun x => decide (x ∈ S)).Pairwise fun a b => pLt a b = true := hE.sublist List.filter_sublist
  have hp : S.Perm (E.filter fun x => decide (x ∈ S)) := by
    rw [List.perm_ext_iff_of_nodup (asc_nodup ordP hS) (asc_nodup ordP hf)]
    intro a
    rw [List.mem_filter, decide_eq_true_iff]
    exact ⟨fun ha => ⟨h a ha, ha⟩, fun ha => ha.2⟩
  have e1 := sort_is ordP hp hS
  have e2 := List.mergeSort_of_pairwise (le_of_lt ordP hf)
  rw [e2] at e1
  rw [← e1]
  exact List.filter_sublist
theorem lots_nodup_go {α : Type} : ∀ (E : List α) (F : List (List α)), E.Nodup → F.Nodup → (∀ l ∈ F, ∀ x ∈ E, x ∉ l) → (E.foldl (fun F x => F ++ F.map fun l => l ++ [x]) F).Nodup
  | [], F, _, hF, _ => hF
  | x :: E, F, hE, hF, hd => by
    rw [List.foldl_cons]
    obtain ⟨hx, hE'⟩ := List.nodup_cons.mp hE
    refine lots_nodup_go E _ hE' ?_ ?_
    · rw [List.nodup_append]
      refine ⟨hF, ?_, ?_⟩
      · rw [List.nodup_iff_pairwise_ne, List.pairwise_map]
        refine (List.nodup_iff_pairwise_ne.mp hF).imp fun {a b} h e => h ?_
        exact List.append_cancel_right e
      · intro a ha b hb e
        obtain ⟨l, hl, rfl⟩ := List.mem_map.mp hb
        exact hd a ha x List.mem_cons_self (by rw [e]; simp)
    · intro l hl y hy
      rcases List.mem_append.mp hl with h | h
      · exact hd l h y (List.mem_cons_of_mem _ hy)
      · obtain ⟨l0, h0, rfl⟩ := List.mem_map.mp h
        intro hm
        rcases List.mem_append.mp hm with h1 | h1
        · exact hd l0 h0 y (List.mem_cons_of_mem _ hy) h1
        · rw [List.mem_singleton.mp h1] at hy; exact hx hy
theorem allLots_nodup {α : Type} {E : List α} (h : E.Nodup) : (allLots E).Nodup := lots_nodup_go E [[]] h (by simp) (fun l hl x _ => by rw [List.mem_singleton.mp hl]; simp)
/-- f is one to one on all pairs, and onto -/
theorem led_onto {t : List Nat} (ht : IsTurn t) {x : Nat × Nat} (hx : x ∈ allPairs t.length) : ∃ p ∈ allPairs t.length, ledPair t p = x := by
  have hn : ((allPairs t.length).map (ledPair t)).Nodup := by
    rw [List.nodup_iff_pairwise_ne, List.pairwise_map]
    have := List.nodup_iff_pairwise_ne.mp (allPairs_nodup t.length)
    exact this.imp_of_mem fun {a b} ha hb h e => h (led_inj ht a ha b hb e)
  apply Classical.byContradiction
  intro hc
  have h2 : (x :: (allPairs t.length).map (ledPair t)).Nodup := List.nodup_cons.mpr ⟨fun h => by
    obtain ⟨p, hp, e⟩ := List.mem_map.mp h
    exact hc ⟨p, hp, e⟩, hn⟩
  have h3 := h2.length_le_of_subset (l₂ := allPairs t.length) fun y hy => by
    rcases List.mem_cons.mp hy with e | e
    · rw [e]; exact hx
    · obtain ⟨p, hp, rfl⟩ := List.mem_map.mp e
      exact led_mem ht p hp
  rw [List.length_cons, List.length_map] at h3
  omega
/-- S changes along f -/
def Alt (t : List Nat) (S : List (Nat × Nat)) : Prop := ∀ p ∈ allPairs t.length, (p ∈ S ↔ ledPair t p ∉ S)
theorem leadsB_iff {t : List Nat} {S : List (Nat × Nat)} : leadsB t S = true ↔ Alt t S := by
  unfold leadsB Alt
  rw [List.all_eq_true]
  constructor
  · intro h p hp
    have := h p hp
    by_cases h1 : p ∈ S <;> by_cases h2 : ledPair t p ∈ S <;> simp [h1, h2] at this ⊢
  · intro h p hp
    have := h p hp
    by_cases h1 : p ∈ S <;> by_cases h2 : ledPair t p ∈ S <;> simp [h1, h2] at this ⊢
theorem due_iff {t : List Nat} (ht : IsTurn t) {l : List (Nat × Nat)} (hl : l ∈ allLots (allPairs t.length)) : ledLot t l = leftLot (allPairs t.length) l ↔ Alt t l := by
  have hs := mem_lots.mp hl
  have hsub := hs.subset
  have hln := (allPairs_nodup t.length).sublist hs
  have hmem : ∀ x, x ∈ ledLot t l ↔ ∃ q ∈ l, ledPair t q = x := fun x => by
    unfold ledLot
    rw [List.mem_mergeSort, List.mem_map]
  have hleft : ∀ x, x ∈ leftLot (allPairs t.length) l ↔ x ∈ allPairs t.length ∧ x ∉ l := fun x => by
    unfold leftLot
    rw [List.mem_filter]
    simp
  constructor
  · intro e p hp
    constructor
    · intro h1 h2
      have : ledPair t p ∈ leftLot (allPairs t.length) l := by rw [← e]; exact (hmem _).mpr ⟨p, h1, rfl⟩
      exact ((hleft _).mp this).2 h2
    · intro h1
      have : ledPair t p ∈ ledLot t l := by rw [e]; exact (hleft _).mpr ⟨led_mem ht p hp, h1⟩
      obtain ⟨q, hq, eq⟩ := (hmem _).mp this
      rw [← led_inj ht q (hsub hq) p hp eq]; exact hq
  · intro ha
    have hp : (leftLot (allPairs t.length) l).Perm (l.map (ledPair t)) := by
      have n1 : (leftLot (allPairs t.length) l).Nodup := (allPairs_nodup t.length).sublist List.filter_sublist
      have n2 : (l.map (ledPair t)).Nodup := by
        rw [List.nodup_iff_pairwise_ne, List.pairwise_map]
        exact (List.nodup_iff_pairwise_ne.mp hln).imp_of_mem fun {a b} ha hb h e => h (led_inj ht a (hsub ha) b (hsub hb) e)
      rw [List.perm_ext_iff_of_nodup n1 n2]
      intro x
      rw [hleft, List.mem_map]
      constructor
      · rintro ⟨hx, hxl⟩
        obtain ⟨p, hp, rfl⟩ := led_onto ht hx
        exact ⟨p, (ha p hp).mpr hxl, rfl⟩
      · rintro ⟨p, hp, rfl⟩
        exact ⟨led_mem ht p (hsub hp), (ha p (hsub hp)).mp hp⟩
    exact sort_is ordP hp ((allPairs_asc t.length).sublist List.filter_sublist)
theorem mem_due {t : List Nat} (ht : IsTurn t) {l : List (Nat × Nat)} : l ∈ dueM t ↔ l ∈ allLots (allPairs t.length) ∧ Alt t l := by
  unfold dueM
  rw [List.mem_filter]
  constructor
  · rintro ⟨h1, h2⟩; exact ⟨h1, (due_iff ht h1).mp (of_decide_eq_true h2)⟩
  · rintro ⟨h1, h2⟩; exact ⟨h1, decide_eq_true ((due_iff ht h1).mpr h2)⟩
/-! along a ring -/
theorem alt_itr {t : List Nat} (ht : IsTurn t) {S : List (Nat × Nat)} (ha : Alt t S) {p : Nat × Nat} (hp : p ∈ allPairs t.length) : ∀ k, (itr (ledPair t) k p ∈ S ↔ (p ∈ S ↔ k % 2 = 0))
  | 0 => by show p ∈ S ↔ _; simp
  | k + 1 => by
    have h1 := ha _ (itr_mem (led_mem ht) hp k)
    have h2 := alt_itr ht ha hp k
    show ledPair t (itr (ledPair t) k p) ∈ S ↔ _
    have h3 : (k + 1) % 2 = 0 ↔ ¬ k % 2 = 0 := by omega
    rw [h3]
    by_cases a : p ∈ S <;> by_cases b : k % 2 = 0 <;> by_cases c : itr (ledPair t) k p ∈ S <;> by_cases d : ledPair t (itr (ledPair t) k p) ∈ S <;> simp [a, b, c, d] at h1 h2 ⊢
theorem alt_even {t : List Nat} (ht : IsTurn t) {S : List (Nat × Nat)} (ha : Alt t S) {p : Nat × Nat} (hp : p ∈ allPairs t.length) : pPer t p % 2 = 0 := by
  have h1 := alt_itr ht ha hp (pPer t p)
  rw [(pPer_is ht hp).1.2.1] at h1
  by_cases a : p ∈ S <;> by_cases b : pPer t p % 2 = 0 <;> simp [a, b] at h1 ⊢
theorem itr_mul {α : Type} {f : α → α} {a : α} {k : Nat} (h : itr f k a = a) : ∀ m r, itr f (k * m + r) a = itr f r a
  | 0, r => by rw [Nat.mul_zero, Nat.zero_add]
  | m + 1, r => by rw [Nat.mul_succ, Nat.add_assoc, Nat.add_comm k r, ← Nat.add_assoc, itr_add, h, itr_mul h m r]
theorem itr_mod {α : Type} {f : α → α} {a : α} {k : Nat} (h : IsPer f a k) (n : Nat) : itr f n a = itr f (n % k) a := by
  conv => lhs; rw [← Nat.div_add_mod n k]
  exact itr_mul h.2.1 _ _
theorem mem_pRing {t : List Nat} (ht : IsTurn t) {p x : Nat × Nat} (hp : p ∈ allPairs t.length) : x ∈ pRing t p ↔ ∃ k, itr (ledPair t) k p = x := by
  have hper := (pPer_is ht hp).1
  unfold pRing
  rw [mem_ringN]
  constructor
  · rintro ⟨k, _, e⟩; exact ⟨k, e⟩
  · rintro ⟨k, e⟩
    exact ⟨k % pPer t p, Nat.mod_lt _ hper.1, by rw [← itr_mod hper]; exact e⟩
theorem ring_sym {t : List Nat} (ht : IsTurn t) {p x : Nat × Nat} (hp : p ∈ allPairs t.length) (h : x ∈ pRing t p) : p ∈ pRing t x := by
  have hper := (pPer_is ht hp).1
  have hx : x ∈ allPairs t.length := by
    obtain ⟨k, rfl⟩ := (mem_pRing ht hp).mp h
    exact itr_mem (led_mem ht) hp k
  obtain ⟨k, hk, e⟩ := mem_ringN.mp h
  refine (mem_pRing ht hx).mpr ⟨pPer t p - k, ?_⟩
  rw [← e, ← itr_add, show pPer t p - k + k = pPer t p by omega]
  exact hper.2.1
theorem ring_trans {t : List Nat} (ht : IsTurn t) {p x y : Nat × Nat} (hp : p ∈ allPairs t.length) (h : x ∈ pRing t p) (h2 : y ∈ pRing t x) : y ∈ pRing t p := by
  obtain ⟨k, rfl⟩ := (mem_pRing ht hp).mp h
  obtain ⟨j, rfl⟩ := (mem_pRing ht (itr_mem (led_mem ht) hp k)).mp h2
  exact (mem_pRing ht hp).mpr ⟨j + k, itr_add j k⟩
theorem ring_in {t : List Nat} (ht : IsTurn t) {p x : Nat × Nat} (hp : p ∈ allPairs t.length) (h : x ∈ pRing t p) : x ∈ allPairs t.length := by
  obtain ⟨k, rfl⟩ := (mem_pRing ht hp).mp h
  exact itr_mem (led_mem ht) hp k
theorem pRing_nodup {t : List Nat} (ht : IsTurn t) {p : Nat × Nat} (hp : p ∈ allPairs t.length) : (pRing t p).Nodup := by
  unfold pRing ringN
  rw [List.nodup_iff_pairwise_ne, List.pairwise_map]
  have := List.pairwise_lt_range (n := pPer t p)
  exact this.imp_of_mem fun {a b} ha hb h => per_ne (led_mem ht) (led_inj ht) hp (pPer_is ht hp).1 h (List.mem_range.mp hb)
/-! the least of a ring -/
theorem least_spec {α : Type} {lt : α → α → Bool} (o : Ordd lt) : ∀ (xs : List α) (x : α), (leastOf lt x xs = x ∨ leastOf lt x xs ∈ xs) ∧ lt x (leastOf lt x xs) = false ∧ ∀ y ∈ xs, lt y (leastOf lt x xs) = false
  | [], x => ⟨.inl rfl, o.ir x, fun _ h => by cases h⟩
  | y :: ys, x => by
    show (leastOf lt (if lt y x = true then y else x) ys = x ∨ _) ∧ _
    have e : leastOf lt x (y :: ys) = leastOf lt (if lt y x = true then y else x) ys := rfl
    rw [e]
    obtain ⟨h1, h2, h3⟩ := least_spec o ys (if lt y x = true then y else x)
    cases hy : lt y x with
    | true =>
      rw [hy] at h1 h2 h3
      rw [if_pos rfl] at h1 h2 h3 ⊢
      refine ⟨h1.elim (fun h => .inr (by rw [h]; exact List.mem_cons_self)) (fun h => .inr (List.mem_cons_of_mem _ h)), ?_, ?_⟩
      · cases hh : lt x (leastOf lt y ys) with
        | false => rfl
        | true => rw [o.tr _ _ _ hy hh] at h2; cases h2
      · intro z hz
        rcases List.mem_cons.mp hz with h | h
        · rw [h]; exact h2
        · exact h3 z h
    | false =>
      rw [hy] at h1 h2 h3
      rw [if_neg (by decide)] at h1 h2 h3 ⊢
      refine ⟨h1.imp id (List.mem_cons_of_mem _), h2, ?_⟩
      intro z hz
      rcases List.mem_cons.mp hz with h | h
      · rw [h]
        cases hh : lt y (leastOf lt x ys) with
        | false => rfl
        | true =>
          have h5 := o.letr x (leastOf lt x ys) x
          rcases h1 with h6 | h6
          · rw [h6] at hh; rw [hh] at hy; cases hy
          · have h7 := h2
            cases h8 : lt (leastOf lt x ys) x with
            | true => rw [o.tr _ _ _ hh h8] at hy; cases hy
            | false => rw [← o.tri _ _ h7 h8] at hh; rw [hh] at hy; cases hy
      · exact h3 z h
theorem headMin_spec {t : List Nat} {p : Nat × Nat} : headMin pLt (pRing t p) = true ↔ ∀ y ∈ pRing t p, pLt y p = false := by
  obtain ⟨r, e⟩ := pRing_ne t p
  rw [e]
  obtain ⟨h1, h2, h3⟩ := least_spec ordP r p
  show decide (p = leastOf pLt p r) = true ↔ _
  rw [decide_eq_true_iff]
  constructor
  · intro h y hy
    rcases List.mem_cons.mp hy with e | e
    · rw [e]; exact ordP.ir p
    · rw [h]; rw [← h]; have := h3 y e; rw [← h] at this; exact this
  · intro h
    refine ordP.tri _ _ h2 ?_
    rcases h1 with e | e
    · rw [e]; exact ordP.ir p
    · exact h _ (List.mem_cons_of_mem _ e)
/-- every pair stands in just one of the rings that begin with their least pair -/
theorem mem_rings {t : List Nat} {r : List (Nat × Nat)} : r ∈ pairRingsM t ↔ ∃ p ∈ allPairs t.length, pRing t p = r ∧ headMin pLt r = true := by
  unfold pairRingsM
  rw [List.mem_filter, List.mem_map]
  constructor
  · rintro ⟨⟨p, hp, e⟩, h⟩; exact ⟨p, hp, e, h⟩
  · rintro ⟨p, hp, e, h⟩; exact ⟨⟨p, hp, e⟩, h⟩
theorem cover {t : List Nat} (ht : IsTurn t) {x : Nat × Nat} (hx : x ∈ allPairs t.length) : ∃ p ∈ allPairs t.length, headMin pLt (pRing t p) = true ∧ x ∈ pRing t p := by
  obtain ⟨r, e⟩ := pRing_ne t x
  obtain ⟨h1, h2, h3⟩ := least_spec ordP r x
  have hm : leastOf pLt x r ∈ pRing t x := by
    rw [e]
    rcases h1 with h | h
    · rw [h]; exact List.mem_cons_self
    · exact List.mem_cons_of_mem _ h
  have hp := ring_in ht hx hm
  have hs := ring_sym ht hx hm
  refine ⟨_, hp, headMin_spec.mpr fun y hy => ?_, hs⟩
  have := ring_trans ht hx hm hy
  rw [e] at this
  rcases List.mem_cons.mp this with h | h
  · rw [h]; exact h2
  · exact h3 y h
theorem one_head {t : List Nat} (ht : IsTurn t) {p q x : Nat × Nat} (hp : p ∈ allPairs t.length) (hq : q ∈ allPairs t.length) (h1 : headMin pLt (pRing t p) = true) (h2 : headMin pLt (pRing t q) = true) (hx1 : x ∈ pRing t p) (hx2 : x ∈ pRing t q) : p = q := by
  have a : q ∈ pRing t p := ring_trans ht hp hx1 (ring_sym ht hq hx2)
  have b : p ∈ pRing t q := ring_sym ht hp a
  exact ordP.tri _ _ (headMin_spec.mp h2 _ b) (headMin_spec.mp h1 _ a)
end RM
end

section
/-! Halves of rings: the lots made of them. -/
namespace RM
theorem evens_at {α : Type} : ∀ (l : List α) (x : α), x ∈ evens l ↔ ∃ i, 2 * i < l.length ∧ l[2 * i]? = some x
  | [], x => by simp [evens]
  | [y], x => by
    show x ∈ [y] ↔ _
    rw [List.mem_singleton]
    constructor
    · rintro rfl; exact ⟨0, by simp, by simp⟩
    · rintro ⟨i, h, e⟩
      have : i = 0 := by simp at h; omega
      subst this
      simpa using e.symm
  | y :: z :: r, x => by
    show x ∈ y :: evens r ↔ _
    rw [List.mem_cons, evens_at r]
    constructor
    · rintro (rfl | ⟨i, h, e⟩)
      · exact ⟨0, by simp, by simp⟩
      · exact ⟨i + 1, by simp; omega, by rw [show 2 * (i + 1) = 2 * i + 1 + 1 by omega, List.getElem?_cons_succ, List.getElem?_cons_succ]; exact e⟩
    · rintro ⟨i, h, e⟩
      cases i with
      | zero => left; simpa using e.symm
      | succ i =>
        right
        rw [show 2 * (i + 1) = 2 * i + 1 + 1 by omega, List.getElem?_cons_succ, List.getElem?_cons_succ] at e
        exact ⟨i, by simp at h; omega, e⟩
theorem odds_at {α : Type} (l : List α) (x : α) : x ∈ odds l ↔ ∃ i, 2 * i + 1 < l.length ∧ l[2 * i + 1]? = some x := by
  unfold odds
  rw [evens_at]
  cases l with
  | nil => simp
  | cons y r =>
    constructor
    · rintro ⟨i, h, e⟩; exact ⟨i, by simp at h ⊢; omega, by rw [List.getElem?_cons_succ]; exact e⟩
    · rintro ⟨i, h, e⟩; exact ⟨i, by simp at h ⊢; omega, by rw [List.getElem?_cons_succ] at e; exact e⟩
theorem ring_at {α : Type} {f : α → α} {a : α} {n i : Nat} (h : i < n) : (ringN f a n)[i]? = some (itr f i a) := by
  unfold ringN
  rw [List.getElem?_map, List.getElem?_range h]; rfl
theorem evens_sub' {α : Type} : ∀ l : List α, (evens l).Sublist l
  | [] => .slnil
  | [x] => List.Sublist.refl _
  | x :: y :: r => .cons_cons x (.cons y (evens_sub' r))
theorem odds_sub' {α : Type} (l : List α) : (odds l).Sublist l := (evens_sub' _).trans (List.tail_sublist l)
/-- of a ring of an even length: which things stand in its first, in its second half -/
theorem half_even {t : List Nat} (ht : IsTurn t) {p : Nat × Nat} (hp : p ∈ allPairs t.length) (he : pPer t p % 2 = 0) (k : Nat) : (itr (ledPair t) k p ∈ evens (pRing t p) ↔ k % 2 = 0) ∧ (itr (ledPair t) k p ∈ odds (pRing t p) ↔ k % 2 = 1) := by
  have hper := (pPer_is ht hp).1
  have hlen : (pRing t p).length = pPer t p := ring_len
  have hk : k % pPer t p < pPer t p := Nat.mod_lt _ hper.1
  have hpar : (k % pPer t p) % 2 = k % 2 := by
    have h1 := Nat.div_add_mod k (pPer t p)
    have h2 : (pPer t p * (k / pPer t p)) % 2 = 0 := by rw [Nat.mul_mod, he, Nat.zero_mul]
    omega
  have uniq : ∀ i, i < pPer t p → itr (ledPair t) i p = itr (ledPair t) k p → i = k % pPer t p := fun i hi e => by
    rw [itr_mod hper k] at e
    apply Classical.byContradiction
    intro hne
    rcases Nat.lt_or_gt_of_ne hne with h | h
    · exact per_ne (led_mem ht) (led_inj ht) hp hper h hk e
    · exact per_ne (led_mem ht) (led_inj ht) hp hper h hi e.symm
  constructor
  · rw [evens_at, hlen]
    constructor
    · rintro ⟨i, hi, e⟩
      unfold pRing at e
      rw [ring_at hi] at e
      have := uniq _ hi (Option.some.inj e)
      omega
    · intro h
      refine ⟨k % pPer t p / 2, by omega, ?_⟩
      rw [show 2 * (k % pPer t p / 2) = k % pPer t p by omega]
      unfold pRing
      rw [ring_at hk, itr_mod hper k]
  · rw [odds_at, hlen]
    constructor
    · rintro ⟨i, hi, e⟩
      unfold pRing at e
      rw [ring_at hi] at e
      have := uniq _ hi (Option.some.inj e)
      omega
    · intro h
      refine ⟨k % pPer t p / 2, by omega, ?_⟩
      rw [show 2 * (k % pPer t p / 2) + 1 = k % pPer t p by omega]
      unfold pRing
      rw [ring_at hk, itr_mod hper k]
/-- a half, by a word -/
def half {α : Type} (b : Bool) (r : List α) : List α := if b = true then evens r else odds r
theorem half_sub {α : Type} (b : Bool) (r : List α) : (half b r).Sublist r := by
  cases b
  · exact odds_sub' r
  · exact evens_sub' r
/-- any choice of halves is a lot -/
theorem choice_go {α : Type} (c : List α → Bool) : ∀ (R : List (List α)) (L : List (List α)) (l : List α), l ∈ L → l ++ R.flatMap (fun r => half (c r) r) ∈ R.foldl lotsStep L
  | [], L, l, h => by simpa using h
  | r :: R, L, l, h => by
    rw [List.foldl_cons, List.flatMap_cons, ← List.append_assoc]
    refine choice_go c R (lotsStep L r) _ ?_
    unfold lotsStep
    rw [List.mem_flatMap]
    refine ⟨l, h, ?_⟩
    unfold half
    cases c r <;> simp
theorem choice_in {α : Type} (c : List α → Bool) (R : List (List α)) : R.flatMap (fun r => half (c r) r) ∈ lotsM R := by
  have := choice_go c R [[]] [] (List.mem_singleton.mpr rfl)
  rw [List.nil_append] at this
  exact this
/-- what a lot is, of rings that have nothing in common -/
def Good {α : Type} (R : List (List α)) (l : List α) : Prop := (∀ x ∈ l, ∃ r ∈ R, x ∈ r) ∧ l.Nodup ∧ ∀ r ∈ R, ∃ b, ∀ x ∈ r, (x ∈ l ↔ x ∈ half b r)
abbrev Apart {α : Type} (r s : List α) : Prop := ∀ x ∈ r, x ∉ s
theorem good_step {α : Type} {R' : List (List α)} {r l0 : List α} {b : Bool} (hg : Good R' l0) (hd : ∀ s ∈ R', Apart s r) (hr : r.Nodup) : Good (R' ++ [r]) (l0 ++ half b r) := by
  obtain ⟨g1, g2, g3⟩ := hg
  have hn : ∀ x ∈ l0, x ∉ r := fun x hx => let ⟨s, hs, h⟩ := g1 x hx; hd s hs x h
  refine ⟨fun x hx => ?_, ?_, fun s hs => ?_⟩
  · rcases List.mem_append.mp hx with h | h
    · obtain ⟨s, hs, h⟩ := g1 x h
      exact ⟨s, List.mem_append_left _ hs, h⟩
    · exact ⟨r, by simp, (half_sub b r).subset h⟩
  · rw [List.nodup_append]
    refine ⟨g2, hr.sublist (half_sub b r), fun x hx y hy e => hn x hx ?_⟩
    rw [e]; exact (half_sub b r).subset hy
  · rcases List.mem_append.mp hs with h | h
    · obtain ⟨c, hc⟩ := g3 s h
      refine ⟨c, fun x hx => ?_⟩
      rw [List.mem_append, ← hc x hx]
      exact ⟨fun z => z.resolve_right fun w => hd s h x hx ((half_sub b r).subset w), .inl⟩
    · rw [List.mem_singleton.mp h]
      refine ⟨b, fun x hx => ?_⟩
      rw [List.mem_append]
      exact ⟨fun z => z.resolve_left fun w => hn x w hx, .inr⟩
theorem mem_step {α : Type} {L : List (List α)} {r l : List α} : l ∈ lotsStep L r ↔ ∃ l0 ∈ L, ∃ b, l = l0 ++ half b r := by
  unfold lotsStep
  rw [List.mem_flatMap]
  constructor
  · rintro ⟨l0, h, hl⟩
    refine ⟨l0, h, ?_⟩
    simp only [List.map_cons, List.map_nil, List.mem_cons, List.not_mem_nil, or_false] at hl
    rcases hl with e | e
    · exact ⟨true, e⟩
    · exact ⟨false, e⟩
  · rintro ⟨l0, h, b, e⟩
    refine ⟨l0, h, ?_⟩
    cases b
    · rw [e]; simp [half]
    · rw [e]; simp [half]
theorem good_go {α : Type} : ∀ (R : List (List α)) (L : List (List α)) (R' : List (List α)), (∀ l ∈ L, Good R' l) → R.Pairwise Apart → (∀ s ∈ R', ∀ r ∈ R, Apart s r) → (∀ r ∈ R, r.Nodup) → ∀ l ∈ R.foldl lotsStep L, Good (R' ++ R) l
  | [], L, R', h, _, _, _, l, hl => by rw [List.append_nil]; exact h l hl
  | r :: R, L, R', h, hp, hd, hn, l, hl => by
    obtain ⟨p1, p2⟩ := List.pairwise_cons.mp hp
    have := good_go R (lotsStep L r) (R' ++ [r]) (fun l hl => by
      obtain ⟨l0, h0, b, rfl⟩ := mem_step.mp hl
      exact good_step (h l0 h0) (fun s hs => hd s hs r List.mem_cons_self) (hn r List.mem_cons_self)) p2 (fun s hs q hq => by
      rcases List.mem_append.mp hs with z | z
      · exact hd s z q (List.mem_cons_of_mem _ hq)
      · rw [List.mem_singleton.mp z]; exact p1 q hq) (fun q hq => hn q (List.mem_cons_of_mem _ hq)) l hl
    rw [List.append_assoc] at this
    exact this
theorem good_lots {α : Type} {R : List (List α)} (hp : R.Pairwise Apart) (hn : ∀ r ∈ R, r.Nodup) {l : List α} (hl : l ∈ lotsM R) : Good R l :=
  good_go R [[]] [] (fun l h => by rw [List.mem_singleton.mp h]; exact ⟨fun x h => (by cases h), List.nodup_nil, fun r h => (by cases h)⟩) hp (fun s h => (by cases h)) hn l hl
/-- two lots are told apart by a thing -/
def Told {α : Type} (a b : List α) : Prop := ∃ x, (x ∈ a ∧ x ∉ b) ∨ (x ∉ a ∧ x ∈ b)
theorem told_go {α : Type} : ∀ (R : List (List α)) (L : List (List α)) (R' : List (List α)), (∀ l ∈ L, Good R' l) → L.Pairwise Told → R.Pairwise Apart → (∀ s ∈ R', ∀ r ∈ R, Apart s r) → (∀ r ∈ R, r.Nodup ∧ r ≠ []) → (R.foldl lotsStep L).Pairwise Told
  | [], L, R', _, h, _, _, _ => h
  | r :: R, L, R', h, ht, hp, hd, hn => by
    obtain ⟨p1, p2⟩ := List.pairwise_cons.mp hp
    have hr := hn r List.mem_cons_self
    have hin : ∀ l ∈ L, ∀ x ∈ l, x ∉ r := fun l hl x hx => let ⟨s, hs, z⟩ := (h l hl).1 x hx; hd s hs r List.mem_cons_self x z
    refine told_go R (lotsStep L r) (R' ++ [r]) (fun l hl => by
      obtain ⟨l0, h0, b, rfl⟩ := mem_step.mp hl
      exact good_step (h l0 h0) (fun s hs => hd s hs r List.mem_cons_self) hr.1) ?_ p2 (fun s hs q hq => by
      rcases List.mem_append.mp hs with z | z
      · exact hd s z q (List.mem_cons_of_mem _ hq)
      · rw [List.mem_singleton.mp z]; exact p1 q hq) (fun q hq => hn q (List.mem_cons_of_mem _ hq))
    unfold lotsStep
    rw [List.pairwise_flatMap]
    constructor
    · intro l hl
      obtain ⟨y, q, e⟩ : ∃ y q, r = y :: q := by
        cases r with
        | nil => exact absurd rfl hr.2
        | cons y q => exact ⟨y, q, rfl⟩
      have hy : y ∉ l := fun z => hin l hl y z (by rw [e]; exact List.mem_cons_self)
      have h1 : y ∈ evens r := by
        rw [e]
        cases q <;> simp [evens]
      have h2 : y ∉ odds r := fun z => by
        rw [e] at z
        have hnd := hr.1
        rw [e] at hnd
        have z' : y ∈ q := (evens_sub' q).subset z
        exact (List.nodup_cons.mp hnd).1 z'
      simp only [List.map_cons, List.map_nil, List.pairwise_cons, List.mem_cons, List.not_mem_nil, or_false, forall_eq, List.Pairwise.nil, and_true, false_implies, implies_true]
      exact ⟨y, .inl ⟨List.mem_append_right _ h1, fun z => (List.mem_append.mp z).elim hy h2⟩⟩
    · refine ht.imp_of_mem fun {a b} ha hb ⟨x, hx⟩ u hu v hv => ?_
      have hu' : ∃ c, u = a ++ half c r := by
        simp only [List.map_cons, List.map_nil, List.mem_cons, List.not_mem_nil, or_false] at hu
        rcases hu with e | e
        · exact ⟨true, e⟩
        · exact ⟨false, e⟩
      have hv' : ∃ c, v = b ++ half c r := by
        simp only [List.map_cons, List.map_nil, List.mem_cons, List.not_mem_nil, or_false] at hv
        rcases hv with e | e
        · exact ⟨true, e⟩
        · exact ⟨false, e⟩
      obtain ⟨c1, rfl⟩ := hu'
      obtain ⟨c2, rfl⟩ := hv'
      refine ⟨x, ?_⟩
      rcases hx with ⟨h1, h2⟩ | ⟨h1, h2⟩
      · have hxr := hin a ha x h1
        exact .inl ⟨List.mem_append_left _ h1, fun z => (List.mem_append.mp z).elim h2 fun w => hxr ((half_sub _ r).subset w)⟩
      · have hxr := hin b hb x h2
        exact .inr ⟨fun z => (List.mem_append.mp z).elim h1 fun w => hxr ((half_sub _ r).subset w), List.mem_append_left _ h2⟩
theorem told_lots {α : Type} {R : List (List α)} (hp : R.Pairwise Apart) (hn : ∀ r ∈ R, r.Nodup ∧ r ≠ []) : (lotsM R).Pairwise Told :=
  told_go R [[]] [] (fun l h => by rw [List.mem_singleton.mp h]; exact ⟨fun x h => (by cases h), List.nodup_nil, fun r h => (by cases h)⟩) (List.pairwise_singleton _ _) hp (fun s h => (by cases h)) hn
/-! the rings of a turn -/
theorem rings_apart {t : List Nat} (ht : IsTurn t) : (pairRingsM t).Pairwise Apart := by
  unfold pairRingsM
  rw [List.filter_map, List.pairwise_map]
  refine List.Pairwise.imp_of_mem ?_ (List.nodup_iff_pairwise_ne.mp ((allPairs_nodup t.length).sublist List.filter_sublist))
  intro p q hp hq hne x hx1 hx2
  obtain ⟨p1, p2⟩ := List.mem_filter.mp hp
  obtain ⟨q1, q2⟩ := List.mem_filter.mp hq
  exact hne (one_head ht p1 q1 p2 q2 hx1 hx2)
theorem rings_nodup {t : List Nat} (ht : IsTurn t) : ∀ r ∈ pairRingsM t, r.Nodup ∧ r ≠ [] := fun r hr => by
  obtain ⟨p, hp, rfl, _⟩ := mem_rings.mp hr
  refine ⟨pRing_nodup ht hp, fun e => ?_⟩
  obtain ⟨q, e2⟩ := pRing_ne t p
  rw [e] at e2; cases e2
def AllEven (t : List Nat) : Prop := ∀ p ∈ allPairs t.length, pPer t p % 2 = 0
theorem lot_alt {t : List Nat} (ht : IsTurn t) (he : AllEven t) {l : List (Nat × Nat)} (hl : l ∈ lotsM (pairRingsM t)) : Alt t (l.mergeSort (le_ pLt)) ∧ l.mergeSort (le_ pLt) ∈ allLots (allPairs t.length) := by
  obtain ⟨g1, g2, g3⟩ := good_lots (rings_apart ht) (fun r hr => (rings_nodup ht r hr).1) hl
  constructor
  · intro x hx
    rw [List.mem_mergeSort, List.mem_mergeSort]
    obtain ⟨p, hp, hh, hxr⟩ := cover ht hx
    obtain ⟨b, hb⟩ := g3 (pRing t p) (mem_rings.mpr ⟨p, hp, rfl, hh⟩)
    obtain ⟨k, rfl⟩ := (mem_pRing ht hp).mp hxr
    have hx2 : ledPair t (itr (ledPair t) k p) ∈ pRing t p := (mem_pRing ht hp).mpr ⟨k + 1, rfl⟩
    rw [hb _ hxr, hb _ hx2]
    have h1 := half_even ht hp (he p hp) k
    have h2 := half_even ht hp (he p hp) (k + 1)
    have e2 : itr (ledPair t) (k + 1) p = ledPair t (itr (ledPair t) k p) := rfl
    rw [e2] at h2
    unfold half
    cases b
    · show _ ∈ odds _ ↔ _ ∉ odds _
      rw [h1.2, h2.2]; omega
    · show _ ∈ evens _ ↔ _ ∉ evens _
      rw [h1.1, h2.1]; omega
  · refine mem_lots.mpr (asc_sub (sort_asc ordP g2) (allPairs_asc _) fun x hx => ?_)
    obtain ⟨r, hr, hxr⟩ := g1 x (List.mem_mergeSort.mp hx)
    obtain ⟨p, hp, rfl, _⟩ := mem_rings.mp hr
    exact ring_in ht hp hxr
theorem alt_lot {t : List Nat} (ht : IsTurn t) {S : List (Nat × Nat)} (hS : S ∈ allLots (allPairs t.length)) (ha : Alt t S) : ∃ l ∈ lotsM (pairRingsM t), l.mergeSort (le_ pLt) = S := by
  have hs := mem_lots.mp hS
  let c : List (Nat × Nat) → Bool := fun r => decide (r.headD (0, 0) ∈ S)
  refine ⟨_, choice_in c (pairRingsM t), ?_⟩
  obtain ⟨g1, g2, g3⟩ := good_lots (rings_apart ht) (fun r hr => (rings_nodup ht r hr).1) (choice_in c (pairRingsM t))
  have hasc := (allPairs_asc t.length).sublist hs
  refine sort_is ordP ?_ hasc
  rw [List.perm_ext_iff_of_nodup (asc_nodup ordP hasc) g2]
  have key : ∀ p ∈ allPairs t.length, headMin pLt (pRing t p) = true → ∀ x ∈ pRing t p, (x ∈ S ↔ x ∈ half (c (pRing t p)) (pRing t p)) := fun p hp _ x hx => by
    obtain ⟨k, rfl⟩ := (mem_pRing ht hp).mp hx
    obtain ⟨q, e⟩ := pRing_ne t p
    have hc : c (pRing t p) = decide (p ∈ S) := by show decide ((pRing t p).headD (0, 0) ∈ S) = _; rw [e]; rfl
    have h1 := alt_itr ht ha hp k
    have h2 := half_even ht hp (alt_even ht ha hp) k
    rw [h1, hc]
    unfold half
    by_cases z : p ∈ S
    · rw [decide_eq_true z, if_pos rfl, h2.1]; simp [z]
    · rw [decide_eq_false z, if_neg (by decide), h2.2]; simp [z]
  intro x
  rw [List.mem_flatMap]
  constructor
  · intro hx
    obtain ⟨p, hp, hh, hxr⟩ := cover ht (hs.subset hx)
    exact ⟨pRing t p, mem_rings.mpr ⟨p, hp, rfl, hh⟩, (key p hp hh x hxr).mp hx⟩
  · rintro ⟨r, hr, hx⟩
    obtain ⟨p, hp, rfl, hh⟩ := mem_rings.mp hr
    exact (key p hp hh x ((half_sub _ _).subset hx)).mpr hx
/-- the nets that a turn leads, of rings of even lengths -/
theorem due_lots {t : List Nat} (ht : IsTurn t) (he : AllEven t) : ((lotsM (pairRingsM t)).map fun l => l.mergeSort (le_ pLt)).Perm (dueM t) := by
  have n1 : ((lotsM (pairRingsM t)).map fun l => l.mergeSort (le_ pLt)).Nodup := by
    rw [List.nodup_iff_pairwise_ne, List.pairwise_map]
    refine (told_lots (rings_apart ht) (rings_nodup ht)).imp fun {a b} ⟨x, hx⟩ e => ?_
    have : x ∈ a ↔ x ∈ b := by rw [← List.mem_mergeSort (le := le_ pLt) (l := a), ← List.mem_mergeSort (le := le_ pLt) (l := b), e]
    rcases hx with ⟨h1, h2⟩ | ⟨h1, h2⟩
    · exact h2 (this.mp h1)
    · exact h1 (this.mpr h2)
  have n2 : (dueM t).Nodup := (allLots_nodup (allPairs_nodup _)).sublist List.filter_sublist
  rw [List.perm_ext_iff_of_nodup n1 n2]
  intro S
  rw [List.mem_map, mem_due ht]
  constructor
  · rintro ⟨l, hl, rfl⟩
    have := lot_alt ht he hl
    exact ⟨this.2, this.1⟩
  · rintro ⟨h1, h2⟩
    exact alt_lot ht h1 h2
theorem due_none {t : List Nat} (ht : IsTurn t) (he : ¬ AllEven t) : dueM t = [] := by
  cases h : dueM t with
  | nil => rfl
  | cons S r =>
    have := (mem_due ht).mp (show S ∈ dueM t by rw [h]; exact List.mem_cons_self)
    exact absurd (fun p hp => alt_even ht this.2 hp) he
theorem due_some {t : List Nat} (ht : IsTurn t) (he : AllEven t) : dueM t ≠ [] := fun e => by
  have := (due_lots ht he).length_eq
  rw [List.length_map, lots_len, e, List.length_nil] at this
  have h := Nat.one_le_two_pow (n := (pairRingsM t).length)
  omega
theorem due_iff_even {t : List Nat} (ht : IsTurn t) : dueM t ≠ [] ↔ AllEven t :=
  ⟨fun h => Classical.byContradiction fun z => h (due_none ht z), due_some ht⟩
theorem count_is {t : List Nat} (ht : IsTurn t) (hc : canLeadM t = true ↔ AllEven t) : countLedM t = (dueM t).length := by
  unfold countLedM
  by_cases h : canLeadM t = true
  · rw [if_pos h, ← (due_lots ht (hc.mp h)).length_eq, List.length_map, lots_len]
  · rw [if_neg h, due_none ht fun z => h (hc.mpr z)]; rfl
theorem nets_is {t : List Nat} (ht : IsTurn t) (hc : canLeadM t = true ↔ AllEven t) : ledNetsM t = (dueM t).mergeSort (le_ (rLt pLt)) := by
  unfold ledNetsM
  by_cases h : canLeadM t = true
  · rw [if_pos h]
    exact sort_same (ordR ordP) (due_lots ht (hc.mp h))
  · rw [if_neg h, due_none ht fun z => h (hc.mpr z), List.mergeSort_nil]
theorem one_is {t : List Nat} (ht : IsTurn t) (he : AllEven t) : ledNetM t ∈ dueM t := by
  have h1 : ledNetM t = ((pairRingsM t).flatMap fun r => half ((fun _ => true) r) r).mergeSort (le_ pLt) := rfl
  rw [h1]
  exact (due_lots ht he).subset (List.mem_map.mpr ⟨_, choice_in (fun _ => true) (pairRingsM t), rfl⟩)
theorem leads_is {t : List Nat} (ht : IsTurn t) {l : List (Nat × Nat)} (hl : l ∈ allLots (allPairs t.length)) : leadsB t l = decide (l ∈ dueM t) := by
  rw [Bool.eq_iff_iff, leadsB_iff, decide_eq_true_iff, mem_due ht]
  exact ⟨fun h => ⟨hl, h⟩, fun h => h.2⟩
end RM
end

section
/-! The same for any one to one map of an ascending row. -/
namespace RM
namespace G
variable {α : Type} [DecidableEq α] {lt : α → α → Bool} {E : List α} {f : α → α}
structure Sys (lt : α → α → Bool) (E : List α) (f : α → α) : Prop where
  o : Ordd lt
  asc : E.Pairwise fun a b => lt a b = true
  mem : ∀ x ∈ E, f x ∈ E
  inj : ∀ x ∈ E, ∀ y ∈ E, f x = f y → x = y
theorem Sys.nodup (Y : Sys lt E f) : E.Nodup := asc_nodup Y.o Y.asc
def perE (f : α → α) (E : List α) (p : α) : Nat := perN f p E.length
def ringE (f : α → α) (E : List α) (p : α) : List α := ringN f p (perE f E p)
def ringsE (lt : α → α → Bool) (E : List α) (f : α → α) : List (List α) := (E.map (ringE f E)).filter (headMin lt)
def ledE (lt : α → α → Bool) (f : α → α) (S : List α) : List α := (S.map f).mergeSort (le_ lt)
def leftE (E S : List α) : List α := E.filter fun p => !decide (p ∈ S)
def dueE (lt : α → α → Bool) (E : List α) (f : α → α) : List (List α) := (allLots E).filter fun l => decide (ledE lt f l = leftE E l)
def leadsE (E : List α) (f : α → α) (S : List α) : Bool := E.all fun p => decide (p ∈ S) != decide (f p ∈ S)
theorem ringE_ne (f : α → α) (E : List α) (p : α) : ∃ r, ringE f E p = p :: r := ring_ne (by unfold perE perN; omega)
theorem Sys.per (Y : Sys lt E f) {p : α} (hp : p ∈ E) : IsPer f p (perE f E p) ∧ perE f E p ≤ E.length := by
  obtain ⟨k, h1, h2⟩ := ex_per Y.mem Y.inj hp
  have : perE f E p = k := per_is h2 h1
  rw [this]; exact ⟨h2, h1⟩

/-- an ascending row whose things stand in another one is a part of it -/
theorem asc_sub (o : Ordd lt) {S E : List (α)} (hS : S.Pairwise fun a b => lt a b = true) (hE : E.Pairwise fun a b => lt a b = true) (h : ∀ x ∈ S, x ∈ E) : S.Sublist E := by
  have hf : (E.filter fun x => decide (x ∈ S)).Pairwise fun a b => lt a b = true := hE.sublist List.filter_sublist
  have hp : S.Perm (E.filter fun x => decide (x ∈ S)) := by
    rw [List.perm_ext_iff_of_nodup (asc_nodup o hS) (asc_nodup o hf)]
    intro a
    rw [List.mem_filter, decide_eq_true_iff]
    exact ⟨fun ha => ⟨h a ha, ha⟩, fun ha => ha.2⟩
  have e1 := sort_is o hp hS
  have e2 := List.mergeSort_of_pairwise (le_of_lt o hf)
  rw [e2] at e1
  rw [← e1]
  exact List.filter_sublist
/-- f is one to one on all pairs, and onto -/
theorem led_onto (Y : Sys lt E f) {x : α} (hx : x ∈ E) : ∃ p ∈ E, f p = x := by
  have hn : ((E).map (f)).Nodup := by
    rw [List.nodup_iff_pairwise_ne, List.pairwise_map]
    have := List.nodup_iff_pairwise_ne.mp (Y.nodup)
    exact this.imp_of_mem fun {a b} ha hb h e => h (Y.inj a ha b hb e)
  apply Classical.byContradiction
  intro hc
  have h2 : (x :: (E).map (f)).Nodup := List.nodup_cons.mpr ⟨fun h => by
    obtain ⟨p, hp, e⟩ := List.mem_map.mp h
    exact hc ⟨p, hp, e⟩, hn⟩
  have h3 := h2.length_le_of_subset (l₂ := E) fun y hy => by
    rcases List.mem_cons.mp hy with e | e
    · rw [e]; exact hx
    · obtain ⟨p, hp, rfl⟩ := List.mem_map.mp e
      exact Y.mem p hp
  rw [List.length_cons, List.length_map] at h3
  omega
/-- S changes along f -/
def Alt (E : List α) (f : α → α) (S : List α) : Prop := ∀ p ∈ E, (p ∈ S ↔ f p ∉ S)
theorem leadsB_iff {S : List α} : leadsE E f S = true ↔ Alt E f S := by
  unfold leadsE Alt
  rw [List.all_eq_true]
  constructor
  · intro h p hp
    have := h p hp
    by_cases h1 : p ∈ S <;> by_cases h2 : f p ∈ S <;> simp [h1, h2] at this ⊢
  · intro h p hp
    have := h p hp
    by_cases h1 : p ∈ S <;> by_cases h2 : f p ∈ S <;> simp [h1, h2] at this ⊢
theorem due_iff (Y : Sys lt E f) {l : List (α)} (hl : l ∈ allLots (E)) : ledE lt f l = leftE E l ↔ Alt E f l := by
  have hs := mem_lots.mp hl
  have hsub := hs.subset
  have hln := (Y.nodup).sublist hs
  have hmem : ∀ x, x ∈ ledE lt f l ↔ ∃ q ∈ l, f q = x := fun x => by
    unfold ledE
    rw [List.mem_mergeSort, List.mem_map]
  have hleft : ∀ x, x ∈ leftE E l ↔ x ∈ E ∧ x ∉ l := fun x => by
    unfold leftE
    rw [List.mem_filter]
    simp
  constructor
  · intro e p hp
    constructor
    · intro h1 h2
      have : f p ∈ leftE E l := by rw [← e]; exact (hmem _).mpr ⟨p, h1, rfl⟩
      exact ((hleft _).mp this).2 h2
    · intro h1
      have : f p ∈ ledE lt f l := by rw [e]; exact (hleft _).mpr ⟨Y.mem p hp, h1⟩
      obtain ⟨q, hq, eq⟩ := (hmem _).mp this
      rw [← Y.inj q (hsub hq) p hp eq]; exact hq
  · intro ha
    have hp : (leftE E l).Perm (l.map (f)) := by
      have n1 : (leftE E l).Nodup := (Y.nodup).sublist List.filter_sublist
      have n2 : (l.map (f)).Nodup := by
        rw [List.nodup_iff_pairwise_ne, List.pairwise_map]
        exact (List.nodup_iff_pairwise_ne.mp hln).imp_of_mem fun {a b} ha hb h e => h (Y.inj a (hsub ha) b (hsub hb) e)
      rw [List.perm_ext_iff_of_nodup n1 n2]
      intro x
      rw [hleft, List.mem_map]
      constructor
      · rintro ⟨hx, hxl⟩
        obtain ⟨p, hp, rfl⟩ := led_onto Y hx
        exact ⟨p, (ha p hp).mpr hxl, rfl⟩
      · rintro ⟨p, hp, rfl⟩
        exact ⟨Y.mem p (hsub hp), (ha p (hsub hp)).mp hp⟩
    exact sort_is Y.o hp ((Y.asc).sublist List.filter_sublist)
theorem mem_due (Y : Sys lt E f) {l : List (α)} : l ∈ dueE lt E f ↔ l ∈ allLots (E) ∧ Alt E f l := by
  unfold dueE
  rw [List.mem_filter]
  constructor
  · rintro ⟨h1, h2⟩; exact ⟨h1, (due_iff Y h1).mp (of_decide_eq_true h2)⟩
  · rintro ⟨h1, h2⟩; exact ⟨h1, decide_eq_true ((due_iff Y h1).mpr h2)⟩
/-! along a ring -/
theorem alt_itr (Y : Sys lt E f) {S : List (α)} (ha : Alt E f S) {p : α} (hp : p ∈ E) : ∀ k, (itr (f) k p ∈ S ↔ (p ∈ S ↔ k % 2 = 0))
  | 0 => by show p ∈ S ↔ _; simp
  | k + 1 => by
    have h1 := ha _ (itr_mem (Y.mem) hp k)
    have h2 := alt_itr Y ha hp k
    show f (itr (f) k p) ∈ S ↔ _
    have h3 : (k + 1) % 2 = 0 ↔ ¬ k % 2 = 0 := by omega
    rw [h3]
    by_cases a : p ∈ S <;> by_cases b : k % 2 = 0 <;> by_cases c : itr (f) k p ∈ S <;> by_cases d : f (itr (f) k p) ∈ S <;> simp [a, b, c, d] at h1 h2 ⊢
theorem alt_even (Y : Sys lt E f) {S : List (α)} (ha : Alt E f S) {p : α} (hp : p ∈ E) : perE f E p % 2 = 0 := by
  have h1 := alt_itr Y ha hp (perE f E p)
  rw [(Y.per hp).1.2.1] at h1
  by_cases a : p ∈ S <;> by_cases b : perE f E p % 2 = 0 <;> simp [a, b] at h1 ⊢
theorem itr_mul {α : Type} {f : α → α} {a : α} {k : Nat} (h : itr f k a = a) : ∀ m r, itr f (k * m + r) a = itr f r a
  | 0, r => by rw [Nat.mul_zero, Nat.zero_add]
  | m + 1, r => by rw [Nat.mul_succ, Nat.add_assoc, Nat.add_comm k r, ← Nat.add_assoc, itr_add, h, itr_mul h m r]
theorem itr_mod {α : Type} {f : α → α} {a : α} {k : Nat} (h : IsPer f a k) (n : Nat) : itr f n a = itr f (n % k) a := by
  conv => lhs; rw [← Nat.div_add_mod n k]
  exact itr_mul h.2.1 _ _
theorem mem_ringE (Y : Sys lt E f) {p x : α} (hp : p ∈ E) : x ∈ ringE f E p ↔ ∃ k, itr (f) k p = x := by
  have hper := (Y.per hp).1
  unfold ringE
  rw [mem_ringN]
  constructor
  · rintro ⟨k, _, e⟩; exact ⟨k, e⟩
  · rintro ⟨k, e⟩
    exact ⟨k % perE f E p, Nat.mod_lt _ hper.1, by rw [← itr_mod hper]; exact e⟩
theorem ring_sym (Y : Sys lt E f) {p x : α} (hp : p ∈ E) (h : x ∈ ringE f E p) : p ∈ ringE f E x := by
  have hper := (Y.per hp).1
  have hx : x ∈ E := by
    obtain ⟨k, rfl⟩ := (mem_ringE Y hp).mp h
    exact itr_mem (Y.mem) hp k
  obtain ⟨k, hk, e⟩ := mem_ringN.mp h
  refine (mem_ringE Y hx).mpr ⟨perE f E p - k, ?_⟩
  rw [← e, ← itr_add, show perE f E p - k + k = perE f E p by omega]
  exact hper.2.1
theorem ring_trans (Y : Sys lt E f) {p x y : α} (hp : p ∈ E) (h : x ∈ ringE f E p) (h2 : y ∈ ringE f E x) : y ∈ ringE f E p := by
  obtain ⟨k, rfl⟩ := (mem_ringE Y hp).mp h
  obtain ⟨j, rfl⟩ := (mem_ringE Y (itr_mem (Y.mem) hp k)).mp h2
  exact (mem_ringE Y hp).mpr ⟨j + k, itr_add j k⟩
theorem ring_in (Y : Sys lt E f) {p x : α} (hp : p ∈ E) (h : x ∈ ringE f E p) : x ∈ E := by
  obtain ⟨k, rfl⟩ := (mem_ringE Y hp).mp h
  exact itr_mem (Y.mem) hp k
theorem ringE_nodup (Y : Sys lt E f) {p : α} (hp : p ∈ E) : (ringE f E p).Nodup := by
  unfold ringE ringN
  rw [List.nodup_iff_pairwise_ne, List.pairwise_map]
  have := List.pairwise_lt_range (n := perE f E p)
  exact this.imp_of_mem fun {a b} ha hb h => per_ne (Y.mem) (Y.inj) hp (Y.per hp).1 h (List.mem_range.mp hb)
/-! the least of a ring -/
theorem least_spec {α : Type} {lt : α → α → Bool} (o : Ordd lt) : ∀ (xs : List α) (x : α), (leastOf lt x xs = x ∨ leastOf lt x xs ∈ xs) ∧ lt x (leastOf lt x xs) = false ∧ ∀ y ∈ xs, lt y (leastOf lt x xs) = false
  | [], x => ⟨.inl rfl, o.ir x, fun _ h => by cases h⟩
  | y :: ys, x => by
    show (leastOf lt (if lt y x = true then y else x) ys = x ∨ _) ∧ _
    have e : leastOf lt x (y :: ys) = leastOf lt (if lt y x = true then y else x) ys := rfl
    rw [e]
    obtain ⟨h1, h2, h3⟩ := least_spec o ys (if lt y x = true then y else x)
    cases hy : lt y x with
    | true =>
      rw [hy] at h1 h2 h3
      rw [if_pos rfl] at h1 h2 h3 ⊢
      refine ⟨h1.elim (fun h => .inr (by rw [h]; exact List.mem_cons_self)) (fun h => .inr (List.mem_cons_of_mem _ h)), ?_, ?_⟩
      · cases hh : lt x (leastOf lt y ys) with
        | false => rfl
        | true => rw [o.tr _ _ _ hy hh] at h2; cases h2
      · intro z hz
        rcases List.mem_cons.mp hz with h | h
        · rw [h]; exact h2
        · exact h3 z h
    | false =>
      rw [hy] at h1 h2 h3
      rw [if_neg (by decide)] at h1 h2 h3 ⊢
      refine ⟨h1.imp id (List.mem_cons_of_mem _), h2, ?_⟩
      intro z hz
      rcases List.mem_cons.mp hz with h | h
      · rw [h]
        cases hh : lt y (leastOf lt x ys) with
        | false => rfl
        | true =>
          have h5 := o.letr x (leastOf lt x ys) x
          rcases h1 with h6 | h6
          · rw [h6] at hh; rw [hh] at hy; cases hy
          · have h7 := h2
            cases h8 : lt (leastOf lt x ys) x with
            | true => rw [o.tr _ _ _ hh h8] at hy; cases hy
            | false => rw [← o.tri _ _ h7 h8] at hh; rw [hh] at hy; cases hy
      · exact h3 z h
theorem headMin_spec (Y : Sys lt E f) {p : α} : headMin lt (ringE f E p) = true ↔ ∀ y ∈ ringE f E p, lt y p = false := by
  obtain ⟨r, e⟩ := ringE_ne f E p
  rw [e]
  obtain ⟨h1, h2, h3⟩ := least_spec Y.o r p
  show decide (p = leastOf lt p r) = true ↔ _
  rw [decide_eq_true_iff]
  constructor
  · intro h y hy
    rcases List.mem_cons.mp hy with e | e
    · rw [e]; exact Y.o.ir p
    · rw [h]; rw [← h]; have := h3 y e; rw [← h] at this; exact this
  · intro h
    refine Y.o.tri _ _ h2 ?_
    rcases h1 with e | e
    · rw [e]; exact Y.o.ir p
    · exact h _ (List.mem_cons_of_mem _ e)
/-- every pair stands in just one of the rings that begin with their least pair -/
theorem mem_rings {r : List α} : r ∈ ringsE lt E f ↔ ∃ p ∈ E, ringE f E p = r ∧ headMin lt r = true := by
  unfold ringsE
  rw [List.mem_filter, List.mem_map]
  constructor
  · rintro ⟨⟨p, hp, e⟩, h⟩; exact ⟨p, hp, e, h⟩
  · rintro ⟨p, hp, e, h⟩; exact ⟨⟨p, hp, e⟩, h⟩
theorem cover (Y : Sys lt E f) {x : α} (hx : x ∈ E) : ∃ p ∈ E, headMin lt (ringE f E p) = true ∧ x ∈ ringE f E p := by
  obtain ⟨r, e⟩ := ringE_ne f E x
  obtain ⟨h1, h2, h3⟩ := least_spec Y.o r x
  have hm : leastOf lt x r ∈ ringE f E x := by
    rw [e]
    rcases h1 with h | h
    · rw [h]; exact List.mem_cons_self
    · exact List.mem_cons_of_mem _ h
  have hp := ring_in Y hx hm
  have hs := ring_sym Y hx hm
  refine ⟨_, hp, (headMin_spec Y).mpr fun y hy => ?_, hs⟩
  have := ring_trans Y hx hm hy
  rw [e] at this
  rcases List.mem_cons.mp this with h | h
  · rw [h]; exact h2
  · exact h3 y h
theorem one_head (Y : Sys lt E f) {p q x : α} (hp : p ∈ E) (hq : q ∈ E) (h1 : headMin lt (ringE f E p) = true) (h2 : headMin lt (ringE f E q) = true) (hx1 : x ∈ ringE f E p) (hx2 : x ∈ ringE f E q) : p = q := by
  have a : q ∈ ringE f E p := ring_trans Y hp hx1 (ring_sym Y hq hx2)
  have b : p ∈ ringE f E q := ring_sym Y hp a
  exact Y.o.tri _ _ ((headMin_spec Y).mp h2 _ b) ((headMin_spec Y).mp h1 _ a)

/-- of a ring of an even length: which things stand in its first, in its second half -/
theorem half_even (Y : Sys lt E f) {p : α} (hp : p ∈ E) (he : perE f E p % 2 = 0) (k : Nat) : (itr (f) k p ∈ evens (ringE f E p) ↔ k % 2 = 0) ∧ (itr (f) k p ∈ odds (ringE f E p) ↔ k % 2 = 1) := by
  have hper := (Y.per hp).1
  have hlen : (ringE f E p).length = perE f E p := ring_len
  have hk : k % perE f E p < perE f E p := Nat.mod_lt _ hper.1
  have hpar : (k % perE f E p) % 2 = k % 2 := by
    have h1 := Nat.div_add_mod k (perE f E p)
    have h2 : (perE f E p * (k / perE f E p)) % 2 = 0 := by rw [Nat.mul_mod, he, Nat.zero_mul]
    omega
  have uniq : ∀ i, i < perE f E p → itr (f) i p = itr (f) k p → i = k % perE f E p := fun i hi e => by
    rw [itr_mod hper k] at e
    apply Classical.byContradiction
    intro hne
    rcases Nat.lt_or_gt_of_ne hne with h | h
    · exact per_ne (Y.mem) (Y.inj) hp hper h hk e
    · exact per_ne (Y.mem) (Y.inj) hp hper h hi e.symm
  constructor
  · rw [evens_at, hlen]
    constructor
    · rintro ⟨i, hi, e⟩
      unfold ringE at e
      rw [ring_at hi] at e
      have := uniq _ hi (Option.some.inj e)
      omega
    · intro h
      refine ⟨k % perE f E p / 2, by omega, ?_⟩
      rw [show 2 * (k % perE f E p / 2) = k % perE f E p by omega]
      unfold ringE
      rw [ring_at hk, itr_mod hper k]
  · rw [odds_at, hlen]
    constructor
    · rintro ⟨i, hi, e⟩
      unfold ringE at e
      rw [ring_at hi] at e
      have := uniq _ hi (Option.some.inj e)
      omega
    · intro h
      refine ⟨k % perE f E p / 2, by omega, ?_⟩
      rw [show 2 * (k % perE f E p / 2) + 1 = k % perE f E p by omega]
      unfold ringE
      rw [ring_at hk, itr_mod hper k]
/-! the rings of a turn -/
theorem rings_apart (Y : Sys lt E f) : (ringsE lt E f).Pairwise Apart := by
  unfold ringsE
  rw [List.filter_map, List.pairwise_map]
  refine List.Pairwise.imp_of_mem ?_ (List.nodup_iff_pairwise_ne.mp ((Y.nodup).sublist List.filter_sublist))
  intro p q hp hq hne x hx1 hx2
  obtain ⟨p1, p2⟩ := List.mem_filter.mp hp
  obtain ⟨q1, q2⟩ := List.mem_filter.mp hq
  exact hne (one_head Y p1 q1 p2 q2 hx1 hx2)
theorem rings_nodup (Y : Sys lt E f) : ∀ r ∈ ringsE lt E f, r.Nodup ∧ r ≠ [] := fun r hr => by
  obtain ⟨p, hp, rfl, _⟩ := mem_rings.mp hr
  refine ⟨ringE_nodup Y hp, fun e => ?_⟩
  obtain ⟨q, e2⟩ := ringE_ne f E p
  rw [e] at e2; cases e2
def AllEven (E : List α) (f : α → α) : Prop := ∀ p ∈ E, perE f E p % 2 = 0
theorem lot_alt (Y : Sys lt E f) (he : AllEven E f) {l : List (α)} (hl : l ∈ lotsM (ringsE lt E f)) : Alt E f (l.mergeSort (le_ lt)) ∧ l.mergeSort (le_ lt) ∈ allLots (E) := by
  obtain ⟨g1, g2, g3⟩ := good_lots (rings_apart Y) (fun r hr => (rings_nodup Y r hr).1) hl
  constructor
  · intro x hx
    rw [List.mem_mergeSort, List.mem_mergeSort]
    obtain ⟨p, hp, hh, hxr⟩ := cover Y hx
    obtain ⟨b, hb⟩ := g3 (ringE f E p) (mem_rings.mpr ⟨p, hp, rfl, hh⟩)
    obtain ⟨k, rfl⟩ := (mem_ringE Y hp).mp hxr
    have hx2 : f (itr (f) k p) ∈ ringE f E p := (mem_ringE Y hp).mpr ⟨k + 1, rfl⟩
    rw [hb _ hxr, hb _ hx2]
    have h1 := half_even Y hp (he p hp) k
    have h2 := half_even Y hp (he p hp) (k + 1)
    have e2 : itr (f) (k + 1) p = f (itr (f) k p) := rfl
    rw [e2] at h2
    unfold half
    cases b
    · show _ ∈ odds _ ↔ _ ∉ odds _
      rw [h1.2, h2.2]; omega
    · show _ ∈ evens _ ↔ _ ∉ evens _
      rw [h1.1, h2.1]; omega
  · refine mem_lots.mpr (asc_sub Y.o (sort_asc Y.o g2) Y.asc fun x hx => ?_)
    obtain ⟨r, hr, hxr⟩ := g1 x (List.mem_mergeSort.mp hx)
    obtain ⟨p, hp, rfl, _⟩ := mem_rings.mp hr
    exact ring_in Y hp hxr
theorem alt_lot (Y : Sys lt E f) {S : List (α)} (hS : S ∈ allLots (E)) (ha : Alt E f S) : ∃ l ∈ lotsM (ringsE lt E f), l.mergeSort (le_ lt) = S := by
  have hs := mem_lots.mp hS
  let c : List α → Bool := fun r => match r with
    | [] => true
    | y :: _ => decide (y ∈ S)
  refine ⟨_, choice_in c (ringsE lt E f), ?_⟩
  obtain ⟨g1, g2, g3⟩ := good_lots (rings_apart Y) (fun r hr => (rings_nodup Y r hr).1) (choice_in c (ringsE lt E f))
  have hasc := (Y.asc).sublist hs
  refine sort_is Y.o ?_ hasc
  rw [List.perm_ext_iff_of_nodup (asc_nodup Y.o hasc) g2]
  have key : ∀ p ∈ E, headMin lt (ringE f E p) = true → ∀ x ∈ ringE f E p, (x ∈ S ↔ x ∈ half (c (ringE f E p)) (ringE f E p)) := fun p hp _ x hx => by
    obtain ⟨k, rfl⟩ := (mem_ringE Y hp).mp hx
    obtain ⟨q, e⟩ := ringE_ne f E p
    have hc : c (ringE f E p) = decide (p ∈ S) := by rw [e]
    have h1 := alt_itr Y ha hp k
    have h2 := half_even Y hp (alt_even Y ha hp) k
    rw [h1, hc]
    unfold half
    by_cases z : p ∈ S
    · rw [decide_eq_true z, if_pos rfl, h2.1]; simp [z]
    · rw [decide_eq_false z, if_neg (by decide), h2.2]; simp [z]
  intro x
  rw [List.mem_flatMap]
  constructor
  · intro hx
    obtain ⟨p, hp, hh, hxr⟩ := cover Y (hs.subset hx)
    exact ⟨ringE f E p, mem_rings.mpr ⟨p, hp, rfl, hh⟩, (key p hp hh x hxr).mp hx⟩
  · rintro ⟨r, hr, hx⟩
    obtain ⟨p, hp, rfl, hh⟩ := mem_rings.mp hr
    exact (key p hp hh x ((half_sub _ _).subset hx)).mpr hx
/-- the nets that a turn leads, of rings of even lengths -/
theorem due_lots (Y : Sys lt E f) (he : AllEven E f) : ((lotsM (ringsE lt E f)).map fun l => l.mergeSort (le_ lt)).Perm (dueE lt E f) := by
  have n1 : ((lotsM (ringsE lt E f)).map fun l => l.mergeSort (le_ lt)).Nodup := by
    rw [List.nodup_iff_pairwise_ne, List.pairwise_map]
    refine (told_lots (rings_apart Y) (rings_nodup Y)).imp fun {a b} ⟨x, hx⟩ e => ?_
    have : x ∈ a ↔ x ∈ b := by rw [← List.mem_mergeSort (le := le_ lt) (l := a), ← List.mem_mergeSort (le := le_ lt) (l := b), e]
    rcases hx with ⟨h1, h2⟩ | ⟨h1, h2⟩
    · exact h2 (this.mp h1)
    · exact h1 (this.mpr h2)
  have n2 : (dueE lt E f).Nodup := (allLots_nodup Y.nodup).sublist List.filter_sublist
  rw [List.perm_ext_iff_of_nodup n1 n2]
  intro S
  rw [List.mem_map, mem_due Y]
  constructor
  · rintro ⟨l, hl, rfl⟩
    have := lot_alt Y he hl
    exact ⟨this.2, this.1⟩
  · rintro ⟨h1, h2⟩
    exact alt_lot Y h1 h2
theorem due_none (Y : Sys lt E f) (he : ¬ AllEven E f) : dueE lt E f = [] := by
  cases h : dueE lt E f with
  | nil => rfl
  | cons S r =>
    have := (mem_due Y).mp (show S ∈ dueE lt E f by rw [h]; exact List.mem_cons_self)
    exact absurd (fun p hp => alt_even Y this.2 hp) he
theorem due_some (Y : Sys lt E f) (he : AllEven E f) : dueE lt E f ≠ [] := fun e => by
  have := (due_lots Y he).length_eq
  rw [List.length_map, lots_len, e, List.length_nil] at this
  have h := Nat.one_le_two_pow (n := (ringsE lt E f).length)
  omega
theorem due_iff_even (Y : Sys lt E f) : dueE lt E f ≠ [] ↔ AllEven E f :=
  ⟨fun h => Classical.byContradiction fun z => h (due_none Y z), due_some Y⟩
theorem leads_is (Y : Sys lt E f) {l : List (α)} (hl : l ∈ allLots (E)) : leadsE E f l = decide (l ∈ dueE lt E f) := by
  rw [Bool.eq_iff_iff, leadsB_iff, decide_eq_true_iff, mem_due Y]
  exact ⟨fun h => ⟨hl, h⟩, fun h => h.2⟩
end G
end RM
end

section
/-! Walks round the rings, in general: the heads are the least of their rings. -/
namespace RM
namespace G
variable {α : Type} [DecidableEq α] {lt : α → α → Bool} {E : List α} {f : α → α}
def stepR (R : α → List α) : List α → List α
  | [] => []
  | p :: r => (p :: r).filter fun x => !decide (x ∈ R p)
def leftR (R : α → List α) (E : List α) : Nat → List α
  | 0 => E
  | i + 1 => stepR R (leftR R E i)
def headsR (R : α → List α) (E : List α) : Nat → List α
  | 0 => []
  | i + 1 => headsR R E i ++ (leftR R E i).take 1
theorem stepR_sub (R : α → List α) (L : List α) : (stepR R L).Sublist L := by
  cases L with
  | nil => exact List.Sublist.refl _
  | cons p r => exact List.filter_sublist
theorem leftR_sub (R : α → List α) (E : List α) : ∀ i, (leftR R E i).Sublist E
  | 0 => List.Sublist.refl _
  | i + 1 => (stepR_sub R _).trans (leftR_sub R E i)
theorem heads_mem (R : α → List α) (E : List α) : ∀ i x, x ∈ headsR R E i → x ∈ E
  | 0, x, h => by cases h
  | i + 1, x, h => by
    rcases List.mem_append.mp h with z | z
    · exact heads_mem R E i x z
    · exact (leftR_sub R E i).subset (List.mem_of_mem_take z)
/-- what is left: all that stand in no ring so far -/
theorem mem_left {R : α → List α} : ∀ i x, x ∈ leftR R E i ↔ x ∈ E ∧ ∀ h ∈ headsR R E i, x ∉ R h
  | 0, x => by
    show x ∈ E ↔ _
    constructor
    · intro h; exact ⟨h, fun y hy => by cases hy⟩
    · exact fun h => h.1
  | i + 1, x => by
    have ih : x ∈ leftR R E i ↔ x ∈ E ∧ ∀ h ∈ headsR R E i, x ∉ R h := mem_left i x
    show x ∈ stepR R (leftR R E i) ↔ x ∈ E ∧ ∀ h ∈ headsR R E i ++ (leftR R E i).take 1, x ∉ R h
    cases e : leftR R E i with
    | nil =>
      rw [e] at ih
      simp only [stepR, List.take_nil, List.append_nil]
      exact ih
    | cons p r =>
      rw [e] at ih
      show x ∈ (p :: r).filter (fun x => !decide (x ∈ R p)) ↔ _
      rw [List.mem_filter, ih]
      simp only [List.take_succ_cons, List.take_zero, List.mem_append, List.mem_singleton, Bool.not_eq_true', decide_eq_false_iff_not]
      constructor
      · rintro ⟨⟨h1, h2⟩, h3⟩
        refine ⟨h1, fun h hh => ?_⟩
        rcases hh with z | z
        · exact h2 h z
        · rw [z]; exact h3
      · rintro ⟨h1, h2⟩
        exact ⟨⟨h1, fun h hh => h2 h (.inl hh)⟩, h2 p (.inr rfl)⟩
/-- a head is the least of its ring -/
theorem head_least (Y : Sys lt E f) : ∀ i h, h ∈ headsR (ringE f E) E i → headMin lt (ringE f E h) = true
  | 0, h, hh => by cases hh
  | i + 1, h, hh => by
    rcases List.mem_append.mp hh with z | z
    · exact head_least Y i h z
    · cases e : leftR (ringE f E) E i with
      | nil => rw [e] at z; cases z
      | cons p r =>
        rw [e] at z
        have hp : h = p := by simpa using z
        subst hp
        have hm : h ∈ leftR (ringE f E) E i := by rw [e]; exact List.mem_cons_self
        obtain ⟨hE, hn⟩ := (mem_left i h).mp hm
        refine (headMin_spec Y).mpr fun y hy => ?_
        have hyl : y ∈ leftR (ringE f E) E i := by
          refine (mem_left i y).mpr ⟨ring_in Y hE hy, fun g hg hyg => ?_⟩
          have hgE := heads_mem _ _ _ _ hg
          exact hn g hg (ring_trans Y hgE hyg (ring_sym Y hE hy))
        rw [e] at hyl
        have hasc := Y.asc.sublist (leftR_sub (ringE f E) E i)
        rw [e] at hasc
        rcases List.mem_cons.mp hyl with z1 | z1
        · rw [z1]; exact Y.o.ir h
        · exact Y.o.asym ((List.pairwise_cons.mp hasc).1 y z1)
theorem heads_asc (Y : Sys lt E f) : ∀ i, (headsR (ringE f E) E i).Pairwise (fun a b => lt a b = true) ∧ ∀ x ∈ headsR (ringE f E) E i, ∀ y ∈ leftR (ringE f E) E i, lt x y = true
  | 0 => ⟨List.Pairwise.nil, fun x h => by cases h⟩
  | i + 1 => by
    obtain ⟨h1, h2⟩ := heads_asc Y i
    have hasc := Y.asc.sublist (leftR_sub (ringE f E) E i)
    constructor
    · show (headsR (ringE f E) E i ++ (leftR (ringE f E) E i).take 1).Pairwise _
      rw [List.pairwise_append]
      refine ⟨h1, hasc.sublist (List.take_sublist 1 _), fun x hx y hy => h2 x hx y (List.mem_of_mem_take hy)⟩
    · intro x hx y hy
      have hy' : y ∈ leftR (ringE f E) E i := (stepR_sub _ _).subset hy
      rcases List.mem_append.mp hx with z | z
      · exact h2 x z y hy'
      · cases e : leftR (ringE f E) E i with
        | nil => rw [e] at z; cases z
        | cons p r =>
          rw [e] at z hasc
          have hp : x = p := by simpa using z
          subst hp
          have hy2 : y ∈ stepR (ringE f E) (leftR (ringE f E) E i) := hy
          rw [e] at hy2
          obtain ⟨y1, y2⟩ := List.mem_filter.mp hy2
          rcases List.mem_cons.mp y1 with z1 | z1
          · obtain ⟨q, eq⟩ := ringE_ne f E x
            rw [z1, eq] at y2
            simp at y2
          · exact (List.pairwise_cons.mp hasc).1 y z1
/-- the heads of a walk to its end: all that are the least of their rings -/
theorem heads_are (Y : Sys lt E f) {n : Nat} (hn : leftR (ringE f E) E n = []) : headsR (ringE f E) E n = E.filter fun p => headMin lt (ringE f E p) := by
  have ha := (heads_asc Y n).1
  have hb : (E.filter fun p => headMin lt (ringE f E p)).Pairwise fun a b => lt a b = true := Y.asc.sublist List.filter_sublist
  have hp : (headsR (ringE f E) E n).Perm (E.filter fun p => headMin lt (ringE f E p)) := by
    rw [List.perm_ext_iff_of_nodup (asc_nodup Y.o ha) (asc_nodup Y.o hb)]
    intro x
    rw [List.mem_filter]
    constructor
    · exact fun h => ⟨heads_mem _ _ _ _ h, head_least Y n x h⟩
    · rintro ⟨hx, hh⟩
      apply Classical.byContradiction
      intro hc
      have : x ∈ leftR (ringE f E) E n := by
        refine (mem_left n x).mpr ⟨hx, fun h hm hxr => hc ?_⟩
        obtain ⟨q, eq⟩ := ringE_ne f E x
        have := one_head Y hx (heads_mem _ _ _ _ hm) hh (head_least Y n h hm) (by rw [eq]; exact List.mem_cons_self) hxr
        rw [this]; exact hm
      rw [hn] at this; cases this
  have e1 := sort_is Y.o hp ha
  rw [List.mergeSort_of_pairwise (le_of_lt Y.o hb)] at e1
  exact e1.symm
theorem rings_heads (lt : α → α → Bool) (E : List α) (f : α → α) : ringsE lt E f = (E.filter fun p => headMin lt (ringE f E p)).map (ringE f E) := by
  unfold ringsE
  rw [List.filter_map]; rfl
/-- so the walk goes round the rings that begin with their least, one after another -/
theorem walk_rings (Y : Sys lt E f) {n : Nat} (hn : leftR (ringE f E) E n = []) : (headsR (ringE f E) E n).map (ringE f E) = ringsE lt E f := by
  rw [heads_are Y hn, rings_heads]
end G
end RM
end

section
/-! When all rings of pairs, of ways, are of even lengths: by the rings of halls. -/
namespace RM
theorem per_dvd {α : Type} {f : α → α} {a : α} {k m : Nat} (h : IsPer f a k) (hm : itr f m a = a) : m % k = 0 := by
  apply Classical.byContradiction
  intro hc
  rw [itr_mod h] at hm
  exact h.2.2 (m % k) (by omega) (Nat.mod_lt _ h.1) hm
theorem dvd_per {α : Type} {f : α → α} {a : α} {k m : Nat} (h : IsPer f a k) (hm : m % k = 0) : itr f m a = a := by
  rw [itr_mod h, hm]; rfl
theorem odd_of_dvd {k m : Nat} (h : m % k = 0) (hm : m % 2 = 1) : k % 2 = 1 := by
  have h1 := Nat.div_add_mod m k
  rw [h, Nat.add_zero] at h1
  have h2 : (k * (m / k)) % 2 = 1 := by rw [h1]; exact hm
  rw [Nat.mul_mod] at h2
  have : k % 2 = 0 ∨ k % 2 = 1 := by omega
  rcases this with e | e
  · rw [e, Nat.zero_mul] at h2; cases h2
  · exact e
theorem hIs {t : List Nat} (ht : IsTurn t) {x : Nat} (hx : x < t.length) : IsPer (at_ t) x (hPer t x) := (hPer_is ht hx).1
theorem itr_hl {t : List Nat} (ht : IsTurn t) {x : Nat} (hx : x < t.length) (k : Nat) : itr (at_ t) k x < t.length := List.mem_range.mp (itr_mem (at_mem ht) (List.mem_range.mpr hx) k)
theorem hInj {t : List Nat} (ht : IsTurn t) {x y : Nat} (hx : x < t.length) (hy : y < t.length) {k : Nat} (h : itr (at_ t) k x = itr (at_ t) k y) : x = y := itr_inj (at_mem ht) (at_inj ht) (List.mem_range.mpr hx) (List.mem_range.mpr hy) k h
theorem per_one {t : List Nat} (ht : IsTurn t) {x : Nat} (hx : x < t.length) : hPer t x = 1 ↔ at_ t x = x := by
  have h := hIs ht hx
  constructor
  · intro e; rw [e] at h; exact h.2.1
  · intro e
    have := per_dvd (m := 1) h e
    have h1 := h.1
    apply Classical.byContradiction
    intro hc
    rw [Nat.mod_eq_of_lt (by omega)] at this
    cases this
/-- the halls of one ring have one period -/
theorem per_same {t : List Nat} (ht : IsTurn t) {x : Nat} (hx : x < t.length) (k : Nat) : hPer t (itr (at_ t) k x) = hPer t x := by
  have hy := itr_hl ht hx k
  have h1 := hIs ht hx
  have h2 := hIs ht hy
  have a : itr (at_ t) (hPer t x) (itr (at_ t) k x) = itr (at_ t) k x := by rw [← itr_add, Nat.add_comm, itr_add, h1.2.1]
  have b : itr (at_ t) (hPer t (itr (at_ t) k x)) x = x := by
    have := h2.2.1
    rw [← itr_add, Nat.add_comm, itr_add] at this
    exact hInj ht (itr_hl ht hx _) hx this
  have d1 := per_dvd h2 a
  have d2 := per_dvd h1 b
  have p1 := h1.1
  have p2 := h2.1
  have e1 : hPer t (itr (at_ t) k x) ≤ hPer t x := Nat.le_of_dvd (by omega) (Nat.dvd_of_mod_eq_zero d1)
  have e2 : hPer t x ≤ hPer t (itr (at_ t) k x) := Nat.le_of_dvd (by omega) (Nat.dvd_of_mod_eq_zero d2)
  omega
/-! pairs -/
theorem itr_led {t : List Nat} (p : Nat × Nat) (hp : p.1 ≤ p.2) : ∀ k, itr (ledPair t) k p = (min (itr (at_ t) k p.1) (itr (at_ t) k p.2), max (itr (at_ t) k p.1) (itr (at_ t) k p.2))
  | 0 => by show p = (min p.1 p.2, max p.1 p.2); rw [Nat.min_eq_left hp, Nat.max_eq_right hp]
  | k + 1 => by
    show ledPair t (itr (ledPair t) k p) = _
    rw [itr_led p hp k]
    show (min (at_ t (min _ _)) (at_ t (max _ _)), max (at_ t (min _ _)) (at_ t (max _ _))) = (min (at_ t (itr (at_ t) k p.1)) (at_ t (itr (at_ t) k p.2)), max (at_ t (itr (at_ t) k p.1)) (at_ t (itr (at_ t) k p.2)))
    generalize itr (at_ t) k p.1 = a
    generalize itr (at_ t) k p.2 = b
    by_cases h : a ≤ b
    · rw [Nat.min_eq_left h, Nat.max_eq_right h]
    · have e1 : min a b = b := Nat.min_eq_right (by omega)
      have e2 : max a b = a := Nat.max_eq_left (by omega)
      rw [e1, e2, Nat.min_comm (at_ t b), Nat.max_comm (at_ t b)]
theorem led_back {t : List Nat} {p : Nat × Nat} (hp : p.1 < p.2) {k : Nat} : itr (ledPair t) k p = p ↔ (itr (at_ t) k p.1 = p.1 ∧ itr (at_ t) k p.2 = p.2) ∨ (itr (at_ t) k p.1 = p.2 ∧ itr (at_ t) k p.2 = p.1) := by
  rw [itr_led p (by omega)]
  constructor
  · intro e
    have e1 := congrArg Prod.fst e
    have e2 := congrArg Prod.snd e
    simp only at e1 e2
    omega
  · intro h
    refine Prod.ext ?_ ?_ <;> simp only <;> omega
/-- what a turn is asked: rings whose length is bad are of length 1, and there is one of these at most -/
def Few (t : List Nat) (bad : Nat → Bool) : Prop := (∀ x, x < t.length → bad (hPer t x) = true → hPer t x = 1) ∧ ∀ x y, x < t.length → y < t.length → hPer t x = 1 → hPer t y = 1 → x = y
theorem mkPair {n x y : Nat} (hx : x < n) (hy : y < n) (h : x ≠ y) : (min x y, max x y) ∈ allPairs n := mem_allPairs.mpr (by simp only; omega)
theorem even_pairs {t : List Nat} (ht : IsTurn t) : AllEven t ↔ Few t fun n => decide (n % 4 ≠ 0) := by
  constructor
  · intro he
    -- a pair that comes back after an odd number of times
    have no : ∀ x y m, x < t.length → y < t.length → x ≠ y → m % 2 = 1 → ((itr (at_ t) m x = x ∧ itr (at_ t) m y = y) ∨ (itr (at_ t) m x = y ∧ itr (at_ t) m y = x)) → False := fun x y m hx hy hxy hm hb => by
      have hp := mkPair hx hy hxy
      have hb' : itr (ledPair t) m (min x y, max x y) = (min x y, max x y) := by
        refine (led_back (by simp only; omega)).mpr ?_
        rcases Nat.lt_or_gt_of_ne hxy with h | h
        · simp only [Nat.min_eq_left (Nat.le_of_lt h), Nat.max_eq_right (Nat.le_of_lt h)]; exact hb
        · simp only [Nat.min_eq_right (Nat.le_of_lt h), Nat.max_eq_left (Nat.le_of_lt h)]
          rcases hb with ⟨a, b⟩ | ⟨a, b⟩
          · exact .inl ⟨b, a⟩
          · exact .inr ⟨b, a⟩
      have h1 := odd_of_dvd (per_dvd (pPer_is ht hp).1 hb') hm
      have h2 := he _ hp
      omega
    constructor
    · intro x hx hb
      have hb : hPer t x % 4 ≠ 0 := of_decide_eq_true hb
      have h := hIs ht hx
      apply Classical.byContradiction
      intro h1
      have hp := h.1
      by_cases ho : hPer t x % 2 = 1
      · refine no x (at_ t x) (hPer t x) hx (itr_hl ht hx 1) (fun e => h1 ((per_one ht hx).mpr e.symm)) ho (.inl ⟨h.2.1, ?_⟩)
        show itr (at_ t) (hPer t x) (itr (at_ t) 1 x) = itr (at_ t) 1 x
        rw [← itr_add, Nat.add_comm, itr_add, h.2.1]
      · refine no x (itr (at_ t) (hPer t x / 2) x) (hPer t x / 2) hx (itr_hl ht hx _) (fun e => h.2.2 (hPer t x / 2) (by omega) (by omega) e.symm) (by omega) (.inr ⟨rfl, ?_⟩)
        rw [← itr_add, show hPer t x / 2 + hPer t x / 2 = hPer t x by omega, h.2.1]
    · intro x y hx hy a b
      apply Classical.byContradiction
      intro hxy
      exact no x y 1 hx hy hxy rfl (.inl ⟨(per_one ht hx).mp a, (per_one ht hy).mp b⟩)
  · rintro ⟨f1, f2⟩ p hp
    obtain ⟨m1, m2⟩ := mem_allPairs.mp hp
    have hx : p.1 < t.length := by omega
    have hb := (led_back m1).mp (pPer_is ht hp).1.2.1
    have four : ∀ z, z < t.length → hPer t z ≠ 1 → hPer t z % 4 = 0 := fun z hz h1 => by
      apply Classical.byContradiction
      intro hc
      exact h1 (f1 z hz (decide_eq_true hc))
    have even_of : ∀ z, z < t.length → hPer t z % 4 = 0 → ∀ m, itr (at_ t) m z = z → m % 4 = 0 := fun z hz h4 m hm => by
      have := per_dvd (hIs ht hz) hm
      have h1 := Nat.div_add_mod m (hPer t z)
      rw [this, Nat.add_zero] at h1
      rw [← h1, Nat.mul_mod, h4, Nat.zero_mul]
    rcases hb with ⟨a, b⟩ | ⟨a, b⟩
    · by_cases h1 : hPer t p.1 = 1
      · have h2 : hPer t p.2 ≠ 1 := fun h2 => by
          have := f2 p.1 p.2 hx m2 h1 h2
          omega
        have := even_of p.2 m2 (four p.2 m2 h2) _ b
        omega
      · have := even_of p.1 hx (four p.1 hx h1) _ a
        omega
    · have h1 : hPer t p.1 ≠ 1 := fun h1 => by
        have h3 : itr (at_ t) (pPer t p) p.1 = p.1 := dvd_per (hIs ht hx) (by rw [h1, Nat.mod_one])
        omega
      have c : itr (at_ t) (pPer t p + pPer t p) p.1 = p.1 := by rw [itr_add, a, b]
      have := even_of p.1 hx (four p.1 hx h1) _ c
      omega
end RM
end

section
/-! Turns of up to five halls, one by one. -/
namespace RM
def walkGo (t : List Nat) : Nat → List (Nat × Nat) → List Nat
  | 0, _ => []
  | _ + 1, [] => []
  | f + 1, p :: r => (pRing t p).length :: walkGo t f (wStep t (p :: r))
theorem wLeft_shift (t : List Nat) (E : List (Nat × Nat)) : ∀ i, wLeft t E (i + 1) = wLeft t (wStep t E) i
  | 0 => rfl
  | i + 1 => by
    show wStep t (wLeft t E (i + 1)) = wStep t (wLeft t (wStep t E) i)
    rw [wLeft_shift t E i]
theorem walk_is (t : List Nat) : ∀ (f n : Nat) (E : List (Nat × Nat)), n ≤ f → WEnd t E n → wSizes t E n = walkGo t f E
  | 0, n, E, h, _ => by
    have : n = 0 := by omega
    subst this; rfl
  | f + 1, 0, E, _, h => by
    have e : E = [] := h.1
    subst e; rfl
  | f + 1, n + 1, E, hn, h => by
    cases E with
    | nil => exact absurd rfl (h.2 0 (Nat.succ_pos n))
    | cons p r =>
      have h2 : WEnd t (wStep t (p :: r)) n := ⟨by rw [← wLeft_shift]; exact h.1, fun i hi => by rw [← wLeft_shift]; exact h.2 (i + 1) (by omega)⟩
      rw [walkGo, ← walk_is t f n _ (by omega) h2]
      unfold wSizes
      rw [List.range_succ_eq_map, List.map_cons, List.map_map]
      congr 1
      apply List.map_congr_left
      intro i _
      show (pRing t ((wLeft t (p :: r) (i + 1)).headD (0, 0))).length = (pRing t ((wLeft t (wStep t (p :: r)) i).headD (0, 0))).length
      rw [wLeft_shift]
def lensM (t : List Nat) : List Nat := (hRings t).map List.length
def nd : List Nat → Bool
  | [] => true
  | x :: r => !r.elem x && nd r
theorem nd_of : ∀ {t : List Nat}, t.Nodup → nd t = true
  | [], _ => rfl
  | x :: r, h => by
    obtain ⟨h1, h2⟩ := List.nodup_cons.mp h
    rw [nd, nd_of h2, Bool.and_true]
    simp [h1]
def evB (t : List Nat) : Bool := (allPairs t.length).all fun p => Nat.beq (pPer t p % 2) 0
def chk (t : List Nat) : Bool :=
  let lens := lensM t
  let oth := lens.filter fun n => decide (n % 4 ≠ 0)
  let ae := evB t
  let w := walkGo t 10 (allPairs t.length)
  ((decide (oth = []) || decide (oth = [1])) == ae) && Nat.beq (pairRingsM t).length w.length && (ae == decide (w.filter (fun z => decide (z % 2 = 1)) = [])) && Nat.beq lens.sum t.length &&
    Nat.beq (lens.countP fun z => decide (z = 1)) ((List.range t.length).filter fun x => decide (at_ t x = x)).length && (ae == (decide (lens.countP (fun z => decide (z = 1)) < 2) && decide (lens.filter (fun z => decide (z % 4 ≠ 0) && decide (z ≠ 1)) = [])))
def tup (n : Nat) : Nat → List (List Nat)
  | 0 => [[]]
  | m + 1 => (List.range n).flatMap fun x => (tup n m).map fun l => x :: l
theorem mem_tup {n : Nat} : ∀ {m : Nat} {l : List Nat}, l.length = m → (∀ x ∈ l, x < n) → l ∈ tup n m
  | 0, l, h, _ => by rw [List.eq_nil_of_length_eq_zero h]; exact List.mem_singleton.mpr rfl
  | m + 1, [], h, _ => by cases h
  | m + 1, x :: l, h, hl => by
    rw [tup, List.mem_flatMap]
    exact ⟨x, List.mem_range.mpr (hl x List.mem_cons_self), List.mem_map.mpr ⟨l, mem_tup (by simpa using h) (fun y hy => hl y (List.mem_cons_of_mem _ hy)), rfl⟩⟩
def chkN (n : Nat) : Bool := (tup n n).all fun t => !nd t || chk t
theorem chk1 : chkN 1 = true := by decide +kernel
theorem chk2 : chkN 2 = true := by decide +kernel
theorem chk3 : chkN 3 = true := by decide +kernel
theorem chk4 : chkN 4 = true := by decide +kernel
theorem chk5 : chkN 5 = true := by decide +kernel
end RM
end

section
namespace RM
theorem chk_of {t : List Nat} (ht : IsTurn t) (h5 : t.length ≤ 5) : chk t = true := by
  have hm : t ∈ tup t.length t.length := mem_tup rfl ht.2.2.2
  have key : ∀ n, chkN n = true → t.length = n → chk t = true := fun n hn e => by
    unfold chkN at hn
    rw [List.all_eq_true] at hn
    have := hn t (by rw [← e]; exact hm)
    rw [nd_of ht.2.2.1] at this
    simpa using this
  have h1 := ht.1
  have : t.length = 1 ∨ t.length = 2 ∨ t.length = 3 ∨ t.length = 4 ∨ t.length = 5 := by omega
  rcases this with e | e | e | e | e
  · exact key 1 chk1 e
  · exact key 2 chk2 e
  · exact key 3 chk3 e
  · exact key 4 chk4 e
  · exact key 5 chk5 e
theorem rings_perm (t : List Nat) : (ringsM t).Perm (lensM t) := List.mergeSort_perm _ _
theorem evB_iff {t : List Nat} : evB t = true ↔ AllEven t := by
  unfold evB AllEven
  rw [List.all_eq_true]
  exact ⟨fun h p hp => Nat.eq_of_beq_eq_true (h p hp), fun h p hp => by rw [h p hp]; rfl⟩
theorem can_perm (t : List Nat) : canLeadM t = (decide ((lensM t).filter (fun n => decide (n % 4 ≠ 0)) = []) || decide ((lensM t).filter (fun n => decide (n % 4 ≠ 0)) = [1])) := by
  have hp : (othersM t).Perm ((lensM t).filter fun n => decide (n % 4 ≠ 0)) := (rings_perm t).filter _
  have e1 : othersM t = [] ↔ (lensM t).filter (fun n => decide (n % 4 ≠ 0)) = [] := by
    constructor
    · intro h; rw [h] at hp; exact hp.symm.eq_nil
    · intro h; rw [h] at hp; exact hp.eq_nil
  have e2 : othersM t = [1] ↔ (lensM t).filter (fun n => decide (n % 4 ≠ 0)) = [1] := by
    constructor
    · intro h; rw [h] at hp; exact List.perm_singleton.mp hp.symm
    · intro h; rw [h] at hp; exact List.perm_singleton.mp hp
  unfold canLeadM
  rw [decide_eq_decide.mpr e1, decide_eq_decide.mpr e2]
theorem law_k01 : ∀ t, IsTurn t → t.length ≤ 5 → LawK01 t := fun t ht h5 => by
  have hc := chk_of ht h5
  unfold chk at hc
  simp only [Bool.and_eq_true] at hc
  obtain ⟨⟨⟨⟨⟨c1, c2⟩, c3⟩, c4⟩, c5⟩, c6⟩ := hc
  have hp := rings_perm t
  have ce : canLeadM t = evB t := by rw [can_perm]; exact eq_of_beq c1
  have hcan : canLeadM t = true ↔ AllEven t := by rw [ce]; exact evB_iff
  have hdue : decide (dueM t ≠ []) = evB t := by
    rw [Bool.eq_iff_iff, decide_eq_true_iff, evB_iff]
    exact due_iff_even ht
  have hE : (allPairs t.length).length ≤ 10 := by
    have : ∀ n, n < 6 → (allPairs n).length ≤ 10 := by decide +kernel
    exact this _ (by omega)
  have hw : ∀ n, WEnd t (allPairs t.length) n → wSizes t (allPairs t.length) n = walkGo t 10 (allPairs t.length) := fun n h => by
    have := wLeft_len t (allPairs t.length) n h.2
    exact walk_is t 10 n _ (by omega) h
  exact
    { rings20 := by
        unfold pairRingsM
        have := List.length_filter_le (headMin pLt) ((allPairs t.length).map (pRing t))
        rw [List.length_map] at this
        omega
      can := by rw [hdue, ce]
      count := count_is ht hcan
      nets := nets_is ht hcan
      walks := fun n h => by rw [hw n h]; exact Nat.eq_of_beq_eq_true c2
      even := fun n h => by rw [hw n h, hdue]; exact eq_of_beq c3
      sum := by rw [hp.sum_nat]; exact Nat.eq_of_beq_eq_true c4
      ones := by rw [hp.countP_eq]; exact Nat.eq_of_beq_eq_true c5
      odd := by
        have e : ((ringsM t).filter fun z => decide (z % 4 ≠ 0) && decide (z ≠ 1)) = [] ↔ ((lensM t).filter fun z => decide (z % 4 ≠ 0) && decide (z ≠ 1)) = [] := by
          have h2 := hp.filter fun z => decide (z % 4 ≠ 0) && decide (z ≠ 1)
          constructor
          · intro h; rw [h] at h2; exact h2.symm.eq_nil
          · intro h; rw [h] at h2; exact h2.eq_nil
        rw [hdue, hp.countP_eq, decide_eq_decide.mpr e]
        exact eq_of_beq c6
      leads := fun l hl => leads_is ht hl
      one := fun h => one_is ht (hcan.mp h) }
def turnB (n : Nat) (t : List Nat) : Bool := Nat.beq t.length n && nd t && t.all fun x => decide (x < n)
theorem nd_to : ∀ {t : List Nat}, nd t = true → t.Nodup
  | [], _ => List.nodup_nil
  | x :: r, h => by
    rw [nd, Bool.and_eq_true] at h
    exact List.nodup_cons.mpr ⟨by simpa using h.1, nd_to h.2⟩
theorem turnB_is {n : Nat} {t : List Nat} (h1 : 1 ≤ n) (h9 : n ≤ 9) (h : turnB n t = true) : IsTurn t ∧ t.length = n := by
  unfold turnB at h
  simp only [Bool.and_eq_true] at h
  obtain ⟨⟨a, b⟩, c⟩ := h
  have hl := Nat.eq_of_beq_eq_true a
  refine ⟨⟨by omega, by omega, nd_to b, fun x hx => ?_⟩, hl⟩
  rw [List.all_eq_true] at c
  rw [hl]
  exact of_decide_eq_true (c x hx)
theorem rg4 : ((tup 4 4).all fun m => !nd m || turnB 4 (ringedM m [4])) = true := by decide +kernel
theorem rg5 : ((tup 5 5).all fun m => !nd m || turnB 5 (ringedM m [4, 1])) = true := by decide +kernel
theorem ringed_is (m : List Nat) (h : IsTurn m) (hl : m.length = 4 ∨ m.length = 5) : IsTurn (ringedM m (if m.length = 5 then [4, 1] else [4])) ∧ (ringedM m (if m.length = 5 then [4, 1] else [4])).length = m.length := by
  have hm : m ∈ tup m.length m.length := mem_tup rfl h.2.2.2
  rcases hl with e | e
  · rw [e] at hm ⊢
    have := List.all_eq_true.mp rg4 m hm
    rw [nd_of h.2.2.1] at this
    exact turnB_is (by decide) (by decide) (by simpa using this)
  · rw [e] at hm ⊢
    have := List.all_eq_true.mp rg5 m hm
    rw [nd_of h.2.2.1] at this
    exact turnB_is (by decide) (by decide) (by simpa using this)
end RM
end

section
namespace RM
abbrev ltN (a b : Nat) : Bool := decide (a < b)
theorem sysH {t : List Nat} (ht : IsTurn t) : G.Sys ltN (List.range t.length) (at_ t) := ⟨ordN, List.pairwise_lt_range.imp fun {a b} h => decide_eq_true h, at_mem ht, at_inj ht⟩
theorem hRing_eq (t : List Nat) (x : Nat) : hRing t x = G.ringE (at_ t) (List.range t.length) x := by
  unfold hRing hPer G.ringE G.perE
  rw [List.length_range]
def headsM (t : List Nat) : List Nat := (List.range t.length).filter fun x => headMin ltN (hRing t x)
theorem lens_heads (t : List Nat) : lensM t = (headsM t).map (hPer t) := by
  unfold lensM hRings headsM
  rw [List.filter_map, List.map_map]
  apply List.map_congr_left
  intro x _
  show (hRing t x).length = hPer t x
  unfold hRing
  exact ring_len
theorem head_of {t : List Nat} (ht : IsTurn t) {x : Nat} (hx : x < t.length) : ∃ h ∈ headsM t, hPer t x = hPer t h := by
  obtain ⟨h, h1, h2, h3⟩ := G.cover (sysH ht) (List.mem_range.mpr hx)
  obtain ⟨k, hk⟩ := (G.mem_ringE (sysH ht) h1).mp h3
  refine ⟨h, ?_, ?_⟩
  · unfold headsM
    rw [List.mem_filter, hRing_eq]
    exact ⟨h1, h2⟩
  · rw [← hk]
    exact per_same ht (List.mem_range.mp h1) k
theorem one_is_head {t : List Nat} (ht : IsTurn t) {x : Nat} (hx : x < t.length) (h1 : hPer t x = 1) : x ∈ headsM t := by
  unfold headsM
  rw [List.mem_filter]
  refine ⟨List.mem_range.mpr hx, ?_⟩
  have : hRing t x = [x] := by unfold hRing; rw [h1]; rfl
  rw [this]
  show decide (x = x) = true
  exact decide_eq_true rfl
theorem few_lens {t : List Nat} (ht : IsTurn t) {bad : Nat → Bool} (hb1 : bad 1 = true) : Few t bad ↔ ((lensM t).filter bad = [] ∨ (lensM t).filter bad = [1]) := by
  have hH : (lensM t).filter bad = ((headsM t).filter fun x => bad (hPer t x)).map (hPer t) := by rw [lens_heads, List.filter_map]; rfl
  have hnd : ((headsM t).filter fun x => bad (hPer t x)).Nodup := (List.nodup_range.sublist List.filter_sublist).sublist List.filter_sublist
  have hlt : ∀ x ∈ headsM t, x < t.length := fun x hx => List.mem_range.mp (List.mem_filter.mp hx).1
  rw [hH]
  generalize hL : (headsM t).filter (fun x => bad (hPer t x)) = L at *
  have memL : ∀ x, x ∈ L ↔ x ∈ headsM t ∧ bad (hPer t x) = true := fun x => by rw [← hL, List.mem_filter]
  constructor
  · rintro ⟨f1, f2⟩
    have one : ∀ x ∈ L, hPer t x = 1 := fun x hx => f1 x (hlt x ((memL x).mp hx).1) ((memL x).mp hx).2
    match L, hnd, memL, one with
    | [], _, _, _ => exact .inl rfl
    | [x], _, _, one => exact .inr (by rw [List.map_cons, List.map_nil, one x List.mem_cons_self])
    | x :: y :: r, hnd, memL, one =>
      have hx : x ∈ x :: y :: r := List.mem_cons_self
      have hy : y ∈ x :: y :: r := List.mem_cons_of_mem _ List.mem_cons_self
      have := f2 x y (hlt x ((memL x).mp hx).1) (hlt y ((memL y).mp hy).1) (one x hx) (one y hy)
      subst this
      exact absurd List.mem_cons_self (List.nodup_cons.mp hnd).1
  · intro h
    have one : ∀ x ∈ L, hPer t x = 1 := fun x hx => by
      have hm : hPer t x ∈ L.map (hPer t) := List.mem_map.mpr ⟨x, hx, rfl⟩
      rcases h with e | e
      · rw [e] at hm; cases hm
      · rw [e] at hm; exact List.mem_singleton.mp hm
    constructor
    · intro x hx hb
      obtain ⟨z, hz, e⟩ := head_of ht hx
      rw [e] at hb ⊢
      exact one z ((memL z).mpr ⟨hz, hb⟩)
    · intro x y hx hy a b
      apply Classical.byContradiction
      intro hxy
      have mx : x ∈ L := (memL x).mpr ⟨one_is_head ht hx a, by rw [a]; exact hb1⟩
      have my : y ∈ L := (memL y).mpr ⟨one_is_head ht hy b, by rw [b]; exact hb1⟩
      have hlen : 2 ≤ L.length := by
        have h2 : [x, y].Nodup := by simp [hxy]
        have := h2.length_le_of_subset (l₂ := L) fun z hz => by
          rcases List.mem_cons.mp hz with e | e
          · rw [e]; exact mx
          · rw [List.mem_singleton.mp e]; exact my
        simpa using this
      have hl2 : (L.map (hPer t)).length ≤ 1 := by
        rcases h with e | e
        · rw [e]; decide
        · rw [e]; decide
      rw [List.length_map] at hl2
      omega
/-- can_lead, of any turn -/
theorem can_all {t : List Nat} (ht : IsTurn t) : canLeadM t = true ↔ AllEven t := by
  rw [even_pairs ht, few_lens ht (by decide), can_perm, Bool.or_eq_true, decide_eq_true_iff, decide_eq_true_iff]
/-- the walk's sizes, of any turn -/
theorem sysP {t : List Nat} (ht : IsTurn t) : G.Sys pLt (allPairs t.length) (ledPair t) := ⟨ordP, allPairs_asc _, led_mem ht, led_inj ht⟩
theorem walk_sizes {t : List Nat} (ht : IsTurn t) {n : Nat} (h : WEnd t (allPairs t.length) n) : wSizes t (allPairs t.length) n = (pairRingsM t).map List.length := by
  have e1 : ∀ L, wStep t L = G.stepR (pRing t) L := fun L => by
    cases L with
    | nil => rfl
    | cons p r =>
      rw [wStep, G.stepR]
      apply List.filter_congr
      intro x _
      by_cases h : x ∈ pRing t p <;> simp [h]
  have e2 : ∀ i, wLeft t (allPairs t.length) i = G.leftR (pRing t) (allPairs t.length) i := by
    intro i
    induction i with
    | zero => rfl
    | succ i ih =>
      show wStep t _ = G.stepR (pRing t) _
      rw [ih, e1]
  have e3 : ∀ i, i ≤ n → G.headsR (pRing t) (allPairs t.length) i = (List.range i).map (wHead t (allPairs t.length)) := by
    intro i
    induction i with
    | zero => intro _; rfl
    | succ i ih =>
      intro hi
      show G.headsR (pRing t) (allPairs t.length) i ++ (G.leftR (pRing t) (allPairs t.length) i).take 1 = _
      rw [ih (by omega), List.range_succ, List.map_append, ← e2]
      obtain ⟨r, hr⟩ := wHead_mem (h.2 i (by omega))
      congr 1
      rw [hr]; rfl
  have hend : G.leftR (pRing t) (allPairs t.length) n = [] := by rw [← e2]; exact h.1
  have := G.walk_rings (sysP ht) (n := n) hend
  have e4 : G.ringsE pLt (allPairs t.length) (ledPair t) = pairRingsM t := rfl
  rw [e4] at this
  rw [← this]
  show (List.range n).map _ = _
  rw [List.map_map]
  have e5 := e3 n (Nat.le_refl n)
  show _ = (G.headsR (pRing t) (allPairs t.length) n).map (List.length ∘ pRing t)
  rw [e5, List.map_map]; rfl
end RM
end

section
/-! Ways: pairs of unlike halls in order. -/
namespace RM
def allWays (n : Nat) : List (Nat × Nat) := (List.range n).flatMap fun x => ((List.range n).filter fun y => decide (y ≠ x)).map fun y => (x, y)
def ledWay (t : List Nat) (p : Nat × Nat) : Nat × Nat := (at_ t p.1, at_ t p.2)
theorem mem_ways {n : Nat} {p : Nat × Nat} : p ∈ allWays n ↔ p.1 < n ∧ p.2 < n ∧ p.1 ≠ p.2 := by
  obtain ⟨x, y⟩ := p
  unfold allWays
  simp only [List.mem_flatMap, List.mem_range, List.mem_map, List.mem_filter, Prod.mk.injEq, decide_eq_true_iff]
  constructor
  · rintro ⟨a, ha, b, ⟨hb, hne⟩, rfl, rfl⟩
    exact ⟨ha, hb, fun e => hne e.symm⟩
  · rintro ⟨h1, h2, h3⟩
    exact ⟨x, h1, y, ⟨h2, fun e => h3 e.symm⟩, rfl, rfl⟩
theorem allWays_asc (n : Nat) : (allWays n).Pairwise fun a b => pLt a b = true := by
  unfold allWays
  rw [List.pairwise_flatMap]
  constructor
  · intro x _
    rw [List.pairwise_map]
    exact (List.pairwise_lt_range.sublist List.filter_sublist).imp fun {a b} h => by simp [pLt]; omega
  · exact List.pairwise_lt_range.imp fun {a b} h x hx y hy => by
      rw [List.mem_map] at hx hy
      obtain ⟨_, _, rfl⟩ := hx
      obtain ⟨_, _, rfl⟩ := hy
      simp [pLt]; omega
theorem way_mem {t : List Nat} (ht : IsTurn t) : ∀ p ∈ allWays t.length, ledWay t p ∈ allWays t.length := fun p hp => by
  obtain ⟨h1, h2, h3⟩ := mem_ways.mp hp
  have a1 := List.mem_range.mp (at_mem ht p.1 (List.mem_range.mpr h1))
  have a2 := List.mem_range.mp (at_mem ht p.2 (List.mem_range.mpr h2))
  exact mem_ways.mpr ⟨a1, a2, fun e => h3 (at_inj ht p.1 (List.mem_range.mpr h1) p.2 (List.mem_range.mpr h2) e)⟩
theorem way_inj {t : List Nat} (ht : IsTurn t) : ∀ p ∈ allWays t.length, ∀ q ∈ allWays t.length, ledWay t p = ledWay t q → p = q := fun p hp q hq e => by
  obtain ⟨p1, p2, _⟩ := mem_ways.mp hp
  obtain ⟨q1, q2, _⟩ := mem_ways.mp hq
  have e1 := congrArg Prod.fst e
  have e2 := congrArg Prod.snd e
  exact Prod.ext (at_inj ht _ (List.mem_range.mpr p1) _ (List.mem_range.mpr q1) e1) (at_inj ht _ (List.mem_range.mpr p2) _ (List.mem_range.mpr q2) e2)
theorem sysW {t : List Nat} (ht : IsTurn t) : G.Sys pLt (allWays t.length) (ledWay t) := ⟨ordP, allWays_asc _, way_mem ht, way_inj ht⟩
theorem itr_way {t : List Nat} (p : Nat × Nat) : ∀ k, itr (ledWay t) k p = (itr (at_ t) k p.1, itr (at_ t) k p.2)
  | 0 => rfl
  | k + 1 => by
    show ledWay t (itr (ledWay t) k p) = _
    rw [itr_way p k]; rfl
theorem even_ways {t : List Nat} (ht : IsTurn t) : G.AllEven (allWays t.length) (ledWay t) ↔ Few t fun n => decide (n % 2 = 1) := by
  have back : ∀ p ∈ allWays t.length, ∀ m, itr (ledWay t) m p = p ↔ itr (at_ t) m p.1 = p.1 ∧ itr (at_ t) m p.2 = p.2 := fun p _ m => by
    rw [itr_way]
    constructor
    · intro e; exact ⟨congrArg Prod.fst e, congrArg Prod.snd e⟩
    · rintro ⟨a, b⟩; exact Prod.ext a b
  constructor
  · intro he
    -- of two halls one has an even period
    have two : ∀ x y, x < t.length → y < t.length → x ≠ y → hPer t x % 2 = 1 → hPer t y % 2 = 1 → False := fun x y hx hy hxy a b => by
      have hp : (x, y) ∈ allWays t.length := mem_ways.mpr ⟨hx, hy, hxy⟩
      have hm : (hPer t x * hPer t y) % 2 = 1 := by rw [Nat.mul_mod, a, b]
      have hb : itr (ledWay t) (hPer t x * hPer t y) (x, y) = (x, y) := by
        refine (back _ hp _).mpr ⟨dvd_per (hIs ht hx) (Nat.mul_mod_right _ _), dvd_per (hIs ht hy) (Nat.mul_mod_left _ _)⟩
      have h1 := odd_of_dvd (per_dvd ((sysW ht).per hp).1 hb) hm
      have h2 := he _ hp
      omega
    constructor
    · intro x hx hb
      have hb : hPer t x % 2 = 1 := of_decide_eq_true hb
      apply Classical.byContradiction
      intro h1
      refine two x (at_ t x) hx (itr_hl ht hx 1) (fun e => h1 ((per_one ht hx).mpr e.symm)) hb ?_
      have := per_same ht hx 1
      show hPer t (itr (at_ t) 1 x) % 2 = 1
      rw [this]; exact hb
    · intro x y hx hy a b
      apply Classical.byContradiction
      intro hxy
      exact two x y hx hy hxy (by rw [a]) (by rw [b])
  · rintro ⟨f1, f2⟩ p hp
    obtain ⟨h1, h2, h3⟩ := mem_ways.mp hp
    obtain ⟨a, b⟩ := (back p hp _).mp ((sysW ht).per hp).1.2.1
    have ev : ∀ z, z < t.length → hPer t z % 2 = 0 → ∀ m, itr (at_ t) m z = z → m % 2 = 0 := fun z hz h4 m hm => by
      have := per_dvd (hIs ht hz) hm
      have h1 := Nat.div_add_mod m (hPer t z)
      rw [this, Nat.add_zero] at h1
      rw [← h1, Nat.mul_mod, h4, Nat.zero_mul]
    by_cases e1 : hPer t p.1 % 2 = 0
    · exact ev p.1 h1 e1 _ a
    · by_cases e2 : hPer t p.2 % 2 = 0
      · exact ev p.2 h2 e2 _ b
      · have o1 := f1 p.1 h1 (decide_eq_true (by omega))
        have o2 := f1 p.2 h2 (decide_eq_true (by omega))
        exact absurd (f2 p.1 p.2 h1 h2 o1 o2) h3
/-- the same by the lengths of the turn's rings -/
theorem ways_lens {t : List Nat} (ht : IsTurn t) : G.AllEven (allWays t.length) (ledWay t) ↔ ((lensM t).filter (fun n => decide (n % 2 = 1)) = [] ∨ (lensM t).filter (fun n => decide (n % 2 = 1)) = [1]) := by
  rw [even_ways ht, few_lens ht (by decide)]
end RM
end

section
/-! A turn with rings of given lengths is a turn, of any halls. -/
namespace RM
theorem at_set_same {f : List Nat} {x v : Nat} (h : x < f.length) : at_ (f.set x v) x = v := by
  unfold at_
  rw [List.getD_eq_getElem?_getD, List.getElem?_set_self h]; rfl
theorem at_set_ne {f : List Nat} {x y v : Nat} (h : x ≠ y) : at_ (f.set x v) y = at_ f y := by
  unfold at_
  rw [List.getD_eq_getElem?_getD, List.getElem?_set_ne h, List.getD_eq_getElem?_getD]
theorem ringIn_other {names : List Nat} {a len : Nat} {x : Nat} : ∀ {k : Nat} {f : List Nat}, (∀ j, j < k → at_ names (a + j) ≠ x) → at_ (ringIn names a len k f) x = at_ f x
  | 0, f, _ => rfl
  | k + 1, f, h => by
    rw [ringIn, at_set_ne (h k (Nat.lt_succ_self k)), ringIn_other fun j hj => h j (by omega)]
theorem ringIn_at {names : List Nat} {a len : Nat} (hinj : ∀ i j, i < names.length → j < names.length → at_ names i = at_ names j → i = j) : ∀ {k : Nat} {f : List Nat}, a + k ≤ names.length → (∀ i, i < names.length → at_ names i < f.length) →
    ∀ j, j < k → at_ (ringIn names a len k f) (at_ names (a + j)) = at_ names (a + (j + 1) % len)
  | 0, f, _, _, j, hj => by omega
  | k + 1, f, hk, hl, j, hj => by
    rw [ringIn]
    by_cases e : j = k
    · subst e
      exact at_set_same (by rw [ringIn_len]; exact hl _ (by omega))
    · rw [at_set_ne (fun z => e (by have := hinj _ _ (by omega) (by omega) z; omega))]
      exact ringIn_at hinj (by omega) hl j (by omega)
/-- the first a names are led to one another, one to one -/
def Led (names f : List Nat) (a : Nat) : Prop := (∀ i, i < a → ∃ j, j < a ∧ at_ f (at_ names i) = at_ names j) ∧ ∀ i j, i < a → j < a → at_ f (at_ names i) = at_ f (at_ names j) → i = j
theorem led_block {names f : List Nat} {a l : Nat} (hinj : ∀ i j, i < names.length → j < names.length → at_ names i = at_ names j → i = j) (hl0 : 0 < l) (hk : a + l ≤ names.length) (hl : ∀ i, i < names.length → at_ names i < f.length) (h : Led names f a) : Led names (ringIn names a l l f) (a + l) := by
  have new : ∀ j, j < l → at_ (ringIn names a l l f) (at_ names (a + j)) = at_ names (a + (j + 1) % l) := ringIn_at hinj hk hl
  have old : ∀ i, i < a → at_ (ringIn names a l l f) (at_ names i) = at_ f (at_ names i) := fun i hi => ringIn_other fun j hj z => by
    have := hinj _ _ (by omega) (by omega) z
    omega
  have md : ∀ j, j < l → (j + 1) % l < l := fun j _ => Nat.mod_lt _ hl0
  have minj : ∀ i j, i < l → j < l → (i + 1) % l = (j + 1) % l → i = j := fun i j hi hj e => by
    by_cases h1 : i + 1 = l
    · rw [h1, Nat.mod_self] at e
      by_cases h2 : j + 1 = l
      · omega
      · rw [Nat.mod_eq_of_lt (by omega)] at e; omega
    · rw [Nat.mod_eq_of_lt (by omega : i + 1 < l)] at e
      by_cases h2 : j + 1 = l
      · rw [h2, Nat.mod_self] at e; omega
      · rw [Nat.mod_eq_of_lt (by omega)] at e; omega
  constructor
  · intro i hi
    by_cases hia : i < a
    · obtain ⟨j, hj, e⟩ := h.1 i hia
      exact ⟨j, by omega, by rw [old i hia, e]⟩
    · have := new (i - a) (by omega)
      rw [show a + (i - a) = i by omega] at this
      exact ⟨a + (i - a + 1) % l, by have := md (i - a) (by omega); omega, this⟩
  · intro i j hi hj e
    by_cases hia : i < a <;> by_cases hja : j < a
    · rw [old i hia, old j hja] at e
      exact h.2 i j hia hja e
    · have := new (j - a) (by omega)
      rw [show a + (j - a) = j by omega] at this
      obtain ⟨m, hm, e2⟩ := h.1 i hia
      rw [old i hia, this, e2] at e
      have := hinj _ _ (by omega) (by have := md (j - a) (by omega); omega) e
      omega
    · have := new (i - a) (by omega)
      rw [show a + (i - a) = i by omega] at this
      obtain ⟨m, hm, e2⟩ := h.1 j hja
      rw [old j hja, this, e2] at e
      have := hinj _ _ (by have := md (i - a) (by omega); omega) (by omega) e
      omega
    · have n1 := new (i - a) (by omega)
      have n2 := new (j - a) (by omega)
      rw [show a + (i - a) = i by omega] at n1
      rw [show a + (j - a) = j by omega] at n2
      rw [n1, n2] at e
      have := hinj _ _ (by have := md (i - a) (by omega); omega) (by have := md (j - a) (by omega); omega) e
      have := minj (i - a) (j - a) (by omega) (by omega) (by omega)
      omega
theorem led_out {names : List Nat} (hinj : ∀ i j, i < names.length → j < names.length → at_ names i = at_ names j → i = j) : ∀ (ls : List Nat) (a : Nat) (f : List Nat), (∀ l ∈ ls, 0 < l) → a + ls.sum ≤ names.length → (∀ i, i < names.length → at_ names i < f.length) → Led names f a → Led names (ringOut names ls a f) (a + ls.sum)
  | [], a, f, _, _, _, h => by simpa [ringOut] using h
  | l :: ls, a, f, hp, hk, hl, h => by
    rw [List.sum_cons] at hk
    rw [ringOut, List.sum_cons, ← Nat.add_assoc]
    exact led_out hinj ls (a + l) _ (fun x hx => hp x (List.mem_cons_of_mem _ hx)) (by omega) (by rw [ringIn_len]; exact hl) (led_block hinj (hp l List.mem_cons_self) (by omega) hl h)
theorem at_getElem {t : List Nat} {i : Nat} (h : i < t.length) : at_ t i = t[i] := by
  unfold at_
  rw [List.getD_eq_getElem?_getD, List.getElem?_eq_getElem h]; rfl
theorem ringed_all {names ls : List Nat} (hn : IsTurn names) (hp : ∀ l ∈ ls, 0 < l) (hs : ls.sum = names.length) : IsTurn (ringedM names ls) ∧ (ringedM names ls).length = names.length := by
  have hlen : (ringedM names ls).length = names.length := by
    unfold ringedM
    rw [ringOut_len, List.length_replicate, hs]
  have hinj : ∀ i j, i < names.length → j < names.length → at_ names i = at_ names j → i = j := fun i j hi hj e => at_inj hn i (List.mem_range.mpr hi) j (List.mem_range.mpr hj) e
  have hlt : ∀ i, i < names.length → at_ names i < names.length := fun i hi => List.mem_range.mp (at_mem hn i (List.mem_range.mpr hi))
  have hL : Led names (ringedM names ls) names.length := by
    have := led_out hinj ls 0 (List.replicate ls.sum 0) hp (by omega) (by rw [List.length_replicate, hs]; exact hlt) ⟨fun i hi => by omega, fun i j hi => by omega⟩
    rw [Nat.zero_add, hs] at this
    unfold ringedM
    rw [hs]; exact this
  -- every hall is a name
  have onto : ∀ x, x < names.length → ∃ i, i < names.length ∧ at_ names i = x := fun x hx => by
    have hm : x ∈ names := ((perm_range hn.2.2.1 hn.2.2.2).mem_iff).mpr (List.mem_range.mpr hx)
    obtain ⟨i, hi, e⟩ := List.getElem_of_mem hm
    exact ⟨i, hi, by rw [at_getElem hi]; exact e⟩
  refine ⟨⟨by rw [hlen]; exact hn.1, by rw [hlen]; exact hn.2.1, ?_, ?_⟩, hlen⟩
  · rw [List.nodup_iff_pairwise_ne, List.pairwise_iff_getElem]
    intro i j hi hj hij e
    rw [← at_getElem hi, ← at_getElem hj] at e
    obtain ⟨a, ha, ea⟩ := onto i (by omega)
    obtain ⟨b, hb, eb⟩ := onto j (by omega)
    rw [← ea, ← eb] at e
    have := hL.2 a b ha hb e
    subst this
    omega
  · intro x hx
    obtain ⟨i, hi, e⟩ := List.getElem_of_mem hx
    rw [← at_getElem hi] at e
    obtain ⟨a, ha, ea⟩ := onto i (by omega)
    obtain ⟨b, hb, eb⟩ := hL.1 a ha
    rw [ea, e] at eb
    rw [eb, hlen]
    exact hlt b hb
end RM
end

section
/-! What is told of turns and one-way nets. -/
namespace RM
/-- k divides all rings, but for one 1 -/
def othM (k : Nat) (t : List Nat) : List Nat := (ringsM t).filter fun n => decide (n % k ≠ 0)
def divM (k : Nat) (t : List Nat) : Bool := decide (othM k t = []) || decide (othM k t = [1])
theorem perm_two {A B : List Nat} (hp : A.Perm B) : (A = [] ↔ B = []) ∧ (A = [1] ↔ B = [1]) := by
  refine ⟨⟨fun h => ?_, fun h => ?_⟩, ⟨fun h => ?_, fun h => ?_⟩⟩
  · rw [h] at hp; exact hp.symm.eq_nil
  · rw [h] at hp; exact hp.eq_nil
  · rw [h] at hp; exact List.perm_singleton.mp hp.symm
  · rw [h] at hp; exact List.perm_singleton.mp hp
theorem div_iff (k : Nat) (t : List Nat) : divM k t = true ↔ ((lensM t).filter (fun n => decide (n % k ≠ 0)) = [] ∨ (lensM t).filter (fun n => decide (n % k ≠ 0)) = [1]) := by
  obtain ⟨p1, p2⟩ := perm_two ((rings_perm t).filter fun n => decide (n % k ≠ 0))
  unfold divM othM
  rw [Bool.or_eq_true, decide_eq_true_iff, decide_eq_true_iff, p1, p2]
abbrev evW (t : List Nat) : Prop := G.AllEven (allWays t.length) (ledWay t)
theorem odd_ne (n : Nat) : decide (n % 2 ≠ 0) = decide (n % 2 = 1) := by
  by_cases h : n % 2 = 1 <;> simp [h]
theorem can_ways {t : List Nat} (ht : IsTurn t) : divM 2 t = true ↔ evW t := by
  rw [div_iff]
  unfold evW
  rw [ways_lens ht]
  have : (fun n : Nat => decide (n % 2 ≠ 0)) = fun n => decide (n % 2 = 1) := funext odd_ne
  rw [this]
def waysR (t : List Nat) : List (List (Nat × Nat)) := G.ringsE pLt (allWays t.length) (ledWay t)
def dueW (t : List Nat) : List (List (Nat × Nat)) := G.dueE pLt (allWays t.length) (ledWay t)
def countW (t : List Nat) : Nat := if divM 2 t = true then 2 ^ (waysR t).length else 0
def ledW (t : List Nat) : List (Nat × Nat) := ((waysR t).flatMap evens).mergeSort (le_ pLt)
theorem due_ways {t : List Nat} (ht : IsTurn t) : decide (dueW t ≠ []) = divM 2 t := by
  have h1 := G.due_iff_even (sysW ht)
  have h2 := can_ways ht
  cases h : divM 2 t with
  | true => exact decide_eq_true (h1.mpr (h2.mp h))
  | false => exact decide_eq_false fun z => by rw [h2.mpr (h1.mp z)] at h; cases h
theorem count_ways {t : List Nat} (ht : IsTurn t) : countW t = (dueW t).length := by
  unfold countW
  by_cases h : divM 2 t = true
  · rw [if_pos h]
    unfold dueW
    rw [← (G.due_lots (sysW ht) ((can_ways ht).mp h)).length_eq, List.length_map, lots_len]; rfl
  · rw [if_neg h]
    have : dueW t = [] := G.due_none (sysW ht) fun z => h ((can_ways ht).mpr z)
    rw [this]; rfl
theorem led_due {t : List Nat} (ht : IsTurn t) (h : divM 2 t = true) : ledW t ∈ dueW t := by
  have h1 := G.due_lots (sysW ht) ((can_ways ht).mp h)
  exact h1.mem_iff.mp (List.mem_map.mpr ⟨_, choice_in (fun _ => true) (waysR t), rfl⟩)
theorem filt_len {α : Type} (p : α → Bool) : ∀ l : List α, l.length = (l.filter p).length + (l.filter fun x => !p x).length
  | [] => rfl
  | x :: l => by
    have := filt_len p l
    cases h : p x <;> simp [List.filter_cons, h] <;> omega
theorem due_half {t : List Nat} (ht : IsTurn t) {S : List (Nat × Nat)} (h : S ∈ dueW t) : 2 * S.length = (allWays t.length).length := by
  obtain ⟨h1, h2⟩ := List.mem_filter.mp h
  have hs := mem_lots.mp h1
  have e := congrArg List.length (of_decide_eq_true h2)
  unfold G.ledE G.leftE at e
  rw [List.length_mergeSort, List.length_map] at e
  have hn := (sysW ht).nodup
  have hp : ((allWays t.length).filter fun p => decide (p ∈ S)).Perm S := by
    rw [List.perm_ext_iff_of_nodup (hn.sublist List.filter_sublist) (hn.sublist hs)]
    intro a
    rw [List.mem_filter, decide_eq_true_iff]
    exact ⟨fun z => z.2, fun z => ⟨hs.subset z, z⟩⟩
  have h3 := hp.length_eq
  have h4 : (allWays t.length).length = (List.filter (fun p => decide (p ∈ S)) (allWays t.length)).length + (List.filter (fun p => !decide (p ∈ S)) (allWays t.length)).length := filt_len _ _
  have e5 : S.length = (List.filter (fun p => !decide (p ∈ S)) (allWays t.length)).length := e.trans (congrArg List.length (List.filter_congr fun x _ => by by_cases hx : x ∈ S <;> simp [hx]))
  rw [h3, ← e5] at h4
  omega
theorem allWays_len {n : Nat} (h : n ≤ 9) : (allWays n).length = n * (n - 1) ∧ (allWays n).length ≤ 81 := by
  have : ∀ n, n < 10 → (allWays n).length = n * (n - 1) ∧ (allWays n).length ≤ 81 := by decide +kernel
  exact this n (by omega)
/-- all rings are of even length -/
theorem even_rings {α : Type} [DecidableEq α] {lt : α → α → Bool} {E : List α} {f : α → α} (Y : G.Sys lt E f) : G.AllEven E f ↔ ((G.ringsE lt E f).map List.length).filter (fun n => decide (n % 2 = 1)) = [] := by
  rw [List.filter_eq_nil_iff]
  constructor
  · intro h n hn
    obtain ⟨r, hr, rfl⟩ := List.mem_map.mp hn
    obtain ⟨p, hp, rfl⟩ := List.mem_map.mp (List.mem_filter.mp hr).1
    have h1 := h p hp
    have h2 : (G.ringE f E p).length = G.perE f E p := ring_len
    rw [h2]
    simp; omega
  · intro h p hp
    obtain ⟨q, hq, h1, h2⟩ := G.cover Y hp
    have h3 := h (G.ringE f E q).length (List.mem_map.mpr ⟨_, List.mem_filter.mpr ⟨List.mem_map.mpr ⟨q, hq, rfl⟩, h1⟩, rfl⟩)
    have h4 : (G.ringE f E q).length = G.perE f E q := ring_len
    rw [h4] at h3
    have h3 : G.perE f E q % 2 = 0 := by
      have : ¬ G.perE f E q % 2 = 1 := by simpa using h3
      omega
    -- q's period divides p's
    obtain ⟨j, hj⟩ := (G.mem_ringE Y hp).mp (G.ring_sym Y hq h2)
    have hb : itr f (G.perE f E p) q = q := by
      rw [← hj, ← itr_add, Nat.add_comm, itr_add, (Y.per hp).1.2.1]
    have := per_dvd (Y.per hq).1 hb
    have h5 := Nat.div_add_mod (G.perE f E p) (G.perE f E q)
    rw [this, Nat.add_zero] at h5
    rw [← h5, Nat.mul_mod, h3, Nat.zero_mul]
/-- the law's own words for one 1 at most among odd ones -/
theorem one_odd (L : List Nat) : (L.filter (fun n => decide (n % 2 = 1)) = [] ∨ L.filter (fun n => decide (n % 2 = 1)) = [1]) ↔ (L.countP (fun z => decide (z = 1)) < 2 ∧ L.filter (fun z => decide (1 < z) && decide (z % 2 = 1)) = []) := by
  have e1 : L.countP (fun z => decide (z = 1)) = (L.filter (fun n => decide (n % 2 = 1))).countP fun z => decide (z = 1) := by
    rw [List.countP_filter]
    congr 1
    funext z
    by_cases h : z = 1 <;> simp [h]
  have e2 : L.filter (fun z => decide (1 < z) && decide (z % 2 = 1)) = (L.filter (fun n => decide (n % 2 = 1))).filter fun z => decide (z ≠ 1) := by
    rw [List.filter_filter]
    apply List.filter_congr
    intro z _
    by_cases h : z % 2 = 1
    · by_cases h1 : z = 1
      · simp [h1]
      · have : 1 < z := by omega
        simp [h, h1, this]
    · simp [h]
  rw [e1, e2]
  generalize L.filter (fun n => decide (n % 2 = 1)) = O
  constructor
  · rintro (h | h) <;> rw [h] <;> decide
  · rintro ⟨h1, h2⟩
    have all : ∀ x ∈ O, x = 1 := fun x hx => by
      have := List.filter_eq_nil_iff.mp h2 x hx
      simpa using this
    match O, all, h1 with
    | [], _, _ => exact .inl rfl
    | [x], all, _ => exact .inr (by rw [all x List.mem_cons_self])
    | x :: y :: r, all, h1 =>
      have hx := all x List.mem_cons_self
      have hy := all y (List.mem_cons_of_mem _ List.mem_cons_self)
      subst hx hy
      simp at h1
      omega
/-- a walk comes to its end -/
theorem G.walk_end {α : Type} [DecidableEq α] {R : α → List α} (hR : ∀ p, p ∈ R p) (E : List α) : ∃ n, n ≤ E.length ∧ G.leftR R E n = [] ∧ ∀ i, i < n → G.leftR R E i ≠ [] := by
  have step : ∀ L : List α, L ≠ [] → (G.stepR R L).length < L.length := fun L h => by
    cases L with
    | nil => exact absurd rfl h
    | cons p r =>
      rw [G.stepR, List.filter_cons, decide_eq_true (hR p)]
      have := List.length_filter_le (fun x => !decide (x ∈ R p)) r
      simp; omega
  have len : ∀ i, (∀ j, j < i → G.leftR R E j ≠ []) → (G.leftR R E i).length + i ≤ E.length := by
    intro i
    induction i with
    | zero => intro _; exact Nat.le_refl _
    | succ i ih =>
      intro hj
      have h1 := ih fun j h => hj j (by omega)
      have h2 := step _ (hj i (Nat.lt_succ_self i))
      show (G.stepR R (G.leftR R E i)).length + (i + 1) ≤ _
      omega
  have hex : ∃ n, G.leftR R E n = [] := by
    apply Classical.byContradiction
    intro hn
    have := len (E.length + 1) fun j _ z => hn ⟨j, z⟩
    omega
  obtain ⟨n0, h0⟩ := hex
  obtain ⟨m, _, h1, h2⟩ := least (p := fun n => G.leftR R E n = []) n0 h0
  have := len m h2
  exact ⟨m, by omega, h1, h2⟩
end RM
namespace RM
theorem div2_words (t : List Nat) : divM 2 t = (decide ((ringsM t).countP (fun z => decide (z = 1)) < 2) && decide ((ringsM t).filter (fun z => decide (1 < z) && decide (z % 2 = 1)) = [])) := by
  have : (fun n : Nat => decide (n % 2 ≠ 0)) = fun n => decide (n % 2 = 1) := funext odd_ne
  have h := one_odd (ringsM t)
  unfold divM othM
  rw [this, Bool.eq_iff_iff, Bool.or_eq_true, Bool.and_eq_true, decide_eq_true_iff, decide_eq_true_iff, decide_eq_true_iff, decide_eq_true_iff]
  exact h
theorem div2_sizes {t : List Nat} (ht : IsTurn t) : decide (((waysR t).map List.length).filter (fun n => decide (n % 2 = 1)) = []) = divM 2 t := by
  rw [Bool.eq_iff_iff, decide_eq_true_iff, can_ways ht]
  exact (even_rings (sysW ht)).symm
end RM
namespace RM
theorem G.leads_iff {α : Type} [DecidableEq α] {lt : α → α → Bool} {E : List α} {f : α → α} (Y : G.Sys lt E f) {l : List α} (hl : l ∈ allLots E) : G.leadsE E f l = true ↔ l ∈ G.dueE lt E f := by
  rw [G.leads_is Y hl, decide_eq_true_iff]
end RM
end

section
namespace DL
open PySem PySem.Spec PyProof.Rows L2 RM
abbrev s_alike : Stmt := topS 21
abbrev N_alike : List Str := ["found", "due", "k"]
theorem sc_alike : FnScope N_alike ["found", "due"] (defScope s_alike) := ⟨rfl, rfl, rfl, by decide +kernel, rfl, by decide +kernel, by decide +kernel⟩
def isSeqD : PyData → Bool
  | .list _ => true
  | .tuple _ => true
  | _ => false
mutual
def smallD : PyData → Bool
  | .list xs => decide (xs.length ≤ 16777216) && smallAll xs
  | .tuple xs => decide (xs.length ≤ 16777216) && smallAll xs
  | .none => true
  | .bool _ => true
  | .int _ => true
  | .str _ => true
  | .dict _ => true
def smallAll : List PyData → Bool
  | [] => true
  | x :: xs => smallD x && smallAll xs
end
theorem small_all : ∀ {xs : List PyData}, smallAll xs = true → ∀ x ∈ xs, smallD x = true
  | [], _, _, h => by cases h
  | y :: ys, h, x, hx => by
    rw [smallAll, Bool.and_eq_true] at h
    rcases List.mem_cons.mp hx with e | e
    · rw [e]; exact h.1
    · exact small_all h.2 x e
theorem small_of {a : PyData} {xs : List PyData} (h : smallD a = true) (hi : itemsOf a = some xs) : xs.length ≤ 16777216 ∧ smallAll xs = true := by
  cases a with
  | list ys =>
    cases hi
    rw [smallD, Bool.and_eq_true] at h
    exact ⟨of_decide_eq_true h.1, h.2⟩
  | tuple ys =>
    cases hi
    rw [smallD, Bool.and_eq_true] at h
    exact ⟨of_decide_eq_true h.1, h.2⟩
  | _ => cases hi
theorem small_mapAll {α : Type} {enc : α → PyData} : ∀ {xs : List α}, (∀ x ∈ xs, smallD (enc x) = true) → smallAll (xs.map enc) = true
  | [], _ => by rw [List.map_nil, smallAll]
  | x :: xs, h => by rw [List.map_cons, smallAll, h x List.mem_cons_self, small_mapAll fun y hy => h y (List.mem_cons_of_mem _ hy)]; rfl
theorem small_tup {α : Type} {enc : α → PyData} {xs : List α} (h : ∀ x ∈ xs, smallD (enc x) = true) (hl : xs.length ≤ 16777216) : smallD (.tuple (xs.map enc)) = true := by
  rw [smallD, small_mapAll h, List.length_map, decide_eq_true hl]; rfl
section
variable {P : Program} {w : World} {K : PySem.W.Frag} {mg : Str → Option Value} {base : Heap}
def R_alike (m : Nat) (ds : List PyData) (d : PyData) : Prop := ∃ a, ds = [a, a] ∧ SeqAt.shaped a = true ∧ a.depth ≤ m ∧ smallD a = true ∧ d = .bool true
theorem alike_leaf (T : Tx mg) {f : Addr} {cdv : Value} {A : Around} {outer : List Env} {s : Shared} {H : Hp} {E : XK} {j : Nat} (hr : Room j (A.deeper (envOfC "_law_alike" (defScope s_alike) s.heap.objs.size f cdv))) {a : PyData} (ha : SeqAt.shaped a = true) (hs : isSeqD a = false) :
    Er (cxOf CX0 P w K mg base N_alike "_law_alike" (defScope s_alike) f cdv A outer s H E).nox (slots0 N_alike [a, a]) (defBody s_alike) (.bool true) := by
  have hd := sh_dict ha
  have hrefl : PyData.eqv a a = true := PySem.SeqAt.eqv_refl a (SeqAt.canLay_of_shaped ha)
  refine er_ifF (et_is (et_val (ee_isi2 T.isinstance T.tuple bt_tuple T.list bt_list (ee_var 1) hd (kit_tuple a) (kit_list a))) ?c1) ?_
  case c1 => cases a <;> first | rfl | (simp [isSeqD] at hs)
  cases h : isNo a || isStrD a with
  | true =>
    refine er_ifT (et_is (et_w (ew_or (et_isN (ee_var 1) ee_non) fun _ => (ew_or1 (et_val (ee_isi T.isinstance T.str bt_str (ee_var 1) hd (kit_str a)))))) h) ?_
    refine er_is (er_ret (ee_and (ee_eqD hr (ee_var 0) (ee_var 1) ha ha) fun _ => (ee_one (ee_eqD hr (ee_isi T.isinstance T.str bt_str (ee_var 0) hd (kit_str a)) (ee_isi T.isinstance T.str bt_str (ee_var 1) hd (kit_str a)) (sh_bool _) (sh_bool _))))) ?_
    rw [hrefl, bool_eqv, decide_eq_true rfl]; rfl
  | false =>
    refine er_ifF (et_is (et_w (ew_or (et_isN (ee_var 1) ee_non) fun _ => (ew_or1 (et_val (ee_isi T.isinstance T.str bt_str (ee_var 1) hd (kit_str a)))))) h) ?_
    refine er_is (er_ret (ee_and (ee_isi T.isinstance T.int bt_int (ee_var 0) hd (kit_int a)) fun _ => (ee_and (ee_eqD hr (ee_isi T.isinstance T.bool bt_bool (ee_var 0) hd (kit_bool a)) (ee_isi T.isinstance T.bool bt_bool (ee_var 1) hd (kit_bool a)) (sh_bool _) (sh_bool _)) fun _ => (ee_one (ee_eqD hr (ee_var 0) (ee_var 1) ha ha))))) ?_
    rw [hrefl, bool_eqv, decide_eq_true rfl]
    cases a <;> first | rfl | (cases hs; done) | (cases h; done) | exact absurd rfl (hd _)
theorem seq_item {a : PyData} {xs : List PyData} {x : PyData} {m : Nat} (ha : SeqAt.shaped a = true) (hm : a.depth ≤ m + 1) (hi : itemsOf a = some xs) (hx : x ∈ xs) : SeqAt.shaped x = true ∧ x.depth ≤ m := by
  have h1 := SeqAt.canLay_of_shaped ha
  have h2 := SeqAt.depth_of_shaped ha
  have h3 := depth_le hx
  cases a with
  | list ys =>
    cases hi
    rw [PyData.canLay0] at h1
    rw [PyData.depth] at h2 hm
    exact ⟨shaped_of (layAll_mem h1 hx) (by omega), by omega⟩
  | tuple ys =>
    cases hi
    rw [PyData.canLay0] at h1
    rw [PyData.depth] at h2 hm
    exact ⟨shaped_of (layAll_mem h1 hx) (by omega), by omega⟩
  | _ => cases hi
theorem ee_ixSeq {X : Cx} {Γ Γ1 Γ2 : Gm} {e b : Expr} {pos : Pos} {d d2 : PyData} {ds : List PyData} {i : Int} (ha : Ee X Γ e d2 Γ1) (hit : itemsOf d2 = some ds) (hb : Ee X Γ1 b (.int i) Γ2) (hi : atI ds i = some d) (hs : PlainIx b := by exact fun _ _ => rfl) : Ee X Γ (.Subscript e b pos) d Γ2 := by
  cases d2 with
  | list xs => cases hit; exact ee_ixL ha hb hi hs
  | tuple xs => cases hit; exact ee_ixT ha hb hi hs
  | _ => cases hit
theorem ok_alike (T : Tx mg) (F : Fn K mg "_law_alike" s_alike ["found", "due"]) : ∀ m, Ca P w K mg base (m + 1) "_law_alike" ["found", "due"] (spD K (R_alike m))
  | 0 => by
    have S := sc_alike
    refine ca_Er F S (fun ds d ⟨_, e, _⟩ => by rw [e]; rfl) fun f cdv A outer s H E ds d hr ⟨a, e1, ha, hm, hx, e2⟩ => ?_
    subst e1 e2
    refine alike_leaf T hr ha ?_
    cases a <;> first | rfl | (simp [PyData.depth] at hm)
  | m + 1 => by
    have S := sc_alike
    have C := ok_alike T F m
    refine ca_Er F S (fun ds d ⟨_, e, _⟩ => by rw [e]; rfl) fun f cdv A outer s H E ds d hr ⟨a, e1, ha, hm, hx, e2⟩ => ?_
    subst e1 e2
    cases hq : isSeqD a with
    | false => exact alike_leaf T hr ha hq
    | true =>
      have hd := sh_dict ha
      obtain ⟨xs, hit⟩ : ∃ xs, itemsOf a = some xs := by
        cases a <;> first | exact ⟨_, rfl⟩ | (cases hq; done)
      have hL := (small_of hx hit).1
      have htl : (isTupD a || isListD a) = true := by cases a <;> first | rfl | (cases hq; done)
      have hmem : ∀ x ∈ xs, SeqAt.shaped x = true ∧ x.depth ≤ m ∧ smallD x = true := fun x hxm => ⟨(seq_item ha hm hit hxm).1, (seq_item ha hm hit hxm).2, small_all (small_of hx hit).2 x hxm⟩
      refine er_ifT (et_is (et_val (ee_isi2 T.isinstance T.tuple bt_tuple T.list bt_list (ee_var 1) hd (kit_tuple a) (kit_list a))) htl) ?_
      refine er_ifF (et_is (et_w (ew_or (et_not (et_val (ee_isi2 T.isinstance T.tuple bt_tuple T.list bt_list (ee_var 0) hd (kit_tuple a) (kit_list a)))) fun _ => (ew_or1 (et_neD hr (ee_isi T.isinstance T.list bt_list (ee_var 0) hd (kit_list a)) (ee_isi T.isinstance T.list bt_list (ee_var 1) hd (kit_list a)) (sh_bool _) (sh_bool _))))) ?c2) ?_
      case c2 => rw [htl, bool_eqv, decide_eq_true rfl]; rfl
      refine er_ifF (et_is (et_neD hr (ee_len T.len (ea_cons (ee_var 0) ea_nil) hit) (ee_len T.len (ea_cons (ee_var 1) ea_nil) hit) (sh_int _) (sh_int _)) ?c3) ?_
      case c3 => rw [int_eqv, decide_eq_true rfl]; rfl
      refine er_is (er_ret (ee_eqD hr (ee_new (en_lc (own := [("k", 2)]) (List.range xs.length) iN (fun _ => false) iN (fun k => (slots0 N_alike [a, a]).set 2 (some (.im (iN k)))) [2] rfl S.nd (blkOk_by (N := N_alike) (sc := defScope s_alike) (by decide +kernel)) rfl (by decide) (by rw [List.length_range]; exact hL) (fun x _ => less_set rfl) (ei_is (ei_range1 T.range (ea_cons (ee_len T.len (ea_cons (ee_var 1) ea_nil) hit) ea_nil) (by omega) (by omega)) (rngD_N _)) (fun x hx _ _ _ _ _ => (eg_name 2 S.nd))
        (fun k hk _ _ _ _ _ => (ets_one (et_is (et_not (et_val (ee_ca C hr (ea_cons (ee_ixSeq (ee_var 0) hit (ee_var 2) (atI_nat (List.getElem?_eq_getElem (List.mem_range.mp hk)))) (ea_cons (ee_ixSeq (ee_var 1) hit (ee_var 2) (atI_nat (List.getElem?_eq_getElem (List.mem_range.mp hk)))) ea_nil)) ⟨xs[k]'(List.mem_range.mp hk), rfl, (hmem _ (List.getElem_mem _)).1, (hmem _ (List.getElem_mem _)).2.1, (hmem _ (List.getElem_mem _)).2.2, rfl⟩ (Nat.le_refl _)))) rfl))) (fun x hx hf _ _ _ _ _ => (ee_var 2)))) (ee_new (en_lst (ds := []) ea_nil (by decide))) ?s1 sh_nil)) ?_
      · rw [List.filter_eq_nil_iff.mpr (by intro _ _ z; cases z)]; exact sh_nil
      · rw [List.filter_eq_nil_iff.mpr (by intro _ _ z; cases z)]
        rfl
end
end DL
end

section
/-! The search for a turn. -/
namespace RM
def tbB (W : List (Nat × Nat)) (x y : Nat) : Bool := decide ((x, y) ∈ W)
def stepOk (W : List (Nat × Nat)) (t : List Nat) (h o : Nat) : Bool := !((tbB W o t.length == tbB W (at_ t o) h) || (tbB W t.length o == tbB W h (at_ t o)))
def goB (W : List (Nat × Nat)) (t : List Nat) (h : Nat) : Bool := !decide (h ∈ t) && (List.range t.length).all (stepOk W t h)
def finM (W : List (Nat × Nat)) (n : Nat) : Nat → List Nat → Option (List Nat)
  | 0, t => some t
  | k + 1, t => (List.range n).findSome? fun h => if goB W t h = true then finM W n k (t ++ [h]) else none
/-- t is one to one and leads all ways of its halls -/
def Comp (W : List (Nat × Nat)) (t : List Nat) : Prop := t.Nodup ∧ ∀ a b, a < t.length → b < t.length → a ≠ b → tbB W a b ≠ tbB W (at_ t a) (at_ t b)
theorem at_snoc_lt {t : List Nat} {h a : Nat} (ha : a < t.length) : at_ (t ++ [h]) a = at_ t a := by
  unfold at_
  rw [List.getD_eq_getElem?_getD, List.getElem?_append_left ha, List.getD_eq_getElem?_getD]
theorem at_snoc_len {t : List Nat} {h : Nat} : at_ (t ++ [h]) t.length = h := by
  unfold at_
  rw [List.getD_eq_getElem?_getD, List.getElem?_append_right (Nat.le_refl _), Nat.sub_self]; rfl
theorem comp_nil (W : List (Nat × Nat)) : Comp W [] := ⟨List.nodup_nil, fun a b ha => by cases ha⟩
theorem comp_snoc {W : List (Nat × Nat)} {t : List Nat} {h : Nat} (hc : Comp W t) : goB W t h = true ↔ Comp W (t ++ [h]) := by
  unfold goB
  rw [Bool.and_eq_true, List.all_eq_true, Bool.not_eq_true', decide_eq_false_iff_not]
  have hl : (t ++ [h]).length = t.length + 1 := by simp
  have st : ∀ o, stepOk W t h o = true ↔ tbB W o t.length ≠ tbB W (at_ t o) h ∧ tbB W t.length o ≠ tbB W h (at_ t o) := fun o => by
    unfold stepOk
    rw [Bool.not_eq_true', Bool.or_eq_false_iff, beq_eq_false_iff_ne, beq_eq_false_iff_ne]
  constructor
  · rintro ⟨h1, h2⟩
    refine ⟨?_, fun a b ha hb hab => ?_⟩
    · rw [List.nodup_append]
      exact ⟨hc.1, by simp, fun x hx y hy e => h1 (by rw [List.mem_singleton.mp hy] at e; rw [← e]; exact hx)⟩
    · rw [hl] at ha hb
      by_cases ea : a = t.length
      · have hb' : b < t.length := by omega
        subst ea
        rw [at_snoc_len, at_snoc_lt hb']
        exact ((st b).mp (h2 b (List.mem_range.mpr hb'))).2
      · have ha' : a < t.length := by omega
        by_cases eb : b = t.length
        · subst eb
          rw [at_snoc_len, at_snoc_lt ha']
          exact ((st a).mp (h2 a (List.mem_range.mpr ha'))).1
        · have hb' : b < t.length := by omega
          rw [at_snoc_lt ha', at_snoc_lt hb']
          exact hc.2 a b ha' hb' hab
  · rintro ⟨h1, h2⟩
    refine ⟨fun hm => ?_, fun o ho => ?_⟩
    · rw [List.nodup_append] at h1
      exact h1.2.2 h hm h (by simp) rfl
    · have ho := List.mem_range.mp ho
      have a1 := h2 o t.length (by omega) (by omega) (by omega)
      have a2 := h2 t.length o (by omega) (by omega) (by omega)
      rw [at_snoc_len, at_snoc_lt ho] at a1 a2
      exact (st o).mpr ⟨a1, a2⟩
theorem fin_some {W : List (Nat × Nat)} {n : Nat} : ∀ {k : Nat} {t u : List Nat}, finM W n k t = some u → Comp W t → (∀ x ∈ t, x < n) → u.length = t.length + k ∧ Comp W u ∧ ∀ x ∈ u, x < n
  | 0, t, u, h, hc, hb => by
    cases h
    exact ⟨rfl, hc, hb⟩
  | k + 1, t, u, h, hc, hb => by
    obtain ⟨x, hx, he⟩ := List.exists_of_findSome?_eq_some h
    have hxn := List.mem_range.mp hx
    by_cases hg : goB W t x = true
    · rw [if_pos hg] at he
      obtain ⟨h1, h2, h3⟩ := fin_some he ((comp_snoc hc).mp hg) (fun y hy => by
        rcases List.mem_append.mp hy with z | z
        · exact hb y z
        · rw [List.mem_singleton.mp z]; exact hxn)
      refine ⟨?_, h2, h3⟩
      rw [h1]; simp; omega
    · rw [if_neg hg] at he; cases he
theorem fin_none {W : List (Nat × Nat)} {n : Nat} : ∀ {k : Nat} {t : List Nat}, finM W n k t = none → Comp W t → ∀ v : List Nat, v.length = k → (∀ x ∈ v, x < n) → ¬ Comp W (t ++ v)
  | 0, t, h, _, _, _, _ => by cases h
  | k + 1, t, h, hc, v, hv, hb => by
    intro hcv
    obtain ⟨x, v', rfl⟩ : ∃ x v', v = x :: v' := by
      cases v with
      | nil => cases hv
      | cons x v' => exact ⟨x, v', rfl⟩
    have hx := hb x List.mem_cons_self
    have he := List.findSome?_eq_none_iff.mp h x (List.mem_range.mpr hx)
    have e : t ++ x :: v' = (t ++ [x]) ++ v' := by simp
    rw [e] at hcv
    have hpre : Comp W (t ++ [x]) := by
      refine ⟨hcv.1.sublist (List.sublist_append_left _ _), fun a b ha hb' hab => ?_⟩
      have hl : (t ++ [x] ++ v').length = (t ++ [x]).length + v'.length := List.length_append
      have at_ap : ∀ c, c < (t ++ [x]).length → at_ (t ++ [x] ++ v') c = at_ (t ++ [x]) c := fun c hc' => by
        unfold at_
        rw [List.getD_eq_getElem?_getD, List.getElem?_append_left hc', List.getD_eq_getElem?_getD]
      have := hcv.2 a b (by omega) (by omega) hab
      rw [at_ap a ha, at_ap b hb'] at this
      exact this
    have hg : goB W t x = true := (comp_snoc hc).mpr hpre
    rw [if_pos hg] at he
    exact fin_none he hpre v' (by simpa using hv) (fun y hy => hb y (List.mem_cons_of_mem _ hy)) hcv
def findM (W : List (Nat × Nat)) (n : Nat) : Option (List Nat) := finM W n n []
theorem find_some {W : List (Nat × Nat)} {n : Nat} {u : List Nat} (h : findM W n = some u) : u.length = n ∧ Comp W u ∧ ∀ x ∈ u, x < n := by
  have := fin_some h (comp_nil W) (fun x hx => by cases hx)
  simpa using this
theorem find_none {W : List (Nat × Nat)} {n : Nat} (h : findM W n = none) {u : List Nat} (hl : u.length = n) (hb : ∀ x ∈ u, x < n) : ¬ Comp W u := by
  have := fin_none h (comp_nil W) u hl hb
  simpa using this
theorem find_turn {W : List (Nat × Nat)} {n : Nat} {u : List Nat} (h1 : 1 ≤ n) (h9 : n ≤ 9) (h : findM W n = some u) : IsTurn u ∧ u.length = n := by
  obtain ⟨a, b, c⟩ := find_some h
  exact ⟨⟨by omega, by omega, b.1, by rw [a]; exact c⟩, a⟩
/-- a turn leads a one-way net exactly if it leads all its ways -/
theorem leads_comp {t : List Nat} (ht : IsTurn t) (W : List (Nat × Nat)) : G.leadsE (allWays t.length) (ledWay t) W = true ↔ Comp W t := by
  rw [G.leadsB_iff]
  unfold Comp G.Alt
  constructor
  · intro h
    refine ⟨ht.2.2.1, fun a b ha hb hab e => ?_⟩
    have := h (a, b) (mem_ways.mpr ⟨ha, hb, hab⟩)
    unfold tbB at e
    have e := decide_eq_decide.mp e
    have e2 : ((a, b) ∈ W ↔ ledWay t (a, b) ∈ W) := e
    by_cases h1 : (a, b) ∈ W
    · exact (this.mp h1) (e2.mp h1)
    · exact h1 (this.mpr fun z => h1 (e2.mpr z))
  · rintro ⟨_, h⟩ p hp
    obtain ⟨h1, h2, h3⟩ := mem_ways.mp hp
    have := h p.1 p.2 h1 h2 h3
    unfold tbB at this
    have this : ¬ ((p.1, p.2) ∈ W ↔ (at_ t p.1, at_ t p.2) ∈ W) := fun z => this (decide_eq_decide.mpr z)
    show p ∈ W ↔ ledWay t p ∉ W
    have e : (at_ t p.1, at_ t p.2) = ledWay t p := rfl
    rw [e] at this
    by_cases a : p ∈ W <;> by_cases b : ledWay t p ∈ W <;> simp [a, b] at this ⊢
end RM
namespace RM
/-- all turns of the first i halls of n, the law's way -/
def growT (n : Nat) (t : List Nat) : List (List Nat) := ((List.range n).filter fun h => !decide (h ∈ t)).map fun h => t ++ [h]
def turnsTo (n : Nat) : Nat → List (List Nat)
  | 0 => [[]]
  | i + 1 => (turnsTo n i).flatMap (growT n)
theorem mem_turnsTo {n : Nat} : ∀ {i : Nat} {t : List Nat}, t ∈ turnsTo n i ↔ t.length = i ∧ t.Nodup ∧ ∀ x ∈ t, x < n
  | 0, t => by
    show t ∈ [[]] ↔ _
    rw [List.mem_singleton]
    constructor
    · rintro rfl; exact ⟨rfl, List.nodup_nil, fun x h => by cases h⟩
    · rintro ⟨h, _, _⟩; exact List.length_eq_zero_iff.mp h
  | i + 1, t => by
    show t ∈ (turnsTo n i).flatMap (growT n) ↔ _
    rw [List.mem_flatMap]
    constructor
    · rintro ⟨u, hu, ht⟩
      obtain ⟨h1, h2, h3⟩ := mem_turnsTo.mp hu
      obtain ⟨h, hh, rfl⟩ := List.mem_map.mp ht
      obtain ⟨a, b⟩ := List.mem_filter.mp hh
      have b : h ∉ u := by simpa using b
      refine ⟨by simp [h1], ?_, fun x hx => ?_⟩
      · rw [List.nodup_append]
        exact ⟨h2, by simp, fun x hx y hy e => b (by rw [List.mem_singleton.mp hy] at e; rw [← e]; exact hx)⟩
      · rcases List.mem_append.mp hx with z | z
        · exact h3 x z
        · rw [List.mem_singleton.mp z]; exact List.mem_range.mp a
    · rintro ⟨h1, h2, h3⟩
      have hne : t ≠ [] := fun e => by rw [e] at h1; cases h1
      obtain ⟨u, h, rfl⟩ : ∃ u h, t = u ++ [h] := ⟨t.dropLast, t.getLast hne, (List.dropLast_concat_getLast hne).symm⟩
      rw [List.nodup_append] at h2
      refine ⟨u, mem_turnsTo.mpr ⟨by simpa using h1, h2.1, fun x hx => h3 x (List.mem_append_left _ hx)⟩, List.mem_map.mpr ⟨h, List.mem_filter.mpr ⟨List.mem_range.mpr (h3 h (by simp)), ?_⟩, rfl⟩⟩
      have : h ∉ u := fun hm => h2.2.2 h hm h (by simp) rfl
      simp [this]
theorem growT_len (n : Nat) (t : List Nat) : (growT n t).length ≤ n := by
  unfold growT
  rw [List.length_map]
  exact Nat.le_trans (List.length_filter_le _ _) (by rw [List.length_range]; exact Nat.le_refl n)
theorem grow_len (n : Nat) : ∀ F : List (List Nat), (F.flatMap (growT n)).length ≤ n * F.length
  | [] => Nat.le_refl _
  | t :: F => by
    rw [List.flatMap_cons, List.length_append, List.length_cons, Nat.mul_succ]
    have h1 := growT_len n t
    have h2 := grow_len n F
    omega
theorem turnsTo_len {n : Nat} (h : n ≤ 5) : ∀ i, (turnsTo n i).length ≤ 5 ^ i
  | 0 => Nat.le_refl 1
  | i + 1 => by
    have h1 := grow_len n (turnsTo n i)
    have h2 := turnsTo_len h i
    show ((turnsTo n i).flatMap (growT n)).length ≤ _
    have h3 : n * (turnsTo n i).length ≤ 5 * 5 ^ i := Nat.mul_le_mul h h2
    rw [Nat.pow_succ, Nat.mul_comm]
    omega
theorem turns_all {n : Nat} (h1 : 1 ≤ n) (h9 : n ≤ 9) {t : List Nat} : t ∈ turnsTo n n ↔ IsTurn t ∧ t.length = n := by
  rw [mem_turnsTo]
  constructor
  · rintro ⟨a, b, c⟩
    exact ⟨⟨by omega, by omega, b, by rw [a]; exact c⟩, a⟩
  · rintro ⟨a, b⟩
    exact ⟨b, a.2.2.1, by rw [← b]; exact a.2.2.2⟩
end RM
end

section
namespace DL
open PySem PySem.Spec PyProof.Rows L2 RM
section
variable {P : Program} {w : World} {K : PySem.W.Frag} {mg : Str → Option Value} {base : Heap} {C : Addr}
theorem sh_rNs (L : List (List (Nat × Nat))) : SeqAt.shaped (.list (L.map rN)) = true := sh_lst L rN_lay fun x => Nat.le_trans (rN_dep x) (by decide)
theorem alk {a b : PyData} (h : a = b) (h1 : SeqAt.shaped a = true) (h2 : a.depth ≤ 4) (h3 : smallD a = true) : R_alike 4 [a, b] (.bool true) := ⟨a, by rw [h], h1, h2, h3, rfl⟩
theorem nil_eqv {α : Type} [DecidableEq α] {enc : α → PyData} (he : ∀ a b, PyData.eqv (enc a) (enc b) = decide (a = b)) (xs : List α) : PyData.eqv (.list (xs.map enc)) (.list []) = decide (xs = []) := eqv_list he xs []
theorem small_nN {n : Nat} {l : List (Nat × Nat)} (h : l.length ≤ 1000) : smallD (nN n l) = true := by
  have h1 : smallD (rN l) = true := small_tup (fun x _ => by simp [pN, iN, smallD, smallAll]) (by omega)
  unfold nN
  rw [smallD, smallAll, smallAll, h1, smallAll]
  simp [iN, smallD]
theorem cnt_one (xs : List Nat) : (xs.map iN).countP (fun y => PyData.eqv y (.int 1)) = xs.countP fun z => decide (z = 1) := by
  rw [List.countP_map]
  congr 1
  funext z
  exact iN_eqv z 1
theorem left_eq (E l : List (Nat × Nat)) : RM.G.leftE E l = leftLot E l := List.filter_congr fun x _ => by by_cases h : x ∈ l <;> simp [h]
/-- the row behind i draws of one of m -/
def drawAt (m : Int) (R : Rw) : Nat → Rw
  | 0 => R
  | i + 1 => (takenM m (drawAt m R i)).2
theorem drawAt_i {m : Int} {R : Rw} (h : 0 ≤ R.i) : ∀ i, 0 ≤ (drawAt m R i).i
  | 0 => h
  | i + 1 => taken_i (drawAt_i h i)
/-- the things for which 0 is drawn -/
def drawn (R : Rw) (E : List (Nat × Nat)) : List (Nat × Nat) := ((List.range E.length).filter fun i => PyData.eqv (.int (takenM 2 (drawAt 2 R i)).1) (.int 0)).map fun i => E.getD i (0, 0)
theorem range_getD (E : List (Nat × Nat)) : (List.range E.length).map (fun i => E.getD i (0, 0)) = E := by
  apply List.ext_getElem
  · rw [List.length_map, List.length_range]
  · intro i h1 h2
    rw [List.getElem_map, List.getElem_range, List.getD_eq_getElem?_getD, List.getElem?_eq_getElem h2]; rfl
theorem drawn_sub (R : Rw) (E : List (Nat × Nat)) : (drawn R E).Sublist E := by
  have h : (drawn R E).Sublist ((List.range E.length).map fun i => E.getD i (0, 0)) := List.Sublist.map _ List.filter_sublist
  rw [range_getD] at h
  exact h
theorem tn_eqv (a b : List Nat) : PyData.eqv (tn a) (tn b) = decide (a = b) := eqv_tup iN_eqv a b
theorem rep_one {α : Type} (x : α) : ∀ n : Nat, (List.replicate n [x]).flatten = List.replicate n x
  | 0 => rfl
  | n + 1 => by rw [List.replicate_succ, List.flatten_cons, rep_one x n]; rfl
end
end DL
end

section
namespace DL
open PySem PySem.Spec PyProof.Rows L2 RM
abbrev N_all_pairs : List Str := ["halls", "x", "y"]
section
variable {P : Program} {w : World} {K : PySem.W.Frag} {mg : Str → Option Value} {base : Heap}
def R_all_pairs (ds : List PyData) (d : PyData) : Prop := ∃ n : Nat, ds = [iN n] ∧ n ≤ 9 ∧ d = .list ((allPairs n).map pN)
end
end DL
end

section
namespace DL
open PySem PySem.Spec PyProof.Rows L2
/-- a def of the text under another name of the module's -/
structure FnA (K : PySem.W.Frag) (mg : Str → Option Value) (y x : Str) (st : Stmt) (ps : List Str) : Prop where
  ex : ∃ f fd, mg y = some (.ref f) ∧ Fun K x x st f fd ∧ L2.Binds K fd ps []
theorem FnA.of {K : PySem.W.Frag} {mg : Str → Option Value} {x : Str} {st : Stmt} {ps : List Str} (F : Fn K mg x st ps) : FnA K mg x x st ps := ⟨F.ex⟩
section
variable {P : Program} {w : World} {K : PySem.W.Frag} {mg : Str → Option Value} {base : Heap} {k : Nat} {x y : Str} {ps : List Str}
theorem caA_D {st : Stmt} {N : List Str} {R : List PyData → PyData → Prop} (F : FnA K mg y x st ps) (S : FnScope N ps (defScope st)) (hlen : ∀ ds d, R ds d → ds.length = ps.length)
    (hbody : ∀ (f : Addr) (cdv : Value) (A : Around) (outer : List Env) (s : Shared) (H : Hp) (E : XK) (ds : List PyData) (d : PyData), Room k (A.deeper (envOfC x (defScope st) s.heap.objs.size f cdv)) → R ds d →
      ∃ o, Ess (cxOf CX0 P w K mg base N x (defScope st) f cdv A outer s H E).nox (slots0 N ds) (defBody st) o ∧ endsWith o d) : Ca P w K mg base (k + 1) y ps (spD K R) := by
  obtain ⟨f, fd, hm, hF, hb⟩ := F.ex
  exact ⟨f, fd, hm, hF.kp, hb, ok_D hF S hlen fun cdv A outer s H E ds d hr hR => hbody f cdv A outer s H E ds d hr hR⟩
theorem caA_Er {st : Stmt} {N : List Str} {R : List PyData → PyData → Prop} (F : FnA K mg y x st ps) (S : FnScope N ps (defScope st)) (hlen : ∀ ds d, R ds d → ds.length = ps.length)
    (hbody : ∀ (f : Addr) (cdv : Value) (A : Around) (outer : List Env) (s : Shared) (H : Hp) (E : XK) (ds : List PyData) (d : PyData), Room k (A.deeper (envOfC x (defScope st) s.heap.objs.size f cdv)) → R ds d →
      Er (cxOf CX0 P w K mg base N x (defScope st) f cdv A outer s H E).nox (slots0 N ds) (defBody st) d) : Ca P w K mg base (k + 1) y ps (spD K R) :=
  caA_D F S hlen fun f cdv A outer s H E ds d hr hR => let ⟨g, h⟩ := hbody f cdv A outer s H E ds d hr hR; ⟨_, h, .inl ⟨g, rfl⟩⟩
end
end DL
end

section
namespace DL
open PySem PySem.Spec PyProof.Rows L2 RM

abbrev s_are_pairs : Stmt := topS 10
abbrev N_are_pairs : List Str := ["value", "halls", "x", "y"]
theorem sc_are_pairs : FnScope N_are_pairs ["value", "halls"] (defScope s_are_pairs) := ⟨rfl, rfl, rfl, by decide +kernel, rfl, by decide +kernel, by decide +kernel⟩

abbrev s_wrong_part : Stmt := topS 12
abbrev N_wrong_part : List Str := ["value", "part", "halls", "pairs"]
theorem sc_wrong_part : FnScope N_wrong_part ["value"] (defScope s_wrong_part) := ⟨rfl, rfl, rfl, by decide +kernel, rfl, by decide +kernel, by decide +kernel⟩

abbrev s_check_net : Stmt := topS 13
abbrev N_check_net : List Str := ["value", "part"]
theorem sc_check_net : FnScope N_check_net ["value"] (defScope s_check_net) := ⟨rfl, rfl, rfl, by decide +kernel, rfl, by decide +kernel, by decide +kernel⟩
section
variable {P : Program} {w : World} {K : PySem.W.Frag} {mg : Str → Option Value} {base : Heap}

/-- a net of n halls -/
def IsNet (n : Nat) (S : List (Nat × Nat)) : Prop := (S.Pairwise fun a b => pLt a b = true) ∧ ∀ p ∈ S, p ∈ allPairs n
theorem IsNet.len {n : Nat} {S : List (Nat × Nat)} (h : IsNet n S) (h9 : n ≤ 9) : S.length ≤ 81 :=
  Nat.le_trans ((asc_nodup ordP h.1).length_le_of_subset (l₂ := allPairs n) fun x hx => h.2 x hx) (allPairs_len n h9)
theorem net_ways {n : Nat} {S : List (Nat × Nat)} (h9 : n ≤ 9) (h : IsNet n S) : areWaysD (rN S) (n : Int) = true := ways_good h.1 fun p hp => by
  have := mem_allPairs.mp (h.2 p hp)
  omega
def R_are_pairs (ds : List PyData) (d : PyData) : Prop := ∃ n S, n ≤ 9 ∧ IsNet n S ∧ ds = [rN S, iN n] ∧ d = .bool true
theorem ok_are_pairs (T : Tx mg) (F : Fn K mg "are_pairs" s_are_pairs ["value", "halls"]) (C : Ca P w K mg base 3 "are_ways" ["value", "halls"] (spD K R_are_ways)) : Ca P w K mg base 4 "are_pairs" ["value", "halls"] (spD K R_are_pairs) := by
  have S := sc_are_pairs
  refine ca_Er F S (fun ds d ⟨_, _, _, _, e, _⟩ => by rw [e]; rfl) fun f cdv A outer s H E ds d hr ⟨n, Q, h9, hq, e1, e2⟩ => ?_
  subst e1 e2
  have hw := net_ways h9 hq
  have hl := hq.len h9
  refine er_is (er_ret (ee_and (ee_ca C hr (ea_cons (ee_var 0) (ea_cons (ee_var 1) ea_nil)) ⟨_, (n : Int), rfl, sh_rN Q, (fun xs e => by cases e; rw [List.length_map]; omega), rfl⟩) fun _ => ee_one (ee_all (bs := Q.map fun p => decide ((p.1 : Int) < p.2)) rfl T.all (ea_cons (ee_is (ee_new (en_lc (own := [("x", 2), ("y", 3)]) Q pN (fun _ => true) (fun p => .bool (decide ((p.1 : Int) < p.2))) (fun p => ((slots0 N_are_pairs [rN Q, iN n]).set 2 (some (.im (iN p.1)))).set 3 (some (.im (iN p.2)))) [2, 3] rfl S.nd (blkOk_by (N := N_are_pairs) (sc := defScope s_are_pairs) (by decide +kernel)) rfl (by decide) (by omega) (fun x _ => less_set2 rfl)
    (ei_tup (ee_var 0)) (fun x hx _ _ _ _ _ => (eg_tup2 rfl (eg_name 2 S.nd) (eg_name 3 S.nd))) (fun x hx _ _ _ _ _ => ets_nil) (fun x hx hf _ _ _ _ _ => (ee_lt (ee_var 2) (ee_var 3))))) ?its) ea_nil)))) ?fin
  case its => rw [List.filter_eq_self.mpr (fun _ _ => rfl), List.map_map]; rfl
  case fin =>
    rw [hw, Bool.true_and]
    congr 1
    rw [List.all_eq_true]
    intro b hb
    obtain ⟨p, hp, rfl⟩ := List.mem_map.mp hb
    have := mem_allPairs.mp (hq.2 p hp)
    show decide _ = true
    rw [decide_eq_true (by omega)]
def R_wrong_part (ds : List PyData) (d : PyData) : Prop := ∃ n S, 1 ≤ n ∧ n ≤ 9 ∧ IsNet n S ∧ ds = [nN n S] ∧ d = .none
theorem ok_wrong_part (F : FnA K mg "wrong_part" "wrong_part" s_wrong_part ["value"]) (C : Ca P w K mg base 2 "wrong_frame" ["value"] (spD K R_wrong_frame)) (C2 : Ca P w K mg base 4 "are_pairs" ["value", "halls"] (spD K R_are_pairs)) : Ca P w K mg base 5 "wrong_part" ["value"] (spD K R_wrong_part) := by
  have S := sc_wrong_part
  refine caA_Er F S (fun ds d ⟨_, _, _, _, _, e, _⟩ => by rw [e]; rfl) fun f cdv A outer s H E ds d hr ⟨n, Q, h1, h9, hq, e1, e2⟩ => ?_
  subst e1 e2
  refine er_cons (es_set 1 S.nd (ee_ca C hr (ea_cons (ee_var 0) ea_nil) ⟨_, rfl, sh_nN n Q, (frame_good h1 h9).symm⟩)) ?_
  refine er_ifF (et_is (et_notN (ee_var 1) ee_non) rfl) ?_
  refine er_cons (es_asg (ee_var 0) (eg_tup2 rfl (eg_name 2 S.nd) (eg_name 3 S.nd))) ?_
  exact er_ifF (et_is (et_not (et_val (ee_ca C2 hr (ea_cons (ee_var 3) (ea_cons (ee_var 2) ea_nil)) ⟨n, Q, h9, hq, rfl, rfl⟩))) rfl) (er_ret ee_non)
def R_check_net (ds : List PyData) (d : PyData) : Prop := R_wrong_part ds d
theorem ok_check_net (F : Fn K mg "check_net" s_check_net ["value"]) (C : Ca P w K mg base 5 "wrong_part" ["value"] (spD K R_wrong_part)) : Ca P w K mg base 6 "check_net" ["value"] (spD K R_check_net) := by
  have S := sc_check_net
  refine ca_Ez F S (fun ds d ⟨_, _, _, _, _, e, _⟩ => by rw [e]; rfl) fun f cdv A outer s H E ds d hr ⟨n, Q, h1, h9, hq, e1, e2⟩ => ?_
  subst e1 e2
  refine ⟨rfl, ?_⟩
  refine ez_cons (es_set 1 S.nd (ee_ca C hr (ea_cons (ee_var 0) ea_nil) ⟨n, Q, h1, h9, hq, rfl, rfl⟩)) ?_
  exact ez_ifF (et_is (et_notN (ee_var 1) ee_non) rfl) ez_nil
end
end DL
end

section
namespace DL
open PySem PySem.Spec PyProof.Rows L2 RM
abbrev N_led_pair : List Str := ["turn", "pair", "x", "y"]
abbrev N_leads : List Str := ["turn", "net", "halls", "pairs", "pair"]
section
variable {P : Program} {w : World} {K : PySem.W.Frag} {mg : Str → Option Value} {base : Heap}
def R_led_pair (ds : List PyData) (d : PyData) : Prop := ∃ (t : List Nat) (p : Nat × Nat), p.1 < t.length ∧ p.2 < t.length ∧ ds = [tn t, pN p] ∧ d = pN (ledPair t p)
def leadsM (t : List Nat) (S : List (Nat × Nat)) : Bool := (allPairs t.length).all fun p => decide (p ∈ S) != decide (ledPair t p ∈ S)
def R_leads (ds : List PyData) (d : PyData) : Prop := ∃ (t : List Nat) (S : List (Nat × Nat)), IsTurn t ∧ IsNet t.length S ∧ ds = [tn t, nN t.length S] ∧ d = .bool (leadsM t S)
end
end DL
end

section
namespace DL
open PySem PySem.Spec PyProof.Rows L2 RM
abbrev s_lpairs : Stmt := topS 23
abbrev N_lpairs : List Str := ["halls", "found", "one", "other"]
theorem sc_lpairs : FnScope N_lpairs ["halls"] (defScope s_lpairs) := ⟨rfl, rfl, rfl, by decide +kernel, rfl, by decide +kernel, by decide +kernel⟩
abbrev N_lled : List Str := ["turn", "pairs", "one", "other"]
section
variable {P : Program} {w : World} {K : PySem.W.Frag} {mg : Str → Option Value} {base : Heap}
theorem ok_lpairs (T : Tx mg) (F : Fn K mg "_law_pairs" s_lpairs ["halls"]) : Ca P w K mg base 1 "_law_pairs" ["halls"] (spD K R_all_pairs) := by
  have S := sc_lpairs
  refine ca_Er F S (fun ds d ⟨n, e, _⟩ => by rw [e]; rfl) fun f cdv A outer s H E ds d hr ⟨n, e1, hn, e2⟩ => ?_
  subst e1 e2
  let Γ0 : Gm := slots0 N_lpairs [iN n]
  let G : Nat → Gm := fun i => (Γ0.set 1 (some (.im (.list ((pairsTo n i).map pN))))).set 2 (if i = 0 then none else some (.im (iN (i - 1))))
  let G' : Nat → Gm := fun i => (Γ0.set 1 (some (.im (.list ((pairsTo n i).map pN))))).set 2 (some (.im (iN i)))
  have hle : ∀ i, i ≤ n → (pairsTo n i).length ≤ 9 * i := by
    intro i
    induction i with
    | zero => intro _; exact Nat.le_refl 0
    | succ i ih =>
      intro hi
      have := ih (by omega)
      rw [pairsTo_succ, List.length_append, List.length_map, List.length_range]
      omega
  refine er_cons (es_set 1 S.nd (ee_new (en_lst (ds := []) ea_nil (by decide)))) ?_
  refine er_cons (Γ1 := G n) (es_for (is := [2]) G G' (fun i => .nx (G (i + 1))) n PassesOwn.never rfl (ei_is (ei_range1 T.range (ea_cons (ee_var 0) ea_nil) (by omega) (by omega)) (rngD_N n)) (by rw [List.length_map, List.length_range]; exact Nat.le_refl _) (fun i d hd _ => ?_) (fun i hi => ⟨?_, .inl rfl⟩) (.inl ⟨by rw [List.length_map, List.length_range], rfl⟩)) ?_
  · rw [List.getElem?_map] at hd
    have hi : i < n := by
      apply Classical.byContradiction
      intro h
      rw [List.getElem?_eq_none (by rw [List.length_range]; omega)] at hd
      cases hd
    rw [List.getElem?_range hi] at hd
    cases hd
    exact eg_name 2 S.nd
  · have h1 := hle i (by omega)
    have e : G (i + 1) = (G' i).set 1 (some (.im (.list ((pairsTo n (i + 1)).map pN)))) := by
      show (Γ0.set 1 _).set 2 (if i + 1 = 0 then _ else _) = _
      rw [if_neg (Nat.succ_ne_zero i), Nat.add_sub_cancel]
      rfl
    have em : (pairsTo n (i + 1)).map pN = (pairsTo n i).map pN ++ ((List.range (n - (i + 1))).filter fun _ => true).map fun j => pN (i, i + 1 + j) := by
      rw [pairsTo_succ, List.map_append, List.map_map, List.filter_eq_self.mpr (fun _ _ => rfl)]; rfl
    rw [e, em]
    refine ess_one (es_set 1 S.nd (ee_new (en_cat (ee_var 1) (ee_new (en_lc (own := [("other", 3)]) (List.range (n - (i + 1))) (fun j => iN (i + 1 + j)) (fun _ => true) (fun j => pN (i, i + 1 + j)) (fun j => (G' i).set 3 (some (.im (iN (i + 1 + j))))) [3] rfl S.nd (blkOk_by (N := N_lpairs) (sc := defScope s_lpairs) (by decide +kernel)) rfl (by decide) ?hsz (fun x _ => less_set rfl)
      (ei_is (ei_range2 T.range (ea_cons (ee_add (ee_var 2) ee_int) (ea_cons (ee_var 0) ea_nil)) ?b1) (rngD_from (i + 1) n)) (fun x hx _ _ _ _ _ => (eg_name 3 S.nd)) (fun x hx _ _ _ _ _ => ets_nil) (fun x hx hf _ _ _ _ _ => (ee_tup (ea_cons (ee_var 2) (ea_cons (ee_var 3) ea_nil)))))) ?hl)))
    case hsz => rw [List.length_range]; omega
    case b1 => omega
    case hl =>
      rw [List.length_map, List.length_map]
      have := List.length_filter_le (fun _ => true) (List.range (n - (i + 1)))
      rw [List.length_range] at this
      omega
  · exact er_ret (ee_var 1)
def R_lled (ds : List PyData) (d : PyData) : Prop := ∃ (t : List Nat) (Q : List (Nat × Nat)), (∀ p ∈ Q, p.1 < t.length ∧ p.2 < t.length) ∧ Q.length ≤ 81 ∧ ds = [tn t, rN Q] ∧ d = rN (ledLot t Q)
end
end DL
end

section
namespace DL
open PySem PySem.Spec PyProof.Rows L2 RM
abbrev s_ringed : Stmt := topS 24
abbrev N_ringed : List Str := ["row", "lengths", "halls", "names", "found", "at", "length", "step"]
theorem sc_ringed : FnScope N_ringed ["row", "lengths"] (defScope s_ringed) := ⟨rfl, rfl, rfl, by decide +kernel, rfl, by decide +kernel, by decide +kernel⟩
theorem drawT_perm : ∀ (k : Nat) (found left : List Nat) (R : Rw), left.length = k → (drawT k found left R).1.Perm (found ++ left)
  | 0, found, left, R, h => by
    rw [List.eq_nil_of_length_eq_zero h, List.append_nil]
    exact List.Perm.refl _
  | k + 1, found, left, R, h => by
    have hj := (pickI_lt (n := left.length) (R := R) (by omega)).1
    have e : left.getD (pickI left.length R) 0 = left[pickI left.length R] := by
      rw [List.getD_eq_getElem?_getD, List.getElem?_eq_getElem hj]; rfl
    rw [drawT, e]
    refine (drawT_perm k _ _ _ (by rw [List.length_eraseIdx_of_lt hj]; omega)).trans ?_
    rw [List.append_assoc]
    exact (List.perm_append_left_iff _).mpr (cons_erase hj)
theorem drawT_i : ∀ (k : Nat) (found left : List Nat) (R : Rw), 0 ≤ R.i → 0 ≤ (drawT k found left R).2.i
  | 0, _, _, _, h => h
  | k + 1, _, _, _, h => drawT_i k _ _ _ (taken_i h)
theorem turnM_perm (n : Nat) (R : Rw) : (turnM n R).1.Perm (List.range n) := drawT_perm n [] (List.range n) R List.length_range
theorem turnM_len (n : Nat) (R : Rw) : (turnM n R).1.length = n := by rw [(turnM_perm n R).length_eq, List.length_range]
theorem turnM_is {n : Nat} (R : Rw) (h1 : 1 ≤ n) (h9 : n ≤ 9) : IsTurn (turnM n R).1 :=
  ⟨by rw [turnM_len]; exact h1, by rw [turnM_len]; exact h9, (turnM_perm n R).nodup_iff.mpr List.nodup_range, fun x hx => by
    rw [turnM_len]; exact List.mem_range.mp ((turnM_perm n R).subset hx)⟩
section
variable {P : Program} {w : World} {K : PySem.W.Frag} {mg : Str → Option Value} {base : Heap}
def R_ringed (row ds : List PyData) (d : PyData) (row' : List PyData) : Prop := ∃ (R : Rw) (ls : List Nat), 0 ≤ R.i ∧ 1 ≤ ls.sum ∧ ls.sum ≤ 9 ∧ ls.length ≤ 9 ∧ row = rowD R ∧ ds = [.list (ls.map iN)] ∧ d = tn (ringedM (turnM ls.sum R).1 ls) ∧ row' = rowD (turnM ls.sum R).2
theorem sum_iN (ls : List Nat) : (ls.map fun n : Nat => (n : Int)).sum = (ls.sum : Nat) := by
  induction ls with
  | nil => rfl
  | cons x l ih => rw [List.map_cons, List.sum_cons, List.sum_cons, ih, Int.natCast_add]
theorem sum_take (ls : List Nat) (i : Nat) : (ls.take i).sum ≤ ls.sum := by
  conv => rhs; rw [← List.take_append_drop i ls, List.sum_append]
  omega
theorem ok_ringed (T : Tx mg) (F : Fn K mg "_law_ringed" s_ringed ["row", "lengths"]) (C : Ca P w K mg base 2 "_law_turn" ["row", "halls"] (spR K R_lturn)) : Ca P w K mg base 3 "_law_ringed" ["row", "lengths"] (spR K R_ringed) := by
  have S := sc_ringed
  refine ca_R F S (fun row ds d row' ⟨_, _, _, _, _, _, _, e, _⟩ => by rw [e]; rfl) fun f cdv A outer s H E r row ds d row' hr ⟨R, ls, hi, hs1, hs9, hl9, e1, e2, e3, e4⟩ => ?_
  subst e1 e2 e3 e4
  have hN := turnM_is R hs1 hs9
  have hNl := turnM_len ls.sum R
  have hsum : PyData.int (ls.map fun n : Nat => (n : Int)).sum = iN ls.sum := by rw [sum_iN]; rfl
  generalize hnm : (turnM ls.sum R).1 = nm at *
  let Γ0 : Gm := ((slotsR N_ringed r (rowD (turnM ls.sum R).2) [.list (ls.map iN)]).set 2 (some (.im (iN ls.sum)))).set 3 (some (.im (tn nm)))
  let fo : Nat → List Nat := fun i => ringOut nm (ls.take i) 0 (List.replicate ls.sum 0)
  let G : Nat → Gm := fun i => (Γ0.set 4 (some (.ow ((fo i).map iN)))).set 5 (some (.im (iN (ls.take i).sum)))
  have hfin : fo ls.length = ringedM nm ls := by
    show ringOut nm (ls.take ls.length) 0 _ = _
    rw [List.take_length]; rfl
  refine ⟨(G ls.length).set 4 (some (.im (.list ((fo ls.length).map iN)))), ?_, rfl⟩
  refine ess_cons (es_set 2 S.nd (ee_is (ee_sum (ns := ls.map fun n : Nat => (n : Int)) rfl T.sum (ea_cons (ee_var 1) ea_nil) (by show some _ = some _; rw [List.map_map]; rfl)) hsum)) ?_
  have hrep : (List.replicate ls.sum [iN 0]).flatten = (List.replicate ls.sum 0).map iN := by
    rw [List.map_replicate]
    generalize ls.sum = m
    induction m with
    | zero => rfl
    | succ m ih => rw [List.replicate_succ, List.flatten_cons, ih, List.replicate_succ]; rfl
  refine ess_cons (es_par3 3 4 5 rfl S.nd (by decide) (by decide) (by decide) (ek_d (ee_caR (d := tn nm) (row' := rowD (turnM ls.sum R).2) (s1 := .pr r (rowD R)) C hr (pe_nm 0) rfl rfl (ea_cons (ee_var 2) ea_nil) rfl rfl ⟨R, ls.sum, hi, hs9, rfl, rfl, by rw [hnm], rfl⟩)) (ek_n (en_rep (ds := [iN 0]) (n := ls.sum) (ee_new (en_lst (ea_cons ee_int ea_nil))) (ee_var 2) (by show 1 * ls.sum ≤ _; omega) (by omega))) (ek_d ee_int)) ?_
  rw [hrep]
  refine ess_cons (Γ1 := G ls.length) (es_for (is := [6]) G (fun i => (G i).set 6 (some (.im (iN (ls.getD i 0))))) (fun i => .nx (G (i + 1))) ls.length PassesOwn.never rfl (ei_list (ee_var 1)) (by rw [List.length_map]; exact Nat.le_refl _) (fun i d hd _ => ?_) (fun i hi => ⟨?_, .inl rfl⟩) (.inl ⟨by rw [List.length_map], rfl⟩)) (ess_freeze 4 rfl (ess_stop (es_ret ?_) (by intro _ z; cases z)))
  · rw [List.getElem?_map] at hd
    cases hx : ls[i]? with
    | none => rw [hx] at hd; cases hd
    | some x =>
      rw [hx] at hd
      cases hd
      have e : ls.getD i 0 = x := by rw [List.getD_eq_getElem?_getD, hx]; rfl
      show Eg _ (G i) _ _ _ ((G i).set 6 (some (.im (iN (ls.getD i 0)))))
      rw [e]
      exact eg_name 6 S.nd
  · have eL : ls.getD i 0 = ls[i] := by rw [List.getD_eq_getElem?_getD, List.getElem?_eq_getElem hi]; rfl
    have hst : (ls.take (i + 1)).sum = (ls.take i).sum + ls[i] := by
      rw [List.take_add_one, List.getElem?_eq_getElem hi, List.sum_append]
      show _ + (ls[i] + 0) = _
      omega
    have hle := sum_take ls (i + 1)
    have hfo : fo (i + 1) = ringIn nm (ls.take i).sum ls[i] ls[i] (fo i) := by
      show ringOut nm (ls.take (i + 1)) 0 _ = _
      rw [List.take_add_one, List.getElem?_eq_getElem hi]
      show ringOut nm (ls.take i ++ [ls[i]]) 0 _ = _
      rw [ringOut_snoc, Nat.zero_add]
    have hfl : ∀ i, (fo i).length = ls.sum := fun i => by
      show (ringOut nm _ 0 _).length = _
      rw [ringOut_len, List.length_replicate]
    generalize hn : ls[i] = n at *
    generalize ha : (ls.take i).sum = a at *
    let G2 : Nat → Gm := fun k => ((Γ0.set 4 (some (.ow ((ringIn nm a n k (fo i)).map iN)))).set 5 (some (.im (iN a)))).set 6 (some (.im (iN n)))
    have e0 : (G i).set 6 (some (.im (iN (ls.getD i 0)))) = G2 0 := by
      show ((Γ0.set 4 (some (.ow ((fo i).map iN)))).set 5 (some (.im (iN (ls.take i).sum)))).set 6 (some (.im (iN (ls.getD i 0)))) = _
      rw [ha, eL]; rfl
    rw [e0]
    refine ess_wk (Γ1 := (G2 n).set 5 (some (.im (iN (a + n))))) (ess_cons (Γ1 := G2 n) (es_for (is := [7]) G2 (fun k => (G2 k).set 7 (some (.im (iN k)))) (fun k => .nx (G2 (k + 1))) n PassesOwn.never rfl (ei_is (ei_range1 T.range (ea_cons (ee_var 6) ea_nil) (by omega) (by omega)) (rngD_N n)) (by rw [List.length_map, List.length_range]; exact Nat.le_refl _) (fun k d hd _ => ?_) (fun k hk => ⟨?_, .inl rfl⟩) (.inl ⟨by rw [List.length_map, List.length_range], rfl⟩)) (ess_one (es_set 5 S.nd (ee_is (ee_add (ee_var 5) (ee_var 6)) (by show PyData.int _ = PyData.int _; rw [Int.natCast_add]))))) ?_
    · rw [List.getElem?_map] at hd
      have hk : k < n := by
        apply Classical.byContradiction
        intro h
        rw [List.getElem?_eq_none (by rw [List.length_range]; omega)] at hd
        cases hd
      rw [List.getElem?_range hk] at hd
      cases hd
      exact eg_name 7 S.nd
    · have hin : a + n ≤ ls.sum := by omega
      have hmod : (k + 1) % n < n := Nat.mod_lt _ (by omega)
      have hatk : at_ nm (a + k) < ls.sum := by
        have := List.mem_range.mp (at_mem hN (a + k) (List.mem_range.mpr (by omega)))
        omega
      have eq : ((G2 k).set 7 (some (.im (iN k)))).set 4 (some (.ow (((ringIn nm a n k (fo i)).map iN).set (at_ nm (a + k)) (iN (at_ nm (a + (k + 1) % n)))))) = (G2 (k + 1)).set 7 (some (.im (iN k))) := by
        rw [← List.map_set]; rfl
      refine ess_wk (Γ1 := ((G2 k).set 7 (some (.im (iN k)))).set 4 (some (.ow (((ringIn nm a n k (fo i)).map iN).set (at_ nm (a + k)) (iN (at_ nm (a + (k + 1) % n))))))) (ess_one (es_setIx (s := .ow ((ringIn nm a n k (fo i)).map iN)) (s1 := .ow ((ringIn nm a n k (fo i)).map iN)) (i := (at_ nm (a + k) : Nat)) (j := at_ nm (a + k)) (pe_nm 4) (ee_ixT (ee_var 3) (ee_add (ee_var 5) (ee_mod (ee_add (ee_var 7) ee_int) (ee_var 6) (by omega))) ?ix1) rfl rfl (ee_ixT (d := iN (at_ nm (a + k))) (ee_var 3) (ee_add (ee_var 5) (ee_var 7)) ?ix2) rfl rfl ?jj)) ?less
      case ix1 =>
        rw [show ((k : Int) + 1).fmod (n : Int) = (((k + 1) % n : Nat) : Int) from fmod_iN (k + 1) n, ← Int.natCast_add]
        exact at_get (by omega)
      case ix2 =>
        rw [← Int.natCast_add]
        exact at_get (by omega)
      case jj =>
        show ixN ((ringIn nm a n k (fo i)).map iN).length _ = _
        refine ix_nat ?_
        rw [List.length_map, ringIn_len, hfl]
        exact hatk
      case less =>
        rw [eq]
        exact less_set rfl
    · have eq : (G2 n).set 5 (some (.im (iN (a + n)))) = (G (i + 1)).set 6 (some (.im (iN n))) := by
        show _ = ((Γ0.set 4 (some (.ow ((fo (i + 1)).map iN)))).set 5 (some (.im (iN (ls.take (i + 1)).sum)))).set 6 _
        rw [hfo, hst]; rfl
      rw [eq]
      exact less_set rfl
  · rw [← hfin]
    exact ee_tupL T.tuple (ea_cons (ee_var 4) ea_nil)
end
end DL
end

section
/-! Nets drawn ring by ring. -/
namespace RM
def isIn (b : Bool) (k : Nat) : Bool := decide (k % 2 = 0) == b
theorem isIn_succ (b : Bool) (k : Nat) : isIn b (k + 1) = !isIn b k := by
  unfold isIn
  by_cases h : k % 2 = 0
  · rw [decide_eq_true h, decide_eq_false (by omega : ¬ (k + 1) % 2 = 0)]; cases b <;> rfl
  · rw [decide_eq_false h, decide_eq_true (by omega : (k + 1) % 2 = 0)]; cases b <;> rfl
/-- every other thing of a ring, from the first or the second -/
def pkN {α : Type} (f : α → α) (p : α) (b : Bool) (k : Nat) : List α := ((List.range k).filter (isIn b)).map fun j => itr f j p
theorem pkN_succ {α : Type} (f : α → α) (p : α) (b : Bool) (k : Nat) : pkN f p b (k + 1) = pkN f p b k ++ (if isIn b k = true then [itr f k p] else []) := by
  unfold pkN
  rw [List.range_succ, List.filter_append, List.map_append]
  congr 1
  cases h : isIn b k <;> simp [h]
theorem pkN_sub {α : Type} (f : α → α) (p : α) (b : Bool) (k : Nat) : (pkN f p b k).Sublist (ringN f p k) := List.Sublist.map _ List.filter_sublist
def hdW (R : Nat × Nat → List (Nat × Nat)) (E : List (Nat × Nat)) (i : Nat) : Nat × Nat := (G.leftR R E i).headD (0, 0)
/-- what is drawn behind i rings -/
def mixW (f : Nat × Nat → Nat × Nat) (E : List (Nat × Nat)) (bs : Nat → Bool) : Nat → List (Nat × Nat)
  | 0 => []
  | i + 1 => mixW f E bs i ++ pkN f (hdW (G.ringE f E) E i) (bs i) (G.perE f E (hdW (G.ringE f E) E i))
theorem hdW_is {R : Nat × Nat → List (Nat × Nat)} {E : List (Nat × Nat)} {i : Nat} (h : G.leftR R E i ≠ []) : ∃ rest, G.leftR R E i = hdW R E i :: rest := by
  unfold hdW
  cases e : G.leftR R E i with
  | nil => exact absurd e h
  | cons p r => exact ⟨r, rfl⟩
theorem mix_inv {f : Nat × Nat → Nat × Nat} {E : List (Nat × Nat)} (Y : G.Sys pLt E f) (bs : Nat → Bool) : ∀ i, (∀ j, j < i → G.leftR (G.ringE f E) E j ≠ []) → (mixW f E bs i).Nodup ∧ ∀ x ∈ mixW f E bs i, x ∈ E ∧ ∃ h ∈ G.headsR (G.ringE f E) E i, x ∈ G.ringE f E h
  | 0, _ => ⟨List.nodup_nil, fun x h => by cases h⟩
  | i + 1, hj => by
    obtain ⟨h1, h2⟩ := mix_inv Y bs i fun j h => hj j (by omega)
    obtain ⟨rest, hw⟩ := hdW_is (hj i (Nat.lt_succ_self i))
    have hpl : hdW (G.ringE f E) E i ∈ G.leftR (G.ringE f E) E i := by rw [hw]; exact List.mem_cons_self
    have hh : G.headsR (G.ringE f E) E (i + 1) = G.headsR (G.ringE f E) E i ++ [hdW (G.ringE f E) E i] := by
      show _ ++ (G.leftR (G.ringE f E) E i).take 1 = _
      rw [hw]; rfl
    show (mixW f E bs i ++ _).Nodup ∧ ∀ x ∈ mixW f E bs i ++ _, _
    rw [hh]
    generalize hdW (G.ringE f E) E i = p at *
    obtain ⟨hpE, hpn⟩ := (G.mem_left i p).mp hpl
    have hsub : (pkN f p (bs i) (G.perE f E p)).Sublist (G.ringE f E p) := pkN_sub _ _ _ _
    constructor
    · rw [List.nodup_append]
      refine ⟨h1, (G.ringE_nodup Y hpE).sublist hsub, fun x hx y hy e => ?_⟩
      subst e
      obtain ⟨hxE, h, hhd, hxh⟩ := h2 x hx
      exact hpn h hhd (G.ring_trans Y (G.heads_mem _ _ _ _ hhd) hxh (G.ring_sym Y hpE (hsub.subset hy)))
    · intro x hx
      rcases List.mem_append.mp hx with z | z
      · obtain ⟨a, h, b, c⟩ := h2 x z
        exact ⟨a, h, List.mem_append_left _ b, c⟩
      · have hr := hsub.subset z
        exact ⟨G.ring_in Y hpE hr, p, by simp, hr⟩
end RM
end

section
namespace DL
open PySem PySem.Spec PyProof.Rows L2 RM
abbrev N_lnet : List Str := ["row", "most", "halls", "pair"]
section
variable {P : Program} {w : World} {K : PySem.W.Frag} {mg : Str → Option Value} {base : Heap}
def R_lnet (row ds : List PyData) (d : PyData) (row' : List PyData) : Prop := ∃ (R : Rw) (m k : Nat), 0 ≤ R.i ∧ 1 ≤ m ∧ m ≤ 9 ∧ k < m ∧ (takenM m R).1 = (k : Int) ∧ row = rowD R ∧ ds = [iN m] ∧ d = nN (1 + k) (drawn (takenM m R).2 (allPairs (1 + k))) ∧ row' = rowD (drawAt 2 (takenM m R).2 (allPairs (1 + k)).length)
end
end DL
end

section
namespace DL
open PySem PySem.Spec PyProof.Rows L2 RM
abbrev s_lrt : Stmt := topS 25
abbrev N_lrt : List Str := ["row"]
theorem sc_lrt : FnScope N_lrt ["row"] (defScope s_lrt) := ⟨rfl, rfl, rfl, by decide +kernel, rfl, by decide +kernel, by decide +kernel⟩
abbrev s_lrn : Stmt := topS 26
abbrev N_lrn : List Str := ["row", "turn", "pairs", "left", "pair", "is_in", "ring", "one"]
theorem sc_lrn : FnScope N_lrn ["row"] (defScope s_lrn) := ⟨rfl, rfl, rfl, by decide +kernel, rfl, by decide +kernel, by decide +kernel⟩
section
variable {P : Program} {w : World} {K : PySem.W.Frag} {mg : Str → Option Value} {base : Heap}
def some3 : List (List Nat) := [[1], [4], [4, 1], [4], [4, 1], [8], [4, 4], [8, 1], [4, 4, 1]]
def R_lrt (row ds : List PyData) (d : PyData) (row' : List PyData) : Prop := ∃ (R : Rw) (ls : List Nat), 0 ≤ R.i ∧ some3[pickI 9 R]? = some ls ∧ row = rowD R ∧ ds = [] ∧ d = tn (ringedM (turnM ls.sum (takenM (9 : Nat) R).2).1 ls) ∧ row' = rowD (turnM ls.sum (takenM (9 : Nat) R).2).2
theorem some3_ok : ∀ l ∈ some3, 1 ≤ l.sum ∧ l.sum ≤ 9 ∧ l.length ≤ 9 ∧ ∀ x ∈ l, 0 < x := by decide
theorem ok_lrt (F : Fn K mg "_law_rest_turn" s_lrt ["row"]) (C : Ca P w K mg base 2 "_law_pick" ["row", "things"] (spR K R_pick)) (C2 : Ca P w K mg base 3 "_law_ringed" ["row", "lengths"] (spR K R_ringed)) : Ca P w K mg base 4 "_law_rest_turn" ["row"] (spR K R_lrt) := by
  have S := sc_lrt
  refine ca_R F S (fun row ds d row' ⟨_, _, _, _, _, e, _⟩ => by rw [e]; rfl) fun f cdv A outer s H E r row ds d row' hr ⟨R, ls, hi, hls, e1, e2, e3, e4⟩ => ?_
  subst e1 e2 e3 e4
  obtain ⟨f1, f2, f3, f4⟩ := some3_ok ls (List.mem_of_getElem? hls)
  have RP : R_pick (rowD R) [.list (some3.map lI)] (lI ls) (rowD (takenM (9 : Nat) R).2) := ⟨R, some3.map lI, hi, by decide, by decide, rfl, rfl, by rw [List.getElem?_map]; show Option.map lI (some3[pickI 9 R]?) = _; rw [hls]; rfl, rfl⟩
  have RG : R_ringed (rowD (takenM (9 : Nat) R).2) [.list (ls.map iN)] (tn (ringedM (turnM ls.sum (takenM (9 : Nat) R).2).1 ls)) (rowD (turnM ls.sum (takenM (9 : Nat) R).2).2) := ⟨_, ls, taken_i hi, f1, f2, f3, rfl, rfl, rfl, rfl⟩
  exact ⟨_, ess_stop (es_ret (ee_caR (row' := rowD (turnM ls.sum (takenM (9 : Nat) R).2).2) (s := .pr r (rowD R)) (s1 := .pr r (rowD (takenM (9 : Nat) R).2)) C2 hr (pe_nm 0) rfl rfl (ea_cons (ee_caR (row' := rowD (takenM (9 : Nat) R).2) (s := .pr r (rowD R)) (s1 := .pr r (rowD R)) C hr (pe_nm 0) rfl rfl (ea_cons (ee_new (en_lst (ds := some3.map lI) (ea_cons (ee_new (en_lst (ds := ([1] : List Nat).map iN) (ea_cons ee_int ea_nil) (by decide))) (ea_cons (ee_new (en_lst (ds := ([4] : List Nat).map iN) (ea_cons ee_int ea_nil) (by decide))) (ea_cons (ee_new (en_lst (ds := ([4, 1] : List Nat).map iN) (ea_cons ee_int (ea_cons ee_int ea_nil)) (by decide))) (ea_cons (ee_new (en_lst (ds := ([4] : List Nat).map iN) (ea_cons ee_int ea_nil) (by decide))) (ea_cons (ee_new (en_lst (ds := ([4, 1] : List Nat).map iN) (ea_cons ee_int (ea_cons ee_int ea_nil)) (by decide)))
    (ea_cons (ee_new (en_lst (ds := ([8] : List Nat).map iN) (ea_cons ee_int ea_nil) (by decide))) (ea_cons (ee_new (en_lst (ds := ([4, 4] : List Nat).map iN) (ea_cons ee_int (ea_cons ee_int ea_nil)) (by decide))) (ea_cons (ee_new (en_lst (ds := ([8, 1] : List Nat).map iN) (ea_cons ee_int (ea_cons ee_int ea_nil)) (by decide))) (ea_cons (ee_new (en_lst (ds := ([4, 4, 1] : List Nat).map iN) (ea_cons ee_int (ea_cons ee_int (ea_cons ee_int ea_nil))) (by decide))) ea_nil))))))))) (by decide))) ea_nil) rfl rfl RP) ea_nil) rfl rfl RG)) (by intro _ z; cases z), rfl⟩
abbrev bsM (R : Rw) (i : Nat) : Bool := PyData.eqv (.int (takenM 2 (drawAt 2 R i)).1) (.int 0)
abbrev Gq (r : Addr) (t : List Nat) (R : Rw) : Gm := (slotsR N_lrn r (rowD R) []).set 1 (some (.im (tn t)))
def R_lrn (row ds : List PyData) (d : PyData) (row' : List PyData) : Prop := ∃ (R R1 : Rw) (t : List Nat) (m : Nat), 0 ≤ R1.i ∧ IsTurn t ∧ R_lrt (rowD R) [] (tn t) (rowD R1) ∧ G.leftR (G.ringE (ledPair t) (allPairs t.length)) (allPairs t.length) m = [] ∧ (∀ i, i < m → G.leftR (G.ringE (ledPair t) (allPairs t.length)) (allPairs t.length) i ≠ []) ∧ row = rowD R ∧ ds = [] ∧
  d = .tuple [nN t.length ((mixW (ledPair t) (allPairs t.length) (bsM R1) m).mergeSort (le_ pLt)), tn t] ∧ row' = rowD (drawAt 2 R1 m)
theorem ok_lrn (T : Tx mg) (F : Fn K mg "_law_rest_net" s_lrn ["row"]) (C1 : Ca P w K mg base 4 "_law_rest_turn" ["row"] (spR K R_lrt)) (C2 : Ca P w K mg base 1 "_law_pairs" ["halls"] (spD K R_all_pairs)) (C3 : Ca P w K mg base 1 "_law_taken" ["row", "many"] (spR K R_taken)) : Ca P w K mg base 5 "_law_rest_net" ["row"] (spR K R_lrn) := by
  have S := sc_lrn
  refine ca_R F S (fun row ds d row' ⟨_, _, _, _, _, _, _, _, _, _, e, _⟩ => by rw [e]; rfl) fun f cdv A outer s H E r row ds d row' hr ⟨R0, R, t, m, hi, ht, hrt, hm0, hm1, e1, e2, e3, e4⟩ => ?_
  subst e1 e2 e3 e4
  have Y := sysP ht
  obtain ⟨n, hn⟩ : ∃ n, t.length = n := ⟨_, rfl⟩
  have hlen : (t.map iN).length = n := by rw [List.length_map, hn]
  rw [hn] at Y hm0 hm1 ⊢
  have h9 : n ≤ 9 := by rw [← hn]; exact ht.2.1
  have hE81 := allPairs_len n h9
  have hEin : ∀ p ∈ allPairs n, p.1 < n ∧ p.2 < n := fun p hp => by
    have := mem_allPairs.mp hp
    omega
  obtain ⟨Ev, hE⟩ : ∃ Ev, allPairs n = Ev := ⟨_, rfl⟩
  rw [hE] at Y hE81 hm0 hm1 hEin ⊢
  let g := ledPair t
  let Rf : Nat × Nat → List (Nat × Nat) := RM.G.ringE g Ev
  let L : Nat → List (Nat × Nat) := RM.G.leftR Rf Ev
  let rw_ : Nat → Rw := drawAt 2 R
  have hrw : ∀ i, 0 ≤ (rw_ i).i := drawAt_i hi
  let bs : Nat → Bool := fun i => PyData.eqv (.int (takenM 2 (rw_ i)).1) (.int 0)
  let U : Nat → List (Nat × Nat) := mixW g Ev bs
  have hRp : ∀ p, p ∈ Rf p := fun p => by
    obtain ⟨r, e⟩ := RM.G.ringE_ne g Ev p
    show p ∈ RM.G.ringE g Ev p
    rw [e]; exact List.mem_cons_self
  have hinv : ∀ i, i ≤ m → (U i).Nodup ∧ ∀ x ∈ U i, x ∈ Ev := fun i hi' => by
    obtain ⟨a, b⟩ := mix_inv Y bs i fun j hj => hm1 j (by omega)
    exact ⟨a, fun x hx => (b x hx).1⟩
  have hUl : ∀ i, i ≤ m → (U i).length ≤ 81 := fun i hi' => Nat.le_trans ((hinv i hi').1.length_le_of_subset (l₂ := Ev) fun x hx => (hinv i hi').2 x hx) hE81
  let G : Nat → Gm := fun i => ((Gq r t (rw_ i)).set 2 (some (.im (lP (U i))))).set 3 (some (.im (lP (L i))))
  refine ⟨G m, ess_cons (es_par2 1 2 rfl S.nd (by decide) (ek_d (d := tn t) (ee_caR (row' := rowD R) (s := .pr r (rowD R0)) (s1 := .pr r (rowD R0)) C1 hr (pe_nm 0) rfl rfl ea_nil rfl rfl hrt)) (ek_d (d := lP []) (ee_new (en_lst (ds := []) ea_nil (by decide))))) (ess_cons (Γ1 := G 0) (es_set 3 S.nd (ee_ca C2 hr (ea_cons (ee_len T.len (ea_cons (ee_var 1) ea_nil) rfl) ea_nil) ⟨n, by rw [hlen]; rfl, h9, by rw [hE]; rfl⟩))
    (ess_cons (Γ1 := G m) (es_while G G (fun i => .nx (G (i + 1))) m false PassesOwn.never (fun i hin => ?_) (fun i hin => ⟨?_, .inl rfl⟩) ?_ (fun z => by cases z) (fun _ => rfl)) (ess_stop (es_ret ?ret) (by intro _ z; cases z)))), rfl⟩
  · refine et_is (et_neD hr (ee_var 3) (ee_new (en_lst (ds := []) ea_nil (by decide))) (sh_pNs _) sh_nil) ?_
    show (!PyData.eqv (.list ((L i).map pN)) (.list (([] : List (Nat × Nat)).map pN))) = true
    rw [eqv_list pN_eqv, decide_eq_false (hm1 i hin)]; rfl
  · obtain ⟨rest, hw⟩ := hdW_is (hm1 i hin)
    have hUs : U (i + 1) = U i ++ pkN g (hdW Rf Ev i) (bs i) (RM.G.perE g Ev (hdW Rf Ev i)) := rfl
    have hLs : L (i + 1) = RM.G.stepR Rf (L i) := rfl
    have hw : L i = hdW Rf Ev i :: rest := hw
    have hpm : hdW Rf Ev i ∈ Ev := (RM.G.leftR_sub Rf Ev i).subset (show hdW Rf Ev i ∈ L i by rw [hw]; exact List.mem_cons_self)
    have hUi := hUl i (by omega)
    generalize hdW Rf Ev i = p at *
    obtain ⟨⟨k1, k2, k3⟩, k4⟩ := Y.per hpm
    have hRr : Rf p = ringN g p (RM.G.perE g Ev p) := rfl
    generalize hper : RM.G.perE g Ev p = q at *
    obtain ⟨b, hb⟩ : ∃ b, bs i = b := ⟨_, rfl⟩
    rw [hb] at hUs
    let J : Nat → Gm := fun k => (((((Gq r t (rw_ (i + 1))).set 2 (some (.im (lP (U i ++ pkN g p b k))))).set 3 (some (.im (lP (L i))))).set 4 (some (.im (pN (itr g k p))))).set 5 (some (.im (.bool (isIn b k))))).set 6 (some (.ow ((ringN g p k).map pN)))
    have RK : R_taken (rowD (rw_ i)) [.int 2] (.int (takenM 2 (rw_ i)).1) (rowD (rw_ (i + 1))) := ⟨rw_ i, 2, hrw i, by decide, by decide, rfl, rfl, rfl, rfl⟩
    have eJ0 : (((((Gq r t (rw_ (i + 1))).set 2 (some (.im (lP (U i))))).set 3 (some (.im (lP (L i))))).set 4 (some (.im (pN p)))).set 5 (some (.im (.bool b)))).set 6 (some (.ow [])) = J 0 := by
      show _ = (((((Gq r t (rw_ (i + 1))).set 2 (some (.im (lP (U i ++ []))))).set 3 (some (.im (lP (L i))))).set 4 (some (.im (pN p)))).set 5 (some (.im (.bool (isIn b 0))))).set 6 (some (.ow []))
      rw [List.append_nil, show isIn b 0 = b from by cases b <;> rfl]
    refine ess_cons (Γ1 := (((((Gq r t (rw_ (i + 1))).set 2 (some (.im (lP (U i))))).set 3 (some (.im (lP (L i))))).set 4 (some (.im (pN p)))).set 5 (some (.im (.bool b)))).set 6 (some (.ow []))) (es_tup3 4 5 6 rfl S.nd (ek_d (d := pN p) (ee_ixL (ds := (L i).map pN) (ee_var 3) ee_int (atI_map (i := 0) (xs := L i) (by rw [hw]; rfl)))) (ek_d (d := .bool b) (ee_is (ee_eqD hr (ee_caR (row' := rowD (rw_ (i + 1))) (s := .pr r (rowD (rw_ i))) (s1 := .pr r (rowD (rw_ i))) C3 hr (pe_nm 0) rfl rfl (ea_cons ee_int ea_nil) rfl rfl RK) ee_int (sh_int _) (sh_int _)) (congrArg PyData.bool hb))) (ek_n (en_lst (ds := []) ea_nil (by decide)))) ?_
    rw [eJ0]
    refine ess_cons (Γ1 := J q) (es_while J J (fun k => .nx (J (k + 1))) q false PassesOwn.never (fun k hk => ?_) (fun k hk => ⟨?_, .inl rfl⟩) ?_ (fun z => by cases z) (fun _ => rfl)) ?_
    · refine et_is (et_cmpOwnR (op_notInS (units65 hr)) (ee_var 4) (s := .ow ((ringN g p k).map pN)) rfl rfl (pe_nm 6) (rd_inS rfl (sh_pN _) (sh_pNs _)) rfl) ?_
      show (!((ringN g p k).map pN).any fun z => PyData.eqv z (pN (itr g k p))) = true
      rw [any_eqv pN_eqv]
      have hni : itr g k p ∉ ringN g p k := per_notin Y.mem Y.inj hpm ⟨k1, k2, k3⟩ hk
      simp [hni]
    · generalize hx : itr g k p = x at *
      have hxm : x ∈ Ev := by rw [← hx]; exact itr_mem Y.mem hpm k
      have hxl : x.1 < t.length ∧ x.2 < t.length := by
        rw [hn]
        exact hEin x hxm
      have eJ : J (k + 1) = ((((J k).set 6 (some (reSlot (slotDs (.ow ((ringN g p k).map pN)) ++ [pN x]) (.ow ((ringN g p k).map pN))))).set 2 (some (.im (.list ((U i ++ pkN g p b k).map pN ++ (if isIn b k = true then [x] else []).map pN))))).set 4 (some (.im (pN (g x))))).set 5 (some (.im (.bool (!isIn b k)))) := by
        show (((((Gq r t (rw_ (i + 1))).set 2 (some (.im (lP (U i ++ pkN g p b (k + 1)))))).set 3 (some (.im (lP (L i))))).set 4 (some (.im (pN (g (itr g k p)))))).set 5 (some (.im (.bool (isIn b (k + 1)))))).set 6 (some (.ow ((ringN g p (k + 1)).map pN))) = _
        rw [ringN_succ, List.map_append, hx, isIn_succ, pkN_succ, hx, ← List.append_assoc]
        unfold lP
        rw [List.map_append (l₁ := U i ++ pkN g p b k)]; rfl
      have eq4 : (J k)[4]? = some (some (.im (pN x))) := by
        show some (some (Slot.im (pN (itr g k p)))) = _
        rw [hx]
      have hkl : (pkN g p b k).length ≤ 81 := by
        have := (pkN_sub g p b k).length_le
        rw [ring_len] at this
        omega
      rw [eJ]
      refine ess_cons (es_append (pe_nm 6) rfl rfl (ea_cons (ee_var 4 eq4) ea_nil) (s1 := .ow ((ringN g p k).map pN)) rfl rfl ?len) ?_
      case len =>
        show ((ringN g p k).map pN).length < _
        rw [List.length_map, ring_len]; omega
      let J1 : Gm := (J k).set 6 (some (reSlot (slotDs (.ow ((ringN g p k).map pN)) ++ [pN x]) (.ow ((ringN g p k).map pN))))
      have e1 : J1[4]? = some (some (.im (pN x))) := eq4
      refine ess_cons (es_set (d := .list ((U i ++ pkN g p b k).map pN ++ (if isIn b k = true then [x] else []).map pN)) 2 S.nd (ee_new (en_cat (ee_var 2) (ee_ifexp (et_val (ee_var 5)) (fun e => ee_is (ee_new (en_lst (ds := [pN x]) (ea_cons (ee_var 4 e1) ea_nil) (by simp))) (by rw [if_pos e]; rfl)) (fun e => ee_is (ee_new (en_lst (ds := []) ea_nil (by decide))) (by rw [if_neg (by rw [e]; decide)]; rfl))) ?hl))) ?_
      case hl =>
        rw [List.length_map, List.length_map, List.length_append]
        have : (if isIn b k = true then [x] else []).length ≤ 1 := by split <;> simp
        omega
      let J2 : Gm := J1.set 2 (some (.im (.list ((U i ++ pkN g p b k).map pN ++ (if isIn b k = true then [x] else []).map pN))))
      have e2 : J2[4]? = some (some (.im (pN x))) := eq4
      exact ess_one (es_par2 4 5 rfl S.nd (by decide) (ek_d (d := pN (g x)) (ee_is (ee_tupL T.tuple (ea_cons (ee_new (en_sortI (t := [at_ t x.1, at_ t x.2]) hr T.sorted (ea_cons (ee_new (en_lst (ds := [iN (at_ t x.1), iN (at_ t x.2)]) (ea_cons (ee_ixT (ee_var 1) (ee_ixT (d := iN x.1) (ds := [iN x.1, iN x.2]) (ee_var 4 e2) ee_int rfl) (at_get hxl.1)) (ea_cons (ee_ixT (ee_var 1) (ee_ixT (d := iN x.2) (ds := [iN x.1, iN x.2]) (ee_var 4 e2) ee_int rfl) (at_get hxl.2)) ea_nil)) (by simp))) ea_nil) rfl)) ea_nil)) (by rw [sort_two]; rfl))) (ek_d (d := .bool (!isIn b k)) (ee_is (ee_notT (ee_var 5) (sh_bool _) (fun _ z => by cases z)) rfl)))
    · refine et_is (et_cmpOwnR (op_notInS (units65 hr)) (ee_var 4) (s := .ow ((ringN g p q).map pN)) rfl rfl (pe_nm 6) (rd_inS rfl (sh_pN _) (sh_pNs _)) rfl) ?_
      show (!((ringN g p q).map pN).any fun z => PyData.eqv z (pN (itr g q p))) = false
      rw [any_eqv pN_eqv]
      have hni : itr g q p ∈ ringN g p q := per_in (f := g) ⟨k1, k2, k3⟩
      simp [hni]
    · have e7 : lP (L (i + 1)) = .list (((L i).filter fun x => !decide (x ∈ Rf p)).map pN) := by
        rw [hLs, hw, RM.G.stepR]
        exact congrArg (fun l => PyData.list (List.map pN l)) (List.filter_congr fun x _ => by by_cases hx : x ∈ Rf p <;> simp [hx])
      let JF : Gm := (J q).set 6 (some (.im (.list ((ringN g p q).map pN))))
      refine ess_wk (Γ1 := JF.set 3 (some (.im (lP (L (i + 1)))))) (ess_freeze 6 rfl (ess_cons (es_setLc 3 (own := [("one", 7)]) (L i) pN (fun x => !decide (x ∈ Rf p)) pN (fun x => JF.set 7 (some (.im (pN x)))) [7] rfl S.nd (blkOk_by (N := N_lrn) (sc := defScope s_lrn) (by decide +kernel)) rfl (by decide) ?hsz (fun x _ => less_set rfl) (ei_list (ee_var 3)) (fun x hx _ _ _ _ _ => (eg_name 7 S.nd)) (fun x hx _ _ _ _ _ => (ets_one (et_is (et_notIn hr (ee_var 7) (ee_var 6) rfl (sh_pN x) (sh_pNs _)) ?tt))) (fun x hx hf _ _ _ _ _ => (ee_var 7))) (ess_freeze 3 rfl (by rw [e7]; exact ess_nil)))) ?lss
      case hsz =>
        have := (RM.G.leftR_sub Rf Ev i).length_le
        show (RM.G.leftR Rf Ev i).length ≤ _
        omega
      case tt =>
        rw [any_eqv pN_eqv, hRr]
        by_cases h : x ∈ ringN g p q <;> simp [h]
      case lss =>
        have e : JF.set 3 (some (.im (lP (L (i + 1))))) = (((G (i + 1)).set 4 (some (.im (pN (itr g q p))))).set 5 (some (.im (.bool (isIn b q))))).set 6 (some (.im (.list ((ringN g p q).map pN)))) := by
          show _ = (((((Gq r t (rw_ (i + 1))).set 2 (some (.im (lP (U (i + 1)))))).set 3 (some (.im (lP (L (i + 1)))))).set 4 _).set 5 _).set 6 _
          rw [hUs]; rfl
        rw [e]
        exact (less_set2 rfl).trans (less_set rfl)
  · refine et_is (et_neD hr (ee_var 3) (ee_new (en_lst (ds := []) ea_nil (by decide))) (sh_pNs _) sh_nil) ?_
    show (!PyData.eqv (.list ((L m).map pN)) (.list (([] : List (Nat × Nat)).map pN))) = false
    rw [eqv_list pN_eqv, decide_eq_true hm0]; rfl
  case ret => exact (ee_tup (ds := [nN n ((U m).mergeSort (le_ pLt)), tn t]) (ea_cons (ee_is (ee_tup (ds := [iN n, .tuple (((U m).mergeSort (le_ pLt)).map pN)]) (ea_cons (ee_is (ee_len T.len (ea_cons (ee_var 1) ea_nil) rfl) (by rw [hlen]; rfl)) (ea_cons (ee_tupL T.tuple (ea_cons (ee_new (en_sortP (S := U m) hr T.sorted (ea_cons (ee_var 2) ea_nil) rfl)) ea_nil)) ea_nil)) (by simp)) rfl) (ea_cons (ee_var 1) ea_nil)) (by simp))
end
end DL
end

section
/-! Nets, searched as one-way nets that go to and fro. -/
namespace RM
def symW (S : List (Nat × Nat)) : List (Nat × Nat) := S ++ S.map fun p => (p.2, p.1)
theorem mem_sym {S : List (Nat × Nat)} {x y : Nat} : (x, y) ∈ symW S ↔ (x, y) ∈ S ∨ (y, x) ∈ S := by
  unfold symW
  rw [List.mem_append, List.mem_map]
  constructor
  · rintro (h | ⟨p, hp, e⟩)
    · exact .inl h
    · cases e; exact .inr hp
  · rintro (h | h)
    · exact .inl h
    · exact .inr ⟨(y, x), h, rfl⟩
theorem sym_lt {n : Nat} {S : List (Nat × Nat)} (hm : ∀ p ∈ S, p ∈ allPairs n) {x y : Nat} (h : x < y) : ((x, y) ∈ symW S ↔ (x, y) ∈ S) ∧ ((y, x) ∈ symW S ↔ (x, y) ∈ S) := by
  have no : (y, x) ∉ S := fun z => by
    have := mem_allPairs.mp (hm _ z)
    simp only at this
    omega
  constructor
  · rw [mem_sym]; exact ⟨fun z => z.resolve_right no, .inl⟩
  · rw [mem_sym]; exact ⟨fun z => z.resolve_left no, .inr⟩
/-- (x, y) to and fro is the pair of the two -/
theorem sym_pair {n : Nat} {S : List (Nat × Nat)} (hm : ∀ p ∈ S, p ∈ allPairs n) {x y : Nat} (h : x ≠ y) : (x, y) ∈ symW S ↔ (min x y, max x y) ∈ S := by
  rcases Nat.lt_or_gt_of_ne h with h | h
  · rw [Nat.min_eq_left (Nat.le_of_lt h), Nat.max_eq_right (Nat.le_of_lt h)]
    exact (sym_lt hm h).1
  · rw [Nat.min_eq_right (Nat.le_of_lt h), Nat.max_eq_left (Nat.le_of_lt h)]
    exact (sym_lt hm h).2
theorem comp_pairs {t : List Nat} (ht : IsTurn t) {S : List (Nat × Nat)} (hm : ∀ p ∈ S, p ∈ allPairs t.length) : G.Alt (allPairs t.length) (ledPair t) S ↔ Comp (symW S) t := by
  have ne : ∀ a b, a < t.length → b < t.length → a ≠ b → at_ t a ≠ at_ t b := fun a b ha hb h e => h (at_inj ht a (List.mem_range.mpr ha) b (List.mem_range.mpr hb) e)
  constructor
  · intro h
    refine ⟨ht.2.2.1, fun a b ha hb hab e => ?_⟩
    have e : ((a, b) ∈ symW S ↔ (at_ t a, at_ t b) ∈ symW S) := decide_eq_decide.mp e
    rw [sym_pair hm hab, sym_pair hm (ne a b ha hb hab)] at e
    have hp : (min a b, max a b) ∈ allPairs t.length := mkPair ha hb hab
    have hh := h _ hp
    have el : ledPair t (min a b, max a b) = (min (at_ t a) (at_ t b), max (at_ t a) (at_ t b)) := by
      unfold ledPair
      rcases Nat.lt_or_gt_of_ne hab with z | z
      · rw [Nat.min_eq_left (Nat.le_of_lt z), Nat.max_eq_right (Nat.le_of_lt z)]
      · rw [Nat.min_eq_right (Nat.le_of_lt z), Nat.max_eq_left (Nat.le_of_lt z), Nat.min_comm, Nat.max_comm]
    rw [el] at hh
    by_cases c : (min a b, max a b) ∈ S
    · exact (hh.mp c) (e.mp c)
    · exact c (hh.mpr fun z => c (e.mpr z))
  · rintro ⟨_, h⟩ p hp
    obtain ⟨h1, h2⟩ := mem_allPairs.mp hp
    have hx : p.1 < t.length := by omega
    have hab : p.1 ≠ p.2 := by omega
    have := h p.1 p.2 hx h2 hab
    have this : ¬ ((p.1, p.2) ∈ symW S ↔ (at_ t p.1, at_ t p.2) ∈ symW S) := fun z => this (decide_eq_decide.mpr z)
    rw [sym_pair hm hab, sym_pair hm (ne _ _ hx h2 hab), Nat.min_eq_left (by omega), Nat.max_eq_right (by omega)] at this
    show p ∈ S ↔ ledPair t p ∉ S
    have e : (min (at_ t p.1) (at_ t p.2), max (at_ t p.1) (at_ t p.2)) = ledPair t p := rfl
    rw [e] at this
    by_cases a : p ∈ S <;> by_cases b : ledPair t p ∈ S <;> simp [a, b] at this ⊢
/-- how many halls a hall is joined to -/
def degM (S : List (Nat × Nat)) (h : Nat) : Nat := S.countP fun p => decide (p.1 = h) || decide (p.2 = h)
def degs (n : Nat) (S : List (Nat × Nat)) : List Nat := (List.range n).map (degM S)
theorem degs_step {n : Nat} {S : List (Nat × Nat)} {i : Nat} (hi : i < S.length) {x y : Nat} (hx : S[i] = (x, y)) (hxy : x ≠ y) (hxn : x < n) (hyn : y < n) :
    ((degs n (S.take i)).set x (degM (S.take i) x + 1)).set y (degM (S.take i) y + 1) = degs n (S.take (i + 1)) := by
  have st : ∀ h, degM (S.take (i + 1)) h = degM (S.take i) h + (if x = h ∨ y = h then 1 else 0) := fun h => by
    unfold degM
    rw [List.take_add_one, List.getElem?_eq_getElem hi, List.countP_append]
    congr 1
    show List.countP _ [S[i]] = _
    rw [hx]
    by_cases a : x = h <;> by_cases b : y = h <;> simp [a, b]
  apply List.ext_getElem
  · simp [degs]
  · intro j h1 h2
    have hj : j < n := by simpa [degs] using h2
    rw [List.getElem_set, List.getElem_set]
    simp only [degs, List.getElem_map, List.getElem_range, st j]
    by_cases a : y = j
    · subst a; simp
    · by_cases b : x = j
      · subst b; simp [a]
      · simp [a, b]
end RM
end

section
namespace DL
open PySem PySem.Spec PyProof.Rows L2 RM
abbrev N_is_net : List Str := ["value"]
abbrev N_rest : List Str := ["net", "halls", "pairs", "pair"]
abbrev N_friends : List Str := ["net", "halls", "pairs", "counts", "x", "y"]
section
variable {P : Program} {w : World} {K : PySem.W.Frag} {mg : Str → Option Value} {base : Heap}
def R_is_net (ds : List PyData) (d : PyData) : Prop := ∃ n S, 1 ≤ n ∧ n ≤ 9 ∧ IsNet n S ∧ ds = [nN n S] ∧ d = .bool true
def R_rest (ds : List PyData) (d : PyData) : Prop := ∃ n S, 1 ≤ n ∧ n ≤ 9 ∧ IsNet n S ∧ ds = [nN n S] ∧ d = nN n (leftLot (allPairs n) S)
def R_friends (ds : List PyData) (d : PyData) : Prop := ∃ n S, 1 ≤ n ∧ n ≤ 9 ∧ IsNet n S ∧ ds = [nN n S] ∧ d = tn (degs n S)
end
end DL
end

section
namespace DL
open PySem PySem.Spec PyProof.Rows L2 RM
abbrev s_both_ways : Stmt := topS 6
abbrev N_both_ways : List Str := ["pairs", "x", "y"]
theorem sc_both_ways : FnScope N_both_ways ["pairs"] (defScope s_both_ways) := ⟨rfl, rfl, rfl, by decide +kernel, rfl, by decide +kernel, by decide +kernel⟩
section
variable {P : Program} {w : World} {K : PySem.W.Frag} {mg : Str → Option Value} {base : Heap}
def R_both (ds : List PyData) (d : PyData) : Prop := ∃ Q : List (Nat × Nat), Q.length ≤ 1000 ∧ ds = [rN Q] ∧ d = rN (symW Q)
theorem ok_both (T : Tx mg) (F : Fn K mg "both_ways" s_both_ways ["pairs"]) : Ca P w K mg base 1 "both_ways" ["pairs"] (spD K R_both) := by
  have S := sc_both_ways
  refine ca_Er F S (fun ds d ⟨_, _, e, _⟩ => by rw [e]; rfl) fun f cdv A outer s H E ds d hr ⟨Q, hl, e1, e2⟩ => ?_
  subst e1 e2
  refine er_is (er_ret (ee_catT (ds := Q.map pN) (ds2 := (Q.filter fun _ => true).map fun p => pN (p.2, p.1)) (ee_var 0) (ee_tupL T.tuple (ea_cons (ee_new (en_lc (own := [("x", 1), ("y", 2)]) Q pN (fun _ => true) (fun p => pN (p.2, p.1)) (fun p => ((slots0 N_both_ways [rN Q]).set 1 (some (.im (iN p.1)))).set 2 (some (.im (iN p.2)))) [1, 2] rfl S.nd (blkOk_by (N := N_both_ways) (sc := defScope s_both_ways) (by decide +kernel)) rfl (by decide) (by omega) (fun x _ => less_set2 rfl)
    (ei_tup (ee_var 0)) (fun x hx _ _ _ _ _ => (eg_tup2 rfl (eg_name 1 S.nd) (eg_name 2 S.nd))) (fun x hx _ _ _ _ _ => ets_nil) (fun x hx hf _ _ _ _ _ => (ee_tup (ds := [iN x.2, iN x.1]) (ea_cons (ee_var 2) (ea_cons (ee_var 1) ea_nil)) (by simp))))) ea_nil)) ?hl)) ?sy
  case hl =>
    rw [List.length_map, List.length_map]
    have := List.length_filter_le (fun _ : Nat × Nat => true) Q
    omega
  case sy =>
    show PyData.tuple (Q.map pN ++ (Q.filter fun _ => true).map fun p => pN (p.2, p.1)) = PyData.tuple ((Q ++ Q.map fun p => (p.2, p.1)).map pN)
    rw [List.filter_eq_self.mpr (fun _ _ => rfl), List.map_append, List.map_map]; rfl
end
end DL
end

section
namespace DL
open PySem PySem.Spec PyProof.Rows L2 RM
abbrev N_can_go_on : List Str := ["table", "turn", "hall", "new", "old", "led"]
abbrev N_finish_turn : List Str := ["table", "turn", "hall", "whole"]
abbrev N_find_turn : List Str := ["halls", "ways", "table", "x", "y"]
section
variable {P : Program} {w : World} {K : PySem.W.Frag} {mg : Str → Option Value} {base : Heap}
/-- the table of ways -/
def rowW (n : Nat) (W : List (Nat × Nat)) (x : Nat) : PyData := .list ((List.range n).map fun y => .bool (tbB W x y))
def tabW (n : Nat) (W : List (Nat × Nat)) : PyData := .list ((List.range n).map (rowW n W))
theorem at_range {n : Nat} {f : Nat → PyData} {i : Nat} (h : i < n) : atI ((List.range n).map f) (i : Int) = some (f i) := atI_nat (by rw [List.getElem?_map, List.getElem?_range h]; rfl)
theorem ee_tab {X : Cx} {Γ : Gm} {a b c : Expr} {p1 p2 : Pos} {n i j : Nat} {W : List (Nat × Nat)} (ha : Ee X Γ a (tabW n W) Γ) (hb : Ee X Γ b (iN i) Γ) (hc : Ee X Γ c (iN j) Γ) (hi : i < n) (hj : j < n) (hs : PlainIx b := by exact fun _ _ => rfl) (hs2 : PlainIx c := by exact fun _ _ => rfl) : Ee X Γ (.Subscript (.Subscript a b p1) c p2) (.bool (tbB W i j)) Γ :=
  ee_ixL (ds := (List.range n).map fun y => .bool (tbB W i y)) (ee_ixL (d := rowW n W i) ha hb (at_range hi) hs) hc (at_range hj) hs2
def R_can_go (ds : List PyData) (d : PyData) : Prop := ∃ n W t h, n ≤ 9 ∧ t.length < n ∧ (∀ x ∈ t, x < n) ∧ h < n ∧ ds = [tabW n W, tn t, iN h] ∧ d = .bool (goB W t h)
/-- a turn, or None -/
def optD : Option (List Nat) → PyData
  | some t => tn t
  | none => .none
def R_finish (k : Nat) (ds : List PyData) (d : PyData) : Prop := ∃ n W t, n ≤ 9 ∧ t.length + k = n ∧ (∀ x ∈ t, x < n) ∧ ds = [tabW n W, tn t] ∧ d = optD (finM W n k t)
theorem first_some {α β : Type} (f : α → Option β) : ∀ l : List α, (l.findSome? f = none ∧ ∀ x ∈ l, f x = none) ∨ ∃ m, ∃ (hm : m < l.length), f l[m] = l.findSome? f ∧ (f l[m]).isSome = true ∧ ∀ i (hi : i < l.length), i < m → f l[i] = none
  | [] => .inl ⟨rfl, fun x h => by cases h⟩
  | x :: l => by
    cases hx : f x with
    | some b => exact .inr ⟨0, Nat.succ_pos _, by rw [List.findSome?_cons, hx]; exact hx, by show (f x).isSome = true; rw [hx]; rfl, fun i _ h => absurd h (Nat.not_lt_zero i)⟩
    | none =>
      have e : (x :: l).findSome? f = l.findSome? f := by rw [List.findSome?_cons, hx]
      rw [e]
      rcases first_some f l with ⟨h1, h2⟩ | ⟨m, hm, h1, h2, h3⟩
      · refine .inl ⟨h1, fun y hy => ?_⟩
        rcases List.mem_cons.mp hy with z | z
        · rw [z]; exact hx
        · exact h2 y z
      · refine .inr ⟨m + 1, Nat.succ_lt_succ hm, h1, h2, fun i hi him => ?_⟩
        cases i with
        | zero => exact hx
        | succ i => exact h3 i (by simpa using hi) (by omega)
def R_find (ds : List PyData) (d : PyData) : Prop := ∃ n W, n ≤ 9 ∧ ds = [iN n, rN W] ∧ d = optD (findM W n)
end
end DL
end

section
namespace DL
open PySem PySem.Spec PyProof.Rows L2 RM
section
variable {P : Program} {w : World} {K : PySem.W.Frag} {mg : Str → Option Value} {base : Heap}
/-! is_turn, of any value -/
def natsOf (xs : List PyData) : List Nat := xs.map fun d => match d with
  | .int i => i.toNat
  | _ => 0
def isTurnD (v : PyData) : Bool := match v with
  | .tuple xs => (decide (1 ≤ xs.length) && decide (xs.length ≤ 9)) && ((List.range xs.length).all (fun i => isNum (xs.getD i .none) 0 ((xs.length : Int) - 1)) && decide ((natsOf xs).mergeSort (le_ fun a b : Nat => decide (a < b)) = List.range xs.length))
  | _ => false
def ValOk (v : PyData) : Prop := SeqAt.shaped v = true ∨ v = emptyD
def R_is_turnG (ds : List PyData) (d : PyData) : Prop := ∃ v, ValOk v ∧ ds = [v] ∧ d = .bool (isTurnD v)
theorem nats_form {xs : List PyData} {b : Int} (h : ∀ i, i < xs.length → isNum (xs.getD i .none) 0 b = true) : xs = (natsOf xs).map iN := by
  unfold natsOf
  rw [List.map_map]
  apply List.ext_getElem
  · rw [List.length_map]
  · intro i h1 h2
    have := h i h1
    rw [List.getD_eq_getElem?_getD, List.getElem?_eq_getElem h1] at this
    rw [List.getElem_map]
    show xs[i] = iN _
    have this : isNum xs[i] 0 b = true := this
    obtain ⟨k, hk⟩ := isNum_int this
    rw [hk] at this
    show xs[i] = iN (match xs[i] with
      | .int i => i.toNat
      | _ => 0)
    rw [hk]
    have h0 : (decide ((0 : Int) ≤ k) && decide (k ≤ b)) = true := this
    rw [Bool.and_eq_true, decide_eq_true_iff] at h0
    show PyData.int k = PyData.int ((k.toNat : Nat) : Int)
    rw [Int.toNat_of_nonneg h0.1]
theorem turnD_of {v : PyData} (h : isTurnD v = true) : ∃ t : List Nat, v = tn t ∧ IsTurn t := by
  cases v with
  | tuple xs =>
    unfold isTurnD at h
    rw [Bool.and_eq_true, Bool.and_eq_true, Bool.and_eq_true, decide_eq_true_iff, decide_eq_true_iff, decide_eq_true_iff, List.all_eq_true] at h
    obtain ⟨⟨h1, h9⟩, hall, hs⟩ := h
    have hf := nats_form fun i hi => hall i (List.mem_range.mpr hi)
    have hl : (natsOf xs).length = xs.length := List.length_map ..
    have hp : (natsOf xs).Perm (List.range xs.length) := by
      rw [← hs]
      exact (List.mergeSort_perm _ _).symm
    refine ⟨natsOf xs, congrArg PyData.tuple hf, by rw [hl]; exact h1, by rw [hl]; exact h9, hp.nodup_iff.mpr List.nodup_range, fun x hx => ?_⟩
    rw [hl]
    exact List.mem_range.mp (hp.mem_iff.mp hx)
  | _ => cases h
theorem turnD_is {t : List Nat} (ht : IsTurn t) : isTurnD (tn t) = true := by
  have hl : (t.map iN).length = t.length := List.length_map ..
  have hn : natsOf (t.map iN) = t := by
    unfold natsOf
    rw [List.map_map]
    exact (List.map_congr_left fun x _ => rfl).trans (List.map_id t)
  show ((decide (1 ≤ (t.map iN).length) && decide ((t.map iN).length ≤ 9)) && ((List.range (t.map iN).length).all _ && decide ((natsOf (t.map iN)).mergeSort _ = List.range (t.map iN).length))) = true
  rw [hn, hl, turn_sorted ht, decide_eq_true ht.1, decide_eq_true ht.2.1, decide_eq_true rfl, Bool.and_true, Bool.and_true, Bool.true_and, List.all_eq_true]
  intro i hi
  have hi := List.mem_range.mp hi
  rw [List.getD_eq_getElem?_getD, List.getElem?_map, List.getElem?_eq_getElem hi]
  have := ht.2.2.2 _ (List.getElem_mem hi)
  exact isNum_iN (by omega) (by omega)
theorem et_isTupE {X : Cx} {Γ : Gm} {e : Expr} {pos pp p1 : Pos} {v : PyData} (T : Tx X.mg) (hv : ValOk v) (ha : Ee X Γ e v Γ) (hg : Gl X "isinstance" := by rfl) (hg2 : Gl X "tuple" := by rfl)
    (he : starEach [e, .Name "tuple" p1] X.env = (false, eval e X.env) :: starEach [.Name "tuple" p1] X.env := by rfl) (he2 : starEach [.Name "tuple" p1] X.env = (false, eval (.Name "tuple" p1) X.env) :: starEach [] X.env := by rfl) (hpl : (backTo pos (starEach [.Name "tuple" p1] X.env)).any (·.1) = false := by rfl) :
    Ee X Γ (.Call (.Name "isinstance" pp) [e, .Name "tuple" p1] [] pos) (.bool (isTupD v)) Γ := by
  rcases hv with hv | rfl
  · exact ee_isi T.isinstance T.tuple bt_tuple ha (sh_dict hv) (kit_tuple _) hg hg2 (by decide) (by decide) he he2 hpl
  · exact ee_isiE T.isinstance T.tuple bt_tuple ha (by rfl) hg hg2 (by decide) (by decide) he he2 hpl
end
end DL
end

section
namespace DL
open PySem PySem.Spec PyProof.Rows L2 RM
abbrev N_rest_turn : List Str := ["net", "halls", "pairs"]
abbrev N_is_restalike : List Str := ["net"]
abbrev N_shows_rest_turn : List Str := ["net", "value"]
section
variable {P : Program} {w : World} {K : PySem.W.Frag} {mg : Str → Option Value} {base : Heap}
abbrev findP (n : Nat) (S : List (Nat × Nat)) : Option (List Nat) := findM (symW S) n
def R_rest_turn (ds : List PyData) (d : PyData) : Prop := ∃ n S, 1 ≤ n ∧ n ≤ 9 ∧ IsNet n S ∧ ds = [nN n S] ∧ d = optD (findP n S)
def R_is_restalike (ds : List PyData) (d : PyData) : Prop := ∃ n S, 1 ≤ n ∧ n ≤ 9 ∧ IsNet n S ∧ ds = [nN n S] ∧ d = .bool (findP n S).isSome
def lenD (v : PyData) : Nat := match v with
  | .tuple xs => xs.length
  | _ => 0
def natsD (v : PyData) : List Nat := match v with
  | .tuple xs => natsOf xs
  | _ => []
/-- what shows_rest_turn tells -/
def showsP (n : Nat) (S : List (Nat × Nat)) (v : PyData) : Bool := match v with
  | .none => (findP n S).isNone
  | _ => isTurnD v && (decide (lenD v = n) && leadsM (natsD v) S)
theorem nats_tn (t : List Nat) : natsD (tn t) = t := by
  show natsOf (t.map iN) = t
  unfold natsOf
  rw [List.map_map]
  exact (List.map_congr_left fun x _ => rfl).trans (List.map_id t)
theorem showsP_turn {n : Nat} {S : List (Nat × Nat)} {t : List Nat} (ht : IsTurn t) (hl : t.length = n) : showsP n S (tn t) = leadsM t S := by
  show (isTurnD (tn t) && (decide (lenD (tn t) = n) && leadsM (natsD (tn t)) S)) = _
  rw [turnD_is ht, nats_tn, decide_eq_true (show lenD (tn t) = n from by show (t.map iN).length = n; rw [List.length_map]; exact hl)]; rfl
def R_shows_rest (ds : List PyData) (d : PyData) : Prop := ∃ n S v, 1 ≤ n ∧ n ≤ 9 ∧ IsNet n S ∧ ValOk v ∧ ds = [nN n S, v] ∧ d = .bool (showsP n S v)
end
end DL
end

section
/-! A net that a turn leads to its rest: what its halls' numbers of pairs add up to. -/
namespace RM
theorem led_compP {t : List Nat} {S : List (Nat × Nat)} (ht : IsTurn t) (hs : S.Sublist (allPairs t.length)) : ledLot t S = leftLot (allPairs t.length) S ↔ Comp (symW S) t := by
  have e : G.leftE (allPairs t.length) S = leftLot (allPairs t.length) S := List.filter_congr fun x _ => by by_cases h : x ∈ S <;> simp [h]
  rw [← e, ← comp_pairs ht fun p hp => hs.subset hp]
  exact G.due_iff (sysP ht) (mem_lots.mpr hs)
def oth (h : Nat) (p : Nat × Nat) : Nat := if p.1 = h then p.2 else p.1
theorem deg_sym {n : Nat} {S : List (Nat × Nat)} (hn : S.Nodup) (hm : ∀ p ∈ S, p ∈ allPairs n) (h : Nat) : degM S h = (List.range n).countP fun x => tbB (symW S) h x := by
  have P : ((S.filter fun p => decide (p.1 = h) || decide (p.2 = h)).map (oth h)).Perm ((List.range n).filter fun x => tbB (symW S) h x) := by
    refine (List.perm_ext_iff_of_nodup ?_ (List.nodup_range.sublist List.filter_sublist)).mpr fun x => ?_
    · refine List.pairwise_map.mpr (List.Pairwise.imp_of_mem (fun {a b} ha hb ne e => ?_) (hn.sublist List.filter_sublist))
      obtain ⟨ha1, ha2⟩ := List.mem_filter.mp ha
      obtain ⟨hb1, hb2⟩ := List.mem_filter.mp hb
      have a1 := (mem_allPairs.mp (hm a ha1)).1
      have b1 := (mem_allPairs.mp (hm b hb1)).1
      simp only [Bool.or_eq_true, decide_eq_true_eq] at ha2 hb2
      obtain ⟨x, y⟩ := a
      obtain ⟨u, v⟩ := b
      simp only [oth] at *
      refine ne ?_
      by_cases c1 : x = h <;> by_cases c2 : u = h
      · rw [if_pos c1, if_pos c2] at e; rw [c1, c2, e]
      · rw [if_pos c1, if_neg c2] at e
        have := hb2.resolve_left c2
        omega
      · rw [if_neg c1, if_pos c2] at e
        have := ha2.resolve_left c1
        omega
      · rw [if_neg c1, if_neg c2] at e
        rw [e, ha2.resolve_left c1, hb2.resolve_left c2]
    · rw [List.mem_map, List.mem_filter, List.mem_range]
      constructor
      · rintro ⟨⟨a, b⟩, hp, rfl⟩
        obtain ⟨hp1, hp2⟩ := List.mem_filter.mp hp
        have a1 := mem_allPairs.mp (hm _ hp1)
        simp only [Bool.or_eq_true, decide_eq_true_eq] at hp2 a1
        by_cases c : a = h
        · subst c
          have e : oth a (a, b) = b := if_pos rfl
          rw [e]
          exact ⟨by omega, decide_eq_true (mem_sym.mpr (.inl hp1))⟩
        · have e : oth h (a, b) = a := if_neg c
          have hb : b = h := hp2.resolve_left c
          subst hb
          rw [e]
          exact ⟨by omega, decide_eq_true (mem_sym.mpr (.inr hp1))⟩
      · rintro ⟨hx, ht⟩
        rcases mem_sym.mp (of_decide_eq_true ht) with z | z
        · exact ⟨(h, x), List.mem_filter.mpr ⟨z, by simp⟩, if_pos rfl⟩
        · have := (mem_allPairs.mp (hm _ z)).1
          simp only at this
          exact ⟨(x, h), List.mem_filter.mpr ⟨z, by simp⟩, if_neg (by simp only; omega)⟩
  rw [List.countP_eq_length_filter, ← P.length_eq, List.length_map, degM, List.countP_eq_length_filter]
theorem two_counts {p q : Nat → Bool} {h : Nat} : ∀ {l : List Nat}, (∀ x ∈ l, x ≠ h → q x = !p x) → (p h = false) → (q h = false) → l.countP p + l.countP q + l.countP (fun x => decide (x = h)) = l.length
  | [], _, _, _ => rfl
  | x :: l, hl, h1, h2 => by
    have ih := two_counts (l := l) (fun y hy => hl y (List.mem_cons_of_mem _ hy)) h1 h2
    rw [List.countP_cons, List.countP_cons, List.countP_cons, List.length_cons]
    by_cases e : x = h
    · subst e
      simp [h1, h2]; omega
    · have := hl x List.mem_cons_self e
      cases hp : p x <;> simp [hp, this, e] <;> omega
theorem one_count {l : List Nat} {h : Nat} (hn : l.Nodup) (hm : h ∈ l) : l.countP (fun x => decide (x = h)) = 1 := by
  induction l with
  | nil => cases hm
  | cons x l ih =>
    obtain ⟨h1, h2⟩ := List.nodup_cons.mp hn
    rw [List.countP_cons]
    by_cases e : x = h
    · subst e
      have : l.countP (fun y => decide (y = x)) = 0 := List.countP_eq_zero.mpr fun y hy z => h1 (by have := of_decide_eq_true z; rw [← this]; exact hy)
      rw [this]; simp
    · have hm' : h ∈ l := (List.mem_cons.mp hm).resolve_left fun z => e z.symm
      rw [ih h2 hm']; simp [e]
theorem map_at_range (u : List Nat) : (List.range u.length).map (at_ u) = u := by
  apply List.ext_getElem
  · rw [List.length_map, List.length_range]
  · intro i h1 h2
    rw [List.getElem_map, List.getElem_range, at_getElem h2]
/-- a hall and the hall that it is led to have n - 1 pairs together -/
theorem deg_sum {u : List Nat} (hu : IsTurn u) {S : List (Nat × Nat)} (hn : S.Nodup) (hm : ∀ p ∈ S, p ∈ allPairs u.length) (hc : Comp (symW S) u) {h : Nat} (hh : h < u.length) : degM S h + degM S (at_ u h) + 1 = u.length := by
  have no : ∀ x, tbB (symW S) x x = false := fun x => decide_eq_false fun z => by
    have := (mem_sym.mp z)
    rcases this with z | z <;> exact absurd (mem_allPairs.mp (hm _ z)).1 (Nat.lt_irrefl x)
  have e2 : (List.range u.length).countP (fun x => tbB (symW S) (at_ u h) x) = (List.range u.length).countP fun x => tbB (symW S) (at_ u h) (at_ u x) := by
    rw [← (perm_range hu.2.2.1 hu.2.2.2).countP_eq]
    generalize at_ u h = z
    have m := congrArg (List.countP fun x => tbB (symW S) z x) (map_at_range u)
    rw [List.countP_map] at m
    exact m.symm
  have t := two_counts (p := fun x => tbB (symW S) h x) (q := fun x => tbB (symW S) (at_ u h) (at_ u x)) (h := h) (l := List.range u.length) (fun x hx e => by
    have := hc.2 h x hh (List.mem_range.mp hx) fun z => e z.symm
    cases a : tbB (symW S) h x <;> cases b : tbB (symW S) (at_ u h) (at_ u x) <;> simp [a, b] at this ⊢) (no h) (no _)
  rw [one_count List.nodup_range (List.mem_range.mpr hh), List.length_range] at t
  rw [deg_sym hn hm, deg_sym hn hm, e2]
  exact t
abbrev sortN (l : List Nat) : List Nat := l.mergeSort (le_ fun a b : Nat => decide (a < b))
theorem degs_rev {u : List Nat} (hu : IsTurn u) {S : List (Nat × Nat)} (hn : S.Nodup) (hm : ∀ p ∈ S, p ∈ allPairs u.length) (hc : Comp (symW S) u) :
    (sortN (degs u.length S)).reverse = (sortN (degs u.length S)).map fun x => u.length - 1 - x := by
  have P : (sortN (degs u.length S)).Perm (degs u.length S) := List.mergeSort_perm (degs u.length S) (le_ fun a b : Nat => decide (a < b))
  have up : (sortN (degs u.length S)).Pairwise fun a b => le_ (fun a b : Nat => decide (a < b)) a b = true := sort_up ordN (degs u.length S)
  generalize hs : sortN (degs u.length S) = s at *
  have P1 : (s.map fun x => u.length - 1 - x).Perm s := by
    have a : ((degs u.length S).map fun x => u.length - 1 - x).Perm (degs u.length S) := by
      have e1 : ((degs u.length S).map fun x => u.length - 1 - x) = u.map (degM S) := by
        conv => rhs; rw [← map_at_range u]
        unfold degs
        rw [List.map_map, List.map_map]
        refine List.map_congr_left fun h hh => ?_
        have := deg_sum hu hn hm hc (List.mem_range.mp hh)
        simp only [Function.comp]
        omega
      rw [e1]
      exact (perm_range hu.2.2.1 hu.2.2.2).map _
    exact (P.map _).trans (a.trans P.symm)
  have e : (s.map fun x => u.length - 1 - x).reverse = s := by
    refine List.Perm.eq_of_pairwise (le := fun a b => le_ (fun a b : Nat => decide (a < b)) a b = true) (fun a b _ _ h1 h2 => ?_) ?_ up ((List.reverse_perm _).trans P1)
    · simp [le_] at h1 h2; omega
    · rw [List.pairwise_reverse, List.pairwise_map]
      exact up.imp fun {a b} h => by simp [le_] at h ⊢; omega
  rw [← e, List.reverse_reverse, e]
theorem degs_two {u : List Nat} (hu : IsTurn u) {S : List (Nat × Nat)} (hn : S.Nodup) (hm : ∀ p ∈ S, p ∈ allPairs u.length) (hc : Comp (symW S) u) :
    ((List.range (sortN (degs u.length S)).length).map fun i => (sortN (degs u.length S)).getD i 0 + (sortN (degs u.length S)).reverse.getD i 0) = List.replicate u.length (u.length - 1) := by
  have hl : (sortN (degs u.length S)).length = u.length := by rw [(List.mergeSort_perm _ _).length_eq]; unfold degs; rw [List.length_map, List.length_range]
  have hb : ∀ x ∈ sortN (degs u.length S), x ≤ u.length - 1 := fun x hx => by
    have hx' := (List.mergeSort_perm _ _).mem_iff.mp hx
    unfold degs at hx'
    obtain ⟨h, hh, rfl⟩ := List.mem_map.mp hx'
    have := deg_sum hu hn hm hc (List.mem_range.mp hh)
    omega
  rw [degs_rev hu hn hm hc]
  generalize sortN (degs u.length S) = s at *
  apply List.ext_getElem
  · rw [List.length_map, List.length_range, List.length_replicate, hl]
  · intro i h1 h2
    have hi : i < s.length := by simpa using h1
    rw [List.getElem_map, List.getElem_range, List.getElem_replicate, List.getD_eq_getElem?_getD, List.getD_eq_getElem?_getD, List.getElem?_map, List.getElem?_eq_getElem hi]
    have := hb s[i] (List.getElem_mem hi)
    show s[i] + (u.length - 1 - s[i]) = _
    omega
end RM
end

section
/-! A net drawn ring by ring is led to its rest; turns of other names have rings as long. -/
namespace RM
namespace G
variable {α : Type} [DecidableEq α] {lt : α → α → Bool} {E : List α} {f : α → α}
theorem pk_mem (Y : Sys lt E f) {p : α} (hp : p ∈ E) (he : perE f E p % 2 = 0) (b : Bool) (k : Nat) : itr f k p ∈ pkN f p b (perE f E p) ↔ isIn b k = true := by
  have hper := (Y.per hp).1
  unfold pkN
  rw [List.mem_map]
  constructor
  · rintro ⟨j, hj, e⟩
    obtain ⟨_, hj2⟩ := List.mem_filter.mp hj
    have a := (half_even Y hp he j).1
    have c := (half_even Y hp he k).1
    rw [e, c] at a
    unfold isIn at hj2 ⊢
    rw [decide_eq_decide.mpr a]
    exact hj2
  · intro h
    refine ⟨k % perE f E p, List.mem_filter.mpr ⟨List.mem_range.mpr (Nat.mod_lt _ hper.1), ?_⟩, (itr_mod hper k).symm⟩
    have e : k % perE f E p % 2 = 0 ↔ k % 2 = 0 := by
      have := Nat.div_add_mod k (perE f E p)
      have h2 : (perE f E p * (k / perE f E p)) % 2 = 0 := by rw [Nat.mul_mod, he, Nat.zero_mul]
      omega
    unfold isIn at h ⊢
    rw [decide_eq_decide.mpr e]
    exact h
end G
theorem mix_alt {f : Nat × Nat → Nat × Nat} {E : List (Nat × Nat)} (Y : G.Sys pLt E f) (hev : G.AllEven E f) (bs : Nat → Bool) : ∀ i, (∀ j, j < i → G.leftR (G.ringE f E) E j ≠ []) → ∀ x ∈ E, (∃ h ∈ G.headsR (G.ringE f E) E i, x ∈ G.ringE f E h) → (x ∈ mixW f E bs i ↔ f x ∉ mixW f E bs i)
  | 0, _, x, _, ⟨h, hh, _⟩ => by cases hh
  | i + 1, hj, x, hx, ⟨h, hh, hr⟩ => by
    have ih := mix_alt Y hev bs i fun j h => hj j (by omega)
    obtain ⟨_, inv⟩ := mix_inv Y bs i fun j h => hj j (by omega)
    obtain ⟨rest, hw⟩ := hdW_is (hj i (Nat.lt_succ_self i))
    have hpl : hdW (G.ringE f E) E i ∈ G.leftR (G.ringE f E) E i := by rw [hw]; exact List.mem_cons_self
    have hhs : G.headsR (G.ringE f E) E (i + 1) = G.headsR (G.ringE f E) E i ++ [hdW (G.ringE f E) E i] := by
      show _ ++ (G.leftR (G.ringE f E) E i).take 1 = _
      rw [hw]; rfl
    show x ∈ mixW f E bs i ++ pkN f (hdW (G.ringE f E) E i) (bs i) (G.perE f E (hdW (G.ringE f E) E i)) ↔ f x ∉ mixW f E bs i ++ pkN f (hdW (G.ringE f E) E i) (bs i) (G.perE f E (hdW (G.ringE f E) E i))
    rw [hhs] at hh
    generalize hdW (G.ringE f E) E i = p at *
    obtain ⟨hpE, hpn⟩ := (G.mem_left i p).mp hpl
    have hsub : (pkN f p (bs i) (G.perE f E p)).Sublist (G.ringE f E p) := pkN_sub _ _ _ _
    have step : ∀ y z, z ∈ E → y ∈ G.ringE f E z → f y ∈ G.ringE f E z := fun y z hz hy => by
      obtain ⟨k, rfl⟩ := (G.mem_ringE Y hz).mp hy
      exact (G.mem_ringE Y hz).mpr ⟨k + 1, rfl⟩
    rcases List.mem_append.mp hh with hi | hi
    · have hhE := G.heads_mem _ _ _ _ hi
      have no : ∀ y, y ∈ G.ringE f E h → y ∉ pkN f p (bs i) (G.perE f E p) := fun y hy z => by
        exact hpn h hi (G.ring_trans Y hhE hy (G.ring_sym Y hpE (hsub.subset z)))
      have n1 := no x hr
      have n2 := no (f x) (step x h hhE hr)
      rw [List.mem_append, List.mem_append]
      have := ih x hx ⟨h, hi, hr⟩
      constructor
      · rintro (a | a)
        · exact fun z => z.elim (this.mp a) n2
        · exact absurd a n1
      · intro a
        exact .inl (this.mpr fun z => a (.inl z))
    · have e : h = p := by simpa using hi
      subst e
      have no : ∀ y, y ∈ G.ringE f E h → y ∉ mixW f E bs i := fun y hy z => by
        obtain ⟨_, h', hh', hr'⟩ := inv y z
        have hE' := G.heads_mem _ _ _ _ hh'
        exact hpn h' hh' (G.ring_trans Y hE' hr' (G.ring_sym Y hpE hy))
      have n1 := no x hr
      have n2 := no (f x) (step x h hpE hr)
      obtain ⟨k, rfl⟩ := (G.mem_ringE Y hpE).mp hr
      have a := G.pk_mem Y hpE (hev h hpE) (bs i) k
      have c := G.pk_mem Y hpE (hev h hpE) (bs i) (k + 1)
      rw [isIn_succ] at c
      have c : f (itr f k h) ∈ pkN f h (bs i) (G.perE f E h) ↔ (!isIn (bs i) k) = true := c
      rw [List.mem_append, List.mem_append]
      constructor
      · rintro (z | z)
        · exact absurd z n1
        · rintro (y | y)
          · exact n2 y
          · have := c.mp y
            rw [a.mp z] at this; cases this
      · intro z
        refine .inr (a.mpr ?_)
        cases hb : isIn (bs i) k with
        | true => rfl
        | false => exact absurd (.inr (c.mpr (by rw [hb]; rfl))) z
/-- drawn to the end, it is led -/
theorem mix_led {f : Nat × Nat → Nat × Nat} {E : List (Nat × Nat)} (Y : G.Sys pLt E f) (hev : G.AllEven E f) (bs : Nat → Bool) {m : Nat} (h0 : G.leftR (G.ringE f E) E m = []) (h1 : ∀ i, i < m → G.leftR (G.ringE f E) E i ≠ []) : G.Alt E f ((mixW f E bs m).mergeSort (le_ pLt)) := fun x hx => by
  rw [List.mem_mergeSort, List.mem_mergeSort]
  refine mix_alt Y hev bs m h1 x hx ?_
  apply Classical.byContradiction
  intro hc
  have : x ∈ G.leftR (G.ringE f E) E m := (G.mem_left m x).mpr ⟨hx, fun h hh z => hc ⟨h, hh, z⟩⟩
  rw [h0] at this
  cases this
end RM
end

section
/-! The lengths of the rings, counted; they stay when the things are called otherwise. -/
namespace RM
namespace G
variable {α : Type} [DecidableEq α] {lt : α → α → Bool} {E : List α} {f : α → α}
theorem per_unique {β : Type} {g : β → β} {x : β} {k m : Nat} (h1 : IsPer g x k) (h2 : IsPer g x m) : k = m := by
  obtain ⟨a1, a2, a3⟩ := h1
  obtain ⟨b1, b2, b3⟩ := h2
  apply Classical.byContradiction
  intro hne
  rcases Nat.lt_or_gt_of_ne hne with h | h
  · exact b3 k a1 h a2
  · exact a3 m b1 h b2
theorem per_ring (Y : Sys lt E f) {p x : α} (hp : p ∈ E) (hx : x ∈ ringE f E p) : perE f E x = perE f E p := by
  have n1 := ringE_nodup Y hp
  have hxE := ring_in Y hp hx
  have n2 := ringE_nodup Y hxE
  have P : (ringE f E x).Perm (ringE f E p) := (List.perm_ext_iff_of_nodup n2 n1).mpr fun y => ⟨fun h => ring_trans Y hp hx h, fun h => ring_trans Y hxE (ring_sym Y hp hx) h⟩
  have := P.length_eq
  unfold ringE at this
  rw [ring_len, ring_len] at this
  exact this
theorem rings_flat (Y : Sys lt E f) : (ringsE lt E f).flatten.Perm E := by
  refine (List.perm_ext_iff_of_nodup ?_ Y.nodup).mpr fun x => ?_
  · refine List.pairwise_flatten.mpr ⟨fun r hr => (rings_nodup Y r hr).1, (rings_apart Y).imp fun {a b} h x hx y hy e => ?_⟩
    subst e
    exact h x hx hy
  · rw [List.mem_flatten]
    constructor
    · rintro ⟨r, hr, hx⟩
      obtain ⟨p, hp, rfl, _⟩ := mem_rings.mp hr
      exact ring_in Y hp hx
    · intro hx
      obtain ⟨p, hp, hm, hr⟩ := cover Y hx
      exact ⟨_, mem_rings.mpr ⟨p, hp, rfl, hm⟩, hr⟩
theorem sum_lens (L : Nat) : ∀ R : List (List α), (∀ r ∈ R, r.countP (fun x => decide (perE f E x = L)) = if r.length = L then L else 0) → (R.map fun r => r.countP fun x => decide (perE f E x = L)).sum = (R.map List.length).count L * L
  | [], _ => by simp
  | r :: R, h => by
    rw [List.map_cons, List.sum_cons, List.map_cons, List.count_cons, sum_lens L R fun r hr => h r (List.mem_cons_of_mem _ hr), h r List.mem_cons_self]
    by_cases e : r.length = L
    · subst e; simp [Nat.add_mul]; omega
    · simp [e]
theorem count_lens (Y : Sys lt E f) (L : Nat) : ((ringsE lt E f).map List.length).count L * L = E.countP fun x => decide (perE f E x = L) := by
  rw [← (rings_flat Y).countP_eq, List.countP_flatten, sum_lens L _ fun r hr => ?_]
  obtain ⟨p, hp, rfl, _⟩ := mem_rings.mp hr
  have hl : (ringE f E p).length = perE f E p := by unfold ringE; rw [ring_len]
  by_cases e : (ringE f E p).length = L
  · rw [if_pos e]
    have : (ringE f E p).countP (fun x => decide (perE f E x = L)) = (ringE f E p).length := List.countP_eq_length.mpr fun x hx => decide_eq_true (by rw [per_ring Y hp hx, ← hl, e])
    rw [this, e]
  · rw [if_neg e]
    exact List.countP_eq_zero.mpr fun x hx z => e (by have := of_decide_eq_true z; rw [per_ring Y hp hx, ← hl] at this; exact this)
variable {β : Type} [DecidableEq β] {lt' : β → β → Bool} {E' : List β} {f' : β → β}
theorem itr_conj {φ : α → β} (hc : ∀ x ∈ E, f' (φ x) = φ (f x)) (Y : Sys lt E f) : ∀ k {x}, x ∈ E → itr f' k (φ x) = φ (itr f k x)
  | 0, _, _ => rfl
  | k + 1, x, hx => by
    show f' (itr f' k (φ x)) = φ (f (itr f k x))
    rw [itr_conj hc Y k hx, hc _ (itr_mem Y.mem hx k)]
/-- the lengths of the rings stay when the things are called otherwise -/
theorem lens_conj (Y : Sys lt E f) (Y' : Sys lt' E' f') (φ : α → β) (hP : (E.map φ).Perm E') (hc : ∀ x ∈ E, f' (φ x) = φ (f x)) : ((ringsE lt' E' f').map List.length).Perm ((ringsE lt E f).map List.length) := by
  have inj : ∀ x ∈ E, ∀ y ∈ E, φ x = φ y → x = y := by
    have hn : (E.map φ).Nodup := hP.nodup_iff.mpr Y'.nodup
    intro x hx y hy e
    apply Classical.byContradiction
    intro hne
    have := List.pairwise_map.mp (List.nodup_iff_pairwise_ne.mp hn)
    have h2 : E.Pairwise fun a b => φ a ≠ φ b := this
    have sym : ∀ {l : List α}, (l.Pairwise fun a b => φ a ≠ φ b) → x ∈ l → y ∈ l → False := by
      intro l
      induction l with
      | nil => intro _ h; cases h
      | cons a l ih =>
        intro h hx hy
        obtain ⟨h1, h2⟩ := List.pairwise_cons.mp h
        rcases List.mem_cons.mp hx with q | q
        · rcases List.mem_cons.mp hy with r | r
          · exact hne (q.trans r.symm)
          · exact h1 y r (by rw [← q]; exact e)
        · rcases List.mem_cons.mp hy with r | r
          · exact h1 x q (by rw [← r]; exact e.symm)
          · exact ih h2 q r
    exact sym h2 hx hy
  have mem' : ∀ x ∈ E, φ x ∈ E' := fun x hx => hP.mem_iff.mp (List.mem_map.mpr ⟨x, hx, rfl⟩)
  have per' : ∀ x ∈ E, perE f' E' (φ x) = perE f E x := fun x hx => by
    obtain ⟨⟨a1, a2, a3⟩, _⟩ := Y.per hx
    refine per_unique (Y'.per (mem' x hx)).1 ⟨a1, ?_, fun i h1 h2 e => ?_⟩
    · rw [itr_conj hc Y _ hx, a2]
    · rw [itr_conj hc Y _ hx] at e
      exact a3 i h1 h2 (inj _ (itr_mem Y.mem hx i) _ hx e)
  rw [List.perm_iff_count]
  intro L
  have c1 := count_lens Y L
  have c2 := count_lens Y' L
  have e : (E'.countP fun x => decide (perE f' E' x = L)) = E.countP fun x => decide (perE f E x = L) := by
    rw [← hP.countP_eq, List.countP_map]
    refine List.countP_congr fun x hx => ?_
    show decide (perE f' E' (φ x) = L) = true ↔ _
    rw [per' x hx]
  rw [e, ← c1] at c2
  rcases Nat.eq_zero_or_pos L with rfl | hL
  · have z : ∀ {γ : Type} {R : List (List γ)}, (∀ r ∈ R, r ≠ []) → (R.map List.length).count 0 = 0 := fun {γ R} h => List.count_eq_zero.mpr fun hm => by
      obtain ⟨r, hr, e⟩ := List.mem_map.mp hm
      exact h r hr (List.length_eq_zero_iff.mp e)
    rw [z fun r hr => (rings_nodup Y r hr).2, z fun r hr => (rings_nodup Y' r hr).2]
  · exact Nat.eq_of_mul_eq_mul_right hL c2
end G
end RM
end

section
/-! Turns and nets, called otherwise. -/
namespace RM
/-- m is t with the halls called otherwise -/
structure Moved (names t m : List Nat) : Prop where
  hn : IsTurn names
  ht : IsTurn t
  hm : IsTurn m
  ln : names.length = t.length
  lm : m.length = t.length
  eq : ∀ h, h < t.length → at_ m (at_ names h) = at_ names (at_ t h)
theorem at_lt {t : List Nat} (ht : IsTurn t) {h : Nat} (hh : h < t.length) : at_ t h < t.length := List.mem_range.mp (at_mem ht h (List.mem_range.mpr hh))
theorem ledPair_lt {t : List Nat} {x y : Nat} : ledPair t (min x y, max x y) = (min (at_ t x) (at_ t y), max (at_ t x) (at_ t y)) := by
  unfold ledPair
  rcases Nat.le_total x y with z | z
  · rw [Nat.min_eq_left z, Nat.max_eq_right z]
  · rw [Nat.min_eq_right z, Nat.max_eq_left z, Nat.min_comm, Nat.max_comm]
theorem led_perm {names : List Nat} (hn : IsTurn names) : ((allPairs names.length).map (ledPair names)).Perm (allPairs names.length) := by
  refine (List.perm_ext_iff_of_nodup ?_ (sysP hn).nodup).mpr fun x => ?_
  · rw [List.nodup_iff_pairwise_ne, List.pairwise_map]
    exact (List.nodup_iff_pairwise_ne.mp (sysP hn).nodup).imp_of_mem fun {a b} ha hb h e => h (led_inj hn a ha b hb e)
  · rw [List.mem_map]
    constructor
    · rintro ⟨p, hp, rfl⟩; exact led_mem hn p hp
    · intro hx; exact G.led_onto (sysP hn) hx
theorem hRings_is (t : List Nat) : hRings t = G.ringsE ltN (List.range t.length) (at_ t) := by
  have e : ∀ x, hRing t x = G.ringE (at_ t) (List.range t.length) x := fun x => by
    unfold hRing hPer G.ringE G.perE
    rw [List.length_range]
  show ((List.range t.length).map (hRing t)).filter _ = ((List.range t.length).map (G.ringE (at_ t) (List.range t.length))).filter _
  rw [show hRing t = G.ringE (at_ t) (List.range t.length) from funext e]
theorem rings_moved {names t m : List Nat} (Z : Moved names t m) : ringsM m = ringsM t := by
  refine sort_same ordN ?_
  rw [hRings_is, hRings_is]
  refine G.lens_conj (sysH Z.ht) (sysH Z.hm) (at_ names) ?_ fun h hh => Z.eq h (List.mem_range.mp hh)
  rw [← Z.ln, map_at_range, Z.lm, ← Z.ln]
  exact perm_range Z.hn.2.2.1 Z.hn.2.2.2
theorem pairs_moved {names t m : List Nat} (Z : Moved names t m) : (pairRingsM m).length = (pairRingsM t).length := by
  have P : ((allPairs t.length).map (ledPair names)).Perm (allPairs m.length) := by
    rw [Z.lm, ← Z.ln]; exact led_perm Z.hn
  have := (G.lens_conj (sysP Z.ht) (sysP Z.hm) (ledPair names) P fun p hp => by
    have h := mem_allPairs.mp hp
    have e1 : ledPair m (ledPair names p) = (min (at_ m (at_ names p.1)) (at_ m (at_ names p.2)), max (at_ m (at_ names p.1)) (at_ m (at_ names p.2))) := ledPair_lt
    have e2 : ledPair names (ledPair t p) = (min (at_ names (at_ t p.1)) (at_ names (at_ t p.2)), max (at_ names (at_ t p.1)) (at_ names (at_ t p.2))) := ledPair_lt
    rw [e1, e2, Z.eq p.1 (by omega), Z.eq p.2 h.2]).length_eq
  rw [List.length_map, List.length_map] at this
  exact this
theorem can_moved {names t m : List Nat} (Z : Moved names t m) : canLeadM m = canLeadM t := by
  unfold canLeadM othersM
  rw [rings_moved Z]
theorem count_moved {names t m : List Nat} (Z : Moved names t m) : countLedM m = countLedM t := by
  unfold countLedM
  rw [can_moved Z, pairs_moved Z]
/-- pairs, called otherwise -/
theorem sym_led {names : List Nat} (hn : IsTurn names) {S : List (Nat × Nat)} (hm : ∀ p ∈ S, p ∈ allPairs names.length) {a b : Nat} (ha : a < names.length) (hb : b < names.length) : (at_ names a, at_ names b) ∈ symW (ledLot names S) ↔ (a, b) ∈ symW S := by
  by_cases hab : a = b
  · subst hab
    have no : ∀ {n : Nat} {S : List (Nat × Nat)} {x : Nat}, (∀ p ∈ S, p ∈ allPairs n) → (x, x) ∉ symW S := fun hm z => by
      rcases mem_sym.mp z with z | z <;> exact absurd (mem_allPairs.mp (hm _ z)).1 (Nat.lt_irrefl _)
    have h2 : ∀ p ∈ ledLot names S, p ∈ allPairs names.length := fun p hp => by
      obtain ⟨q, hq, rfl⟩ := List.mem_map.mp (List.mem_mergeSort.mp hp)
      exact led_mem hn q (hm q hq)
    exact ⟨fun z => absurd z (no h2), fun z => absurd z (no hm)⟩
  · have hne : at_ names a ≠ at_ names b := fun e => hab (at_inj hn a (List.mem_range.mpr ha) b (List.mem_range.mpr hb) e)
    have h2 : ∀ p ∈ ledLot names S, p ∈ allPairs names.length := fun p hp => by
      obtain ⟨q, hq, rfl⟩ := List.mem_map.mp (List.mem_mergeSort.mp hp)
      exact led_mem hn q (hm q hq)
    rw [sym_pair hm hab, sym_pair h2 hne]
    unfold ledLot
    rw [List.mem_mergeSort, List.mem_map]
    have hp := mkPair ha hb hab
    constructor
    · rintro ⟨q, hq, e⟩
      rw [← ledPair_lt] at e
      rw [← led_inj hn q (hm q hq) _ hp e]
      exact hq
    · intro h
      exact ⟨_, h, ledPair_lt⟩
theorem onto {names : List Nat} (hn : IsTurn names) {x : Nat} (hx : x < names.length) : ∃ a, a < names.length ∧ at_ names a = x := by
  obtain ⟨a, ha, e⟩ := G.led_onto (sysH hn) (List.mem_range.mpr hx)
  exact ⟨a, List.mem_range.mp ha, e⟩
theorem comp_moved {names t m : List Nat} (Z : Moved names t m) {S : List (Nat × Nat)} (hS : ∀ p ∈ S, p ∈ allPairs t.length) (hc : Comp (symW S) t) : Comp (symW (ledLot names S)) m := by
  have hS' : ∀ p ∈ S, p ∈ allPairs names.length := by rw [Z.ln]; exact hS
  refine ⟨Z.hm.2.2.1, fun x y hx hy hxy => ?_⟩
  rw [Z.lm] at hx hy
  obtain ⟨a, ha, rfl⟩ := onto Z.hn (x := x) (by rw [Z.ln]; exact hx)
  obtain ⟨b, hb, rfl⟩ := onto Z.hn (x := y) (by rw [Z.ln]; exact hy)
  have ha' : a < t.length := by rw [← Z.ln]; exact ha
  have hb' : b < t.length := by rw [← Z.ln]; exact hb
  rw [Z.eq a ha', Z.eq b hb']
  have e1 : tbB (symW (ledLot names S)) (at_ names a) (at_ names b) = tbB (symW S) a b := decide_eq_decide.mpr (sym_led Z.hn hS' ha hb)
  have e2 : tbB (symW (ledLot names S)) (at_ names (at_ t a)) (at_ names (at_ t b)) = tbB (symW S) (at_ t a) (at_ t b) := decide_eq_decide.mpr (sym_led Z.hn hS' (by rw [Z.ln]; exact at_lt Z.ht ha') (by rw [Z.ln]; exact at_lt Z.ht hb'))
  rw [e1, e2]
  exact hc.2 a b ha' hb' fun e => hxy (by rw [e])
theorem led_nodup {names : List Nat} (hn : IsTurn names) {S : List (Nat × Nat)} (hd : S.Nodup) (hm : ∀ p ∈ S, p ∈ allPairs names.length) : (S.map (ledPair names)).Nodup := by
  rw [List.nodup_iff_pairwise_ne, List.pairwise_map]
  exact (List.nodup_iff_pairwise_ne.mp hd).imp_of_mem fun {a b} ha hb h e => h (led_inj hn a (hm a ha) b (hm b hb) e)
theorem led_net {names : List Nat} (hn : IsTurn names) {S : List (Nat × Nat)} (hd : S.Nodup) (hm : ∀ p ∈ S, p ∈ allPairs names.length) : ((ledLot names S).Pairwise fun a b => pLt a b = true) ∧ ∀ p ∈ ledLot names S, p ∈ allPairs names.length :=
  ⟨sort_asc ordP (led_nodup hn hd hm), fun p hp => by
    obtain ⟨q, hq, rfl⟩ := List.mem_map.mp (List.mem_mergeSort.mp hp)
    exact led_mem hn q (hm q hq)⟩
theorem deg_led {names : List Nat} (hn : IsTurn names) {S : List (Nat × Nat)} (hd : S.Nodup) (hm : ∀ p ∈ S, p ∈ allPairs names.length) {h : Nat} (hh : h < names.length) : degM (ledLot names S) (at_ names h) = degM S h := by
  obtain ⟨a, b⟩ := led_net hn hd hm
  rw [deg_sym (asc_nodup ordP a) b, deg_sym hd hm, ← (perm_range hn.2.2.1 hn.2.2.2).countP_eq]
  have m := congrArg (List.countP fun x => tbB (symW (ledLot names S)) (at_ names h) x) (map_at_range names)
  rw [List.countP_map] at m
  rw [← m]
  exact List.countP_congr fun x hx => by
    show tbB (symW (ledLot names S)) (at_ names h) (at_ names x) = true ↔ _
    rw [show tbB (symW (ledLot names S)) (at_ names h) (at_ names x) = tbB (symW S) h x from decide_eq_decide.mpr (sym_led hn hm hh (List.mem_range.mp hx))]
theorem degs_led {names : List Nat} (hn : IsTurn names) {S : List (Nat × Nat)} (hd : S.Nodup) (hm : ∀ p ∈ S, p ∈ allPairs names.length) : sortN (degs names.length (ledLot names S)) = sortN (degs names.length S) := by
  refine sort_same ordN ?_
  unfold degs
  have e : (List.range names.length).map (degM S) = names.map (degM (ledLot names S)) := by
    conv => rhs; arg 2; rw [← map_at_range names]
    rw [List.map_map]
    exact List.map_congr_left fun h hh => (deg_led hn hd hm (List.mem_range.mp hh)).symm
  rw [e]
  exact ((perm_range hn.2.2.1 hn.2.2.2).map _).symm
/-- the turn t with its halls called otherwise, hall by hall -/
def movedM (names t : List Nat) : Nat → List Nat
  | 0 => List.replicate t.length 0
  | i + 1 => (movedM names t i).set (at_ names i) (at_ names (at_ t i))
theorem moved_len (names t : List Nat) : ∀ i, (movedM names t i).length = t.length
  | 0 => List.length_replicate
  | i + 1 => by rw [movedM, List.length_set, moved_len names t i]
theorem moved_at {names t : List Nat} (hn : IsTurn names) (hl : names.length = t.length) : ∀ i, i ≤ t.length → ∀ h, h < i → at_ (movedM names t i) (at_ names h) = at_ names (at_ t h)
  | 0, _, h, hh => by cases hh
  | i + 1, hi, h, hh => by
    rw [movedM]
    by_cases e : h = i
    · subst e
      exact at_set_same (by rw [moved_len, ← hl]; exact at_lt hn (by omega))
    · rw [at_set_ne fun z => e (at_inj hn h (List.mem_range.mpr (by omega)) i (List.mem_range.mpr (by omega)) z.symm)]
      exact moved_at hn hl i (by omega) h (by omega)
theorem moved_is {names t : List Nat} (hn : IsTurn names) (ht : IsTurn t) (hl : names.length = t.length) : Moved names t (movedM names t t.length) := by
  have L := moved_len names t t.length
  have eq := moved_at hn hl t.length (Nat.le_refl _)
  refine ⟨hn, ht, ⟨by rw [L]; exact ht.1, by rw [L]; exact ht.2.1, ?_, ?_⟩, hl, L, eq⟩
  · rw [← map_at_range (movedM names t t.length), List.nodup_iff_pairwise_ne, List.pairwise_map]
    refine (List.nodup_iff_pairwise_ne.mp List.nodup_range).imp_of_mem fun {a b} ha hb hne e => hne ?_
    rw [L] at ha hb
    obtain ⟨x, hx, rfl⟩ := onto hn (x := a) (by rw [hl]; exact List.mem_range.mp ha)
    obtain ⟨y, hy, rfl⟩ := onto hn (x := b) (by rw [hl]; exact List.mem_range.mp hb)
    rw [hl] at hx hy
    rw [eq x hx, eq y hy] at e
    have := at_inj hn _ (List.mem_range.mpr (by rw [hl]; exact at_lt ht hx)) _ (List.mem_range.mpr (by rw [hl]; exact at_lt ht hy)) e
    rw [at_inj ht x (List.mem_range.mpr hx) y (List.mem_range.mpr hy) this]
  · intro z hz
    rw [← map_at_range (movedM names t t.length)] at hz
    obtain ⟨a, ha, rfl⟩ := List.mem_map.mp hz
    rw [L] at ha ⊢
    obtain ⟨x, hx, rfl⟩ := onto hn (x := a) (by rw [hl]; exact List.mem_range.mp ha)
    rw [hl] at hx
    rw [eq x hx]
    have := at_lt hn (h := at_ t x) (by rw [hl]; exact at_lt ht hx)
    omega
/-- what is left of what is left -/
theorem left_left {E S : List (Nat × Nat)} (hE : E.Nodup) (hs : S.Sublist E) : leftLot E (leftLot E S) = S := by
  have e : leftLot E (leftLot E S) = E.filter fun p => decide (p ∈ S) := by
    unfold leftLot
    refine List.filter_congr fun p hp => ?_
    by_cases h : p ∈ S
    · have : p ∉ List.filter (fun p => !decide (p ∈ S)) E := fun z => by
        have := (List.mem_filter.mp z).2
        simp [h] at this
      simp [this, h]
    · have : p ∈ List.filter (fun p => !decide (p ∈ S)) E := List.mem_filter.mpr ⟨hp, by simp [h]⟩
      simp [this, h]
  rw [e]
  clear e
  induction hs with
  | slnil => rfl
  | @cons l1 l2 a h ih =>
    obtain ⟨h1, h2⟩ := List.nodup_cons.mp hE
    rw [List.filter_cons, if_neg (by simp; exact fun z => h1 (h.subset z))]
    exact ih h2
  | @cons_cons l1 l2 a h ih =>
    obtain ⟨h1, h2⟩ := List.nodup_cons.mp hE
    rw [List.filter_cons, if_pos (by simp)]
    congr 1
    have : (l2.filter fun p => decide (p ∈ a :: l1)) = l2.filter fun p => decide (p ∈ l1) := List.filter_congr fun p hp => by
      have : p ≠ a := fun e => h1 (by rw [← e]; exact hp)
      simp [this]
    rw [this]
    exact ih h2
theorem filt_len2 {α : Type} (p : α → Bool) : ∀ l : List α, l.length = (l.filter p).length + (l.filter fun x => !p x).length
  | [] => rfl
  | x :: l => by
    have := filt_len2 p l
    cases h : p x <;> simp [List.filter_cons, h] <;> omega
/-- a net that is led to its rest has half of all pairs -/
theorem half_pairs {t : List Nat} {S : List (Nat × Nat)} (hs : S.Sublist (allPairs t.length)) (he : ledLot t S = leftLot (allPairs t.length) S) (hE : (allPairs t.length).Nodup) : 2 * S.length = (allPairs t.length).length := by
  have e := congrArg List.length he
  unfold ledLot leftLot at e
  rw [List.length_mergeSort, List.length_map] at e
  have hp : ((allPairs t.length).filter fun p => decide (p ∈ S)).Perm S := by
    rw [List.perm_ext_iff_of_nodup (hE.sublist List.filter_sublist) (hE.sublist hs)]
    intro a
    rw [List.mem_filter, decide_eq_true_iff]
    exact ⟨fun z => z.2, fun z => ⟨hs.subset z, z⟩⟩
  have h3 := hp.length_eq
  have h4 := filt_len2 (fun p => decide (p ∈ S)) (allPairs t.length)
  omega
theorem pairs_count {n : Nat} (h : n ≤ 9) : 2 * (allPairs n).length = n * (n - 1) := by
  have : ∀ n, n < 10 → 2 * (allPairs n).length = n * (n - 1) := by decide +kernel
  exact this n (by omega)
end RM
end

section
/-! The rings of a turn drawn with rings of given lengths. -/
namespace RM
/-- the place behind place j, in blocks of lengths ls from a on -/
def succP : List Nat → Nat → Nat → Nat
  | [], _, j => j
  | l :: ls, a, j => if j < a + l then a + (j - a + 1) % l else succP ls (a + l) j
theorem out_at {names : List Nat} (hinj : ∀ i j, i < names.length → j < names.length → at_ names i = at_ names j → i = j) : ∀ (ls : List Nat) (a : Nat) (f : List Nat), (∀ i, i < names.length → at_ names i < f.length) → a + ls.sum ≤ names.length →
    (∀ j, j < a → at_ (ringOut names ls a f) (at_ names j) = at_ f (at_ names j)) ∧ ∀ j, a ≤ j → j < a + ls.sum → at_ (ringOut names ls a f) (at_ names j) = at_ names (succP ls a j)
  | [], a, f, _, _ => ⟨fun j _ => rfl, fun j h1 h2 => by simp at h2; omega⟩
  | l :: ls, a, f, hl, hs => by
    rw [List.sum_cons] at hs
    have ih := out_at hinj ls (a + l) (ringIn names a l l f) (fun i hi => by rw [ringIn_len]; exact hl i hi) (by omega)
    have new : ∀ j, j < l → at_ (ringIn names a l l f) (at_ names (a + j)) = at_ names (a + (j + 1) % l) := ringIn_at hinj (by omega) hl
    refine ⟨fun j hj => ?_, fun j h1 h2 => ?_⟩
    · rw [ringOut, ih.1 j (by omega)]
      exact ringIn_other fun i hi z => by
        have := hinj _ _ (by omega) (by omega) z
        omega
    · rw [List.sum_cons] at h2
      rw [ringOut, succP]
      by_cases h : j < a + l
      · rw [if_pos h, ih.1 j h]
        have := new (j - a) (by omega)
        rw [show a + (j - a) = j by omega] at this
        exact this
      · rw [if_neg h]
        exact ih.2 j (by omega) (by omega)
/-- the turn with those rings, the halls in their order -/
def plainT (ls : List Nat) : List Nat := (List.range ls.sum).map (succP ls 0)
theorem plain_moved {names ls : List Nat} (hn : IsTurn names) (hp : ∀ l ∈ ls, 0 < l) (hs : ls.sum = names.length) (hc : IsTurn (plainT ls)) : Moved names (plainT ls) (ringedM names ls) := by
  obtain ⟨h1, h2⟩ := ringed_all hn hp hs
  have hpl : (plainT ls).length = ls.sum := by unfold plainT; rw [List.length_map, List.length_range]
  refine ⟨hn, hc, h1, by rw [hpl, hs], by rw [h2, hpl, hs], fun h hh => ?_⟩
  rw [hpl] at hh
  have e : at_ (plainT ls) h = succP ls 0 h := by
    unfold plainT at_
    rw [List.getD_eq_getElem?_getD, List.getElem?_map, List.getElem?_range hh]; rfl
  rw [e]
  exact (out_at (fun i j hi hj z => at_inj hn i (List.mem_range.mpr hi) j (List.mem_range.mpr hj) z) ls 0 (List.replicate ls.sum 0) (fun i hi => by rw [List.length_replicate, hs]; exact at_lt hn hi) (by omega)).2 h (Nat.zero_le h) (by omega)
theorem even_moved {names t m : List Nat} (Z : Moved names t m) (h : AllEven t) : AllEven m := by
  have P : ((allPairs t.length).map (ledPair names)).Perm (allPairs m.length) := by
    rw [Z.lm, ← Z.ln]; exact led_perm Z.hn
  have L := G.lens_conj (sysP Z.ht) (sysP Z.hm) (ledPair names) P fun p hp => by
    have h := mem_allPairs.mp hp
    have e1 : ledPair m (ledPair names p) = (min (at_ m (at_ names p.1)) (at_ m (at_ names p.2)), max (at_ m (at_ names p.1)) (at_ m (at_ names p.2))) := ledPair_lt
    have e2 : ledPair names (ledPair t p) = (min (at_ names (at_ t p.1)) (at_ names (at_ t p.2)), max (at_ names (at_ t p.1)) (at_ names (at_ t p.2))) := ledPair_lt
    rw [e1, e2, Z.eq p.1 (by omega), Z.eq p.2 h.2]
  have h' : G.AllEven (allPairs t.length) (ledPair t) := h
  show G.AllEven (allPairs m.length) (ledPair m)
  rw [even_rings (sysP Z.hm)]
  rw [even_rings (sysP Z.ht)] at h'
  have := L.filter fun n => decide (n % 2 = 1)
  rw [h'] at this
  exact this.eq_nil
def isTurnB (t : List Nat) : Bool := decide (1 ≤ t.length) && decide (t.length ≤ 9) && decide t.Nodup && t.all fun x => decide (x < t.length)
theorem isTurn_of {t : List Nat} (h : isTurnB t = true) : IsTurn t := by
  unfold isTurnB at h
  simp only [Bool.and_eq_true, decide_eq_true_eq, List.all_eq_true] at h
  exact ⟨h.1.1.1, h.1.1.2, h.1.2, fun x hx => h.2 x hx⟩
/-- the lengths of the law's turns that lead nets -/
def some3 : List (List Nat) := [[1], [4], [4, 1], [4], [4, 1], [8], [4, 4], [8, 1], [4, 4, 1]]
theorem plain_ok : ∀ ls ∈ some3, isTurnB (plainT ls) = true ∧ ((allPairs (plainT ls).length).all fun p => decide (pPer (plainT ls) p % 2 = 0)) = true := by decide +kernel
/-- each of those turns leads nets -/
theorem some3_even {names ls : List Nat} (hm : ls ∈ some3) (hn : IsTurn names) (hs : ls.sum = names.length) : AllEven (ringedM names ls) := by
  obtain ⟨a, b⟩ := plain_ok ls hm
  have hp : ∀ ls ∈ some3, ∀ l ∈ ls, 0 < l := by decide
  refine even_moved (plain_moved hn (hp ls hm) hs (isTurn_of a)) fun p hp => ?_
  exact of_decide_eq_true (List.all_eq_true.mp b p hp)
end RM
end

section
/-! A net to and fro, as a one-way net. -/
namespace RM
theorem sym_nodup {n : Nat} {S : List (Nat × Nat)} (hd : S.Nodup) (hm : ∀ p ∈ S, p ∈ allPairs n) : (symW S).Nodup := by
  unfold symW
  rw [List.nodup_append]
  refine ⟨hd, ?_, fun a ha b hb e => ?_⟩
  · rw [List.nodup_iff_pairwise_ne, List.pairwise_map]
    exact (List.nodup_iff_pairwise_ne.mp hd).imp fun {a b} h e => h (Prod.ext (congrArg Prod.snd e) (congrArg Prod.fst e))
  · obtain ⟨q, hq, rfl⟩ := List.mem_map.mp hb
    have h1 := (mem_allPairs.mp (hm _ ha)).1
    have h2 := (mem_allPairs.mp (hm _ hq)).1
    subst e
    simp only at h1
    omega
theorem sym_ways {n : Nat} {S : List (Nat × Nat)} (hm : ∀ p ∈ S, p ∈ allPairs n) : ∀ p ∈ symW S, p ∈ allWays n := fun p hp => by
  obtain ⟨x, y⟩ := p
  rcases mem_sym.mp hp with h | h
  · have := mem_allPairs.mp (hm _ h)
    simp only at this
    exact mem_ways.mpr ⟨by simp only; omega, by simp only; omega, by simp only; omega⟩
  · have := mem_allPairs.mp (hm _ h)
    simp only at this
    exact mem_ways.mpr ⟨by simp only; omega, by simp only; omega, by simp only; omega⟩
abbrev sortP (l : List (Nat × Nat)) : List (Nat × Nat) := l.mergeSort (le_ pLt)
/-- the ways left of a net to and fro are the pairs left, to and fro -/
theorem both_left {n : Nat} {S : List (Nat × Nat)} (hd : S.Nodup) (hm : ∀ p ∈ S, p ∈ allPairs n) : leftLot (allWays n) (sortP (symW S)) = sortP (symW (leftLot (allPairs n) S)) := by
  have hm2 : ∀ p ∈ leftLot (allPairs n) S, p ∈ allPairs n := fun p hp => (List.mem_filter.mp hp).1
  have hd2 : (leftLot (allPairs n) S).Nodup := (asc_nodup ordP (allPairs_asc n)).sublist List.filter_sublist
  have hasc : (leftLot (allWays n) (sortP (symW S))).Pairwise fun a b => pLt a b = true := (allWays_asc n).sublist List.filter_sublist
  refine (sort_is ordP ?_ hasc).symm
  refine (List.perm_ext_iff_of_nodup (asc_nodup ordP hasc) (sym_nodup hd2 hm2)).mpr fun p => ?_
  obtain ⟨x, y⟩ := p
  unfold leftLot
  rw [List.mem_filter]
  have e : (!decide ((x, y) ∈ sortP (symW S))) = true ↔ (x, y) ∉ symW S := by
    rw [Bool.not_eq_true', decide_eq_false_iff_not, List.mem_mergeSort]
  rw [e, mem_ways]
  constructor
  · rintro ⟨⟨h1, h2, h3⟩, h4⟩
    simp only at h1 h2 h3
    have h5 : x ≠ y := h3
    refine (sym_pair hm2 h5).mpr (List.mem_filter.mpr ⟨mkPair h1 h2 h5, ?_⟩)
    rw [Bool.not_eq_true', decide_eq_false_iff_not]
    exact fun z => h4 ((sym_pair hm h5).mpr z)
  · intro h
    have hw := mem_ways.mp (sym_ways hm2 _ h)
    refine ⟨hw, fun z => ?_⟩
    have h5 : x ≠ y := hw.2.2
    have a := (sym_pair hm2 h5).mp h
    have b := (sym_pair hm h5).mp z
    have := (List.mem_filter.mp a).2
    simp [b] at this
theorem comp_mem {S S' : List (Nat × Nat)} {t : List Nat} (h : ∀ p, p ∈ S ↔ p ∈ S') : Comp S t ↔ Comp S' t := by
  have e : ∀ x y, tbB S x y = tbB S' x y := fun x y => decide_eq_decide.mpr (h (x, y))
  unfold Comp
  constructor <;> rintro ⟨a, b⟩ <;> refine ⟨a, fun x y hx hy hne => ?_⟩
  · rw [← e, ← e]; exact b x y hx hy hne
  · rw [e, e]; exact b x y hx hy hne
theorem comp_both {S : List (Nat × Nat)} {t : List Nat} : Comp (sortP (symW S)) t ↔ Comp (symW S) t := comp_mem fun p => List.mem_mergeSort
end RM
end

section
/-! How many nets are restalike: what the program counts. -/
namespace RM
open DL (uniqN)
abbrev factN (n : Nat) : Nat := PySem.Builtin.Math.factorialNat n
def splitsM : Nat → Nat → Nat → List (List Nat)
  | 0, _, _ => [[]]
  | k + 1, n, l => if n = 0 then [[]] else (List.range (n + 1 - l)).flatMap fun j => (splitsM k (n - (l + j)) (l + j)).map fun o => (l + j) :: o
def dividedM (number halls : Nat) : List (List Nat) := if 1 < halls % number then [] else (splitsM 10 (halls / number) 1).map fun parts => List.replicate (halls % number) 1 ++ parts.map fun p => number * p
def byLens (ls : List Nat) (i : Nat) : Nat := (ls.take i).foldl (fun m l => m / l) (factN ls.sum)
def bySame (ls : List Nat) (i : Nat) : Nat := ((uniqN ls).take i).foldl (fun m l => m / factN (ls.countP fun z => decide (z = l))) (byLens ls ls.length)
def countTurnsM (ls : List Nat) : Nat := bySame ls (uniqN ls).length
def crossL (ls : List Nat) : List Nat := (List.range ls.length).flatMap fun i => (ls.take i).map fun o => Nat.gcd (ls.getD i 0) o
def crossM (ls : List Nat) : Nat := (crossL ls).sum
def withP (ls : List Nat) : Nat := (ls.map fun l => l / 2).sum
def withW (ls : List Nat) : Nat := (ls.map fun l => l - 1).sum
def ledP (halls i : Nat) : Nat := ((dividedM 4 halls).take i).foldl (fun a ls => a + countTurnsM ls * 2 ^ (withP ls + crossM ls)) 0
def ledWs (halls i : Nat) : Nat := ((dividedM 2 halls).take i).foldl (fun a ls => a + countTurnsM ls * 2 ^ (withW ls + 2 * crossM ls)) 0
def unlikeM (halls : Nat) : Nat := ledP halls (dividedM 4 halls).length / factN halls
def unlikeWM (halls : Nat) : Nat := ledWs halls (dividedM 2 halls).length / factN halls
def okLens (ls : List Nat) : Bool := decide (ls.length ≤ 40) && ls.all (fun l => decide (1 ≤ l) && decide (l ≤ 40)) && decide (ls.sum ≤ 40)
theorem splits_fuel : ∀ k n l m, n ≤ k → k ≤ m → 1 ≤ l → splitsM k n l = splitsM m n l
  | 0, n, l, m, h1, h2, hl => by
    have : n = 0 := by omega
    subst this
    cases m with
    | zero => rfl
    | succ m => rw [splitsM, splitsM, if_pos rfl]
  | k + 1, n, l, m, h1, h2, hl => by
    cases m with
    | zero => omega
    | succ m =>
      rw [splitsM, splitsM]
      by_cases h : n = 0
      · rw [if_pos h, if_pos h]
      · rw [if_neg h, if_neg h]
        have : ∀ j, (splitsM k (n - (l + j)) (l + j)).map (fun o => (l + j) :: o) = (splitsM m (n - (l + j)) (l + j)).map fun o => (l + j) :: o := fun j => by
          rw [splits_fuel k (n - (l + j)) (l + j) m (by omega) (by omega) (by omega)]
        exact congrArg (fun f => (List.range (n + 1 - l)).flatMap f) (funext this)
theorem splits_len : ∀ k n l o, o ∈ splitsM k n l → o.length ≤ k
  | 0, n, l, o, h => by
    rw [splitsM] at h
    have : o = [] := by simpa using h
    rw [this]; exact Nat.le_refl 0
  | k + 1, n, l, o, h => by
    rw [splitsM] at h
    by_cases hn : n = 0
    · rw [if_pos hn] at h
      have : o = [] := by simpa using h
      rw [this]; exact Nat.zero_le _
    · rw [if_neg hn] at h
      obtain ⟨j, _, hj⟩ := List.mem_flatMap.mp h
      obtain ⟨o', ho, rfl⟩ := List.mem_map.mp hj
      have := splits_len k _ _ o' ho
      rw [List.length_cons]; omega
theorem few_splits : ∀ n, n < 11 → ∀ l, l < 12 → 1 ≤ l → (splitsM 10 n l).length ≤ 1000 := by decide +kernel
theorem ok_pairs : ∀ h, h < 41 → (dividedM 4 h).all okLens = true ∧ (dividedM 4 h).length ≤ 1000 := by decide +kernel
theorem ok_ways : ∀ h, h < 22 → (dividedM 2 h).all okLens = true ∧ (dividedM 2 h).length ≤ 1000 := by decide +kernel
theorem fact_ok : ∀ n, n < 41 → 0 < factN n ∧ (factN n).log2 < 9000 := by decide +kernel
def bitsOk (m w : Nat) : Bool := decide (m.log2 < 9000) && decide (w ≤ 9000)
theorem bits_pairs : ∀ h, h < 41 → (dividedM 4 h).all (fun ls => bitsOk (countTurnsM ls) (withP ls + crossM ls)) = true := by decide +kernel
theorem bits_ways : ∀ h, h < 22 → (dividedM 2 h).all (fun ls => bitsOk (countTurnsM ls) (withW ls + 2 * crossM ls)) = true := by decide +kernel
/-- the numbers that are written in the laws -/
theorem known_pairs : (List.range 14).map unlikeM = [1, 1, 0, 0, 1, 2, 0, 0, 10, 36, 0, 0, 720, 5600] ∧ unlikeM 16 = 703760 ∧ unlikeM 17 = 11220000 ∧ unlikeM 20 = 9168331776 ∧ unlikeM 21 = 293293716992 ∧ 1 ≤ unlikeM 40 := by decide +kernel
theorem known_ways : (List.range 7).map unlikeWM = [1, 1, 1, 4, 10, 136, 720] := by decide +kernel
end RM
end

section
/-! A net that is led to its rest: three steps lead everywhere, one step doesn't. -/
namespace RM
/-- b stands within k steps of a -/
def Within (S : List (Nat × Nat)) : Nat → Nat → Nat → Prop
  | 0, a, b => a = b
  | k + 1, a, b => Within S k a b ∨ ∃ c, Within S k a c ∧ (c, b) ∈ symW S
theorem sym_comm {S : List (Nat × Nat)} {a b : Nat} : (a, b) ∈ symW S ↔ (b, a) ∈ symW S := by
  rw [mem_sym, mem_sym]
  exact Or.comm
theorem comp_adj {t : List Nat} {S : List (Nat × Nat)} (hc : Comp (symW S) t) {a b : Nat} (ha : a < t.length) (hb : b < t.length) (hab : a ≠ b) : (a, b) ∈ symW S ↔ (at_ t a, at_ t b) ∉ symW S := by
  have h : ¬ ((a, b) ∈ symW S ↔ (at_ t a, at_ t b) ∈ symW S) := fun z => hc.2 a b ha hb hab (decide_eq_decide.mpr z)
  by_cases x : (a, b) ∈ symW S <;> by_cases y : (at_ t a, at_ t b) ∈ symW S <;> simp [x, y] at h ⊢
/-- in a net that is led to its rest three steps lead from each hall to each -/
theorem rest_within {t : List Nat} (ht : IsTurn t) {S : List (Nat × Nat)} (hc : Comp (symW S) t) {x y : Nat} (hx : x < t.length) (hy : y < t.length) : Within S 3 x y := by
  apply Classical.byContradiction
  intro hno
  have w1 : ∀ {a b}, (a, b) ∈ symW S → Within S 1 a b := fun h => .inr ⟨_, rfl, h⟩
  have n0 : x ≠ y := fun e => hno (.inl (.inl (.inl e)))
  have n1 : (x, y) ∉ symW S := fun h => hno (.inl (.inl (w1 h)))
  have n2 : ∀ u, (x, u) ∈ symW S → (u, y) ∉ symW S := fun u h1 h2 => hno (.inl (.inr ⟨u, w1 h1, h2⟩))
  have n3 : ∀ u v, (x, u) ∈ symW S → (u, v) ∈ symW S → (v, y) ∉ symW S := fun u v h1 h2 h3 => hno (.inr ⟨v, .inr ⟨u, w1 h1, h2⟩, h3⟩)
  -- two steps of the rest lead from each hall to each
  have two : ∀ u v, u ≠ v → (u, v) ∉ symW S ∨ ∃ w, w < t.length ∧ w ≠ u ∧ w ≠ v ∧ (u, w) ∉ symW S ∧ (w, v) ∉ symW S := fun u v huv => by
    by_cases h : (u, v) ∈ symW S
    · refine .inr ?_
      by_cases ux : u = x
      · subst ux
        exact ⟨y, hy, n0.symm, fun e => n1 (by rw [e]; exact h), n1, fun z => n2 v h (sym_comm.mp z)⟩
      · by_cases uy : u = y
        · subst uy
          exact ⟨x, hx, n0, fun e => n1 (by rw [e]; exact sym_comm.mp h), fun z => n1 (sym_comm.mp z), fun z => n2 v z (sym_comm.mp h)⟩
        · by_cases vx : v = x
          · subst vx
            exact ⟨y, hy, fun e => uy e.symm, n0.symm, fun z => n2 u (sym_comm.mp h) z, fun z => n1 (sym_comm.mp z)⟩
          · by_cases vy : v = y
            · subst vy
              exact ⟨x, hx, fun e => ux e.symm, n0, fun z => n2 u (sym_comm.mp z) h, n1⟩
            · by_cases a : (x, u) ∈ symW S
              · refine ⟨y, hy, fun e => uy e.symm, fun e => vy e.symm, fun z => n2 u a z, fun z => n3 u v a h (sym_comm.mp z)⟩
              · by_cases b : (x, v) ∈ symW S
                · exact ⟨y, hy, fun e => uy e.symm, fun e => vy e.symm, fun z => n3 v u b (sym_comm.mp h) z, fun z => n2 v b (sym_comm.mp z)⟩
                · exact ⟨x, hx, fun e => ux e.symm, fun e => vx e.symm, fun z => a (sym_comm.mp z), b⟩
    · exact .inl h
  have hne : at_ t x ≠ at_ t y := fun e => n0 (at_inj ht x (List.mem_range.mpr hx) y (List.mem_range.mpr hy) e)
  rcases two _ _ hne with h | ⟨w, hw, a, b, c, d⟩
  · exact n1 ((comp_adj hc hx hy n0).mpr h)
  · obtain ⟨z, hz, rfl⟩ := onto ht hw
    have zx : x ≠ z := fun e => a (by rw [e])
    have zy : z ≠ y := fun e => b (by rw [e])
    exact n2 z ((comp_adj hc hx hz zx).mpr c) ((comp_adj hc hz hy zy).mpr d)
/-- with two halls and more, one step doesn't lead everywhere -/
theorem rest_not_one {t : List Nat} (ht : IsTurn t) {S : List (Nat × Nat)} (hc : Comp (symW S) t) (h2 : 2 ≤ t.length) : ∃ x y, x < t.length ∧ y < t.length ∧ x ≠ y ∧ (x, y) ∉ symW S := by
  by_cases h : (0, 1) ∈ symW S
  · have e := (comp_adj hc (show 0 < t.length by omega) (show 1 < t.length by omega) (by decide)).mp h
    exact ⟨at_ t 0, at_ t 1, at_lt ht (by omega), at_lt ht (by omega), fun z => by have := at_inj ht 0 (List.mem_range.mpr (by omega)) 1 (List.mem_range.mpr (by omega)) z; omega, e⟩
  · exact ⟨0, 1, by omega, by omega, by decide, h⟩
/-- steps, called otherwise -/
theorem within_led {names : List Nat} (hn : IsTurn names) {S : List (Nat × Nat)} (hm : ∀ p ∈ S, p ∈ allPairs names.length) : ∀ k {a b : Nat}, a < names.length → b < names.length → (Within (ledLot names S) k (at_ names a) (at_ names b) ↔ Within S k a b)
  | 0, a, b, ha, hb => ⟨fun e => at_inj hn a (List.mem_range.mpr ha) b (List.mem_range.mpr hb) e, fun e => congrArg (at_ names) e⟩
  | k + 1, a, b, ha, hb => by
    have hm2 : ∀ p ∈ ledLot names S, p ∈ allPairs names.length := fun p hp => by
      obtain ⟨q, hq, rfl⟩ := List.mem_map.mp (List.mem_mergeSort.mp hp)
      exact led_mem hn q (hm q hq)
    have lt : ∀ {S : List (Nat × Nat)} {c d : Nat}, (∀ p ∈ S, p ∈ allPairs names.length) → (c, d) ∈ symW S → c < names.length := fun hm h => (mem_ways.mp (sym_ways hm _ h)).1
    constructor
    · rintro (h | ⟨c, h1, h2⟩)
      · exact .inl ((within_led hn hm k ha hb).mp h)
      · obtain ⟨z, hz, rfl⟩ := onto hn (lt hm2 h2)
        exact .inr ⟨z, (within_led hn hm k ha hz).mp h1, (sym_led hn hm hz hb).mp h2⟩
    · rintro (h | ⟨c, h1, h2⟩)
      · exact .inl ((within_led hn hm k ha hb).mpr h)
      · have hz := lt hm h2
        exact .inr ⟨at_ names c, (within_led hn hm k ha hz).mpr h1, (sym_led hn hm hz hb).mpr h2⟩
/-- steps of the rest are steps of the net at the places to which the turn leads -/
theorem within_rest {t : List Nat} (ht : IsTurn t) {S : List (Nat × Nat)} (hm : ∀ p ∈ S, p ∈ allPairs t.length) (he : ledLot t S = leftLot (allPairs t.length) S) : ∀ k {a b : Nat}, a < t.length → b < t.length → (Within (leftLot (allPairs t.length) S) k (at_ t a) (at_ t b) ↔ Within S k a b) := fun k {a b} ha hb => by
  rw [← he]
  exact within_led ht hm k ha hb
end RM
end

section
/-! Distances and span of a net, as plain functions; they stay when halls are called otherwise. -/
namespace RM
def nearB (S : List (Nat × Nat)) (n : Nat) : Nat → Nat → Nat → Bool
  | 0, a, b => decide (a = b)
  | k + 1, a, b => nearB S n k a b || (List.range n).any fun c => nearB S n k a c && tbB (symW S) c b
theorem near_iff {S : List (Nat × Nat)} {n : Nat} (hm : ∀ p ∈ S, p ∈ allPairs n) : ∀ k {a b : Nat}, nearB S n k a b = true ↔ Within S k a b
  | 0, a, b => decide_eq_true_iff
  | k + 1, a, b => by
    rw [nearB, Bool.or_eq_true, List.any_eq_true, near_iff hm k]
    show _ ↔ Within S k a b ∨ ∃ c, Within S k a c ∧ (c, b) ∈ symW S
    constructor
    · rintro (h | ⟨c, _, h⟩)
      · exact .inl h
      · rw [Bool.and_eq_true, near_iff hm k] at h
        exact .inr ⟨c, h.1, of_decide_eq_true h.2⟩
    · rintro (h | ⟨c, h1, h2⟩)
      · exact .inl h
      · refine .inr ⟨c, List.mem_range.mpr (mem_ways.mp (sym_ways hm _ h2)).1, ?_⟩
        rw [Bool.and_eq_true, near_iff hm k]
        exact ⟨h1, decide_eq_true h2⟩
def distM (S : List (Nat × Nat)) (n a b : Nat) : Option Nat := (List.range n).find? fun k => nearB S n k a b
def allD (S : List (Nat × Nat)) (n : Nat) : List (Option Nat) := (List.range n).flatMap fun a => (List.range n).map fun b => distM S n a b
def spanOf (l : List (Option Nat)) : Option Nat := if none ∈ l then none else some ((l.filterMap id).foldl max 0)
def spanM (S : List (Nat × Nat)) (n : Nat) : Option Nat := spanOf (allD S n)
theorem span_perm {l m : List (Option Nat)} (h : l.Perm m) : spanOf l = spanOf m := by
  unfold spanOf
  by_cases c : none ∈ l
  · rw [if_pos c, if_pos (h.mem_iff.mp c)]
  · rw [if_neg c, if_neg fun z => c (h.mem_iff.mpr z)]
    congr 1
    exact (h.filterMap id).foldl_eq' (fun x _ y _ z => by omega) 0
theorem dist_led {names : List Nat} (hn : IsTurn names) {S : List (Nat × Nat)} (hm : ∀ p ∈ S, p ∈ allPairs names.length) {a b : Nat} (ha : a < names.length) (hb : b < names.length) : distM (ledLot names S) names.length (at_ names a) (at_ names b) = distM S names.length a b := by
  have hm2 : ∀ p ∈ ledLot names S, p ∈ allPairs names.length := fun p hp => by
    obtain ⟨q, hq, rfl⟩ := List.mem_map.mp (List.mem_mergeSort.mp hp)
    exact led_mem hn q (hm q hq)
  unfold distM
  congr 1
  funext k
  rw [Bool.eq_iff_iff, near_iff hm2 k, near_iff hm k]
  exact within_led hn hm k ha hb
theorem flat_perm {α β : Type} {f g : α → List β} : ∀ l : List α, (∀ a ∈ l, (f a).Perm (g a)) → (l.flatMap f).Perm (l.flatMap g)
  | [], _ => List.Perm.refl _
  | x :: l, h => by
    rw [List.flatMap_cons, List.flatMap_cons]
    exact (h x List.mem_cons_self).append (flat_perm l fun a ha => h a (List.mem_cons_of_mem _ ha))
theorem flat_congr {α β : Type} {f g : α → List β} {l : List α} (h : ∀ a ∈ l, f a = g a) : l.flatMap f = l.flatMap g := by
  rw [List.flatMap_def, List.flatMap_def, List.map_congr_left h]
theorem allD_led {names : List Nat} (hn : IsTurn names) {S : List (Nat × Nat)} (hm : ∀ p ∈ S, p ∈ allPairs names.length) : (allD (ledLot names S) names.length).Perm (allD S names.length) := by
  have P := perm_range hn.2.2.1 hn.2.2.2
  have e : names.flatMap (fun a => names.map fun b => distM (ledLot names S) names.length a b) = allD S names.length := by
    unfold allD
    have h1 : ∀ f : Nat → List (Option Nat), names.flatMap f = (List.range names.length).flatMap fun a => f (at_ names a) := fun f => by
      have := congrArg (fun l => l.flatMap f) (map_at_range names)
      simp only [List.flatMap_map] at this
      exact this.symm
    rw [h1]
    refine flat_congr fun a ha => ?_
    have h2 := congrArg (fun l => l.map fun b => distM (ledLot names S) names.length (at_ names a) b) (map_at_range names)
    simp only [List.map_map] at h2
    rw [← h2]
    exact List.map_congr_left fun b hb => dist_led hn hm (List.mem_range.mp ha) (List.mem_range.mp hb)
  rw [← e]
  unfold allD
  exact (P.symm.flatMap_right _).trans (flat_perm _ fun a _ => P.symm.map _)
theorem span_led {names : List Nat} (hn : IsTurn names) {S : List (Nat × Nat)} (hm : ∀ p ∈ S, p ∈ allPairs names.length) : spanM (ledLot names S) names.length = spanM S names.length := span_perm (allD_led hn hm)
/-- a net that is led to its rest has its rest's span -/
theorem span_rest {t : List Nat} (ht : IsTurn t) {S : List (Nat × Nat)} (hm : ∀ p ∈ S, p ∈ allPairs t.length) (he : ledLot t S = leftLot (allPairs t.length) S) : spanM (leftLot (allPairs t.length) S) t.length = spanM S t.length := by
  rw [← he]; exact span_led ht hm
theorem dist_self (S : List (Nat × Nat)) {n a : Nat} (h : 0 < n) : distM S n a a = some 0 := by
  obtain ⟨m, rfl⟩ : ∃ m, n = m + 1 := ⟨n - 1, by omega⟩
  unfold distM
  rw [List.range_succ_eq_map, List.find?_cons]
  have : nearB S (m + 1) 0 a a = true := decide_eq_true rfl
  rw [this]
theorem near_one {S : List (Nat × Nat)} {n a b : Nat} (hm : ∀ p ∈ S, p ∈ allPairs n) (hab : a ≠ b) : nearB S n 1 a b = true ↔ (a, b) ∈ symW S := by
  rw [near_iff hm 1]
  show (a = b ∨ ∃ c, a = c ∧ (c, b) ∈ symW S) ↔ _
  constructor
  · rintro (h | ⟨c, rfl, h⟩)
    · exact absurd h hab
    · exact h
  · intro h; exact .inr ⟨a, rfl, h⟩
theorem dist_one {S : List (Nat × Nat)} {n a b : Nat} (hm : ∀ p ∈ S, p ∈ allPairs n) : distM S n a b = some 1 ↔ (a, b) ∈ symW S := by
  have ways : (a, b) ∈ symW S → a < n ∧ b < n ∧ a ≠ b := fun h => mem_ways.mp (sym_ways hm _ h)
  unfold distM
  match n, hm, ways with
  | 0, hm, ways => exact ⟨fun h => by simp at h, fun h => by have := (ways h).1; omega⟩
  | 1, hm, ways =>
    constructor
    · intro h
      have := List.mem_of_find?_eq_some h
      have := List.mem_range.mp this
      omega
    · intro h; have := ways h; omega
  | n + 2, hm, ways =>
    rw [List.range_succ_eq_map, List.range_succ_eq_map, List.map_cons, List.find?_cons]
    by_cases hab : a = b
    · subst hab
      have e : nearB S (n + 2) 0 a a = true := decide_eq_true rfl
      rw [e]
      exact ⟨fun h => by simp at h, fun h => absurd rfl (ways h).2.2⟩
    · have e : nearB S (n + 2) 0 a b = false := decide_eq_false hab
      rw [e]
      show List.find? _ (Nat.succ 0 :: _) = _ ↔ _
      rw [List.find?_cons]
      show (match nearB S (n + 2) 1 a b with | true => some 1 | false => _) = _ ↔ _
      rw [← near_one hm hab]
      cases h1 : nearB S (n + 2) 1 a b with
      | true => simp
      | false =>
        refine ⟨fun h => ?_, fun h => by cases h⟩
        have := List.mem_of_find?_eq_some h
        simp at this
/-- a hall's distances of 1 are its pairs -/
theorem ones_deg {S : List (Nat × Nat)} {n : Nat} (hd : S.Nodup) (hm : ∀ p ∈ S, p ∈ allPairs n) (a : Nat) : ((List.range n).map fun b => distM S n a b).countP (fun z => decide (z = some 1)) = degM S a := by
  rw [deg_sym hd hm, List.countP_map]
  refine List.countP_congr fun b _ => ?_
  show decide (distM S n a b = some 1) = true ↔ tbB (symW S) a b = true
  unfold tbB
  rw [decide_eq_true_iff, decide_eq_true_iff, dist_one hm]
end RM
end

section
/-! The span of a net that is led to its rest: two or three. -/
namespace RM
theorem foldmax_le {m : Nat} : ∀ (l : List Nat) (a : Nat), a ≤ m → (∀ x ∈ l, x ≤ m) → l.foldl max a ≤ m
  | [], a, h, _ => h
  | y :: l, a, h, hl => by
    rw [List.foldl_cons]
    exact foldmax_le l _ (Nat.max_le.mpr ⟨h, hl y List.mem_cons_self⟩) fun x hx => hl x (List.mem_cons_of_mem _ hx)
theorem dist_le {S : List (Nat × Nat)} {n a b k : Nat} (hm : ∀ p ∈ S, p ∈ allPairs n) (hk : k < n) (h : Within S k a b) : ∃ d, distM S n a b = some d ∧ d ≤ k := by
  have hn := (near_iff hm k).mpr h
  unfold distM
  cases e : (List.range n).find? fun k => nearB S n k a b with
  | none =>
    have := List.find?_eq_none.mp e k (List.mem_range.mpr hk)
    exact absurd hn this
  | some d =>
    refine ⟨d, rfl, ?_⟩
    have h2 := (List.find?_range_eq_some.mp e).2.2
    apply Classical.byContradiction
    intro hlt
    have := h2 k (by omega)
    rw [hn] at this
    cases this
/-- with one hall the span is 0 -/
theorem span_one (S : List (Nat × Nat)) : spanM S 1 = some 0 := by
  have e : distM S 1 0 0 = some 0 := dist_self S (by decide)
  have : allD S 1 = [distM S 1 0 0] := rfl
  unfold spanM spanOf
  rw [this, e]
  simp
theorem rest_span {t : List Nat} (ht : IsTurn t) {S : List (Nat × Nat)} (hs : S.Sublist (allPairs t.length)) (he : ledLot t S = leftLot (allPairs t.length) S) (h2 : 2 ≤ t.length) : spanM S t.length = some 2 ∨ spanM S t.length = some 3 := by
  have hm : ∀ p ∈ S, p ∈ allPairs t.length := fun p hp => hs.subset hp
  have hc : Comp (symW S) t := (led_compP ht hs).mp he
  have h4 : 4 ≤ t.length := by
    have a := half_pairs hs he (asc_nodup ordP (allPairs_asc _))
    have b := pairs_count (n := t.length) ht.2.1
    generalize t.length = n at *
    apply Classical.byContradiction
    intro h
    have : n = 2 ∨ n = 3 := by omega
    rcases this with rfl | rfl
    · omega
    · omega
  have dd : ∀ a b, a < t.length → b < t.length → ∃ d, distM S t.length a b = some d ∧ d ≤ 3 := fun a b ha hb => dist_le hm (by omega) (rest_within ht hc ha hb)
  have hmem : ∀ z ∈ allD S t.length, ∃ d, z = some d ∧ d ≤ 3 := fun z hz => by
    unfold allD at hz
    obtain ⟨a, ha, hz⟩ := List.mem_flatMap.mp hz
    obtain ⟨b, hb, rfl⟩ := List.mem_map.mp hz
    obtain ⟨d, e, hd⟩ := dd a b (List.mem_range.mp ha) (List.mem_range.mp hb)
    exact ⟨d, e, hd⟩
  obtain ⟨x, y, hx, hy, hxy, hno⟩ := rest_not_one ht hc h2
  obtain ⟨d, ed, hd3⟩ := dd x y hx hy
  have hd2 : 2 ≤ d := by
    apply Classical.byContradiction
    intro h
    have hw : Within S d x y := by
      unfold distM at ed
      exact (near_iff hm d).mp (List.find?_range_eq_some.mp ed).1
    have : d = 0 ∨ d = 1 := by omega
    rcases this with rfl | rfl
    · exact hxy hw
    · exact hno ((near_one hm hxy).mp ((near_iff hm 1).mpr hw))
  have din : some d ∈ allD S t.length := by
    unfold allD
    exact List.mem_flatMap.mpr ⟨x, List.mem_range.mpr hx, List.mem_map.mpr ⟨y, List.mem_range.mpr hy, ed⟩⟩
  have nn : none ∉ allD S t.length := fun z => by
    obtain ⟨_, e, _⟩ := hmem _ z
    cases e
  have le3 : ((allD S t.length).filterMap id).foldl max 0 ≤ 3 := foldmax_le _ 0 (by omega) fun v hv => by
    obtain ⟨z, hz, e⟩ := List.mem_filterMap.mp hv
    obtain ⟨d', e', h'⟩ := hmem z hz
    rw [e'] at e
    cases e
    exact h'
  have ge2 : 2 ≤ ((allD S t.length).filterMap id).foldl max 0 := by
    have hv : d ∈ (allD S t.length).filterMap id := List.mem_filterMap.mpr ⟨some d, din, rfl⟩
    exact Nat.le_trans hd2 (DL.le_foldmax _ 0 d (.inr hv))
  unfold spanM spanOf
  rw [if_neg nn]
  generalize ((allD S t.length).filterMap id).foldl max 0 = m at *
  have : m = 2 ∨ m = 3 := by omega
  rcases this with rfl | rfl
  · exact .inl rfl
  · exact .inr rfl
end RM
end

section
/-! Where some steps lead, fewer steps than halls lead. -/
namespace RM
theorem within_more {S : List (Nat × Nat)} {a b : Nat} : ∀ {i j : Nat}, i ≤ j → Within S i a b → Within S j a b
  | i, 0, h, w => by
    have : i = 0 := by omega
    rw [this] at w; exact w
  | i, j + 1, h, w => by
    by_cases e : i = j + 1
    · rw [e] at w; exact w
    · exact .inl (within_more (by omega) w)
theorem within_self {S : List (Nat × Nat)} {a : Nat} (i : Nat) : Within S i a a := within_more (Nat.zero_le i) (show Within S 0 a a from rfl)
def Stable (S : List (Nat × Nat)) (a i : Nat) : Prop := ∀ b, Within S (i + 1) a b → Within S i a b
theorem stable_all {S : List (Nat × Nat)} {a i : Nat} (h : Stable S a i) : ∀ k b, Within S k a b → Within S i a b
  | 0, b, w => by
    have e : a = b := w
    rw [← e]; exact within_self i
  | k + 1, b, w => by
    rcases w with w | ⟨c, w, hcb⟩
    · exact stable_all h k b w
    · exact h b (.inr ⟨c, stable_all h k c w, hcb⟩)
theorem within_lt {S : List (Nat × Nat)} {n a b : Nat} (hm : ∀ p ∈ S, p ∈ allPairs n) (ha : a < n) : ∀ {k : Nat}, Within S k a b → b < n
  | 0, w => by
    have e : a = b := w
    rw [← e]; exact ha
  | k + 1, w => by
    rcases w with w | ⟨c, _, hcb⟩
    · exact within_lt hm ha w
    · exact (mem_ways.mp (sym_ways hm _ hcb)).2.1
/-- the halls within i steps -/
def ballM (S : List (Nat × Nat)) (n i a : Nat) : List Nat := (List.range n).filter fun b => nearB S n i a b
theorem mem_ball {S : List (Nat × Nat)} {n i a b : Nat} (hm : ∀ p ∈ S, p ∈ allPairs n) (ha : a < n) : b ∈ ballM S n i a ↔ Within S i a b := by
  unfold ballM
  rw [List.mem_filter, near_iff hm i, List.mem_range]
  exact ⟨fun h => h.2, fun h => ⟨within_lt hm ha h, h⟩⟩
theorem ball_nodup (S : List (Nat × Nat)) (n i a : Nat) : (ballM S n i a).Nodup := List.nodup_range.sublist List.filter_sublist
theorem ball_grows {S : List (Nat × Nat)} {n a : Nat} (hm : ∀ p ∈ S, p ∈ allPairs n) (ha : a < n) : ∀ j, (∃ i, i < j ∧ Stable S a i) ∨ j + 1 ≤ (ballM S n j a).length
  | 0 => .inr (by
    have : a ∈ ballM S n 0 a := (mem_ball hm ha).mpr (within_self 0)
    have := List.length_pos_of_mem this
    omega)
  | j + 1 => by
    rcases ball_grows hm ha j with ⟨i, hi, h⟩ | h
    · exact .inl ⟨i, by omega, h⟩
    · by_cases st : Stable S a j
      · exact .inl ⟨j, Nat.lt_succ_self j, st⟩
      · refine .inr ?_
        obtain ⟨b, hb⟩ := Classical.not_forall.mp st
        obtain ⟨h1, h2⟩ := Classical.not_imp.mp hb
        have nd : (b :: ballM S n j a).Nodup := List.nodup_cons.mpr ⟨fun z => h2 ((mem_ball hm ha).mp z), ball_nodup S n j a⟩
        have := nd.length_le_of_subset (l₂ := ballM S n (j + 1) a) fun x hx => by
          rcases List.mem_cons.mp hx with e | e
          · rw [e]; exact (mem_ball hm ha).mpr h1
          · exact (mem_ball hm ha).mpr (.inl ((mem_ball hm ha).mp e))
        rw [List.length_cons] at this
        omega
theorem within_few {S : List (Nat × Nat)} {n a b k : Nat} (hm : ∀ p ∈ S, p ∈ allPairs n) (ha : a < n) (h : Within S k a b) : ∃ i, i < n ∧ Within S i a b := by
  rcases ball_grows hm ha (n - 1) with ⟨i, hi, st⟩ | hl
  · exact ⟨i, by omega, stable_all st k b h⟩
  · refine ⟨n - 1, by omega, ?_⟩
    have sub : ∀ x ∈ ballM S n (n - 1) a, x ∈ List.range n := fun x hx => List.filter_sublist.subset hx
    have P : (ballM S n (n - 1) a).Perm (List.range n) := by
      have e : ballM S n (n - 1) a = List.range n := by
        have hs : (ballM S n (n - 1) a).Sublist (List.range n) := List.filter_sublist
        exact hs.eq_of_length (by
          have := hs.length_le
          rw [List.length_range] at this ⊢
          omega)
      rw [e]
    exact (mem_ball hm ha).mp (P.mem_iff.mpr (List.mem_range.mpr (within_lt hm ha h)))
/-- a distance is the least number of steps -/
theorem dist_iff {S : List (Nat × Nat)} {n a b d : Nat} (hm : ∀ p ∈ S, p ∈ allPairs n) (ha : a < n) : distM S n a b = some d ↔ Within S d a b ∧ ∀ k, k < d → ¬ Within S k a b := by
  unfold distM
  rw [List.find?_range_eq_some, near_iff hm d]
  constructor
  · rintro ⟨h1, _, h3⟩
    exact ⟨h1, fun k hk w => by
      have := h3 k hk
      rw [(near_iff hm k).mpr w] at this
      cases this⟩
  · rintro ⟨h1, h2⟩
    obtain ⟨i, hi, w⟩ := within_few hm ha h1
    refine ⟨h1, ?_, fun k hk => ?_⟩
    · apply List.mem_range.mpr
      apply Classical.byContradiction
      intro h
      exact h2 i (by omega) w
    · rw [Bool.not_eq_true']
      exact Bool.eq_false_iff.mpr fun z => h2 k hk ((near_iff hm k).mp z)
theorem dist_none {S : List (Nat × Nat)} {n a b : Nat} (hm : ∀ p ∈ S, p ∈ allPairs n) (ha : a < n) : distM S n a b = none ↔ ∀ k, ¬ Within S k a b := by
  unfold distM
  rw [List.find?_eq_none]
  constructor
  · intro h k w
    obtain ⟨i, hi, w'⟩ := within_few hm ha w
    exact h i (List.mem_range.mpr hi) ((near_iff hm i).mpr w')
  · intro h k _ z
    exact h k ((near_iff hm k).mp z)
end RM
end

section
/-! The search for distances, way by way, finds the least numbers of steps. -/
namespace RM
def bfsStep (far : Nat) (fd : List (Option Nat)) (p : Nat × Nat) : List (Option Nat) := if fd.getD p.1 none = some (far - 1) ∧ fd.getD p.2 none = none then fd.set p.2 (some far) else fd
def bfsPass (ways : List (Nat × Nat)) (far : Nat) (fd : List (Option Nat)) : List (Option Nat) := ways.foldl (bfsStep far) fd
def bfsM (n hall : Nat) (ways : List (Nat × Nat)) : List (Option Nat) := (List.range (n - 1)).foldl (fun fd i => bfsPass ways (1 + i) fd) ((List.replicate n none).set hall (some 0))
/-- distances up to i -/
def dA (S : List (Nat × Nat)) (n a i b : Nat) : Option Nat := (distM S n a b).filter fun d => decide (d ≤ i)
def midM (S : List (Nat × Nat)) (n a i : Nat) (l : List (Nat × Nat)) (b : Nat) : Option Nat := match dA S n a i b with
  | some d => some d
  | none => if (l.any fun p => decide (p.2 = b) && decide (dA S n a i p.1 = some i)) = true then some (i + 1) else none
theorem dA_some {S : List (Nat × Nat)} {n a i b d : Nat} : dA S n a i b = some d ↔ distM S n a b = some d ∧ d ≤ i := by
  unfold dA
  rw [Option.filter_eq_some_iff, decide_eq_true_iff]
theorem mid_is {S : List (Nat × Nat)} {n a i b : Nat} {l : List (Nat × Nat)} : midM S n a i l b = some i ↔ dA S n a i b = some i := by
  unfold midM
  cases h : dA S n a i b with
  | some d => exact Iff.rfl
  | none =>
    refine ⟨fun z => ?_, fun z => by cases z⟩
    dsimp only at z
    split at z
    · cases z
    · cases z
theorem map_set_range {α : Type} {n y : Nat} {f g : Nat → α} {v : α} (hy : y < n) (h1 : g y = v) (h2 : ∀ b, b < n → b ≠ y → g b = f b) : ((List.range n).map f).set y v = (List.range n).map g := by
  apply List.ext_getElem?
  intro j
  by_cases hj : j < n
  · by_cases e : j = y
    · subst e
      rw [List.getElem?_set_self (by simpa using hj), List.getElem?_map, List.getElem?_range hj]
      exact congrArg some h1.symm
    · rw [List.getElem?_set_ne (fun z => e z.symm), List.getElem?_map, List.getElem?_map, List.getElem?_range hj]
      exact congrArg some (h2 j hj e).symm
  · rw [List.getElem?_eq_none (by simpa using hj), List.getElem?_eq_none (by simpa using hj)]
theorem getD_range {n x : Nat} {f : Nat → Option Nat} (hx : x < n) : ((List.range n).map f).getD x none = f x := by
  rw [List.getD_eq_getElem?_getD, List.getElem?_map, List.getElem?_range hx]; rfl
theorem mid_step {S : List (Nat × Nat)} {n a i : Nat} {l : List (Nat × Nat)} {p : Nat × Nat} (h1 : p.1 < n) (h2 : p.2 < n) : bfsStep (i + 1) ((List.range n).map (midM S n a i l)) p = (List.range n).map (midM S n a i (l ++ [p])) := by
  have any_app : ∀ b, ((l ++ [p]).any fun p => decide (p.2 = b) && decide (dA S n a i p.1 = some i)) = ((l.any fun p => decide (p.2 = b) && decide (dA S n a i p.1 = some i)) || (decide (p.2 = b) && decide (dA S n a i p.1 = some i))) := fun b => by
    rw [List.any_append]; simp
  unfold bfsStep
  rw [getD_range h1, getD_range h2, Nat.add_sub_cancel]
  by_cases c1 : dA S n a i p.1 = some i
  · by_cases c2 : midM S n a i l p.2 = none
    · rw [if_pos ⟨mid_is.mpr c1, c2⟩]
      have c3 : dA S n a i p.2 = none := by
        unfold midM at c2
        cases h : dA S n a i p.2 with
        | none => rfl
        | some d => rw [h] at c2; cases c2
      refine map_set_range h2 ?_ fun b hb hne => ?_
      · unfold midM
        rw [c3]
        dsimp only
        rw [any_app, c1, decide_eq_true rfl, decide_eq_true rfl, Bool.and_true, Bool.or_true, if_pos rfl]
      · unfold midM
        cases dA S n a i b with
        | some d => rfl
        | none =>
          dsimp only
          rw [any_app, decide_eq_false (fun z => hne z.symm), Bool.false_and, Bool.or_false]
    · rw [if_neg fun z => c2 z.2]
      refine List.map_congr_left fun b _ => ?_
      unfold midM
      cases h : dA S n a i b with
      | some d => rfl
      | none =>
        dsimp only
        rw [any_app]
        by_cases e : p.2 = b
        · subst e
          have : (l.any fun q => decide (q.2 = p.2) && decide (dA S n a i q.1 = some i)) = true := by
            unfold midM at c2
            rw [h] at c2
            dsimp only at c2
            apply Classical.byContradiction
            intro z
            rw [if_neg z] at c2
            exact c2 rfl
          rw [this, Bool.true_or]
        · rw [decide_eq_false e, Bool.false_and, Bool.or_false]
  · rw [if_neg fun z => c1 (mid_is.mp z.1)]
    refine List.map_congr_left fun b _ => ?_
    unfold midM
    cases h : dA S n a i b with
    | some d => rfl
    | none =>
      dsimp only
      rw [any_app, decide_eq_false c1, Bool.and_false, Bool.or_false]
theorem mid_all {S : List (Nat × Nat)} {n a i : Nat} : ∀ {r l : List (Nat × Nat)}, (∀ p ∈ r, p.1 < n ∧ p.2 < n) → r.foldl (bfsStep (i + 1)) ((List.range n).map (midM S n a i l)) = (List.range n).map (midM S n a i (l ++ r))
  | [], l, _ => by rw [List.append_nil]; rfl
  | p :: r, l, h => by
    rw [List.foldl_cons, mid_step (h p List.mem_cons_self).1 (h p List.mem_cons_self).2, mid_all fun q hq => h q (List.mem_cons_of_mem _ hq), List.append_assoc]; rfl
theorem mid_end {S : List (Nat × Nat)} {n a i b : Nat} (hm : ∀ p ∈ S, p ∈ allPairs n) (ha : a < n) : midM S n a i (symW S) b = dA S n a (i + 1) b := by
  unfold midM
  cases h : dA S n a i b with
  | some d =>
    have := dA_some.mp h
    exact (dA_some.mpr ⟨this.1, by omega⟩).symm
  | none =>
    dsimp only
    have far : ∀ k, k ≤ i → ¬ Within S k a b := fun k hk w => by
      obtain ⟨d, e, hd⟩ : ∃ d, distM S n a b = some d ∧ d ≤ k := by
        cases e : distM S n a b with
        | none => exact absurd w ((dist_none hm ha).mp e k)
        | some d =>
          refine ⟨d, rfl, ?_⟩
          apply Classical.byContradiction
          intro hlt
          exact ((dist_iff hm ha).mp e).2 k (by omega) w
      have := dA_some.mpr ⟨e, (by omega : d ≤ i)⟩
      rw [h] at this; cases this
    by_cases c : ((symW S).any fun p => decide (p.2 = b) && decide (dA S n a i p.1 = some i)) = true
    · rw [if_pos c]
      obtain ⟨p, hp, hq⟩ := List.any_eq_true.mp c
      rw [Bool.and_eq_true, decide_eq_true_iff, decide_eq_true_iff] at hq
      obtain ⟨x, y⟩ := p
      obtain ⟨e, hx⟩ := hq
      have e : y = b := e
      subst e
      have w := ((dist_iff hm ha).mp (dA_some.mp hx).1).1
      have e : distM S n a y = some (i + 1) := (dist_iff (d := i + 1) (b := y) hm ha).mpr ⟨Or.inr ⟨x, w, hp⟩, fun k hk => far k (by omega)⟩
      exact (dA_some.mpr ⟨e, Nat.le_refl _⟩).symm
    · rw [if_neg c]
      cases e : dA S n a (i + 1) b with
      | none => rfl
      | some d =>
        exfalso
        obtain ⟨e1, e2⟩ := dA_some.mp e
        obtain ⟨w, wl⟩ := (dist_iff hm ha).mp e1
        have hd : d = i + 1 := by
          apply Classical.byContradiction
          intro z
          exact far d (by omega) w
        subst hd
        rcases w with w | ⟨x, w, hxb⟩
        · exact far i (Nat.le_refl _) w
        · refine c (List.any_eq_true.mpr ⟨(x, b), hxb, ?_⟩)
          rw [Bool.and_eq_true, decide_eq_true_iff, decide_eq_true_iff]
          have e3 : distM S n a x = some i := (dist_iff (d := i) (b := x) hm ha).mpr ⟨w, fun k hk wk => far (k + 1) (by omega) (Or.inr ⟨x, wk, hxb⟩)⟩
          exact ⟨rfl, dA_some.mpr ⟨e3, Nat.le_refl _⟩⟩
theorem dA_zero {S : List (Nat × Nat)} {n a : Nat} (hm : ∀ p ∈ S, p ∈ allPairs n) (ha : a < n) : (List.replicate n none).set a (some 0) = (List.range n).map (dA S n a 0) := by
  have e : List.replicate n (none : Option Nat) = (List.range n).map fun _ => none := by rw [List.map_const', List.length_range]
  rw [e]
  refine map_set_range ha (dA_some.mpr ⟨dist_self S (by omega), Nat.le_refl _⟩) fun b hb hne => ?_
  cases h : dA S n a 0 b with
  | none => rfl
  | some d =>
    obtain ⟨e1, e2⟩ := dA_some.mp h
    have : d = 0 := by omega
    subst this
    have w : a = b := ((dist_iff hm ha).mp e1).1
    exact absurd w.symm hne
theorem bfs_dist {S : List (Nat × Nat)} {n a : Nat} (hm : ∀ p ∈ S, p ∈ allPairs n) (ha : a < n) : bfsM n a (symW S) = (List.range n).map (distM S n a) := by
  have hw : ∀ p ∈ symW S, p.1 < n ∧ p.2 < n := fun p hp => by
    have := mem_ways.mp (sym_ways hm _ hp)
    exact ⟨this.1, this.2.1⟩
  have step : ∀ i, bfsPass (symW S) (1 + i) ((List.range n).map (dA S n a i)) = (List.range n).map (dA S n a (i + 1)) := fun i => by
    have e : (List.range n).map (dA S n a i) = (List.range n).map (midM S n a i []) := List.map_congr_left fun b _ => by
      unfold midM
      cases dA S n a i b <;> simp
    unfold bfsPass
    rw [e, Nat.add_comm 1 i, mid_all hw, List.nil_append]
    exact List.map_congr_left fun b _ => mid_end hm ha
  have all : ∀ m, (List.range m).foldl (fun fd i => bfsPass (symW S) (1 + i) fd) ((List.range n).map (dA S n a 0)) = (List.range n).map (dA S n a m) := fun m => by
    induction m with
    | zero => rfl
    | succ m ih => rw [List.range_succ, List.foldl_append, ih]; exact step m
  unfold bfsM
  rw [dA_zero hm ha, all]
  refine List.map_congr_left fun b _ => ?_
  cases h : distM S n a b with
  | none =>
    cases e : dA S n a (n - 1) b with
    | none => rfl
    | some d => have := (dA_some.mp e).1; rw [h] at this; cases this
  | some d =>
    refine dA_some.mpr ⟨h, ?_⟩
    unfold distM at h
    have := List.mem_range.mp (List.mem_of_find?_eq_some h)
    omega
end RM
end

section
/-! What a net that is led to its rest hands on: to its rest, to other turns. -/
namespace RM
theorem left_mem {E S : List (Nat × Nat)} {x : Nat × Nat} : x ∈ leftLot E S ↔ x ∈ E ∧ x ∉ S := by
  unfold leftLot
  rw [List.mem_filter]
  by_cases h : x ∈ S <;> simp [h]
theorem comp_left {u : List Nat} {S : List (Nat × Nat)} (hu : IsTurn u) (hm : ∀ p ∈ S, p ∈ allPairs u.length) (hc : Comp (symW S) u) : Comp (symW (leftLot (allPairs u.length) S)) u := by
  have ha := (comp_pairs hu hm).mpr hc
  refine (comp_pairs hu fun p hp => (left_mem.mp hp).1).mp fun p hp => ?_
  have h1 := ha p hp
  have h2 := led_mem hu p hp
  rw [left_mem, left_mem]
  constructor
  · rintro ⟨_, a⟩ ⟨_, b⟩
    exact a (h1.mpr b)
  · intro h
    refine ⟨hp, fun a => h ⟨h2, h1.mp a⟩⟩
theorem comp_even {u : List Nat} {S : List (Nat × Nat)} (hu : IsTurn u) (hm : ∀ p ∈ S, p ∈ allPairs u.length) (hc : Comp (symW S) u) : AllEven u := fun p hp => alt_even hu ((comp_pairs hu hm).mpr hc) hp
theorem one_led {t : List Nat} (ht : IsTurn t) (he : AllEven t) : (ledNetM t).Sublist (allPairs t.length) ∧ ledLot t (ledNetM t) = leftLot (allPairs t.length) (ledNetM t) := by
  have := one_is ht he
  unfold dueM at this
  obtain ⟨a, b⟩ := List.mem_filter.mp this
  exact ⟨mem_lots.mp a, of_decide_eq_true b⟩
theorem find_is {n : Nat} {W : List (Nat × Nat)} {t : List Nat} (ht : IsTurn t) (hl : t.length = n) (hc : Comp W t) : ∃ u, findM W n = some u ∧ IsTurn u ∧ u.length = n ∧ Comp W u := by
  cases h : findM W n with
  | none => exact absurd hc (find_none h hl fun x hx => by rw [← hl]; exact ht.2.2.2 x hx)
  | some u =>
    have a := find_turn (by rw [← hl]; exact ht.1) (by rw [← hl]; exact ht.2.1) h
    exact ⟨u, rfl, a.1, a.2, (find_some h).2.1⟩
end RM
end

section
namespace DL
open PySem PySem.Spec PyProof.Rows L2 RM
section
variable {P : Program} {w : World} {K : PySem.W.Frag} {mg : Str → Option Value} {base : Heap}
theorem ok_optP2 {n : Nat} {S : List (Nat × Nat)} : ValOk (optD (findP n S)) := by
  cases findP n S with
  | none => exact .inl (shaped_of (by simp [optD, PyData.canLay0]) (by simp [optD, PyData.depth]))
  | some u => exact .inl (sh_tn u)
theorem leadsM_comp2 {t : List Nat} (ht : IsTurn t) {S : List (Nat × Nat)} (hm : ∀ p ∈ S, p ∈ allPairs t.length) : leadsM t S = true ↔ Comp (symW S) t := by
  rw [← comp_pairs ht hm]
  unfold leadsM
  rw [List.all_eq_true]
  show (∀ p ∈ allPairs t.length, _) ↔ ∀ p ∈ allPairs t.length, (p ∈ S ↔ ledPair t p ∉ S)
  constructor
  · intro h p hp
    have := h p hp
    by_cases a : p ∈ S <;> by_cases b : ledPair t p ∈ S <;> simp [a, b] at this ⊢
  · intro h p hp
    have := h p hp
    by_cases a : p ∈ S <;> by_cases b : ledPair t p ∈ S <;> simp [a, b] at this ⊢
theorem leadsW_comp {t : List Nat} (ht : IsTurn t) {W : List (Nat × Nat)} : G.leadsE (allWays t.length) (ledWay t) W = true ↔ Comp W t := leads_comp ht W
end
end DL
end

section
namespace DL
open PySem PySem.Spec PyProof.Rows L2 RM
abbrev s_distances_from : Stmt := topS 15
abbrev N_distances_from : List Str := ["hall", "halls", "ways", "found", "far", "x", "y"]
theorem sc_distances_from : FnScope N_distances_from ["hall", "halls", "ways"] (defScope s_distances_from) := ⟨rfl, rfl, rfl, by decide +kernel, rfl, by decide +kernel, by decide +kernel⟩
abbrev s_distances : Stmt := topS 16
abbrev N_distances : List Str := ["net", "halls", "pairs", "ways", "hall"]
theorem sc_distances : FnScope N_distances ["net"] (defScope s_distances) := ⟨rfl, rfl, rfl, by decide +kernel, rfl, by decide +kernel, by decide +kernel⟩
abbrev s_span : Stmt := topS 17
abbrev N_span : List Str := ["net", "found", "row", "far"]
theorem sc_span : FnScope N_span ["net"] (defScope s_span) := ⟨rfl, rfl, rfl, by decide +kernel, rfl, by decide +kernel, by decide +kernel⟩
def optN : Option Nat → PyData
  | none => .none
  | some k => iN k
theorem alAll2 {α : Type} {enc : α → PyData} (h : ∀ a b, PySem.W.alike (enc a) (enc b) = true) (hn : ∀ a, enc a ≠ .none) (xs : List α) : PySem.W.AlikeAll (xs.map enc) := ⟨fun a ha b hb => by
  obtain ⟨x, _, rfl⟩ := List.mem_map.mp ha
  obtain ⟨y, _, rfl⟩ := List.mem_map.mp hb
  exact h x y, fun a ha => by
  obtain ⟨x, _, rfl⟩ := List.mem_map.mp ha
  exact hn x⟩
theorem flatSq2 (n : Nat) (h : n ≤ 9) : ((List.range n).flatMap fun _ => List.range n).length ≤ 81 := by
  have : ∀ n, n < 10 → ((List.range n).flatMap fun _ => List.range n).length ≤ 81 := by decide +kernel
  exact this n (by omega)
theorem ix_nat2 {n j : Nat} (hj : j < n) : ixN n (j : Int) = some j := by
  unfold ixN
  rw [if_pos (by omega), if_pos (by omega), Int.toNat_natCast]
theorem optN_lay (o : Option Nat) : (optN o).canLay0 = true := by cases o <;> simp [optN, iN, PyData.canLay0]
theorem optN_dep (o : Option Nat) : (optN o).depth ≤ 1 := by cases o <;> simp [optN, iN, PyData.depth]
theorem sh_optN (o : Option Nat) : SeqAt.shaped (optN o) = true := shaped_of (optN_lay o) (Nat.le_trans (optN_dep o) (by decide))
theorem optN_eqv (a b : Option Nat) : PyData.eqv (optN a) (optN b) = decide (a = b) := by
  cases a with
  | none =>
    cases b with
    | none => rfl
    | some b => rfl
  | some a =>
    cases b with
    | none => rfl
    | some b =>
      show PyData.eqv (iN a) (iN b) = _
      rw [iN_eqv]
      by_cases h : a = b
      · subst h; rw [decide_eq_true rfl, decide_eq_true rfl]
      · rw [decide_eq_false h, decide_eq_false fun z => h (Option.some.inj z)]
theorem isNo_optN (a : Option Nat) : isNo (optN a) = a.isNone := by cases a <;> rfl
abbrev dN (l : List (Option Nat)) : PyData := .tuple (l.map optN)
theorem dN_lay (l : List (Option Nat)) : (dN l).canLay0 = true := lay_tup optN_lay
theorem dN_dep (l : List (Option Nat)) : (dN l).depth ≤ 2 := dep_tup optN_dep
section
variable {P : Program} {w : World} {K : PySem.W.Frag} {mg : Str → Option Value} {base : Heap}
theorem bfsStep_len (far : Nat) (fd : List (Option Nat)) (p : Nat × Nat) : (bfsStep far fd p).length = fd.length := by
  unfold bfsStep
  split
  · rw [List.length_set]
  · rfl
theorem bfsFold_len (far : Nat) : ∀ (W : List (Nat × Nat)) (fd : List (Option Nat)), (W.foldl (bfsStep far) fd).length = fd.length
  | [], _ => rfl
  | p :: W, fd => by rw [List.foldl_cons, bfsFold_len far W, bfsStep_len]
def bfsAt (n a : Nat) (W : List (Nat × Nat)) (i : Nat) : List (Option Nat) := (List.range i).foldl (fun fd i => bfsPass W (1 + i) fd) ((List.replicate n none).set a (some 0))
theorem bfsAt_succ (n a : Nat) (W : List (Nat × Nat)) (i : Nat) : bfsAt n a W (i + 1) = bfsPass W (1 + i) (bfsAt n a W i) := by
  unfold bfsAt
  rw [List.range_succ, List.foldl_append]; rfl
theorem bfsAt_len (n a : Nat) (W : List (Nat × Nat)) : ∀ i, (bfsAt n a W i).length = n
  | 0 => by unfold bfsAt; simp
  | i + 1 => by
    rw [bfsAt_succ]
    unfold bfsPass
    rw [bfsFold_len, bfsAt_len n a W i]
theorem atI_opt {l : List (Option Nat)} {x : Nat} (hx : x < l.length) : atI (l.map optN) (x : Int) = some (optN (l.getD x none)) := atI_map (by
  rw [List.getD_eq_getElem?_getD, List.getElem?_eq_getElem hx]; rfl)
def R_dfrom (ds : List PyData) (d : PyData) : Prop := ∃ (n a : Nat) (W : List (Nat × Nat)), n ≤ 9 ∧ a < n ∧ (∀ p ∈ W, p.1 < n ∧ p.2 < n) ∧ ds = [iN a, iN n, rN W] ∧ d = dN (bfsM n a W)
theorem ok_dfrom (T : Tx mg) (F : Fn K mg "distances_from" s_distances_from ["hall", "halls", "ways"]) : Ca P w K mg base 1 "distances_from" ["hall", "halls", "ways"] (spD K R_dfrom) := by
  have S := sc_distances_from
  refine ca_Er F S (fun ds d ⟨_, _, _, _, _, _, e, _⟩ => by rw [e]; rfl) fun f cdv A outer s H E ds d hr ⟨n, a, W, h9, ha, hW, e1, e2⟩ => ?_
  subst e1 e2
  let X := (cxOf CX0 P w K mg base N_distances_from "distances_from" (defScope s_distances_from) f cdv A outer s H E).nox
  let Γ0 : Gm := slots0 N_distances_from [iN a, iN n, rN W]
  have hrep : (List.replicate n [PyData.none]).flatten = (List.replicate n (none : Option Nat)).map optN := by
    rw [List.map_replicate]
    show (List.replicate n [PyData.none]).flatten = List.replicate n PyData.none
    generalize n = m
    induction m with
    | zero => rfl
    | succ m ih => rw [List.replicate_succ, List.flatten_cons, ih, List.replicate_succ]; rfl
  refine er_cons (Γ1 := Γ0.set 3 (some (.ow ((List.replicate n (none : Option Nat)).map optN)))) (by rw [← hrep]; exact es_own 3 S.nd (en_rep (ds := [.none]) (n := n) (ee_new (en_lst (ea_cons ee_non ea_nil))) (ee_var 1) (by show 1 * n ≤ _; omega) (by omega))) ?_
  let G : Nat → Gm := fun i => Γ0.set 3 (some (.ow ((bfsAt n a W i).map optN)))
  have e0 : G 0 = (Γ0.set 3 (some (.ow ((List.replicate n (none : Option Nat)).map optN)))).set 3 (some (.ow (((List.replicate n (none : Option Nat)).map optN).set a (iN 0)))) := by
    show Γ0.set 3 (some (.ow (((List.replicate n none).set a (some 0)).map optN))) = _
    rw [List.map_set, List.set_set]; rfl
  refine er_cons (Γ1 := G 0) (by rw [e0]; exact es_setIx (j := a) (i := (a : Nat)) (d := iN 0) (s := .ow ((List.replicate n (none : Option Nat)).map optN)) (s1 := .ow ((List.replicate n (none : Option Nat)).map optN)) (pe_nm 3) ee_int rfl rfl (ee_var 0) rfl rfl (ix_nat2 (by show a < ((List.replicate n (none : Option Nat)).map optN).length; rw [List.length_map, List.length_replicate]; exact ha))) ?_
  refine er_cons (Γ1 := G (n - 1)) (es_for (is := [4]) G (fun i => (G i).set 4 (some (.im (iN (1 + i))))) (fun i => .nx (G (i + 1))) (n - 1) PassesOwn.never rfl (ei_is (ei_range2 T.range (ea_cons ee_int (ea_cons (ee_var 1) ea_nil)) (by omega)) (rngD_from 1 n)) (by rw [List.length_map, List.length_range]; exact Nat.le_refl _) (fun i d hd _ => ?_) (fun i hi => ⟨?_, .inl rfl⟩) (.inl ⟨by rw [List.length_map, List.length_range], rfl⟩)) ?_
  · rw [List.getElem?_map] at hd
    cases hx : (List.range (n - 1))[i]? with
    | none => rw [hx] at hd; cases hd
    | some j =>
      rw [hx] at hd
      cases hd
      obtain ⟨hj, e⟩ := List.getElem?_eq_some_iff.mp hx
      rw [List.getElem_range] at e
      subst e
      exact eg_name 4 S.nd
  · let fd := bfsAt n a W i
    let L : Nat → List (Option Nat) := fun j => (W.take j).foldl (bfsStep (1 + i)) fd
    have hL : ∀ j, (L j).length = n := fun j => by
      show ((W.take j).foldl (bfsStep (1 + i)) fd).length = n
      rw [bfsFold_len]; exact bfsAt_len n a W i
    have hstep : ∀ j (hj : j < W.length), L (j + 1) = bfsStep (1 + i) (L j) W[j] := fun j hj => by
      show (W.take (j + 1)).foldl _ fd = _
      rw [List.take_add_one, List.getElem?_eq_getElem hj, List.foldl_append]; rfl
    let G2 : Nat → Gm := fun j => (Γ0.set 3 (some (.ow ((L j).map optN)))).set 4 (some (.im (iN (1 + i))))
    let G3 : Nat → Gm := fun j => ((G2 j).set 5 (some (.im (iN (W.getD j (0, 0)).1)))).set 6 (some (.im (iN (W.getD j (0, 0)).2)))
    have gW : ∀ j (hj : j < W.length), W.getD j (0, 0) = W[j] := fun j hj => by rw [List.getD_eq_getElem?_getD, List.getElem?_eq_getElem hj]; rfl
    have eEnd : G (i + 1) = Γ0.set 3 (some (.ow ((L W.length).map optN))) := by
      show Γ0.set 3 (some (.ow ((bfsAt n a W (i + 1)).map optN))) = _
      rw [bfsAt_succ]
      show _ = Γ0.set 3 (some (.ow (((W.take W.length).foldl (bfsStep (1 + i)) fd).map optN)))
      rw [List.take_length]; rfl
    rw [eEnd]
    refine ess_wk (Γ1 := G2 W.length) (ess_one (es_for (is := [5, 6]) G2 G3 (fun j => .nx (G2 (j + 1))) W.length PassesOwn.never rfl (ei_tup (ee_var 2)) (by rw [List.length_map]; exact Nat.le_refl _) (fun j d hd _ => ?_) (fun j hj => ⟨?_, .inl rfl⟩) (.inl ⟨by rw [List.length_map], rfl⟩))) (less_set rfl)
    · rw [List.getElem?_map] at hd
      cases hx : W[j]? with
      | none => rw [hx] at hd; cases hd
      | some p =>
        rw [hx] at hd
        cases hd
        have e : W.getD j (0, 0) = p := by rw [List.getD_eq_getElem?_getD, hx]; rfl
        show Eg _ (G2 j) _ _ _ (((G2 j).set 5 (some (.im (iN (W.getD j (0, 0)).1)))).set 6 (some (.im (iN (W.getD j (0, 0)).2))))
        rw [e]
        exact eg_tup2 rfl (eg_name 5 S.nd) (eg_name 6 S.nd)
    · have hp := hW _ (List.getElem_mem hj)
      show Ess _ (((G2 j).set 5 (some (.im (iN (W.getD j (0, 0)).1)))).set 6 (some (.im (iN (W.getD j (0, 0)).2)))) _ (.nx ((Γ0.set 3 (some (.ow ((L (j + 1)).map optN)))).set 4 (some (.im (iN (1 + i))))))
      rw [gW j hj, hstep j hj]
      generalize W[j] = p at *
      obtain ⟨x, y⟩ := p
      obtain ⟨hx, hy⟩ := hp
      have lj := hL j
      show Ess _ ((((Γ0.set 3 (some (.ow ((L j).map optN)))).set 4 (some (.im (iN (1 + i))))).set 5 (some (.im (iN x)))).set 6 (some (.im (iN y)))) _ _
      generalize L j = M at *
      let Γ6 : Gm := (((Γ0.set 3 (some (.ow (M.map optN)))).set 4 (some (.im (iN (1 + i))))).set 5 (some (.im (iN x)))).set 6 (some (.im (iN y)))
      let cnd : Bool := decide (M.getD x none = some i) && decide (M.getD y none = none)
      have hc : Et X Γ6 (match stAt (forBody (stAt (forBody (stAt (defBody s_distances_from) 2)) 0)) 0 with | .If c _ _ _ => c | _ => .Constant .none 0 ⟨0, 0, 0, 0⟩) cnd Γ6 :=
        et_w (ew_and (et_is (et_eqD hr (ee_ownIx (s := .ow (M.map optN)) (d := optN (M.getD x none)) (i := (x : Nat)) (ee_var 5) rfl rfl rfl (atI_opt (by omega)) (pe_nm 3) (has_slot (K := K) (n := 3) (s := .ow (M.map optN)) rfl)) (ee_is (d2 := optN (some i)) (ee_sub (ee_var 4) ee_int) ?sb) (sh_optN _) (sh_optN _)) (optN_eqv _ _)) fun _ => (ew_and1 (et_is (et_isN (ee_ownIx (s := .ow (M.map optN)) (d := optN (M.getD y none)) (i := (y : Nat)) (ee_var 6) rfl rfl rfl (atI_opt (by omega)) (pe_nm 3) (has_slot (K := K) (n := 3) (s := .ow (M.map optN)) rfl)) ee_non) ?nn)))
      case sb =>
        show PyData.int (((1 + i : Nat) : Int) - 1) = PyData.int (i : Int)
        congr 1; omega
      case nn =>
        rw [isNo_optN]
        cases M.getD y none <;> rfl
      refine ess_wk (Γ1 := (((Γ0.set 3 (some (.ow ((bfsStep (1 + i) M (x, y)).map optN)))).set 4 (some (.im (iN (1 + i))))).set 5 (some (.im (iN x)))).set 6 (some (.im (iN y)))) ?_ (less_set2 rfl)
      cases hb : cnd with
      | true =>
        have hb' : decide (M.getD x none = some i) = true ∧ decide (M.getD y none = none) = true := Bool.and_eq_true_iff.mp hb
        have eb : bfsStep (1 + i) M (x, y) = M.set y (some (1 + i)) := by
          unfold bfsStep
          rw [if_pos ⟨by rw [show 1 + i - 1 = i by omega]; exact of_decide_eq_true hb'.1, of_decide_eq_true hb'.2⟩]
        rw [eb]
        have es : (((Γ0.set 3 (some (.ow ((M.set y (some (1 + i))).map optN)))).set 4 (some (.im (iN (1 + i))))).set 5 (some (.im (iN x)))).set 6 (some (.im (iN y))) = Γ6.set 3 (some (reSlot ((slotDs (.ow (M.map optN))).set y (iN (1 + i))) (.ow (M.map optN)))) := by
          rw [List.map_set]; rfl
        rw [es]
        exact ess_one (es_ifT (et_is hc hb) (ess_one (es_setIx (j := y) (i := (y : Nat)) (d := iN (1 + i)) (s := .ow (M.map optN)) (s1 := .ow (M.map optN)) (pe_nm 3) (ee_var 4) rfl rfl (ee_var 6) rfl rfl (ix_nat2 (by show y < (M.map optN).length; rw [List.length_map]; omega)))))
      | false =>
        have eb : bfsStep (1 + i) M (x, y) = M := by
          unfold bfsStep
          rw [if_neg]
          rintro ⟨a1, a2⟩
          rw [show 1 + i - 1 = i by omega] at a1
          have : cnd = true := Bool.and_eq_true_iff.mpr ⟨decide_eq_true a1, decide_eq_true a2⟩
          rw [hb] at this; cases this
        rw [eb]
        exact ess_one (es_ifF (et_is hc hb) ess_nil)
  · refine er_freeze 3 rfl ?_
    exact er_ret (ee_tupL T.tuple (ea_cons (ee_var 3) ea_nil))
def R_distances (ds : List PyData) (d : PyData) : Prop := ∃ n S, 1 ≤ n ∧ n ≤ 9 ∧ IsNet n S ∧ ds = [nN n S] ∧ d = .tuple ((List.range n).map fun a => dN ((List.range n).map (distM S n a)))
theorem IsNet.mem {n : Nat} {S : List (Nat × Nat)} (h : IsNet n S) : ∀ p ∈ S, p ∈ allPairs n := h.2
theorem ok_distances (T : Tx mg) (F : Fn K mg "distances" s_distances ["net"]) (C1 : Ca P w K mg base 6 "check_net" ["value"] (spD K R_check_net)) (C2 : Ca P w K mg base 1 "both_ways" ["pairs"] (spD K R_both)) (C3 : Ca P w K mg base 1 "distances_from" ["hall", "halls", "ways"] (spD K R_dfrom)) : Ca P w K mg base 7 "distances" ["net"] (spD K R_distances) := by
  have S := sc_distances
  refine ca_Er F S (fun ds d ⟨_, _, _, _, _, e, _⟩ => by rw [e]; rfl) fun f cdv A outer s H E ds d hr ⟨n, Q, h1, h9, hq, e1, e2⟩ => ?_
  subst e1 e2
  have hl := hq.len h9
  refine er_cons (es_expr (ee_ca C1 hr (ea_cons (ee_var 0) ea_nil) ⟨n, Q, h1, h9, hq, rfl, rfl⟩)) ?_
  refine er_cons (es_asg (ee_var 0) (eg_tup2 rfl (eg_name 1 S.nd) (eg_name 2 S.nd))) ?_
  refine er_cons (es_set 3 S.nd (ee_ca C2 hr (ea_cons (ee_var 2) ea_nil) ⟨Q, by omega, rfl, rfl⟩)) ?_
  refine er_is (er_ret (ee_tupL T.tuple (ea_cons (ee_new (en_lc (own := [("hall", 4)]) (List.range n) iN (fun _ => true) (fun a => dN (bfsM n a (symW Q))) (fun a => ((((slots0 N_distances [nN n Q]).set 1 (some (.im (iN n)))).set 2 (some (.im (rN Q)))).set 3 (some (.im (rN (symW Q))))).set 4 (some (.im (iN a)))) [4] rfl S.nd (blkOk_by (N := N_distances) (sc := defScope s_distances) (by decide +kernel)) rfl (by decide) (by rw [List.length_range]; omega) (fun x _ => less_set rfl)
    (ei_is (ei_range1 T.range (ea_cons (ee_var 1) ea_nil) (by omega) (by omega)) (rngD_N n)) (fun x hx _ _ _ _ _ => (eg_name 4 S.nd)) (fun x hx _ _ _ _ _ => ets_nil) (fun x hx hf _ _ _ _ _ => (ee_ca C3 hr (ea_cons (ee_var 4) (ea_cons (ee_var 1) (ea_cons (ee_var 3) ea_nil))) ⟨n, x, symW Q, h9, List.mem_range.mp hx, ?hw, rfl, rfl⟩)))) ea_nil))) ?fin
  case hw =>
    intro p hp
    have := mem_ways.mp (sym_ways hq.2 _ hp)
    omega
  case fin =>
    rw [List.filter_eq_self.mpr (fun _ _ => rfl)]
    congr 1
    exact List.map_congr_left fun a ha => by rw [bfs_dist hq.2 (List.mem_range.mp ha)]
def R_span (ds : List PyData) (d : PyData) : Prop := ∃ n S, 1 ≤ n ∧ n ≤ 9 ∧ IsNet n S ∧ ds = [nN n S] ∧ d = optN (spanM S n)
theorem allD_opt (S : List (Nat × Nat)) (n : Nat) : ((List.range n).flatMap fun a => ((List.range n).map (distM S n a)).map optN) = (allD S n).map optN := by
  unfold allD
  rw [List.map_flatMap]
theorem natMax : ∀ (l : List Nat) (a : Nat), (l.map fun n : Nat => (n : Int)).foldl max (a : Int) = ((l.foldl max a : Nat) : Int)
  | [], _ => rfl
  | x :: l, a => by
    rw [List.map_cons, List.foldl_cons, List.foldl_cons, ← natMax l (max a x)]
    congr 1
    omega
theorem ok_span (T : Tx mg) (F : Fn K mg "span" s_span ["net"]) (C : Ca P w K mg base 7 "distances" ["net"] (spD K R_distances)) : Ca P w K mg base 8 "span" ["net"] (spD K R_span) := by
  have S := sc_span
  refine ca_Er F S (fun ds d ⟨_, _, _, _, _, e, _⟩ => by rw [e]; rfl) fun f cdv A outer s H E ds d hr ⟨n, Q, h1, h9, hq, e1, e2⟩ => ?_
  subst e1 e2
  let Γ1 : Gm := slots0 N_span [nN n Q]
  have hlen : (allD Q n).length ≤ 81 := by
    unfold allD
    have := flatSq2 n h9
    rw [List.length_flatMap] at this ⊢
    simpa using this
  refine er_cons (Γ1 := Γ1.set 1 (some (.ow ((allD Q n).map optN)))) (by
    rw [← allD_opt]
    exact es_setLc2 1 (own := [("row", 2), ("far", 3)]) (vs1 := [3]) (List.range n) (fun a => dN ((List.range n).map (distM Q n a))) (fun a => (List.range n).map (distM Q n a)) (fun _ o => optN o) (fun _ o => optN o)
      (fun a => Γ1.set 2 (some (.im (dN ((List.range n).map (distM Q n a)))))) (fun a o => (Γ1.set 2 (some (.im (dN ((List.range n).map (distM Q n a)))))).set 3 (some (.im (optN o)))) [2] [3] rfl S.nd (blkOk_by (N := N_span) (sc := defScope s_span) (by decide +kernel)) (by decide) rfl (fun _ _ => rfl) (by decide) (by decide) (by
        have : ((List.range n).flatMap fun a => (List.range n).map (distM Q n a)) = allD Q n := rfl
        rw [this]; omega) (fun x _ => less_set rfl) (fun x _ y _ => less_set rfl)
      (ei_tup (ee_ca C hr (ea_cons (ee_var 0) ea_nil) ⟨n, Q, h1, h9, hq, rfl, rfl⟩)) (fun x hx _ _ _ _ _ => (eg_name 2 S.nd)) (fun x hx _ _ _ _ _ => (ei_tup (ee_var 2))) (fun x hx y hy _ _ _ _ _ => (eg_name 3 S.nd)) (fun x hx y hy _ _ _ _ _ => (ee_var 3))) ?_
  refine er_freeze 1 rfl ?_
  have hin : ((allD Q n).map optN).any (fun z => PyData.eqv z .none) = decide (none ∈ allD Q n) := (any_eqv optN_eqv (allD Q n) none).trans (by congr)
  have hsh : SeqAt.shaped (.list ((allD Q n).map optN)) = true := sh_lst _ optN_lay fun o => Nat.le_trans (optN_dep o) (by decide)
  unfold spanM spanOf
  by_cases hno : none ∈ allD Q n
  · rw [if_pos hno]
    exact er_ifT (et_is (et_in hr ee_non (ee_var 1) rfl (sh_optN none) hsh) (by rw [hin]; exact decide_eq_true hno)) (er_ret ee_non)
  · rw [if_neg hno]
    refine er_ifF (et_is (et_in hr ee_non (ee_var 1) rfl (sh_optN none) hsh) (by rw [hin]; exact decide_eq_false hno)) ?_
    have e : (allD Q n).map optN = ((allD Q n).filterMap id).map iN := by
      generalize allD Q n = l at *
      clear hin hsh hlen
      induction l with
      | nil => rfl
      | cons o l ih =>
        cases o with
        | none => exact absurd List.mem_cons_self hno
        | some k =>
          have := ih fun z => hno (List.mem_cons_of_mem _ z)
          rw [List.map_cons, this]; rfl
    obtain ⟨m, r, er⟩ : ∃ m r, (allD Q n).filterMap id = m :: r := by
      cases h : (allD Q n).filterMap id with
      | cons m r => exact ⟨m, r, rfl⟩
      | nil =>
        exfalso
        have h0 : distM Q n 0 0 = some 0 := dist_self Q (by omega)
        have : some 0 ∈ allD Q n := List.mem_flatMap.mpr ⟨0, List.mem_range.mpr (by omega), List.mem_map.mpr ⟨0, List.mem_range.mpr (by omega), h0⟩⟩
        have : 0 ∈ (allD Q n).filterMap id := List.mem_filterMap.mpr ⟨some 0, this, rfl⟩
        rw [h] at this; cases this
    rw [er] at e ⊢
    refine er_is (er_ret (ee_maxD (x := iN m) (ds := r.map iN) hr rfl T.max (ea_cons (ee_is (ee_var 1) (by rw [e]; rfl)) ea_nil) (alAll2 (enc := iN) al_iN (fun a z => by cases z) (m :: r)) (lay_all (xs := m :: r) fun x _ => iN_lay x) (dep_all (xs := m :: r) fun x _ => by rw [iN_dep]; decide))) ?_
    have h1 : PySem.W.maxD (.int (m : Int)) ((r.map fun n : Nat => (n : Int)).map .int) = _ := PySem.W.maxD_ints (m : Int) (r.map fun n : Nat => (n : Int))
    rw [List.map_map] at h1
    show PySem.W.maxD (.int (m : Int)) (r.map iN) = _
    refine h1.trans ?_
    rw [natMax, List.foldl_cons]
    show PyData.int _ = PyData.int _
    rw [Nat.zero_max]
end
end DL
end

section
/-! Calls that raise: in an expression, a test, a statement; try with one clause around such an expression. -/
namespace DL
open PySem PySem.Spec PyProof.Rows L2
section
variable {X : Cx} {Γ Γ1 Γ2 : Gm} {a b e c : Expr} {es : List Expr} {ds : List PyData} {d : PyData} {k j i : Nat} {g n xn : Str} {ps : List Str} {C : Addr} {R : List PyData → Option PyData → Prop} {o : Out} {pg cp np pos pos' pp : Pos} {b0 : Stmt} {suite rest body orelse : List Stmt} {W : WX} {E : XK}
/-- an expression that raises an error of the class at C -/
def Exx (X : Cx) (Γ : Gm) (e : Expr) (C : Addr) (Γ1 : Gm) (W : WX) : Prop := PE X e (fun σ H _ => ∃ F, EnvOk X.K F H σ Γ ∧ Ext F H ∧ ∀ F' H', Gr F H (Own σ Γ) F' H' (Own σ Γ1) → EnvOk X.K F' H' σ Γ1 → W (.ref C) none σ H')
def Etx (X : Cx) (Γ : Gm) (e : Expr) (C : Addr) (Γ1 : Gm) (W : WX) : Prop := PT X e (fun σ H _ => ∃ F, EnvOk X.K F H σ Γ ∧ Ext F H ∧ ∀ F' H', Gr F H (Own σ Γ) F' H' (Own σ Γ1) → EnvOk X.K F' H' σ Γ1 → W (.ref C) none σ H')
theorem exx_call (tk : Takes X W) (F : CaX X.prog X.w X.K X.mg X.base k g ps C R) (hr : Room j X.A) (ha : Ea X Γ (e :: es) ds Γ1) (hR : R ds none) (hj : k ≤ j := by decide) (hg : Gl X g := by rfl) (hdb : (g == ("__debug__" : Str)) = false := by decide)
    (he : starEach (e :: es) X.env = (false, eval e X.env) :: starEach es X.env := by rfl) (hpl : (backTo cp (starEach es X.env)).any (·.1) = false := by rfl) : Exx X Γ (.Call (.Name g pg) (e :: es) [] cp) C Γ1 W := by
  obtain ⟨f, fd, hm, hk, hb, hF⟩ := F.ex
  exact pe_imp (pe_callS hF (hr.mono hj) hg hm hk hb (fun σ => passAt tk σ) ha hdb he hpl) fun σ H Q ⟨F0, ev, xt, kk⟩ => ⟨F0, ev, xt, fun vs F1 H1 g1 e1 dv => ⟨F1, ds, none, g1.fh, dv, hR, fun d hd => (nomatch hd), fun _ H' x1 =>
    kk F1 H' (g1.trans (Gr.ext (Ext.refl F1) (g1.fh.trans x1) x1 fun a h => .inl h)) (e1.keep (Ext.refl F1) x1 fun a h => .inl h)⟩⟩
theorem etx_val (h : Exx X Γ e C Γ1 W) (he : ∀ whole, isTrue e X.env whole = (do let v ← whole; standAt e.pos; holding [v] (truthy v)) := by intro _; rfl) : Etx X Γ e C Γ1 W :=
  pt_imp (pt_val h he) fun σ H Q hh => hh
theorem etx_not (h : Etx X Γ a C Γ1 W) : Etx X Γ (.UnaryOp .Not a pos) C Γ1 W := pt_imp (pt_not h) fun σ H Q hh => hh
theorem rx_expr (h : Exx X Γ e C Γ1 (fun cls d _ H => E cls d H)) (hs : swapsWith e none pos.line X.env = pure false := by rfl) : Rx X Γ (.Expr e pos :: rest) C E :=
  pss_imp (pss_cons (ps_expr h hs) pss_never) fun D σ H ⟨F, ev, x, k⟩ => ⟨F, ev, x, fun F' H' g _ => k σ Γ1 F' H' g⟩
theorem rx_ifx {pos : Pos} (h : Etx X Γ c C Γ1 (fun cls d _ H => E cls d H)) : Rx X Γ (.If c body orelse pos :: rest) C E :=
  pss_imp (pss_cons (ps_if h pss_never pss_never) pss_never) fun D σ H ⟨F, ev, x, k⟩ => ⟨F, ev, x, fun F' H' g _ => k σ Γ1 F' H' g⟩
/-- try: an expression that raises, except C as n: a suite that hands something back -/
theorem es_tryX (hs : X.stack = X.env :: X.outer) (hf : X.env.frame = some X.env.locals) (hN : X.N.Nodup) (i : Nat) (hc : Names X xn (.ref C)) (hexm : PySem.W.exmOne X.K (.ref C) (.ref C) = some true)
    (hb : ∀ (W : WX) pn xe, Takes (X.tr pn xe) W → Exx (X.tr pn xe) Γ e C Γ1 W) (hv : noV Γ1 [i] = true) (hsu : ∀ a pn, Ess (X.suite a pn) Γ1 (b0 :: suite) (.rt d Γ2))
    (hi : X.N[i]? = some n := by rfl) (hln : X.env.kindOf n = some .local := by rfl) (hsw : swapsWith e none pp.line X.env = pure false := by rfl) :
    Es X Γ (.Try [.Expr e pp] [.ExceptHandler (some (.Name xn np)) (some n) (b0 :: suite) pos'] [] [] pos) (.rt d Γ2) := by
  refine ps_imp (ps_try_as (i := i) (tb := fun W => fun D σ H => ∃ F, EnvOk X.K F H σ Γ ∧ Ext F H ∧ ∀ F' H', Gr F H (Own σ Γ) F' H' (Own σ Γ1) → EnvOk X.K F' H' σ Γ1 → W (.ref C) none σ H') (ts := fun a cls d0 => fun D σ H => tS X.K Γ1 (.rt d Γ2) D σ H) (Wout := fun _ _ _ _ => False) hs hf hN hi hln hc takes0
    (fun W pn xe tk _ => pss_one (ps_imp (ps_expr (X := X.tr pn xe) (hb W pn xe tk) hsw) fun D σ H hh => hh))
    (fun a oe cls d0 pn _ _ => ⟨fun pins s σ H D I h => (hsu a _).run pins s σ H D I h⟩)) fun D σ H ⟨F0, ev, xt, kk⟩ => ?_
  refine ⟨F0, ev, xt, fun F' H' g e => ⟨true, hexm, fun _ a na => ⟨F', ?_, g.fh, ?_⟩, fun z => by cases z⟩⟩
  · exact e.agree hv (wipe_set (List.mem_singleton.mpr rfl)).symm
  · intro v σ' F2 H2 g2 e2 dv'
    refine kk v σ' F2 H2 ?_ e2 dv'
    exact (g.right fun a q => own_agree hv (wipe_set (List.mem_singleton.mpr rfl)) q).trans g2
end
end DL
end

section
/-! sorted(a set of ints), of up to a thousand; list.count of ints. -/
namespace DL
open PySem PySem.Spec PyProof.Rows L2
open PySem.W (EachIs SortsAt AllAlike Sortable)
theorem each_ints : ∀ {vs : List Value} {ns : List Int}, IntsAre vs ns → EachIs (fun v (k : Int) => ∃ t, v = .int k t) vs ns
  | _, _, .nil => .nil
  | _, _, .cons n t h => .cons ⟨t, rfl⟩ (each_ints h)
theorem ints_each : ∀ {vs : List Value} {ns : List Int}, EachIs (fun v (k : Int) => ∃ t, v = .int k t) vs ns → IntsAre vs ns
  | _, _, .nil => .nil
  | _, _, .cons (b := k) h1 h2 => by
    obtain ⟨t, rfl⟩ := h1
    exact .cons k t (ints_each h2)
theorem each_rd {hp : Heap} : ∀ {vs : List Value} {ns : List Int}, IntsAre vs ns → EachIs (fun v (k : Int) => ∃ as, Reads hp v (PyData.int k) as) vs ns
  | _, _, .nil => .nil
  | _, _, .cons n t h => .cons ⟨_, .int n t⟩ (each_rd h)
theorem ints_raw : ∀ (vs : List Value), (∀ v ∈ vs, ∃ k t, v = .int k t) → IntsAre vs (vs.map Builtin.Re.reRawOf)
  | [], _ => .nil
  | v :: vs, h => by
    obtain ⟨k, t, rfl⟩ := h v List.mem_cons_self
    exact .cons k t (ints_raw vs fun u hu => h u (List.mem_cons_of_mem _ hu))
theorem le_int (a b : Int) : PySem.W.dataLe false PyData.int a b = decide (a ≤ b) := by
  show (!PySem.W.dataLt (.int b) (.int a)) = _
  rw [PySem.W.dataLt_int]
  by_cases h : b < a
  · rw [decide_eq_true h, decide_eq_false (by omega)]; rfl
  · rw [decide_eq_false h, decide_eq_true (by omega)]; rfl
theorem sort_ints_asc {ns : List Int} (h : ns.Nodup) : (ns.mergeSort (PySem.W.dataLe false PyData.int)).Pairwise (· < ·) := by
  have e : PySem.W.dataLe false PyData.int = fun a b : Int => decide (a ≤ b) := funext fun a => funext fun b => le_int a b
  rw [e]
  have p := List.pairwise_mergeSort (le := fun a b : Int => decide (a ≤ b)) (fun a b c h1 h2 => by simp at *; omega) (fun a b => by simp; omega) ns
  have nd : (ns.mergeSort fun a b : Int => decide (a ≤ b)).Nodup := (List.mergeSort_perm _ _).nodup_iff.mpr h
  exact (p.and nd).imp fun {a b} ⟨x, y⟩ => by
    have := of_decide_eq_true x
    omega
section
variable {P : Program} {w : World} {A : Around} {E : Value → Shared → Prop} {s : Shared} {a : Addr}
theorem sorted_setB {S : Int → Bool} {n : Nat} {Q : Value → Shared → Prop} (R : SetR w s.heap a S n) (hh : A.handled = none) (hn1 : n ≤ 1000) (hun : A.units + 10 < cLine)
    (hQ : ∀ s' p (c : Nat) (out : List Value) (ns : List Int), (∀ b o, s.heap.get? b = some o → s'.heap.get? b = some o) → s'.gens = s.gens → s'.os = s.os → s.heap.objs.size ≤ p →
      s'.heap.get? p = some (seqObj "list" out.toArray c) → IntsAre out ns → ns.Pairwise (· < ·) → (∀ k, k ∈ ns ↔ S k = true) → ns.length = n → Q (.ref p) s') : wpAny (model P w) A (call (.builtin "sorted") [.ref a]) Q E s := by
  obtain ⟨ob, es, ep, tb, h1, h2, h3, h4, h5, h6, h7, h8, h9, h10, h11⟩ := R
  refine call_function_entry_kw kind_sorted plain_sorted entry_sorted (args_sorted1 _) ?_
  unfold Builtin.«sorted»
  refine wpAny_bind (m := checkCount "sorted" 1 1 _) (wpAny_pure ?_)
  refine wpAny_bind (collect_set (A := A.in1) hh ⟨ob, h1, h2.1, h3⟩ h8 h7 h10 h11 fun s1 vs m1 m2 m3 m4 m5 => ?_)
  have lv : vs.length = n := by rw [m5.length_eq, List.length_map, Array.length_toList, h9]
  have iv := ints_raw vs fun v hv => by
    obtain ⟨e, he, q⟩ := List.mem_map.mp (m5.mem_iff.mp hv)
    obtain ⟨k, t, u, _⟩ := h4 e he
    exact ⟨k, t, by rw [← q]; exact u⟩
  obtain ⟨ns, hns⟩ : ∃ ns, vs.map Builtin.Re.reRawOf = ns := ⟨_, rfl⟩
  have pm : ns.Perm (es.toList.map keyOf) := by
    have q := m5.map Builtin.Re.reRawOf
    rw [List.map_map, hns] at q
    exact q
  rw [hns] at iv
  have bl : vs.length ≤ sizeLine := by rw [lv, sizeLine_eq]; omega
  refine wpAny_bind (wpAny_newList ?_ bl)
  have at0 : (s1.heap.push (seqObj "list" vs.toArray 0)).get? s1.heap.objs.size = some (seqObj "list" vs.toArray 0) := Heap.get?_push_size _ rfl
  have hal : AllAlike (ns.map PyData.int) := fun d hd d' hd' => by
    obtain ⟨x, _, rfl⟩ := List.mem_map.mp hd
    obtain ⟨y, _, rfl⟩ := List.mem_map.mp hd'
    simp [PySem.W.alike]
  have hk : Sortable (ns.map PyData.int) := .inr fun d hd => by
    obtain ⟨x, _, rfl⟩ := List.mem_map.mp hd
    exact ⟨(by intro z; cases z), fun xs z => by cases z⟩
  refine wpAny_bind (wpAny_holding (wpAny_call_entry_kw slot_list_sort ⟨_, at0, rfl⟩ entry_list_sort ?body (args_list_sort _)))
  case body =>
    show wpAny (model P w) A.in1.in1 (Builtin.«list.sort» ⟨[.ref s1.heap.objs.size], []⟩) _ _ _
    refine PySem.W.list_sort_vals (s := { s1 with heap := s1.heap.push (seqObj "list" vs.toArray 0) }) at0 (SortsAt.data (s := { s1 with heap := PySem.W.sortingHeap (s1.heap.push (seqObj "list" vs.toArray 0)) s1.heap.objs.size vs }) (PySem.W.each_map PyData.int (each_rd iv)) hal hk (PySem.W.bound_map (enc := PyData.int) fun b _ => ?_)) bl ?_
    · show A.units + 1 + 1 + (PyData.int b).depth < cLine
      simp only [PyData.depth]
      omega
    · have out := PySem.W.sortVals_data (h' := PySem.W.sortingHeap (s1.heap.push (seqObj "list" vs.toArray 0)) s1.heap.objs.size vs) (R := fun v (k : Int) => ∃ t, v = .int k t) (enc := PyData.int) false (each_ints iv) (each_rd iv) hal
      have io := ints_each out
      have nd : ns.Nodup := pm.nodup_iff.mpr h5
      obtain ⟨c, hc⟩ := sortedHeap_at (out := (PySem.W.sortVals (PySem.W.dataKind (PySem.W.sortingHeap (s1.heap.push (seqObj "list" vs.toArray 0)) s1.heap.objs.size vs) (ns.map PyData.int)) false vs vs).toArray) at0
      have sp : (ns.mergeSort (PySem.W.dataLe false PyData.int)).Perm ns := List.mergeSort_perm _ _
      refine ⟨_, rfl, wpAny_pure ⟨_, rfl, hQ _ s1.heap.objs.size c _ _ (fun b o hb => ?_) m3 m4 m2 hc io (sort_ints_asc nd) (fun k => by rw [sp.mem_iff, pm.mem_iff, h6 k]) (by rw [sp.length_eq, pm.length_eq, List.length_map, Array.length_toList, h9])⟩⟩
      have q := m1 b o hb
      have lt := Heap.lt_size q
      show (sortedHeap (s1.heap.push (seqObj "list" vs.toArray 0)) s1.heap.objs.size vs _).get? b = some o
      rw [sortedHeap_old (Nat.ne_of_lt lt) (by rw [size_push']; exact Nat.lt_succ_of_lt lt)]
      exact Heap.get?_push_of_some _ q
end
section
variable {X : Cx} {Γ Γ1 Γ2 : Gm} {a b e : Expr} {pos p1 p2 pos2 : Pos}
def rSortedSetB (w : World) : List V → Hp → VK → Prop := fun vs H Q => ∃ (a : Addr) (S : Int → Bool) (n : Nat), vs = [V.ref a] ∧ H a = some (SetO w a S n) ∧ n ≤ 1000 ∧
  ∀ (ns : List Int) (p : Addr), ns.Pairwise (· < ·) → (∀ k : Int, k ∈ ns ↔ S k = true) → ns.length = n → H p = none → Q (.ref p) (upd H p (.lst (ns.map V.int)))
theorem cr_sortedSetB {kk : Nat} (hr : Room kk X.A) (hc : X.calm = true) : CallR X (.builtin "sorted") (rSortedSetB X.w) := by
  intro pins s σ H vs us Q I r h
  obtain ⟨a, S, n, rfl, ha, hn, q⟩ := h
  rw [Vals.ref1 r]
  refine sorted_setB (setO_get I ha) (I.ok.hd hc) hn (by have := hr.un; omega) fun s' p c out ns k g o hp hg hi hs hm hl => ?_
  have z1 : (ns.map V.int).length ≤ sizeLine := by rw [List.length_map, hl, sizeLine_eq]; omega
  have z2 : H p = none := I.hok.fresh hp
  have J : Inv X pins σ (upd H p (.lst (ns.map V.int))) { s with heap := s'.heap, gens := s'.gens, drawn := s'.drawn, toks := s'.toks } :=
    I.call (ch := []) (Un.laid k hp z2) (I.hok.laid k hp ⟨z1, out, c, vals_of_ints hi, hg⟩) (by rw [g]; exact I.bare) (fun _ z => nomatch z)
  have e : s' = { s with heap := s'.heap, gens := s'.gens, drawn := s'.drawn, toks := s'.toks } := by
    cases s'; cases s; cases o; rfl
  rw [e]
  exact ⟨.ref p, _, J, rfl, q ns p hs hm hl z2⟩
/-- sorted(set(t)), t a tuple of up to a thousand whole numbers -/
theorem en_sortSetT {t : List Nat} {kk : Nat} (hr : Room kk X.A) (hc : X.calm = true) (hm1 : X.mg "sorted" = none) (hm2 : X.mg "set" = none) (h : Ee X Γ e (.tuple (t.map iN)) Γ1) (hl : t.length ≤ 1000) (hg1 : Gl X "sorted" := by rfl) (hg2 : Gl X "set" := by rfl) (hs : starEach [e] X.env = (false, eval e X.env) :: starEach [] X.env := by rfl)
    (hs2 : starEach [.Call (.Name "set" p2) [e] [] pos2] X.env = (false, eval (.Call (.Name "set" p2) [e] [] pos2) X.env) :: starEach [] X.env := by rfl) :
    En X Γ (.Call (.Name "sorted" p1) [.Call (.Name "set" p2) [e] [] pos2] [] pos) ((uniqN t).map iN) Γ1 :=
  pe_imp (pe_callB (cr_sortedSetB hr hc) hg1 hm1 (by decide +kernel) (pa_cons (pe_callTy (cr_setT hc) hg2 hm2 PyProof.Rows.boot_set (pa_cons h pa_nil hs) (by decide) (by decide) hs rfl) pa_nil hs2) (by decide) (by decide) hs2 rfl) fun σ H Q ⟨F, ev, x, k⟩ => by
    refine ⟨F, ev, x, fun v F1 H1 g1 e1 dv => ?_⟩
    cases dv with
    | @tup a ob xs _ h1 h0 hA =>
      have hx : xs = (t.map fun n : Nat => (n : Int)).map V.int := by
        have e : t.map iN = (t.map fun n : Nat => (n : Int)).map PyData.int := by rw [List.map_map]; rfl
        rw [e] at hA
        exact hA.ints
      subst hx
      refine ⟨a, t.map fun n : Nat => (n : Int), rfl, .inl (.inr ⟨ob, g1.fh _ _ h1⟩), by rw [List.length_map]; omega, fun p c hp hcn => ?_⟩
      rw [List.length_map] at hcn
      refine ⟨p, _, c, rfl, upd_same, by omega, fun ns q o1 o2 o3 hq => ?_⟩
      have hns := uniq_ints (t := t) o1 fun j => by rw [o2, decide_eq_true_iff]
      subst hns
      have g2 := g1.trans (Gr.newH (A := Own σ Γ1) (o := SetO X.w p (fun j => decide (j ∈ t.map fun n : Nat => (n : Int))) c) g1.fh hp)
      exact tN_new (ds := (uniqN t).map iN) g2 (e1.newH hp) (dda_nats _) k q hq
  where dda_nats {K : PySem.W.Frag} {F : Hp} : ∀ (l : List Nat), DdA K F ((l.map fun n : Nat => (n : Int)).map V.int) (l.map iN)
    | [] => .nil
    | y :: l => .cons (.int _) (dda_nats l)
end
end DL
end

section
/-! set(a list of ints); sorted of it; list.count of whole numbers. -/
namespace DL
open PySem PySem.Spec PyProof.Rows L2
/-- a new set as the model lays it -/
abbrev set0 (w : World) : Obj := { cls := .type "set", dict := none, data := .set #[] 0 (.fresh 0 0 (!w.params.followText "set-order")) }
section
variable {P : Program} {w : World} {A : Around} {E : Value → Shared → Prop} {s : Shared}
set_option maxHeartbeats 3200000 in
theorem set_listI {l : Addr} {its : Array Value} (ns : List Int) {Q : Value → Shared → Prop} (hh : A.handled = none) (hl : s.heap.IsList l its) (hi : IntsAre its.toList ns) (hb : ns.length + 1 < scanBound)
    (k : ∀ (h' : Heap) (tk c : Nat), SetR w h' s.heap.objs.size (fun j => decide (j ∈ ns)) c → c ≤ ns.length → (∀ b o, s.heap.get? b = some o → h'.get? b = some o) → Q (.ref s.heap.objs.size) { s with heap := h', toks := tk }) : wpAny (model P w) A (call (.type "set") [.ref l]) Q E s := by
  have sz : its.size = ns.length := by rw [← Array.length_toList]; exact hi.length
  have zl : l < s.heap.objs.size := let ⟨o, ho, _⟩ := hl; Heap.lt_size ho
  have fM := F.called_set.made
  have fS := F.called_set.sub
  have fT := F.called_set.notType
  have fC := F.called_set.canCreate
  have fA := F.typeCall_set_1 (.ref l)
  have fL := F.called_set.init.lookup
  obtain ⟨_, _, fO⟩ := F.called_set.mro
  apply wpAny_call; apply codeAny_of_tree
  change wpAny _ _ (callAny (.type "set") _) _ _ _
  apply wpAny_pure; constructor
  · exact Code.quiet_builtin _ (by decide +kernel)
  apply codeAny_builtin F.entry_type_call
  rw [Around.under_plain (weight_type_call_type "set" [.ref l] []) rfl]
  repeat (any_goals (first | assumption | wp_step))
  apply codeAny_mono (code_set_led1 (.ref l) (E := E) (Q₁ := fun v s1 => v = .ref s.heap.objs.size ∧ s1 = { s with heap := s.heap.push (set0 w) }) ⟨rfl, rfl⟩)
  intro r s1 q1
  match r, q1 with
  | .error e, q1 => exact q1
  | .ok (.ret v), q1 =>
    obtain ⟨rfl, rfl⟩ := q1
    have g0 : (s.heap.push (set0 w)).get? s.heap.objs.size = some (set0 w) := Heap.get?_push_size _ rfl
    have ty : Shared.TypeIs { s with heap := s.heap.push (set0 w) } (.ref s.heap.objs.size) "set" := ⟨_, g0, rfl⟩
    have fB := F.called_set.init.bind (.ref s.heap.objs.size)
    repeat (any_goals (first | assumption | wp_step))
    apply codeAny_mono (codeAny_call_builtin (R := wants (fun v s2 => v = .none ∧ ∃ h' tk c, s2 = { s with heap := h', toks := tk } ∧ SetR w h' s.heap.objs.size (fun j => decide (j ∈ ns)) c ∧ c ≤ ns.length ∧ ∀ b o, s.heap.get? b = some o → h'.get? b = some o) E) F.called_set.init.plain F.entry_set_init (check_set_init_1 ty ?go))
    case go =>
      obtain ⟨⟨oc, od, oa, os⟩, h1, h2, n, h3⟩ := hl
      dsimp only at h2 h3
      subst h2 h3
      have g1 : (s.heap.push (set0 w)).get? l = some { cls := .type "list", dict := od, data := .seq its n, slots := os } := Heap.get?_push_of_some _ h1
      have l1 : (s.heap.push (set0 w)).IsList l its := ⟨_, g1, rfl, n, rfl⟩
      have s1 := F.sub_list_set
      have s2 := F.sub_list_frozenset
      have ne : (Value.type "list" == Value.type "dict") = false := by decide
      unfold Builtin.«set.__init__» noKeywords Builtin.Frozenset.updateFrom
      generalize hp : pyIter = it
      wp_walk
      subst hp
      apply wpAny_pyIter_list l1
      apply wpAny_bind; apply wpAny_runValue
      have z1 : (s.heap.push (set0 w)).objs.size = s.heap.objs.size + 1 := Heap.size_push ..
      have nI : l ≠ (s.heap.push (set0 w)).objs.size := by rw [z1]; exact Nat.ne_of_lt (Nat.lt_succ_of_lt zl)
      have nS : s.heap.objs.size ∉ [(s.heap.push (set0 w)).objs.size, l] := by
        rw [z1]; simp only [List.mem_cons, List.not_mem_nil, or_false, not_or]
        exact ⟨Nat.ne_of_lt (Nat.lt_succ_self _), Nat.ne_of_gt zl⟩
      refine set_update_ints ((Walks.list (by simp [hh]) _ l nI its).toS) s.heap.objs.size nS ns sz hb (fun i v hv => ?_) (its.size - 0) 0 _ (by omega) (Nat.zero_le _) ⟨⟨_, Heap.get?_push_size _ rfl, rfl, rfl⟩, l1.push _⟩ ⟨0, Nat.le_refl 0, setR_new_at (Heap.get?_push_of_some _ g0)⟩ fun s3 c hm hc hR => ?_
      · have lt : i < ns.length := by rw [← sz]; exact (Array.getElem?_eq_some_iff.mp hv).1
        obtain ⟨t, e⟩ := hi.int_at i v (by rw [Array.getElem?_toList]; exact hv)
        exact ⟨ns[i], t, List.getElem?_eq_getElem lt, by rw [e, List.getD_eq_getElem?_getD, List.getElem?_eq_getElem lt]; rfl⟩
      · obtain ⟨h', g2, d2, tk, o2⟩ := s3
        obtain rfl : g2 = s.gens := hm.gens
        obtain rfl : d2 = s.drawn := hm.drawn
        obtain rfl : o2 = s.os := hm.os
        apply wpAny_pure
        change wpAny _ _ (ret Value.none) _ _ _
        apply wpAny_pure
        refine ⟨rfl, h', tk, c, rfl, hR, by rw [← sz]; exact hc, fun b o e => hm.heap b o ?_ (Heap.get?_push_of_some _ (Heap.get?_push_of_some _ e))⟩
        have lt := Heap.lt_size e
        rw [z1]; simp only [List.mem_cons, List.not_mem_nil, or_false, not_or]
        exact ⟨Nat.ne_of_lt lt, Nat.ne_of_lt (Nat.lt_succ_of_lt lt)⟩
    intro r2 s2 q2
    match r2, q2 with
    | .error e, q2 => exact q2
    | .ok (.ret v2), q2 =>
      obtain ⟨rfl, h', tk, c, rfl, hR, hc, hk⟩ := q2
      repeat (any_goals (first | assumption | wp_step))
      exact k _ _ _ hR hc hk
    | .ok .next, q2 => exact q2.elim
    | .ok .brk, q2 => exact q2.elim
    | .ok .cont, q2 => exact q2.elim
  | .ok .next, q1 => exact q1.elim
  | .ok .brk, q1 => exact q1.elim
  | .ok .cont, q1 => exact q1.elim
end
end DL
end

section
/-! sorted(set(a list)), list.count. -/
namespace DL
open PySem PySem.Spec PyProof.Rows L2
theorem count_cast : ∀ (t : List Nat) (k : Nat), (t.map fun n : Nat => (n : Int)).count (k : Int) = t.count k
  | [], _ => rfl
  | y :: t, k => by
    rw [List.map_cons, List.count_cons, List.count_cons, count_cast t k]
    congr 1
    by_cases h : y = k
    · subst h; simp
    · rw [beq_eq_false_iff_ne.mpr h, beq_eq_false_iff_ne.mpr (by omega)]
section
variable {X : Cx} {Γ Γ1 Γ2 : Gm} {a b e : Expr} {pos p1 p2 pos2 apos : Pos}
def rSetL (K : PySem.W.Frag) (w : World) : List V → Hp → VK → Prop := fun vs H Q => ∃ (l : Addr) (ns : List Int), vs = [.ref l] ∧ SqL K H l (ns.map V.int) ∧ ns.length ≤ 1000 ∧ ∀ p c, H p = none → c ≤ ns.length → Q (.ref p) (upd H p (SetO w p (fun j => decide (j ∈ ns)) c))
theorem cr_setL (hc : X.calm = true) : CallR X (.type "set") (rSetL X.K X.w) := by
  intro pins s σ H vs us Q I r h
  obtain ⟨l, ns, rfl, hq, hl, q⟩ := h
  rw [Vals.ref1 r]
  obtain ⟨its, rv, pl, hz⟩ := I.list hq
  refine set_listI ns (I.ok.hd hc) pl.isList (show IntsAre its.toArray.toList ns from ints_of_vals rv) (by unfold scanBound; omega) fun h' tk c R1 hcn m => ?_
  exact ⟨.ref _, upd H s.heap.objs.size (SetO X.w s.heap.objs.size (fun j => decide (j ∈ ns)) c), I.laid (t' := tk) (fun b u e => m b u e) (Nat.le_refl _) (setO_new R1), rfl, q _ _ (I.hok.fresh (Nat.le_refl _)) hcn⟩
theorem dda_nats {K : PySem.W.Frag} {F : Hp} : ∀ (l : List Nat), DdA K F ((l.map fun n : Nat => (n : Int)).map V.int) (l.map iN)
  | [] => .nil
  | y :: l => .cons (.int _) (dda_nats l)
/-- sorted(set(xs)), xs a list of up to a thousand whole numbers -/
theorem en_sortSetL {t : List Nat} {kk : Nat} (hr : Room kk X.A) (hc : X.calm = true) (hm1 : X.mg "sorted" = none) (hm2 : X.mg "set" = none) (h : Ee X Γ e (.list (t.map iN)) Γ1) (hl : t.length ≤ 1000) (hg1 : Gl X "sorted" := by rfl) (hg2 : Gl X "set" := by rfl) (hs : starEach [e] X.env = (false, eval e X.env) :: starEach [] X.env := by rfl)
    (hs2 : starEach [.Call (.Name "set" p2) [e] [] pos2] X.env = (false, eval (.Call (.Name "set" p2) [e] [] pos2) X.env) :: starEach [] X.env := by rfl) :
    En X Γ (.Call (.Name "sorted" p1) [.Call (.Name "set" p2) [e] [] pos2] [] pos) ((uniqN t).map iN) Γ1 :=
  pe_imp (pe_callB (cr_sortedSetB hr hc) hg1 hm1 (by decide +kernel) (pa_cons (pe_callTy (cr_setL hc) hg2 hm2 PyProof.Rows.boot_set (pa_cons h pa_nil hs) (by decide) (by decide) hs rfl) pa_nil hs2) (by decide) (by decide) hs2 rfl) fun σ H Q ⟨F, ev, x, k⟩ => by
    refine ⟨F, ev, x, fun v F1 H1 g1 e1 dv => ?_⟩
    obtain ⟨a, xs, rfl, _, hS, hA⟩ := dv.lstAt g1.fh
    have hx : xs = (t.map fun n : Nat => (n : Int)).map V.int := by
      have e : t.map iN = (t.map fun n : Nat => (n : Int)).map PyData.int := by rw [List.map_map]; rfl
      rw [e] at hA
      exact hA.ints
    subst hx
    refine ⟨a, t.map fun n : Nat => (n : Int), rfl, hS, by rw [List.length_map]; omega, fun p c hp hcn => ?_⟩
    rw [List.length_map] at hcn
    refine ⟨p, _, c, rfl, upd_same, by omega, fun ns q o1 o2 o3 hq => ?_⟩
    have hns := uniq_ints (t := t) o1 fun j => by rw [o2, decide_eq_true_iff]
    subst hns
    have g2 := g1.trans (Gr.newH (A := Own σ Γ1) (o := SetO X.w p (fun j => decide (j ∈ t.map fun n : Nat => (n : Int))) c) g1.fh hp)
    exact tN_new (ds := (uniqN t).map iN) g2 (e1.newH hp) (dda_nats _) k q hq
/-- xs.count(k), xs a list of whole numbers -/
theorem ee_countL {t : List Nat} {k : Nat} (ho : Ee X Γ a (.list (t.map iN)) Γ1) (hb : Ea X Γ1 [b] [iN k] Γ2) (hbase : attributeBase a "count" X.env (eval a X.env) = eval a X.env := by rfl)
    (hfew : ((backTo pos (starEach [b] X.env)).all (fun x => !x.1) && (backToKw pos (keywordEach [] X.env)).all (fun x => x.1.isSome) && decide ([b].length + ([] : List Keyword).length + (if ([] : List Keyword).isEmpty then 0 else 1) < 30)) = true := by rfl)
    (hline : (apos.endLine == pos.line) = true := by rfl) (hs : starEach [b] X.env = (false, eval b X.env) :: starEach [] X.env := by rfl) (hplain : (backTo pos (starEach [] X.env)).any (·.1) = false := by rfl) :
    Ee X Γ (.Call (.Attribute a "count" apos) [b] [] pos) (iN (t.count k)) Γ2 :=
  pe_imp (pe_bm PySem.F.plainAttrs_list PySem.F.slot_list_count PySem.F.type_list_count mt_lcount ho hb hbase hfew hline hs hplain) fun σ H Q ⟨F, ev, x, kk⟩ => by
    refine ⟨F, ev, x, fun v F1 H1 g1 e1 dv => ?_⟩
    obtain ⟨p, xs, rfl, _, hS, hA⟩ := dv.lstAt g1.fh
    refine ⟨.inl ⟨rfl, xs, hS⟩, F1, e1, g1.fh, fun vs F2 H2 g2 e2 da => ?_⟩
    obtain ⟨z, rfl, dz⟩ := one_of da
    cases dz
    obtain ⟨p', xs', ep, _, hS', hA'⟩ := (dv.up g2.ff).lstAt g2.fh
    cases ep
    have hx : xs' = (t.map fun n : Nat => (n : Int)).map V.int := by
      have e : t.map iN = (t.map fun n : Nat => (n : Int)).map PyData.int := by rw [List.map_map]; rfl
      rw [e] at hA'
      exact hA'.ints
    subst hx
    refine ⟨p, t.map fun n : Nat => (n : Int), (k : Int), rfl, rfl, hS', ?_⟩
    have ec := count_cast t k
    rw [ec]
    exact kk _ F2 H2 (g1.trans g2) e2 (.int _)
end
end DL
end

section
/-! Slots that only a loop's turn sets. -/
namespace DL
open PySem PySem.Spec PyProof.Rows L2
def setL (L : List (Nat × Option Slot)) (Γ : Gm) : Gm := L.foldl (fun g p => g.set p.1 p.2) Γ
theorem setL_get : ∀ (L : List (Nat × Option Slot)) (Γ : Gm) (i : Nat), i ∉ L.map (·.1) → (setL L Γ)[i]? = Γ[i]?
  | [], _, _, _ => rfl
  | p :: L, Γ, i, h => by
    show (setL L (Γ.set p.1 p.2))[i]? = _
    rw [setL_get L _ i fun z => h (List.mem_cons_of_mem _ z), List.getElem?_set_ne fun e => h (by rw [List.map_cons, e]; exact List.mem_cons_self)]
theorem setL_len : ∀ (L : List (Nat × Option Slot)) (Γ : Gm), (setL L Γ).length = Γ.length
  | [], _ => rfl
  | p :: L, Γ => by
    show (setL L (Γ.set p.1 p.2)).length = _
    rw [setL_len L, List.length_set]
theorem less_setL (L : List (Nat × Option Slot)) {Γ : Gm} (h : noV Γ (L.map (·.1)) = true) : Less Γ (setL L Γ) := ⟨setL_len L Γ, fun i s q => by rw [setL_get L Γ i (noV_out h q)]; exact q⟩
/-- the slots of a list of names are told no more -/
def dropV (Γ : Gm) (vs : List Nat) : Gm := Γ.zipIdx.map fun p => if p.2 ∈ vs then none else p.1
theorem less_drop (Γ : Gm) (vs : List Nat) : Less (dropV Γ vs) Γ := by
  refine ⟨by unfold dropV; rw [List.length_map, List.length_zipIdx], fun i s q => ?_⟩
  unfold dropV at q
  rw [List.getElem?_map, List.getElem?_zipIdx] at q
  cases h : Γ[i]? with
  | none => rw [h] at q; cases q
  | some o =>
    rw [h] at q
    simp only [Option.map_some, Nat.zero_add, Option.some.injEq] at q
    split at q
    · cases q
    · rw [q]
end DL
end

section
/-! Dicts whose keys are ints or texts. -/
namespace DL
open PySem PySem.Spec PyProof.Rows L2
abbrev dkM (kv : List (Key × PyData)) : PyData := .dict ((PyData.none, PyData.bool false) :: kv.map fun p => (keyD p.1, p.2))
def keyB : PyData → Key
  | .int i => .inl i
  | .str x => .inr x
  | _ => .inl 0
theorem keyB_D (k : Key) : keyB (keyD k) = k := by cases k <;> rfl
theorem dkd_of {K : PySem.W.Frag} {F : Hp} {v : V} {kv : List (Key × PyData)} (h : Dd K F v (dkM kv)) : ∃ a es, v = .ref a ∧ F a = some (.dK es) ∧ Paired (KvE F) es kv := by
  have key : ∀ m : PyData, m = dkM kv → Dd K F v m → ∃ a es, v = .ref a ∧ F a = some (.dK es) ∧ Paired (KvE F) es kv := fun m em hm => by
    cases hm with
    | dkd h1 h2 =>
      rename_i a es kv'
      have e : kv' = kv := by
        have e1 := (List.cons.inj (PyData.dict.inj em)).2
        have e2 := congrArg (List.map fun p : PyData × PyData => (keyB p.1, p.2)) e1
        simpa [List.map_map, Function.comp_def, keyB_D] using e2
      subst e
      exact ⟨a, es, rfl, h1, h2⟩
    | dct h1 => cases em
    | scr h1 =>
      rename_i a ns
      cases ns with
      | nil => cases em
      | cons n r => cases em
    | _ => cases em
  exact key _ rfl h
theorem key_is {K : PySem.W.Frag} {F : Hp} {w : V} {k : Key} (h : Dd K F w (keyD k)) : w = kV k := by
  cases k <;> (cases h; rfl)
theorem LeafE.dd {K : PySem.W.Frag} {F : Hp} {v : V} {d : PyData} (h : LeafE F v d) : Dd K F v d := by
  cases h with
  | int i => exact .int i
  | two t => exact dd_two t
def Leaf (d : PyData) : Prop := (∃ i, d = .int i) ∨ ∃ p : Int × Int, d = twoD p
theorem leaf_of {K : PySem.W.Frag} {F : Hp} {v : V} {d : PyData} (h : Dd K F v d) (l : Leaf d) : LeafE F v d := by
  rcases l with ⟨i, rfl⟩ | ⟨p, rfl⟩
  · cases h; exact .int i
  · obtain ⟨b, rfl, t⟩ := pair_of h
    exact .two t
theorem find_nodup {es : List (Key × V)} {k : Key} {v : V} (hn : (es.map (·.1)).Nodup) (hm : (k, v) ∈ es) : valV es k = some v := by
  induction es with
  | nil => cases hm
  | cons e es ih =>
    rw [List.map_cons, List.nodup_cons] at hn
    unfold valV
    rcases List.mem_cons.mp hm with z | z
    · subst z
      rw [List.find?_cons_of_pos (by simp)]; rfl
    · have hne : ¬ e.1 = k := fun q => hn.1 (by rw [q]; exact List.mem_map.mpr ⟨_, z, rfl⟩)
      rw [List.find?_cons_of_neg (by simp [hne])]
      exact ih hn.2 z
theorem find_none {es : List (Key × V)} {k : Key} (hn : k ∉ es.map (·.1)) : valV es k = none := by
  unfold valV
  rw [Option.map_eq_none_iff, List.find?_eq_none]
  intro x hx
  have : ¬ x.1 = k := fun q => hn (List.mem_map.mpr ⟨x, hx, q⟩)
  simp [this]
theorem kv_keys {F : Hp} : ∀ {es : List (Key × V)} {kv : List (Key × PyData)}, Paired (KvE F) es kv → es.map (·.1) = kv.map (·.1)
  | _, _, .nil => rfl
  | _, _, .cons r t => by rw [List.map_cons, List.map_cons, kv_keys t, r.1]
section
variable {X : Cx} {Γ Γ1 Γ2 : Gm} {a b : Expr} {pos : Pos} {α : Type}
theorem ee_dkGet {kv : List (Key × PyData)} {k : Key} {d : PyData} {kk : Nat} (hr : Room kk X.A) (ha : Ee X Γ a (dkM kv) Γ1) (hb : Ee X Γ1 b (keyD k) Γ2) (hn : (kv.map (·.1)).Nodup) (hm : (k, d) ∈ kv) (hs : NoSl b := by exact fun _ _ => rfl) : Ee X Γ (.Subscript a b pos) d Γ2 :=
  pe_imp (pe_dget (by have := hr.un; omega) ha hb hs) fun σ H Q ⟨F, ev, x, kq⟩ => ⟨F, ev, x, fun v F1 H1 g1 e1 dv => ⟨F1, e1, g1.fh, fun w F2 H2 g2 e2 dw => by
    obtain ⟨c, es, rfl, h1, h2⟩ := dkd_of (dv.up g2.ff)
    obtain rfl := key_is dw
    obtain ⟨e, he, z1, z2⟩ := paired_mem h2 hm
    refine ⟨c, e.2, rfl, ?_, kq _ F2 H2 (g1.trans g2) e2 z2.dd⟩
    have := DGet.k (k := k) (g2.fh _ _ h1)
    rw [find_nodup (v := e.2) (by rw [kv_keys h2]; exact hn) (by rw [← show e.1 = k from z1]; exact he)] at this
    exact this⟩⟩
theorem put_new {kvs : List (Key × V)} {k : Key} {v : V} (hn : k ∉ kvs.map (·.1)) : putK kvs k v = kvs ++ [(k, v)] := by
  unfold putK
  rw [if_neg]
  intro h
  obtain ⟨e, he, q⟩ := List.any_eq_true.mp h
  exact hn (List.mem_map.mpr ⟨e, he, of_decide_eq_true q⟩)
theorem dk_read {xs : List α} {enc : α → PyData} {kf : α → Key} {vf : α → PyData} {Γt : α → Gm} {vs is : List Nat} {g : TG} {tk tv : TE} {wi : TI} (hv : noV Γ1 vs = true) (hless : ∀ x, x ∈ xs → Less Γ1 (Γt x)) (his : ∀ i ∈ is, i ∈ vs) (hsz : xs.length ≤ 16777216) (hnd : (xs.map kf).Nodup) (hlf : ∀ x ∈ xs, Leaf (vf x))
    (hw : ∀ σ H R, tIt X.K Γ (xs.map enc) Γ1 σ H R → wi σ H R) (hg : ∀ x, x ∈ xs → ∀ v σ H Q, tGt X.K Γ1 (enc x) is (Γt x) v σ H Q → g v σ H Q)
    (hk : ∀ x, x ∈ xs → ∀ σ H Q, tE X.K (Γt x) (keyD (kf x)) (Γt x) σ H Q → tk σ H Q) (he : ∀ x, x ∈ xs → ∀ σ H Q, tE X.K (Γt x) (vf x) (Γt x) σ H Q → tv σ H Q) :
    ∀ σ H Q, tE X.K Γ (dkM (xs.map fun x => (kf x, vf x))) Γ1 σ H Q → tDc wi g tYes tk tv vs σ H Q := by
  intro σ H Q ⟨F, ev, x, k⟩
  refine hw σ H _ ⟨F, ev, x, fun J F1 H1 g1 e1 hW => fun D hD => ?_⟩
  have nD : ¬ Own σ Γ1 D := fun o => by
    obtain ⟨_, ys, z⟩ := e1.own_at o
    rw [hD] at z; cases z
  have ag : wipe (wipe σ vs) vs = wipe σ vs := wipe_idem σ vs
  let kv : α → Key × PyData := fun x => (kf x, vf x)
  let St : Nat → Hp → Prop := fun i H2 => ∃ F2 es, EnvOk X.K F2 H2 σ Γ1 ∧ Gr F1 H1 (Own σ Γ1) F2 H2 (Own σ Γ1) ∧ F2 D = none ∧ H2 D = some (.dK es) ∧ Paired (KvE F2) es ((xs.take i).map kv)
  refine ⟨fun i m H2 => m = xs.length - i ∧ i ≤ xs.length ∧ St i H2, ⟨xs.length, by omega, Nat.zero_le _, F1, [], e1.newH hD, Gr.newH g1.fh hD, g1.fh.free hD, upd_same, .nil⟩, ?_⟩
  rintro i m H2 ⟨rfl, hi, F2, es, e2, g2, hF2, hH2, hd2⟩
  have wk := hW i F2 H2 g2.ff g2.fh
  by_cases hlt : i < xs.length
  · have hx : xs[i]? = some xs[i] := List.getElem?_eq_getElem hlt
    have hxm : xs[i] ∈ xs := List.getElem_mem hlt
    obtain ⟨go, yl⟩ := wk.1 (enc xs[i]) (by rw [List.getElem?_map, hx]; rfl)
    refine .inr ⟨go, St (i + 1), fun H3 z => ⟨xs.length - (i + 1), by omega, rfl, hlt, z⟩, fun y H3 hy => ?_⟩
    obtain ⟨F3, y1, y2, y3, y4, dy⟩ := yl y H3 hy
    have g23 : Gr F2 H2 (Own σ Γ1) F3 H3 (Own σ Γ1) := Gr.ext y1 y2 y3 y4
    have hD3 := g23.keepD hH2 hF2 nD
    refine hg xs[i] hxm y _ H3 _ ⟨F3, (e2.keep y1 y3 y4).agree hv ag.symm, y2, dy, fun σ4 F4 H4 g4 e4 w4 => ?_⟩
    have w4' := w4 vs his
    rw [ag] at w4'
    refine ⟨w4', ?_⟩
    have l4 := hless xs[i] hxm
    have g34 : Gr F3 H3 (Own σ Γ1) F4 H4 (Own σ4 (Γt xs[i])) := g4.left fun a o => own_agree hv ag o
    have back : ∀ a, Own σ Γ1 a → Own σ4 (Γt xs[i]) a := fun a o => l4.own (own_agree hv w4'.symm o)
    have nD4 : ¬ Own σ4 (Γt xs[i]) D := fun o => (g34.aa D o).elim nD fun z => by rw [hD3.1] at z; cases z
    have hD4 := g34.keepD hD3.1 hD3.2 nD
    refine hk xs[i] hxm σ4 H4 _ ⟨F4, e4, g34.fh, fun v5 F5 H5 g5 e5 dv5 => ?_⟩
    have hD5 := g5.keepD hD4.1 hD4.2 nD4
    refine he xs[i] hxm σ4 H5 _ ⟨F5, e5, g5.fh, fun v6 F6 H6 g6 e6 dv6 => ?_⟩
    have hD6 := g6.keepD hD5.1 hD5.2 nD4
    have g26 := g23.trans ((g34.trans g5).trans g6)
    obtain rfl := key_is dv5
    have tc := leaf_of dv6 (hlf _ hxm)
    have hes : Paired (KvE F6) es ((xs.take i).map kv) := Paired.mapP hd2 fun _ _ z => z.up g26.ff
    have hel : es.length = i := by
      rw [Paired.length hes, List.length_map, List.length_take]
      omega
    have hnot : kf xs[i] ∉ es.map (·.1) := by
      rw [kv_keys hes]
      intro hin
      obtain ⟨e, hh, q⟩ := List.mem_map.mp hin
      obtain ⟨z, hz, rfl⟩ := List.mem_map.mp hh
      have q1 : kf z = kf xs[i] := q
      obtain ⟨j, hj, hzj⟩ := List.getElem_of_mem hz
      rw [List.length_take] at hj
      rw [List.getElem_take] at hzj
      have := (List.getElem_inj (i := j) (j := i) (h₀ := by rw [List.length_map]; omega) (h₁ := by rw [List.length_map]; omega) hnd).mp (by rw [List.getElem_map, List.getElem_map, hzj]; exact q1)
      omega
    refine ⟨es, kf xs[i], rfl, hD6.1, by rw [sizeLine_eq]; omega, F6, es ++ [(kf xs[i], v6)], ((l4.env e6).agree hv w4').mutOther nD, ((g2.trans g26).right back).mutNew hD hD6.2, hD6.2, ?_, ?_⟩
    · rw [put_new hnot, upd_same]
    · rw [List.take_add_one, hx, List.map_append]
      exact paired_snoc ⟨rfl, tc⟩ hes
  · have hie : i = xs.length := by omega
    subst hie
    refine .inl ⟨wk.2 (by rw [List.length_map]; exact Nat.le_refl _), ?_⟩
    rw [List.take_of_length_le (Nat.le_refl _)] at hd2
    exact k (.ref D) _ H2 ((g1.trans g2).frozO hF2 (g1.free hD) hH2) (e2.frozO hF2 nD) (.dkd upd_same (Paired.mapP hd2 fun _ _ z => z.up (Ext.new hF2)))
/-- {k: v for x in xs}, keys ints or texts -/
theorem ee_dkC {kx vx tg iter : Expr} {scope : Scope} {own : List (Str × Nat)} {pos : Pos} {kk : Nat} (xs : List α) (enc : α → PyData) (kf : α → Key) (vf : α → PyData) (Γt : α → Gm) (is : List Nat) (hr : Room kk X.A) (hc : X.calm = true) (hN : X.N.Nodup) (ok : BlkOk X.N X.env.scope scope own) (hv : noV Γ1 (own.map (·.2)) = true)
    (his : ∀ i ∈ is, i ∈ own.map (·.2)) (hsz : xs.length ≤ 16777216) (hnd : (xs.map kf).Nodup) (hlf : ∀ x ∈ xs, Leaf (vf x)) (hless : ∀ x, x ∈ xs → Less Γ1 (Γt x)) (hi : Ei X Γ tg iter (xs.map enc) Γ1)
    (hg : ∀ x, x ∈ xs → InBlk X scope fun Y => Eg Y Γ1 tg (enc x) is (Γt x)) (hk : ∀ x, x ∈ xs → InBlk X scope fun Y => Ee Y (Γt x) kx (keyD (kf x)) (Γt x)) (he : ∀ x, x ∈ xs → InBlk X scope fun Y => Ee Y (Γt x) vx (vf x) (Γt x))
    (hs : ∀ x, foldedSetIterable iter X.env x = pure x := by intro _; rfl) : Ee X Γ (.DictComp kx vx [⟨tg, iter, [], 0⟩] scope pos) (dkM (xs.map fun x => (kf x, vf x))) Γ1 :=
  pe_imp (pe_dc (g := fun v σ H Q => ∃ x, x ∈ xs ∧ tGt X.K Γ1 (enc x) is (Γt x) v σ H Q) (tk := fun σ H Q => ∃ x, x ∈ xs ∧ tE X.K (Γt x) (keyD (kf x)) (Γt x) σ H Q) (tv := fun σ H Q => ∃ x, x ∈ xs ∧ tE X.K (Γt x) (vf x) (Γt x) σ H Q) hc hN hi ok
    (fun s H C cl fp => ⟨fun pins s' σ H' v u Q I r ⟨x, hx, hh⟩ => (hg x hx s H C cl fp).run pins s' σ H' v u Q I r hh⟩)
    (fun s H C cl fp => pts_nil)
    (fun s H C cl fp => ⟨fun pins s' σ H' Q I ⟨x, hx, hh⟩ => (hk x hx s H C cl fp).run pins s' σ H' Q I hh⟩)
    (fun s H C cl fp => ⟨fun pins s' σ H' Q I ⟨x, hx, hh⟩ => (he x hx s H C cl fp).run pins s' σ H' Q I hh⟩) hs)
    (dk_read hv hless his hsz hnd hlf (fun σ H R z => z) (fun x hx v σ H Q z => ⟨x, hx, z⟩) (fun x hx σ H Q z => ⟨x, hx, z⟩) (fun x hx σ H Q z => ⟨x, hx, z⟩))
/-- list(range(m, n)) -/
theorem en_listRg2 {e e2 : Expr} {p1 p2 pp : Pos} {m n : Nat} (hc : X.calm = true) (hl : X.mg "list" = none) (hr : X.mg "range" = none) (ha : Ee X Γ e (.int m) Γ1) (hb : Ee X Γ1 e2 (.int n) Γ2) (hm : m ≤ 16777216) (hn : n ≤ 16777216) (hg : Gl X "list" := by rfl) (hg2 : Gl X "range" := by rfl)
    (na : starEach [e, e2] X.env = (false, eval e X.env) :: starEach [e2] X.env := by rfl) (nb : starEach [e2] X.env = (false, eval e2 X.env) :: starEach [] X.env := by rfl) (hp : (backTo p2 (starEach [e2] X.env)).any (·.1) = false := by rfl)
    (na2 : starEach [Expr.Call (.Name "range" p1) [e, e2] [] p2] X.env = (false, eval (Expr.Call (.Name "range" p1) [e, e2] [] p2) X.env) :: starEach [] X.env := by rfl) :
    En X Γ (.Call (.Name "list" pp) [.Call (.Name "range" p1) [e, e2] [] p2] [] pos) ((List.range (n - m)).map fun i : Nat => PyData.int ((m + i : Nat) : Int)) Γ2 :=
  pe_imp (pe_listRg hc hg hl (prg_2 hg2 hr ha hb na nb hp) na2) fun σ H Q ⟨F, ev, x, k⟩ => ⟨F, ev, x, fun v F1 H1 g1 e1 dv => ⟨F1, e1, g1.fh, fun w F2 H2 g2 e2' dw => by
    cases dv; cases dw
    refine ⟨m, n, rfl, rfl, RgOk.of_le (by omega) (by omega) (by omega) (by omega), ?_⟩
    have h := dda_range (K := X.K) (F := F2) (m : Int) (n : Int)
    have e2 : ((n : Int) - (m : Int)).toNat = n - m := by omega
    rw [e2] at h
    exact tN_new (g1.trans g2) e2' h k⟩⟩
end
end DL
end

section
/-! t[::-1] of a tuple. -/
namespace DL
open PySem PySem.Spec PyProof.Rows L2
section
variable {prog : Program} {w : World} {A : Around} {s : Shared} {E : Value → Shared → Prop}
theorem rev_parts {sl : Addr} {vl vu vs : Value} {n : Nat} {Q : Int × Int × Nat → Shared → Prop} (hs : s.heap.IsSliceOf sl vl vu vs) (pl : IsPart vl none) (pu : IsPart vu none) (ps : IsPart vs (some (-1))) (h : Q ((n : Int) - 1, -1, n) s) :
    wpAny (model prog w) A (Builtin.Slice.sliceApplied (.ref sl) (pure (n : Int))) Q E s := by
  obtain ⟨ob, ho, hc, hd⟩ := id hs
  unfold Builtin.Slice.sliceApplied Builtin.Slice.sliceFields
  refine wpAny_bind (wpAny_bind (wpAny_field ho hd (x := vl) rfl (wpAny_bind (wpAny_field ho hd (x := vu) rfl (wpAny_bind (wpAny_field ho hd (x := vs) rfl (wpAny_pure ?_)))))))
  refine wpAny_bind (HT.slicePart_ ps ?_)
  show wpAny _ _ (if ((-1 : Int) == 0) = true then _ else _) _ _ s
  rw [if_neg (by decide)]
  refine wpAny_bind (HT.slicePart_ pl (wpAny_bind (HT.slicePart_ pu (wpAny_bind (wpAny_pure ?_)))))
  have e : Builtin.Slice.slicePlaces ((n : Int) - 1) (-1) (-1) = n := by
    unfold Builtin.Slice.slicePlaces
    rw [if_neg (by decide)]
    split
    · rw [show (- -1 : Int) = 1 by decide, Int.ediv_one]; omega
    · omega
  show wpAny _ _ (pure ((n : Int) - 1, (-1 : Int), Builtin.Slice.slicePlaces ((n : Int) - 1) (-1) (-1))) Q E s
  rw [e]
  exact wpAny_pure h
theorem back_row {α : Type} (l : List α) : ((List.range l.length).filterMap fun (k : Nat) => l[((l.length : Int) - 1 + (k : Int) * -1).toNat]?) = l.reverse := by
  rw [← range_get l.reverse, List.length_reverse]
  have go : ∀ ks : List Nat, (∀ k ∈ ks, k < l.length) → (ks.filterMap fun (k : Nat) => l[((l.length : Int) - 1 + (k : Int) * -1).toNat]?) = ks.filterMap fun k => l.reverse[k]? := by
    intro ks
    induction ks with
    | nil => intro _; rfl
    | cons k ks ih =>
      intro h
      have hk := h k List.mem_cons_self
      have e : l[((l.length : Int) - 1 + (k : Int) * -1).toNat]? = l.reverse[k]? := by
        rw [List.getElem?_reverse hk, show ((l.length : Int) - 1 + (k : Int) * -1).toNat = l.length - 1 - k by omega]
      rw [List.filterMap_cons, List.filterMap_cons, e, ih fun y hy => h y (List.mem_cons_of_mem _ hy)]
  exact go _ fun k hk => List.mem_range.mp hk
theorem tuple_back {t sl : Addr} {its : List Value} {vl vu vs : Value} {Q : Value → Shared → Prop} (ht : IsTup s.heap t its.toArray) (hs : s.heap.IsSliceOf sl vl vu vs) (pl : IsPart vl none) (pu : IsPart vu none) (ps : IsPart vs (some (-1)))
    (h : Q (.ref s.heap.objs.size) { s with heap := s.heap.push { cls := .type "tuple", data := .seq its.reverse.toArray } }) (hz : its.length ≤ sizeLine) : wpAny (model prog w) A (getItem (.ref t) (.ref sl)) Q E s := by
  have fit : sizeOk (.seq its.reverse.toArray) := by
    show its.reverse.toArray.size ≤ sizeLine
    rw [List.size_toArray, List.length_reverse]; exact hz
  obtain ⟨ob, ho, hc, hd⟩ := id hs
  have hT : s.TypeIs (.ref sl) "slice" := ⟨ob, ho, hc⟩
  unfold getItem
  try with_reducible refine wpAny_holding ?_
  first | refine wpAny_bind (wpAny_pure ?_) | skip
  refine wpAny_bind (wpAny_sequenceKey ht.typeIs (by decide) ?_)
  refine wpAny_bind (wpAny_callSpecial?_slot (name := Str.ofString "__getitem__") ht.typeIs PyProof.Rows.slot_tuple_getitem (wpAny_call_entry PyProof.Rows.slot_tuple_getitem ht.typeIs entry_tuple_getitem ?_ (args_tuple_getitem _ _)))
  show wpAny _ _ (Builtin.Tuple.tupleItemsOf (.ref t) >>= _) _ _ s
  refine wpAny_bind (tupleItemsOf_ ht (wpAny_bind (wpAny_typeOf hT ?_)))
  rw [if_pos (by decide)]
  rw [show (its.toArray.size : Int) = (its.length : Int) by rw [List.size_toArray]]
  refine wpAny_bind (rev_parts hs pl pu ps ?_)
  have no : ¬ (((its.length : Int) - 1 == 0 && (-1 : Int) == 1 && its.length == its.toArray.size) = true) := by
    intro q
    rw [Bool.and_eq_true, Bool.and_eq_true] at q
    have := eq_of_beq q.1.2
    omega
  show wpAny _ _ (if ((its.length : Int) - 1 == 0 && (-1 : Int) == 1 && its.length == its.toArray.size) = true then _ else _) _ _ s
  rw [if_neg no]
  have e := back_row its
  have e2 : ((List.range its.length).filterMap fun (k : Nat) => its.toArray[((its.length : Int) - 1 + (k : Int) * -1).toNat]?) = its.reverse := by
    rw [← e]
    refine congrArg (fun f => List.filterMap f _) ?_
    funext k
    simp
  rw [e2]
  first
    | exact wpAny_bind (m := Builtin.Tuple.tupleExact _) (wpAny_newObj_type (wpAny_pure ⟨_, rfl, wpAny_pure h⟩) fit)
    | exact wpAny_bind (m := Builtin.Tuple.tupleExact _) (wpAny_newObj_type (wpAny_bind (wpAny_pure (wpAny_pure ⟨_, rfl, wpAny_pure h⟩))) fit)
    | exact wpAny_bind (wpAny_bind (m := Builtin.Tuple.tupleExact _) (wpAny_newObj_type (wpAny_pure (wpAny_pure ⟨_, rfl, wpAny_pure h⟩)) fit))
    | exact wpAny_bind (wpAny_bind (m := Builtin.Tuple.tupleExact _) (wpAny_newObj_type (wpAny_pure ⟨_, rfl, wpAny_pure h⟩) fit))
end
section
variable {X : Cx} {Γ Γ1 : Gm} {e : Expr} {ds : List PyData} {pos : Pos}
theorem dda_rev {K : PySem.W.Frag} {F : Hp} {xs : List V} {ds : List PyData} (h : DdA K F xs ds) : DdA K F xs.reverse ds.reverse := by
  rw [← pick_rev, ← pick_rev]
  unfold pick
  rw [h.len]
  exact dda_pick h _
theorem vals_rev {xs : List V} {us : List Value} (h : Vals xs us) : Vals xs.reverse us.reverse := by
  rw [← pick_rev, ← pick_rev]
  unfold pick
  rw [h.length]
  exact vals_pick h _
theorem ee_revBy {st : Expr} {ts : TE} {p3 : Pos} (he : Ee X Γ e (.tuple ds) Γ1) (hst : PE X st ts) (hs : ∀ σ H Q, Q (.int (-1)) H → ts σ H Q)
    (hop : subscriptTail e (.Slice none none (some st) p3) = subscriptTail e (.Slice none none (some st) p3) := by rfl) : Ee X Γ (.Subscript e (.Slice none none (some st) p3) pos) (.tuple ds.reverse) Γ1 := by
  refine ⟨fun pins s σ H Q I h => ?_⟩
  obtain ⟨F, ev, x, kq⟩ := h
  refine Subscript_ (thn (he.run pins s σ H (fun v H1 => ∃ F1, Gr F H (Own σ Γ) F1 H1 (Own σ Γ1) ∧ EnvOk X.K F1 H1 σ Γ1 ∧ Dd X.K F1 v (.tuple ds)) I ⟨F, ev, x, fun v F1 H1 g1 e1 dv => ⟨F1, g1, e1, dv⟩⟩) fun v s1 hh => ?_)
  obtain ⟨u, H1, I1, r1, F1, g1, e1, dv⟩ := hh
  obtain ⟨p, ob, xs, rfl, _, _, hS, hA⟩ := dv.tupAt g1.fh
  cases r1
  refine wpAny_Slice (thn (po_none.run pins s1 σ H1 (fun o H2 => o = none ∧ H2 = H1) I1 ⟨rfl, rfl⟩) fun vl s2 ⟨ol, H2, I2, pl, el, e2⟩ => ?_)
  subst el e2
  refine thn (po_none.run pins s2 σ H2 (fun o H3 => o = none ∧ H3 = H2) I2 ⟨rfl, rfl⟩) fun vu s3 ⟨u, H3, I3, pu, eu, e3⟩ => ?_
  subst eu e3
  refine thn ((po_some hst).run pins s3 σ H3 (fun o H4 => o = some (-1) ∧ H4 = H3) I3 (hs _ _ _ ⟨-1, rfl, rfl, rfl⟩)) fun vs s4 ⟨o, H4, I4, ps, eo, e4⟩ => ?_
  subst eo e4
  have I5 : Inv X pins σ H4 { s4 with heap := s4.heap.push { cls := .type "slice", data := .fields #[vl, vu, vs] } } := I4.kept (t' := s4.toks) fun b ob q => Heap.get?_push_of_some _ q
  obtain ⟨its, r, ht, hz⟩ := I5.tuple hS
  have hlen := r.length
  show wpAny (model X.prog X.w) X.A (subscriptTail e (.Slice none none (some st) p3) (.ref p) (.ref s4.heap.objs.size)) (EP X pins σ Q) X.xe { s4 with heap := s4.heap.push { cls := .type "slice", data := .fields #[vl, vu, vs] } }
  refine tail_any (ops := [.ref p, .ref s4.heap.objs.size]) ht.typeIs (PyProof.Rows.slot_tuple_getitem.lookup) ?_ (by with_unfolding_all rfl)
  refine tuple_back ht (Heap.IsSliceOf.new _ vl vu vs) pl pu ps ?_ (by omega)
  exact tup_end I5 (vals_rev r) (by rw [List.length_reverse]; omega) (tupNew_of g1 e1 (dda_rev hA) kq)
/-- t[::-1] -/
theorem ee_revT {kk : Nat} {p1 p2 p3 : Pos} (he : Ee X Γ e (.tuple ds) Γ1) (hop : subscriptTail e (.Slice none none (some (.UnaryOp .USub (.Constant (.int 1) kk p1) p2)) p3) = subscriptTail e (.Slice none none (some (.UnaryOp .USub (.Constant (.int 1) kk p1) p2)) p3) := by rfl) :
    Ee X Γ (.Subscript e (.Slice none none (some (.UnaryOp .USub (.Constant (.int 1) kk p1) p2)) p3) pos) (.tuple ds.reverse) Γ1 :=
  ee_revBy he (pe_un un_neg pe_int) (fun σ H Q q => ⟨1, rfl, q⟩) hop
end
end DL
end

section
/-! A list of lists of the frame's own, changed in place: its name's slot tells its address, the rows stand beside. -/
namespace DL
open PySem PySem.Spec PyProof.Rows L2
def Tb (l : Addr) (rs : List Addr) (a : Addr) : Prop := a = l ∨ a ∈ rs
def RowAt (K : PySem.W.Frag) (F H : Hp) (r : Addr) (row : List PyData) : Prop := F r = none ∧ ∃ xs, H r = some (.lst xs) ∧ ∀ F', DdA K F' xs row
structure Tab (K : PySem.W.Frag) (F H : Hp) (l : Addr) (rs : List Addr) (rows : List (List PyData)) : Prop where
  fl : F l = none
  hl : H l = some (.lst (rs.map V.ref))
  nd : rs.Nodup
  nl : l ∉ rs
  at_ : Paired (RowAt K F H) rs rows
/-- no slot is a list of the frame's own -/
def noOwn (Γ : Gm) : Prop := ∀ (i : Nat) (s : Slot), Γ[i]? = some (some s) → isOw s = false
def noOwnB (Γ : Gm) : Bool := Γ.all fun o => match o with
  | some s => !isOw s
  | none => true
theorem noOwn_of {Γ : Gm} (h : noOwnB Γ = true) : noOwn Γ := fun i s q => by
  have := List.all_eq_true.mp h (some s) (List.mem_of_getElem? q)
  simpa using this
theorem noOwn.no {Γ : Gm} (h : noOwn Γ) {σ : L2.St} {a : Addr} : ¬ Own σ Γ a := fun ⟨i, s, h1, h2, _⟩ => by rw [h i s h1] at h2; cases h2
/-- no content of a leaf hangs on the heap -/
def LeafD (K : PySem.W.Frag) (d : PyData) : Prop := ∀ F F' v, Dd K F v d → Dd K F' v d
theorem leaf_int {K : PySem.W.Frag} (i : Int) : LeafD K (.int i) := fun F F' v h => by cases h; exact .int i
theorem leaf_none {K : PySem.W.Frag} : LeafD K .none := fun F F' v h => by cases h; exact .non
theorem leaf_bool {K : PySem.W.Frag} (b : Bool) : LeafD K (.bool b) := fun F F' v h => by cases h; exact .bl b
section
variable {K : PySem.W.Frag} {F H F' H' : Hp} {l : Addr} {rs : List Addr} {rows : List (List PyData)} {σ σ' : L2.St} {Γ Γ' : Gm}
theorem Tab.notF (t : Tab K F H l rs rows) {a : Addr} (h : Tb l rs a) : F a = none := by
  rcases h with h | h
  · rw [h]; exact t.fl
  · obtain ⟨_, _, r⟩ := paired_memL t.at_ h
    exact r.1
theorem Tab.inH (t : Tab K F H l rs rows) {a : Addr} (h : Tb l rs a) : ∃ o, H a = some o := by
  rcases h with h | h
  · rw [h]; exact ⟨_, t.hl⟩
  · obtain ⟨_, _, r⟩ := paired_memL t.at_ h
    obtain ⟨_, xs, h1, _⟩ := r
    exact ⟨_, h1⟩
theorem Tab.move (t : Tab K F H l rs rows) (hh : Ext H H') (hF : ∀ a, Tb l rs a → F' a = none) : Tab K F' H' l rs rows := by
  refine ⟨hF _ (.inl rfl), hh _ _ t.hl, t.nd, t.nl, ?_⟩
  have go : ∀ {ss : List Addr} {qs : List (List PyData)}, Paired (RowAt K F H) ss qs → (∀ a ∈ ss, F' a = none) → Paired (RowAt K F' H') ss qs := by
    intro ss qs p
    induction p with
    | nil => intro _; exact .nil
    | cons r _ ih =>
      intro hs
      obtain ⟨_, xs, h1, h2⟩ := r
      exact .cons ⟨hs _ List.mem_cons_self, xs, hh _ _ h1, h2⟩ (ih fun a ha => hs a (List.mem_cons_of_mem _ ha))
  exact go t.at_ fun a ha => hF a (.inr ha)
/-- a growth of a frame without own lists leaves the table alone -/
theorem Gr.ext_of {A A' : Addr → Prop} (g : Gr F H A F' H' A') (h : ∀ a, ¬ A a) : Ext H H' := fun a o q => (g.hh a o q).elim id fun z => absurd z (h a)
theorem Tab.grow {A A' : Addr → Prop} (t : Tab K F H l rs rows) (g : Gr F H A F' H' A') (h : ∀ a, ¬ A a) : Tab K F' H' l rs rows :=
  t.move (g.ext_of h) fun a ha => by
    cases q : F' a with
    | none => rfl
    | some o =>
      rcases g.nw a (by rw [q]; exact Option.some_ne_none o) with z | z | z
      · exact absurd (t.notF ha) z
      · obtain ⟨o', e⟩ := t.inH ha
        rw [e] at z; cases z
      · exact absurd z (h a)
theorem Gr.widen {A A' B : Addr → Prop} (g : Gr F H A F' H' A') (h : ∀ a, ¬ A a) : Gr F H B F' H' B :=
  Gr.ext g.ff g.fh (g.ext_of h) fun a q => (g.nw a q).elim .inl fun z => z.elim .inr fun z => absurd z (h a)
/-- a statement that changes the table -/
def tTs (K : PySem.W.Frag) (l : Addr) (Γ : Gm) (rows : List (List PyData)) (Γ' : Gm) (rows' : List (List PyData)) : TS := fun D σ H => ∃ F rs, EnvOk K F H σ Γ ∧ Ext F H ∧ Tab K F H l rs rows ∧
  ∀ σ' F' H' rs', Gr F H (Tb l rs) F' H' (Tb l rs') → EnvOk K F' H' σ' Γ' → Tab K F' H' l rs' rows' → D.nx σ' H'
def EsT (X : Cx) (l : Addr) (Γ : Gm) (rows : List (List PyData)) (st : Stmt) (Γ' : Gm) (rows' : List (List PyData)) : Prop := PS X st (tTs X.K l Γ rows Γ' rows')
def EssT (X : Cx) (l : Addr) (Γ : Gm) (rows : List (List PyData)) (sts : List Stmt) (Γ' : Gm) (rows' : List (List PyData)) : Prop := PSs X sts (tTs X.K l Γ rows Γ' rows')
def EeT (X : Cx) (l : Addr) (Γ : Gm) (rows : List (List PyData)) (e : Expr) (d : PyData) : Prop := PE X e (fun σ H Q => ∃ F rs, EnvOk X.K F H σ Γ ∧ Ext F H ∧ Tab X.K F H l rs rows ∧
  ∀ v F' H', Gr F H (Tb l rs) F' H' (Tb l rs) → EnvOk X.K F' H' σ Γ → Tab X.K F' H' l rs rows → (∀ F2, Dd X.K F2 v d) → Q v H')
def EtT (X : Cx) (l : Addr) (Γ : Gm) (rows : List (List PyData)) (e : Expr) (p : Bool) : Prop := PT X e (fun σ H Q => ∃ F rs, EnvOk X.K F H σ Γ ∧ Ext F H ∧ Tab X.K F H l rs rows ∧
  ∀ F' H', Gr F H (Tb l rs) F' H' (Tb l rs) → EnvOk X.K F' H' σ Γ → Tab X.K F' H' l rs rows → Q p H')
end
section
variable {X : Cx} {l : Addr} {Γ Γ1 Γ' : Gm} {rows rows1 rows' : List (List PyData)} {st : Stmt} {sts rest body orelse : List Stmt} {e c : Expr} {d : PyData} {p : Bool} {pos : Pos}
theorem esT_lift (h : Es X Γ st (.nx Γ')) (hn : noOwn Γ) : EsT X l Γ rows st Γ' rows :=
  ps_imp h fun D σ H ⟨F, rs, ev, x, t, k⟩ => ⟨F, ev, x, fun σ' F' H' g e' => k σ' F' H' rs (g.widen fun _ => hn.no) e' (t.grow g fun _ => hn.no)⟩
theorem essT_nil : EssT X l Γ rows [] Γ rows := pss_imp pss_nil fun D σ H ⟨F, rs, ev, x, t, k⟩ => k σ F H rs (Gr.refl x) ev t
theorem essT_cons (h1 : EsT X l Γ rows st Γ1 rows1) (h2 : EssT X l Γ1 rows1 rest Γ' rows') : EssT X l Γ rows (st :: rest) Γ' rows' :=
  pss_imp (pss_cons h1 h2) fun D σ H ⟨F, rs, ev, x, t, k⟩ => ⟨F, rs, ev, x, t, fun σ1 F1 H1 rs1 g1 e1 t1 => ⟨F1, rs1, e1, g1.fh, t1, fun σ' F' H' rs' g' e' t' => k σ' F' H' rs' (g1.trans g') e' t'⟩⟩
theorem essT_one (h1 : EsT X l Γ rows st Γ' rows') : EssT X l Γ rows [st] Γ' rows' := essT_cons h1 essT_nil
theorem essT_wk {Γ2 : Gm} (h : EssT X l Γ rows sts Γ' rows') (hl : Less Γ2 Γ') : EssT X l Γ rows sts Γ2 rows' :=
  pss_imp h fun D σ H ⟨F, rs, ev, x, t, k⟩ => ⟨F, rs, ev, x, t, fun σ' F' H' rs' g e t' => k σ' F' H' rs' g (hl.env e) t'⟩
theorem esT_ifT (hc : EtT X l Γ rows c true) (h : EssT X l Γ rows body Γ' rows') : EsT X l Γ rows (.If c body orelse pos) Γ' rows' :=
  ps_imp (ps_if hc h (pss_guard (φ := False) (fun z => z.elim) (t := fun _ _ _ => False))) fun D σ H ⟨F, rs, ev, x, t, k⟩ => ⟨F, rs, ev, x, t, fun F1 H1 g1 e1 t1 =>
    iteT ⟨F1, rs, e1, g1.fh, t1, fun σ' F' H' rs' g' e' t' => k σ' F' H' rs' (g1.trans g') e' t'⟩⟩
theorem esT_ifF (hc : EtT X l Γ rows c false) (h : EssT X l Γ rows orelse Γ' rows') : EsT X l Γ rows (.If c body orelse pos) Γ' rows' :=
  ps_imp (ps_if hc (pss_guard (φ := False) (fun z => z.elim) (t := fun _ _ _ => False)) h) fun D σ H ⟨F, rs, ev, x, t, k⟩ => ⟨F, rs, ev, x, t, fun F1 H1 g1 e1 t1 =>
    iteF ⟨F1, rs, e1, g1.fh, t1, fun σ' F' H' rs' g' e' t' => k σ' F' H' rs' (g1.trans g') e' t'⟩⟩
theorem esT_set (n : Nat) {x : Str} {pos' : Pos} (hN : X.N.Nodup) (he : EeT X l Γ rows e d) (hi : X.N[n]? = some x := by rfl) (hx : Loc X.env.scope x := by first | exact Or.inl rfl | exact Or.inr rfl) (hl : Γ[n]?.isSome = true := by rfl) (hs : swapsWith e (some (.Name x pos')) pos.line X.env = pure false := by rfl) (hf : X.fn x = true ∨ X.env.scope.names.lookup x = some .local := by first | exact .inl rfl | exact .inr rfl) :
    EsT X l Γ rows (.Assign [.Name x pos'] e pos) (Γ.set n (some (.im d))) rows :=
  ps_imp (ps_set hN hi hx he hs hf) fun D σ H ⟨F, rs, ev, xt, t, k⟩ => ⟨F, rs, ev, xt, t, fun v F1 H1 g1 e1 t1 dv => by
    have hn : n < Γ.length := by
      cases h : Γ[n]? with
      | none => rw [h] at hl; cases hl
      | some z => exact (List.getElem?_eq_some_iff.mp h).1
    exact k (σ.set n (some v)) F1 H1 rs g1 (e1.store (dv F1) hn) t1⟩
/-! reading: the rows are data while an expression is worked out -/
section
variable {K : PySem.W.Frag} {F H F' H' : Hp} {rs : List Addr} {σ : L2.St} {n : Nat}
open Classical in
noncomputable def frzT (F H : Hp) (l : Addr) (rs : List Addr) : Hp := fun a => if Tb l rs a then H a else F a
open Classical in
noncomputable def thwT (F : Hp) (l : Addr) (rs : List Addr) : Hp := fun a => if Tb l rs a then none else F a
theorem frz_in {a : Addr} (h : Tb l rs a) : frzT F H l rs a = H a := by unfold frzT; rw [if_pos h]
theorem frz_out {a : Addr} (h : ¬ Tb l rs a) : frzT F H l rs a = F a := by unfold frzT; rw [if_neg h]
theorem thw_in {a : Addr} (h : Tb l rs a) : thwT F l rs a = none := by unfold thwT; rw [if_pos h]
theorem thw_out {a : Addr} (h : ¬ Tb l rs a) : thwT F l rs a = F a := by unfold thwT; rw [if_neg h]
theorem frz_up (t : Tab K F H l rs rows) : Ext F (frzT F H l rs) := fun a o h => by
  by_cases q : Tb l rs a
  · rw [t.notF q] at h; cases h
  · rw [frz_out q]; exact h
theorem frz_fh (x : Ext F H) : Ext (frzT F H l rs) H := fun a o h => by
  by_cases q : Tb l rs a
  · rw [frz_in q] at h; exact h
  · rw [frz_out q] at h; exact x a o h
theorem frz_list (t : Tab K F H l rs rows) : Dd K (frzT F H l rs) (.ref l) (.list (rows.map .list)) := by
  refine .lst (by rw [frz_in (.inl rfl)]; exact t.hl) ?_
  have go : ∀ {ss : List Addr} {qs : List (List PyData)}, Paired (RowAt K F H) ss qs → (∀ a ∈ ss, a ∈ rs) → DdA K (frzT F H l rs) (ss.map V.ref) (qs.map .list) := by
    intro ss qs p
    induction p with
    | nil => intro _; exact .nil
    | cons r _ ih =>
      intro hs
      obtain ⟨_, xs, h1, h2⟩ := r
      exact .cons (.lst (by rw [frz_in (.inr (hs _ List.mem_cons_self))]; exact h1) (h2 _)) (ih fun a ha => hs a (List.mem_cons_of_mem _ ha))
  exact go t.at_ fun a ha => ha
theorem frz_env (hn : noOwn Γ) (hΓ : Γ[n]? = some (some (.ad (.ref l)))) (t : Tab K F H l rs rows) (ev : EnvOk K F H σ Γ) : EnvOk K (frzT F H l rs) H σ (Γ.set n (some (.im (.list (rows.map .list))))) := by
  have no : noOwn (Γ.set n (some (.im (.list (rows.map .list))))) := fun i s q => by
    rcases get_set_some q with ⟨_, e, _⟩ | ⟨_, q2⟩
    · rw [← Option.some.inj e]; rfl
    · exact hn i s q2
  refine ⟨by rw [List.length_set]; exact ev.len, fun i s q => ?_, fun i j s u a b _ hs _ _ _ => by rw [no i s b] at hs; cases hs⟩
  rcases get_set_some q with ⟨rfl, e, _⟩ | ⟨_, q2⟩
  · rw [← Option.some.inj e]
    obtain ⟨v, v1, v2⟩ := ev.ats _ _ hΓ
    have v2 : v = .ref l := v2
    subst v2
    exact ⟨_, v1, frz_list t⟩
  · obtain ⟨v, v1, v2⟩ := ev.ats _ _ q2
    refine ⟨v, v1, ?_⟩
    cases s with
    | im d => exact v2.up (frz_up t)
    | ad u => exact v2
    | ow ds => have := hn i _ q2; cases this
    | pr a ds => have := hn i _ q2; cases this
theorem set_noOwn (hn : noOwn Γ) : noOwn (Γ.set n (some (.im d))) := fun i s q => by
  rcases get_set_some q with ⟨_, e, _⟩ | ⟨_, q2⟩
  · rw [← Option.some.inj e]; rfl
  · exact hn i s q2
theorem thaw (hn : noOwn Γ) (t : Tab K F H l rs rows) (ev : EnvOk K F H σ Γ) {A A' : Addr → Prop} (g : Gr (frzT F H l rs) H A F' H' A') (hA : ∀ a, ¬ A a) :
    Gr F H (Tb l rs) (thwT F' l rs) H' (Tb l rs) ∧ EnvOk K (thwT F' l rs) H' σ Γ ∧ Tab K (thwT F' l rs) H' l rs rows := by
  have hh := g.ext_of hA
  have ff : Ext F (thwT F' l rs) := fun a o h => by
    by_cases q : Tb l rs a
    · rw [t.notF q] at h; cases h
    · rw [thw_out q]; exact g.ff a o (by rw [frz_out q]; exact h)
  have fh : Ext (thwT F' l rs) H' := fun a o h => by
    by_cases q : Tb l rs a
    · rw [thw_in q] at h; cases h
    · rw [thw_out q] at h; exact g.fh a o h
  have nw : ∀ a, thwT F' l rs a ≠ none → F a ≠ none ∨ H a = none := fun a h => by
    by_cases q : Tb l rs a
    · rw [thw_in q] at h; exact absurd rfl h
    · rw [thw_out q] at h
      rcases g.nw a h with z | z | z
      · rw [frz_out q] at z; exact .inl z
      · exact .inr z
      · exact absurd z (hA a)
  exact ⟨Gr.ext ff fh hh nw, ev.keep ff hh nw, t.move hh fun a ha => thw_in ha⟩
theorem eeT_of (n : Nat) (hΓ : Γ[n]? = some (some (.ad (.ref l)))) (hn : noOwn Γ) (ld : LeafD X.K d) (h : Ee X (Γ.set n (some (.im (.list (rows.map .list))))) e d (Γ.set n (some (.im (.list (rows.map .list)))))) : EeT X l Γ rows e d :=
  pe_imp h fun σ H Q ⟨F, rs, ev, x, t, k⟩ => ⟨frzT F H l rs, frz_env hn hΓ t ev, frz_fh x, fun v F' H' g e' dv => by
    obtain ⟨a1, a2, a3⟩ := thaw hn t ev g fun _ => (set_noOwn hn).no
    exact k v _ H' a1 a2 a3 fun F2 => ld F' F2 v dv⟩
theorem etT_of (n : Nat) (hΓ : Γ[n]? = some (some (.ad (.ref l)))) (hn : noOwn Γ) (h : Et X (Γ.set n (some (.im (.list (rows.map .list))))) c p (Γ.set n (some (.im (.list (rows.map .list)))))) : EtT X l Γ rows c p :=
  pt_imp h fun σ H Q ⟨F, rs, ev, x, t, k⟩ => ⟨frzT F H l rs, frz_env hn hΓ t ev, frz_fh x, fun F' H' g e' => by
    obtain ⟨a1, a2, a3⟩ := thaw hn t ev g fun _ => (set_noOwn hn).no
    exact k _ H' a1 a2 a3⟩
end
end
end DL
end

section
/-! Such a list of lists: loops, a new row, a new item, the way in and out. -/
namespace DL
open PySem PySem.Spec PyProof.Rows L2
section
variable {X : Cx} {l : Addr} {Γ Γ1 Γ' : Gm} {rows rows1 rows' : List (List PyData)} {st : Stmt} {sts rest body orelse : List Stmt} {e c : Expr} {d : PyData} {ds : List PyData} {pos : Pos}
theorem esT_for {tg iter : Expr} {is : List Nat} (G G' : Nat → Gm) (R : Nat → List (List PyData)) (hn : ∀ i, noOwn (G i)) (hi : Ei X (G 0) tg iter ds (G 0)) (hg : ∀ i d, ds[i]? = some d → Eg X (G i) tg d is (G' i)) (hb : ∀ i, i < ds.length → EssT X l (G' i) (R i) body (G (i + 1)) (R (i + 1)))
    (hp : PassesOwn (model X.prog X.w) X.A X.env X.xe := by exact PassesOwn.never) (hcm : X.calm = true := by rfl) (hs : ∀ x, foldedSetIterable iter X.env x = pure x := by intro _; rfl) : EsT X l (G 0) (R 0) (.For tg iter body [] pos) (G ds.length) (R ds.length) := by
  have hgA : PG X tg (fun v σ H Q => ∃ i d, ds[i]? = some d ∧ tGt X.K (G i) d is (G' i) v σ H Q) := ⟨fun pins s σ H v u Q I r ⟨i, d, h1, h⟩ => (hg i d h1).run pins s σ H v u Q I r h⟩
  have hbA : PSs X body (fun D σ H => ∃ i, i < ds.length ∧ tTs X.K l (G' i) (R i) (G (i + 1)) (R (i + 1)) D σ H) := ⟨fun pins s σ H D I ⟨i, h1, h⟩ => (hb i h1).run pins s σ H D I h⟩
  refine ps_imp (ps_for hp hcm hi hgA hbA hs) fun D σ H ⟨F, rs, ev, x, t, k⟩ => ⟨F, ev, x, fun J F0 H0 g0 e0 hW => ?_⟩
  have t0 := t.grow g0 fun _ => (hn 0).no
  have w0 : Gr F H (Tb l rs) F0 H0 (Tb l rs) := g0.widen fun _ => (hn 0).no
  refine ⟨fun i m σ' H' => m = ds.length - i ∧ i ≤ ds.length ∧ ∃ F' rs', EnvOk X.K F' H' σ' (G i) ∧ Tab X.K F' H' l rs' (R i) ∧ Gr F0 H0 (Tb l rs) F' H' (Tb l rs'), ⟨ds.length, by omega, Nat.zero_le _, F0, rs, e0, t0, Gr.refl g0.fh⟩, ?_⟩
  rintro i m σ' H' ⟨rfl, hin, F', rs', ev', t', g'⟩
  have wk := hW i F' H' g'.ff g'.fh
  by_cases hlt : i < ds.length
  · have hd : ds[i]? = some ds[i] := List.getElem?_eq_getElem hlt
    obtain ⟨go, yl⟩ := wk.1 _ hd
    refine .inr ⟨go, fun σ2 H2 => ∃ F2 rs2, EnvOk X.K F2 H2 σ2 (G (i + 1)) ∧ Tab X.K F2 H2 l rs2 (R (i + 1)) ∧ Gr F0 H0 (Tb l rs) F2 H2 (Tb l rs2), fun σ2 H2 ⟨F2, rs2, e2, t2, g2⟩ => ⟨ds.length - (i + 1), by omega, rfl, hlt, F2, rs2, e2, t2, g2⟩, fun y H3 hy => ?_⟩
    obtain ⟨F3, y1, y2, y3, y4, dy⟩ := yl y H3 hy
    have gy : Gr F' H' (Tb l rs') F3 H3 (Tb l rs') := Gr.ext y1 y2 y3 y4
    have t3 : Tab X.K F3 H3 l rs' (R i) := t'.grow (A := fun _ => False) (A' := fun _ => False) (Gr.ext y1 y2 y3 y4) fun _ z => z
    exact ⟨i, _, hd, F3, ev'.keep y1 y3 y4, y2, dy, fun σ4 F4 H4 g4 e4 _ => ⟨i, hlt, F4, rs', e4, g4.fh, t3.grow g4 fun _ => (hn i).no, fun σ5 F5 H5 rs5 g5 e5 t5 => ⟨F5, rs5, e5, t5, (g'.trans gy).trans ((g4.widen fun _ => (hn i).no).trans g5)⟩⟩⟩
  · have he : i = ds.length := by omega
    subst he
    exact .inl ⟨wk.2 (Nat.le_refl _), k σ' F' H' rs' (w0.trans g') ev' t'⟩
/-! a new item -/
section
variable {K : PySem.W.Frag} {F H F' H' : Hp} {rs : List Addr} {σ : L2.St} {n : Nat}
theorem rows_skip {r : Addr} {o : HO} {ss : List Addr} {qs : List (List PyData)} (p : Paired (RowAt K F H) ss qs) : r ∉ ss → Paired (RowAt K F (upd H r o)) ss qs := by
  induction p with
  | nil => intro _; exact .nil
  | cons h _ ih =>
    intro hr
    obtain ⟨a1, xs, a2, a3⟩ := h
    exact .cons ⟨a1, xs, by rw [upd_ne fun z => hr (by rw [z]; exact List.mem_cons_self)]; exact a2, a3⟩ (ih fun z => hr (List.mem_cons_of_mem _ z))
theorem rows_put {r : Addr} {xs' : List V} {row' : List PyData} {ss : List Addr} {qs : List (List PyData)} (p : Paired (RowAt K F H) ss qs) : ∀ {a : Nat}, ss.Nodup → ss[a]? = some r → F r = none → (∀ F', DdA K F' xs' row') → Paired (RowAt K F (upd H r (.lst xs'))) ss (qs.set a row') := by
  induction p with
  | nil => intro a _ h; cases h
  | @cons s q ss qs h t ih =>
    intro a nd ha hF hd
    obtain ⟨n1, n2⟩ := List.nodup_cons.mp nd
    cases a with
    | zero =>
      have e : s = r := by simpa using ha
      subst e
      exact .cons ⟨hF, xs', upd_same, hd⟩ (rows_skip t n1)
    | succ a =>
      have ha : ss[a]? = some r := by simpa using ha
      obtain ⟨a1, xs, a2, a3⟩ := h
      have ne : s ≠ r := fun z => n1 (by rw [z]; exact List.mem_of_getElem? ha)
      exact .cons ⟨a1, xs, by rw [upd_ne ne]; exact a2, a3⟩ (ih n2 ha hF hd)
theorem row_get {ss : List Addr} {qs : List (List PyData)} (p : Paired (RowAt K F H) ss qs) : ∀ {a : Nat} {row : List PyData}, qs[a]? = some row → ∃ r, ss[a]? = some r ∧ RowAt K F H r row := by
  induction p with
  | nil => intro a row h; cases h
  | @cons s q ss qs h t ih =>
    intro a row hq
    cases a with
    | zero =>
      have e : q = row := by simpa using hq
      subst e
      exact ⟨s, rfl, h⟩
    | succ a => exact ih (by simpa using hq)
theorem Tab.put (t : Tab K F H l rs rows) {a : Nat} {r : Addr} {xs' : List V} {row' : List PyData} (hr : rs[a]? = some r) (hd : ∀ F', DdA K F' xs' row') : Tab K F (upd H r (.lst xs')) l rs (rows.set a row') := by
  have hm := List.mem_of_getElem? hr
  have ne : l ≠ r := fun z => t.nl (by rw [z]; exact hm)
  exact ⟨t.fl, by rw [upd_ne ne]; exact t.hl, t.nd, t.nl, rows_put t.at_ t.nd hr (t.notF (.inr hm)) hd⟩
theorem Gr.tab (t : Tab K F H l rs rows) (x : Ext F H) {r : Addr} {o : HO} (hr : Tb l rs r) {rs' : List Addr} (ha : ∀ a, Tb l rs' a → Tb l rs a) : Gr F H (Tb l rs) F (upd H r o) (Tb l rs') := by
  refine ⟨Ext.refl F, x.mut (t.notF hr), fun a u h => ?_, fun a h => .inl h, fun a h => .inl (ha a h)⟩
  by_cases q : a = r
  · subst q; exact .inr hr
  · rw [upd_ne q]; exact .inl h
/-- a new row -/
theorem Tab.app (t : Tab K F H l rs rows) {r : Addr} {xs : List V} {row : List PyData} (hF : F r = none) (hr : H r = some (.lst xs)) (hl : r ≠ l) (hn : r ∉ rs) (hd : ∀ F', DdA K F' xs row) : Tab K F (upd H l (.lst (rs.map V.ref ++ [.ref r]))) l (rs ++ [r]) (rows ++ [row]) := by
  refine ⟨t.fl, by rw [upd_same, List.map_append]; rfl, ?_, fun z => ?_, paired_snoc ⟨hF, xs, by rw [upd_ne hl]; exact hr, hd⟩ (rows_skip t.at_ t.nl)⟩
  · rw [List.nodup_append]
    refine ⟨t.nd, by simp, fun a ha b hb e => ?_⟩
    rw [List.mem_singleton.mp hb] at e
    exact hn (e ▸ ha)
  · rcases List.mem_append.mp z with z | z
    · exact t.nl z
    · exact hl (List.mem_singleton.mp z).symm
end
/-! the way in and out -/
def ErT (X : Cx) (l : Addr) (Γ : Gm) (rows : List (List PyData)) (sts : List Stmt) (d : PyData) : Prop := PSs X sts (fun D σ H => ∃ F rs, EnvOk X.K F H σ Γ ∧ Ext F H ∧ Tab X.K F H l rs rows ∧
  ∀ v F' H', Gr F H (Tb l rs) F' H' (fun _ => False) → Dd X.K F' v d → D.rt v H')
theorem erT_cons (h1 : EsT X l Γ rows st Γ1 rows1) (h2 : ErT X l Γ1 rows1 rest d) : ErT X l Γ rows (st :: rest) d :=
  pss_imp (pss_cons h1 h2) fun D σ H ⟨F, rs, ev, x, t, k⟩ => ⟨F, rs, ev, x, t, fun σ1 F1 H1 rs1 g1 e1 t1 => ⟨F1, rs1, e1, g1.fh, t1, fun v F' H' g' dv => k v F' H' (g1.trans g') dv⟩⟩
theorem erT_frz (n : Nat) (hΓ : Γ[n]? = some (some (.ad (.ref l)))) (hn : noOwn Γ) (h : Er X (Γ.set n (some (.im (.list (rows.map .list))))) sts d) : ErT X l Γ rows sts d := by
  obtain ⟨g, hE⟩ := h
  refine pss_imp hE fun D σ H ⟨F, rs, ev, x, t, k⟩ => ⟨frzT F H l rs, frz_env hn hΓ t ev, frz_fh x, fun v σ' F' H' g' e' dv => k v F' H' ?_ dv⟩
  have no : ∀ a, ¬ Own σ (Γ.set n (some (.im (.list (rows.map .list))))) a := fun a => (set_noOwn hn).no
  have g0 : Gr F H (Tb l rs) (frzT F H l rs) H (Own σ (Γ.set n (some (.im (.list (rows.map .list)))))) := ⟨frz_up t, frz_fh x, fun a o h => .inl h, fun a h => by
    by_cases q : Tb l rs a
    · exact .inr (.inr q)
    · rw [frz_out q] at h; exact .inl h, fun a h => absurd h (no a)⟩
  have g2 := g0.trans g'
  exact ⟨g2.ff, g2.fh, g2.hh, g2.nw, fun a z => z.elim⟩
theorem er_toT (n : Nat) (h0 : Γ[n]? = some (some (.ow []))) (hn : ∀ l, noOwn (Γ.set n (some (.ad (.ref l))))) (h : ∀ l, ErT X l (Γ.set n (some (.ad (.ref l)))) [] sts d) : Er X Γ sts d := by
  refine ⟨List.replicate Γ.length none, ⟨fun pins s σ H D I hh => ?_⟩⟩
  obtain ⟨F, ev, x, k⟩ := hh
  obtain ⟨l, xs, s1, s2, s3, s4⟩ := own_get ev h0 rfl
  cases s4
  have hlen : n < Γ.length := (List.getElem?_eq_some_iff.mp h0).1
  refine (h l).run pins s σ H D I ⟨F, [], ⟨by rw [List.length_set]; exact ev.len, fun i s q => ?_, fun i j s u a b _ hs _ _ _ => by rw [hn l i s b] at hs; cases hs⟩, x, ⟨s2, s3, List.nodup_nil, by simp, .nil⟩, fun v F' H' g dv => ?_⟩
  · rcases get_set_some q with ⟨rfl, e, _⟩ | ⟨_, q2⟩
    · rw [← Option.some.inj e]
      exact ⟨_, s1, rfl⟩
    · exact ev.ats i s q2
  · have up : ∀ a, Tb l [] a → Own σ Γ a := fun a z => by
      rcases z with z | z
      · rw [z]; exact ⟨n, _, h0, rfl, s1⟩
      · cases z
    have none_ : ∀ (i : Nat) (s : Slot), (List.replicate Γ.length (none : Option Slot))[i]? = some (some s) → False := fun i s q => by
      rw [List.getElem?_replicate] at q
      split at q <;> cases q
    refine k v σ F' H' ⟨g.ff, g.fh, fun a o z => (g.hh a o z).imp id (up a), fun a z => ?_, fun a ⟨i, s, q, _⟩ => (none_ i s q).elim⟩ ⟨by rw [List.length_replicate]; exact ev.len, fun i s q => (none_ i s q).elim, fun i j s u a b _ _ _ _ _ => (none_ i s b).elim⟩ dv
    rcases g.nw a z with y | y | y
    · exact .inl y
    · exact .inr (.inl y)
    · exact .inr (.inr (up a y))
end
end DL
end

section
namespace DL
open PySem PySem.Spec PyProof.Rows L2
section
variable {X : Cx} {l : Addr} {Γ Γ1 Γ' : Gm} {rows rows1 rows' : List (List PyData)} {e ea eb : Expr} {d : PyData} {ds : List PyData} {pos : Pos} {n : Nat}
theorem ad_at {K : PySem.W.Frag} {F H : Hp} {σ : L2.St} (hΓ : Γ[n]? = some (some (.ad (.ref l)))) (ev : EnvOk K F H σ Γ) : σ[n]? = some (some (.ref l)) := by
  obtain ⟨v, v1, v2⟩ := ev.ats n _ hΓ
  have v2 : v = .ref l := v2
  rw [v2] at v1
  exact v1
theorem ixN_nat {m j : Nat} (hj : j < m) : ixN m (j : Int) = some j := by
  unfold ixN
  rw [if_pos (by omega), if_pos (by omega), Int.toNat_natCast]
theorem atI_nat {α : Type} {xs : List α} {j : Nat} {x : α} (h : xs[j]? = some x) : atI xs (j : Int) = some x := by
  have hj := (List.getElem?_eq_some_iff.mp h).1
  unfold atI
  rw [ixN_nat hj]
  exact h
/-- x[a][b] = e -/
theorem esT_put {a b : Nat} {row : List PyData} {x : Str} {p1 p2 ps : Pos} (hΓ : Γ[n]? = some (some (.ad (.ref l)))) (hn : noOwn Γ) (hx : PE X (.Name x p1) (tVar n)) (he : Ee X Γ e d Γ) (ld : LeafD X.K d) (ha : Ee X Γ ea (.int a) Γ) (hb : Ee X Γ eb (.int b) Γ) (hr : rows[a]? = some row) (hbl : b < row.length)
    (hq : ∀ v, assign (.Subscript (.Subscript (.Name x p1) ea p2) eb ps) X.env v = (do
      let ov ← holding [v] (eval (.Subscript (.Name x p1) ea p2) X.env)
      let iv ← holding [v, ov] (eval eb X.env)
      standAt ps
      holding [v, ov, iv] (setItem ov iv v)
      release [v, ov, iv] []) := by intro _; rfl)
    (hs : swapsWithSole [.Subscript (.Subscript (.Name x p1) ea p2) eb ps] e pos.line X.env = pure false := by rfl) (hw : swappedStores [.Subscript (.Subscript (.Name x p1) ea p2) eb ps] e X.env = pure none := by rfl) (h1 : (assignEach [.Subscript (.Subscript (.Name x p1) ea p2) eb ps] X.env).map (·.2) = [assign (.Subscript (.Subscript (.Name x p1) ea p2) eb ps) X.env] := by rfl)
    (hpi : PlainIx ea := by exact fun _ _ => rfl) : EsT X l Γ rows (.Assign [.Subscript (.Subscript (.Name x p1) ea p2) eb ps] e pos) Γ (rows.set a (row.set b d)) :=
  ps_imp (ps_asg he (pg_sub (pe_ix ix_list hx ha hpi) hb set_list hq) hs hw h1) fun D σ H ⟨F, rs, ev, xt, t, k⟩ => ⟨F, ev, xt, fun v F1 H1 g1 e1 dv => by
    have t1 := t.grow g1 fun _ => hn.no
    refine ⟨.ref l, ad_at hΓ e1, F1, e1, g1.fh, fun w F2 H2 g2 e2 dw => ?_⟩
    cases dw
    have t2 := t1.grow g2 fun _ => hn.no
    obtain ⟨r, r1, r2⟩ := row_get t2.at_ hr
    refine ⟨l, rs.map V.ref, (a : Int), .ref r, rfl, rfl, SqL.of t2.hl, atI_nat (by rw [List.getElem?_map, r1]; rfl), F2, e2, g2.fh, fun w F3 H3 g3 e3 dw => ?_⟩
    cases dw
    have t3 := t2.grow g3 fun _ => hn.no
    obtain ⟨r', r3, _, xs, r4, r5⟩ := row_get t3.at_ hr
    have er : r' = r := Option.some.inj (r3.symm.trans r1)
    subst er
    refine ⟨r', xs, (b : Int), b, rfl, rfl, r4, by rw [(r5 F3).len]; exact ixN_nat hbl, ?_⟩
    exact k σ F3 _ rs (((g1.widen fun _ => hn.no).trans ((g2.widen fun _ => hn.no).trans (g3.widen fun _ => hn.no))).trans (Gr.tab t3 g3.fh (.inr (List.mem_of_getElem? r1)) fun _ z => z)) (e3.mutOther hn.no) (t3.put r1 fun F' => (r5 F').set (ld F1 F' v dv))⟩
/-- x.append(a new list) -/
theorem esT_append {x : Str} {p1 apos cpos : Pos} (hΓ : Γ[n]? = some (some (.ad (.ref l)))) (hn : noOwn Γ) (hx : PE X (.Name x p1) (tVar n)) (hE : En X Γ e ds Γ) (ll : ∀ F F' xs, DdA X.K F xs ds → DdA X.K F' xs ds) (hl : rows.length < 16777216)
    (hbase : attributeBase (.Name x p1) "append" X.env (eval (.Name x p1) X.env) = eval (.Name x p1) X.env := by rfl)
    (hfew : ((backTo cpos (starEach [e] X.env)).all (fun x => !x.1) && (backToKw cpos (keywordEach [] X.env)).all (fun x => x.1.isSome) && decide ([e].length + ([] : List Keyword).length + (if ([] : List Keyword).isEmpty then 0 else 1) < 30)) = true := by rfl)
    (hline : (apos.endLine == cpos.line) = true := by rfl) (hs : starEach [e] X.env = (false, eval e X.env) :: starEach [] X.env := by rfl) (hplain : (backTo cpos (starEach [] X.env)).any (·.1) = false := by rfl) (hsw : swapsWith (.Call (.Attribute (.Name x p1) "append" apos) [e] [] cpos) none pos.line X.env = pure false := by rfl) :
    EsT X l Γ rows (.Expr (.Call (.Attribute (.Name x p1) "append" apos) [e] [] cpos) pos) Γ (rows ++ [ds]) :=
  ps_imp (ps_expr (pe_bm PySem.F.plainAttrs_list PySem.F.slot_list_append PySem.F.type_list_append mt_append hx (pa_cons hE pa_nil hs) hbase hfew hline hs hplain) hsw) fun D σ H ⟨F, rs, ev, xt, t, k⟩ => by
    refine ⟨.ref l, ad_at hΓ ev, .inl ⟨rfl, rs.map V.ref, SqL.of t.hl⟩, F, ev, xt, fun r xs F1 H1 g1 e1 hF hH hr ho dv => ?_⟩
    have t1 := t.grow g1 fun _ => hn.no
    have hnew : H r = none := hH.elim id fun z => absurd z hn.no
    have out : ¬ Tb l rs r := fun z => by
      obtain ⟨o, e⟩ := t.inH z
      rw [hnew] at e; cases e
    have hlen : rs.length = rows.length := Paired.length t1.at_
    refine ⟨l, rs.map V.ref, .ref r, rfl, rfl, t1.hl, by rw [List.length_map, hlen, sizeLine_eq]; exact hl, ?_⟩
    have ta := t1.app hF hr (fun z => out (.inl z)) (fun z => out (.inr z)) fun F' => ll F1 F' xs dv
    refine k σ F1 _ (rs ++ [r]) ?_ (e1.mutOther hn.no) ta
    have g2 := g1.widen (B := Tb l rs) fun _ => hn.no
    refine ⟨g2.ff, g1.fh.mut t1.fl, fun a u h => ?_, g2.nw, fun a h => ?_⟩
    · by_cases q : a = l
      · exact .inr (.inl q)
      · rw [upd_ne q]; exact g2.hh a u h
    · rcases h with h | h
      · exact .inl (.inl h)
      · rcases List.mem_append.mp h with h | h
        · exact .inl (.inr h)
        · rw [List.mem_singleton.mp h]; exact .inr hnew
end
end DL
end

section
/-! Least steps by all halls between, as the law works them out. -/
namespace RM
def nearF (n : Nat) (Q : List (Nat × Nat)) (a : Nat) : List Nat := (List.range n).filter fun m => decide ((min a m, max a m) ∈ Q)
def cell0 (n : Nat) (Q : List (Nat × Nat)) (a m : Nat) : Option Nat := if a = m then some 0 else if m ∈ nearF n Q a then some 1 else none
def row0 (n : Nat) (Q : List (Nat × Nat)) (a : Nat) : List (Option Nat) := (List.range n).map (cell0 n Q a)
def far0 (n : Nat) (Q : List (Nat × Nat)) : List (List (Option Nat)) := (List.range n).map (row0 n Q)
def atF (T : List (List (Option Nat))) (a b : Nat) : Option Nat := (T.getD a []).getD b none
def setF (T : List (List (Option Nat))) (a b v : Nat) : List (List (Option Nat)) := T.set a ((T.getD a []).set b (some v))
def stepF (T : List (List (Option Nat))) (mid one other : Nat) : List (List (Option Nat)) :=
  match atF T one mid, atF T mid other with
  | some p, some q => if (match atF T one other with
      | none => true
      | some r => decide (p + q < r)) = true then setF T one other (p + q) else T
  | _, _ => T
def farO (T : List (List (Option Nat))) (mid one k : Nat) : List (List (Option Nat)) := (List.range k).foldl (fun T o => stepF T mid one o) T
def farI (n : Nat) (T : List (List (Option Nat))) (mid k : Nat) : List (List (Option Nat)) := (List.range k).foldl (fun T a => farO T mid a n) T
def farK (n : Nat) (T : List (List (Option Nat))) (k : Nat) : List (List (Option Nat)) := (List.range k).foldl (fun T m => farI n T m n) T
def farM (n : Nat) (Q : List (Nat × Nat)) : List (List (Option Nat)) := farK n (far0 n Q) n
def Sq (n : Nat) (T : List (List (Option Nat))) : Prop := T.length = n ∧ ∀ r ∈ T, r.length = n
theorem sq_getD {n : Nat} {T : List (List (Option Nat))} (h : Sq n T) {a : Nat} (ha : a < n) : T[a]? = some (T.getD a []) ∧ (T.getD a []).length = n := by
  have hl : a < T.length := by rw [h.1]; exact ha
  have e : T.getD a [] = T[a] := by rw [List.getD_eq_getElem?_getD, List.getElem?_eq_getElem hl]; rfl
  rw [e]
  exact ⟨List.getElem?_eq_getElem hl, h.2 _ (List.getElem_mem hl)⟩
theorem sq_set {n : Nat} {T : List (List (Option Nat))} (h : Sq n T) {a b v : Nat} (ha : a < n) : Sq n (setF T a b v) := by
  refine ⟨by unfold setF; rw [List.length_set]; exact h.1, fun r hr => ?_⟩
  unfold setF at hr
  rcases List.mem_or_eq_of_mem_set hr with z | z
  · exact h.2 r z
  · rw [z, List.length_set]; exact (sq_getD h ha).2
theorem sq_step {n : Nat} {T : List (List (Option Nat))} (h : Sq n T) {mid one other : Nat} (h1 : one < n) : Sq n (stepF T mid one other) := by
  unfold stepF
  repeat' split
  all_goals first | exact sq_set h h1 | exact h
theorem farO_succ (T : List (List (Option Nat))) (mid one k : Nat) : farO T mid one (k + 1) = stepF (farO T mid one k) mid one k := by
  unfold farO
  rw [List.range_succ, List.foldl_append]; rfl
theorem farI_succ (n : Nat) (T : List (List (Option Nat))) (mid k : Nat) : farI n T mid (k + 1) = farO (farI n T mid k) mid k n := by
  unfold farI
  rw [List.range_succ, List.foldl_append]; rfl
theorem farK_succ (n : Nat) (T : List (List (Option Nat))) (k : Nat) : farK n T (k + 1) = farI n (farK n T k) k n := by
  unfold farK
  rw [List.range_succ, List.foldl_append]; rfl
theorem sq_O {n : Nat} {T : List (List (Option Nat))} (h : Sq n T) {mid one : Nat} (h1 : one < n) : ∀ k, Sq n (farO T mid one k)
  | 0 => h
  | k + 1 => by rw [farO_succ]; exact sq_step (sq_O h h1 k) h1
theorem sq_I {n : Nat} {T : List (List (Option Nat))} (h : Sq n T) {mid : Nat} : ∀ k, k ≤ n → Sq n (farI n T mid k)
  | 0, _ => h
  | k + 1, hk => by rw [farI_succ]; exact sq_O (sq_I h k (by omega)) (by omega) n
theorem sq_K {n : Nat} {T : List (List (Option Nat))} (h : Sq n T) : ∀ k, Sq n (farK n T k)
  | 0 => h
  | k + 1 => by rw [farK_succ]; exact sq_I (sq_K h k) n (Nat.le_refl n)
theorem sq_0 (n : Nat) (Q : List (Nat × Nat)) : Sq n (far0 n Q) := by
  refine ⟨by unfold far0; rw [List.length_map, List.length_range], fun r hr => ?_⟩
  obtain ⟨a, _, rfl⟩ := List.mem_map.mp hr
  unfold row0
  rw [List.length_map, List.length_range]
end RM
end

section
namespace DL
open PySem PySem.Spec PyProof.Rows L2 RM
abbrev s_lfar : Stmt := topS 27
abbrev N_lfar : List Str := ["net", "halls", "found", "hall", "near", "mid", "one", "other", "far", "mate", "line"]
theorem sc_lfar : FnScope N_lfar ["net"] (defScope s_lfar) := ⟨rfl, rfl, rfl, by decide +kernel, rfl, by decide +kernel, by decide +kernel⟩
def RF (T : List (List (Option Nat))) : List (List PyData) := T.map fun r => r.map optN
section
variable {P : Program} {w : World} {K : PySem.W.Frag} {mg : Str → Option Value} {base : Heap}
theorem leaf_optN (o : Option Nat) : LeafD K (optN o) := by
  cases o with
  | none => exact leaf_none
  | some k => exact leaf_int _
theorem leaf_row : ∀ (r : List (Option Nat)) (F F' : Hp) (xs : List V), DdA K F xs (r.map optN) → DdA K F' xs (r.map optN)
  | [], _, _, _, h => by cases h; exact .nil
  | o :: r, F, F', _, h => by
    cases h with
    | cons h1 h2 => exact .cons (leaf_optN o F F' _ h1) (leaf_row r F F' _ h2)
theorem rf_at {n : Nat} {T : List (List (Option Nat))} (h : Sq n T) {a : Nat} (ha : a < n) : (RF T)[a]? = some ((T.getD a []).map optN) := by
  unfold RF
  rw [List.getElem?_map, (sq_getD h ha).1]; rfl
theorem rf_set {T : List (List (Option Nat))} {a b v : Nat} : (RF T).set a (((T.getD a []).map optN).set b (iN v)) = RF (setF T a b v) := by
  unfold RF setF
  rw [List.map_set, List.map_set]
  rfl
theorem ee_cell {X : Cx} {Γ : Gm} {n i j : Nat} {T : List (List (Option Nat))} (hT : Sq n T) {a b : Nat} (ha : a < n) (hb : b < n) {e0 e1 e2 : Expr} {p1 p2 : Pos} (h0 : Ee X Γ e0 (.list ((RF T).map .list)) Γ) (h1 : Ee X Γ e1 (iN a) Γ) (h2 : Ee X Γ e2 (iN b) Γ) (hs1 : PlainIx e1 := by exact fun _ _ => rfl) (hs2 : PlainIx e2 := by exact fun _ _ => rfl) :
    Ee X Γ (.Subscript (.Subscript e0 e1 p1) e2 p2) (optN (atF T a b)) Γ := by
  obtain ⟨_, hl⟩ := sq_getD hT ha
  refine ee_ixL (ds := (T.getD a []).map optN) (ee_ixL (ds := (RF T).map .list) (d := .list ((T.getD a []).map optN)) h0 h1 (atI_nat (by rw [List.getElem?_map, rf_at hT ha]; rfl)) hs1) h2 (atI_nat ?_) hs2
  have hb' : b < (T.getD a []).length := by rw [hl]; exact hb
  rw [List.getElem?_map, List.getElem?_eq_getElem hb']
  unfold atF
  rw [List.getD_eq_getElem?_getD (l := T.getD a []), List.getElem?_eq_getElem hb']; rfl
def R_lfar (ds : List PyData) (d : PyData) : Prop := ∃ (n : Nat) (Q : List (Nat × Nat)), 1 ≤ n ∧ n ≤ 9 ∧ Q.length ≤ 1000 ∧ ds = [nN n Q] ∧ d = .tuple ((farM n Q).map dN)
theorem lfar_turn {f : Addr} {cdv : Value} {A : Around} {outer : List Env} {s : Shared} {H : Hp} {E : XK} {l : Addr} {n : Nat} {Q : List (Nat × Nat)} {T : List (List (Option Nat))} (hT : Sq n T) {m a b : Nat} (hm : m < n) (ha : a < n) (hb : b < n) :
    EssT (cxOf CX0 P w K mg base N_lfar "_law_far" (defScope s_lfar) f cdv A outer s H E).nox l ((((((slots0 N_lfar [nN n Q]).set 1 (some (.im (iN n)))).set 2 (some (.ad (.ref l)))).set 5 (some (.im (iN m)))).set 6 (some (.im (iN a)))).set 7 (some (.im (iN b)))) (RF T)
      (match stAt (defBody s_lfar) 2 with | .For _ _ (.For _ _ (.For _ _ b _ _ :: _) _ _ :: _) _ _ => b | _ => []) (((((slots0 N_lfar [nN n Q]).set 1 (some (.im (iN n)))).set 2 (some (.ad (.ref l)))).set 5 (some (.im (iN m)))).set 6 (some (.im (iN a)))) (RF (stepF T m a b)) := by
  have S := sc_lfar
  let X := (cxOf CX0 P w K mg base N_lfar "_law_far" (defScope s_lfar) f cdv A outer s H E).nox
  let B : Gm := ((((slots0 N_lfar [nN n Q]).set 1 (some (.im (iN n)))).set 2 (some (.ad (.ref l)))).set 5 (some (.im (iN m)))).set 6 (some (.im (iN a)))
  let Γ : Gm := B.set 7 (some (.im (iN b)))
  have n0 : noOwn Γ := noOwn_of rfl
  have cell : ∀ (q : Bool), ((atF T a m).isSome && (atF T m b).isSome) = q → EtT X l Γ (RF T) (match stAt (defBody s_lfar) 2 with | .For _ _ (.For _ _ (.For _ _ (.If c _ _ _ :: _) _ _ :: _) _ _ :: _) _ _ => c | _ => .Constant .none 0 ⟨0, 0, 0, 0⟩) q := fun q hq =>
    etT_of 2 rfl n0 (et_is (et_w (ew_and (et_notN (ee_cell (i := 0) (j := 0) hT ha hm (ee_var 2) (ee_var 6) (ee_var 5)) ee_non) fun _ => (ew_and1 (et_notN (ee_cell (i := 0) (j := 0) hT hm hb (ee_var 2) (ee_var 5) (ee_var 7)) ee_non)))) (by rw [isNo_optN, isNo_optN, ← hq]; cases atF T a m <;> cases atF T m b <;> rfl))
  cases e1 : atF T a m with
  | none =>
    have e : stepF T m a b = T := by unfold stepF; rw [e1]
    rw [e]
    exact essT_wk (essT_one (esT_ifF (cell false (by rw [e1]; rfl)) essT_nil)) (less_set rfl)
  | some p =>
    cases e2 : atF T m b with
    | none =>
      have e : stepF T m a b = T := by unfold stepF; rw [e1, e2]
      rw [e]
      exact essT_wk (essT_one (esT_ifF (cell false (by rw [e1, e2]; rfl)) essT_nil)) (less_set rfl)
    | some q =>
      obtain ⟨z, hz⟩ : ∃ z, atF T a b = z := ⟨_, rfl⟩
      obtain ⟨c, hc⟩ : ∃ c, (match z with | none => true | some r => decide (p + q < r)) = c := ⟨_, rfl⟩
      have e : stepF T m a b = if c = true then setF T a b (p + q) else T := by
        unfold stepF
        rw [e1, e2, hz, ← hc]
        all_goals rfl
      rw [e]
      let Γ8 : Gm := Γ.set 8 (some (.im (iN (p + q))))
      have n8 : noOwn Γ8 := noOwn_of rfl
      refine essT_wk (Γ' := Γ8) (essT_one (esT_ifT (cell true (by rw [e1, e2]; rfl)) (essT_cons (esT_set 8 S.nd (eeT_of 2 rfl n0 (leaf_int _) (ee_is (d2 := iN (p + q)) (ee_add (ee_is (d2 := iN p) (ee_cell (i := 0) (j := 0) hT ha hm (ee_var 2) (ee_var 6) (ee_var 5)) (by rw [e1]; rfl)) (ee_is (d2 := iN q) (ee_cell (i := 0) (j := 0) hT hm hb (ee_var 2) (ee_var 5) (ee_var 7)) (by rw [e2]; rfl))) ?ad))) ?rest))) (less_set2 rfl)
      case ad =>
        show PyData.int ((p : Int) + (q : Int)) = PyData.int ((p + q : Nat) : Int)
        rw [Int.natCast_add]
      case rest =>
        have test : EtT X l Γ8 (RF T) (match stAt (defBody s_lfar) 2 with | .For _ _ (.For _ _ (.For _ _ (.If _ (_ :: .If c _ _ _ :: _) _ _ :: _) _ _ :: _) _ _ :: _) _ _ => c | _ => .Constant .none 0 ⟨0, 0, 0, 0⟩) c := by
          refine etT_of 2 rfl n8 ?_
          cases z with
          | none => exact et_is (et_w (ew_or (et_is (q := true) (et_isN (ee_cell (i := 0) (j := 0) hT ha hb (ee_var 2) (ee_var 6) (ee_var 7)) ee_non) (by rw [hz]; rfl)) (q := true) fun h => by cases h)) (by rw [← hc]; rfl)
          | some r => exact et_is (et_w (ew_or (et_is (q := false) (et_isN (ee_cell (i := 0) (j := 0) hT ha hb (ee_var 2) (ee_var 6) (ee_var 7)) ee_non) (by rw [hz]; rfl)) fun _ => (ew_or1 (et_is (q := decide (p + q < r)) (et_lt (ee_var 8) (ee_is (d2 := iN r) (ee_cell (i := 0) (j := 0) hT ha hb (ee_var 2) (ee_var 6) (ee_var 7)) (by rw [hz]; rfl))) (decide_eq_decide.mpr (by omega)))))) (by rw [← hc]; rfl)
        cases c with
        | false => exact essT_one (esT_ifF test essT_nil)
        | true =>
          rw [if_pos rfl, ← rf_set]
          exact essT_one (esT_ifT test (essT_one (esT_put (n := 2) rfl n8 (pe_nm 2) (ee_var 8) (leaf_int _) (ee_var 6) (ee_var 7) (rf_at hT ha) (by rw [List.length_map, (sq_getD hT ha).2]; exact hb))))
theorem eg_rgN {X : Cx} {Γ : Gm} {tg : Expr} {is : List Nat} {n : Nat} {Γt : Nat → Gm} (h : ∀ x, Eg X Γ tg (iN x) is (Γt x)) (i : Nat) (d : PyData) (hd : ((List.range n).map iN)[i]? = some d) : Eg X Γ tg d is (Γt i) := by
  rw [List.getElem?_map] at hd
  cases hx : (List.range n)[i]? with
  | none => rw [hx] at hd; cases hd
  | some x =>
    rw [hx] at hd
    cases hd
    obtain ⟨hj, e⟩ := List.getElem?_eq_some_iff.mp hx
    rw [List.getElem_range] at e
    subst e
    exact h i
theorem ok_lfar (T : Tx mg) (F : Fn K mg "_law_far" s_lfar ["net"]) : Ca P w K mg base 1 "_law_far" ["net"] (spD K R_lfar) := by
  have S := sc_lfar
  refine ca_Er F S (fun ds d ⟨_, _, _, _, _, e, _⟩ => by rw [e]; rfl) fun f cdv A outer s H E ds d hr ⟨n, Q, h1, h9, hQ, e1, e2⟩ => ?_
  subst e1 e2
  let X := (cxOf CX0 P w K mg base N_lfar "_law_far" (defScope s_lfar) f cdv A outer s H E).nox
  refine er_cons (Γ1 := ((slots0 N_lfar [nN n Q]).set 1 (some (.im (iN n)))).set 2 (some (.ow []))) (es_par2 1 2 rfl S.nd (by decide) (ek_d (d := iN n) (ee_ixT (ee_var 0) ee_int rfl)) (ek_n (en_lst (ds := []) ea_nil (by decide)))) ?_
  refine er_toT 2 rfl (fun l => noOwn_of rfl) fun l => ?_
  let B : Gm := ((slots0 N_lfar [nN n Q]).set 1 (some (.im (iN n)))).set 2 (some (.ad (.ref l)))
  have nB : noOwn B := noOwn_of rfl
  have rl : ((List.range n).map iN).length = n := by rw [List.length_map, List.length_range]
  have loop1 : EsT X l B (RF []) (stAt (defBody s_lfar) 1) B (RF (far0 n Q)) := by
    have h := esT_for (X := X) (l := l) (is := [3]) (ds := (List.range n).map iN) (tg := match stAt (defBody s_lfar) 1 with | .For t _ _ _ _ => t | _ => .Constant .none 0 ⟨0, 0, 0, 0⟩) (iter := match stAt (defBody s_lfar) 1 with | .For _ t _ _ _ => t | _ => .Constant .none 0 ⟨0, 0, 0, 0⟩) (body := forBody (stAt (defBody s_lfar) 1)) (pos := match stAt (defBody s_lfar) 1 with | .For _ _ _ _ t => t | _ => ⟨0, 0, 0, 0⟩)
      (fun _ => B) (fun i => B.set 3 (some (.im (iN i)))) (fun i => RF ((List.range i).map (row0 n Q))) (fun _ => nB) (ei_is (ei_range1 T.range (ea_cons (ee_var 1) ea_nil) (by omega) (by omega)) (rngD_N n)) (fun i d hd => eg_rgN (Γt := fun i => B.set 3 (some (.im (iN i)))) (fun x => eg_name 3 S.nd) i d hd) (fun i hi => ?_)
    · rw [rl] at h
      exact h
    · let C : Gm := B.set 3 (some (.im (iN i)))
      let C4 : Gm := C.set 4 (some (.im (lI (nearF n Q i))))
      have er : RF ((List.range (i + 1)).map (row0 n Q)) = RF ((List.range i).map (row0 n Q)) ++ [((List.range n).filter fun _ => true).map fun m => optN (cell0 n Q i m)] := by
        unfold RF
        rw [List.range_succ, List.map_append, List.map_append, List.filter_eq_self.mpr (fun _ _ => rfl)]
        have e0 : (row0 n Q i).map optN = (List.range n).map fun m => optN (cell0 n Q i m) := by
          unfold row0
          rw [List.map_map]; rfl
        show _ ++ [(row0 n Q i).map optN] = _
        rw [e0]
      rw [er]
      refine essT_wk (Γ' := C4) (essT_cons (esT_lift (Γ' := C4) (es_set (d := lI (nearF n Q i)) 4 S.nd (ee_new (en_lc (own := [("mate", 9)]) (List.range n) iN (fun m => decide ((min i m, max i m) ∈ Q)) iN (fun m => C.set 9 (some (.im (iN m)))) [9] rfl S.nd (blkOk_by (N := N_lfar) (sc := defScope s_lfar) (by decide +kernel)) rfl (by decide) (by rw [List.length_range]; omega) (fun x _ => less_set rfl)
        (ei_is (ei_range1 T.range (ea_cons (ee_var 1) ea_nil) (by omega) (by omega)) (rngD_N n)) (fun x hx _ _ _ _ _ => (eg_name 9 S.nd)) (fun x hx _ _ _ _ _ => (ets_one (et_is (et_in hr (ee_is (d2 := pN (min i x, max i x)) (ee_tup (ds := [iN (min i x), iN (max i x)]) (ea_cons (ee_is (ee_min2 rfl T.min (ea_cons (ee_var 3) (ea_cons (ee_var 9) ea_nil))) ?mn) (ea_cons (ee_is (ee_max2 rfl T.max (ea_cons (ee_var 3) (ea_cons (ee_var 9) ea_nil))) ?mx) ea_nil)) (by simp)) rfl) (ee_ixT (ee_var 0) ee_int rfl) rfl (sh_pN _) (sh_lst Q pN_lay (fun x => by rw [pN_dep]; decide))) ?inq))) (fun x hx hf _ _ _ _ _ => (ee_var 9))))) (noOwn_of rfl)) ?app) (less_set2 rfl)
      case inq =>
        rw [any_eqv pN_eqv]
        exact decide_eq_decide.mpr Iff.rfl
      case mn =>
        show PyData.int (if (x : Int) < (i : Int) then (x : Int) else (i : Int)) = PyData.int ((min i x : Nat) : Int)
        congr 1
        split <;> omega
      case mx =>
        show PyData.int (if (x : Int) > (i : Int) then (x : Int) else (i : Int)) = PyData.int ((max i x : Nat) : Int)
        congr 1
        split <;> omega
      case app =>
        refine essT_one (esT_append (n := 2) rfl (noOwn_of rfl) (pe_nm 2) (en_lc (own := [("mate", 9)]) (List.range n) iN (fun _ => true) (fun m => optN (cell0 n Q i m)) (fun m => C4.set 9 (some (.im (iN m)))) [9] rfl S.nd (blkOk_by (N := N_lfar) (sc := defScope s_lfar) (by decide +kernel)) rfl (by decide) (by rw [List.length_range]; omega) (fun x _ => less_set rfl)
          (ei_is (ei_range1 T.range (ea_cons (ee_var 1) ea_nil) (by omega) (by omega)) (rngD_N n)) (fun x hx _ _ _ _ _ => (eg_name 9 S.nd)) (fun x hx _ _ _ _ _ => ets_nil) (fun x hx hf _ _ _ _ _ => (ee_ifexp (p := decide (i = x)) (et_is (et_eqD hr (ee_var 3) (ee_var 9) (sh_iN _) (sh_iN _)) (iN_eqv _ _)) (fun z => ee_is ee_int ?c0) fun z => (ee_ifexp (p := decide (x ∈ nearF n Q i)) (et_is (et_in hr (ee_var 9) (ee_var 4) rfl (sh_iN _) (sh_iNs _)) (any_eqv iN_eqv _ _)) (fun y => ee_is ee_int ?c1) fun y => ee_is ee_non ?c2)))) ?lf ?hl)
        case c0 => unfold cell0; rw [if_pos (of_decide_eq_true z)]; rfl
        case c1 => unfold cell0; rw [if_neg (of_decide_eq_false z), if_pos (of_decide_eq_true y)]; rfl
        case c2 => unfold cell0; rw [if_neg (of_decide_eq_false z), if_neg (of_decide_eq_false y)]; rfl
        case lf =>
          intro F1 F2 xs h
          have e : (((List.range n).filter fun _ => true).map fun m => optN (cell0 n Q i m)) = (row0 n Q i).map optN := by
            rw [List.filter_eq_self.mpr (fun _ _ => rfl)]
            unfold row0
            rw [List.map_map]; rfl
          rw [e] at h ⊢
          exact leaf_row _ F1 F2 xs h
        case hl =>
          unfold RF
          rw [List.length_map, List.length_map, List.length_range]
          rw [rl] at hi
          omega
  have sq0 := sq_0 n Q
  have loop2 : EsT X l B (RF (far0 n Q)) (stAt (defBody s_lfar) 2) B (RF (farM n Q)) := by
    have h := esT_for (X := X) (l := l) (is := [5]) (ds := (List.range n).map iN) (tg := match stAt (defBody s_lfar) 2 with | .For t _ _ _ _ => t | _ => .Constant .none 0 ⟨0, 0, 0, 0⟩) (iter := match stAt (defBody s_lfar) 2 with | .For _ t _ _ _ => t | _ => .Constant .none 0 ⟨0, 0, 0, 0⟩) (body := forBody (stAt (defBody s_lfar) 2)) (pos := match stAt (defBody s_lfar) 2 with | .For _ _ _ _ t => t | _ => ⟨0, 0, 0, 0⟩)
      (fun _ => B) (fun i => B.set 5 (some (.im (iN i)))) (fun i => RF (farK n (far0 n Q) i)) (fun _ => nB) (ei_is (ei_range1 T.range (ea_cons (ee_var 1) ea_nil) (by omega) (by omega)) (rngD_N n)) (fun i d hd => eg_rgN (Γt := fun i => B.set 5 (some (.im (iN i)))) (fun x => eg_name 5 S.nd) i d hd) (fun m hm => ?_)
    · rw [rl] at h
      exact h
    · rw [rl] at hm
      rw [farK_succ]
      have sqm := sq_K sq0 m
      generalize farK n (far0 n Q) m = Tm at sqm ⊢
      let B5 : Gm := B.set 5 (some (.im (iN m)))
      have hI := esT_for (X := X) (l := l) (is := [6]) (ds := (List.range n).map iN) (tg := match forBody (stAt (defBody s_lfar) 2) with | .For t _ _ _ _ :: _ => t | _ => .Constant .none 0 ⟨0, 0, 0, 0⟩) (iter := match forBody (stAt (defBody s_lfar) 2) with | .For _ t _ _ _ :: _ => t | _ => .Constant .none 0 ⟨0, 0, 0, 0⟩) (body := forBody (stAt (forBody (stAt (defBody s_lfar) 2)) 0)) (pos := match forBody (stAt (defBody s_lfar) 2) with | .For _ _ _ _ t :: _ => t | _ => ⟨0, 0, 0, 0⟩)
        (fun _ => B5) (fun i => B5.set 6 (some (.im (iN i)))) (fun i => RF (farI n Tm m i)) (fun _ => noOwn_of rfl) (ei_is (ei_range1 T.range (ea_cons (ee_var 1) ea_nil) (by omega) (by omega)) (rngD_N n)) (fun i d hd => eg_rgN (Γt := fun i => B5.set 6 (some (.im (iN i)))) (fun x => eg_name 6 S.nd) i d hd) (fun a ha => ?_)
      · rw [rl] at hI
        exact essT_wk (essT_one hI) (less_set rfl)
      · rw [rl] at ha
        rw [farI_succ]
        have sqa := sq_I sqm (mid := m) a (by omega)
        generalize farI n Tm m a = Ta at sqa ⊢
        let B6 : Gm := B5.set 6 (some (.im (iN a)))
        have hO := esT_for (X := X) (l := l) (is := [7]) (ds := (List.range n).map iN) (tg := match forBody (stAt (forBody (stAt (defBody s_lfar) 2)) 0) with | .For t _ _ _ _ :: _ => t | _ => .Constant .none 0 ⟨0, 0, 0, 0⟩) (iter := match forBody (stAt (forBody (stAt (defBody s_lfar) 2)) 0) with | .For _ t _ _ _ :: _ => t | _ => .Constant .none 0 ⟨0, 0, 0, 0⟩) (body := forBody (stAt (forBody (stAt (forBody (stAt (defBody s_lfar) 2)) 0)) 0)) (pos := match forBody (stAt (forBody (stAt (defBody s_lfar) 2)) 0) with | .For _ _ _ _ t :: _ => t | _ => ⟨0, 0, 0, 0⟩)
          (fun _ => B6) (fun i => B6.set 7 (some (.im (iN i)))) (fun i => RF (farO Ta m a i)) (fun _ => noOwn_of rfl) (ei_is (ei_range1 T.range (ea_cons (ee_var 1) ea_nil) (by omega) (by omega)) (rngD_N n)) (fun i d hd => eg_rgN (Γt := fun i => B6.set 7 (some (.im (iN i)))) (fun x => eg_name 7 S.nd) i d hd) (fun b hb => ?_)
        · rw [rl] at hO
          exact essT_wk (essT_one hO) (less_set rfl)
        · rw [rl] at hb
          rw [farO_succ]
          exact lfar_turn (sq_O sqa ha b) hm ha hb
  have sqM : Sq n (farM n Q) := sq_K sq0 n
  refine erT_cons loop1 (erT_cons loop2 (erT_frz 2 rfl nB ?_))
  let Z : Gm := B.set 2 (some (.im (.list ((RF (farM n Q)).map .list))))
  refine er_ret (ee_tupL T.tuple (ea_cons (ee_is (d2 := .list ((farM n Q).map dN)) (ee_new (en_lc (own := [("line", 10)]) (farM n Q) (fun r => .list (r.map optN)) (fun _ => true) dN (fun r => Z.set 10 (some (.im (.list (r.map optN))))) [10] rfl S.nd (blkOk_by (N := N_lfar) (sc := defScope s_lfar) (by decide +kernel)) rfl (by decide) (by rw [sqM.1]; omega) (fun x _ => less_set rfl)
    (ei_is (ei_list (ee_var 2)) ?it) (fun x hx _ _ _ _ _ => (eg_name 10 S.nd)) (fun x hx _ _ _ _ _ => ets_nil) (fun x hx hf _ _ _ _ _ => (ee_tupL T.tuple (ea_cons (ee_var 10) ea_nil))))) ?fin) ea_nil))
  case it => unfold RF; rw [List.map_map]; rfl
  case fin => rw [List.filter_eq_self.mpr (fun _ _ => rfl)]
end
end DL
end

section
/-! The law's table holds the distances. -/
namespace RM
section
variable {S : List (Nat × Nat)} {n : Nat}
theorem within_add {a b : Nat} {p : Nat} (h : Within S p a b) : ∀ {q c : Nat}, Within S q b c → Within S (p + q) a c
  | 0, c, e => by
    have e : b = c := e
    rw [← e]; exact h
  | q + 1, c, w => by
    rcases w with w | ⟨x, w1, w2⟩
    · exact .inl (within_add h w)
    · exact .inr ⟨x, within_add h w1, w2⟩
/-! one item -/
theorem at_row {T : List (List (Option Nat))} (h : Sq n T) {a b : Nat} (ha : a < n) (hb : b < n) : ((T.getD a [])[b]?) = some (atF T a b) := by
  have hl := (sq_getD h ha).2
  have hb' : b < (T.getD a []).length := by rw [hl]; exact hb
  unfold atF
  rw [List.getD_eq_getElem?_getD (l := T.getD a []), List.getElem?_eq_getElem hb']; rfl
theorem at_set {T : List (List (Option Nat))} (h : Sq n T) {a b v x y : Nat} (ha : a < n) (hb : b < n) (hx : x < n) (hy : y < n) : atF (setF T a b v) x y = if x = a ∧ y = b then some v else atF T x y := by
  have hl : a < T.length := by rw [h.1]; exact ha
  have hr := (sq_getD h ha).2
  unfold atF setF
  by_cases e : x = a
  · subst e
    have e1 : (T.set x ((T.getD x []).set b (some v))).getD x [] = (T.getD x []).set b (some v) := by
      rw [List.getD_eq_getElem?_getD, List.getElem?_set_self hl]; rfl
    rw [e1]
    by_cases e2 : y = b
    · subst e2
      rw [if_pos ⟨rfl, rfl⟩, List.getD_eq_getElem?_getD, List.getElem?_set_self (by rw [hr]; exact hb)]; rfl
    · rw [if_neg (fun z => e2 z.2), List.getD_eq_getElem?_getD, List.getElem?_set_ne (fun z => e2 z.symm), ← List.getD_eq_getElem?_getD]
  · rw [if_neg (fun z => e z.1)]
    have e1 : (T.set a ((T.getD a []).set b (some v))).getD x [] = T.getD x [] := by
      rw [List.getD_eq_getElem?_getD, List.getElem?_set_ne (fun z => e z.symm), ← List.getD_eq_getElem?_getD]
    rw [e1]
/-- no item grows -/
def LeT (n : Nat) (T U : List (List (Option Nat))) : Prop := ∀ a b d, a < n → b < n → atF T a b = some d → ∃ d', d' ≤ d ∧ atF U a b = some d'
theorem LeT.refl (T : List (List (Option Nat))) : LeT n T T := fun a b d _ _ h => ⟨d, Nat.le_refl d, h⟩
theorem LeT.trans {T U W : List (List (Option Nat))} (h : LeT n T U) (k : LeT n U W) : LeT n T W := fun a b d ha hb e => by
  obtain ⟨d1, h1, e1⟩ := h a b d ha hb e
  obtain ⟨d2, h2, e2⟩ := k a b d1 ha hb e1
  exact ⟨d2, by omega, e2⟩
/-- each item is a number of steps -/
def Sound (S : List (Nat × Nat)) (n : Nat) (T : List (List (Option Nat))) : Prop := ∀ a b d, a < n → b < n → atF T a b = some d → Within S d a b
def lessO (s : Nat) : Option Nat → Bool
  | none => true
  | some r => decide (s < r)
theorem step_some {T : List (List (Option Nat))} {m a b p q : Nat} (e1 : atF T a m = some p) (e2 : atF T m b = some q) : stepF T m a b = if lessO (p + q) (atF T a b) = true then setF T a b (p + q) else T := by
  unfold stepF
  rw [e1, e2]
  cases atF T a b <;> rfl
theorem step_facts {T : List (List (Option Nat))} (h : Sq n T) {m a b : Nat} (hm : m < n) (ha : a < n) (hb : b < n) :
    LeT n T (stepF T m a b) ∧ (Sound S n T → Sound S n (stepF T m a b)) ∧ ∀ p q, atF T a m = some p → atF T m b = some q → ∃ d, d ≤ p + q ∧ atF (stepF T m a b) a b = some d := by
  cases e1 : atF T a m with
  | none =>
    have e : stepF T m a b = T := by unfold stepF; rw [e1]
    rw [e]
    exact ⟨LeT.refl T, id, fun p q z => by cases z⟩
  | some p =>
    cases e2 : atF T m b with
    | none =>
      have e : stepF T m a b = T := by unfold stepF; rw [e1, e2]
      rw [e]
      exact ⟨LeT.refl T, id, fun p q _ z => by cases z⟩
    | some q =>
      obtain ⟨z, hz⟩ : ∃ z, atF T a b = z := ⟨_, rfl⟩
      have e := step_some e1 e2
      rw [hz] at e
      rw [e]
      by_cases c : lessO (p + q) z = true
      · rw [if_pos c]
        refine ⟨fun x y d hx hy ed => ?_, fun hs x y d hx hy ed => ?_, fun p' q' ep eq => ?_⟩
        · rw [at_set h ha hb hx hy]
          by_cases c2 : x = a ∧ y = b
          · rw [if_pos c2]
            obtain ⟨rfl, rfl⟩ := c2
            rw [hz] at ed
            subst ed
            exact ⟨p + q, Nat.le_of_lt (of_decide_eq_true c), rfl⟩
          · rw [if_neg c2]
            exact ⟨d, Nat.le_refl d, ed⟩
        · rw [at_set h ha hb hx hy] at ed
          by_cases c2 : x = a ∧ y = b
          · rw [if_pos c2] at ed
            obtain ⟨rfl, rfl⟩ := c2
            cases ed
            exact within_add (hs x m p hx hm e1) (hs m y q hm hy e2)
          · rw [if_neg c2] at ed
            exact hs x y d hx hy ed
        · cases ep; cases eq
          exact ⟨p + q, Nat.le_refl _, by rw [at_set h ha hb ha hb, if_pos ⟨rfl, rfl⟩]⟩
      · rw [if_neg c]
        refine ⟨LeT.refl T, id, fun p' q' ep eq => ?_⟩
        cases ep; cases eq
        cases z with
        | none => exact absurd rfl c
        | some r =>
          have : ¬ p + q < r := fun y => c (decide_eq_true y)
          exact ⟨r, by omega, hz⟩
theorem O_facts {T : List (List (Option Nat))} (h : Sq n T) {m a : Nat} (hm : m < n) (ha : a < n) : ∀ k, k ≤ n → LeT n T (farO T m a k) ∧ (Sound S n T → Sound S n (farO T m a k)) ∧ ∀ b p q, b < k → atF T a m = some p → atF T m b = some q → ∃ d, d ≤ p + q ∧ atF (farO T m a k) a b = some d
  | 0, _ => ⟨LeT.refl T, id, fun b p q hb => absurd hb (Nat.not_lt_zero b)⟩
  | k + 1, hk => by
    obtain ⟨i1, i2, i3⟩ := O_facts h hm ha k (by omega)
    obtain ⟨s1, s2, s3⟩ := step_facts (S := S) (sq_O h ha k (mid := m)) hm ha (show k < n by omega)
    rw [farO_succ]
    refine ⟨i1.trans s1, fun z => s2 (i2 z), fun b p q hb ep eq => ?_⟩
    by_cases c : b < k
    · obtain ⟨d, d1, d2⟩ := i3 b p q c ep eq
      obtain ⟨d', d3, d4⟩ := s1 a b d ha (by omega) d2
      exact ⟨d', by omega, d4⟩
    · have e : b = k := by omega
      subst e
      obtain ⟨p', p1, p2⟩ := i1 a m p ha hm ep
      obtain ⟨q', q1, q2⟩ := i1 m b q hm (by omega) eq
      obtain ⟨d, d1, d2⟩ := s3 p' q' p2 q2
      exact ⟨d, by omega, d2⟩
theorem I_facts {T : List (List (Option Nat))} (h : Sq n T) {m : Nat} (hm : m < n) : ∀ k, k ≤ n → LeT n T (farI n T m k) ∧ (Sound S n T → Sound S n (farI n T m k)) ∧ ∀ a b p q, a < k → b < n → atF T a m = some p → atF T m b = some q → ∃ d, d ≤ p + q ∧ atF (farI n T m k) a b = some d
  | 0, _ => ⟨LeT.refl T, id, fun a b p q ha => absurd ha (Nat.not_lt_zero a)⟩
  | k + 1, hk => by
    obtain ⟨i1, i2, i3⟩ := I_facts h hm k (by omega)
    obtain ⟨s1, s2, s3⟩ := O_facts (S := S) (sq_I h k (by omega) (mid := m)) hm (show k < n by omega) n (Nat.le_refl n)
    rw [farI_succ]
    refine ⟨i1.trans s1, fun z => s2 (i2 z), fun a b p q ha hb ep eq => ?_⟩
    by_cases c : a < k
    · obtain ⟨d, d1, d2⟩ := i3 a b p q c hb ep eq
      obtain ⟨d', d3, d4⟩ := s1 a b d (by omega) hb d2
      exact ⟨d', by omega, d4⟩
    · have e : a = k := by omega
      subst e
      obtain ⟨p', p1, p2⟩ := i1 a m p (by omega) hm ep
      obtain ⟨q', q1, q2⟩ := i1 m b q hm hb eq
      obtain ⟨d, d1, d2⟩ := s3 b p' q' hb p2 q2
      exact ⟨d, by omega, d2⟩
/-! walks whose halls between are less than m -/
inductive Pw (S : List (Nat × Nat)) (m : Nat) : Nat → Nat → Nat → Prop
  | refl (a : Nat) : Pw S m 0 a a
  | edge {a b : Nat} : (a, b) ∈ symW S → Pw S m 1 a b
  | cat {k j a b c : Nat} : Pw S m k a c → Pw S m j c b → c < m → Pw S m (k + j) a b
theorem pw_split {m k a b : Nat} (h : Pw S (m + 1) k a b) : (∃ j, j ≤ k ∧ Pw S m j a b) ∨ ∃ i j, i + j ≤ k ∧ Pw S m i a m ∧ Pw S m j m b := by
  induction h with
  | refl a => exact .inl ⟨0, Nat.le_refl 0, .refl a⟩
  | edge e => exact .inl ⟨1, Nat.le_refl 1, .edge e⟩
  | @cat k j a b c h1 h2 hc i1 i2 =>
    by_cases e : c = m
    · subst e
      have l : ∃ i, i ≤ k ∧ Pw S c i a c := by
        rcases i1 with ⟨i, x1, x2⟩ | ⟨i, i', x1, x2, _⟩
        · exact ⟨i, x1, x2⟩
        · exact ⟨i, by omega, x2⟩
      have r : ∃ i, i ≤ j ∧ Pw S c i c b := by
        rcases i2 with ⟨i, x1, x2⟩ | ⟨i, i', x1, _, x2⟩
        · exact ⟨i, x1, x2⟩
        · exact ⟨i', by omega, x2⟩
      obtain ⟨x, x1, x2⟩ := l
      obtain ⟨y, y1, y2⟩ := r
      exact .inr ⟨x, y, by omega, x2, y2⟩
    · have hc : c < m := by omega
      rcases i1 with ⟨i, x1, x2⟩ | ⟨i, i', x1, x2, x3⟩
      · rcases i2 with ⟨u, y1, y2⟩ | ⟨u, u', y1, y2, y3⟩
        · exact .inl ⟨i + u, by omega, .cat x2 y2 hc⟩
        · exact .inr ⟨i + u, u', by omega, .cat x2 y2 hc, y3⟩
      · rcases i2 with ⟨u, y1, y2⟩ | ⟨u, u', y1, y2, y3⟩
        · exact .inr ⟨i, i' + u, by omega, x2, .cat x3 y2 hc⟩
        · exact .inr ⟨i, u', by omega, x2, y3⟩
theorem pw_of {a : Nat} (hm : ∀ p ∈ S, p ∈ allPairs n) (ha : a < n) : ∀ {k b : Nat}, Within S k a b → ∃ j, j ≤ k ∧ Pw S n j a b
  | 0, b, e => by
    have e : a = b := e
    rw [← e]; exact ⟨0, Nat.le_refl 0, .refl a⟩
  | k + 1, b, w => by
    rcases w with w | ⟨c, w1, w2⟩
    · obtain ⟨j, j1, j2⟩ := pw_of hm ha w
      exact ⟨j, by omega, j2⟩
    · obtain ⟨j, j1, j2⟩ := pw_of hm ha w1
      exact ⟨j + 1, by omega, .cat j2 (.edge w2) (within_lt hm ha w1)⟩
def Comp0 (S : List (Nat × Nat)) (n m : Nat) (T : List (List (Option Nat))) : Prop := ∀ k a b, a < n → b < n → Pw S m k a b → ∃ d, d ≤ k ∧ atF T a b = some d
theorem at_far0 {Q : List (Nat × Nat)} {a b : Nat} (ha : a < n) (hb : b < n) : atF (far0 n Q) a b = cell0 n Q a b := by
  unfold atF far0
  have e : ((List.range n).map (row0 n Q)).getD a [] = row0 n Q a := by
    rw [List.getD_eq_getElem?_getD, List.getElem?_map, List.getElem?_range ha]; rfl
  rw [e]
  unfold row0
  rw [List.getD_eq_getElem?_getD, List.getElem?_map, List.getElem?_range hb]; rfl
theorem near_sym {Q : List (Nat × Nat)} (hm : ∀ p ∈ Q, p ∈ allPairs n) {a b : Nat} (hb : b < n) : b ∈ nearF n Q a ↔ (a, b) ∈ symW Q := by
  unfold nearF
  rw [List.mem_filter, mem_sym, decide_eq_true_iff]
  constructor
  · rintro ⟨_, h⟩
    by_cases c : a ≤ b
    · rw [Nat.min_eq_left c, Nat.max_eq_right c] at h; exact .inl h
    · rw [Nat.min_eq_right (by omega), Nat.max_eq_left (by omega)] at h; exact .inr h
  · intro h
    refine ⟨List.mem_range.mpr hb, ?_⟩
    rcases h with h | h
    · have := mem_allPairs.mp (hm _ h)
      rw [Nat.min_eq_left (by omega), Nat.max_eq_right (by omega)]; exact h
    · have := mem_allPairs.mp (hm _ h)
      rw [Nat.min_eq_right (by omega), Nat.max_eq_left (by omega)]; exact h
theorem far0_facts {Q : List (Nat × Nat)} (hm : ∀ p ∈ Q, p ∈ allPairs n) : Sound Q n (far0 n Q) ∧ Comp0 Q n 0 (far0 n Q) := by
  constructor
  · intro a b d ha hb e
    rw [at_far0 ha hb] at e
    unfold cell0 at e
    by_cases c : a = b
    · rw [if_pos c] at e
      cases e
      exact c
    · rw [if_neg c] at e
      by_cases c2 : b ∈ nearF n Q a
      · rw [if_pos c2] at e
        cases e
        exact .inr ⟨a, rfl, (near_sym hm hb).mp c2⟩
      · rw [if_neg c2] at e; cases e
  · intro k a b ha hb h
    rw [at_far0 ha hb]
    cases h with
    | refl => exact ⟨0, Nat.le_refl 0, by unfold cell0; rw [if_pos rfl]⟩
    | edge e =>
      unfold cell0
      by_cases c : a = b
      · rw [if_pos c]; exact ⟨0, by omega, rfl⟩
      · rw [if_neg c, if_pos ((near_sym hm hb).mpr e)]; exact ⟨1, Nat.le_refl 1, rfl⟩
    | cat _ _ c => exact absurd c (Nat.not_lt_zero _)
theorem K_facts {Q : List (Nat × Nat)} (hm : ∀ p ∈ Q, p ∈ allPairs n) : ∀ k, k ≤ n → Sound Q n (farK n (far0 n Q) k) ∧ Comp0 Q n k (farK n (far0 n Q) k)
  | 0, _ => far0_facts hm
  | k + 1, hk => by
    obtain ⟨i1, i2⟩ := K_facts hm k (by omega)
    obtain ⟨s1, s2, s3⟩ := I_facts (S := Q) (sq_K (sq_0 n Q) k) (show k < n by omega) n (Nat.le_refl n)
    rw [farK_succ]
    refine ⟨s2 i1, fun j a b ha hb h => ?_⟩
    rcases pw_split h with ⟨i, x1, x2⟩ | ⟨i, i', x1, x2, x3⟩
    · obtain ⟨d, d1, d2⟩ := i2 i a b ha hb x2
      obtain ⟨d', d3, d4⟩ := s1 a b d ha hb d2
      exact ⟨d', by omega, d4⟩
    · obtain ⟨p, p1, p2⟩ := i2 i a k ha (by omega) x2
      obtain ⟨q, q1, q2⟩ := i2 i' k b (by omega) hb x3
      obtain ⟨d, d1, d2⟩ := s3 a b p q ha hb p2 q2
      exact ⟨d, by omega, d2⟩
theorem far_dist {Q : List (Nat × Nat)} (hm : ∀ p ∈ Q, p ∈ allPairs n) {a b : Nat} (ha : a < n) (hb : b < n) : atF (farM n Q) a b = distM Q n a b := by
  obtain ⟨h1, h2⟩ := K_facts hm n (Nat.le_refl n)
  cases e : atF (farM n Q) a b with
  | some d =>
    refine ((dist_iff hm ha).mpr ⟨h1 a b d ha hb e, fun k hk w => ?_⟩).symm
    obtain ⟨j, j1, j2⟩ := pw_of hm ha w
    obtain ⟨d', d1, d2⟩ := h2 j a b ha hb j2
    have : atF (farM n Q) a b = some d' := d2
    rw [e] at this
    cases this
    omega
  | none =>
    refine ((dist_none hm ha).mpr fun k w => ?_).symm
    obtain ⟨j, j1, j2⟩ := pw_of hm ha w
    obtain ⟨d', d1, d2⟩ := h2 j a b ha hb j2
    have : atF (farM n Q) a b = some d' := d2
    rw [e] at this
    cases this
/-- the law's table -/
theorem farM_is {Q : List (Nat × Nat)} (hm : ∀ p ∈ Q, p ∈ allPairs n) : farM n Q = (List.range n).map fun a => (List.range n).map fun b => distM Q n a b := by
  have sq : Sq n (farM n Q) := sq_K (sq_0 n Q) n
  refine List.ext_getElem? fun a => ?_
  by_cases ha : a < n
  · rw [(sq_getD sq ha).1, List.getElem?_map, List.getElem?_range ha]
    show some _ = some _
    congr 1
    refine List.ext_getElem? fun b => ?_
    by_cases hb : b < n
    · rw [at_row sq ha hb, List.getElem?_map, List.getElem?_range hb, far_dist hm ha hb]; rfl
    · rw [List.getElem?_eq_none (by rw [(sq_getD sq ha).2]; omega), List.getElem?_eq_none (by rw [List.length_map, List.length_range]; omega)]
  · rw [List.getElem?_eq_none (by rw [sq.1]; omega), List.getElem?_eq_none (by rw [List.length_map, List.length_range]; omega)]
end
end RM
end

section
/-! The greatest distance, line by line. -/
namespace RM
theorem fold_max (l : List Nat) : ∀ z, l.foldl max z = max z (l.foldl max 0) := by
  induction l with
  | nil => intro z; show z = max z 0; omega
  | cons x l ih =>
    intro z
    rw [List.foldl_cons, List.foldl_cons, ih (max z x), ih (max 0 x)]
    omega
theorem fold_flat {α : Type} (f : α → List Nat) (l : List α) : (l.flatMap f).foldl max 0 = (l.map fun x => (f x).foldl max 0).foldl max 0 := by
  induction l with
  | nil => rfl
  | cons x l ih =>
    rw [List.flatMap_cons, List.foldl_append, fold_max, ih, List.map_cons, List.foldl_cons, fold_max (l.map fun x => (f x).foldl max 0) (max 0 ((f x).foldl max 0))]
    omega
section
variable {S : List (Nat × Nat)} {n s : Nat}
theorem all_some (h : spanM S n = some s) {a b : Nat} (ha : a < n) (hb : b < n) : ∃ d, distM S n a b = some d := by
  unfold spanM spanOf at h
  by_cases c : none ∈ allD S n
  · rw [if_pos c] at h; cases h
  · cases e : distM S n a b with
    | some d => exact ⟨d, rfl⟩
    | none => exact absurd (List.mem_flatMap.mpr ⟨a, List.mem_range.mpr ha, List.mem_map.mpr ⟨b, List.mem_range.mpr hb, e⟩⟩) c
def lineD (S : List (Nat × Nat)) (n a : Nat) : List Nat := (List.range n).map fun b => (distM S n a b).getD 0
def maxLine (S : List (Nat × Nat)) (n a : Nat) : Nat := (lineD S n a).foldl max 0
theorem line_some (h : spanM S n = some s) {a : Nat} (ha : a < n) : (List.range n).map (distM S n a) = (lineD S n a).map some := by
  unfold lineD
  rw [List.map_map]
  refine List.map_congr_left fun b hb => ?_
  obtain ⟨d, e⟩ := all_some h ha (List.mem_range.mp hb)
  show distM S n a b = some ((distM S n a b).getD 0)
  rw [e]; rfl
theorem most_is (h : spanM S n = some s) : ((List.range n).map (maxLine S n)).foldl max 0 = s := by
  have e : (allD S n).filterMap id = (List.range n).flatMap (lineD S n) := by
    unfold allD
    rw [List.filterMap_flatMap]
    refine flat_congr fun a ha => ?_
    have := line_some h (List.mem_range.mp ha)
    show List.filterMap id ((List.range n).map (distM S n a)) = _
    rw [this, List.filterMap_map]
    show List.filterMap some _ = _
    rw [List.filterMap_some]
  have hs : spanM S n = some (((allD S n).filterMap id).foldl max 0) := by
    unfold spanM spanOf at h ⊢
    by_cases c : none ∈ allD S n
    · rw [if_pos c] at h; cases h
    · rw [if_neg c]
  rw [e, fold_flat] at hs
  rw [hs] at h
  exact Option.some.inj h
theorem line_head (S : List (Nat × Nat)) (hn : 1 ≤ n) (a : Nat) : ∃ x r, lineD S n a = x :: r := by
  cases h : lineD S n a with
  | cons x r => exact ⟨x, r, rfl⟩
  | nil =>
    have := congrArg List.length h
    unfold lineD at this
    rw [List.length_map, List.length_range] at this
    simp at this; omega
end
end RM
end

section
namespace DL
open PySem PySem.Spec PyProof.Rows L2
open PySem.W (AlikeAll)
section
variable {X : Cx} {Γ Γ1 : Gm} {e : Expr} {ds : List PyData} {pos pp : Pos}
/-- max(a tuple of alike data) -/
def rMaxT (K : PySem.W.Frag) : List V → Hp → VK → Prop := fun xs H Q => ∃ (p : Addr) (ys : List V) (x : PyData) (ds : List PyData), xs = [.ref p] ∧ SqT K H p ys ∧ DpAll K H ys (x :: ds) ∧ AlikeAll (x :: ds) ∧ PyData.canLayAll0 (x :: ds) = true ∧ PyData.depthAll (x :: ds) ≤ 60 ∧
  ∀ (i : Nat) (y : V), ys[i]? = some y → (x :: ds)[i]? = some (PySem.W.maxD x ds) → Q y H
theorem call_maxT {kk : Nat} (hr : Room kk X.A) (hc : X.calm = true) : CallR X (.builtin "max") (rMaxT X.K) := by
  intro pins s σ H xs us Q I r h
  obtain ⟨p, ys, x, ds, rfl, hs, hd, ha, hl, hdep, q⟩ := h
  obtain ⟨u, rfl, rx⟩ := vals1 r
  cases rx
  obtain ⟨its, rv, pl, hz⟩ := I.tuple hs
  obtain ⟨as, hR⟩ := Dp.readsAll I (x :: ds) ys its hd rv
  refine PySem.W.max_tuple_data (I.ok.hd hc) (show s.heap.IsTuple p its.toArray from pl) hR ha (by have := hr.un; omega) fun i v h' tk bs hv hrd hk => ?_
  have hvi : its[i]? = some v := by rw [← Array.getElem?_toList] at hv; exact hv
  have hlen := rv.length
  have hlt : i < ys.length := by
    rw [hlen]; exact (List.getElem?_eq_some_iff.mp hvi).1
  obtain ⟨w, hw, rw'⟩ := rv.get (List.getElem?_eq_getElem hlt)
  rw [hvi] at hw
  cases hw
  have hdl : ∀ {ys : List V} {ds : List PyData}, DpAll X.K H ys ds → ∀ (i : Nat) (y : V), ys[i]? = some y → ∃ d, ds[i]? = some d ∧ Dp X.K H y d := by
    intro ys ds h
    induction ds generalizing ys with
    | nil => intro i y hy; cases h; simp at hy
    | cons d ds ih =>
      intro i y hy
      cases h with
      | cons h1 h2 =>
        cases i with
        | zero => cases hy; exact ⟨d, rfl, h1⟩
        | succ i => exact ih h2 i y hy
  obtain ⟨d, hdi, hdd⟩ := hdl hd i _ (List.getElem?_eq_getElem hlt)
  have I2 : Inv X pins σ H { s with heap := h', toks := tk } := I.kept hk
  obtain ⟨cs, hrd2⟩ := Dp.reads I2 d _ _ hdd rw'
  have lay : d.canLay0 = true := layAll_mem hl (List.mem_of_getElem? hdi)
  have e : d = PySem.W.maxD x ds := PySem.SeqAt.Reads.unique d _ _ _ _ lay hrd2 hrd
  exact ⟨_, H, I2, rw', q i _ (List.getElem?_eq_getElem hlt) (by rw [hdi, e])⟩
theorem ee_maxT {kk : Nat} {x : PyData} (hr : Room kk X.A) (hc : X.calm = true) (hm : X.mg "max" = none) (ha : Ea X Γ [e] [.tuple (x :: ds)] Γ1) (hal : AlikeAll (x :: ds)) (hl : PyData.canLayAll0 (x :: ds) = true) (hdep : PyData.depthAll (x :: ds) ≤ 60) (hg : Gl X "max" := by rfl)
    (he : starEach [e] X.env = (false, eval e X.env) :: starEach [] X.env := by rfl) : Ee X Γ (.Call (.Name "max" pp) [e] [] pos) (PySem.W.maxD x ds) Γ1 :=
  ee_cb (id := "max") (call_maxT hr hc) hm (by decide +kernel) ha (fun F H vs Q x1 hx q => by
    obtain ⟨v, rfl, hv⟩ := one_of hx
    obtain ⟨p, ob, xs, rfl, _, _, hS, hA⟩ := hv.tupAt x1
    exact ⟨p, xs, x, ds, rfl, hS, DdA.dp x1 (x :: ds) _ hl hA, hal, hl, hdep, fun i y h1 h2 => q y F H (Ext.refl F) x1 (Ext.refl H) (fun a h => .inl h) (dda_at hA h1 h2)⟩) hg (by decide) (by decide) he rfl
end
end DL
end

section
namespace DL
open PySem PySem.Spec PyProof.Rows L2 RM
abbrev s_law : Stmt := topS 28
abbrev N_law : List Str := ["script", "row", "net", "turn", "due", "most", "halls", "pairs", "names", "told", "line", "pair", "at"]
theorem sc_law : FnScope N_law ["script"] (defScope s_law) := ⟨rfl, rfl, rfl, by decide +kernel, rfl, by decide +kernel, by decide +kernel⟩
structure Cas (P : Program) (w : World) (K : PySem.W.Frag) (mg : Str → Option Value) (base : Heap) : Prop where
  T : Tx mg
  lrn : Ca P w K mg base 5 "_law_rest_net" ["row"] (spR K R_lrn)
  lturn : Ca P w K mg base 2 "_law_turn" ["row", "halls"] (spR K R_lturn)
  taken : Ca P w K mg base 1 "_law_taken" ["row", "many"] (spR K R_taken)
  alike : Ca P w K mg base 5 "_law_alike" ["found", "due"] (spD K (R_alike 4))
  lpairs : Ca P w K mg base 1 "_law_pairs" ["halls"] (spD K R_all_pairs)
  far : Ca P w K mg base 1 "_law_far" ["net"] (spD K R_lfar)
  dist : Ca P w K mg base 7 "distances" ["net"] (spD K R_distances)
  span : Ca P w K mg base 8 "span" ["net"] (spD K R_span)
section
variable {P : Program} {w : World} {K : PySem.W.Frag} {mg : Str → Option Value} {base : Heap}
def R_law (ds : List PyData) (d : PyData) : Prop := ∃ ns : List Int, ds = [scrD ns] ∧ d = .bool true
theorem er_lessT {X : Cx} {Γ Γ' : Gm} {sts : List Stmt} {d : PyData} (hl : Less Γ' Γ) (h : Er X Γ' sts d) : Er X Γ sts d := by
  obtain ⟨g, z⟩ := h
  exact ⟨g, ess_less hl.1.symm hl.2 z⟩
/-- the distances of a net -/
def dueD (n : Nat) (Q : List (Nat × Nat)) : PyData := .tuple ((List.range n).map fun a => dN ((List.range n).map (distM Q n a)))
theorem far_due {n : Nat} {Q : List (Nat × Nat)} (hm : ∀ p ∈ Q, p ∈ allPairs n) : PyData.tuple ((farM n Q).map dN) = dueD n Q := by
  rw [farM_is hm, List.map_map]; rfl
theorem lfar_net {n : Nat} {Q : List (Nat × Nat)} (h1 : 1 ≤ n) (h9 : n ≤ 9) (hq : IsNet n Q) : R_lfar [nN n Q] (dueD n Q) := ⟨n, Q, h1, h9, by have := hq.len h9; omega, rfl, (far_due hq.2).symm⟩
theorem small_dN (l : List (Option Nat)) (h : l.length ≤ 1000) : smallD (dN l) = true := small_tup (fun o _ => by cases o <;> simp [optN, iN, smallD]) (by omega)
theorem due_facts {n : Nat} (h9 : n ≤ 9) (Q : List (Nat × Nat)) : SeqAt.shaped (dueD n Q) = true ∧ (dueD n Q).depth ≤ 3 ∧ smallD (dueD n Q) = true := by
  have d3 : (dueD n Q).depth ≤ 3 := dep_tup (enc := fun a => dN ((List.range n).map (distM Q n a))) fun a => dN_dep _
  exact ⟨shaped_of (lay_tup (enc := fun a => dN ((List.range n).map (distM Q n a))) fun a => dN_lay _) (by omega), d3, small_tup (fun a _ => small_dN _ (by rw [List.length_map, List.length_range]; omega)) (by rw [List.length_range]; omega)⟩
abbrev G1 (ns : List Int) (row : List PyData) : Gm := (slots0 N_law [scrD ns]).set 1 (some (.ow row))
abbrev G3 (ns : List Int) (row : List PyData) (n : Nat) (t : List Nat) (Q : List (Nat × Nat)) : Gm := ((G1 ns row).set 2 (some (.im (nN n Q)))).set 3 (some (.im (tn t)))
theorem maxD_nats (m : Nat) (r : List Nat) : PySem.W.maxD (iN m) (r.map iN) = iN (r.foldl max m) := by
  have h1 : PySem.W.maxD (.int (m : Int)) ((r.map fun n : Nat => (n : Int)).map .int) = _ := PySem.W.maxD_ints (m : Int) (r.map fun n : Nat => (n : Int))
  rw [List.map_map] at h1
  refine h1.trans ?_
  rw [natMax]; rfl
theorem maxD_less (m : Nat) (r : List Nat) : PySem.W.maxD (iN m) (r.map iN ++ [.int (-1)]) = iN (r.foldl max m) := by
  have h1 : PySem.W.maxD (.int (m : Int)) (((r.map fun n : Nat => (n : Int)) ++ [-1]).map .int) = _ := PySem.W.maxD_ints (m : Int) ((r.map fun n : Nat => (n : Int)) ++ [-1])
  rw [List.map_append, List.map_map] at h1
  refine h1.trans ?_
  rw [List.foldl_append, natMax]
  show PyData.int (max ((r.foldl max m : Nat) : Int) (-1)) = PyData.int ((r.foldl max m : Nat) : Int)
  congr 1
  omega
theorem law_first (Z : Cas P w K mg base) {f : Addr} {cdv : Value} {A : Around} {outer : List Env} {s : Shared} {H : Hp} {E : XK} (hr : Room 15 (A.deeper (envOfC "law" (defScope s_law) s.heap.objs.size f cdv)))
    {ns : List Int} {R : Rw} {t : List Nat} (ht : IsTurn t) {Q : List (Nat × Nat)} (hq : IsNet t.length Q) (hc : Comp (symW Q) t)
    (tail : Er (cxOf CX0 P w K mg base N_law "law" (defScope s_law) f cdv A outer s H E).nox (G1 ns (rowD R)) ((defBody s_law).drop 6) (.bool true)) :
    Er (cxOf CX0 P w K mg base N_law "law" (defScope s_law) f cdv A outer s H E).nox (G3 ns (rowD R) t.length t Q) ((defBody s_law).drop 2) (.bool true) := by
  have S := sc_law
  have T := Z.T
  let X := (cxOf CX0 P w K mg base N_law "law" (defScope s_law) f cdv A outer s H E).nox
  have h1 := ht.1
  have h9 := ht.2.1
  have hm := hq.2
  have hQs : Q.Sublist (allPairs t.length) := RM.G.asc_sub ordP hq.1 (allPairs_asc _) hq.2
  have heq : ledLot t Q = leftLot (allPairs t.length) Q := (led_compP ht hQs).mpr hc
  obtain ⟨n, hn⟩ : ∃ n, t.length = n := ⟨_, rfl⟩
  -- the span
  obtain ⟨sp, hsp, hs2⟩ : ∃ sp, spanM Q n = some sp ∧ (n = 1 → sp = 0) ∧ (1 < n → sp = 2 ∨ sp = 3) := by
    by_cases c : 2 ≤ n
    · rcases rest_span ht hQs heq (by omega) with e | e
      · exact ⟨2, by rw [← hn]; exact e, fun z => by omega, fun _ => .inl rfl⟩
      · exact ⟨3, by rw [← hn]; exact e, fun z => by omega, fun _ => .inr rfl⟩
    · have e1 : n = 1 := by omega
      refine ⟨0, ?_, fun _ => rfl, fun z => by omega⟩
      rw [e1]
      have : allD Q 1 = [distM Q 1 0 0] := rfl
      unfold spanM
      rw [this, dist_self Q (by decide)]; rfl
  rw [hn] at hq hm h1 h9 ⊢
  let Γ3 : Gm := G3 ns (rowD R) n t Q
  let D := dueD n Q
  obtain ⟨f1, f2, f3⟩ := due_facts h9 Q
  refine er_cons (Γ1 := Γ3.set 4 (some (.im D))) (es_set (d := D) 4 S.nd (ee_ca Z.far hr (ea_cons (ee_var 2) ea_nil) (lfar_net h1 h9 hq))) ?_
  let Γ4 : Gm := Γ3.set 4 (some (.im D))
  obtain ⟨m0, mr, hmr⟩ : ∃ m0 mr, (List.range n).map (maxLine Q n) = m0 :: mr := by
    cases h : (List.range n).map (maxLine Q n) with
    | cons x r => exact ⟨x, r, rfl⟩
    | nil =>
      have := congrArg List.length h
      rw [List.length_map, List.length_range] at this
      simp at this; omega
  have hmost : mr.foldl max m0 = sp := by
    have := most_is hsp
    rw [hmr, List.foldl_cons, Nat.zero_max] at this
    exact this
  refine er_cons (Γ1 := Γ4.set 5 (some (.im (iN sp)))) (es_set (d := iN sp) 5 S.nd (ee_is (ee_maxD (x := iN m0) (ds := mr.map iN ++ [.int (-1)]) hr rfl T.max (ea_cons (ee_is (ee_new (en_cat (ds := (((List.range n).filter fun _ => true).map fun a => iN (maxLine Q n a))) (ds2 := [.int (-1)]) (ee_new (en_lc (own := [("line", 10)]) (List.range n) (fun a => dN ((List.range n).map (distM Q n a))) (fun _ => true) (fun a => iN (maxLine Q n a)) (fun a => Γ4.set 10 (some (.im (dN ((List.range n).map (distM Q n a)))))) [10] rfl S.nd (blkOk_by (N := N_law) (sc := defScope s_law) (by decide +kernel)) rfl (by decide) (by rw [List.length_range]; omega) (fun x _ => less_set rfl)
    (ei_tup (ee_var 4)) (fun x hx _ _ _ _ _ => (eg_name 10 S.nd)) (fun x hx _ _ _ _ _ => (ets_one (et_is (et_notIn hr ee_non (ee_var 10) rfl (sh_optN none) (sh_lst _ optN_lay fun o => Nat.le_trans (optN_dep o) (by decide))) ?non))) (fun x hx hf _ _ _ _ _ => ?mx))) (ee_new (en_lst (ds := [.int (-1)]) (ea_cons (ee_sub ee_int ee_int) ea_nil) (by simp))) ?cl)) ?eqm) ea_nil) ?al ?ly ?dp) ?val)) ?_
  case non =>
    have : ((((List.range n).map (distM Q n x)).map optN).any fun z => PyData.eqv z (optN none)) = decide (none ∈ (List.range n).map (distM Q n x)) := (any_eqv optN_eqv _ none).trans (by congr)
    rw [show PyData.none = optN none from rfl, this, decide_eq_false]
    · rfl
    · intro z
      rw [line_some hsp (List.mem_range.mp hx)] at z
      obtain ⟨_, _, e⟩ := List.mem_map.mp z
      cases e
  case mx =>
    obtain ⟨y, r, hy⟩ := line_head Q h1 x
    have e : dN ((List.range n).map (distM Q n x)) = .tuple ((y :: r).map iN) := by
      rw [line_some hsp (List.mem_range.mp hx), hy]
      show PyData.tuple _ = PyData.tuple _
      rw [List.map_map]; rfl
    refine ee_is (ee_maxT (x := iN y) (ds := r.map iN) hr rfl T.max (ea_cons (ee_is (ee_var 10) e) ea_nil) (alAll2 (enc := iN) al_iN (fun a z => by cases z) (y :: r)) (lay_all (xs := y :: r) fun x _ => iN_lay x) (dep_all (xs := y :: r) fun x _ => by rw [iN_dep]; decide)) ?_
    rw [maxD_nats]
    unfold maxLine
    rw [hy, List.foldl_cons, Nat.zero_max]
  case cl =>
    rw [List.length_map]
    have := List.length_filter_le (fun _ => true) (List.range n)
    rw [List.length_range] at this
    show _ + 1 ≤ _
    omega
  case eqm =>
    rw [List.filter_eq_self.mpr (fun _ _ => rfl)]
    have : ((List.range n).map fun a => iN (maxLine Q n a)) = (m0 :: mr).map iN := by
      rw [← hmr, List.map_map]; rfl
    rw [this]; rfl
  case al =>
    have := alAll2 (enc := PyData.int) (fun a b => by simp [PySem.W.alike]) (fun a z => by cases z) (((m0 :: mr).map fun n : Nat => (n : Int)) ++ [-1])
    rw [List.map_append, List.map_map] at this
    exact this
  case ly =>
    have := lay_all (enc := PyData.int) (xs := ((m0 :: mr).map fun n : Nat => (n : Int)) ++ [-1]) fun x _ => by simp [PyData.canLay0]
    rw [List.map_append, List.map_map] at this
    exact this
  case dp =>
    have := dep_all (n := 60) (enc := PyData.int) (xs := ((m0 :: mr).map fun n : Nat => (n : Int)) ++ [-1]) fun x _ => by simp [PyData.depth]
    rw [List.map_append, List.map_map] at this
    exact this
  case val => rw [maxD_less, hmost]
  have sm : ∀ k : Nat, (iN k).depth ≤ 4 ∧ smallD (iN k) = true := fun k => ⟨by rw [iN_dep]; decide, by simp [iN, smallD]⟩
  refine er_ifF (et_is (et_w (ew_or (et_not (et_val (ee_ca Z.alike hr (ea_cons (ee_ca Z.dist hr (ea_cons (ee_var 2) ea_nil) ⟨n, Q, h1, h9, hq, rfl, rfl⟩) (ea_cons (ee_var 4) ea_nil)) (alk rfl f1 (Nat.le_trans f2 (by decide)) f3)))) fun _ => (ew_or1 (et_not (et_val (ee_ca Z.alike hr (ea_cons (ee_ca Z.span hr (ea_cons (ee_var 2) ea_nil) ⟨n, Q, h1, h9, hq, rfl, rfl⟩) (ea_cons (ee_var 5) ea_nil)) (alk (by rw [hsp]; rfl) (sh_optN _) (Nat.le_trans (optN_dep _) (by decide)) (by rw [hsp]; exact (sm _).2)))))))) rfl) ?_
  refine er_ifF (et_is (et_w (ew_or (et_w (ew_and (p := decide (1 < n)) (et_is (et_gt (ee_ixT (ee_var 2) ee_int rfl) ee_int) ?g1) fun _ => (ew_and1 (et_is (et_notIn hr (ee_var 5) (ee_new (en_lst (ds := [2, 3].map iN) (ea_cons ee_int (ea_cons ee_int ea_nil)) (by decide))) rfl (sh_iN _) (sh_iNs [2, 3])) (congrArg (!·) (any_eqv iN_eqv [2, 3] sp)))))) fun _ => (ew_or1 (et_w (ew_and (p := decide (n = 1)) (et_is (et_eqD hr (ee_ixT (ee_var 2) ee_int rfl) (ee_is (d2 := iN 1) ee_int rfl) (sh_iN _) (sh_iN _)) (iN_eqv n 1)) fun _ => (ew_and1 (et_is (et_neD hr (ee_var 5) (ee_is (d2 := iN 0) ee_int rfl) (sh_iN _) (sh_iN _)) (congrArg (!·) (iN_eqv sp 0))))))))) ?big) ?_
  case g1 => exact decide_eq_decide.mpr (by omega)
  case big =>
    obtain ⟨a1, a2⟩ := hs2
    by_cases c : n = 1
    · rw [a1 c, c]; rfl
    · rcases a2 (by omega) with e | e <;> rw [e, decide_eq_false c] <;> simp
  refine er_lessT ?_ tail
  exact less_setL [(2, some (.im (nN n Q))), (3, some (.im (tn t))), (4, some (.im D)), (5, some (.im (iN sp)))] rfl
theorem eg_rgE {X : Cx} {Γ : Gm} {tg : Expr} {is : List Nat} {enc : Nat → PyData} {n : Nat} {Γt : Nat → Gm} (h : ∀ x, Eg X Γ tg (enc x) is (Γt x)) (i : Nat) (d : PyData) (hd : ((List.range n).map enc)[i]? = some d) : Eg X Γ tg d is (Γt i) := by
  rw [List.getElem?_map] at hd
  cases hx : (List.range n)[i]? with
  | none => rw [hx] at hd; cases hd
  | some x =>
    rw [hx] at hd
    cases hd
    obtain ⟨hj, e⟩ := List.getElem?_eq_some_iff.mp hx
    rw [List.getElem_range] at e
    subst e
    exact h i
abbrev BL (ns : List Int) (row : List PyData) (n : Nat) (L : List (Nat × Nat)) : Gm := ((G1 ns row).set 6 (some (.im (iN n)))).set 7 (some (.im (.list (L.map pN))))
theorem law_end (Z : Cas P w K mg base) {f : Addr} {cdv : Value} {A : Around} {outer : List Env} {s : Shared} {H : Hp} {E : XK} (hr : Room 15 (A.deeper (envOfC "law" (defScope s_law) s.heap.objs.size f cdv)))
    {ns : List Int} {R : Rw} {n : Nat} (h1 : 1 ≤ n) (h9 : n ≤ 9) {L : List (Nat × Nat)} (hnd : L.Nodup) (hL : ∀ p ∈ L, p ∈ allPairs n) :
    Er (cxOf CX0 P w K mg base N_law "law" (defScope s_law) f cdv A outer s H E).nox (BL ns (rowD R) n L) ((defBody s_law).drop 9) (.bool true) := by
  have S := sc_law
  have T := Z.T
  let X := (cxOf CX0 P w K mg base N_law "law" (defScope s_law) f cdv A outer s H E).nox
  obtain ⟨Q, hQ⟩ : ∃ Q, L.mergeSort (le_ pLt) = Q := ⟨_, rfl⟩
  have hq : IsNet n Q := by
    rw [← hQ]
    exact ⟨sort_asc ordP hnd, fun p hp => hL p (List.mem_mergeSort.mp hp)⟩
  let B2 : Gm := (BL ns (rowD R) n L).set 2 (some (.im (nN n Q)))
  refine er_cons (Γ1 := B2) (es_set (d := nN n Q) 2 S.nd (ee_is (ee_tup (ds := [iN n, .tuple ((L.mergeSort (le_ pLt)).map pN)]) (ea_cons (ee_var 6) (ea_cons (ee_tupL T.tuple (ea_cons (ee_new (en_sortP (S := L) hr T.sorted (ea_cons (ee_var 7) ea_nil) rfl)) ea_nil)) ea_nil)) (by simp)) (by rw [hQ]; rfl))) ?_
  let D := dueD n Q
  obtain ⟨f1, f2, f3⟩ := due_facts h9 Q
  let B4 : Gm := B2.set 4 (some (.im D))
  refine er_cons (Γ1 := B4.set 9 (some (.im (.list [])))) (es_par2 4 9 rfl S.nd (by decide) (ek_d (d := D) (ee_ca Z.far hr (ea_cons (ee_var 2) ea_nil) (lfar_net h1 h9 hq))) (ek_d (d := .list []) (ee_new (en_lst (ds := []) ea_nil (by decide))))) ?_
  let line : Nat → List (Option Nat) := fun a => (List.range n).map (distM Q n a)
  let told : Nat → List (Option Nat) := fun i => (List.range i).flatMap line
  have tl : ∀ i, (told i).length = i * n := fun i => by
    induction i with
    | zero => simp [told]
    | succ i ih =>
      show ((List.range (i + 1)).flatMap line).length = _
      rw [List.range_succ, List.flatMap_append, List.length_append]
      have : ((List.range i).flatMap line).length = i * n := ih
      rw [this]
      simp [line, Nat.add_mul]
  let G : Nat → Gm := fun i => B4.set 9 (some (.im (.list ((told i).map optN))))
  refine er_cons (Γ1 := G n) (es_for (is := [10]) G (fun i => (G i).set 10 (some (.im (dN (line i))))) (fun i => .nx (G (i + 1))) n PassesOwn.never rfl (ei_tup (ds := (List.range n).map fun a => dN (line a)) (ee_var 4)) (by rw [List.length_map, List.length_range]; exact Nat.le_refl _) (fun i d hd _ => eg_rgE (enc := fun a => dN (line a)) (n := n) (Γt := fun x => (G i).set 10 (some (.im (dN (line x))))) (fun x => eg_name 10 S.nd) i d hd) (fun i hi' => ⟨?_, .inl rfl⟩) (.inl ⟨by rw [List.length_map, List.length_range], rfl⟩)) ?_
  · have ea : told (i + 1) = told i ++ line i := by
      show (List.range (i + 1)).flatMap line = _
      rw [List.range_succ, List.flatMap_append]
      congr 1
      simp
    show Ess X ((B4.set 9 (some (.im (.list ((told i).map optN))))).set 10 (some (.im (dN (line i))))) _ (.nx (B4.set 9 (some (.im (.list ((told (i + 1)).map optN))))))
    have h3 := tl i
    rw [ea]
    refine ess_wk (Γ1 := ((B4.set 9 (some (.im (.list ((told i ++ line i).map optN)))))).set 10 (some (.im (dN (line i))))) (ess_one (es_set (d := .list ((told i ++ line i).map optN)) 9 S.nd (ee_is (ee_new (en_cat (ds := (told i).map optN) (ds2 := (line i).map optN) (ee_var 9) (ee_new (en_list T.list (ea_cons (ee_var 10) ea_nil) rfl)) ?cl)) (by rw [← List.map_append])))) (less_set rfl)
    case cl =>
      rw [List.length_map, List.length_map, h3]
      show _ + ((List.range n).map _).length ≤ _
      rw [List.length_map, List.length_range]
      have : i * n ≤ 9 * 9 := Nat.mul_le_mul (by omega) h9
      omega
  have eT : told n = allD Q n := rfl
  show Er X (B4.set 9 (some (.im (.list ((told n).map optN))))) _ _
  rw [eT]
  have hin : ((allD Q n).map optN).any (fun z => PyData.eqv z (optN none)) = decide (none ∈ allD Q n) := (any_eqv optN_eqv (allD Q n) none).trans (by congr)
  have hsh : SeqAt.shaped (.list ((allD Q n).map optN)) = true := sh_lst _ optN_lay fun o => Nat.le_trans (optN_dep o) (by decide)
  have gA : SeqAt.shaped (.list [D, optN (spanM Q n)]) = true ∧ (PyData.list [D, optN (spanM Q n)]).depth ≤ 4 ∧ smallD (.list [D, optN (spanM Q n)]) = true := by
    have d4 : (PyData.list [D, optN (spanM Q n)]).depth ≤ 4 := by
      rw [PyData.depth]
      have := dep_all (n := 3) (enc := id) (xs := [D, optN (spanM Q n)]) fun x hx => by
        simp only [List.mem_cons, List.not_mem_nil, or_false] at hx
        rcases hx with rfl | rfl
        · exact f2
        · exact Nat.le_trans (optN_dep _) (by decide)
      rw [List.map_id] at this
      omega
    refine ⟨shaped_of ?_ (by omega), d4, ?_⟩
    · rw [PyData.canLay0]
      have := lay_all (enc := id) (xs := [D, optN (spanM Q n)]) fun x hx => by
        simp only [List.mem_cons, List.not_mem_nil, or_false] at hx
        rcases hx with rfl | rfl
        · exact SeqAt.canLay_of_shaped f1
        · exact optN_lay _
      rw [List.map_id] at this
      exact this
    · have o : smallD (optN (spanM Q n)) = true := by cases spanM Q n <;> simp [optN, iN, smallD]
      show (decide ((2 : Nat) ≤ 16777216) && (smallD (dueD n Q) && (smallD (optN (spanM Q n)) && true))) = true
      rw [f3, o]; rfl
  refine er_ret (ee_ca Z.alike hr (ea_cons (ee_new (en_lst (ds := [D, optN (spanM Q n)]) (ea_cons (ee_ca Z.dist hr (ea_cons (ee_var 2) ea_nil) ⟨n, Q, h1, h9, hq, rfl, rfl⟩) (ea_cons (ee_ca Z.span hr (ea_cons (ee_var 2) ea_nil) ⟨n, Q, h1, h9, hq, rfl, rfl⟩) ea_nil)) (by simp))) (ea_cons (ee_new (en_lst (ds := [D, optN (spanM Q n)]) (ea_cons (ee_var 4) (ea_cons (ee_ifexp (p := decide (none ∈ allD Q n)) (d := optN (spanM Q n)) (et_is (et_in hr ee_non (ee_var 9) rfl (sh_optN none) hsh) hin) (fun z => ee_is ee_non ?no) (fun z => ?yes)) ea_nil)) (by simp))) ea_nil)) (alk rfl gA.1 gA.2.1 gA.2.2))
  case no =>
    unfold spanM spanOf
    rw [if_pos (of_decide_eq_true z)]; rfl
  case yes =>
    have hno := of_decide_eq_false z
    have e : (allD Q n).map optN = ((allD Q n).filterMap id).map iN := by
      generalize allD Q n = l at hno
      clear z hin hsh
      induction l with
      | nil => rfl
      | cons o l ih =>
        cases o with
        | none => exact absurd List.mem_cons_self hno
        | some k =>
          have := ih fun z => hno (List.mem_cons_of_mem _ z)
          rw [List.map_cons, this]; rfl
    obtain ⟨m, r, er⟩ : ∃ m r, (allD Q n).filterMap id = m :: r := by
      cases h : (allD Q n).filterMap id with
      | cons m r => exact ⟨m, r, rfl⟩
      | nil =>
        exfalso
        have h0 : distM Q n 0 0 = some 0 := dist_self Q (by omega)
        have : some 0 ∈ allD Q n := List.mem_flatMap.mpr ⟨0, List.mem_range.mpr (by omega), List.mem_map.mpr ⟨0, List.mem_range.mpr (by omega), h0⟩⟩
        have : 0 ∈ (allD Q n).filterMap id := List.mem_filterMap.mpr ⟨some 0, this, rfl⟩
        rw [h] at this; cases this
    have es : spanM Q n = some (r.foldl max m) := by
      unfold spanM spanOf
      rw [if_neg hno, er, List.foldl_cons, Nat.zero_max]
    rw [er] at e
    rw [es]
    exact ee_is (ee_maxD (x := iN m) (ds := r.map iN) hr rfl T.max (ea_cons (ee_is (ee_var 9) (by rw [e]; rfl)) ea_nil) (alAll2 (enc := iN) al_iN (fun a z => by cases z) (m :: r)) (lay_all (xs := m :: r) fun x _ => iN_lay x) (dep_all (xs := m :: r) fun x _ => by rw [iN_dep]; decide)) (maxD_nats m r)
theorem drawK (m : Nat) (R : Rw) (h : 0 < m) : ∃ k : Nat, k < m ∧ (takenM (m : Int) R).1 = (k : Int) := by
  have := taken_lt (m := (m : Int)) (R := R) (by omega)
  exact ⟨(takenM (m : Int) R).1.toNat, by omega, by omega⟩
/-- what the law draws for each pair -/
def rowQ (R : Rw) : Nat → Rw
  | 0 => R
  | i + 1 => (takenM (1 + (takenM 6 (rowQ R i)).1) (takenM 6 (rowQ R i)).2).2
theorem rowQ_i {R : Rw} (h : 0 ≤ R.i) : ∀ i, 0 ≤ (rowQ R i).i
  | 0 => h
  | i + 1 => taken_i (taken_i (rowQ_i h i))
theorem natAdd7 (a b : Nat) : PyData.int ((a : Int) + (b : Int)) = iN (a + b) := by
  show _ = PyData.int ((a + b : Nat) : Int)
  rw [Int.natCast_add]
def isIn (R : Rw) (j : Nat) : Bool := PyData.eqv (.int (takenM (1 + (takenM 6 (rowQ R j)).1) (takenM 6 (rowQ R j)).2).1) (.int 0)
def keptL (n : Nat) (R : Rw) : List (Nat × Nat) := ((List.range (allPairs n).length).filter (isIn R)).map fun j => (allPairs n).getD j (0, 0)
theorem kept_sub (n : Nat) (R : Rw) : (keptL n R).Sublist (allPairs n) := by
  have e : (List.range (allPairs n).length).map (fun j => (allPairs n).getD j (0, 0)) = allPairs n := by
    refine List.ext_getElem? fun j => ?_
    rw [List.getElem?_map]
    by_cases h : j < (allPairs n).length
    · rw [List.getElem?_range h]
      show some ((allPairs n).getD j (0, 0)) = _
      rw [List.getD_eq_getElem?_getD, List.getElem?_eq_getElem h]; rfl
    · rw [List.getElem?_eq_none (by rw [List.length_range]; omega), List.getElem?_eq_none (by omega)]; rfl
  have := (List.filter_sublist (p := isIn R) (l := List.range (allPairs n).length)).map fun j => (allPairs n).getD j (0, 0)
  rw [e] at this
  exact this
def chainL (t : List Nat) : List (Nat × Nat) := (List.range (t.length - 1)).map fun i => ledPair t (i, i + 1)
theorem chain_ok {t : List Nat} (ht : IsTurn t) : (chainL t).Nodup ∧ ∀ p ∈ chainL t, p ∈ allPairs t.length := by
  have hm : ∀ i, i ∈ List.range (t.length - 1) → (i, i + 1) ∈ allPairs t.length := fun i hi => by
    have := List.mem_range.mp hi
    exact mem_allPairs.mpr ⟨by show i < i + 1; omega, by show i + 1 < t.length; omega⟩
  constructor
  · unfold chainL
    refine List.pairwise_map.mpr (List.Pairwise.imp_of_mem (fun {a b} ha hb hne e => hne ?_) List.nodup_range)
    exact congrArg Prod.fst (led_inj ht _ (hm a ha) _ (hm b hb) e)
  · intro p hp
    obtain ⟨i, hi, rfl⟩ := List.mem_map.mp hp
    exact led_mem ht _ (hm i hi)
theorem law_tail (Z : Cas P w K mg base) {f : Addr} {cdv : Value} {A : Around} {outer : List Env} {s : Shared} {H : Hp} {E : XK} (hr : Room 15 (A.deeper (envOfC "law" (defScope s_law) s.heap.objs.size f cdv)))
    {ns : List Int} {R : Rw} (hi : 0 ≤ R.i) : Er (cxOf CX0 P w K mg base N_law "law" (defScope s_law) f cdv A outer s H E).nox (G1 ns (rowD R)) ((defBody s_law).drop 6) (.bool true) := by
  have S := sc_law
  have T := Z.T
  let X := (cxOf CX0 P w K mg base N_law "law" (defScope s_law) f cdv A outer s H E).nox
  obtain ⟨k, hk, ek⟩ := drawK 9 R (by decide)
  let R1 : Rw := (takenM ((9 : Nat) : Int) R).2
  have hi1 : 0 ≤ R1.i := taken_i hi
  have Q1 : R_taken (rowD R) [iN 9] (.int (takenM ((9 : Nat) : Int) R).1) (rowD R1) := ⟨R, ((9 : Nat) : Int), hi, by decide, by decide, rfl, rfl, rfl, rfl⟩
  obtain ⟨n, hn⟩ : ∃ n, 1 + k = n := ⟨_, rfl⟩
  have h1 : 1 ≤ n := by omega
  have h9 : n ≤ 9 := by omega
  refine er_cons (Γ1 := (G1 ns (rowD R1)).set 6 (some (.im (iN n)))) (es_set (d := iN n) 6 S.nd (ee_is (ee_add ee_int (ee_caR (Γ1 := G1 ns (rowD R)) (row' := rowD R1) (s := .ow (rowD R)) (s1 := .ow (rowD R)) Z.taken hr (pe_nm 1) rfl rfl (ea_cons ee_int ea_nil) rfl rfl Q1)) (by rw [ek, ← hn]; exact natAdd7 1 k))) ?_
  let G : Nat → Gm := fun j => (G1 ns (rowD (rowQ R1 j))).set 6 (some (.im (iN n)))
  have hE81 := allPairs_len n h9
  have six : ∀ j, ∃ q : Nat, q < 6 ∧ (takenM 6 (rowQ R1 j)).1 = (q : Int) := fun j => drawK 6 (rowQ R1 j) (by decide)
  have QA : ∀ j, R_taken (rowD (rowQ R1 j)) [.int 6] (.int (takenM 6 (rowQ R1 j)).1) (rowD (takenM 6 (rowQ R1 j)).2) := fun j => ⟨rowQ R1 j, 6, rowQ_i hi1 j, by decide, by decide, rfl, rfl, rfl, rfl⟩
  have QB : ∀ j, R_taken (rowD (takenM 6 (rowQ R1 j)).2) [.int (1 + (takenM 6 (rowQ R1 j)).1)] (.int (takenM (1 + (takenM 6 (rowQ R1 j)).1) (takenM 6 (rowQ R1 j)).2).1) (rowD (rowQ R1 (j + 1))) := fun j => by
    obtain ⟨q, q1, q2⟩ := six j
    exact ⟨(takenM 6 (rowQ R1 j)).2, 1 + (takenM 6 (rowQ R1 j)).1, taken_i (rowQ_i hi1 j), by rw [q2]; omega, by rw [q2]; omega, rfl, rfl, rfl, rfl⟩
  have eK : keptOf ((allPairs n).map pN).length (isIn R1) (fun j => pN ((allPairs n).getD j (0, 0))) = (keptL n R1).map pN := by
    rw [List.length_map]
    unfold keptOf keptL
    rw [List.map_map]; rfl
  refine er_cons (es_setLcS 7 (own := [("pair", 11)]) (ds := (allPairs n).map pN) (isIn R1) (fun j => pN ((allPairs n).getD j (0, 0))) G (fun j => (G j).set 11 (some (.im (pN ((allPairs n).getD j (0, 0)))))) (fun j => (G (j + 1)).set 11 (some (.im (pN ((allPairs n).getD j (0, 0)))))) [11] rfl S.nd (blkOk_by (N := N_law) (sc := defScope s_law) (by decide +kernel)) (fun _ => rfl) (by decide) (by rw [List.length_map]; omega) (fun j _ => less_set rfl)
    (ei_list (ee_ca Z.lpairs hr (ea_cons (ee_var 6) ea_nil) ⟨n, rfl, by omega, rfl⟩)) (fun j d hd _ _ _ _ _ => ?gt) (fun j hj _ _ _ _ _ => (ezs_one (et_eqD hr (ee_caR (row' := rowD (rowQ R1 (j + 1))) (s := .ow (rowD (rowQ R1 j))) (s1 := .ow (rowD (takenM 6 (rowQ R1 j)).2)) Z.taken hr (pe_nm 1) rfl rfl (ea_cons (ee_add ee_int (ee_caR (row' := rowD (takenM 6 (rowQ R1 j)).2) (s := .ow (rowD (rowQ R1 j))) (s1 := .ow (rowD (rowQ R1 j))) Z.taken hr (pe_nm 1) rfl rfl (ea_cons ee_int ea_nil) rfl rfl (QA j))) ea_nil) rfl rfl (QB j)) ee_int (sh_int _) (sh_int _)))) (fun j hj hf _ _ _ _ _ => (ee_var 11))) ?_
  case gt =>
    rw [List.getElem?_map] at hd
    have e : d = pN ((allPairs n).getD j (0, 0)) := by
      rw [List.getD_eq_getElem?_getD]
      cases q : (allPairs n)[j]? with
      | none => rw [q] at hd; cases hd
      | some p => rw [q] at hd; cases hd; rfl
    rw [e]
    exact eg_name 11 S.nd
  refine er_freeze 7 rfl ?_
  rw [eK]
  obtain ⟨R2, hR2⟩ : ∃ R2, rowQ R1 ((allPairs n).map pN).length = R2 := ⟨_, rfl⟩
  have hi2 : 0 ≤ R2.i := by rw [← hR2]; exact rowQ_i hi1 _
  show Er X (((G1 ns (rowD (rowQ R1 ((allPairs n).map pN).length))).set 6 (some (.im (iN n)))).set 7 (some (.im (.list ((keptL n R1).map pN))))) _ _
  rw [hR2]
  have ksub := kept_sub n R1
  have knd : (keptL n R1).Nodup := (asc_nodup ordP (allPairs_asc n)).sublist ksub
  generalize keptL n R1 = L0 at ksub knd ⊢
  obtain ⟨k3, hk3, ek3⟩ := drawK 3 R2 (by decide)
  let R3 : Rw := (takenM ((3 : Nat) : Int) R2).2
  have hi3 : 0 ≤ R3.i := taken_i hi2
  have Q3 : R_taken (rowD R2) [iN 3] (.int (takenM ((3 : Nat) : Int) R2).1) (rowD R3) := ⟨R2, ((3 : Nat) : Int), hi2, by decide, by decide, rfl, rfl, rfl, rfl⟩
  have test : ∀ q, decide (k3 = 0) = q → Et X (BL ns (rowD R2) n L0) (match stAt (defBody s_law) 8 with | .If c _ _ _ => c | _ => .Constant .none 0 ⟨0, 0, 0, 0⟩) q (BL ns (rowD R3) n L0) := fun q hq =>
    et_is (et_eqD hr (ee_caR (row' := rowD R3) (s := .ow (rowD R2)) (s1 := .ow (rowD R2)) Z.taken hr (pe_nm 1) rfl rfl (ea_cons ee_int ea_nil) rfl rfl Q3) ee_int (sh_int _) (sh_int _)) (by rw [ek3, int_eqv, ← hq]; exact decide_eq_decide.mpr (by omega))
  by_cases c : k3 = 0
  · obtain ⟨nm, hnm⟩ : ∃ nm, (turnM n R3).1 = nm := ⟨_, rfl⟩
    have m1 : IsTurn nm := by rw [← hnm]; exact turnM_is R3 h1 h9
    have m2 : nm.length = n := by rw [← hnm]; exact turnM_len _ R3
    let R4 : Rw := (turnM n R3).2
    have RT : R_lturn (rowD R3) [iN n] (tn nm) (rowD R4) := ⟨R3, n, hi3, h9, rfl, rfl, by rw [hnm], rfl⟩
    obtain ⟨cn, cm⟩ := chain_ok m1
    rw [m2] at cm
    let B8 : Gm := (BL ns (rowD R4) n L0).set 8 (some (.im (tn nm)))
    have eC : (((List.range (n - 1)).filter fun _ => true).map fun i => pN (ledPair nm (i, i + 1))) = (chainL nm).map pN := by
      rw [List.filter_eq_self.mpr (fun _ _ => rfl)]
      unfold chainL
      rw [m2, List.map_map]; rfl
    refine er_cons (Γ1 := BL ns (rowD R4) n (chainL nm)) (es_wk (Γ1 := (BL ns (rowD R4) n (chainL nm)).set 8 (some (.im (tn nm)))) (es_ifT (test true (decide_eq_true c)) (ess_cons (Γ1 := B8) (es_set (d := tn nm) 8 S.nd (ee_caR (row' := rowD R4) (s := .ow (rowD R3)) (s1 := .ow (rowD R3)) Z.lturn hr (pe_nm 1) rfl rfl (ea_cons (ee_var 6) ea_nil) rfl rfl RT)) (ess_cons (Γ1 := B8.set 7 (some (.ow ((chainL nm).map pN)))) (by
      rw [← eC]
      exact es_setLc 7 (own := [("at", 12)]) (List.range (n - 1)) iN (fun _ => true) (fun i => pN (ledPair nm (i, i + 1))) (fun i => B8.set 12 (some (.im (iN i)))) [12] rfl S.nd (blkOk_by (N := N_law) (sc := defScope s_law) (by decide +kernel)) rfl (by decide) (by rw [List.length_range]; omega) (fun x _ => less_set rfl)
        (ei_is (ei_range1 T.range (ea_cons (ee_is (d2 := iN (n - 1)) (ee_sub (ee_var 6) ee_int) (by show PyData.int ((n : Int) - 1) = PyData.int ((n - 1 : Nat) : Int); congr 1; omega)) ea_nil) (by omega) (by omega)) (rngD_N (n - 1))) (fun x hx _ _ _ _ _ => (eg_name 12 S.nd)) (fun x hx _ _ _ _ _ => ets_nil) (fun x hx hf _ _ _ _ _ => (ee_is (ee_tupL T.tuple (ea_cons (ee_new (en_sortI (t := [at_ nm x, at_ nm (x + 1)]) hr T.sorted (ea_cons (ee_new (en_lst (ds := [iN (at_ nm x), iN (at_ nm (x + 1))]) (ea_cons (ee_ixT (ee_var 8) (ee_var 12) (at_get (by have := List.mem_range.mp hx; omega))) (ea_cons (ee_ixT (ee_var 8) (ee_is (d2 := iN (x + 1)) (ee_add (ee_var 12) ee_int) (natAdd7 x 1)) (at_get (by have := List.mem_range.mp hx; omega))) ea_nil)) (by simp))) ea_nil) rfl)) ea_nil)) (by rw [sort_two]; rfl)))) (ess_freeze 7 rfl ess_nil)))) (less_set rfl)) ?_
    exact law_end Z hr h1 h9 cn cm
  · refine er_cons (Γ1 := BL ns (rowD R3) n L0) (es_ifF (test false (decide_eq_false c)) ess_nil) ?_
    exact law_end Z hr h1 h9 knd fun p hp => ksub.subset hp
theorem net_mix {t : List Nat} (ht : IsTurn t) (bs : Nat → Bool) {m : Nat} (hm : ∀ i, i < m → RM.G.leftR (RM.G.ringE (ledPair t) (allPairs t.length)) (allPairs t.length) i ≠ []) : IsNet t.length ((mixW (ledPair t) (allPairs t.length) bs m).mergeSort (le_ pLt)) := by
  obtain ⟨a, b⟩ := mix_inv (sysP ht) bs m hm
  exact ⟨sort_asc ordP a, fun p hp => (b p (List.mem_mergeSort.mp hp)).1⟩
theorem ok_law (Z : Cas P w K mg base) {f : Addr} {fd : FuncData} (F : Fun K "law" "law" s_law f fd) : FnOk P w K mg base CX0 16 f fd ["script"] (spD K R_law) := by
  have S := sc_law
  refine ok_D F S (fun ds d ⟨_, e, _⟩ => by rw [e]; rfl) fun cdv A outer s H E ds d hr ⟨ns, e1, e2⟩ => ?_
  suffices hh : Er (cxOf CX0 P w K mg base N_law "law" (defScope s_law) f cdv A outer s H E).nox (slots0 N_law ds) (defBody s_law) d by
    obtain ⟨g, hg⟩ := hh
    exact ⟨_, hg, .inl ⟨g, rfl⟩⟩
  subst e1 e2
  let R0 : Rw := ⟨ns, 0, 5907, 0⟩
  have hi0 : 0 ≤ R0.i := Int.le_refl 0
  obtain ⟨ls, hls⟩ : ∃ ls, some3[pickI 9 R0]? = some ls := ⟨_, List.getElem?_eq_getElem (pickI_lt (n := 9) (by decide)).1⟩
  have hlm := List.mem_of_getElem? hls
  obtain ⟨f1, f2, f3, f4⟩ := some3_ok ls hlm
  let Re : Rw := (takenM (9 : Nat) R0).2
  let R1 : Rw := (turnM ls.sum Re).2
  have hi1 : 0 ≤ R1.i := drawT_i _ _ _ _ (taken_i hi0)
  have hu := (ringed_all (turnM_is Re f1 f2) f4 (by rw [turnM_len])).1
  have hev := some3_even hlm (turnM_is Re f1 f2) (by rw [turnM_len])
  have RT : R_lrt (rowD R0) [] (tn (ringedM (turnM ls.sum Re).1 ls)) (rowD R1) := ⟨R0, ls, hi0, hls, rfl, rfl, rfl, rfl⟩
  generalize hue : ringedM (turnM ls.sum Re).1 ls = t at *
  have hRp : ∀ p, p ∈ RM.G.ringE (ledPair t) (allPairs t.length) p := fun p => by
    obtain ⟨r, e⟩ := RM.G.ringE_ne (ledPair t) (allPairs t.length) p
    rw [e]; exact List.mem_cons_self
  obtain ⟨m, hmm, hm0, hm1⟩ := RM.G.walk_end hRp (allPairs t.length)
  let R2 : Rw := drawAt 2 R1 m
  have hi2 : 0 ≤ R2.i := drawAt_i hi1 m
  have hq := net_mix hu (bsM R1) hm1
  have hal := mix_led (sysP hu) hev (bsM R1) hm0 hm1
  have RL : R_lrn (rowD R0) [] (.tuple [nN t.length ((mixW (ledPair t) (allPairs t.length) (bsM R1) m).mergeSort (le_ pLt)), tn t]) (rowD R2) := ⟨R0, R1, t, m, hi1, hu, RT, hm0, hm1, rfl, rfl, rfl, rfl⟩
  generalize (mixW (ledPair t) (allPairs t.length) (bsM R1) m).mergeSort (le_ pLt) = Q at *
  have hc := (comp_pairs hu hq.2).mp hal
  refine er_cons (es_own 1 S.nd (en_lst (ds := rowD R0) (ea_cons (ee_var 0) (ea_cons ee_int (ea_cons ee_int (ea_cons ee_int ea_nil)))) (by show 4 ≤ 16777216; decide))) ?_
  refine er_cons (Γ1 := G3 ns (rowD R2) t.length t Q) (es_asg (ee_caR (row' := rowD R2) (s := .ow (rowD R0)) (s1 := .ow (rowD R0)) Z.lrn hr (pe_nm 1) rfl rfl ea_nil rfl rfl RL) (eg_tup2 rfl (eg_name 2 S.nd) (eg_name 3 S.nd))) ?_
  exact law_first Z hr hu hq hc (law_tail Z hr hi2)
end
end DL
end

section
namespace DL
open PySem PySem.Spec PyProof.Rows L2 RM
section
variable {P : Program} {w : World} {K : PySem.W.Frag} {mg : Str → Option Value} {base h : Heap} {C : Addr}
theorem fn_mk {x : Str} {st : Stmt} {ps : List Str} {f : Addr} {od an : Option Addr} {sl : Array (Option Value)} {oc kV dc pm cd ct : Value} (X : K.In h) (G : h.Ns mainGlobals mg) (a : PySem.W.nsIn K mainGlobals x = some (some (.ref f)))
    (l : K.lookup f = some ⟨oc, od, .func (PySem.W.fnOf x x (defArgs st) (defBody st) (defScope st) .none kV dc pm an cd ct), sl⟩) (c : PySem.W.codeIn K cd x = true) (k : PySem.W.keepIn K (.ref f) = true)
    (hb : ∀ (fd : FuncData), Fun K x x st f fd → L2.Binds K fd ps []) : Fn K mg x st ps :=
  ⟨f, _, PySem.W.mg_of X G a, fun_mk (st := st) l c k, hb _ (fun_mk (st := st) l c k)⟩
theorem fnA_mk {y x : Str} {st : Stmt} {ps : List Str} {f : Addr} {od an : Option Addr} {sl : Array (Option Value)} {oc kV dc pm cd ct : Value} (X : K.In h) (G : h.Ns mainGlobals mg) (a : PySem.W.nsIn K mainGlobals y = some (some (.ref f)))
    (l : K.lookup f = some ⟨oc, od, .func (PySem.W.fnOf x x (defArgs st) (defBody st) (defScope st) .none kV dc pm an cd ct), sl⟩) (c : PySem.W.codeIn K cd x = true) (k : PySem.W.keepIn K (.ref f) = true)
    (hb : ∀ (fd : FuncData), Fun K x x st f fd → L2.Binds K fd ps []) : FnA K mg y x st ps :=
  ⟨f, _, PySem.W.mg_of X G a, fun_mk (st := st) l c k, hb _ (fun_mk (st := st) l c k)⟩
theorem law_mk {fa f : Addr} {od an : Option Addr} {sl : Array (Option Value)} {oc kV dc pm cd ct : Value} (X : K.In h) (G : h.Ns mainGlobals mg) (hfa : mg "law" = some (.ref fa)) (a : PySem.W.nsIn K mainGlobals "law" = some (some (.ref f)))
    (l : K.lookup f = some ⟨oc, od, .func (PySem.W.fnOf "law" "law" (defArgs s_law) (defBody s_law) (defScope s_law) .none kV dc pm an cd ct), sl⟩) (c : PySem.W.codeIn K cd "law" = true) (k : PySem.W.keepIn K (.ref f) = true) :
    ∃ fd : FuncData, (∀ (s : Shared) (v : Value), BindsTo s fd ⟨[v], []⟩ [("script", v)]) ∧ Fun K "law" "law" s_law fa fd := by
  have e := hfa.symm.trans (PySem.W.mg_of X G a)
  cases e
  exact ⟨PySem.W.fnOf "law" "law" (defArgs s_law) (defBody s_law) (defScope s_law) .none kV dc pm an cd ct, fun s v => .of_eq rfl, fun_mk (st := s_law) l c k⟩
theorem cas_mk (T : Tx mg)
    (I_MOST_HALLS : ∃ t, mg "MOST_HALLS" = some (.int 9 t))
    (F_is_number : Fn K mg "is_number" s_is_number ["value", "least", "most"])
    (F_both_ways : Fn K mg "both_ways" s_both_ways ["pairs"])
    (F_is_way : Fn K mg "is_way" s_is_way ["value", "halls"])
    (F_ascends : Fn K mg "ascends" s_ascends ["members"])
    (F_are_ways : Fn K mg "are_ways" s_are_ways ["value", "halls"])
    (F_are_pairs : Fn K mg "are_pairs" s_are_pairs ["value", "halls"])
    (F_wrong_frame : Fn K mg "wrong_frame" s_wrong_frame ["value"])
    (F_wrong_part : Fn K mg "wrong_part" s_wrong_part ["value"])
    (F_check_net : Fn K mg "check_net" s_check_net ["value"])
    (F_distances_from : Fn K mg "distances_from" s_distances_from ["hall", "halls", "ways"])
    (F_distances : Fn K mg "distances" s_distances ["net"])
    (F_span : Fn K mg "span" s_span ["net"])
    (F__law_taken : Fn K mg "_law_taken" s_taken ["row", "many"])
    (F__law_pick : Fn K mg "_law_pick" s_pick ["row", "things"])
    (F__law_alike : Fn K mg "_law_alike" s_alike ["found", "due"])
    (F__law_turn : Fn K mg "_law_turn" s_lturn ["row", "halls"])
    (F__law_pairs : Fn K mg "_law_pairs" s_lpairs ["halls"])
    (F__law_ringed : Fn K mg "_law_ringed" s_ringed ["row", "lengths"])
    (F__law_rest_turn : Fn K mg "_law_rest_turn" s_lrt ["row"])
    (F__law_rest_net : Fn K mg "_law_rest_net" s_lrn ["row"])
    (F__law_far : Fn K mg "_law_far" s_lfar ["net"]) : Cas P w K mg base := by
  have c1 := ok_is_number (P := P) (w := w) (base := base) T F_is_number
  have bw := ok_both (P := P) (w := w) (base := base) T F_both_ways
  have c3 := ok_is_way T F_is_way c1
  have ca := ok_ascends (P := P) (w := w) (base := base) T F_ascends
  have c4 := ok_are_ways T F_are_ways c3 ca
  have c5 := ok_are_pairs T F_are_pairs c4
  have c6 := ok_wrong_frame T I_MOST_HALLS F_wrong_frame c1
  have c7 := ok_wrong_part (FnA.of F_wrong_part) c6 c5
  have c8 := ok_check_net F_check_net c7
  have s1 := ok_dfrom (P := P) (w := w) (base := base) T F_distances_from
  have s2 := ok_distances T F_distances c8 bw s1
  have s3 := ok_span T F_span s2
  have d1 := ok_taken (P := P) (w := w) (base := base) T F__law_taken
  have d2 := ok_pick T F__law_pick d1
  have d3 := ok_alike (P := P) (w := w) (base := base) T F__law_alike 4
  have d4 := ok_lturn T F__law_turn d1
  have d5 := ok_lpairs (P := P) (w := w) (base := base) T F__law_pairs
  have d10 := ok_ringed T F__law_ringed d4
  have d11 := ok_lrt F__law_rest_turn d2 d10
  have d12 := ok_lrn T F__law_rest_net d11 d5 d1
  have d13 := ok_lfar (P := P) (w := w) (base := base) T F__law_far
  exact ⟨T, d12, d4, d1, d3, d5, d13, s2, s3⟩
theorem all_law {fa : Addr} (X : K.In h) (G : h.Ns mainGlobals mg) (T : Tx mg) (L : ∃ fd : FuncData, (∀ (s : Shared) (v : Value), BindsTo s fd ⟨[v], []⟩ [("script", v)]) ∧ Fun K "law" "law" s_law fa fd)
    (I_MOST_HALLS : ∃ t, mg "MOST_HALLS" = some (.int 9 t))
    (F_is_number : Fn K mg "is_number" s_is_number ["value", "least", "most"])
    (F_both_ways : Fn K mg "both_ways" s_both_ways ["pairs"])
    (F_is_way : Fn K mg "is_way" s_is_way ["value", "halls"])
    (F_ascends : Fn K mg "ascends" s_ascends ["members"])
    (F_are_ways : Fn K mg "are_ways" s_are_ways ["value", "halls"])
    (F_are_pairs : Fn K mg "are_pairs" s_are_pairs ["value", "halls"])
    (F_wrong_frame : Fn K mg "wrong_frame" s_wrong_frame ["value"])
    (F_wrong_part : Fn K mg "wrong_part" s_wrong_part ["value"])
    (F_check_net : Fn K mg "check_net" s_check_net ["value"])
    (F_distances_from : Fn K mg "distances_from" s_distances_from ["hall", "halls", "ways"])
    (F_distances : Fn K mg "distances" s_distances ["net"])
    (F_span : Fn K mg "span" s_span ["net"])
    (F__law_taken : Fn K mg "_law_taken" s_taken ["row", "many"])
    (F__law_pick : Fn K mg "_law_pick" s_pick ["row", "things"])
    (F__law_alike : Fn K mg "_law_alike" s_alike ["found", "due"])
    (F__law_turn : Fn K mg "_law_turn" s_lturn ["row", "halls"])
    (F__law_pairs : Fn K mg "_law_pairs" s_lpairs ["halls"])
    (F__law_ringed : Fn K mg "_law_ringed" s_ringed ["row", "lengths"])
    (F__law_rest_turn : Fn K mg "_law_rest_turn" s_lrt ["row"])
    (F__law_rest_net : Fn K mg "_law_rest_net" s_lrn ["row"])
    (F__law_far : Fn K mg "_law_far" s_lfar ["net"]) :
    ∃ fd : FuncData, (∀ (s : Shared) (v : Value), BindsTo s fd ⟨[v], []⟩ [("script", v)]) ∧ ∀ base : Heap, K.In base → base.Ns mainGlobals mg → FnOk P w K mg base CX0 16 fa fd ["script"] (spD K R_law) := by
  obtain ⟨fd, hb, hF⟩ := L
  exact ⟨fd, hb, fun base _ _ => ok_law (cas_mk T I_MOST_HALLS F_is_number F_both_ways F_is_way F_ascends F_are_ways F_are_pairs F_wrong_frame F_wrong_part F_check_net F_distances_from F_distances F_span F__law_taken F__law_pick F__law_alike F__law_turn F__law_pairs F__law_ringed F__law_rest_turn F__law_rest_net F__law_far) hF⟩
end
end DL
end

section
open PySem PySem.W PyProof.Rows
set_option maxRecDepth 100000 in
set_option maxHeartbeats 0 in
theorem PySem.Challenge.cw_restalike_k07_whole_spans_holds : PySem.Challenge.rw_restalike_k07_whole_spans.Holds := by
  w_on; o_law; k_head; (case hw => w_witness2)
  k_fill
  refine L2.walk_of (l := PySem.Challenge.rw_restalike_k07_whole_spans) (n := 63) (k := 16) (x := "script") (CX := fun _ => L2.CX0) (sp := fun w => DL.spD _ DL.R_law) rfl (by decide) rfl ⟨rfl, by decide, by decide⟩ (fun w h Y => PySem.W.kIn_of Y) ?F (fun w H a ns hl hO hS => ⟨H, [DL.scrD ns], .bool true, DL.Ext.refl H, .cons (.scr hS) .nil, ⟨ns, rfl, rfl⟩, fun v F' H' _ _ _ _ dv => by cases dv; rfl⟩) (fun _ _ _ _ _ h => h)
  case F =>
    intro w mg fa h KX G hmg
    refine' DL.all_law KX G ?T ?L ?I_MOST_HALLS ?F_is_number ?F_both_ways ?F_is_way ?F_ascends ?F_are_ways ?F_are_pairs ?F_wrong_frame ?F_wrong_part ?F_check_net ?F_distances_from ?F_distances ?F_span ?F__law_taken ?F__law_pick ?F__law_alike ?F__law_turn ?F__law_pairs ?F__law_ringed ?F__law_rest_turn ?F__law_rest_net ?F__law_far
    case T =>
      refine' ⟨PySem.W.mg_none_of KX G ?z0, PySem.W.mg_none_of KX G ?z1, PySem.W.mg_none_of KX G ?z2, PySem.W.mg_none_of KX G ?z3, PySem.W.mg_none_of KX G ?z4, PySem.W.mg_none_of KX G ?z5, PySem.W.mg_none_of KX G ?z6, PySem.W.mg_none_of KX G ?z7, PySem.W.mg_none_of KX G ?z8, PySem.W.mg_none_of KX G ?z9, PySem.W.mg_none_of KX G ?z10, PySem.W.mg_none_of KX G ?z11, PySem.W.mg_none_of KX G ?z12, PySem.W.mg_none_of KX G ?z13, PySem.W.mg_none_of KX G ?z14⟩
      (case z0 => k_is)
      (case z1 => k_is)
      (case z2 => k_is)
      (case z3 => k_is)
      (case z4 => k_is)
      (case z5 => k_is)
      (case z6 => k_is)
      (case z7 => k_is)
      (case z8 => k_is)
      (case z9 => k_is)
      (case z10 => k_is)
      (case z11 => k_is)
      (case z12 => k_is)
      (case z13 => k_is)
      (case z14 => k_is)
    case I_MOST_HALLS =>
      refine' ⟨_, (PySem.W.mg_of KX G ?mo_MOST_HALLS).trans ?eq_MOST_HALLS⟩
      (case mo_MOST_HALLS => k_is)
      (case eq_MOST_HALLS => rfl)
    case L =>
      refine' DL.law_mk KX G hmg ?la ?ll ?lc ?lk
      (case la => k_is); (case ll => k_is); (case lc => k_is); (case lk => k_is)
    case F_is_number =>
      refine' DL.fn_mk KX G ?a_is_number ?l_is_number ?c_is_number ?k_is_number (fun fd F => F.binds fun _ _ _ _ _ _ us hl => match us, hl with | [_, _, _], _ => rfl)
      (case a_is_number => k_is); (case l_is_number => k_is); (case c_is_number => k_is); (case k_is_number => k_is)
    case F_both_ways =>
      refine' DL.fn_mk KX G ?a_both_ways ?l_both_ways ?c_both_ways ?k_both_ways (fun fd F => F.binds fun _ _ _ _ _ _ us hl => match us, hl with | [_], _ => rfl)
      (case a_both_ways => k_is); (case l_both_ways => k_is); (case c_both_ways => k_is); (case k_both_ways => k_is)
    case F_is_way =>
      refine' DL.fn_mk KX G ?a_is_way ?l_is_way ?c_is_way ?k_is_way (fun fd F => F.binds fun _ _ _ _ _ _ us hl => match us, hl with | [_, _], _ => rfl)
      (case a_is_way => k_is); (case l_is_way => k_is); (case c_is_way => k_is); (case k_is_way => k_is)
    case F_ascends =>
      refine' DL.fn_mk KX G ?a_ascends ?l_ascends ?c_ascends ?k_ascends (fun fd F => F.binds fun _ _ _ _ _ _ us hl => match us, hl with | [_], _ => rfl)
      (case a_ascends => k_is); (case l_ascends => k_is); (case c_ascends => k_is); (case k_ascends => k_is)
    case F_are_ways =>
      refine' DL.fn_mk KX G ?a_are_ways ?l_are_ways ?c_are_ways ?k_are_ways (fun fd F => F.binds fun _ _ _ _ _ _ us hl => match us, hl with | [_, _], _ => rfl)
      (case a_are_ways => k_is); (case l_are_ways => k_is); (case c_are_ways => k_is); (case k_are_ways => k_is)
    case F_are_pairs =>
      refine' DL.fn_mk KX G ?a_are_pairs ?l_are_pairs ?c_are_pairs ?k_are_pairs (fun fd F => F.binds fun _ _ _ _ _ _ us hl => match us, hl with | [_, _], _ => rfl)
      (case a_are_pairs => k_is); (case l_are_pairs => k_is); (case c_are_pairs => k_is); (case k_are_pairs => k_is)
    case F_wrong_frame =>
      refine' DL.fn_mk KX G ?a_wrong_frame ?l_wrong_frame ?c_wrong_frame ?k_wrong_frame (fun fd F => F.binds fun _ _ _ _ _ _ us hl => match us, hl with | [_], _ => rfl)
      (case a_wrong_frame => k_is); (case l_wrong_frame => k_is); (case c_wrong_frame => k_is); (case k_wrong_frame => k_is)
    case F_wrong_part =>
      refine' DL.fn_mk KX G ?a_wrong_part ?l_wrong_part ?c_wrong_part ?k_wrong_part (fun fd F => F.binds fun _ _ _ _ _ _ us hl => match us, hl with | [_], _ => rfl)
      (case a_wrong_part => k_is); (case l_wrong_part => k_is); (case c_wrong_part => k_is); (case k_wrong_part => k_is)
    case F_check_net =>
      refine' DL.fn_mk KX G ?a_check_net ?l_check_net ?c_check_net ?k_check_net (fun fd F => F.binds fun _ _ _ _ _ _ us hl => match us, hl with | [_], _ => rfl)
      (case a_check_net => k_is); (case l_check_net => k_is); (case c_check_net => k_is); (case k_check_net => k_is)
    case F_distances_from =>
      refine' DL.fn_mk KX G ?a_distances_from ?l_distances_from ?c_distances_from ?k_distances_from (fun fd F => F.binds fun _ _ _ _ _ _ us hl => match us, hl with | [_, _, _], _ => rfl)
      (case a_distances_from => k_is); (case l_distances_from => k_is); (case c_distances_from => k_is); (case k_distances_from => k_is)
    case F_distances =>
      refine' DL.fn_mk KX G ?a_distances ?l_distances ?c_distances ?k_distances (fun fd F => F.binds fun _ _ _ _ _ _ us hl => match us, hl with | [_], _ => rfl)
      (case a_distances => k_is); (case l_distances => k_is); (case c_distances => k_is); (case k_distances => k_is)
    case F_span =>
      refine' DL.fn_mk KX G ?a_span ?l_span ?c_span ?k_span (fun fd F => F.binds fun _ _ _ _ _ _ us hl => match us, hl with | [_], _ => rfl)
      (case a_span => k_is); (case l_span => k_is); (case c_span => k_is); (case k_span => k_is)
    case F__law_taken =>
      refine' DL.fn_mk KX G ?a__law_taken ?l__law_taken ?c__law_taken ?k__law_taken (fun fd F => F.binds fun _ _ _ _ _ _ us hl => match us, hl with | [_, _], _ => rfl)
      (case a__law_taken => k_is); (case l__law_taken => k_is); (case c__law_taken => k_is); (case k__law_taken => k_is)
    case F__law_pick =>
      refine' DL.fn_mk KX G ?a__law_pick ?l__law_pick ?c__law_pick ?k__law_pick (fun fd F => F.binds fun _ _ _ _ _ _ us hl => match us, hl with | [_, _], _ => rfl)
      (case a__law_pick => k_is); (case l__law_pick => k_is); (case c__law_pick => k_is); (case k__law_pick => k_is)
    case F__law_alike =>
      refine' DL.fn_mk KX G ?a__law_alike ?l__law_alike ?c__law_alike ?k__law_alike (fun fd F => F.binds fun _ _ _ _ _ _ us hl => match us, hl with | [_, _], _ => rfl)
      (case a__law_alike => k_is); (case l__law_alike => k_is); (case c__law_alike => k_is); (case k__law_alike => k_is)
    case F__law_turn =>
      refine' DL.fn_mk KX G ?a__law_turn ?l__law_turn ?c__law_turn ?k__law_turn (fun fd F => F.binds fun _ _ _ _ _ _ us hl => match us, hl with | [_, _], _ => rfl)
      (case a__law_turn => k_is); (case l__law_turn => k_is); (case c__law_turn => k_is); (case k__law_turn => k_is)
    case F__law_pairs =>
      refine' DL.fn_mk KX G ?a__law_pairs ?l__law_pairs ?c__law_pairs ?k__law_pairs (fun fd F => F.binds fun _ _ _ _ _ _ us hl => match us, hl with | [_], _ => rfl)
      (case a__law_pairs => k_is); (case l__law_pairs => k_is); (case c__law_pairs => k_is); (case k__law_pairs => k_is)
    case F__law_ringed =>
      refine' DL.fn_mk KX G ?a__law_ringed ?l__law_ringed ?c__law_ringed ?k__law_ringed (fun fd F => F.binds fun _ _ _ _ _ _ us hl => match us, hl with | [_, _], _ => rfl)
      (case a__law_ringed => k_is); (case l__law_ringed => k_is); (case c__law_ringed => k_is); (case k__law_ringed => k_is)
    case F__law_rest_turn =>
      refine' DL.fn_mk KX G ?a__law_rest_turn ?l__law_rest_turn ?c__law_rest_turn ?k__law_rest_turn (fun fd F => F.binds fun _ _ _ _ _ _ us hl => match us, hl with | [_], _ => rfl)
      (case a__law_rest_turn => k_is); (case l__law_rest_turn => k_is); (case c__law_rest_turn => k_is); (case k__law_rest_turn => k_is)
    case F__law_rest_net =>
      refine' DL.fn_mk KX G ?a__law_rest_net ?l__law_rest_net ?c__law_rest_net ?k__law_rest_net (fun fd F => F.binds fun _ _ _ _ _ _ us hl => match us, hl with | [_], _ => rfl)
      (case a__law_rest_net => k_is); (case l__law_rest_net => k_is); (case c__law_rest_net => k_is); (case k__law_rest_net => k_is)
    case F__law_far =>
      refine' DL.fn_mk KX G ?a__law_far ?l__law_far ?c__law_far ?k__law_far (fun fd F => F.binds fun _ _ _ _ _ _ us hl => match us, hl with | [_], _ => rfl)
      (case a__law_far => k_is); (case l__law_far => k_is); (case c__law_far => k_is); (case k__law_far => k_is)
end
