import PyProof.Rows.All
import HandS.ForMost
import HandS.Evl
import HandS.IsInst
import HandS.SortInts
import HandS.Sort
import HandS.SortRule
import HandS.Codes
import HandS.NoneIn
import HandS.Walk
import HandS.Conv
import HandS.TupAny
import HandS.Exc
import HandS.ExcInit
import HandS.ExcIs
import HandS.ExcField
import HandS.ExcValue
import KE.KExcIs
import PyProof.ReprRoads
import HandS.Ends
import HandS.Style
import HandS.RaiseMore
import HandS.Words
import PyProof.ReprLen
import PyProof.Rows.ReprOcc
import HandS.More
import HandS.Deep
import HandS.TupSets
import PyProof.Rows.IntBool
import PyProof.EqKinds
import HandS.Text
import PyProof.NeKinds
import KE.DatumOrd
import HandS.SortKw
import HandS.CallLocal
import HandS.Zip
import KE.DataCmp
import KE.Datum
import KE.GoesZip
import KE.GoesMore
import PyProof.SetRoads
import HandS.Strs
import HandS.WordsExc
import PyProof.Rows.StrMul
import HandS.FStr
import KE.KDictPairs
import PyProof.Rows.SortStr
import HandS.SetBool
import PyProof.Rows.StrIntSpec
import KE.KxField
import KE.KIntText
import KE.IntTextText
import HandS.StrMore
import KE.KeyNested
import KE.KSortTupAny
import PySem.Challenge.RW_hourcoin_k09_stamps_in_order
set_option Elab.async false
set_option linter.all false
set_option maxRecDepth 100000
set_option maxHeartbeats 4000000
namespace DL
open PySem PySem.Spec PyProof.Rows L2
/-- at a: an exception of the class cls with its dict at d -/
def exO (a : Addr) (cls : Value) (d : Option Addr) : HO := .ext fun h => ∃ (ob : Obj) (ws : Array Value), h.get? a = some ob ∧ Zc cls d ob ∧ ob.data = .fields ws
end DL
namespace DL
open PySem L2 Evl
theorem Ex.app {H H' : Hp} (e : Ex H H') {a : Addr} {o : HO} (h : H a = some o) : H' a = some o := e a o h
/-- a dict's key as data -/
def kD : Key → PyData
  | .inl i => .int i
  | .inr x => .str x
mutual
inductive Dq (K : PySem.W.Frag) (H : Hp) : V → PyData → Prop
  | non : Dq K H .non .none
  | bl (b : Bool) : Dq K H (.bl b) (.bool b)
  | int (i : Int) : Dq K H (.int i) (.int i)
  | str (x : Str) : Dq K H (.str x) (.str x)
  | lst {a : Addr} {xs : List V} {ds : List PyData} : H a = some (.lst xs) → DqAll K H xs ds → Dq K H (.ref a) (.list ds)
  | tup {a : Addr} {xs : List V} {ds : List PyData} : H a = some (.tup xs) → DqAll K H xs ds → Dq K H (.ref a) (.tuple ds)
  | dct {a : Addr} {kvs : List (Key × V)} {ds : List PyData} : H a = some (.dK kvs) → DqAll K H (kvs.map (·.2)) ds → Dq K H (.ref a) (.dict ((kvs.map fun p => kD p.1).zip ds))
inductive DqAll (K : PySem.W.Frag) (H : Hp) : List V → List PyData → Prop
  | nil : DqAll K H [] []
  | cons {v : V} {vs : List V} {d : PyData} {ds : List PyData} : Dq K H v d → DqAll K H vs ds → DqAll K H (v :: vs) (d :: ds)
end
mutual
theorem dq_dp {K : PySem.W.Frag} {H : Hp} : ∀ {v : V} {d : PyData}, Dq K H v d → d.hasDict = false → Dp K H v d
  | _, _, .non, _ => .non
  | _, _, .bl b, _ => .bl b
  | _, _, .int i, _ => .int i
  | _, _, .str x, _ => .str x
  | _, _, .lst hs ha, e => .lst (.inl (.inl hs)) (dqs_dp ha (by simpa only [PyData.hasDict] using e))
  | _, _, .tup hs ha, e => .tup (.inl (.inl hs)) (dqs_dp ha (by simpa only [PyData.hasDict] using e))
  | _, _, .dct _ _, e => by simp only [PyData.hasDict, Bool.true_eq_false] at e
theorem dqs_dp {K : PySem.W.Frag} {H : Hp} : ∀ {v : List V} {d : List PyData}, DqAll K H v d → PyData.hasDictAll d = false → DpAll K H v d
  | _, _, .nil, _ => .nil
  | _, _, .cons h t, e => by
    have e' := e
    simp only [PyData.hasDictAll, Bool.or_eq_false_iff] at e'
    exact .cons (dq_dp h e'.1) (dqs_dp t e'.2)
end
theorem nod_of {x : PyData} (h : SeqAt.shaped x = true) : x.hasDict = false := PyData.hasDict_of_canLay x (SeqAt.canLay_of_shaped h)
mutual
theorem dp_mono {K : PySem.W.Frag} {H H' : Hp} (e : Ex H H') : ∀ {v : V} {d : PyData}, Dq K H v d → Dq K H' v d
  | _, _, .non => .non
  | _, _, .bl b => .bl b
  | _, _, .int i => .int i
  | _, _, .str x => .str x
  | _, _, .lst hs ha => .lst (e _ _ hs) (dps_mono e ha)
  | _, _, .tup hs ha => .tup (e _ _ hs) (dps_mono e ha)
  | _, _, .dct hs ha => .dct (e _ _ hs) (dps_mono e ha)
theorem dps_mono {K : PySem.W.Frag} {H H' : Hp} (e : Ex H H') : ∀ {v : List V} {d : List PyData}, DqAll K H v d → DqAll K H' v d
  | _, _, .nil => .nil
  | _, _, .cons h t => .cons (dp_mono e h) (dps_mono e t)
end
theorem dps_length {K : PySem.W.Frag} {H : Hp} : ∀ {v : List V} {d : List PyData}, DqAll K H v d → v.length = d.length
  | _, _, .nil => rfl
  | _, _, .cons _ t => congrArg (· + 1) (dps_length t)
theorem dps_get {K : PySem.W.Frag} {H : Hp} : ∀ {v : List V} {d : List PyData} {i : Nat} {x : PyData}, DqAll K H v d → d[i]? = some x → ∃ u, v[i]? = some u ∧ Dq K H u x
  | _, _, 0, x, .cons h _, e => ⟨_, rfl, by have e' : _ = x := Option.some.inj e; rw [← e']; exact h⟩
  | _, _, i + 1, x, .cons _ t, e => dps_get (i := i) t e
theorem dps_get' {K : PySem.W.Frag} {H : Hp} : ∀ {v : List V} {d : List PyData} {i : Nat} {u : V}, DqAll K H v d → v[i]? = some u → ∃ x, d[i]? = some x ∧ Dq K H u x
  | _, _, 0, u, .cons h _, e => ⟨_, rfl, by have e' : _ = u := Option.some.inj e; rw [← e']; exact h⟩
  | _, _, i + 1, x, .cons _ t, e => dps_get' (i := i) t e
theorem dps_append {K : PySem.W.Frag} {H : Hp} : ∀ {v w : List V} {d e : List PyData}, DqAll K H v d → DqAll K H w e → DqAll K H (v ++ w) (d ++ e)
  | _, _, _, _, .nil, h => h
  | _, _, _, _, .cons h t, k => .cons h (dps_append t k)
theorem dps_take {K : PySem.W.Frag} {H : Hp} : ∀ {v : List V} {d : List PyData} (n : Nat), DqAll K H v d → DqAll K H (v.take n) (d.take n)
  | _, _, 0, _ => .nil
  | _, _, _ + 1, .nil => .nil
  | _, _, n + 1, .cons h t => .cons h (dps_take n t)
theorem dps_drop {K : PySem.W.Frag} {H : Hp} : ∀ {v : List V} {d : List PyData} (n : Nat), DqAll K H v d → DqAll K H (v.drop n) (d.drop n)
  | _, _, 0, h => h
  | _, _, _ + 1, .nil => .nil
  | _, _, n + 1, .cons _ t => dps_drop n t
theorem dps_ints {K : PySem.W.Frag} {H : Hp} : ∀ (ns : List Int), DqAll K H (ns.map V.int) (ns.map PyData.int)
  | [] => .nil
  | n :: r => .cons (.int n) (dps_ints r)
/-- heap less the address p -/
def del (p : Addr) (H : Hp) : Hp := fun b => if b = p then none else H b
theorem del_same {p : Addr} {H : Hp} : del p H p = none := if_pos rfl
theorem del_ne {p b : Addr} {H : Hp} (h : b ≠ p) : del p H b = H b := if_neg h
theorem del_ex {p : Addr} {H : Hp} : Ex (del p H) H := fun b o e => by
  by_cases h : b = p
  · subst h; rw [del_same] at e; cases e
  · rw [del_ne h] at e; exact e
theorem del_mono {p : Addr} {H H' : Hp} (e : Ex H H') : Ex (del p H) (del p H') := fun b o h => by
  by_cases q : b = p
  · subst q; rw [del_same] at h; cases h
  · rw [del_ne q] at h ⊢; exact e b o h
theorem ex_del {p : Addr} {H H' : Hp} (e : Ex H H') (h : H p = none) : Ex H (del p H') := fun b o q => by
  have hb : b ≠ p := fun z => by subst z; rw [h] at q; cases q
  rw [del_ne hb]; exact e b o q
/-- what a slot may own, told from outside: p and the addresses rs -/
structure AbsS where
  p : Addr
  rs : List Addr
  ok : PySem.W.Frag → Hp → Hp → Option V → Prop
  mono : ∀ {K : PySem.W.Frag} {B B' H H' : Hp} {v : Option V}, Ex B B' → (∀ b o, b ∈ p :: rs → H b = some o → H' b = some o) → ok K B H v → ok K B' H' v
  ref : ∀ {K : PySem.W.Frag} {B H : Hp} {v : Option V}, ok K B H v → v = some (.ref p)
  at_ : ∀ {K : PySem.W.Frag} {B H : Hp} {v : Option V}, ok K B H v → ∀ b ∈ p :: rs, ∃ o, H b = some o ∧ ∀ xs, o ≠ .tup xs
inductive Sl where
  | any
  | d (x : PyData)
  | own (p : Addr) (xs : List PyData)
  | fd (p : Addr) (A : Nat)
  | scr (a : Addr) (ns : List Int)
  | fn (f : Addr)
  | dic (p : Addr) (kvs : List (Key × PyData))
  | nest (p : Addr) (rs : List Addr) (xss : List (List PyData))
  | exc (C : Addr) (kvs : List (Str × PyData))
  | abs (o : AbsS)
def Sl.ad : Sl → Option Addr
  | .own p _ => some p
  | .fd p _ => some p
  | .dic p _ => some p
  | .nest p _ _ => some p
  | .abs o => some o.p
  | _ => none
/-- all that a slot owns: a list of lists with all its lists -/
def Sl.ads : Sl → List Addr
  | .own p _ => [p]
  | .fd p _ => [p]
  | .dic p _ => [p]
  | .nest p rs _ => p :: rs
  | .abs o => o.p :: o.rs
  | _ => []
theorem Sl.ads_none {s : Sl} (h : s.ad = none) : s.ads = [] := by cases s <;> first | rfl | cases h
theorem Sl.ad_mem {s : Sl} {p : Addr} (h : s.ad = some p) : p ∈ s.ads := by
  cases s <;> first | (cases h; exact List.mem_cons_self) | cases h
def ads (G : List Sl) : List Addr := G.flatMap Sl.ads
/-- the frame of a body: what it may read at its entry, what it never touches -/
structure Fr where
  K : PySem.W.Frag
  B0 : Hp
  Z : Addr → Prop
  Hz : Hp
  zh : ∀ b, Z b → ∃ o, Hz b = some o
open Classical in
noncomputable def low (F : Fr) (G : List Sl) (H : Hp) : Hp := fun b => if F.Z b ∨ b ∈ ads G then none else H b
section
variable {F : Fr}
theorem low_in {G : List Sl} {H : Hp} {b : Addr} (h : b ∈ ads G) : low F G H b = none := if_pos (.inr h)
theorem low_z {G : List Sl} {H : Hp} {b : Addr} (h : F.Z b) : low F G H b = none := if_pos (.inl h)
theorem low_cases (F : Fr) (G : List Sl) (H : Hp) (b : Addr) : (low F G H b = none ∧ (F.Z b ∨ b ∈ ads G)) ∨ (low F G H b = H b ∧ ¬ F.Z b ∧ b ∉ ads G) := by
  by_cases h : F.Z b ∨ b ∈ ads G
  · exact .inl ⟨if_pos h, h⟩
  · exact .inr ⟨if_neg h, fun z => h (.inl z), fun z => h (.inr z)⟩
theorem low_out {G : List Sl} {H : Hp} {b : Addr} (h0 : ¬ F.Z b) (h : b ∉ ads G) : low F G H b = H b := if_neg fun z => z.elim h0 h
theorem low_some {G : List Sl} {H : Hp} {b : Addr} {o : HO} (h : low F G H b = some o) : H b = some o ∧ ¬ F.Z b ∧ b ∉ ads G := by
  rcases low_cases F G H b with ⟨e, _⟩ | ⟨e, z⟩
  · rw [e] at h; cases h
  · exact ⟨e ▸ h, z⟩
theorem low_ex {G : List Sl} {H : Hp} : Ex (low F G H) H := fun b o e => (low_some e).1
theorem low_mono {G : List Sl} {H H' : Hp} (e : Ex H H') : Ex (low F G H) (low F G H') := fun b o h => by
  obtain ⟨h1, h2, h3⟩ := low_some h
  rw [low_out h2 h3]; exact e b o h1
/-- fewer owned: more is low -/
theorem low_sub {G G' : List Sl} {H : Hp} (h : ∀ b, b ∈ ads G' → b ∈ ads G) : Ex (low F G H) (low F G' H) := fun b o e => by
  obtain ⟨h1, h2, h3⟩ := low_some e
  rw [low_out h2 fun z => h3 (h b z)]; exact h1
theorem low_upd_in {G : List Sl} {H : Hp} {p : Addr} {o : HO} (h : p ∈ ads G) : low F G (upd H p o) = low F G H := by
  funext b
  by_cases q : b ∈ ads G
  · rw [low_in q, low_in q]
  · by_cases z : F.Z b
    · rw [low_z z, low_z z]
    · rw [low_out z q, low_out z q, upd_ne fun z => q (by rw [z]; exact h)]
theorem low_ads {G G' : List Sl} {H : Hp} (h : ads G' = ads G) : low F G' H = low F G H := by
  funext b
  by_cases q : b ∈ ads G
  · rw [low_in q, low_in (by rw [h]; exact q)]
  · by_cases z : F.Z b
    · rw [low_z z, low_z z]
    · rw [low_out z q, low_out z (by rw [h]; exact q)]
end
theorem ads_mem' {G : List Sl} {i : Nat} {s : Sl} {p : Addr} (h : G[i]? = some s) (ha : p ∈ s.ads) : p ∈ ads G :=
  List.mem_flatMap.mpr ⟨s, List.mem_of_getElem? h, ha⟩
theorem ads_mem {G : List Sl} {i : Nat} {s : Sl} {p : Addr} (h : G[i]? = some s) (ha : s.ad = some p) : p ∈ ads G := ads_mem' h (Sl.ad_mem ha)
theorem ads_cons (a : Sl) (G : List Sl) : ads (a :: G) = a.ads ++ ads G := List.flatMap_cons
theorem ads_set_sub {s : Sl} (hs : s.ad = none) : ∀ (G : List Sl) (i : Nat), List.Sublist (ads (G.set i s)) (ads G)
  | [], _ => List.Sublist.refl _
  | a :: G, 0 => by
    show List.Sublist (ads (s :: G)) (ads (a :: G))
    rw [ads_cons, ads_cons, Sl.ads_none hs]
    exact List.sublist_append_right _ _
  | a :: G, i + 1 => by
    show List.Sublist (ads (a :: G.set i s)) (ads (a :: G))
    rw [ads_cons, ads_cons]
    exact (List.append_sublist_append_left _).mpr (ads_set_sub hs G i)
/-- the same addresses in a slot again -/
theorem ads_set_same {s : Sl} : ∀ (G : List Sl) (i : Nat) (t : Sl), G[i]? = some t → t.ads = s.ads → ads (G.set i s) = ads G
  | [], _, _, h, _ => by simp at h
  | a :: G, 0, t, h, e => by
    have h' : a = t := by simpa using h
    subst h'
    show ads (s :: G) = ads (a :: G)
    rw [ads_cons, ads_cons, e]
  | a :: G, i + 1, t, h, e => by
    have ih := ads_set_same G i t (by simpa using h) e
    show ads (a :: G.set i s) = ads (a :: G)
    rw [ads_cons, ads_cons, ih]
theorem ads_set_mem' {s : Sl} {b : Addr} (G : List Sl) (i : Nat) (h : b ∈ ads (G.set i s)) : b ∈ s.ads ∨ b ∈ ads G := by
  obtain ⟨t, ht, e⟩ := List.mem_flatMap.mp h
  rcases List.mem_or_eq_of_mem_set ht with z | z
  · exact .inr (List.mem_flatMap.mpr ⟨t, z, e⟩)
  · subst z; exact .inl e
theorem ads_set_mem {s : Sl} {b p : Addr} (hs : s.ads = [p]) (G : List Sl) (i : Nat) (h : b ∈ ads (G.set i s)) : s.ads = [b] ∨ b ∈ ads G := by
  rcases ads_set_mem' G i h with q | q
  · rw [hs, List.mem_singleton] at q
    subst q
    exact .inl hs
  · exact .inr q
theorem ads_set_nd' {s : Sl} (hs : s.ads.Nodup) : ∀ (G : List Sl) (i : Nat), (ads G).Nodup → (∀ b, b ∈ s.ads → b ∉ ads G) → (ads (G.set i s)).Nodup
  | [], _, h, _ => h
  | a :: G, 0, h, hp => by
    show (ads (s :: G)).Nodup
    rw [ads_cons] at h hp ⊢
    refine List.nodup_append.mpr ⟨hs, (List.nodup_append.mp h).2.1, fun b hb c hc e => ?_⟩
    subst e
    exact hp b hb (List.mem_append_right _ hc)
  | a :: G, i + 1, h, hp => by
    show (ads (a :: G.set i s)).Nodup
    rw [ads_cons] at h hp ⊢
    obtain ⟨h1, h2, h3⟩ := List.nodup_append.mp h
    refine List.nodup_append.mpr ⟨h1, ads_set_nd' hs G i h2 fun b hb z => hp b hb (List.mem_append_right _ z), fun b hb c hc e => ?_⟩
    subst e
    rcases ads_set_mem' G i hc with y | y
    · exact hp b y (List.mem_append_left _ hb)
    · exact h3 b hb b y rfl
theorem ads_set_nd {s : Sl} {p : Addr} (hs : s.ads = [p]) (G : List Sl) (i : Nat) (h : (ads G).Nodup) (hp : p ∉ ads G) : (ads (G.set i s)).Nodup :=
  ads_set_nd' (by rw [hs]; exact List.nodup_cons.mpr ⟨fun z => (nomatch z), List.nodup_nil⟩) G i h fun b hb => by
    rw [hs, List.mem_singleton] at hb
    subst hb; exact hp
/-- the draws' state at p: the cells, a place, what is left -/
def Feed (K : PySem.W.Frag) (B H : Hp) (p : Addr) (A : Nat) : Prop := ∃ (l : Addr) (at_ rest turn : Int) (ns : List Int),
  H p = some (.dK [(Sum.inr "cells", .ref l), (Sum.inr "at", .int at_), (Sum.inr "left", .int rest), (Sum.inr "turn", .int turn)]) ∧ B l = some (.lst (ns.map V.int)) ∧ ns.length ≤ 63 ∧ 0 ≤ at_ ∧ at_ ≤ (A : Int) ∧ 0 ≤ rest
/-- an exception's fields, its dict at d -/
def XfAt (K : PySem.W.Frag) (B : Hp) (d : Option Addr) (kvs : List (Str × PyData)) : Prop := (d = none ∧ kvs = []) ∨ ∃ dd fs, d = some dd ∧ B dd = some (.xd fs) ∧ ∀ f x, kvs.lookup f = some x → ∃ v, fs.lookup f = some v ∧ Dq K B v x
/-- at a: an exception of the class at C with these fields -/
def ExA (K : PySem.W.Frag) (B : Hp) (a C : Addr) (kvs : List (Str × PyData)) : Prop := ∃ d, B a = some (exO a (.ref C) d) ∧ XfAt K B d kvs
theorem xfAt_mono {K : PySem.W.Frag} {B B' : Hp} {d : Option Addr} {kvs : List (Str × PyData)} (e : Ex B B') (h : XfAt K B d kvs) : XfAt K B' d kvs := by
  rcases h with h | ⟨dd, fs, h1, h2, h3⟩
  · exact .inl h
  · exact .inr ⟨dd, fs, h1, e _ _ h2, fun f x l => let ⟨v, l', q⟩ := h3 f x l; ⟨v, l', dp_mono e q⟩⟩
theorem exA_mono {K : PySem.W.Frag} {B B' : Hp} {a C : Addr} {kvs : List (Str × PyData)} (e : Ex B B') (h : ExA K B a C kvs) : ExA K B' a C kvs := let ⟨d, h1, h2⟩ := h; ⟨d, e _ _ h1, xfAt_mono e h2⟩
def SlOk (K : PySem.W.Frag) (B H : Hp) : Sl → Option V → Prop
  | .exc C kvs, v => ∃ a, v = some (.ref a) ∧ ExA K B a C kvs
  | .abs o, v => o.ok K B H v
  | .any, _ => True
  | .d x, v => ∃ u, v = some u ∧ Dq K B u x
  | .own p xs, v => v = some (.ref p) ∧ ∃ vs, H p = some (.lst vs) ∧ DqAll K B vs xs
  | .fd p A, v => v = some (.ref p) ∧ Feed K B H p A
  | .scr a ns, v => v = some (.ref a) ∧ SqL K B a (ns.map V.int)
  | .fn f, v => v = some (.ref f)
  | .nest p rs xss, v => v = some (.ref p) ∧ H p = some (.lst (rs.map V.ref)) ∧ rs.length = xss.length ∧ ∀ (i : Nat) (r : Addr) (xs : List PyData), rs[i]? = some r → xss[i]? = some xs → ∃ vs, H r = some (.lst vs) ∧ DqAll K B vs xs
  | .dic p kvs, v => v = some (.ref p) ∧ ∃ ws : List (Key × V), H p = some (.dK ws) ∧ ws.map (·.1) = kvs.map (·.1) ∧ DqAll K B (ws.map (·.2)) (kvs.map (·.2))
theorem feed_mono {K : PySem.W.Frag} {B B' H H' : Hp} {p : Addr} {A A' : Nat} (eB : Ex B B') (h : ∀ o, H p = some o → H' p = some o) (hA : A ≤ A') (f : Feed K B H p A) : Feed K B' H' p A' := by
  obtain ⟨l, a, r, u, ns, h1, h2, h3, h4, h5, h6⟩ := f
  exact ⟨l, a, r, u, ns, h _ h1, eB _ _ h2, h3, h4, by omega, h6⟩
theorem slok_mono {K : PySem.W.Frag} {B B' H H' : Hp} {v : Option V} {s : Sl} (eB : Ex B B') (h : ∀ p o, p ∈ s.ads → H p = some o → H' p = some o) (k : SlOk K B H s v) : SlOk K B' H' s v := by
  cases s with
  | any => trivial
  | d x => obtain ⟨u, e, k⟩ := k; exact ⟨u, e, dp_mono eB k⟩
  | own p xs => obtain ⟨e, vs, h1, h2⟩ := k; exact ⟨e, vs, h p _ List.mem_cons_self h1, dps_mono eB h2⟩
  | fd p A => obtain ⟨e, f⟩ := k; exact ⟨e, feed_mono eB (fun o => h p o List.mem_cons_self) (Nat.le_refl _) f⟩
  | scr a ns => exact ⟨k.1, ex_l eB k.2⟩
  | fn f => exact k
  | exc C kvs => obtain ⟨a, e, x⟩ := k; exact ⟨a, e, exA_mono eB x⟩
  | abs o => exact o.mono eB h k
  | dic p kvs => obtain ⟨e, ws, h1, h2, h3⟩ := k; exact ⟨e, ws, h p _ List.mem_cons_self h1, h2, dps_mono eB h3⟩
  | nest p rs xss =>
    obtain ⟨e, h1, hl, h2⟩ := k
    refine ⟨e, h p _ List.mem_cons_self h1, hl, fun i r xs hr hx => ?_⟩
    obtain ⟨vs, h3, h4⟩ := h2 i r xs hr hx
    exact ⟨vs, h r _ (List.mem_cons_of_mem _ (List.mem_of_getElem? hr)) h3, dps_mono eB h4⟩
theorem slok_at {K : PySem.W.Frag} {B H : Hp} {v : Option V} {s : Sl} {p : Addr} (k : SlOk K B H s v) (e : s.ad = some p) : v = some (.ref p) ∧ ∃ o, H p = some o ∧ ∀ xs, o ≠ .tup xs := by
  cases s with
  | any => cases e
  | d x => cases e
  | own q xs => cases e; obtain ⟨e, vs, h, _⟩ := k; exact ⟨e, _, h, fun _ z => nomatch z⟩
  | fd q A => cases e; obtain ⟨e, l, a, r, u, ns, h, _⟩ := k; exact ⟨e, _, h, fun _ z => nomatch z⟩
  | scr a ns => cases e
  | fn f => cases e
  | exc C kvs => cases e
  | abs o => cases e; exact ⟨o.ref k, o.at_ k _ List.mem_cons_self⟩
  | dic q kvs => cases e; obtain ⟨e, ws, h, _⟩ := k; exact ⟨e, _, h, fun _ z => nomatch z⟩
  | nest q rs xss => cases e; obtain ⟨e, h, _⟩ := k; exact ⟨e, _, h, fun _ z => nomatch z⟩
theorem slok_at' {K : PySem.W.Frag} {B H : Hp} {v : Option V} {s : Sl} {p : Addr} (k : SlOk K B H s v) (e : p ∈ s.ads) : ∃ o, H p = some o ∧ ∀ xs, o ≠ .tup xs := by
  have one : ∀ q, s.ads = [q] → s.ad = some q → ∃ o, H p = some o ∧ ∀ xs, o ≠ .tup xs := fun q e1 e2 => by
    rw [e1, List.mem_singleton] at e
    subst e
    exact (slok_at k e2).2
  cases s with
  | any => cases e
  | d x => cases e
  | own q xs => exact one q rfl rfl
  | fd q A => exact one q rfl rfl
  | scr a ns => cases e
  | fn f => cases e
  | exc C kvs => cases e
  | abs o => exact o.at_ k p e
  | dic q kvs => exact one q rfl rfl
  | nest q rs xss =>
    rcases List.mem_cons.mp e with z | z
    · subst z; exact (slok_at k rfl).2
    · obtain ⟨e, h, hl, h2⟩ := k
      obtain ⟨i, hi⟩ := List.getElem?_of_mem z
      have hil : i < xss.length := by rw [← hl]; exact (List.getElem?_eq_some_iff.mp hi).1
      obtain ⟨vs, h3, _⟩ := h2 i p _ hi (List.getElem?_eq_getElem hil)
      exact ⟨_, h3, fun _ z => nomatch z⟩
structure Sat (F : Fr) (G : List Sl) (σ : L2.St) (H : Hp) : Prop where
  ext : Ex F.B0 (low F G H)
  zk : ∀ b o, F.Z b → F.Hz b = some o → H b = some o
  zn : ∀ b, b ∈ ads G → ¬ F.Z b
  len : σ.length = G.length
  nd : (ads G).Nodup
  ok : ∀ i s, G[i]? = some s → SlOk F.K (low F G H) H s (σ.getD i none)
section
variable {F : Fr} {G G' : List Sl} {σ : L2.St} {H H' : Hp}
theorem Sat.ex (S : Sat F G σ H) (e : Ex H H') : Sat F G σ H' :=
  ⟨S.ext.trans (low_mono e), fun b o z q => e _ _ (S.zk b o z q), S.zn, S.len, S.nd, fun i s h => slok_mono (low_mono e) (fun p o _ q => e p o q) (S.ok i s h)⟩
theorem Sat.noz (S : Sat F G σ H) {p : Addr} (h : H p = none) : ¬ F.Z p := fun z => by
  obtain ⟨o, e⟩ := F.zh p z
  rw [S.zk p o z e] at h; cases h
theorem getD_some {σ : L2.St} {i : Nat} {v : V} (h : σ.getD i none = some v) : σ[i]? = some (some v) := by
  rw [List.getD_eq_getElem?_getD] at h
  cases q : σ[i]? with
  | none => rw [q] at h; cases h
  | some o => rw [q] at h; exact congrArg some h
theorem Sat.dat (S : Sat F G σ H) {i : Nat} {x : PyData} (h : G[i]? = some (.d x)) : ∃ v, σ[i]? = some (some v) ∧ Dq F.K (low F G H) v x := by
  obtain ⟨u, e, k⟩ := S.ok i _ h
  exact ⟨u, getD_some e, k⟩
theorem Sat.ownd (S : Sat F G σ H) {i : Nat} {p : Addr} {xs : List PyData} (h : G[i]? = some (.own p xs)) : σ[i]? = some (some (.ref p)) ∧ ∃ vs, H p = some (.lst vs) ∧ DqAll F.K (low F G H) vs xs := by
  obtain ⟨e, k⟩ := S.ok i _ h
  exact ⟨getD_some e, k⟩
theorem Sat.feed (S : Sat F G σ H) {i : Nat} {p : Addr} {A : Nat} (h : G[i]? = some (.fd p A)) : σ[i]? = some (some (.ref p)) ∧ Feed F.K (low F G H) H p A := by
  obtain ⟨e, k⟩ := S.ok i _ h
  exact ⟨getD_some e, k⟩
theorem Sat.dicd (S : Sat F G σ H) {i : Nat} {p : Addr} {kvs : List (Key × PyData)} (h : G[i]? = some (.dic p kvs)) : σ[i]? = some (some (.ref p)) ∧ ∃ ws : List (Key × V), H p = some (.dK ws) ∧ ws.map (·.1) = kvs.map (·.1) ∧ DqAll F.K (low F G H) (ws.map (·.2)) (kvs.map (·.2)) := by
  obtain ⟨e, k⟩ := S.ok i _ h
  exact ⟨getD_some e, k⟩
theorem Sat.at_nt (S : Sat F G σ H) {b : Addr} (h : b ∈ ads G) : ∃ o, H b = some o ∧ ∀ xs, o ≠ .tup xs := by
  obtain ⟨s, hs, e⟩ := List.mem_flatMap.mp h
  obtain ⟨i, hi⟩ := List.getElem?_of_mem hs
  exact slok_at' (S.ok i s hi) e
theorem Sat.at_ (S : Sat F G σ H) {b : Addr} (h : b ∈ ads G) : ∃ o, H b = some o := let ⟨o, e, _⟩ := S.at_nt h; ⟨o, e⟩
theorem getD_set_eq {σ : L2.St} {i j : Nat} {v : Option V} (h : i < σ.length) : (σ.set i v).getD j none = if i = j then v else σ.getD j none := by
  rw [List.getD_eq_getElem?_getD, List.getElem?_set, List.getD_eq_getElem?_getD]
  by_cases e : i = j
  · subst e; rw [if_pos rfl, if_pos rfl, if_pos h]; rfl
  · rw [if_neg e, if_neg e]
/-- a value stored -/
theorem Sat.set (S : Sat F G σ H) {i : Nat} {v : V} {x : PyData} (hi : i < G.length) (h : Dq F.K (low F G H) v x) : Sat F (G.set i (.d x)) (σ.set i (some v)) H := by
  have hs : ∀ b, b ∈ ads (G.set i (.d x)) → b ∈ ads G := fun b hb => (ads_set_sub (s := .d x) rfl G i).subset hb
  have e : Ex (low F G H) (low F (G.set i (.d x)) H) := low_sub hs
  refine ⟨S.ext.trans e, S.zk, fun b hb => S.zn b (hs b hb), by rw [List.length_set, List.length_set]; exact S.len, S.nd.sublist (ads_set_sub rfl G i), fun j s hj => ?_⟩
  rw [getD_set_eq (by rw [S.len]; exact hi)]
  rw [List.getElem?_set] at hj
  by_cases q : i = j
  · rw [if_pos q] at hj ⊢
    rw [if_pos hi] at hj
    cases hj
    exact ⟨v, rfl, dp_mono e h⟩
  · rw [if_neg q] at hj ⊢
    exact slok_mono e (fun _ _ _ z => z) (S.ok j s hj)
/-- a slot whose content is no matter -/
theorem Sat.forget (S : Sat F G σ H) (i : Nat) (v : Option V) : Sat F (G.set i .any) (σ.set i v) H := by
  have hs : ∀ b, b ∈ ads (G.set i .any) → b ∈ ads G := fun b hb => (ads_set_sub (s := .any) rfl G i).subset hb
  have e : Ex (low F G H) (low F (G.set i .any) H) := low_sub hs
  refine ⟨S.ext.trans e, S.zk, fun b hb => S.zn b (hs b hb), by rw [List.length_set, List.length_set]; exact S.len, S.nd.sublist (ads_set_sub rfl G i), fun j s hj => ?_⟩
  rw [List.getElem?_set] at hj
  by_cases q : i = j
  · rw [if_pos q] at hj
    by_cases hi : i < G.length
    · rw [if_pos hi] at hj; cases hj; trivial
    · rw [if_neg hi] at hj; cases hj
  · rw [if_neg q] at hj
    have z : (σ.set i v).getD j none = σ.getD j none := by
      rw [List.getD_eq_getElem?_getD, List.getElem?_set, if_neg q, ← List.getD_eq_getElem?_getD]
    rw [z]
    exact slok_mono e (fun _ _ _ z => z) (S.ok j s hj)
/-- a new list stored: it is the slot's own -/
theorem Sat.setOwn {p : Addr} {vs : List V} {xs : List PyData} (S : Sat F G σ (del p H)) {i : Nat} (hi : i < G.length) (hp : H p = some (.lst vs)) (h : DqAll F.K (low F G (del p H)) vs xs) :
    Sat F (G.set i (.own p xs)) (σ.set i (some (.ref p))) H := by
  have pn : p ∉ ads G := fun z => by obtain ⟨ws, e⟩ := S.at_ z; rw [del_same] at e; cases e
  have pz : ¬ F.Z p := S.noz del_same
  have e : Ex (low F G (del p H)) (low F (G.set i (.own p xs)) H) := fun b o q => by
    obtain ⟨q1, q2, q3⟩ := low_some q
    have hbp : b ≠ p := fun z => by subst z; rw [del_same] at q1; cases q1
    rw [del_ne hbp] at q1
    rw [low_out q2 fun z => ?_]
    · exact q1
    · rcases ads_set_mem (p := p) rfl G i z with y | y
      · cases y; exact hbp rfl
      · exact q3 y
  refine ⟨S.ext.trans e, fun b o z q => del_ex _ _ (S.zk b o z q), fun b hb => ?_, by rw [List.length_set, List.length_set]; exact S.len, ads_set_nd rfl G i S.nd pn, fun j s hj => ?_⟩
  · rcases ads_set_mem (p := p) rfl G i hb with y | y
    · cases y; exact pz
    · exact S.zn b y
  rw [getD_set_eq (by rw [S.len]; exact hi)]
  rw [List.getElem?_set] at hj
  by_cases q : i = j
  · rw [if_pos q] at hj ⊢
    rw [if_pos hi] at hj
    cases hj
    exact ⟨rfl, vs, hp, dps_mono e h⟩
  · rw [if_neg q] at hj ⊢
    exact slok_mono e (fun b o _ z => del_ex b o z) (S.ok j s hj)
/-- a new object stored: s' describes it -/
theorem Sat.setNew {p : Addr} {s' : Sl} (S : Sat F G σ (del p H)) {i : Nat} (hi : i < G.length) (h1 : s'.ads = [p]) (h : SlOk F.K (low F G (del p H)) H s' (some (.ref p))) :
    Sat F (G.set i s') (σ.set i (some (.ref p))) H := by
  have pn : p ∉ ads G := fun z => by obtain ⟨ws, e⟩ := S.at_ z; rw [del_same] at e; cases e
  have pz : ¬ F.Z p := S.noz del_same
  have e : Ex (low F G (del p H)) (low F (G.set i s') H) := fun b o q => by
    obtain ⟨q1, q2, q3⟩ := low_some q
    have hbp : b ≠ p := fun z => by subst z; rw [del_same] at q1; cases q1
    rw [del_ne hbp] at q1
    rw [low_out q2 fun z => ?_]
    · exact q1
    · rcases ads_set_mem h1 G i z with y | y
      · rw [h1] at y; cases y; exact hbp rfl
      · exact q3 y
  refine ⟨S.ext.trans e, fun b o z q => del_ex _ _ (S.zk b o z q), fun b hb => ?_, by rw [List.length_set, List.length_set]; exact S.len, ads_set_nd h1 G i S.nd pn, fun j s hj => ?_⟩
  · rcases ads_set_mem h1 G i hb with y | y
    · rw [h1] at y; cases y; exact pz
    · exact S.zn b y
  rw [getD_set_eq (by rw [S.len]; exact hi)]
  rw [List.getElem?_set] at hj
  by_cases q : i = j
  · rw [if_pos q] at hj ⊢
    rw [if_pos hi] at hj
    cases hj
    exact slok_mono e (fun _ _ _ z => z) h
  · rw [if_neg q] at hj ⊢
    exact slok_mono e (fun b o _ z => del_ex b o z) (S.ok j s hj)
theorem two_ads : ∀ (G : List Sl) (i j : Nat) (s t : Sl) (b : Addr), G[i]? = some s → G[j]? = some t → ¬ i = j → b ∈ s.ads → b ∈ t.ads → ¬ (ads G).Nodup
  | [], _, _, _, _, _, h, _, _, _, _ => by simp at h
  | a :: G, 0, 0, _, _, _, _, _, n, _, _ => absurd rfl n
  | a :: G, 0, j + 1, s, t, b, h, k, _, e, f => fun nd => by
    have h' : a = s := by simpa using h
    subst h'
    rw [ads_cons] at nd
    exact (List.nodup_append.mp nd).2.2 b e b (ads_mem' (by simpa using k) f) rfl
  | a :: G, i + 1, 0, s, t, b, h, k, _, e, f => fun nd => by
    have h' : a = t := by simpa using k
    subst h'
    rw [ads_cons] at nd
    exact (List.nodup_append.mp nd).2.2 b f b (ads_mem' (by simpa using h) e) rfl
  | a :: G, i + 1, j + 1, s, t, b, h, k, n, e, f => fun nd => by
    refine two_ads G i j s t b (by simpa using h) (by simpa using k) (fun z => n (congrArg (· + 1) z)) e f ?_
    rw [ads_cons] at nd
    exact (List.nodup_append.mp nd).2.1
/-- an owned object changed in its place: s' describes it now -/
theorem Sat.updS {p : Addr} {o : HO} {s0 s' : Sl} (S : Sat F G σ H) {i : Nat} (hi : G[i]? = some s0) (h0 : s0.ad = some p) (h1 : s'.ads = s0.ads)
    (h : SlOk F.K (low F G H) (upd H p o) s' (some (.ref p))) :
    Sat F (G.set i s') σ (upd H p o) := by
  have hil : i < G.length := (List.getElem?_eq_some_iff.mp hi).1
  have hp : p ∈ ads G := ads_mem hi h0
  have ea : ads (G.set i s') = ads G := ads_set_same G i _ hi h1.symm
  have e : low F (G.set i s') (upd H p o) = low F G H := by
    rw [low_ads ea, low_upd_in hp]
  refine ⟨by rw [e]; exact S.ext, fun b o z q => ?_, by rw [ea]; exact S.zn, by rw [List.length_set]; exact S.len, by rw [ea]; exact S.nd, fun j s hj => ?_⟩
  · rw [upd_ne fun y => S.zn p hp (by rw [← y]; exact z)]; exact S.zk b o z q
  rw [e]
  rw [List.getElem?_set] at hj
  by_cases q : i = j
  · rw [if_pos q, if_pos hil] at hj
    cases hj
    subst q
    rw [(slok_at (S.ok i _ hi) h0).1]
    exact h
  · rw [if_neg q] at hj
    refine slok_mono (Ex.refl _) (fun b o hb z => ?_) (S.ok j s hj)
    have hbp : b ≠ p := fun y => by
      subst y
      exact absurd S.nd (two_ads G i j _ s b hi hj q (Sl.ad_mem h0) hb)
    rw [upd_ne hbp]
    exact z
theorem Sat.upd {p : Addr} {vs : List V} {xs ys : List PyData} (S : Sat F G σ H) {i : Nat} (hi : G[i]? = some (.own p xs)) (h : DqAll F.K (low F G H) vs ys) :
    Sat F (G.set i (.own p ys)) σ (L2.upd H p (.lst vs)) := S.updS hi rfl rfl ⟨rfl, vs, upd_same, h⟩
/-- the same slot told otherwise -/
theorem Sat.retell {s0 s' : Sl} (S : Sat F G σ H) {i : Nat} (hi : G[i]? = some s0) (e : s0.ads = s'.ads)
    (h : ∀ v, SlOk F.K (low F G H) H s0 v → SlOk F.K (low F G H) H s' v) : Sat F (G.set i s') σ H := by
  have ea : ads (G.set i s') = ads G := ads_set_same G i _ hi e
  have el : low F (G.set i s') H = low F G H := low_ads ea
  refine ⟨by rw [el]; exact S.ext, S.zk, by rw [ea]; exact S.zn, by rw [List.length_set]; exact S.len, by rw [ea]; exact S.nd, fun j s hj => ?_⟩
  rw [el]
  rw [List.getElem?_set] at hj
  by_cases q : i = j
  · rw [if_pos q, if_pos (List.getElem?_eq_some_iff.mp hi).1] at hj
    cases hj
    subst q
    exact h _ (S.ok i _ hi)
  · rw [if_neg q] at hj
    exact S.ok j s hj
end
end DL
namespace DL
open PySem L2 Evl
abbrev Kp := PyData → List Sl → Prop
abbrev Kps := List PyData → List Sl → Prop
def EK (F : Fr) (G : List Sl) (te : TE) (κ : Kp) : Prop := ∀ σ H, Sat F G σ H → ∀ Q : VK,
  (∀ v H' x G', κ x G' → Sat F G' σ H' → Ex (low F G H) (low F G' H') → Dq F.K (low F G' H') v x → Q v H') → te σ H Q
def ET (F : Fr) (G : List Sl) (tt : TT) (κ : Bool → List Sl → Prop) : Prop := ∀ σ H, Sat F G σ H → ∀ Q : Bool → Hp → Prop,
  (∀ b H' G', κ b G' → Sat F G' σ H' → Ex (low F G H) (low F G' H') → Q b H') → tt σ H Q
def EA (F : Fr) (G : List Sl) (ta : TA) (κ : Kps) : Prop := ∀ σ H, Sat F G σ H → ∀ Q : List V → Hp → Prop,
  (∀ vs H' xs G', κ xs G' → Sat F G' σ H' → Ex (low F G H) (low F G' H') → DqAll F.K (low F G' H') vs xs → Q vs H') → ta σ H Q
/-- a new list -/
def EO (F : Fr) (G : List Sl) (te : TE) (κ : Kps) : Prop := ∀ σ H, Sat F G σ H → ∀ Q : VK,
  (∀ p vs H' xs G', κ xs G' → Sat F G' σ (del p H') → Ex (low F G H) (low F G' (del p H')) → H' p = some (.lst vs) → DqAll F.K (low F G' (del p H')) vs xs → Q (.ref p) H') → te σ H Q
/-- an operation on values -/
def RK (F : Fr) (r : R2) (x y : PyData) (G : List Sl) (κ : Kp) : Prop := ∀ σ H v u, Sat F G σ H → Dq F.K (low F G H) v x → Dq F.K (low F G H) u y → ∀ Q : VK,
  (∀ v H' z G', κ z G' → Sat F G' σ H' → Ex (low F G H) (low F G' H') → Dq F.K (low F G' H') v z → Q v H') → r v u H Q
def CK (F : Fr) (r : List V → Hp → VK → Prop) (xs : List PyData) (G : List Sl) (κ : Kp) : Prop := ∀ σ H vs, Sat F G σ H → DqAll F.K (low F G H) vs xs → ∀ Q : VK,
  (∀ v H' z G', κ z G' → Sat F G' σ H' → Ex (low F G H) (low F G' H') → Dq F.K (low F G' H') v z → Q v H') → r vs H Q
section
variable {F : Fr} {G : List Sl} {κ κ' : Kp} {ta tb te : TE} {r : R2}
theorem EK.mono (h : EK F G te κ) (k : ∀ x G', κ x G' → κ' x G') : EK F G te κ' := fun σ H S Q q => h σ H S Q fun v H' x G' a => q v H' x G' (k x G' a)
theorem low_at {p : Addr} {σ : L2.St} {H : Hp} {o : HO} (S : Sat F G σ (del p H)) (h : H p = some o) : low F G H p = some o := by
  rw [low_out (S.noz del_same) fun z => by obtain ⟨vs, e⟩ := S.at_ z; rw [del_same] at e; cases e]
  exact h
theorem EO.ek (h : EO F G te fun xs G' => κ (.list xs) G') : EK F G te κ := fun σ H S Q q => h σ H S Q fun p vs H' xs G' k S' e hv hd =>
  q _ H' _ G' k (S'.ex del_ex) (e.trans (low_mono del_ex)) (.lst (low_at S' hv) (dps_mono (low_mono del_ex) hd))
theorem ek_var {i : Nat} {x : PyData} (h : G[i]? = some (.d x)) (k : κ x G) : EK F G (tVar i) κ := fun σ H S Q q => by
  obtain ⟨v, e, d⟩ := S.dat h
  exact ⟨v, e, q v H x G k S (Ex.refl _) d⟩
theorem ek_int {n : Int} (k : κ (.int n) G) : EK F G (tC (.int n)) κ := fun σ H S Q q => q _ H _ G k S (Ex.refl _) (.int n)
theorem ek_bl {n : Bool} (k : κ (.bool n) G) : EK F G (tC (.bl n)) κ := fun σ H S Q q => q _ H _ G k S (Ex.refl _) (.bl n)
theorem ek_non (k : κ .none G) : EK F G (tC .non) κ := fun σ H S Q q => q _ H _ G k S (Ex.refl _) .non
theorem ek_str {z : Str} (k : κ (.str z) G) : EK F G (tC (.str z)) κ := fun σ H S Q q => q _ H _ G k S (Ex.refl _) (.str z)
theorem ek_op (h : EK F G ta fun x G1 => EK F G1 tb fun y G2 => RK F r x y G2 κ) : EK F G (tOp r ta tb) κ := fun σ H S Q q =>
  h σ H S _ fun v H1 x G1 k1 S1 e1 d1 => k1 σ H1 S1 _ fun u H2 y G2 k2 S2 e2 d2 => k2 σ H2 v u S2 (dp_mono e2 d1) d2 Q fun w H3 z G3 k3 S3 e3 d3 => q w H3 z G3 k3 S3 ((e1.trans e2).trans e3) d3
theorem rk_i {C : Int → Int → Prop} {g : Int → Int → V} (f : Int → Int → PyData) (hg : ∀ i j B, Dq F.K B (g i j) (f i j)) {x y : PyData}
    (h : ∃ i j, x = .int i ∧ y = .int j ∧ C i j ∧ κ (f i j) G) : RK F (rI C g) x y G κ := fun σ H v u S dv du Q q => by
  obtain ⟨i, j, rfl, rfl, c, k⟩ := h
  cases dv; cases du
  exact ⟨i, j, rfl, rfl, c, q _ H _ G k S (Ex.refl _) (hg i j _)⟩
theorem rk_i0 {g : Int → Int → V} (f : Int → Int → PyData) (hg : ∀ i j B, Dq F.K B (g i j) (f i j)) {x y : PyData}
    (h : ∃ i j, x = .int i ∧ y = .int j ∧ κ (f i j) G) : RK F (rI0 g) x y G κ := fun σ H v u S dv du Q q => by
  obtain ⟨i, j, rfl, rfl, k⟩ := h
  cases dv; cases du
  exact ⟨i, j, rfl, rfl, q _ H _ G k S (Ex.refl _) (hg i j _)⟩
theorem rk_add {x y : PyData} (h : ∃ i j, x = .int i ∧ y = .int j ∧ κ (.int (i + j)) G) : RK F (rI0 fun i j => .int (i + j)) x y G κ := rk_i0 (fun i j => .int (i + j)) (fun _ _ _ => .int _) h
theorem rk_sub {x y : PyData} (h : ∃ i j, x = .int i ∧ y = .int j ∧ κ (.int (i - j)) G) : RK F (rI0 fun i j => .int (i - j)) x y G κ := rk_i0 (fun i j => .int (i - j)) (fun _ _ _ => .int _) h
theorem rk_lt {x y : PyData} (h : ∃ i j, x = .int i ∧ y = .int j ∧ κ (.bool (decide (i < j))) G) : RK F (rI0 fun i j => .bl (decide (i < j))) x y G κ := rk_i0 (fun i j => .bool (decide (i < j))) (fun _ _ _ => .bl _) h
theorem rk_gt {x y : PyData} (h : ∃ i j, x = .int i ∧ y = .int j ∧ κ (.bool (decide (j < i))) G) : RK F (rI0 fun i j => .bl (decide (j < i))) x y G κ := rk_i0 (fun i j => .bool (decide (j < i))) (fun _ _ _ => .bl _) h
theorem rk_ge {x y : PyData} (h : ∃ i j, x = .int i ∧ y = .int j ∧ κ (.bool (decide (j ≤ i))) G) : RK F (rI0 fun i j => .bl (decide (j ≤ i))) x y G κ := rk_i0 (fun i j => .bool (decide (j ≤ i))) (fun _ _ _ => .bl _) h
theorem rk_mul {x y : PyData} (h : ∃ i j, x = .int i ∧ y = .int j ∧ CMul i j ∧ κ (.int (i * j)) G) : RK F (rI CMul fun i j => .int (i * j)) x y G κ := rk_i (fun i j => .int (i * j)) (fun _ _ _ => .int _) h
theorem rk_pow {x y : PyData} (h : ∃ i j, x = .int i ∧ y = .int j ∧ CPow i j ∧ κ (.int (i ^ j.toNat)) G) : RK F (rI CPow fun i j => .int (i ^ j.toNat)) x y G κ := rk_i (fun i j => .int (i ^ j.toNat)) (fun _ _ _ => .int _) h
/-- by a positive divisor -/
theorem rk_mod {x y : PyData} (h : ∃ i j, x = .int i ∧ y = .int j ∧ 0 < j ∧ κ (.int (i % j)) G) : RK F (rI (fun _ j => j ≠ 0) fun i j => .int (i.fmod j)) x y G κ := fun σ H v u S dv du Q q => by
  obtain ⟨i, j, rfl, rfl, c, k⟩ := h
  cases dv; cases du
  refine ⟨i, j, rfl, rfl, by omega, ?_⟩
  show Q (.int (i.fmod j)) H
  rw [Int.fmod_eq_emod_of_nonneg _ (by omega)]
  exact q _ H _ G k S (Ex.refl _) (.int _)
theorem rk_fdiv {x y : PyData} (h : ∃ i j, x = .int i ∧ y = .int j ∧ 0 < j ∧ j < 1073741824 ∧ κ (.int (i / j)) G) : RK F (rI CDivN fun i j => .int (i.fdiv j)) x y G κ := fun σ H v u S dv du Q q => by
  obtain ⟨i, j, rfl, rfl, c, c2, k⟩ := h
  cases dv; cases du
  refine ⟨i, j, rfl, rfl, ⟨by omega, by omega⟩, ?_⟩
  show Q (.int (i.fdiv j)) H
  rw [Int.fdiv_eq_ediv_of_nonneg _ (by omega)]
  exact q _ H _ G k S (Ex.refl _) (.int _)
theorem rk_eqI {x y : PyData} (h : ∃ i j, x = .int i ∧ y = .int j ∧ κ (.bool (decide (i = j))) G) : RK F rEq x y G κ := fun σ H v u S dv du Q q => by
  obtain ⟨i, j, rfl, rfl, k⟩ := h
  cases dv; cases du
  refine ⟨rfl, ?_⟩
  have e : decide (V.int i = V.int j) = decide (i = j) := by
    by_cases z : i = j
    · subst z; simp
    · rw [decide_eq_false z, decide_eq_false fun w => z (V.int.inj w)]
  rw [e]
  exact q _ H _ G k S (Ex.refl _) (.bl _)
theorem rk_neI {x y : PyData} (h : ∃ i j, x = .int i ∧ y = .int j ∧ κ (.bool (!decide (i = j))) G) : RK F rNe x y G κ := fun σ H v u S dv du Q q => by
  obtain ⟨i, j, rfl, rfl, k⟩ := h
  cases dv; cases du
  refine ⟨rfl, ?_⟩
  have e : decide (V.int i = V.int j) = decide (i = j) := by
    by_cases z : i = j
    · subst z; simp
    · rw [decide_eq_false z, decide_eq_false fun w => z (V.int.inj w)]
  rw [e]
  exact q _ H _ G k S (Ex.refl _) (.bl _)
theorem rk_neD {x y : PyData} (hx : SeqAt.shaped x = true) (hy : SeqAt.shaped y = true) (k : κ (.bool (!PyData.eqv x y)) G) : RK F (rNeD F.K) x y G κ := fun σ H v u S dv du Q q =>
  ⟨x, y, dq_dp (dp_mono low_ex dv) (nod_of hx), dq_dp (dp_mono low_ex du) (nod_of hy), hx, hy, q _ H _ G k S (Ex.refl _) (.bl _)⟩
theorem atI_dps {K : PySem.W.Frag} {B : Hp} {vs : List V} {ds : List PyData} {i : Int} {d : PyData} (h : DqAll K B vs ds) (e : atI ds i = some d) : ∃ v, atI vs i = some v ∧ Dq K B v d := by
  unfold atI at e ⊢
  rw [dps_length h]
  cases q : ixN ds.length i with
  | none => rw [q] at e; cases e
  | some j => rw [q] at e; exact dps_get h e
theorem rk_ixL {x y : PyData} (h : ∃ ds i d, x = .list ds ∧ y = .int i ∧ atI ds i = some d ∧ κ d G) : RK F (rIxL F.K) x y G κ := fun σ H v u S dv du Q q => by
  obtain ⟨ds, i, d, rfl, rfl, e, k⟩ := h
  cases du
  cases dv with
  | lst hs ha =>
    obtain ⟨w, ew, dw⟩ := atI_dps ha e
    exact ⟨_, _, i, w, rfl, rfl, .inl (.inl (low_ex _ _ hs)), ew, q _ H _ G k S (Ex.refl _) dw⟩
theorem rk_ixT {x y : PyData} (h : ∃ ds i d, x = .tuple ds ∧ y = .int i ∧ atI ds i = some d ∧ κ d G) : RK F (rIxT F.K) x y G κ := fun σ H v u S dv du Q q => by
  obtain ⟨ds, i, d, rfl, rfl, e, k⟩ := h
  cases du
  cases dv with
  | tup hs ha =>
    obtain ⟨w, ew, dw⟩ := atI_dps ha e
    exact ⟨_, _, i, w, rfl, rfl, .inl (.inl (low_ex _ _ hs)), ew, q _ H _ G k S (Ex.refl _) dw⟩
/-- an index into a slot's own list -/
theorem ek_ixO {i : Nat} {p : Addr} {xs : List PyData} (hi : G[i]? = some (.own p xs)) (h : EK F G tb fun y G2 => ∃ ds j d, G2[i]? = some (.own p ds) ∧ y = .int j ∧ atI ds j = some d ∧ κ d G2) : EK F G (tOp (rIxL F.K) (tVar i) tb) κ := fun σ H S Q q => by
  refine ⟨.ref p, (S.ownd hi).1, h σ H S _ fun u H1 y G1 ⟨ds, j, d, g1, ey, ea, k⟩ S1 e1 du => ?_⟩
  subst ey
  cases du
  obtain ⟨_, vs, hp, hd⟩ := S1.ownd g1
  obtain ⟨w, ew, dw⟩ := atI_dps hd ea
  exact ⟨p, vs, j, w, rfl, rfl, .inl (.inl hp), ew, q _ H1 _ G1 k S1 e1 dw⟩
variable {t u : TT} {β : Bool → List Sl → Prop}
theorem et_test (h : EK F G te fun x G' => ∃ b, x = .bool b ∧ β b G') : ET F G (tTest te) β := fun σ H S Q q => h σ H S _ fun v H' x G' ⟨b, ex, k⟩ S' e d => by
  subst ex; cases d
  exact ⟨b, rfl, q b H' G' k S' e⟩
theorem et_B (h : EK F G te fun x G' => ∃ b, x = .bool b ∧ β b G') : ET F G (tB te) β := et_test h
theorem et_and (h : ET F G t fun b G1 => (b = true → ET F G1 u β) ∧ (b = false → β false G1)) : ET F G (tAnd t u) β := fun σ H S Q q => h σ H S _ fun b H1 G1 k S1 e => by
  cases b with
  | true => exact k.1 rfl σ H1 S1 Q fun b' H2 G2 k2 S2 e2 => q b' H2 G2 k2 S2 (e.trans e2)
  | false => exact q false H1 G1 (k.2 rfl) S1 e
theorem et_or (h : ET F G t fun b G1 => (b = false → ET F G1 u β) ∧ (b = true → β true G1)) : ET F G (tOr t u) β := fun σ H S Q q => h σ H S _ fun b H1 G1 k S1 e => by
  cases b with
  | false => exact k.1 rfl σ H1 S1 Q fun b' H2 G2 k2 S2 e2 => q b' H2 G2 k2 S2 (e.trans e2)
  | true => exact q true H1 G1 (k.2 rfl) S1 e
theorem et_not (h : ET F G t fun b G1 => β (!b) G1) : ET F G (tNot t) β := fun σ H S Q q => h σ H S _ fun b H1 G1 k S1 e => q _ H1 G1 k S1 e
theorem ek_if (h : ET F G t fun b G1 => (b = true → EK F G1 ta κ) ∧ (b = false → EK F G1 tb κ)) : EK F G (tIf t ta tb) κ := fun σ H S Q q => h σ H S _ fun b H1 G1 k S1 e => by
  cases b with
  | true => exact k.1 rfl σ H1 S1 Q fun v H2 x G2 k2 S2 e2 => q v H2 x G2 k2 S2 (e.trans e2)
  | false => exact k.2 rfl σ H1 S1 Q fun v H2 x G2 k2 S2 e2 => q v H2 x G2 k2 S2 (e.trans e2)
theorem ek_andV (h : EK F G ta fun x G1 => ∃ b, x = .bool b ∧ (b = true → EK F G1 tb κ) ∧ (b = false → κ (.bool false) G1)) : EK F G (tAndV ta tb) κ := fun σ H S Q q => h σ H S _ fun v H1 x G1 ⟨b, ex, k⟩ S1 e d => by
  subst ex; cases d
  refine ⟨b, rfl, ?_⟩
  cases b with
  | true => exact k.1 rfl σ H1 S1 Q fun v H2 x G2 k2 S2 e2 => q v H2 x G2 k2 S2 (e.trans e2)
  | false => exact q _ H1 _ G1 (k.2 rfl) S1 e (.bl _)
theorem ek_orV (h : EK F G ta fun x G1 => ∃ b, x = .bool b ∧ (b = false → EK F G1 tb κ) ∧ (b = true → κ (.bool true) G1)) : EK F G (tOrV ta tb) κ := fun σ H S Q q => h σ H S _ fun v H1 x G1 ⟨b, ex, k⟩ S1 e d => by
  subst ex; cases d
  refine ⟨b, rfl, ?_⟩
  cases b with
  | false => exact k.1 rfl σ H1 S1 Q fun v H2 x G2 k2 S2 e2 => q v H2 x G2 k2 S2 (e.trans e2)
  | true => exact q _ H1 _ G1 (k.2 rfl) S1 e (.bl _)
theorem ek_notV (h : EK F G ta fun x G1 => ∃ b, x = .bool b ∧ κ (.bool (!b)) G1) : EK F G (tNotV ta) κ := fun σ H S Q q => h σ H S _ fun v H1 x G1 ⟨b, ex, k⟩ S1 e d => by
  subst ex; cases d
  exact ⟨b, rfl, q _ H1 _ G1 k S1 e (.bl _)⟩
/-- a op1 b op2 c of ints: p, p' are the comparisons -/
theorem ek_chainI {g g' : Int → Int → Bool} {tc : TE} (h : EK F G ta fun x G1 => EK F G1 tb fun y G2 => ∃ i j, x = .int i ∧ y = .int j ∧ (g i j = true → EK F G2 tc fun z G3 => ∃ k, z = .int k ∧ κ (.bool (g' j k)) G3) ∧ (g i j = false → κ (.bool false) G2)) :
    EK F G (tChain (rI0 fun i j => .bl (g i j)) (rI0 fun i j => .bl (g' i j)) ta tb tc) κ := fun σ H S Q q =>
  h σ H S _ fun v H1 x G1 k1 S1 e1 d1 => k1 σ H1 S1 _ fun w H2 y G2 ⟨i, j, ex, ey, k2⟩ S2 e2 d2 => by
    subst ex; subst ey; cases d1; cases d2
    refine ⟨i, j, rfl, rfl, g i j, rfl, ?_⟩
    cases c : g i j with
    | true =>
      exact k2.1 c σ H2 S2 _ fun z H3 zx G3 ⟨k, ez, k3⟩ S3 e3 d3 => by
        subst ez; cases d3
        exact ⟨j, k, rfl, rfl, q _ H3 _ G3 k3 S3 ((e1.trans e2).trans e3) (.bl _)⟩
    | false => exact q _ H2 _ G2 (k2.2 c) S2 (e1.trans e2) (.bl _)
variable {tr : TA} {α : Kps}
theorem ea_nil (k : α [] G) : EA F G tNil α := fun σ H S Q q => q [] H [] G k S (Ex.refl _) .nil
theorem ea_cons (h : EK F G te fun x G1 => EA F G1 tr fun xs G2 => α (x :: xs) G2) : EA F G (tCons te tr) α := fun σ H S Q q =>
  h σ H S _ fun v H1 x G1 k1 S1 e1 d1 => k1 σ H1 S1 _ fun vs H2 xs G2 k2 S2 e2 d2 => q (v :: vs) H2 _ G2 k2 S2 (e1.trans e2) (.cons (dp_mono e2 d1) d2)
theorem upd_ex {H : Hp} {p : Addr} {o : HO} (h : H p = none) : Ex H (upd H p o) := Ex.new h
theorem low_new {σ : L2.St} {H : Hp} {p : Addr} {o : HO} (S : Sat F G σ H) (h : H p = none) : low F G (upd H p o) p = some o := by
  rw [low_out (S.noz h) fun z => by obtain ⟨vs, e⟩ := S.at_ z; rw [h] at e; cases e]
  exact upd_same
theorem ek_tup (h : EA F G tr fun xs G' => xs.length ≤ 1000 ∧ κ (.tuple xs) G') : EK F G (tTup tr) κ := fun σ H S Q q => h σ H S _ fun vs H1 xs G1 ⟨hl, k⟩ S1 e1 d1 =>
  ⟨Nat.le_of_lt (small1000 (by rw [dps_length d1]; exact hl)), fun p hp => q _ _ _ G1 k (S1.ex (upd_ex hp)) (e1.trans (low_mono (upd_ex hp))) (.tup (low_new S1 hp) (dps_mono (low_mono (upd_ex hp)) d1))⟩
theorem eo_lst (h : EA F G tr fun xs G' => xs.length ≤ 1000 ∧ α xs G') : EO F G (tLst tr) α := fun σ H S Q q => h σ H S _ fun vs H1 xs G1 ⟨hl, k⟩ S1 e1 d1 =>
  ⟨Nat.le_of_lt (small1000 (by rw [dps_length d1]; exact hl)), fun p hp => by
    have e : Ex H1 (del p (upd H1 p (.lst vs))) := ex_del (upd_ex hp) hp
    exact q p vs _ xs G1 k (S1.ex e) (e1.trans (low_mono e)) upd_same (dps_mono (low_mono e) d1)⟩
def Nx (F : Fr) (G : List Sl) (P : L2.St → Hp → Prop) : Prop := ∀ σ H, Sat F G σ H → P σ H
def NxI (F : Fr) (I : List Sl → Prop) : L2.St → Hp → Prop := fun σ H => ∃ G, I G ∧ Sat F G σ H
/-- what is handed back -/
def Rt (F : Fr) (G : List Sl) (x : PyData) (rt : VK) : Prop := ∀ σ H v, Sat F G σ H → Dq F.K (low F G H) v x → rt v H
def RtO (F : Fr) (G : List Sl) (xs : List PyData) (rt : VK) : Prop := ∀ σ H p vs, Sat F G σ (del p H) → H p = some (.lst vs) → DqAll F.K (low F G (del p H)) vs xs → rt (.ref p) H
variable {D : Ends} {s1 s2 : TS}
theorem nx_seq (h : Nx F G (s1 { D with nx := s2 D })) : Nx F G (tSeq s1 s2 D) := h
theorem nx_next (h : Nx F G D.nx) : Nx F G (tNext D) := h
theorem nx_inv {I : List Sl → Prop} (h : I G) : Nx F G (NxI F I) := fun σ H S => ⟨G, h, S⟩
theorem nx_asg {i : Nat} (h : EK F G te fun x G' => i < G'.length ∧ Nx F (G'.set i (.d x)) D.nx) : Nx F G (tAsg te (gName i) D) := fun σ H S =>
  h σ H S _ fun v H' x G' ⟨hi, k⟩ S' _ d => k _ _ (S'.set hi d)
theorem nx_asgO {i : Nat} (h : EO F G te fun xs G' => i < G'.length ∧ ∀ p, Nx F (G'.set i (.own p xs)) D.nx) : Nx F G (tAsg te (gName i) D) := fun σ H S =>
  h σ H S _ fun p vs H' xs G' ⟨hi, k⟩ S' _ hp d => k p _ _ (S'.setOwn hi hp d)
theorem nx_if (h : ET F G t fun b G1 => (b = true → Nx F G1 (s1 D)) ∧ (b = false → Nx F G1 (s2 D))) : Nx F G (tIfS t s1 s2 D) := fun σ H S =>
  h σ H S _ fun b H1 G1 k S1 e => by
    cases b with
    | true => exact k.1 rfl σ H1 S1
    | false => exact k.2 rfl σ H1 S1
theorem nx_ret (h : EK F G te fun x G' => Rt F G' x D.rt) : Nx F G (tRet te D) := fun σ H S => h σ H S _ fun v H' x G' k S' _ d => k σ H' v S' d
theorem nx_retO (h : EO F G te fun xs G' => RtO F G' xs D.rt) : Nx F G (tRet te D) := fun σ H S => h σ H S _ fun p vs H' x G' k S' _ hp d => k σ H' p vs S' hp d
/-- own lists: append, set -/
theorem nx_app {i : Nat} (hi0 : ∃ p ds, G[i]? = some (.own p ds)) (h : EK F G te fun x G' => ∃ p ds, G'[i]? = some (.own p ds) ∧ G[i]? = some (.own p ds) ∧ ds.length < 1000000 ∧ Nx F (G'.set i (.own p (ds ++ [x]))) D.nx) :
    Nx F G (tDrop (tBM F.K "list" rAppend (tVar i) (tCons te tNil)) D) := fun σ H S => by
  obtain ⟨p, ds, hi⟩ := hi0
  obtain ⟨e0, vs0, hp0, _⟩ := S.ownd hi
  refine ⟨.ref p, e0, .inl ⟨rfl, vs0, .inl (.inl hp0)⟩, h σ H S _ fun v H' x G' ⟨p', ds', h1, h0, hl, k⟩ S' _ d => ?_⟩
  rw [hi] at h0; cases h0
  obtain ⟨_, vs, hp, hd⟩ := S'.ownd h1
  exact ⟨p, vs, v, rfl, rfl, hp, Nat.lt_of_lt_of_le (by rw [dps_length hd]; exact hl) (by decide), k _ _ (S'.upd h1 (dps_append hd (.cons d .nil)))⟩
end
end DL
namespace DL
open PySem L2 Evl
section
variable {F : Fr} {G : List Sl} {κ : Kp} {ta tb te tl : TE} {r : R2} {D : Ends} {s1 s2 : TS} {tr : TA} {α : Kps}
theorem ek_cb {rr : List V → Hp → VK → Prop} (h : EA F G tr fun xs G1 => CK F rr xs G1 κ) : EK F G (tCB rr tr) κ := fun σ H S Q q =>
  h σ H S _ fun vs H1 xs G1 k1 S1 e1 d1 => k1 σ H1 vs S1 d1 Q fun v H2 z G2 k2 S2 e2 d2 => q v H2 z G2 k2 S2 (e1.trans e2) d2
theorem dps1 {K : PySem.W.Frag} {B : Hp} {vs : List V} {x : PyData} (h : DqAll K B vs [x]) : ∃ v, vs = [v] ∧ Dq K B v x := by
  cases h with
  | cons a t => cases t; exact ⟨_, rfl, a⟩
theorem dps2 {K : PySem.W.Frag} {B : Hp} {vs : List V} {x y : PyData} (h : DqAll K B vs [x, y]) : ∃ v u, vs = [v, u] ∧ Dq K B v x ∧ Dq K B u y := by
  cases h with
  | cons a t => cases t with
    | cons b t => cases t; exact ⟨_, _, rfl, a, b⟩
variable {xs : List PyData}
theorem ck_min2 (h : ∃ i j, xs = [.int i, .int j] ∧ κ (.int (if j < i then j else i)) G) : CK F (fun xs H Q => ∃ i j, xs = [.int i, .int j] ∧ Q (.int (if j < i then j else i)) H) xs G κ := fun σ H vs S d Q q => by
  obtain ⟨i, j, rfl, k⟩ := h
  obtain ⟨v, u, rfl, dd, d'⟩ := dps2 d
  cases dd; cases d'
  exact ⟨i, j, rfl, q _ H _ G k S (Ex.refl _) (.int _)⟩
theorem ck_len (h : ∃ ds, (xs = [.list ds] ∨ xs = [.tuple ds]) ∧ κ (.int (ds.length : Int)) G) : CK F (fun xs H Q => ∃ p ys, xs = [.ref p] ∧ (SqL F.K H p ys ∨ SqT F.K H p ys) ∧ Q (.int ys.length) H) xs G κ := fun σ H vs S d Q q => by
  obtain ⟨ds, e, k⟩ := h
  rcases e with rfl | rfl
  · obtain ⟨v, rfl, dd⟩ := dps1 d
    cases dd with
    | lst hs ha =>
      refine ⟨_, _, rfl, .inl (.inl (.inl (low_ex _ _ hs))), ?_⟩
      rw [dps_length ha]
      exact q _ H _ G k S (Ex.refl _) (.int _)
  · obtain ⟨v, rfl, dd⟩ := dps1 d
    cases dd with
    | tup hs ha =>
      refine ⟨_, _, rfl, .inr (.inl (.inl (low_ex _ _ hs))), ?_⟩
      rw [dps_length ha]
      exact q _ H _ G k S (Ex.refl _) (.int _)
theorem ek_lenO {i : Nat} (h : ∃ p ds, G[i]? = some (.own p ds) ∧ κ (.int (ds.length : Int)) G) : EK F G (tCB (fun xs H Q => ∃ p ys, xs = [.ref p] ∧ (SqL F.K H p ys ∨ SqT F.K H p ys) ∧ Q (.int ys.length) H) (tCons (tVar i) tNil)) κ := fun σ H S Q q => by
  obtain ⟨p, ds, hi, k⟩ := h
  obtain ⟨e, vs, hp, hd⟩ := S.ownd hi
  refine ⟨.ref p, e, p, vs, rfl, .inl (.inl (.inl hp)), ?_⟩
  rw [dps_length hd]
  exact q _ H _ G k S (Ex.refl _) (.int _)
def cutD (xs : List PyData) (lo hi : Option Int) : List PyData := (xs.drop (HT.sIx xs.length 0 lo)).take (HT.sIx xs.length xs.length hi - HT.sIx xs.length 0 lo)
theorem dps_cut {K : PySem.W.Frag} {B : Hp} {vs : List V} {ds : List PyData} (h : DqAll K B vs ds) (lo hi : Option Int) : DqAll K B (cutV vs lo hi) (cutD ds lo hi) := by
  unfold cutV cutD
  rw [dps_length h]
  exact dps_take _ (dps_drop _ h)
def EP_ (F : Fr) (G : List Sl) (to : TO) (κ : Option Int → List Sl → Prop) : Prop := ∀ σ H, Sat F G σ H → ∀ Q : Option Int → Hp → Prop,
  (∀ o H' G', κ o G' → Sat F G' σ H' → Ex (low F G H) (low F G' H') → Q o H') → to σ H Q
theorem ep_none {π : Option Int → List Sl → Prop} (k : π none G) : EP_ F G tNoPart π := fun σ H S Q q => q none H G k S (Ex.refl _)
theorem ep_some {π : Option Int → List Sl → Prop} (h : EK F G te fun x G1 => ∃ i, x = .int i ∧ π (some i) G1) : EP_ F G (tPart te) π := fun σ H S Q q => h σ H S _ fun v H1 x G1 ⟨i, e, k⟩ S1 e1 d => by
  subst e; cases d
  exact ⟨i, rfl, q _ H1 G1 k S1 e1⟩
theorem eo_slL {lo hi : TO} (h : EK F G te fun x G1 => EP_ F G1 lo fun a G2 => EP_ F G2 hi fun b G3 => ∃ ds, x = .list ds ∧ α (cutD ds a b) G3) : EO F G (tSl (rSlL F.K) te lo hi) α := fun σ H S Q q =>
  h σ H S _ fun v H1 x G1 k1 S1 e1 d1 => k1 σ H1 S1 _ fun a H2 G2 k2 S2 e2 => k2 σ H2 S2 _ fun b H3 G3 ⟨ds, ex, k3⟩ S3 e3 => by
    subst ex
    have d3 := dp_mono (e2.trans e3) d1
    cases d3 with
    | @lst aa ys _ hs ha =>
      refine ⟨_, _, rfl, .inl (.inl (low_ex _ _ hs)), fun p hp => ?_⟩
      have e : Ex H3 (del p (upd H3 p (.lst (cutV ys a b)))) := ex_del (upd_ex hp) hp
      exact q p _ _ _ G3 k3 (S3.ex e) (((e1.trans e2).trans e3).trans (low_mono e)) upd_same (dps_mono (low_mono e) (dps_cut ha a b))
/-- of the script -/
theorem eo_slScr {i : Nat} {lo hi : TO} {a : Addr} {ns : List Int} (hi0 : G[i]? = some (.scr a ns)) (h : EP_ F G lo fun a' G2 => EP_ F G2 hi fun b G3 => G3[i]? = some (.scr a ns) ∧ α (cutD (ns.map .int) a' b) G3) : EO F G (tSl (rSlL F.K) (tVar i) lo hi) α := fun σ H S Q q => by
  refine ⟨.ref a, getD_some (S.ok i _ hi0).1, h σ H S _ fun a' H2 G2 k2 S2 e2 => k2 σ H2 S2 _ fun b H3 G3 ⟨g3, k3⟩ S3 e3 => ?_⟩
  refine ⟨_, _, rfl, ex_l low_ex (S3.ok i _ g3).2, fun p hp => ?_⟩
  have e : Ex H3 (del p (upd H3 p (.lst (cutV (ns.map V.int) a' b)))) := ex_del (upd_ex hp) hp
  exact q p _ _ _ G3 k3 (S3.ex e) ((e2.trans e3).trans (low_mono e)) upd_same (dps_cut (dps_ints ns) a' b)
def GK (F : Fr) (g : TG) (x : PyData) (G : List Sl) (κ : List Sl → Prop) : Prop := ∀ σ H v, Sat F G σ H → Dq F.K (low F G H) v x → ∀ Q : L2.St → Hp → Prop,
  (∀ σ' G', κ G' → Sat F G' σ' H → Ex (low F G H) (low F G' H) → Q σ' H) → g v σ H Q
def GKs (F : Fr) (g : TGs) (xs : List PyData) (G : List Sl) (κ : List Sl → Prop) : Prop := ∀ σ H vs, Sat F G σ H → DqAll F.K (low F G H) vs xs → ∀ Q : L2.St → Hp → Prop,
  (∀ σ' G', κ G' → Sat F G' σ' H → Ex (low F G H) (low F G' H) → Q σ' H) → g vs σ H Q
theorem low_set_d {i : Nat} {x : PyData} {H : Hp} : Ex (low F G H) (low F (G.set i (.d x)) H) := low_sub fun b hb => (ads_set_sub (s := .d x) rfl G i).subset hb
variable {γ : List Sl → Prop}
theorem gk_name {i : Nat} {x : PyData} (hi : i < G.length) (k : γ (G.set i (.d x))) : GK F (gName i) x G γ := fun σ H v S d Q q => q _ _ k (S.set hi d) low_set_d
theorem gks_nil (k : γ G) : GKs F gNil [] G γ := fun σ H vs S d Q q => by cases d; exact ⟨rfl, q _ _ k S (Ex.refl _)⟩
theorem gks_cons {g : TG} {gs : TGs} {x : PyData} {xs : List PyData} (h : GK F g x G fun G1 => GKs F gs xs G1 γ) : GKs F (gCons g gs) (x :: xs) G γ := fun σ H vs S d Q q => by
  cases d with
  | cons d1 d2 => exact ⟨_, _, rfl, h σ H _ S d1 _ fun σ1 G1 k1 S1 e1 => k1 σ1 H _ S1 (dps_mono e1 d2) Q fun σ2 G2 k2 S2 e2 => q σ2 G2 k2 S2 (e1.trans e2)⟩
theorem gk_tup {n : Nat} {gs : TGs} {x : PyData} (h : ∃ ds, x = .tuple ds ∧ ds.length = n ∧ GKs F gs ds G γ) : GK F (gTup F.K n gs) x G γ := fun σ H v S d Q q => by
  obtain ⟨ds, rfl, hl, k⟩ := h
  cases d with
  | tup hs ha => exact ⟨_, _, rfl, .inl (.inl (low_ex _ _ hs)), by rw [dps_length ha]; exact hl, k σ H _ S ha Q q⟩
/-- a target of any form behind an expression -/
theorem nx_asgG {g : TG} (h : EK F G te fun x G1 => GK F g x G1 fun G2 => Nx F G2 D.nx) : Nx F G (tAsg te g D) := fun σ H S => h σ H S _ fun v H' x G' k S' _ d => k σ H' v S' d _ fun σ2 G2 k2 S2 _ => k2 σ2 H' S2
abbrev Fr.at (F : Fr) (B : Hp) : Fr := { F with B0 := B }
theorem Sat.weak {B : Hp} {σ : L2.St} {H : Hp} (e : Ex F.B0 B) (S : Sat (F.at B) G σ H) : Sat F G σ H := ⟨e.trans S.ext, S.zk, S.zn, S.len, S.nd, S.ok⟩
theorem Nx.weak {B : Hp} {P : L2.St → Hp → Prop} (e : Ex F.B0 B) (h : Nx F G P) : Nx (F.at B) G P := fun σ H S => h σ H (S.weak e)
theorem Rt.weak {B : Hp} {x : PyData} {rt : VK} (e : Ex F.B0 B) (h : Rt F G x rt) : Rt (F.at B) G x rt := fun σ H v S d => h σ H v (S.weak e) d
theorem RtO.weak {B : Hp} {xs : List PyData} {rt : VK} (e : Ex F.B0 B) (h : RtO F G xs rt) : RtO (F.at B) G xs rt := fun σ H p vs S e1 d => h σ H p vs (S.weak e) e1 d
theorem nx_forR {g : TG} {tb : TS} (I : Nat → List Sl → Prop) (h : EA F G tr fun xs G1 => ∃ n : Int, xs = [.int n] ∧ n < 2 ^ 62 ∧ -(2 ^ 62) ≤ n ∧ I 0 G1 ∧
      (∀ (i : Nat) G', (i : Int) < n → I i G' → GK F g (.int i) G' fun G2 => Nx F G2 (tb { D with nx := NxI F (I (i + 1)), ct := NxI F (I (i + 1)), bk := D.nx })) ∧
      (∀ G', I n.toNat G' → Nx F G' D.nx)) : Nx F G (tFor (iRng1 tr) g tb D) := fun σ H S => h σ H S _ fun vs H1 xs G1 ⟨n, ex, hn, hn2, h0, hs, hd⟩ S1 e1 d1 => by
  subst ex
  obtain ⟨v, rfl, dd⟩ := dps1 d1
  cases dd
  refine ⟨n, rfl, hn2, hn, for_range (lo := 0) (n := n.toNat) (Pv := fun i σ' H' => NxI F (I i) σ' H') ⟨G1, h0, S1⟩ (fun i σ' H' hi ⟨G', hI, S'⟩ => ?_) (fun σ' H' ⟨G', hI, S'⟩ => hd G' hI σ' H' S')⟩
  rw [Int.zero_add]
  exact hs i G' (by omega) hI σ' H' _ S' (.int _) _ fun σ2 G2 k2 S2 _ => k2 σ2 H' S2
end
end DL
namespace DL
open PySem L2 Evl
abbrev Tr := List PyData → (PyData → Prop) → Prop
abbrev Trs := List PyData → (List PyData → Prop) → Prop
def lim : Nat := 1099511627776
def Grow (B H B' H' : Hp) : Prop := Ex B B' ∧ Ex H H' ∧ Ex B' H' ∧ ∀ b, B b = none → (∃ o, H b = some o) → B' b = none
/-- a def over data -/
def spP (K : PySem.W.Frag) (n : Nat) (T : Tr) : Sp := fun vs H Q _ => ∃ B xs κ, Ex B H ∧ DqAll K B vs xs ∧ xs.length = n ∧ T xs κ ∧ ∀ v H' x B', κ x → Grow B H B' H' → Dq K B' v x → Q v H'
/-- .. that hands back a new list -/
def spPO (K : PySem.W.Frag) (n : Nat) (T : Trs) : Sp := fun vs H Q _ => ∃ B xs κ, Ex B H ∧ DqAll K B vs xs ∧ xs.length = n ∧ T xs κ ∧
  ∀ p ws H' ys B', κ ys → Grow B H B' (del p H') → H' p = some (.lst ws) → DqAll K B' ws ys → Q (.ref p) H'
/-- .. that draws, at most c times -/
def spF (K : PySem.W.Frag) (n c : Nat) (T : Tr) : Sp := fun vs H Q _ => ∃ f us B xs κ A, vs = .ref f :: us ∧ Ex B (del f H) ∧ Feed K B H f A ∧ A + c ≤ lim ∧ DqAll K B us xs ∧ xs.length = n ∧ T xs κ ∧
  ∀ v H' x B', κ x → Grow B (del f H) B' (del f H') → Feed K B' H' f (A + c) → Dq K B' v x → Q v H'
theorem spP_len {K : PySem.W.Frag} {n : Nat} {T : Tr} {vs : List V} {H : Hp} {Q : VK} {E : XK} (h : spP K n T vs H Q E) : vs.length = n := by
  obtain ⟨B, xs, κ, _, d, hn, _⟩ := h; rw [dps_length d]; exact hn
theorem spPO_len {K : PySem.W.Frag} {n : Nat} {T : Trs} {vs : List V} {H : Hp} {Q : VK} {E : XK} (h : spPO K n T vs H Q E) : vs.length = n := by
  obtain ⟨B, xs, κ, _, d, hn, _⟩ := h; rw [dps_length d]; exact hn
theorem spF_len {K : PySem.W.Frag} {n c : Nat} {T : Tr} {vs : List V} {H : Hp} {Q : VK} {E : XK} (h : spF K n c T vs H Q E) : vs.length = n + 1 := by
  obtain ⟨f, us, B, xs, κ, A, rfl, _, _, _, d, hn, _⟩ := h; rw [List.length_cons, dps_length d, hn]
abbrev frP (K : PySem.W.Frag) (B H : Hp) : Fr := ⟨K, B, fun b => B b = none ∧ ∃ o, H b = some o, H, fun _ h => h.2⟩
theorem map_getD (xs : List PyData) (m i : Nat) (s : Sl) (h : (xs.map Sl.d ++ List.replicate m Sl.any)[i]? = some s) : (∃ x, xs[i]? = some x ∧ s = .d x) ∨ s = .any := by
  rw [List.getElem?_append] at h
  split at h
  · rw [List.getElem?_map] at h
    cases q : xs[i]? with
    | none => rw [q] at h; cases h
    | some x => rw [q] at h; exact .inl ⟨x, rfl, (Option.some.inj h).symm⟩
  · rw [List.getElem?_replicate] at h
    split at h
    · exact .inr (Option.some.inj h).symm
    · cases h
theorem ads_start (xs : List PyData) (m : Nat) : ads (xs.map Sl.d ++ List.replicate m Sl.any) = [] := by
  unfold ads
  rw [List.flatMap_eq_nil_iff]
  intro s hs
  rcases List.mem_append.mp hs with h | h
  · obtain ⟨x, _, rfl⟩ := List.mem_map.mp h; rfl
  · rw [(List.mem_replicate.mp h).2]; rfl
theorem start_getD {N : List Str} {vs : List V} {i : Nat} {v : V} (h : vs[i]? = some v) : (L2.start N vs).getD i none = some v := by
  unfold L2.start
  have hi := (List.getElem?_eq_some_iff.mp h).1
  rw [List.getD_eq_getElem?_getD, List.getElem?_append_left (by rw [List.length_map]; exact hi), List.getElem?_map, h]; rfl
theorem start_len {N : List Str} {vs : List V} (h : vs.length ≤ N.length) : (L2.start N vs).length = N.length := by
  unfold L2.start
  rw [List.length_append, List.length_map, List.length_replicate]; omega
theorem sat_start {K : PySem.W.Frag} {B H : Hp} {vs : List V} {xs : List PyData} {N : List Str} (hB : Ex B H) (d : DqAll K B vs xs) (hl : xs.length ≤ N.length) :
    Sat (frP K B H) (xs.map Sl.d ++ List.replicate (N.length - xs.length) Sl.any) (L2.start N vs) H := by
  have ea := ads_start xs (N.length - xs.length)
  have eB : Ex B (low (frP K B H) (xs.map Sl.d ++ List.replicate (N.length - xs.length) Sl.any) H) := fun b o e => by
    rw [low_out (fun z => by have := z.1; rw [e] at this; cases this) (by rw [ea]; simp)]
    exact hB b o e
  refine ⟨eB, fun b o _ e => e, fun b hb => (by rw [ea] at hb; cases hb), ?_, by rw [ea]; exact List.nodup_nil, fun i s hs => ?_⟩
  · rw [start_len (by rw [dps_length d]; exact hl), List.length_append, List.length_map, List.length_replicate]; omega
  · rcases map_getD xs _ i s hs with ⟨x, ex, rfl⟩ | rfl
    · obtain ⟨v, ev, dv⟩ := dps_get d ex
      exact ⟨v, start_getD ev, dp_mono eB dv⟩
    · trivial
theorem grow_end {K : PySem.W.Frag} {B H H' : Hp} {G : List Sl} {σ : L2.St} (hB : Ex B H) (S : Sat (frP K B H) G σ H') : Grow B H (low (frP K B H) G H') H' := by
  refine ⟨S.ext, fun b o e => ?_, low_ex, fun b h1 h2 => low_z ⟨h1, h2⟩⟩
  cases q : B b with
  | none => exact S.zk b o ⟨q, o, e⟩ e
  | some u =>
    have := hB b u q
    rw [e] at this; cases this
    exact low_ex b _ (S.ext b _ q)
theorem rtP {K : PySem.W.Frag} {B H : Hp} {Q : VK} {κ : PyData → Prop} (hB : Ex B H) (hq : ∀ v H' x B', κ x → Grow B H B' H' → Dq K B' v x → Q v H') {G : List Sl} {x : PyData} (k : κ x) : Rt (frP K B H) G x Q :=
  fun σ H' v S d => hq v H' x _ k (grow_end hB S) d
theorem rtPO {K : PySem.W.Frag} {B H : Hp} {Q : VK} {κ : List PyData → Prop} (hB : Ex B H) (hq : ∀ p ws H' ys B', κ ys → Grow B H B' (del p H') → H' p = some (.lst ws) → DqAll K B' ws ys → Q (.ref p) H') {G : List Sl} {xs : List PyData} (k : κ xs) :
    RtO (frP K B H) G xs Q := fun σ H' p vs S hp d => hq p vs H' xs _ k (grow_end hB S) hp d
abbrev frF (K : PySem.W.Frag) (B H : Hp) (f : Addr) : Fr := frP K B (del f H)
theorem sat_startF {K : PySem.W.Frag} {B H : Hp} {f : Addr} {us : List V} {xs : List PyData} {N : List Str} {A : Nat} (hB : Ex B (del f H)) (hf : Feed K B H f A) (d : DqAll K B us xs) (hl : xs.length + 1 ≤ N.length) :
    Sat (frF K B H f) (Sl.fd f A :: (xs.map Sl.d ++ List.replicate (N.length - (xs.length + 1)) Sl.any)) (L2.start N (.ref f :: us)) H := by
  have ea : ads (Sl.fd f A :: (xs.map Sl.d ++ List.replicate (N.length - (xs.length + 1)) Sl.any)) = [f] := by
    show f :: ads _ = [f]
    rw [ads_start]
  have eB : Ex B (low (frF K B H f) (Sl.fd f A :: (xs.map Sl.d ++ List.replicate (N.length - (xs.length + 1)) Sl.any)) H) := fun b o e => by
    have e' := hB b o e
    have nb : b ≠ f := fun y => by subst y; rw [del_same] at e'; cases e'
    rw [low_out (fun z => by have := z.1; rw [e] at this; cases this) (by rw [ea]; simpa using nb)]
    rw [del_ne nb] at e'; exact e'
  refine ⟨eB, fun b o _ e => del_ex b o e, fun b hb => ?_, ?_, by rw [ea]; simp, fun i s hs => ?_⟩
  · rw [ea] at hb
    obtain rfl : b = f := by simpa using hb
    rintro ⟨_, o, e⟩
    rw [del_same] at e; cases e
  · rw [start_len (by rw [List.length_cons, dps_length d]; exact hl), List.length_cons, List.length_append, List.length_map, List.length_replicate]; omega
  · cases i with
    | zero =>
      have e : Sl.fd f A = s := by simpa using hs
      subst e
      exact ⟨rfl, feed_mono eB (fun _ z => z) (Nat.le_refl _) hf⟩
    | succ i =>
      have hs' : (xs.map Sl.d ++ List.replicate (N.length - (xs.length + 1)) Sl.any)[i]? = some s := by simpa using hs
      rcases map_getD xs _ i s hs' with ⟨x, ex, rfl⟩ | rfl
      · obtain ⟨v, ev, dv⟩ := dps_get d ex
        exact ⟨v, start_getD (by simpa using ev), dp_mono eB dv⟩
      · trivial
theorem grow_endF {K : PySem.W.Frag} {B H H' : Hp} {f : Addr} {G : List Sl} {σ : L2.St} (hf : f ∈ ads G) (hB : Ex B (del f H)) (S : Sat (frF K B H f) G σ H') : Grow B (del f H) (low (frF K B H f) G H') (del f H') := by
  refine ⟨S.ext, fun b o e => ?_, fun b o e => ?_, fun b h1 h2 => low_z ⟨h1, h2⟩⟩
  · have nb : b ≠ f := fun y => by subst y; rw [del_same] at e; cases e
    rw [del_ne nb]
    cases q : B b with
    | none => exact S.zk b o ⟨q, o, e⟩ e
    | some u =>
      have := hB b u q
      rw [e] at this; cases this
      exact low_ex b _ (S.ext b _ q)
  · obtain ⟨e1, e2, e3⟩ := low_some e
    rw [del_ne fun y => e3 (by rw [y]; exact hf)]
    exact e1
theorem rtF {K : PySem.W.Frag} {B H : Hp} {f : Addr} {Q : VK} {κ : PyData → Prop} {A c : Nat} (hB : Ex B (del f H))
    (hq : ∀ v H' x B', κ x → Grow B (del f H) B' (del f H') → Feed K B' H' f (A + c) → Dq K B' v x → Q v H') {G : List Sl} {x : PyData} {A' : Nat} (hG : G[0]? = some (.fd f A')) (hA : A' ≤ A + c) (k : κ x) : Rt (frF K B H f) G x Q :=
  fun σ H' v S d => hq v H' x _ k (grow_endF (ads_mem hG rfl) hB S) (feed_mono (Ex.refl _) (fun _ z => z) hA (S.feed hG).2) d
section
variable {F : Fr} {G : List Sl} {κ : Kp} {α : Kps} {ta : TA} {n c : Nat} {E : XK}
theorem grow_low {σ : L2.St} {H H' B' : Hp} (S : Sat F G σ H) (g : Grow (low F G H) H B' H') : Ex B' (low F G H') := fun b o e => by
  have e1 := g.2.2.1 b o e
  rw [low_out (fun z => ?_) fun z => ?_]
  · exact e1
  · obtain ⟨u, hu⟩ := F.zh b z
    have := g.2.2.2 b (low_z z) ⟨u, S.zk b u z hu⟩
    rw [e] at this; cases this
  · obtain ⟨vs, hv⟩ := S.at_ z
    have := g.2.2.2 b (low_in z) ⟨_, hv⟩
    rw [e] at this; cases this
theorem ek_callP {T : Tr} (h : EA F G ta fun xs G1 => xs.length = n ∧ T xs fun x => κ x G1) : EK F G (tCall (spP F.K n T) [] E ta) κ := fun σ H S Q q =>
  h σ H S _ fun vs H1 xs G1 ⟨hn, k⟩ S1 e1 d1 => by
    show spP F.K n T (vs ++ []) H1 Q E
    rw [List.append_nil]
    exact ⟨low F G1 H1, xs, fun x => κ x G1, low_ex, d1, hn, k, fun v H' x B' kx g d => q v H' x G1 kx (S1.ex g.2.1) (e1.trans (low_mono g.2.1)) (dp_mono (grow_low S1 g) d)⟩
theorem eo_callP {T : Trs} (h : EA F G ta fun xs G1 => xs.length = n ∧ T xs fun x => α x G1) : EO F G (tCall (spPO F.K n T) [] E ta) α := fun σ H S Q q =>
  h σ H S _ fun vs H1 xs G1 ⟨hn, k⟩ S1 e1 d1 => by
    show spPO F.K n T (vs ++ []) H1 Q E
    rw [List.append_nil]
    exact ⟨low F G1 H1, xs, fun x => α x G1, low_ex, d1, hn, k, fun p ws H' ys B' kx g hp d => q p ws H' ys G1 kx (S1.ex g.2.1) (e1.trans (low_mono g.2.1)) hp (dps_mono (grow_low S1 g) d)⟩
/-- behind a call that drew -/
theorem sat_drawn {σ : L2.St} {H H' B' : Hp} {i : Nat} {f : Addr} {A A' : Nat} (S : Sat F G σ H) (hi : G[i]? = some (.fd f A)) (g : Grow (low F G H) (del f H) B' (del f H')) (hf : Feed F.K B' H' f A') :
    Sat F (G.set i (.fd f A')) σ H' ∧ Ex (low F G H) (low F (G.set i (.fd f A')) H') ∧ Ex B' (low F (G.set i (.fd f A')) H') := by
  have hp : f ∈ ads G := ads_mem hi rfl
  have ea : ads (G.set i (.fd f A')) = ads G := ads_set_same G i _ hi rfl
  have el : ∀ H, low F (G.set i (.fd f A')) H = low F G H := fun H => low_ads ea
  have keep : ∀ b o, b ≠ f → H b = some o → H' b = some o := fun b o nb e => by
    have := g.2.1 b o (by rw [del_ne nb]; exact e)
    rw [del_ne nb] at this; exact this
  have eG : Ex (low F G H) (low F G H') := fun b o e => by
    obtain ⟨e1, e2, e3⟩ := low_some e
    rw [low_out e2 e3]
    exact keep b o (fun y => e3 (by rw [y]; exact hp)) e1
  have eB : Ex B' (low F G H') := fun b o e => by
    have e1 := g.2.2.1 b o e
    have nb : b ≠ f := fun y => by subst y; rw [del_same] at e1; cases e1
    rw [del_ne nb] at e1
    rw [low_out (fun z => ?_) fun z => ?_]
    · exact e1
    · obtain ⟨u, hu⟩ := F.zh b z
      have := g.2.2.2 b (low_z z) ⟨u, by rw [del_ne nb]; exact S.zk b u z hu⟩
      rw [e] at this; cases this
    · obtain ⟨vs, hv⟩ := S.at_ z
      have := g.2.2.2 b (low_in z) ⟨_, by rw [del_ne nb]; exact hv⟩
      rw [e] at this; cases this
  refine ⟨⟨by rw [el]; exact S.ext.trans eG, fun b o z q => keep b o (fun y => S.zn f hp (by rw [← y]; exact z)) (S.zk b o z q), by rw [ea]; exact S.zn, by rw [List.length_set]; exact S.len, by rw [ea]; exact S.nd, fun j s hj => ?_⟩, by rw [el]; exact eG, by rw [el]; exact eB⟩
  rw [el]
  rw [List.getElem?_set] at hj
  by_cases q : i = j
  · rw [if_pos q, if_pos (List.getElem?_eq_some_iff.mp hi).1] at hj
    cases hj
    subst q
    exact ⟨(S.ok i _ hi).1, feed_mono eB (fun _ z => z) (Nat.le_refl _) hf⟩
  · rw [if_neg q] at hj
    exact slok_mono eG (fun b o hb e => keep b o (fun y => by subst y; exact two_ads G i j _ s b hi hj q List.mem_cons_self hb S.nd) e) (S.ok j s hj)
theorem ek_callF {T : Tr} {i : Nat} (hi : ∃ f A, G[i]? = some (.fd f A)) (h : EA F G ta fun xs G1 => ∃ f A, G[i]? = some (.fd f A) ∧ ∃ A1, G1[i]? = some (.fd f A1) ∧ A1 + c ≤ lim ∧ xs.length = n ∧ T xs fun x => κ x (G1.set i (.fd f (A1 + c)))) :
    EK F G (tCall (spF F.K n c T) [] E (tCons (tVar i) ta)) κ := fun σ H S Q q => by
  obtain ⟨f, A, hi⟩ := hi
  refine ⟨.ref f, (S.feed hi).1, h σ H S _ fun vs H1 xs G1 ⟨f', A', hi', A1, h1, hl, hn, k⟩ S1 e1 d1 => ?_⟩
  rw [hi] at hi'; cases hi'
  show spF F.K n c T ((.ref f :: vs) ++ []) H1 Q E
  rw [List.append_nil]
  have hp : f ∈ ads G1 := ads_mem h1 rfl
  refine ⟨f, vs, low F G1 H1, xs, fun x => κ x (G1.set i (.fd f (A1 + c))), A1, rfl, fun b o e => ?_, (S1.feed h1).2, hl, d1, hn, k, fun v H' x B' kx g hf d => ?_⟩
  · obtain ⟨e1, e2, e3⟩ := low_some e
    rw [del_ne fun y => e3 (by rw [y]; exact hp)]; exact e1
  · obtain ⟨S2, e2, eB⟩ := sat_drawn S1 h1 g hf
    exact q v H' x _ kx S2 (e1.trans e2) (dp_mono eB d)
theorem dps_ints_inv {K : PySem.W.Frag} {B : Hp} : ∀ {ns : List Int} {vs : List V}, DqAll K B vs (ns.map PyData.int) → vs = ns.map V.int
  | [], _, .nil => rfl
  | n :: r, _, .cons h t => by cases h; rw [dps_ints_inv t]; rfl
def feedL (ns : List Int) (a r u : Int) : List (Key × PyData) := [(Sum.inr "cells", .list (ns.map .int)), (Sum.inr "at", .int a), (Sum.inr "left", .int r), (Sum.inr "turn", .int u)]
theorem four_keys {ws : List (Key × V)} {a b c d : Key} (h : ws.map (·.1) = [a, b, c, d]) : ∃ v1 v2 v3 v4, ws = [(a, v1), (b, v2), (c, v3), (d, v4)] := by
  match ws, h with
  | [(_, v1), (_, v2), (_, v3), (_, v4)], h =>
    simp only [List.map_cons, List.map_nil, List.cons.injEq, and_true] at h
    obtain ⟨rfl, rfl, rfl, rfl⟩ := h
    exact ⟨_, _, _, _, rfl⟩
  | [], h => simp at h
  | [_], h => simp at h
  | [_, _], h => simp at h
  | [_, _, _], h => simp at h
  | _ :: _ :: _ :: _ :: _ :: _, h => simp at h
theorem nx_open {P : L2.St → Hp → Prop} {i : Nat} {f : Addr} {A : Nat} (hi : G[i]? = some (.fd f A))
    (h : ∀ (at_ rest turn : Int) (ns : List Int), ns.length ≤ 63 → 0 ≤ at_ → at_ ≤ (A : Int) → 0 ≤ rest → Nx F (G.set i (.dic f (feedL ns at_ rest turn))) P) : Nx F G P := fun σ H S => by
  obtain ⟨e, l, a, r, u, ns, hp, hs, h1, h2, h3, h4⟩ := S.feed hi
  refine h a r u ns h1 h2 h3 h4 σ H ?_
  refine S.retell hi rfl fun v ⟨ev, _⟩ => ⟨ev, _, hp, rfl, .cons (.lst hs (dps_ints ns)) (.cons (.int a) (.cons (.int r) (.cons (.int u) .nil)))⟩
theorem sat_close {σ : L2.St} {H : Hp} {i : Nat} {f : Addr} {A : Nat} {at_ rest turn : Int} {ns : List Int} (hi : G[i]? = some (.dic f (feedL ns at_ rest turn))) (h1 : ns.length ≤ 63) (h2 : 0 ≤ at_) (h3 : at_ ≤ (A : Int)) (h4 : 0 ≤ rest)
    (S : Sat F G σ H) : Sat F (G.set i (.fd f A)) σ H := by
  refine S.retell hi rfl fun v ⟨ev, ws, hp, hk, hd⟩ => ⟨ev, ?_⟩
  have hk' : ws.map (·.1) = [(Sum.inr "cells" : Key), Sum.inr "at", Sum.inr "left", Sum.inr "turn"] := hk
  obtain ⟨v1, v2, v3, v4, rfl⟩ := four_keys hk'
  have hd : DqAll F.K (low F G H) [v1, v2, v3, v4] [.list (ns.map .int), .int at_, .int rest, .int turn] := hd
  cases hd with
  | cons d1 t1 => cases t1 with
    | cons d2 t2 => cases t2 with
      | cons d3 t3 => cases t3 with
        | cons d4 t4 =>
        cases t4; cases d2; cases d3; cases d4
        cases d1 with
        | lst hs ha =>
          rw [dps_ints_inv ha] at hs
          exact ⟨_, at_, rest, turn, ns, hp, hs, h1, h2, h3, h4⟩
theorem rt_close {x : PyData} {rt : VK} {i : Nat} {f : Addr} (A : Nat) {at_ rest turn : Int} {ns : List Int} (hi : G[i]? = some (.dic f (feedL ns at_ rest turn))) (h1 : ns.length ≤ 63) (h2 : 0 ≤ at_) (h3 : at_ ≤ (A : Int)) (h4 : 0 ≤ rest)
    (h : Rt F (G.set i (.fd f A)) x rt) : Rt F G x rt := fun σ H v S d => h σ H v (sat_close hi h1 h2 h3 h4 S) (by rw [low_ads (ads_set_same (s := .fd f A) G i _ hi rfl)]; exact d)
end
def spLaw (K : PySem.W.Frag) : Sp := fun vs H Q _ => ∃ (a : Addr) (ns : List Int), vs = [.ref a] ∧ SqL K H a (ns.map V.int) ∧ ns.length ≤ 63 ∧ ∀ H', Q (.bl true) H'
theorem spLaw_len {K : PySem.W.Frag} {vs : List V} {H : Hp} {Q : VK} {E : XK} (h : spLaw K vs H Q E) : vs.length = 1 := by obtain ⟨a, ns, rfl, _⟩ := h; rfl
theorem rtLaw {F : Fr} {Q : VK} (hq : ∀ H', Q (.bl true) H') {G : List Sl} : Rt F G (.bool true) Q := fun σ H v S d => by cases d; exact hq H
/-- what makes the feed: of the script -/
def spMk (K : PySem.W.Frag) : Sp := fun vs H Q _ => ∃ (a : Addr) (ns : List Int) (B : Hp), vs = [.ref a] ∧ Ex B H ∧ SqL K B a (ns.map V.int) ∧ ns.length ≤ 63 ∧
  ∀ p ws H' B', Grow B H B' (del p H') → H' p = some (.dK ws) → ws.map (·.1) = (feedL ns 0 0 0).map (·.1) → DqAll K B' (ws.map (·.2)) ((feedL ns 0 0 0).map (·.2)) → Q (.ref p) H'
theorem spMk_len {K : PySem.W.Frag} {vs : List V} {H : Hp} {Q : VK} {E : XK} (h : spMk K vs H Q E) : vs.length = 1 := by obtain ⟨a, ns, B, rfl, _⟩ := h; rfl
theorem nx_callMk {F : Fr} {G : List Sl} {D : Ends} {E : XK} {i j : Nat} {a : Addr} {ns : List Int} (hi : G[i]? = some (.scr a ns)) (hn : ns.length ≤ 63) (hj : j < G.length) (k : ∀ p, Nx F (G.set j (.fd p 0)) D.nx) : Nx F G (tAsg (tCall (spMk F.K) [] E (tCons (tVar i) tNil)) (gName j) D) := fun σ H S => by
  refine ⟨.ref a, getD_some (S.ok i _ hi).1, ?_⟩
  refine ⟨a, ns, low F G H, rfl, low_ex, (S.ok i _ hi).2, hn, fun p ws H' B' g hp hk hd => ?_⟩
  have S2 : Sat F G σ (del p H') := S.ex g.2.1
  have S3 : Sat F (G.set j (.dic p (feedL ns 0 0 0))) (σ.set j (some (.ref p))) H' := S2.setNew (s' := .dic p (feedL ns 0 0 0)) hj rfl ⟨rfl, ws, hp, hk, dps_mono (grow_low S g) hd⟩
  have hi2 : (G.set j (.dic p (feedL ns 0 0 0)))[j]? = some (.dic p (feedL ns 0 0 0)) := by rw [List.getElem?_set, if_pos rfl, if_pos hj]
  have S4 := sat_close (A := 0) hi2 hn (Int.le_refl 0) (Int.le_refl 0) (Int.le_refl 0) S3
  rw [List.set_set] at S4
  exact k p _ _ S4
theorem sat_mk {K : PySem.W.Frag} {B H : Hp} {a : Addr} {ns : List Int} {N : List Str} (hB : Ex B H) (hS : SqL K B a (ns.map V.int)) (hl : 1 ≤ N.length) :
    Sat (frP K B H) (.scr a ns :: List.replicate (N.length - 1) Sl.any) (L2.start N [.ref a]) H := by
  have ea : ads (.scr a ns :: List.replicate (N.length - 1) Sl.any) = [] := ads_start [] (N.length - 1)
  have eB : Ex B (low (frP K B H) (.scr a ns :: List.replicate (N.length - 1) Sl.any) H) := fun b o e => by
    rw [low_out (fun z => by have := z.1; rw [e] at this; cases this) (by rw [ea]; simp)]
    exact hB b o e
  refine ⟨eB, fun b o _ e => e, fun b hb => (by rw [ea] at hb; cases hb), ?_, by rw [ea]; exact List.nodup_nil, fun i s hs => ?_⟩
  · rw [start_len (by simpa using hl), List.length_cons, List.length_replicate]; omega
  · cases i with
    | zero =>
      have e : Sl.scr a ns = s := by simpa using hs
      subst e
      exact ⟨rfl, ex_l eB hS⟩
    | succ i =>
      have hs' : (List.replicate (N.length - 1) Sl.any)[i]? = some s := by simpa using hs
      rw [List.getElem?_replicate] at hs'
      split at hs'
      · cases hs'; trivial
      · cases hs'
end DL
namespace DL
open PySem L2 Evl
section
variable {X : Cx} {K : PySem.W.Frag}
theorem isi' (h : X.K = K) : CallR X (.builtin "isinstance") (rIsi K) := by subst h; exact call_isi
theorem len' (h : X.K = K) : CallR X (.builtin "len") (fun xs H Q => ∃ p ys, xs = [.ref p] ∧ (SqL K H p ys ∨ SqT K H p ys) ∧ Q (.int ys.length) H) := by subst h; exact call_len_seq
theorem lof' (h : X.K = K) : CallR X (.type "list") (fun xs H Q => ∃ p ys, xs = [.ref p] ∧ (SqL K H p ys ∨ SqT K H p ys) ∧ ∀ l, H l = none → Q (.ref l) (upd H l (.lst ys))) := by subst h; exact call_list_of
theorem ixl' (h : X.K = K) : IxR X (rIxL K) := by subst h; exact ix_list
theorem ixt' (h : X.K = K) : IxR X (rIxT K) := by subst h; exact ix_tup
theorem sll' (h : X.K = K) : SlR X (rSlL K) := by subst h; exact sl_list
theorem ned' (hu : X.A.units + 64 < cLine) (h : X.K = K) : OpR X (compareOp .NotEq) (rNeD K) := by subst h; exact op_neD hu
theorem plist' {tg l : Expr} {tl : TE} (h : X.K = K) (hl : PE X l tl) : PI X tg l (iList K tl) := by subst h; exact pi_list hl
theorem ptup' {tg l : Expr} {tl : TE} (h : X.K = K) (hl : PE X l tl) : PI X tg l (iTup K tl) := by subst h; exact pi_tup hl
theorem gtup' {es : List Expr} {k : Nat} {t : TGs} {n : Nat} {pos : Pos} (h0 : X.K = K) (hc : X.calm = true) (h : PGs X es t)
    (hn : (assignEach es X.env).length = n := by rfl) (hst : (assignEach es X.env).findIdx? (·.1) = none := by rfl) : PG X (.Tuple es k pos) (gTup K n t) := by subst h0; exact pg_tup hc h hn hst
end
/-- the slot's list is its own from here on -/
def tOwn (t : TS) : TS := t
theorem ps_own {X : Cx} {st : Stmt} {t : TS} (h : PS X st t) : PS X st (tOwn t) := h
section
variable {F : Fr} {G : List Sl} {κ : Kp} {ta tb te tl : TE} {r : R2} {D : Ends} {s1 s2 : TS} {tr : TA} {α : Kps} {xs : List PyData}
/-- what stands behind a statement, once for all its ways -/
theorem nx_cut (J : List Sl → Prop) (h : Nx F G (s1 { D with nx := NxI F J })) (k : ∀ G', J G' → Nx F G' (s2 D)) : Nx F G (C8.tCut s1 s2 D) := fun σ H S =>
  ⟨NxI F J, h σ H S, fun σ' H' ⟨G', hJ, S'⟩ => k G' hJ σ' H' S'⟩
theorem nx_own {i : Nat} (h : EO F G te fun xs G' => i < G'.length ∧ ∀ p, Nx F (G'.set i (.own p xs)) D.nx) : Nx F G (tOwn (tAsg te (gName i)) D) := nx_asgO h
theorem enterP {K : PySem.W.Frag} {B H : Hp} {vs : List V} {xs : List PyData} {N : List Str} {P : L2.St → Hp → Prop} (hB : Ex B H) (d : DqAll K B vs xs) (hl : xs.length ≤ N.length)
    (h : Nx (frP K B H) (xs.map Sl.d ++ List.replicate (N.length - xs.length) Sl.any) P) : P (L2.start N vs) H := h _ _ (sat_start hB d hl)
theorem enterF {K : PySem.W.Frag} {B H : Hp} {f : Addr} {us : List V} {xs : List PyData} {N : List Str} {A : Nat} {P : L2.St → Hp → Prop} (hB : Ex B (del f H)) (hf : Feed K B H f A) (d : DqAll K B us xs) (hl : xs.length + 1 ≤ N.length)
    (h : Nx (frF K B H f) (Sl.fd f A :: (xs.map Sl.d ++ List.replicate (N.length - (xs.length + 1)) Sl.any)) P) : P (L2.start N (.ref f :: us)) H := h _ _ (sat_startF hB hf d hl)
theorem enterL {K : PySem.W.Frag} {B H : Hp} {a : Addr} {ns : List Int} {N : List Str} {P : L2.St → Hp → Prop} (hB : Ex B H) (hS : SqL K B a (ns.map V.int)) (hl : 1 ≤ N.length)
    (h : Nx (frP K B H) (.scr a ns :: List.replicate (N.length - 1) Sl.any) P) : P (L2.start N [.ref a]) H := h _ _ (sat_mk hB hS hl)
def tyD : PyData → String
  | .none => "NoneType"
  | .bool _ => "bool"
  | .int _ => "int"
  | .str _ => "str"
  | .list _ => "list"
  | .tuple _ => "tuple"
  | .dict _ => "dict"
theorem tyx_of {K : PySem.W.Frag} {H : Hp} {v : V} {x : PyData} (h : Dq K H v x) : TyX K H v (.type (tyD x)) := by
  cases h with
  | non => exact .base .non
  | bl b => exact .base (.bl b)
  | int i => exact .base (.int i)
  | str z => exact .base (.str z)
  | lst h _ => exact .base (.lst h)
  | tup h _ => exact .base (.tup h)
  | dct h _ => exact .base (.dK h)
theorem ek_isi {n : String} (h : EK F G te fun x G1 => ∃ b, kitB (tyD x) n = some b ∧ κ (.bool b) G1) : EK F G (tCB (rIsi F.K) (tCons te (tCons (tC (.ty n)) tNil))) κ := fun σ H S Q q =>
  h σ H S _ fun v H1 x G1 ⟨b, hb, k⟩ S1 e1 d1 => ⟨v, .ty n, _, _, b, rfl, .ty n, tyx_of (dp_mono low_ex d1), kit_ty hb, q _ H1 _ G1 k S1 e1 (.bl b)⟩
theorem eo_cat (h : EK F G ta fun x G1 => EK F G1 tb fun y G2 => ∃ ds es, x = .list ds ∧ y = .list es ∧ ds.length + es.length ≤ 1000000 ∧ α (ds ++ es) G2) : EO F G (tOp rCat ta tb) α := fun σ H S Q q =>
  h σ H S _ fun v H1 x G1 k1 S1 e1 d1 => k1 σ H1 S1 _ fun u H2 y G2 ⟨ds, es, ex, ey, hl, k2⟩ S2 e2 d2 => by
    subst ex; subst ey
    have d1' := dp_mono e2 d1
    cases d1' with
    | @lst a1 v1 _ h1 a1' => cases d2 with
      | @lst a2 v2 _ h2 a2' =>
        refine ⟨_, _, v1, v2, rfl, rfl, low_ex _ _ h1, low_ex _ _ h2, Nat.le_trans (by rw [dps_length a1', dps_length a2']; exact hl) (by decide), fun p hp => ?_⟩
        have e : Ex H2 (del p (upd H2 p (.lst (v1 ++ v2)))) := ex_del (upd_ex hp) hp
        exact q p _ _ _ G2 k2 (S2.ex e) ((e1.trans e2).trans (low_mono e)) upd_same (dps_mono (low_mono e) (dps_append a1' a2'))
theorem rk_cat {x y : PyData} (h : ∃ ds es, x = .list ds ∧ y = .list es ∧ ds.length + es.length ≤ 1000000 ∧ κ (.list (ds ++ es)) G) : RK F rCat x y G κ := fun σ H v u S dv du Q q => by
  obtain ⟨ds, es, rfl, rfl, hl, k⟩ := h
  cases dv with
  | @lst a1 v1 _ h1 a1' => cases du with
    | @lst a2 v2 _ h2 a2' =>
      refine ⟨_, _, v1, v2, rfl, rfl, low_ex _ _ h1, low_ex _ _ h2, Nat.le_trans (by rw [dps_length a1', dps_length a2']; exact hl) (by decide), fun p hp => ?_⟩
      exact q _ _ _ G k (S.ex (upd_ex hp)) (low_mono (upd_ex hp)) (.lst (low_new S hp) (dps_mono (low_mono (upd_ex hp)) (dps_append a1' a2')))
theorem wipe_getD (σ : L2.St) : ∀ (vs : List Nat) (j : Nat), j ∉ vs → (wipe σ vs).getD j none = σ.getD j none
  | [], _, _ => rfl
  | i :: r, j, h => by
    show ((wipe σ r).set i none).getD j none = _
    rw [List.getD_eq_getElem?_getD, List.getElem?_set, if_neg fun e => h (by rw [e]; exact List.mem_cons_self), ← List.getD_eq_getElem?_getD]
    exact wipe_getD σ r j fun z => h (List.mem_cons_of_mem _ z)
theorem wipe_in (σ : L2.St) : ∀ (vs : List Nat) (j : Nat), j ∈ vs → j < σ.length → (wipe σ vs)[j]? = some none
  | i :: r, j, h, hl => by
    show ((wipe σ r).set i none)[j]? = _
    rw [List.getElem?_set, wipe_length]
    by_cases e : i = j
    · rw [if_pos e, if_pos (by rw [e]; exact hl)]
    · rw [if_neg e]
      rcases List.mem_cons.mp h with z | z
      · exact absurd z.symm e
      · exact wipe_in σ r j z hl
theorem wipe_set {σ : L2.St} {i : Nat} {v : Option V} {vs : List Nat} (h : i ∈ vs) : wipe (σ.set i v) vs = wipe σ vs := by
  refine List.ext_getElem? fun j => ?_
  by_cases hj : j ∈ vs
  · by_cases hl : j < σ.length
    · rw [wipe_in _ vs j hj (by rw [List.length_set]; exact hl), wipe_in _ vs j hj hl]
    · rw [List.getElem?_eq_none (by rw [wipe_length, List.length_set]; omega), List.getElem?_eq_none (by rw [wipe_length]; omega)]
  · rw [wipe_out hj, wipe_out hj, List.getElem?_set, if_neg fun e => hj (by rw [← e]; exact h)]
def GW (g : TG) (vs : List Nat) : Prop := ∀ v σ H (Q Q' : L2.St → Hp → Prop), g v σ H Q → (∀ σ' H', Q σ' H' → wipe σ' vs = wipe σ vs → Q' σ' H') → g v σ H Q'
def GWs (g : TGs) (vs : List Nat) : Prop := ∀ v σ H (Q Q' : L2.St → Hp → Prop), g v σ H Q → (∀ σ' H', Q σ' H' → wipe σ' vs = wipe σ vs → Q' σ' H') → g v σ H Q'
theorem gw_name {i : Nat} {vs : List Nat} (h : i ∈ vs) : GW (gName i) vs := fun v σ H Q Q' q k => k _ _ q (wipe_set h)
theorem gws_nil {vs : List Nat} : GWs gNil vs := fun v σ H Q Q' ⟨e, q⟩ k => ⟨e, k _ _ q rfl⟩
theorem gws_cons {g : TG} {gs : TGs} {vs : List Nat} (h : GW g vs) (k : GWs gs vs) : GWs (gCons g gs) vs := fun v σ H Q Q' ⟨x, r, e, q⟩ f =>
  ⟨x, r, e, h x σ H _ _ q fun σ' H' q' w => k r σ' H' Q Q' q' fun σ2 H2 q2 w2 => f σ2 H2 q2 (w2.trans w)⟩
theorem gw_tup {K : PySem.W.Frag} {n : Nat} {gs : TGs} {vs : List Nat} (h : GWs gs vs) : GW (gTup K n gs) vs := fun v σ H Q Q' ⟨a, xs, e, s, l, q⟩ k => ⟨a, xs, e, s, l, h _ _ _ _ _ q k⟩
def wipeG (G : List Sl) : List Nat → List Sl
  | [] => G
  | v :: vs => (wipeG G vs).set v .any
theorem Sat.wipe {σ : L2.St} {H : Hp} (S : Sat F G σ H) : ∀ vs : List Nat, Sat F (wipeG G vs) (L2.wipe σ vs) H
  | [] => S
  | v :: vs => (S.wipe vs).forget v none
theorem wipeG_any : ∀ (G : List Sl) (vs : List Nat) (j : Nat) (s : Sl), j ∈ vs → (wipeG G vs)[j]? = some s → s = .any
  | G, i :: r, j, s, h, e => by
    have e' : ((wipeG G r).set i .any)[j]? = some s := e
    rw [List.getElem?_set] at e'
    by_cases q : i = j
    · rw [if_pos q] at e'
      split at e'
      · cases e'; rfl
      · cases e'
    · rw [if_neg q] at e'
      rcases List.mem_cons.mp h with z | z
      · exact absurd z.symm q
      · exact wipeG_any G r j s z e'
/-- the outer slots again -/
theorem Sat.unwipe {σ σ2 : L2.St} {H : Hp} {vs : List Nat} (S : Sat F G σ2 H) (w : L2.wipe σ2 vs = L2.wipe σ vs) : Sat F (wipeG G vs) σ H := by
  have T := S.wipe vs
  rw [w] at T
  refine ⟨T.ext, T.zk, T.zn, by rw [← T.len, wipe_length], T.nd, fun j s hj => ?_⟩
  by_cases h : j ∈ vs
  · rw [wipeG_any G vs j s h hj]; trivial
  · have := T.ok j s hj
    rw [wipe_getD σ vs j h] at this
    exact this
/-- the frame within a comprehension: D, the new list, is not touched -/
abbrev Fr.wo (F : Fr) (B : Hp) (D : Addr) (ob : HO) : Fr := ⟨F.K, B, fun b => F.Z b ∨ b = D, fun b => if b = D then some ob else F.Hz b, fun b h => by
  by_cases e : b = D
  · exact ⟨_, if_pos e⟩
  · rw [if_neg e]
    exact F.zh b (h.resolve_right e)⟩
theorem low_wo {B : Hp} {D : Addr} {ob : HO} {H : Hp} : low (F.wo B D ob) G H = low F G (del D H) := by
  funext b
  rcases low_cases F G (del D H) b with ⟨e, z⟩ | ⟨e, z1, z2⟩
  · rw [e]
    rcases z with z | z
    · exact low_z (.inl z)
    · exact low_in z
  · by_cases hb : b = D
    · rw [e]
      subst hb
      rw [del_same]
      exact low_z (F := F.wo B b ob) (.inr rfl)
    · rw [e, del_ne hb]
      exact low_out (F := F.wo B D ob) (fun h => h.elim z1 hb) z2
theorem Sat.toWo {B : Hp} {D : Addr} {ob : HO} {σ : L2.St} {H : Hp} (S : Sat F G σ (del D H)) (hB : Ex B (low F G (del D H))) (hD : H D = some ob) : Sat (F.wo B D ob) G σ H := by
  refine ⟨by rw [low_wo]; exact hB, fun b o z e => ?_, fun b hb z => ?_, S.len, S.nd, fun i s h => ?_⟩
  · by_cases hb : b = D
    · subst hb
      have e' : some ob = some o := by rw [← e]; exact (if_pos rfl).symm
      rw [hD, e']
    · have e' : F.Hz b = some o := by rw [← e]; exact (if_neg hb).symm
      exact del_ex b o (S.zk b o (z.resolve_right hb) e')
  · rcases z with z | z
    · exact S.zn b hb z
    · subst z
      obtain ⟨vs, e⟩ := S.at_ hb
      rw [del_same] at e; cases e
  · rw [low_wo]
    exact slok_mono (Ex.refl _) (fun p o _ e => del_ex p o e) (S.ok i s h)
theorem Sat.ofWo {B : Hp} {D : Addr} {ob : HO} {σ : L2.St} {H : Hp} (S : Sat (F.wo B D ob) G σ H) (hB : Ex F.B0 B) (hz : ¬ F.Z D) : Sat F G σ (del D H) ∧ H D = some ob := by
  have hD : H D = some ob := S.zk D _ (.inr rfl) (if_pos rfl)
  have nD : D ∉ ads G := fun z => S.zn D z (.inr rfl)
  have e0 := S.ext
  rw [low_wo] at e0
  refine ⟨⟨hB.trans e0, fun b o z e => ?_, fun b hb z => S.zn b hb (.inl z), S.len, S.nd, fun i s h => ?_⟩, hD⟩
  · have hb : b ≠ D := fun y => hz (by rw [← y]; exact z)
    rw [del_ne hb]
    exact S.zk b o (.inl z) (by rw [← e]; exact if_neg hb)
  · have := S.ok i s h
    rw [low_wo] at this
    exact slok_mono (Ex.refl _) (fun p o hp e => by
      have : p ≠ D := fun y => nD (by rw [← y]; exact ads_mem' h hp)
      rw [del_ne this]; exact e) this
abbrev Fr.wd (F : Fr) (B : Hp) (D : Addr) (ws : List V) : Fr := F.wo B D (.lst ws)
theorem low_wd {B : Hp} {D : Addr} {ws : List V} {H : Hp} : low (F.wd B D ws) G H = low F G (del D H) := low_wo
theorem Sat.toWd {B : Hp} {D : Addr} {ws : List V} {σ : L2.St} {H : Hp} (S : Sat F G σ (del D H)) (hB : Ex B (low F G (del D H))) (hD : H D = some (.lst ws)) : Sat (F.wd B D ws) G σ H := S.toWo hB hD
theorem Sat.ofWd {B : Hp} {D : Addr} {ws : List V} {σ : L2.St} {H : Hp} (S : Sat (F.wd B D ws) G σ H) (hB : Ex F.B0 B) (hz : ¬ F.Z D) : Sat F G σ (del D H) ∧ H D = some (.lst ws) := S.ofWo hB hz
theorem del_upd {p : Addr} {H : Hp} {o : HO} : del p (L2.upd H p o) = del p H := by
  funext b
  by_cases h : b = p
  · subst h; rw [del_same, del_same]
  · rw [del_ne h, del_ne h, upd_ne h]
theorem wipe_wipe (σ : L2.St) (vs : List Nat) : L2.wipe (L2.wipe σ vs) vs = L2.wipe σ vs := by
  refine List.ext_getElem? fun j => ?_
  by_cases hj : j ∈ vs
  · by_cases hl : j < σ.length
    · rw [wipe_in _ vs j hj (by rw [wipe_length]; exact hl), wipe_in _ vs j hj hl]
    · rw [List.getElem?_eq_none (by rw [wipe_length, wipe_length]; omega), List.getElem?_eq_none (by rw [wipe_length]; omega)]
  · rw [wipe_out hj]
/-- one turn -/
def Turn (F : Fr) (vs : List Nat) (g : TG) (tt : TT) (te : TE) (I : Nat → List PyData → List Sl → Prop) (i : Nat) (x : PyData) (acc : List PyData) (G' : List Sl) : Prop :=
  ∀ B D ws, Ex F.B0 B → GK (F.wd B D ws) g x (wipeG G' vs) fun G2 => ET (F.wd B D ws) G2 tt fun b G3 => (b = true → EK (F.wd B D ws) G3 te fun y G4 => I (i + 1) (acc ++ [y]) (wipeG G4 vs)) ∧ (b = false → I (i + 1) acc (wipeG G3 vs))
def CW (F : Fr) (B : Hp) (D : Addr) (I : Nat → List PyData → List Sl → Prop) (σ : L2.St) (i : Nat) (H : Hp) : Prop :=
  ∃ acc ws G', I i acc G' ∧ acc.length ≤ i ∧ Sat F G' σ (del D H) ∧ Ex B (low F G' (del D H)) ∧ H D = some (.lst ws) ∧ DqAll F.K (low F G' (del D H)) ws acc
theorem wipeG_ads : ∀ (G : List Sl) (vs : List Nat) (b : Addr), b ∈ ads (wipeG G vs) → b ∈ ads G
  | _, [], _, h => h
  | G, i :: r, b, h => wipeG_ads G r b ((ads_set_sub (s := .any) rfl (wipeG G r) i).subset h)
theorem cw_turn {B : Hp} {D : Addr} {I : Nat → List PyData → List Sl → Prop} {σ : L2.St} {i : Nat} {H : Hp} {vs : List Nat} {g : TG} {tt : TT} {te : TE} {x : PyData} {v : V} (hz : ¬ F.Z D) (hB : Ex F.B0 B) (hi : i < 1000000) (C : CW F B D I σ i H)
    (hv : ∀ G', Sat F G' σ (del D H) → Ex B (low F G' (del D H)) → Dq F.K (low F G' (del D H)) v x) (gw : GW g vs) (ht : ∀ acc G', I i acc G' → acc.length ≤ i → Turn F vs g tt te I i x acc G') :
    g v (L2.wipe σ vs) H fun σ2 H2 => L2.wipe σ2 vs = L2.wipe σ vs ∧ tt σ2 H2 fun b H3 => if b = true then te σ2 H3 fun y H4 => ∃ acc, H4 D = some (.lst acc) ∧ acc.length < sizeLine ∧ CW F B D I σ (i + 1) (upd H4 D (.lst (acc ++ [y]))) else CW F B D I σ (i + 1) H3 := by
  obtain ⟨acc, ws, G', hI, hl, S, eB, hD, hd⟩ := C
  have S0 : Sat (F.wd B D ws) G' σ H := S.toWd eB hD
  have S1 := S0.wipe vs
  have T := ht acc G' hI hl B D ws hB
  have dv : Dq F.K (low (F.wd B D ws) (wipeG G' vs) H) v x := dp_mono (by
    rw [low_wd]; exact low_sub fun b => wipeG_ads G' vs b) (hv G' S eB)
  refine gw v (L2.wipe σ vs) H _ _ (T _ _ _ S1 dv (fun σ2 H2 => H2 = H ∧ ∃ G2, ET (F.wd B D ws) G2 tt (fun b G3 => (b = true → EK (F.wd B D ws) G3 te fun y G4 => I (i + 1) (acc ++ [y]) (wipeG G4 vs)) ∧ (b = false → I (i + 1) acc (wipeG G3 vs))) ∧ Sat (F.wd B D ws) G2 σ2 H ∧ Ex (low (F.wd B D ws) (wipeG G' vs) H) (low (F.wd B D ws) G2 H)) fun σ' G2 k2 S2 e2 => ⟨rfl, G2, k2, S2, e2⟩) fun σ2 H2 ⟨eH, G2, k2, S2, e2⟩ w => ?_
  subst eH
  have w' : L2.wipe σ2 vs = L2.wipe σ vs := by
    rw [w]
    exact wipe_wipe σ vs
  refine ⟨w', k2 σ2 H2 S2 _ fun b H3 G3 k3 S3 e3 => ?_⟩
  have e0 : Ex (low F G' (del D H2)) (low (F.wd B D ws) (wipeG G' vs) H2) := by rw [low_wd]; exact low_sub fun b => wipeG_ads G' vs b
  have fin : ∀ {G5 : List Sl} {H5 : Hp}, Sat (F.wd B D ws) G5 σ2 H5 → Ex (low (F.wd B D ws) G3 H3) (low (F.wd B D ws) G5 H5) → Sat F (wipeG G5 vs) σ (del D H5) ∧ Ex (low F G' (del D H2)) (low F (wipeG G5 vs) (del D H5)) ∧ H5 D = some (.lst ws) ∧ Ex (low (F.wd B D ws) G5 H5) (low F (wipeG G5 vs) (del D H5)) := fun {G5 H5} S5 e5 => by
    obtain ⟨T5, h5⟩ := S5.ofWd hB hz
    have e6 : Ex (low (F.wd B D ws) G5 H5) (low F (wipeG G5 vs) (del D H5)) := by rw [low_wd]; exact low_sub fun b => wipeG_ads G5 vs b
    exact ⟨T5.unwipe w', (((e0.trans e2).trans e3).trans e5).trans e6, h5, e6⟩
  cases b with
  | false =>
    rw [if_neg Bool.false_ne_true]
    obtain ⟨S5, e5, h5, _⟩ := fin S3 (Ex.refl _)
    exact ⟨acc, ws, _, k3.2 rfl, by omega, S5, eB.trans e5, h5, dps_mono e5 hd⟩
  | true =>
    rw [if_pos rfl]
    refine k3.1 rfl σ2 H3 S3 _ fun y H4 yx G4 k4 S4 e4 d4 => ?_
    obtain ⟨S5, e5, h5, e6⟩ := fin S4 e4
    have hlw := dps_length hd
    refine ⟨ws, h5, Nat.lt_of_lt_of_le (by rw [hlw]; exact Nat.lt_of_le_of_lt hl hi) (by decide), acc ++ [yx], ws ++ [y], _, k4, by rw [List.length_append]; simp only [List.length_cons, List.length_nil]; omega, ?_, ?_, upd_same, ?_⟩
    · rw [del_upd]; exact S5
    · rw [del_upd]; exact eB.trans e5
    · rw [del_upd]
      exact dps_append (dps_mono e5 hd) (.cons (dp_mono e6 d4) .nil)
theorem cw_start {σ : L2.St} {H1 : Hp} {D : Addr} {I : Nat → List PyData → List Sl → Prop} {vs : List Nat} (S1 : Sat F G σ H1) (h0 : I 0 [] (wipeG G vs)) (hD : H1 D = none) : CW F (low F G H1) D I σ 0 (upd H1 D (.lst [])) := by
  have e : Ex H1 (del D (upd H1 D (.lst []))) := ex_del (upd_ex hD) hD
  have S2 : Sat F G σ (del D (upd H1 D (.lst []))) := S1.ex e
  have S3 : Sat F (wipeG G vs) σ (del D (upd H1 D (.lst []))) := S2.unwipe rfl
  exact ⟨[], [], _, h0, Nat.le_refl _, S3, (low_mono e).trans (low_sub fun b => wipeG_ads G vs b), upd_same, .nil⟩
/-- [elt for target in a list if ..] -/
theorem eo_lcL {g : TG} {tt : TT} {vs : List Nat} (I : Nat → List PyData → List Sl → Prop) (h : EK F G tl fun x G1 => ∃ xs, x = .list xs ∧ xs.length < 1000000 ∧ GW g vs ∧ I 0 [] (wipeG G1 vs) ∧
      (∀ i x acc G', xs[i]? = some x → I i acc G' → acc.length ≤ i → Turn F vs g tt te I i x acc G') ∧ (∀ acc G', I xs.length acc G' → α acc G')) : EO F G (tLc (iList F.K tl) g tt te vs) α := fun σ H S Q q =>
  h σ H S _ fun v H1 x G1 ⟨xs, ex, hl, gw, h0, ht, hd⟩ S1 e1 d1 => by
    subst ex
    cases d1 with
    | @lst a us _ hs ha =>
      refine ⟨a, rfl, ⟨us, .inl (.inl (low_ex _ _ hs))⟩, fun D hD => ?_⟩
      have hz : ¬ F.Z D := S1.noz hD
      have L : ∀ i H', CW F (low F G1 H1) D I σ i H' → SqL F.K H' a us := fun i H' ⟨acc, ws, G', _, _, _, eB, _, _⟩ => .inl (.inl (del_ex _ _ (low_ex _ _ (eB _ _ hs))))
      refine lc_list (Pv := fun i H' => CW F (low F G1 H1) D I σ i H') (cw_start S1 h0 hD) (fun i H' _ C => L i H' C) (fun i v H' ev C => ?_) (fun H' C => ?_)
      · obtain ⟨x, ex, dx⟩ := dps_get' ha ev
        have hi : i < us.length := (List.getElem?_eq_some_iff.mp ev).1
        exact cw_turn hz S1.ext (by rw [dps_length ha] at hi; omega) C (fun _ _ e => dp_mono e dx) gw fun acc G' hI hacc => ht i x acc G' ex hI hacc
      · obtain ⟨acc, ws, G', hI, _, S', eB, hw, hd'⟩ := C
        rw [dps_length ha] at hI
        exact q D ws H' acc G' (hd acc G' hI) S' (e1.trans eB) hw hd'
theorem eo_lcT {g : TG} {tt : TT} {vs : List Nat} (I : Nat → List PyData → List Sl → Prop) (h : EK F G tl fun x G1 => ∃ xs, x = .tuple xs ∧ xs.length < 1000000 ∧ GW g vs ∧ I 0 [] (wipeG G1 vs) ∧
      (∀ i x acc G', xs[i]? = some x → I i acc G' → acc.length ≤ i → Turn F vs g tt te I i x acc G') ∧ (∀ acc G', I xs.length acc G' → α acc G')) : EO F G (tLc (iTup F.K tl) g tt te vs) α := fun σ H S Q q =>
  h σ H S _ fun v H1 x G1 ⟨xs, ex, hl, gw, h0, ht, hd⟩ S1 e1 d1 => by
    subst ex
    cases d1 with
    | @tup a us _ hs ha =>
      refine ⟨a, rfl, ⟨us, .inl (.inl (low_ex _ _ hs))⟩, fun D hD => ?_⟩
      have hz : ¬ F.Z D := S1.noz hD
      have L : ∀ i H', CW F (low F G1 H1) D I σ i H' → SqT F.K H' a us := fun i H' ⟨acc, ws, G', _, _, _, eB, _, _⟩ => .inl (.inl (((eB.trans low_ex).trans del_ex) _ _ hs))
      refine lc_tup (Pv := fun i H' => CW F (low F G1 H1) D I σ i H') (cw_start S1 h0 hD) (fun i H' _ C => L i H' C) (fun i v H' ev C => ?_) (fun H' C => ?_)
      · obtain ⟨x, ex, dx⟩ := dps_get' ha ev
        have hi : i < us.length := (List.getElem?_eq_some_iff.mp ev).1
        exact cw_turn hz S1.ext (by rw [dps_length ha] at hi; omega) C (fun _ _ e => dp_mono e dx) gw fun acc G' hI hacc => ht i x acc G' ex hI hacc
      · obtain ⟨acc, ws, G', hI, _, S', eB, hw, hd'⟩ := C
        rw [dps_length ha] at hI
        exact q D ws H' acc G' (hd acc G' hI) S' (e1.trans eB) hw hd'
theorem et_yes {β : Bool → List Sl → Prop} (k : β true G) : ET F G tYes β := fun σ H S Q q => q true H G k S (Ex.refl _)
/-- an own list is plain data from here on -/
theorem nx_freeze {P : L2.St → Hp → Prop} {i : Nat} {p : Addr} {ys : List PyData} (hi : G[i]? = some (.own p ys)) (h : Nx F (G.set i (.d (.list ys))) P) : Nx F G P := fun σ H S => h σ H (by
  have hil : i < G.length := (List.getElem?_eq_some_iff.mp hi).1
  obtain ⟨e0, vs, hp, hd⟩ := S.ownd hi
  have hs : ∀ b, b ∈ ads (G.set i (.d (.list ys))) → b ∈ ads G := fun b hb => (ads_set_sub (s := .d (.list ys)) rfl G i).subset hb
  have e : Ex (low F G H) (low F (G.set i (.d (.list ys))) H) := low_sub hs
  have np : p ∉ ads (G.set i (.d (.list ys))) := fun z => by
    obtain ⟨s, hs, es⟩ := List.mem_flatMap.mp z
    obtain ⟨j, hj⟩ := List.getElem?_of_mem hs
    rw [List.getElem?_set] at hj
    by_cases q : i = j
    · rw [if_pos q, if_pos hil] at hj; cases hj; cases es
    · rw [if_neg q] at hj
      exact two_ads G i j _ s p hi hj q List.mem_cons_self es S.nd
  refine ⟨S.ext.trans e, S.zk, fun b hb => S.zn b (hs b hb), by rw [List.length_set]; exact S.len, S.nd.sublist (ads_set_sub rfl G i), fun j s hj => ?_⟩
  rw [List.getElem?_set] at hj
  by_cases q : i = j
  · rw [if_pos q, if_pos hil] at hj
    cases hj
    subst q
    exact ⟨.ref p, (S.ok i _ hi).1, .lst (by rw [low_out (S.zn p (ads_mem hi rfl)) np]; exact hp) (dps_mono e hd)⟩
  · rw [if_neg q] at hj
    exact slok_mono e (fun _ _ _ z => z) (S.ok j s hj))
theorem nx_wipe {P : L2.St → Hp → Prop} (vs : List Nat) (h : Nx F (wipeG G vs) P) : Nx F G P := fun σ H S => h σ H (S.unwipe rfl)
theorem rk_neD' {x y : PyData} {b : Bool} (hx : SeqAt.shaped x = true) (hy : SeqAt.shaped y = true) (e : PyData.eqv x y = b) (k : κ (.bool (!b)) G) : RK F (rNeD F.K) x y G κ := rk_neD hx hy (by rw [e]; exact k)
theorem nx_ownR (h : EO F G te fun xs G' => RtO F G' xs D.rt) : Nx F G (tOwn (tRet te) D) := nx_retO h
theorem ek_neg (h : EK F G ta fun x G1 => ∃ i, x = .int i ∧ κ (.int (-i)) G1) : EK F G (tUn (rU fun i => .int (-i)) ta) κ := fun σ H S Q q => h σ H S _ fun v H1 x G1 ⟨i, e, k⟩ S1 e1 d => by
  subst e; cases d
  exact ⟨i, rfl, q _ H1 _ G1 k S1 e1 (.int _)⟩
theorem cutD_63 {ns : List Int} (h : ns.length ≤ 63) : cutD (ns.map .int) none (some 63) = ns.map .int := by
  unfold cutD
  rw [HT.sIx_none, show HT.sIx (ns.map PyData.int).length (ns.map PyData.int).length (some 63) = min 63 (ns.map PyData.int).length from HT.sIx_nat _ _ 63, List.length_map, List.drop_zero, Nat.sub_zero, List.take_of_length_le (by rw [List.length_map]; omega)]
end
end DL
namespace DL
open PySem L2 Evl
def lay (n : Nat) (x : PyData) : Prop := x.canLay0 = true ∧ x.depth ≤ n
theorem lay_all {n : Nat} : ∀ {xs : List PyData}, (∀ x ∈ xs, lay n x) → PyData.canLayAll0 xs = true ∧ PyData.depthAll xs ≤ n
  | [], _ => ⟨rfl, Nat.zero_le _⟩
  | x :: r, h => by
    have h1 := h x List.mem_cons_self
    have h2 := lay_all (xs := r) fun y hy => h y (List.mem_cons_of_mem _ hy)
    exact ⟨by rw [PyData.canLayAll0, h1.1, h2.1]; rfl, by rw [PyData.depthAll]; exact Nat.max_le.mpr ⟨h1.2, h2.2⟩⟩
theorem lay_list {n : Nat} {xs : List PyData} (h : ∀ x ∈ xs, lay n x) : lay (n + 1) (.list xs) := by
  obtain ⟨h1, h2⟩ := lay_all h
  exact ⟨by rw [PyData.canLay0]; exact h1, by rw [PyData.depth]; omega⟩
theorem lay_tup {n : Nat} {xs : List PyData} (h : ∀ x ∈ xs, lay n x) : lay (n + 1) (.tuple xs) := by
  obtain ⟨h1, h2⟩ := lay_all h
  exact ⟨by rw [PyData.canLay0]; exact h1, by rw [PyData.depth]; omega⟩
theorem lay_int {n : Nat} {i : Int} : lay n (.int i) := ⟨by rw [PyData.canLay0], by rw [PyData.depth]; omega⟩
theorem lay.mono {n m : Nat} {x : PyData} (h : lay n x) (k : n ≤ m) : lay m x := ⟨h.1, Nat.le_trans h.2 k⟩
theorem lay.shaped {n : Nat} {x : PyData} (h : lay n x) (k : n ≤ 64) : SeqAt.shaped x = true := by
  unfold SeqAt.shaped
  rw [h.1, decide_eq_true (Nat.le_trans h.2 k)]; rfl
theorem lay_ints {n : Nat} {ns : List Int} : ∀ x ∈ ns.map PyData.int, lay n x := fun x hx => by
  obtain ⟨i, _, rfl⟩ := List.mem_map.mp hx; exact lay_int
/-- a list against the empty one -/
theorem eqv_nil (xs : List PyData) : PyData.eqv (.list xs) (.list []) = decide (xs = []) := by
  rw [PyData.eqv]
  cases xs with
  | nil => rw [PyData.eqvAll, decide_eq_true rfl]
  | cons x r => rw [PyData.eqvAll, decide_eq_false (by simp)]
theorem atI_ok {α : Type} {xs : List α} {i : Int} (h0 : 0 ≤ i) (h1 : i < xs.length) : ∃ x, atI xs i = some x ∧ x ∈ xs := by
  unfold atI ixN
  rw [if_pos h0, if_pos h1]
  have hi : i.toNat < xs.length := by omega
  exact ⟨xs[i.toNat], by rw [Option.bind_some, List.getElem?_eq_getElem hi], List.getElem_mem hi⟩
theorem atI_ints {ns : List Int} {i : Int} (h0 : 0 ≤ i) (h1 : i < ns.length) : ∃ c : Int, atI (ns.map PyData.int) i = some (.int c) ∧ c ∈ ns := by
  obtain ⟨x, e, m⟩ := atI_ok (xs := ns.map PyData.int) h0 (by rw [List.length_map]; exact h1)
  obtain ⟨c, hc, rfl⟩ := List.mem_map.mp m
  exact ⟨c, e, hc⟩
end DL
namespace DL
open PySem L2 Evl
section
variable {F : Fr} {G : List Sl} {κ : Kp} {ta tb te tl te2 : TE} {r : R2} {D : Ends} {s1 s2 : TS} {tr : TA} {α : Kps} {xs : List PyData}
def scalD : PyData → Bool
  | .none => true
  | .bool _ => true
  | .int _ => true
  | .str _ => true
  | _ => false
theorem CW.ex {B : Hp} {Da : Addr} {I : Nat → List PyData → List Sl → Prop} {σ : L2.St} {i : Nat} {H H' : Hp} (C : CW F B Da I σ i H) (e : Ex H H') : CW F B Da I σ i H' := by
  obtain ⟨acc, ws, G', hI, hl, S, eB, hD, hd⟩ := C
  have e' : Ex (del Da H) (del Da H') := del_mono e
  exact ⟨acc, ws, G', hI, hl, S.ex e', eB.trans (low_mono e'), e _ _ hD, dps_mono (low_mono e') hd⟩
theorem rk_neS {x : PyData} {n : Nat} (h : lay n x) (hn : n ≤ 64) (k : κ (.bool false) G) : RK F (rNeD F.K) x x G κ := rk_neD' (h.shaped hn) (h.shaped hn) (SeqAt.eqv_refl x h.1) k
theorem lay_pair {n : Nat} {x y : PyData} (h : lay n x) (k : lay n y) : lay (n + 1) (.tuple [x, y]) := lay_tup (by
  intro z hz
  simp only [List.mem_cons, List.not_mem_nil, or_false] at hz
  rcases hz with rfl | rfl
  · exact h
  · exact k)
theorem ck_listOf {zs : List PyData} (h : ∃ ds, (zs = [.list ds] ∨ zs = [.tuple ds]) ∧ κ (.list ds) G) : CK F (fun xs H Q => ∃ p ys, xs = [.ref p] ∧ (SqL F.K H p ys ∨ SqT F.K H p ys) ∧ ∀ l, H l = none → Q (.ref l) (upd H l (.lst ys))) zs G κ := fun σ H vs S d Q q => by
  obtain ⟨ds, e, k⟩ := h
  have fin : ∀ ws, DqAll F.K (low F G H) ws ds → ∀ l, H l = none → Q (.ref l) (upd H l (.lst ws)) := fun ws ha l hl =>
    q _ _ _ G k (S.ex (upd_ex hl)) (low_mono (upd_ex hl)) (.lst (low_new S hl) (dps_mono (low_mono (upd_ex hl)) ha))
  rcases e with rfl | rfl
  · obtain ⟨v, rfl, dd⟩ := dps1 d
    cases dd with
    | lst hs ha => exact ⟨_, _, rfl, .inl (.inl (.inl (low_ex _ _ hs))), fin _ ha⟩
  · obtain ⟨v, rfl, dd⟩ := dps1 d
    cases dd with
    | tup hs ha => exact ⟨_, _, rfl, .inr (.inl (.inl (low_ex _ _ hs))), fin _ ha⟩
end
end DL
namespace DL
open PySem PySem.Spec PyProof.Rows L2 Evl
theorem keys_reads {P : Program} {w : World} {h : Heap} : ∀ {kvs : List (Key × V)} {vs : List (Key × Value)} {es : List DictEntry}, KV kvs vs → Pairs (mixKind P w) es vs → ReadsAll h (es.map (·.key)) (kvs.map fun p => kD p.1) []
  | [], [], [], _, _ => .nil
  | [], [], _ :: _, _, p => nomatch p
  | p0 :: kvs, q0 :: vs, e :: es, .cons r rs, .cons h1 h2 h3 => by
    have h1' : keyIs q0.1 e.key = true := h1
    have q := keys_reads (h := h) rs h3
    have e0 : kD p0.1 = kD q0.1 := congrArg kD r.1
    rcases keyIs_shape h1' with ⟨i, t, e1, e2⟩ | ⟨x, t, e1, e2⟩
    · rw [List.map_cons, List.map_cons, e2, e0, e1]
      exact .cons (.int i t) q
    · rw [List.map_cons, List.map_cons, e2, e0, e1]
      exact .cons (.str x t) q
theorem vals_entries {P : Program} {w : World} : ∀ {kvs : List (Key × V)} {vs : List (Key × Value)} {es : List DictEntry}, KV kvs vs → Pairs (mixKind P w) es vs → Vals (kvs.map (·.2)) (es.map (·.val))
  | [], [], [], _, _ => .nil
  | [], [], _ :: _, _, p => nomatch p
  | p0 :: kvs, q0 :: vs, e :: es, .cons r rs, .cons h1 h2 h3 => by
    have q := vals_entries rs h3
    rw [List.map_cons, List.map_cons, h2]
    exact .cons r.2 q
theorem zip_fst {α β : Type} : ∀ {l : List α} {k : List β}, l.length = k.length → (l.zip k).map (·.1) = l
  | [], [], _ => rfl
  | a :: l, b :: k, h => by
    show a :: ((l.zip k).map (·.1)) = a :: l
    rw [zip_fst (Nat.succ.inj h)]
theorem zip_snd {α β : Type} : ∀ {l : List α} {k : List β}, l.length = k.length → (l.zip k).map (·.2) = k
  | [], [], _ => rfl
  | a :: l, b :: k, h => by
    show b :: ((l.zip k).map (·.2)) = b :: k
    rw [zip_snd (Nat.succ.inj h)]
theorem dct_len {K : PySem.W.Frag} {H : Hp} {kvs : List (Key × V)} {ds : List PyData} (ha : DqAll K H (kvs.map (·.2)) ds) : (kvs.map fun p => kD p.1).length = ds.length := by
  rw [List.length_map, ← dps_length ha, List.length_map]
mutual
theorem dq_reads {P : Program} {w : World} {K : PySem.W.Frag} {H : Hp} {h : Heap} (hok : HOk P w H h) : ∀ {v : V} {x : PyData}, Dq K H v x → x.showable = true → ∀ {u : Value}, RelV v u → ∃ as, Reads h u x as
  | _, _, .non, _, _, r => by cases r; exact ⟨_, .none⟩
  | _, _, .bl b, _, _, r => by cases r; exact ⟨_, .bool b⟩
  | _, _, .int i, _, _, r => by obtain ⟨t, rfl⟩ := r; exact ⟨_, .int i t⟩
  | _, _, .str x, _, _, r => by obtain ⟨t, rfl⟩ := r; exact ⟨_, .str x t⟩
  | _, _, .lst hs ha, z, _, r => by
    cases r
    obtain ⟨_, its, n, rv, ho⟩ := hok _ _ hs
    obtain ⟨as, q⟩ := dqs_reads hok ha (by simpa [PyData.showable] using z) rv
    exact ⟨_, .list ho rfl rfl q⟩
  | _, _, .tup hs ha, z, _, r => by
    cases r
    obtain ⟨_, its, rv, o, ho, hc, n, hd⟩ := hok _ _ hs
    obtain ⟨as, q⟩ := dqs_reads hok ha (by simpa [PyData.showable] using z) rv
    exact ⟨_, .tuple ho hc hd q⟩
  | _, _, .dct (kvs := kvs) (ds := ds) hs ha, y, _, r => by
    cases r
    obtain ⟨_, _, vs, rk, o, es, ep, ho, hx, hd, _, hp, _⟩ := hok _ _ hs
    have z := dct_len ha
    obtain ⟨_, y2⟩ := PyData.showableKv_split _ (by simpa [PyData.showable] using y)
    rw [zip_snd z] at y2
    obtain ⟨as, q⟩ := dqs_reads hok ha y2 (vals_entries rk hp)
    exact ⟨_, .dict ho hx.1 hd (by rw [zip_fst z]; exact keys_reads rk hp) (by rw [zip_snd z]; exact q)⟩
theorem dqs_reads {P : Program} {w : World} {K : PySem.W.Frag} {H : Hp} {h : Heap} (hok : HOk P w H h) : ∀ {v : List V} {x : List PyData}, DqAll K H v x → PyData.showableAll x = true → ∀ {u : List Value}, Vals v u → ∃ as, ReadsAll h u x as
  | _, _, .nil, _, _, r => by cases r; exact ⟨_, .nil⟩
  | _, _, .cons d ds, z, _, r => by
    obtain ⟨z1, z2⟩ := Bool.and_eq_true_iff.mp (by simpa only [PyData.showableAll] using z)
    cases r with
    | cons r rs =>
      obtain ⟨as, q⟩ := dq_reads hok d z1 r
      obtain ⟨bs, qs⟩ := dqs_reads hok ds z2 rs
      exact ⟨_, .cons q qs⟩
end
theorem rat_app {h : Heap} {n m : Nat} {bs cs : List Addr} (h1 : ReadAtMost h n bs) (h2 : ReadAtMost h m cs) : ReadAtMost h (max n m) (bs ++ cs) := fun b hm => by
  rcases List.mem_append.mp hm with q | q
  · obtain ⟨d, as, r, z⟩ := h1 b q
    exact ⟨d, as, r, Nat.le_trans z (Nat.le_max_left _ _)⟩
  · obtain ⟨d, as, r, z⟩ := h2 b q
    exact ⟨d, as, r, Nat.le_trans z (Nat.le_max_right _ _)⟩
theorem rak_app {P : Program} {w : World} {h : Heap} {n m : Nat} {bs cs : List Addr} {v : Value} {t : Str} {vs : List Value} {ts : List Str} (h1 : ReprK P w bs h n v t) (h2 : ReprAllK P w cs h m vs ts) : ReprAllK P w (bs ++ cs) h (max n m) (v :: vs) (t :: ts) :=
  .cons ((h1.more fun b hb => List.mem_append_left _ hb).level_le (Nat.le_max_left _ _)) (h2.more_le (fun b hb => List.mem_append_right _ hb) (Nat.le_max_right _ _))
/-- the keys' texts: no object is reached -/
theorem keys_repr {P : Program} {w : World} {h : Heap} {ks : List Value} {xs : List PyData} (r : ReadsAll h ks xs []) (sc : ∀ x ∈ xs, (∃ i, x = .int i) ∨ ∃ y, x = .str y) (hs : PyData.showableAll xs = true) (hz : ∀ t ∈ PyData.shownAll xs, t.length ≤ sizeLine) :
    ReprAllK P w [] h (PyData.depthAll xs) ks (PyData.shownAll xs) := by
  have nd : PyData.hasDictAll xs = false := by
    clear r hs hz
    induction xs with
    | nil => rfl
    | cons x r ih =>
      have e : x.hasDict = false := by
        rcases sc x (List.mem_cons_self ..) with ⟨i, rfl⟩ | ⟨y, rfl⟩ <;> rfl
      simp only [PyData.hasDictAll, e, ih fun z hz => sc z (List.mem_cons_of_mem _ hz), Bool.or_self]
  have dz : PyData.depthAll xs = 0 := by
    clear r hs hz nd
    induction xs with
    | nil => rfl
    | cons x r ih =>
      have e : x.depth = 0 := by
        rcases sc x (List.mem_cons_self ..) with ⟨i, rfl⟩ | ⟨y, rfl⟩ <;> rfl
      simp only [PyData.depthAll, e, ih fun z hz => sc z (List.mem_cons_of_mem _ hz), Nat.max_self]
  obtain ⟨bs, hb, k⟩ := ReprAllK.of_readsAll (prog := P) (w := w) r hs (fun z => by rw [nd] at z; cases z) hz
  have : bs = [] := by
    cases bs with
    | nil => rfl
    | cons b bs =>
      obtain ⟨d, as, rd, z⟩ := hb b (List.mem_cons_self ..)
      rw [dz] at z
      cases rd <;> simp [PyData.depth] at z
  rw [this] at k
  exact k
mutual
theorem dq_repr {P : Program} {w : World} {K : PySem.W.Frag} {H : Hp} {h : Heap} (hok : HOk P w H h) : ∀ {v : V} {x : PyData}, Dq K H v x → x.showable = true → x.shown.length ≤ sizeLine → ∀ {u : Value}, RelV v u → ∃ bs, ReadAtMost h x.depth bs ∧ ReprK P w bs h x.depth u x.shown
  | _, _, .non, _, _, _, r => by cases r; exact ⟨[], (fun _ h => nomatch h), by simp only [PyData.shown]; exact .of_is ReprIs.none _ _ _⟩
  | _, _, .bl b, _, _, _, r => by cases r; exact ⟨[], (fun _ h => nomatch h), by simp only [PyData.shown]; exact .of_is (ReprIs.bool b) _ _ _⟩
  | _, _, .int i, hs, _, _, r => by obtain ⟨t, rfl⟩ := r; exact ⟨[], (fun _ h => nomatch h), by simp only [PyData.shown]; exact .of_is (ReprIs.int t (by simpa [PyData.showable] using hs)) _ _ _⟩
  | _, _, .str x, _, hz, _, r => by obtain ⟨t, rfl⟩ := r; exact ⟨[], (fun _ h => nomatch h), by simp only [PyData.shown]; exact .of_is (ReprIs.str x t (by simpa only [PyData.shown] using hz)) _ _ _⟩
  | _, _, .lst (a := a) (ds := ds) hl ha, hs, hz, _, r => by
    cases r
    have hz' : (listText (PyData.shownAll ds)).length ≤ sizeLine := by simpa only [PyData.shown] using hz
    obtain ⟨_, its, n, rv, ho⟩ := hok _ _ hl
    obtain ⟨bs, hb, k⟩ := dqs_repr hok ha (by simpa [PyData.showable] using hs) (fun t ht => Nat.le_trans (listText_mem_le ht) hz') rv
    obtain ⟨as, q⟩ := dqs_reads hok ha (by simpa [PyData.showable] using hs) rv
    have rd : Reads h (.ref a) (.list ds) _ := .list ho rfl rfl q
    have na : a ∉ bs := not_mem_of_deeper rd (by simp only [PyData.depth]; omega) hb
    refine ⟨a :: bs, ReadAtMost.cons rd (by simp only [PyData.depth]; omega) hb, ?_⟩
    simp only [PyData.depth, PyData.shown]
    cases its with
    | nil =>
      cases rv; cases ha
      simp only [PyData.shownAll, listText_nil]
      exact ReprK.listEmpty ho rfl rfl
    | cons x l => exact ReprK.list ho rfl rfl na (by simpa using k.length_eq) (fun i y e => k.item i y (by simpa using e))
  | _, _, .tup (a := a) (ds := ds) hl ha, hs, hz, _, r => by
    cases r
    have hz' : (tupleText (PyData.shownAll ds)).length ≤ sizeLine := by simpa only [PyData.shown] using hz
    obtain ⟨_, its, rv, o, ho, hc, n, hd⟩ := hok _ _ hl
    obtain ⟨bs, hb, k⟩ := dqs_repr hok ha (by simpa [PyData.showable] using hs) (fun t ht => Nat.le_trans (tupleText_mem_le ht) hz') rv
    obtain ⟨as, q⟩ := dqs_reads hok ha (by simpa [PyData.showable] using hs) rv
    have rd : Reads h (.ref a) (.tuple ds) _ := .tuple ho hc hd q
    have na : a ∉ bs := not_mem_of_deeper rd (by simp only [PyData.depth]; omega) hb
    refine ⟨a :: bs, ReadAtMost.cons rd (by simp only [PyData.depth]; omega) hb, ?_⟩
    simp only [PyData.depth, PyData.shown]
    exact ReprK.tuple ho hc hd na k
  | _, _, .dct (a := a) (kvs := kvs) (ds := ds) hl ha, hs, hz, _, r => by
    cases r
    have z := dct_len ha
    have hz' : (dictText (PyData.shownKv ((kvs.map fun p => kD p.1).zip ds))).length ≤ sizeLine := by simpa only [PyData.shown] using hz
    obtain ⟨_, sm, vs, rk, o, es, ep, ho, hx, hd, _, hp, _⟩ := hok _ _ hl
    obtain ⟨hs1, hs2⟩ := PyData.showableKv_split _ (by simpa [PyData.showable] using hs)
    have e1 := PyData.depthAll_keys_le ((kvs.map fun p => kD p.1).zip ds)
    have e2 := PyData.depthAll_vals_le ((kvs.map fun p => kD p.1).zip ds)
    have y1 : ∀ t ∈ PyData.shownAll (kvs.map fun p => kD p.1), t.length ≤ sizeLine := fun t ht => by
      obtain ⟨p, hp, hl⟩ := PyData.shownKv_key_le ((kvs.map fun p => kD p.1).zip ds) t (by rw [zip_fst z]; exact ht)
      exact Nat.le_trans hl (Nat.le_trans (dictText_mem_le hp) hz')
    have y2 : ∀ t ∈ PyData.shownAll ds, t.length ≤ sizeLine := fun t ht => by
      obtain ⟨p, hp, hl⟩ := PyData.shownKv_val_le ((kvs.map fun p => kD p.1).zip ds) t (by rw [zip_snd z]; exact ht)
      exact Nat.le_trans hl (Nat.le_trans (dictText_mem_le hp) hz')
    rw [zip_fst z] at hs1 e1
    rw [zip_snd z] at hs2 e2
    have rv := vals_entries rk hp
    have k1 := keys_repr (P := P) (w := w) (keys_reads (h := h) rk hp) (fun x hx => by
      obtain ⟨p, _, rfl⟩ := List.mem_map.mp hx
      cases p.1 with
      | inl i => exact .inl ⟨i, rfl⟩
      | inr y => exact .inr ⟨y, rfl⟩) hs1 y1
    obtain ⟨bs, hb, k2⟩ := dqs_repr hok ha hs2 y2 rv
    obtain ⟨as, q⟩ := dqs_reads hok ha hs2 rv
    have rd : Reads h (.ref a) (.dict ((kvs.map fun p => kD p.1).zip ds)) _ := .dict ho hx.1 hd (by rw [zip_fst z]; exact keys_reads rk hp) (by rw [zip_snd z]; exact q)
    have na : a ∉ bs := not_mem_of_deeper rd (by simp only [PyData.depth]; omega) (hb.mono e2)
    refine ⟨a :: bs, ReadAtMost.cons rd (by simp only [PyData.depth]; omega) (hb.mono e2), ?_⟩
    simp only [PyData.depth, PyData.shown, PyData.shownKv_eq]
    rw [zip_fst z, zip_snd z]
    exact ReprK.dict ho hx.1 hd sm na (ReprEntriesK.of_two es.toList _ _ (k1.more_le (fun _ hb => by simp at hb) e1) (k2.more_le (fun _ hb => hb) e2))
theorem dqs_repr {P : Program} {w : World} {K : PySem.W.Frag} {H : Hp} {h : Heap} (hok : HOk P w H h) : ∀ {v : List V} {x : List PyData}, DqAll K H v x → PyData.showableAll x = true → (∀ t ∈ PyData.shownAll x, t.length ≤ sizeLine) → ∀ {u : List Value}, Vals v u → ∃ bs, ReadAtMost h (PyData.depthAll x) bs ∧ ReprAllK P w bs h (PyData.depthAll x) u (PyData.shownAll x)
  | _, _, .nil, _, _, _, r => by cases r; exact ⟨[], (fun _ h => nomatch h), by simp only [PyData.shownAll]; exact .nil⟩
  | _, _, .cons d ds, hs, hz, _, r => by
    cases r with
    | cons r rs =>
      simp only [PyData.showableAll, Bool.and_eq_true] at hs
      obtain ⟨bs, h1, k1⟩ := dq_repr hok d hs.1 (hz _ (by simp only [PyData.shownAll]; exact List.mem_cons_self ..)) r
      obtain ⟨cs, h2, k2⟩ := dqs_repr hok ds hs.2 (fun t ht => hz t (by simp only [PyData.shownAll]; exact List.mem_cons_of_mem _ ht)) rs
      refine ⟨bs ++ cs, ?_, ?_⟩
      · simp only [PyData.depthAll]; exact rat_app h1 h2
      · simp only [PyData.depthAll, PyData.shownAll]; exact rak_app k1 k2
end
/-- repr(x) -/
def rRepr (K : PySem.W.Frag) : List V → Hp → VK → Prop := fun vs H Q => ∃ (v : V) (x : PyData), vs = [v] ∧ Dq K H v x ∧ x.showable = true ∧ x.depth ≤ 60 ∧ x.shown.length ≤ sizeLine ∧ Q (.str x.shown) H
theorem call_repr {X : Cx} (hg : X.A.guards = some []) (hu : X.A.units + 64 < cLine) : CallR X (.builtin "repr") (rRepr X.K) := by
  intro pins s σ H xs us Q I r h
  obtain ⟨v, x, rfl, d, hs, hd, hz, q⟩ := h
  cases r with
  | cons r1 r2 =>
    cases r2
    cases d with
    | non => cases r1; exact PySem.P.repr_of_none ⟨.str _, H, I.tok _, ⟨_, rfl⟩, q⟩
    | bl b => cases r1; exact PySem.P.repr_of_bool ⟨.str _, H, I.tok _, ⟨_, rfl⟩, q⟩
    | int i => obtain ⟨t, rfl⟩ := r1; exact PySem.P.repr_of_int (by simpa only [PyData.showable, decide_eq_true_eq] using hs) ⟨.str _, H, I.tok _, ⟨_, rfl⟩, q⟩
    | str y => obtain ⟨t, rfl⟩ := r1; exact PySem.P.repr_of_str ⟨.str _, H, I.tok _, ⟨_, rfl⟩, q⟩ hz
    | @lst a us ds h1 h2 =>
      cases r1
      simp only [PyData.depth] at hd
      have hz' : (listText (PyData.shownAll ds)).length ≤ sizeLine := by simpa only [PyData.shown] using hz
      simp only [PyData.shown] at q
      obtain ⟨_, its, n, rv, ho⟩ := I.hok _ _ h1
      obtain ⟨bs, hb, k⟩ := dqs_repr I.hok h2 (by simpa [PyData.showable] using hs) (fun t ht => Nat.le_trans (listText_mem_le ht) hz') rv
      obtain ⟨as, rd⟩ := dqs_reads I.hok h2 (by simpa [PyData.showable] using hs) rv
      have na : a ∉ bs := not_mem_of_deeper (.list ho rfl rfl rd) (by simp only [PyData.depth]; omega) hb
      refine call_repr_slot (by omega) ⟨_, ho, rfl⟩ F.slot_list_repr.toG ?_
      cases its with
      | nil =>
        cases rv; cases h2
        simp only [PyData.shownAll, listText_nil] at q
        exact call_list_repr_empty ⟨_, ho, rfl⟩ ho rfl ⟨_, _, rfl, .str _, H, I.tok _, ⟨_, rfl⟩, q⟩
      | cons x l => exact call_list_reprK ho rfl rfl na (by simpa using k.length_eq) (fun i y e => k.item i y (by simpa using e)) (A := X.A.in1) hg (fun b _ => Clear.nil b) (by show X.A.units + 1 + _ < cLine; omega) (fun _ _ e => e) (fun h' u tk hk => ⟨_, _, rfl, .str _, H, I.kept hk, ⟨_, rfl⟩, q⟩) hz'
    | @tup a us ds h1 h2 =>
      cases r1
      simp only [PyData.depth] at hd
      have hz' : (tupleText (PyData.shownAll ds)).length ≤ sizeLine := by simpa only [PyData.shown] using hz
      simp only [PyData.shown] at q
      obtain ⟨_, its, rv, o, ho, hc, n, hdt⟩ := I.hok _ _ h1
      obtain ⟨bs, hb, k⟩ := dqs_repr I.hok h2 (by simpa [PyData.showable] using hs) (fun t ht => Nat.le_trans (tupleText_mem_le ht) hz') rv
      obtain ⟨as, rd⟩ := dqs_reads I.hok h2 (by simpa [PyData.showable] using hs) rv
      have na : a ∉ bs := not_mem_of_deeper (.tuple ho hc hdt rd) (by simp only [PyData.depth]; omega) hb
      refine call_repr_slot (by omega) ⟨_, ho, hc⟩ F.slot_tuple_repr ?_
      exact call_tuple_reprK ho hc hdt na k (A := X.A.in1) hg (fun b _ => Clear.nil b) (by show X.A.units + 1 + _ < cLine; omega) (fun _ _ e => e) (fun h' u tk hk => ⟨_, _, rfl, .str _, H, I.kept hk, ⟨_, rfl⟩, q⟩) hz'
    | @dct a kvs ds h1 h2 =>
      cases r1
      simp only [PyData.depth] at hd
      have z := dct_len h2
      have hz' : (dictText (PyData.shownKv ((kvs.map fun p => kD p.1).zip ds))).length ≤ sizeLine := by simpa only [PyData.shown] using hz
      have q' := q
      simp only [PyData.shown, PyData.shownKv_eq] at q'
      rw [zip_fst z, zip_snd z] at q'
      obtain ⟨_, sm, vs, rk, o, es, ep, ho, hx, hdt, _, hp, _⟩ := I.hok _ _ h1
      obtain ⟨hs1, hs2⟩ := PyData.showableKv_split _ (by simpa [PyData.showable] using hs)
      have e1 := PyData.depthAll_keys_le ((kvs.map fun p => kD p.1).zip ds)
      have e2 := PyData.depthAll_vals_le ((kvs.map fun p => kD p.1).zip ds)
      have y1 : ∀ t ∈ PyData.shownAll (kvs.map fun p => kD p.1), t.length ≤ sizeLine := fun t ht => by
        obtain ⟨p, hp, hl⟩ := PyData.shownKv_key_le ((kvs.map fun p => kD p.1).zip ds) t (by rw [zip_fst z]; exact ht)
        exact Nat.le_trans hl (Nat.le_trans (dictText_mem_le hp) hz')
      have y2 : ∀ t ∈ PyData.shownAll ds, t.length ≤ sizeLine := fun t ht => by
        obtain ⟨p, hp, hl⟩ := PyData.shownKv_val_le ((kvs.map fun p => kD p.1).zip ds) t (by rw [zip_snd z]; exact ht)
        exact Nat.le_trans hl (Nat.le_trans (dictText_mem_le hp) hz')
      rw [zip_fst z] at hs1 e1
      rw [zip_snd z] at hs2 e2
      have rv := vals_entries rk hp
      have k1 := keys_repr (P := X.prog) (w := X.w) (keys_reads (h := s.heap) rk hp) (fun x hx => by
        obtain ⟨p, _, rfl⟩ := List.mem_map.mp hx
        cases p.1 with
        | inl i => exact .inl ⟨i, rfl⟩
        | inr y => exact .inr ⟨y, rfl⟩) hs1 y1
      obtain ⟨bs, hb, k2⟩ := dqs_repr I.hok h2 hs2 y2 rv
      obtain ⟨as, rd0⟩ := dqs_reads I.hok h2 hs2 rv
      have rd : Reads s.heap (.ref a) (.dict ((kvs.map fun p => kD p.1).zip ds)) _ := .dict ho hx.1 hdt (by rw [zip_fst z]; exact keys_reads rk hp) (by rw [zip_snd z]; exact rd0)
      have na : a ∉ bs := not_mem_of_deeper rd (by simp only [PyData.depth]; omega) (hb.mono e2)
      refine call_repr_slot (by omega) ⟨_, ho, hx.1⟩ F.slot_dict_repr ?_
      exact call_dict_reprK ho hx.1 hdt sm na (ReprEntriesK.of_two es.toList _ _ (k1.more_le (fun _ hb => by simp at hb) e1) (k2.more_le (fun _ hb => hb) e2)) (A := X.A.in1) hg (fun b _ => Clear.nil b) (by show X.A.units + 1 + _ < cLine; omega) (fun _ _ e => e)
        (fun h' u tk hk => ⟨_, _, rfl, .str _, H, I.kept hk, ⟨_, rfl⟩, q'⟩) (by have w := hz'; rw [PyData.shownKv_eq, zip_fst z, zip_snd z] at w; exact w)
structure FnG (P : Program) (w : World) (K : PySem.W.Frag) (mg : Str → Option Value) (base : Heap) (CX : CXT) (k : Nat) (f : Addr) (fd : FuncData) (ps : List Str) (sp : Sp) : Prop where
  len : ∀ vs H Q E, sp vs H Q E → vs.length = ps.length
  run : ∀ (A : Around) (outer : List Env) (s : Shared) (H : Hp) (args : Args) (us : List Value) (vs : List V) (Q : VK) (E : XK), Room k A → A.guards = some [] → Env0 P w K mg base A outer s H → BindsTo s fd args (ps.zip us) → Vals vs us → sp vs H Q E →
    codeAny (model P w) A (.call (.ref f) args) (CR CX outer P w H s Q E) s
theorem FnOk.g {P : Program} {w : World} {K : PySem.W.Frag} {mg : Str → Option Value} {base : Heap} {CX : CXT} {k : Nat} {f : Addr} {fd : FuncData} {ps : List Str} {sp : Sp} (F : FnOk P w K mg base CX k f fd ps sp) : FnG P w K mg base CX k f fd ps sp :=
  ⟨F.len, fun A outer s H args us vs Q E hr _ => F.run A outer s H args us vs Q E hr⟩
theorem FnG.mono {P : Program} {w : World} {K : PySem.W.Frag} {mg : Str → Option Value} {base : Heap} {CX : CXT} {j k : Nat} {f : Addr} {fd : FuncData} {ps : List Str} {sp : Sp} (F : FnG P w K mg base CX j f fd ps sp) (h : j ≤ k) : FnG P w K mg base CX k f fd ps sp :=
  ⟨F.len, fun A outer s H args us vs Q E hr => F.run A outer s H args us vs Q E (hr.mono h)⟩
theorem fn_ofG {CX : CXT} {P : Program} {w : World} {K : PySem.W.Frag} {mg : Str → Option Value} {base : Heap} {k : Nat} {f : Addr} {name qual : Str} {params : Arguments} {body : List Stmt} {scope : Scope} {dV kV doc pm cdv ct oc : Value} {an od : Option Addr}
    {osl : Array (Option Value)} {N ps : List Str} {sp : Sp} (lk : K.lookup f = some ⟨oc, od, .func (PySem.W.fnOf name qual params body scope dV kV doc pm an cdv ct), osl⟩) (hcd : PySem.W.codeIn K cdv qual = true) (S : FnScope N ps scope)
    (len : ∀ vs H Q E, sp vs H Q E → vs.length = ps.length)
    (hbody : ∀ (A : Around) (outer : List Env) (s : Shared) (H : Hp) (vs : List V) (Q : VK) (E : XK), Room k (A.deeper (envOfC qual scope s.heap.objs.size f cdv)) → (A.deeper (envOfC qual scope s.heap.objs.size f cdv)).guards = some [] → sp vs H Q E →
      ∃ t, PSs (cxOf CX P w K mg base N qual scope f cdv A outer s H E) body t ∧ t { nx := fun _ H' => Q .non H', rt := Q } (start N vs) H) :
    FnG P w K mg base CX (k + 1) f (PySem.W.fnOf name qual params body scope dV kV doc pm an cdv ct) ps sp where
  len := len
  run A outer s H args us vs Q E hr hg e0 hb r hsp := by
    have inH : K.In s.heap := e0.mod.kin.keeps fun b o e => (e0.bs b o e).1
    have done : ∀ (fl : Flow) (s' : Shared), (∀ σ' H' v u, Inv (cxOf CX P w K mg base N qual scope f cdv A outer s H E) [] σ' H' s' → RelV v u → Q v H' → CE outer P w H s Q u s') := fun fl s' σ' H' v u J rv q => ⟨v, H', J.os, J.bare, J.base, J.hok, rv, q⟩
    refine codeAny_call_function hr.depth (inH _ _ lk) rfl S.co S.gen rfl (PySem.W.codeRec_of inH hcd) (hb _ _ _ _ ?_)
    refine wpAny_newFunctionEnv_cells S.kind (fun y hy => ?_) fun env he s1 x => ?_
    · rcases S.par y.1 (List.of_mem_zip hy).1 with q | q
      · exact .inl q
      · exact .inr ⟨q, PySem.W.cellsFrom_some _ _ _ (.inl q)⟩
    · subst he
      obtain ⟨t, ht, hq⟩ := hbody A outer s H vs Q E (hr.deeper _) hg hsp
      refine ⟨(e0.mod.nolimit.keeps fun b o e => (e0.bs b o e).1).keeps x.toInCall.keep, codeAny_func ?_⟩
      refine wpAny_mono (ht.run [] s1 (start N vs) H _ (inv_start S hr.hd e0 (len _ _ _ _ hsp) r x) hq) (fun fl s' hs => ?_) fun e s' hs => hs
      cases fl with
      | ret u => obtain ⟨v, σ', H', J, rv, q⟩ := hs; exact done .next s' _ _ _ _ J rv q
      | next => obtain ⟨σ', H', J, q⟩ := hs; exact done .next s' _ _ .non _ J rfl q
      | brk => obtain ⟨_, _, _, q⟩ := hs; exact q.elim
      | cont => obtain ⟨_, _, _, q⟩ := hs; exact q.elim
end DL
namespace DL
open PySem PySem.Spec PyProof.Rows L2 Evl
section
variable {P : Program} {w : World} {K : PySem.W.Frag} {mg mb : Str → Option Value} {CX : CXT} {k : Nat} {fa a : Addr} {fd : FuncData} {x : Str} {sp : Sp} {s₁ : Shared} {vs : List Value} {ns : List Int}
/-- the law's call over a heap in which at most frozen lists are tracked -/
theorem law_atG {H : Hp} (KX : K.In s₁.heap) (hns : s₁.heap.Ns mainGlobals mg) (hb : s₁.heap.Ns builtinsNs mb) (hbb : ∀ x : Str, x ≠ "__name__" → mb x = bootBuiltins x) (hlim : s₁.heap.NoLimit) (hg : s₁.gens = #[]) (hr : Room k callerA)
    (F : ∀ base : Heap, K.In base → base.Ns mainGlobals mg → FnG P w K mg base CX k fa fd [x] sp) (hbind : ∀ (s : Shared) (u : Value), BindsTo s fd ⟨[u], []⟩ [(x, u)])
    (hsp : sp [.ref a] H (fun v _ => v = .bl true) fun _ _ _ => False) (hCX : ∀ e s', CX [] H s₁ (fun _ _ _ => False) e s' → False) (hok : HOk P w H s₁.heap)
    (fr : ∀ b u, H b = some u → ∃ (o : Obj) (xs : List V), u = .frz o (.lst xs) ∧ (∀ es ep, o.data ≠ .dict es ep) ∧ K.lookup b = none) :
    codeAny (model P w) callerA (.call (.ref fa) ⟨[.ref a], []⟩) (fun r s' => r = .ok (.ret (.bool true)) ∧ OldK s₁.heap s'.heap ∧ s'.os = s₁.os ∧ AllBare s'.gens) s₁ := by
  have ns1 : ∀ {b : Addr} {m : Str → Option Value}, s₁.heap.Ns b m → (hidT s₁.heap H).Ns b m := fun {b m} ⟨o, es, ep, e, d, r⟩ => ⟨o, es, ep, hidT_get e (by
    cases q : H b with
    | none => rfl
    | some u =>
      obtain ⟨o', xs, rfl, nd, _⟩ := fr b u q
      have e' := (hok b _ q).1
      rw [e] at e'; cases e'
      exact absurd d (nd es ep)), d, r⟩
  have inK : K.In (hidT s₁.heap H) := fun b o e => hidT_get (KX b o e) (by
    cases q : H b with
    | none => rfl
    | some u =>
      obtain ⟨_, _, _, _, z⟩ := fr b u q
      rw [e] at z; cases z)
  have mod : Mod K mg (hidT s₁.heap H) := ⟨inK, ns1 hns, ⟨mb, ns1 hb, hbb⟩, let ⟨mc, h1, h2⟩ := hlim; ⟨mc, ns1 h1, h2⟩⟩
  have e0 : Env0 P w K mg (hidT s₁.heap H) callerA [] s₁ H := ⟨rfl, mod, fun b o e => of_hidT e, Nat.le_of_eq (hidT_size _ _), trivial, fun b hb => (nomatch hb), hok, .of_eq hg⟩
  refine codeAny_mono ((F _ inK (ns1 hns)).run callerA [] s₁ H ⟨[.ref a], []⟩ [.ref a] [.ref a] _ _ hr rfl e0 (hbind s₁ (.ref a)) (.cons rfl .nil) hsp) fun r s' h => ?_
  match r, h with
  | .error e, h => exact (hCX e s' h).elim
  | .ok (.ret u), h =>
    obtain ⟨v, H', os, bare, un, hok', r', rfl⟩ := h
    cases r'
    refine ⟨rfl, OldK.of_keep fun b o e => ?_, os, bare⟩
    cases q : H b with
    | none => exact un.keep b o e q (fun z => nomatch z) (fun z => nomatch z)
    | some u =>
      obtain ⟨o', xs, rfl, _⟩ := fr b u q
      have e1 := (hok b _ q).1
      rw [e] at e1; cases e1
      exact (hok' b _ (un.frzs b _ _ q)).1
theorem law_callG (KX : K.In s₁.heap) (hns : s₁.heap.Ns mainGlobals mg) (hb : s₁.heap.Ns builtinsNs mb) (hbb : ∀ x : Str, x ≠ "__name__" → mb x = bootBuiltins x) (hlim : s₁.heap.NoLimit) (hg : s₁.gens = #[])
    (ha : s₁.heap.get? a = some { cls := .type "list", data := .seq vs.toArray }) (hi : IntsAre vs ns) (hl : ns.length ≤ sizeLine) (hr : Room k callerA)
    (F : ∀ base : Heap, K.In base → base.Ns mainGlobals mg → FnG P w K mg base CX k fa fd [x] sp) (hbind : ∀ (s : Shared) (u : Value), BindsTo s fd ⟨[u], []⟩ [(x, u)])
    (hsp : ∀ H : Hp, SqL K H a (ns.map V.int) → sp [.ref a] H (fun v _ => v = .bl true) fun _ _ _ => False) (hCX : ∀ H e s', CX [] H s₁ (fun _ _ _ => False) e s' → False) :
    codeAny (model P w) callerA (.call (.ref fa) ⟨[.ref a], []⟩) (fun r s' => r = .ok (.ret (.bool true)) ∧ OldK s₁.heap s'.heap ∧ s'.os = s₁.os ∧ AllBare s'.gens) s₁ := by
  have rv := vals_ints hi
  by_cases hk : ∃ o, K.lookup a = some o
  · obtain ⟨o, hk⟩ := hk
    have e := KX a o hk
    rw [ha] at e; cases e
    exact law_atG (H := fun _ => none) KX hns hb hbb hlim hg hr F hbind
      (hsp _ (.inr ⟨_, vs.toArray, _, hk, rfl, rfl, rfl, by rw [List.size_toArray, hi.length]; exact hl, by simpa using rv⟩)) (hCX _) (fun _ _ z => nomatch z) (fun _ _ z => nomatch z)
  · have hk : K.lookup a = none := by
      cases q : K.lookup a with
      | none => rfl
      | some o => exact absurd ⟨o, q⟩ hk
    have at_ : ∀ {b : Addr} {u : HO}, (fun c : Addr => if c = a then some (HO.frz { cls := .type "list", data := .seq vs.toArray } (.lst (ns.map V.int))) else none) b = some u → b = a ∧ u = .frz { cls := .type "list", data := .seq vs.toArray } (.lst (ns.map V.int)) := fun {b u} z => by
      by_cases hb : b = a
      · exact ⟨hb, (Option.some.inj ((if_pos hb).symm.trans z)).symm⟩
      · have z' := (if_neg hb).symm.trans z
        cases z'
    refine law_atG (H := fun c => if c = a then some (.frz { cls := .type "list", data := .seq vs.toArray } (.lst (ns.map V.int))) else none) KX hns hb hbb hlim hg hr F hbind
      (hsp _ (.inl (.inr ⟨{ cls := .type "list", data := .seq vs.toArray }, if_pos rfl⟩))) (hCX _) (fun b u z => ?_) (fun b u z => ?_)
    · obtain ⟨rfl, rfl⟩ := at_ z
      exact ⟨ha, by rw [List.length_map]; exact hl, vs, _, rv, ha⟩
    · obtain ⟨rfl, rfl⟩ := at_ z
      refine ⟨_, _, rfl, fun es ep d => ?_, hk⟩
      have d' : Data.seq vs.toArray _ = Data.dict es ep := d
      cases d'
end
/-- the end of a law whose def promises where no repr is under way -/
theorem walk_ofG {l : PySem.W.OpenLaw} {n k : Nat} {q : Program} {loose : List Str} {XP : (Str → Option Value) → Heap → Prop} {YP : World → Heap → Prop} {d : DefRec} {K : Params → PySem.W.Frag} {CX : World → CXT} {sp : World → Sp} {x : Str}
    (hn : l.most = some n) (hn2 : n ≤ sizeLine) (hdf : d.params.defaults = []) (hr : Room k callerA) (hY : ∀ (w : World) (h : Heap), YP w h → (K w.params).In h)
    (F : ∀ (w : World) (mg : Str → Option Value) (fa : Addr) (h : Heap), (K w.params).In h → h.Ns mainGlobals mg → mg d.name = some (.ref fa) →
      ∃ fd : FuncData, (∀ (s : Shared) (u : Value), BindsTo s fd ⟨[u], []⟩ [(x, u)]) ∧ ∀ base : Heap, (K w.params).In base → base.Ns mainGlobals mg → FnG l.prog w (K w.params) mg base (CX w) k fa fd [x] (sp w))
    (hsp : ∀ (w : World) (H : Hp) (a : Addr) (ns : List Int), ns.length ≤ n → SqL (K w.params) H a (ns.map V.int) → sp w [.ref a] H (fun v _ => v = .bl true) fun _ _ _ => False)
    (hCX : ∀ (w : World) (H : Hp) (s : Shared) (e : Value) (s' : Shared), CX w [] H s (fun _ _ _ => False) e s' → False) :
    PySem.W.WalkO q loose XP YP l.row.toRowW d [] (fun f vs => PySem.call f vs) := by
  refine Att.attach_call hn hdf fun w s₀ s₁ mg mb fa o pm cd doc a vs ns G Y ho hd hcd hmg hobj hints hlen hg => ?_
  obtain ⟨fd, hb, hF⟩ := F w mg fa _ (hY w _ Y) G.T.g hmg
  exact law_callG (hY w _ Y) G.T.g G.T.b G.T.builtins G.T.nolimit hg hobj hints (Nat.le_trans hlen hn2) hr hF hb (fun H hS => hsp w H a ns hlen hS) fun H e s' => hCX w H s₁ e s'
end DL
namespace DL
open PySem PySem.Spec PyProof.Rows L2 Evl
def pr2 (s : Int × Int) : PyData := .tuple [.int s.1, .int s.2]
/-- the pair at a place -/
def kOf (H : Hp) : V → Int × Int
  | .ref t => match H t with
    | some (.tup [.int a, .int b]) => (a, b)
    | _ => (0, 0)
  | _ => (0, 0)
theorem kOf_at {H : Hp} {t : Addr} {a b : Int} (h : H t = some (.tup [.int a, .int b])) : kOf H (.ref t) = (a, b) := by
  unfold kOf
  simp only [h]
theorem dq_pr2 {K : PySem.W.Frag} {H : Hp} {v : V} {s : Int × Int} (h : Dq K H v (pr2 s)) : ∃ t, v = .ref t ∧ H t = some (.tup [.int s.1, .int s.2]) := by
  cases h with
  | tup h1 h2 =>
    cases h2 with
    | cons a r =>
      cases a
      cases r with
      | cons b r =>
        cases b; cases r
        exact ⟨_, rfl, h1⟩
theorem dqs_pr2 {K : PySem.W.Frag} {H : Hp} : ∀ {l : List (Int × Int)} {xs : List V}, DqAll K H xs (l.map pr2) → l = xs.map (kOf H) ∧ ∀ x ∈ xs, ∃ t, x = .ref t ∧ H t = some (.tup [.int (kOf H x).1, .int (kOf H x).2])
  | [], _, .nil => ⟨rfl, fun x h => nomatch h⟩
  | s :: l, _, .cons d r => by
    obtain ⟨t, rfl, h⟩ := dq_pr2 d
    obtain ⟨e, q⟩ := dqs_pr2 r
    have ek := kOf_at h
    refine ⟨by rw [List.map_cons, ek, ← e], fun x hx => ?_⟩
    rcases List.mem_cons.mp hx with rfl | hx
    · exact ⟨t, rfl, by rw [ek]; exact h⟩
    · exact q x hx
theorem dqs_kOf {K : PySem.W.Frag} {B H : Hp} : ∀ {ys : List V}, (∀ y ∈ ys, ∃ t, y = .ref t ∧ B t = some (.tup [.int (kOf H y).1, .int (kOf H y).2])) → DqAll K B ys ((ys.map (kOf H)).map pr2)
  | [], _ => .nil
  | y :: ys, h => by
    obtain ⟨t, rfl, e⟩ := h y (List.mem_cons_self ..)
    exact .cons (.tup e (.cons (.int _) (.cons (.int _) .nil))) (dqs_kOf fun z hz => h z (List.mem_cons_of_mem _ hz))
section
variable {F : Fr} {G : List Sl} {κ : Kp} {te : TE} {α : Kps}
theorem eo_sort2 (h : EK F G te fun x G1 => ∃ l : List (Int × Int), x = .list (l.map pr2) ∧ ∀ m : List (Int × Int), m.Perm l → (m.Pairwise fun x y => SrtO.lexB y x = false) → α (m.map pr2) G1) : EO F G (tCB (rSortedPO F.K) (tCons te tNil)) α := fun σ H S Q q => by
  refine h σ H S _ fun v H1 x G1 ⟨l, ex, k⟩ S1 e1 d1 => ?_
  subst ex
  cases d1 with
  | @lst a xs _ ha hd =>
    have lo : ∀ {b o}, low F G1 H1 b = some o → H1 b = some o := fun {b o} e => low_ex b o e
    obtain ⟨el, q1⟩ := dqs_pr2 (dps_mono low_ex hd)
    refine ⟨a, xs, kOf H1, rfl, .inl (.inl (lo ha)), q1, fun ys p hs hst hp => ?_⟩
    have e : Ex H1 (del p (upd H1 p (.lst ys))) := ex_del (upd_ex hp) hp
    obtain ⟨ey, q2⟩ := dqs_pr2 (l := l) (H := low F G1 H1) hd
    have pm := hst.perm
    have dl : DqAll F.K (low F G1 H1) ys ((ys.map (kOf H1)).map pr2) := by
      refine dqs_kOf fun y hy => ?_
      obtain ⟨t, rfl, z⟩ := q2 y (pm.mem_iff.mp hy)
      refine ⟨t, rfl, ?_⟩
      have z1 := lo z
      have z2 := kOf_at z1
      rw [z2]
      exact z
    refine q p ys _ _ G1 (k (ys.map (kOf H1)) ?_ ?_) (S1.ex e) (e1.trans (low_mono e)) upd_same (dps_mono (low_mono e) dl)
    · rw [el]; exact pm.map _
    · rw [List.pairwise_map]; exact hs
end
end DL
namespace DL
open PySem PySem.Spec PyProof.Rows L2 Evl
section
variable {F : Fr} {G : List Sl} {κ : Kp} {te : TE} {α : Kps}
theorem ek_dnew (k : κ (.dict []) G) : EK F G tDNewK κ := fun σ H S Q q p hp =>
  q _ _ _ G k (S.ex (upd_ex hp)) (low_mono (upd_ex hp)) (.dct (kvs := []) (low_new S hp) .nil)
/-- own list != .. -/
theorem ek_neO {tb : TE} {i : Nat} {p : Addr} {xs : List PyData} (hi : G[i]? = some (.own p xs)) (h : EK F G tb fun y G2 => ∃ ds, G2[i]? = some (.own p ds) ∧ SeqAt.shaped (.list ds) = true ∧ SeqAt.shaped y = true ∧ κ (.bool (!PyData.eqv (.list ds) y)) G2) :
    EK F G (tOp (rNeD F.K) (tVar i) tb) κ := fun σ H S Q q => by
  refine ⟨.ref p, (S.ownd hi).1, h σ H S _ fun u H1 y G1 ⟨ds, g1, hx, hy, k⟩ S1 e1 du => ?_⟩
  obtain ⟨_, vs, hp, hd⟩ := S1.ownd g1
  exact ⟨.list ds, y, dq_dp (.lst hp (dps_mono low_ex hd)) (nod_of hx), dq_dp (dp_mono low_ex du) (nod_of hy), hx, hy, q _ H1 _ G1 k S1 e1 (.bl _)⟩
end
end DL
namespace DL
open PySem PySem.Spec PyProof.Rows L2 Evl
theorem prevL' {X : Cx} {K : PySem.W.Frag} (h0 : X.K = K) {e : Expr} {te : TE} {k : Nat} {p1 p2 p3 pos : Pos} (he : PE X e te) : PE X (.Subscript e (.Slice none none (some (.UnaryOp .USub (.Constant (.int 1) k p1) p2)) p3) pos) (tRevL K te) := by subst h0; exact pe_revL he
theorem callR' {X : Cx} {K : PySem.W.Frag} (h0 : X.K = K) (hg : X.A.guards = some []) (hu : X.A.units + 64 < cLine) : CallR X (.builtin "repr") (rRepr K) := by subst h0; exact call_repr hg hu
theorem dps_rev {K : PySem.W.Frag} {H : Hp} : ∀ {v : List V} {d : List PyData}, DqAll K H v d → DqAll K H v.reverse d.reverse
  | _, _, .nil => .nil
  | _, _, .cons h t => by rw [List.reverse_cons, List.reverse_cons]; exact dps_append (dps_rev t) (.cons h .nil)
section
variable {F : Fr} {G : List Sl} {κ : Kp} {te : TE} {α : Kps}
theorem eo_revL (h : EK F G te fun x G1 => ∃ ds, x = .list ds ∧ α ds.reverse G1) : EO F G (tRevL F.K te) α := fun σ H S Q q =>
  h σ H S _ fun v H1 x G1 ⟨ds, ex, k⟩ S1 e1 d1 => by
    subst ex
    cases d1 with
    | @lst aa ys _ hs ha =>
      refine ⟨_, _, rfl, .inl (.inl (low_ex _ _ hs)), fun p hp => ?_⟩
      have e : Ex H1 (del p (upd H1 p (.lst ys.reverse))) := ex_del (upd_ex hp) hp
      exact q p _ _ _ G1 k (S1.ex e) (e1.trans (low_mono e)) upd_same (dps_mono (low_mono e) (dps_rev ha))
theorem ck_strI {zs : List PyData} (h : ∃ i : Int, zs = [.int i] ∧ i.natAbs.log2 < 1920 ∧ κ (.str (toString i)) G) : CK F (fun xs H Q => ∃ i, xs = [.int i] ∧ i.natAbs.log2 < 1920 ∧ Q (.str (toString i)) H) zs G κ := fun σ H vs S d Q q => by
  obtain ⟨i, rfl, hz, k⟩ := h
  obtain ⟨v, rfl, dd⟩ := dps1 d
  cases dd
  exact ⟨i, rfl, hz, q _ H _ G k S (Ex.refl _) (.str _)⟩
end
section
variable {P : Program} {w : World} {K : PySem.W.Frag} {mg : Str → Option Value} {base : Heap}
theorem okG {x qual : Str} {st : Stmt} {f : Addr} {fd : FuncData} {N ps : List Str} {k : Nat} {sp : Sp} (F : L2.Fun K x qual st f fd) (S : FnScope N ps (defScope st)) (len : ∀ vs H Q E, sp vs H Q E → vs.length = ps.length)
    (hbody : ∀ (cdv : Value) (A : Around) (outer : List Env) (s : Shared) (H : Hp) (vs : List V) (Q : VK) (E : XK), Room k (A.deeper (envOfC qual (defScope st) s.heap.objs.size f cdv)) → (A.deeper (envOfC qual (defScope st) s.heap.objs.size f cdv)).guards = some [] → sp vs H Q E →
      ∃ t, PSs (cxOf CX0 P w K mg base N qual (defScope st) f cdv A outer s H E).nox (defBody st) t ∧ t { nx := fun _ H' => Q .non H', rt := Q } (start N vs) H) : FnG P w K mg base CX0 (k + 1) f fd ps sp := by
  obtain ⟨oc, od, kV, doc, pm, an, cdv, ct, osl, rfl, lk, hcd⟩ := F.ex
  refine fn_ofG lk hcd S len fun A outer s H vs Q E hr hg hsp => ?_
  obtain ⟨t, h, q⟩ := hbody cdv A outer s H vs Q E hr hg hsp
  exact ⟨t, h.nox, q⟩
end
end DL
namespace DL
open PySem PySem.Spec PyProof.Rows L2 Evl
structure Sm (n d : Nat) (x : PyData) : Prop where
  sh : x.showable = true
  lv : x.leavesShort 13 = true
  wt : x.weight ≤ n
  dp : x.depth ≤ d
theorem Sm.mono {n d n' d' : Nat} {x : PyData} (h : Sm n d x) (hn : n ≤ n') (hd : d ≤ d') : Sm n' d' x := ⟨h.sh, h.lv, Nat.le_trans h.wt hn, Nat.le_trans h.dp hd⟩
theorem Sm.fits {n d : Nat} {x : PyData} (h : Sm n d x) (hn : n ≤ 2 ^ 20) : x.shown.length ≤ sizeLine := PyData.shown_fits (by decide) (by decide) h.lv (Nat.le_trans h.wt hn)
section
variable {F : Fr} {G : List Sl} {α : Kps} {tb : TE}
/-- own + a list: a new list -/
theorem eo_catOl {i : Nat} {p : Addr} {es0 : List PyData} (hi : G[i]? = some (.own p es0)) (h : EK F G tb fun y G2 => ∃ ds es, G2[i]? = some (.own p ds) ∧ y = .list es ∧ ds.length + es.length ≤ 1000000 ∧ α (ds ++ es) G2) : EO F G (tOp rCat (tVar i) tb) α := fun σ H S Q q => by
  refine ⟨.ref p, (S.ownd hi).1, h σ H S _ fun u H2 y G2 ⟨ds, es, g, ey, hl, k⟩ S2 e2 d2 => ?_⟩
  subst ey
  obtain ⟨_, vs, hp, hd⟩ := S2.ownd g
  cases d2 with
  | @lst a2 v2 _ h2 a2' =>
    refine ⟨_, _, vs, v2, rfl, rfl, hp, low_ex _ _ h2, Nat.le_trans (by rw [dps_length hd, dps_length a2']; exact hl) (by decide), fun p' hp' => ?_⟩
    have e : Ex H2 (del p' (upd H2 p' (.lst (vs ++ v2)))) := ex_del (upd_ex hp') hp'
    exact q p' _ _ _ G2 k (S2.ex e) (e2.trans (low_mono e)) upd_same (dps_mono (low_mono e) (dps_append hd a2'))
end
end DL
namespace DL
open PySem L2 Evl
def intsOf : List PyData → List Int
  | [] => []
  | .int i :: r => i :: intsOf r
  | _ :: r => intsOf r
section
variable {F : Fr} {G : List Sl} {κ : Kp} {ta tb te : TE} {α : Kps}
theorem rk_ixAny {x y : PyData} (h : ∃ ds i, x = .list ds ∧ y = .int i ∧ 0 ≤ i ∧ i < (ds.length : Int) ∧ ∀ d, d ∈ ds → κ d G) : RK F (rIxL F.K) x y G κ := by
  obtain ⟨ds, i, rfl, rfl, h0, h1, k⟩ := h
  obtain ⟨d, e, hd⟩ := atI_ok h0 h1
  exact rk_ixL ⟨_, _, _, rfl, rfl, e, k d hd⟩
def IsLst (x : PyData) (k : List PyData → Prop) : Prop := ∃ ds, x = .list ds ∧ k ds
def IsTpl (x : PyData) (k : List PyData → Prop) : Prop := ∃ ds, x = .tuple ds ∧ k ds
theorem isLst {ds : List PyData} {k : List PyData → Prop} (h : k ds) : IsLst (.list ds) k := ⟨_, rfl, h⟩
theorem isTpl {ds : List PyData} {k : List PyData → Prop} (h : k ds) : IsTpl (.tuple ds) k := ⟨_, rfl, h⟩
theorem eo_slLx {lo hi : TO} (h : EK F G te fun x G1 => EP_ F G1 lo fun a G2 => EP_ F G2 hi fun b G3 => IsLst x fun ds => α (cutD ds a b) G3) : EO F G (tSl (rSlL F.K) te lo hi) α := eo_slL h
/-- t[lo:hi] -/
theorem slt' {X : Cx} {K : PySem.W.Frag} (h : X.K = K) : SlR X (rSlA K) := by subst h; exact sl_tupA
theorem cutD_whole {ds : List PyData} {a b : Option Int} (h1 : HT.sIx ds.length 0 a = 0) (h2 : HT.sIx ds.length ds.length b = ds.length) : cutD ds a b = ds := by
  unfold cutD
  rw [h1, h2, List.drop_zero, Nat.sub_zero, List.take_length]
theorem ek_slT {lo hi : TO} (h : EK F G te fun x G1 => EP_ F G1 lo fun a G2 => EP_ F G2 hi fun b G3 => IsTpl x fun ds => κ (.tuple (cutD ds a b)) G3) : EK F G (tSl (rSlA F.K) te lo hi) κ := fun σ H S Q q =>
  h σ H S _ fun v H1 x G1 k1 S1 e1 d1 => k1 σ H1 S1 _ fun a H2 G2 k2 S2 e2 => k2 σ H2 S2 _ fun b H3 G3 ⟨ds, ex, k3⟩ S3 e3 => by
    subst ex
    have d3 := dp_mono (e2.trans e3) d1
    cases d3 with
    | @tup aa ys _ hs ha =>
      have hl := dps_length ha
      refine ⟨aa, ys, rfl, .inl (.inl (low_ex _ _ hs)), fun w => ?_, fun _ p hp => ?_⟩
      · rw [hl] at w
        have k3 : κ (.tuple (cutD ds a b)) G3 := k3
        rw [cutD_whole w.1 w.2] at k3
        exact q _ H3 _ G3 k3 S3 ((e1.trans e2).trans e3) (.tup hs ha)
      · exact q _ _ _ G3 k3 (S3.ex (upd_ex hp)) (((e1.trans e2).trans e3).trans (low_mono (upd_ex hp))) (.tup (low_new S3 hp) (dps_mono (low_mono (upd_ex hp)) (dps_cut ha a b)))
/-- t + u -/
theorem cata' {X : Cx} {K : PySem.W.Frag} (h : X.K = K) : OpR X (binaryOp .Add) (rCatA K) := by subst h; exact op_catA
theorem rk_catA {x y : PyData} (h : ∃ ds es, x = .tuple ds ∧ y = .tuple es ∧ ds.length + es.length ≤ 1000000 ∧ κ (.tuple (ds ++ es)) G) : RK F (rCatA F.K) x y G κ := fun σ H v u S dv du Q q => by
  obtain ⟨ds, es, rfl, rfl, hl, k⟩ := h
  cases dv with
  | @tup a xs _ h1 a1 =>
    cases du with
    | @tup b ys _ h2 a2 =>
      refine ⟨a, b, xs, ys, rfl, rfl, .inl (.inl (low_ex _ _ h1)), .inl (.inl (low_ex _ _ h2)), Nat.le_trans (by rw [dps_length a1, dps_length a2]; exact hl) (by decide), fun e => ?_, fun _ e => ?_, fun _ _ p hp => ?_⟩
      · subst e
        cases a1
        exact q _ H _ G k S (Ex.refl _) (.tup h2 a2)
      · subst e
        cases a2
        rw [List.append_nil] at k
        exact q _ H _ G k S (Ex.refl _) (.tup h1 a1)
      · exact q _ _ _ G k (S.ex (upd_ex hp)) (low_mono (upd_ex hp)) (.tup (low_new S hp) (dps_mono (low_mono (upd_ex hp)) (dps_append a1 a2)))
end
end DL
namespace DL
open PySem PySem.Spec PyProof.Rows HT L2 Evl
theorem adjust_back (n : Nat) : Builtin.Slice.sliceAdjust none none (-1) (n : Int) = ((n : Int) - 1, -1) := by
  unfold Builtin.Slice.sliceAdjust
  simp only [show ((-1 : Int) < 0) = True by simp, if_true]
theorem places_back (n : Nat) : Builtin.Slice.slicePlaces ((n : Int) - 1) (-1) (-1) = n := by
  unfold Builtin.Slice.slicePlaces
  rw [if_neg (by omega)]
  have e : (-(-1 : Int)) = 1 := rfl
  rw [e, Int.ediv_one]
  split <;> omega
theorem pick_back (xs : Array Value) : ((List.range xs.size).filterMap fun (m : Nat) => xs[(((xs.size : Int) - 1) + (m : Int) * (-1)).toNat]?).toArray = xs.toList.reverse.toArray := by
  congr 1
  apply List.ext_getElem?
  intro i
  have key : ∀ k, k ≤ xs.size → (List.range k).filterMap (fun (m : Nat) => xs[(((xs.size : Int) - 1) + (m : Int) * (-1)).toNat]?) = xs.toList.reverse.take k := by
    intro k
    induction k with
    | zero => intro _; rw [List.take_zero]; rfl
    | succ k ih =>
      intro hk
      have hk' : k < xs.toList.reverse.length := by rw [List.length_reverse, Array.length_toList]; omega
      rw [List.range_succ, List.filterMap_append, ih (by omega), List.take_add_one, List.getElem?_eq_getElem hk']
      have e : (((xs.size : Int) - 1) + (k : Int) * (-1)).toNat = xs.size - 1 - k := by omega
      have hz : xs.size - 1 - k < xs.size := by omega
      congr 1
      simp only [List.filterMap_cons, List.filterMap_nil, e, Array.getElem?_eq_getElem hz]
      rw [List.getElem_reverse]
      simp [Array.length_toList]
  rw [key _ (Nat.le_refl _), List.take_of_length_le (by rw [List.length_reverse, Array.length_toList]; exact Nat.le_refl _)]
section
variable {prog : Program} {w : World} {A : Around} {E : Value → Shared → Prop} {s : Shared}
theorem sliceApplied_back {sl : Addr} {vs : Value} {n : Nat} {Q : Int × Int × Nat → Shared → Prop} (hs : s.heap.IsSliceOf sl .none .none vs) (ps : IsPart vs (some (-1)))
    (h : Q ((n : Int) - 1, -1, n) s) : wpAny (model prog w) A (Builtin.Slice.sliceApplied (.ref sl) (pure (n : Int))) Q E s := by
  obtain ⟨os, hos, hcs, hds⟩ := id hs
  unfold Builtin.Slice.sliceApplied Builtin.Slice.sliceFields
  refine wpAny_bind (wpAny_bind (wpAny_field hos hds (x := .none) rfl (wpAny_bind (wpAny_field hos hds (x := .none) rfl (wpAny_bind (wpAny_field hos hds (x := vs) rfl (wpAny_pure ?_)))))))
  refine wpAny_bind (slicePart_ ps ?_)
  show wpAny _ _ (if ((-1 : Int) == 0) = true then _ else _) _ _ s
  rw [if_neg (by decide)]
  refine wpAny_bind (slicePart_none (wpAny_bind (slicePart_none (wpAny_bind (wpAny_pure ?_)))))
  show wpAny _ _ (match Builtin.Slice.sliceAdjust none none (-1) (n : Int) with | (lo, hi) => pure (lo, (-1 : Int), Builtin.Slice.slicePlaces lo hi (-1))) _ _ s
  rw [adjust_back]
  show wpAny _ _ (pure ((n : Int) - 1, (-1 : Int), Builtin.Slice.slicePlaces ((n : Int) - 1) (-1) (-1))) _ _ s
  rw [places_back]
  exact wpAny_pure h
theorem getItem_tuple_back {t sl : Addr} {items : Array Value} {vs : Value} {Q : Value → Shared → Prop} (ht : IsTup s.heap t items) (hs : s.heap.IsSliceOf sl .none .none vs) (ps : IsPart vs (some (-1)))
    (h : Q (.ref s.heap.objs.size) { s with heap := s.heap.push { cls := .type "tuple", data := .seq items.toList.reverse.toArray } })
    (hsz : items.size ≤ sizeLine) : wpAny (model prog w) A (getItem (.ref t) (.ref sl)) Q E s := by
  have htake : sizeOk (.seq items.toList.reverse.toArray) := by
    show items.toList.reverse.toArray.size ≤ sizeLine
    rw [List.size_toArray, List.length_reverse, Array.length_toList]
    exact hsz
  obtain ⟨os, hos, hcs, hds⟩ := id hs
  have hTs : s.TypeIs (.ref sl) "slice" := ⟨os, hos, hcs⟩
  unfold getItem
  try with_reducible refine wpAny_holding ?_
  first | refine wpAny_bind (wpAny_pure ?_) | skip
  refine wpAny_bind (wpAny_sequenceKey ht.typeIs (by decide) ?_)
  refine wpAny_bind (wpAny_callSpecial?_slot (name := Str.ofString "__getitem__") ht.typeIs PyProof.Rows.slot_tuple_getitem
    (wpAny_call_entry PyProof.Rows.slot_tuple_getitem ht.typeIs entry_tuple_getitem ?_ (args_tuple_getitem _ _)))
  show wpAny _ _ (Builtin.Tuple.tupleItemsOf (.ref t) >>= _) _ _ s
  refine wpAny_bind (tupleItemsOf_ ht ?_)
  refine wpAny_bind (wpAny_typeOf hTs ?_)
  rw [if_pos (by decide)]
  refine wpAny_bind (sliceApplied_back hs ps ?_)
  have hno : ¬ (((items.size : Int) - 1 == 0 && (-1 : Int) == 1 && items.size == items.size) = true) := by
    intro q
    rw [Bool.and_eq_true, Bool.and_eq_true] at q
    exact absurd q.1.2 (by decide)
  show wpAny _ _ (if ((items.size : Int) - 1 == 0 && (-1 : Int) == 1 && items.size == items.size) = true then _ else _) _ _ s
  rw [if_neg hno, pick_back]
  first
    | exact wpAny_bind (m := Builtin.Tuple.tupleExact _) (wpAny_newObj_type (wpAny_pure ⟨_, rfl, wpAny_pure h⟩) htake)
    | exact wpAny_bind (m := Builtin.Tuple.tupleExact _) (wpAny_newObj_type (wpAny_bind (wpAny_pure (wpAny_pure ⟨_, rfl, wpAny_pure h⟩))) htake)
    | exact wpAny_bind (wpAny_bind (m := Builtin.Tuple.tupleExact _) (wpAny_newObj_type (wpAny_pure (wpAny_pure ⟨_, rfl, wpAny_pure h⟩)) htake))
    | exact wpAny_bind (wpAny_bind (m := Builtin.Tuple.tupleExact _) (wpAny_newObj_type (wpAny_pure ⟨_, rfl, wpAny_pure h⟩) htake))
end
section
variable {X : Cx}
def tRevT (K : PySem.W.Frag) (te : TE) : TE := fun σ H Q => te σ H fun x H1 => ∃ a xs, x = .ref a ∧ SqT K H1 a xs ∧ ∀ p, H1 p = none → Q (.ref p) (upd H1 p (.tup xs.reverse))
theorem pe_revT {e : PySem.Expr} {te : TE} {k : Nat} {p1 p2 p3 pos : Pos} (he : PE X e te) : PE X (.Subscript e (.Slice none none (some (.UnaryOp .USub (.Constant (.int 1) k p1) p2)) p3) pos) (tRevT X.K te) := by
  refine ⟨fun pins s σ H Q I h => ?_⟩
  refine Subscript_ (thn (he.run pins s σ H _ I h) fun v s1 ⟨x, H1, I1, r1, q1⟩ => ?_)
  obtain ⟨a, xs, ex, hx, q⟩ := q1
  subst ex
  cases r1
  have hst : PO X (some (.UnaryOp .USub (.Constant (.int 1) k p1) p2)) (tPart (tUn (rU fun i => .int (-i)) (tC (.int 1)))) := po_some (pe_un un_neg pe_int)
  refine wpAny_Slice (thn (po_none.run pins s1 σ H1 (fun o H2 => o = none ∧ H2 = H1) I1 ⟨rfl, rfl⟩) fun vl s2 ⟨l, H2, I2, pl, el, e2⟩ => ?_)
  subst el e2
  refine thn (po_none.run pins s2 σ H2 (fun o H3 => o = none ∧ H3 = H2) I2 ⟨rfl, rfl⟩) fun vu s3 ⟨u, H3, I3, pu, eu, e3⟩ => ?_
  subst eu e3
  refine thn (hst.run pins s3 σ H3 (fun o H4 => o = some (-1) ∧ H4 = H3) I3 ⟨1, rfl, -1, rfl, rfl, rfl⟩) fun vs s4 ⟨o, H4, I4, ps, eo, e4⟩ => ?_
  subst eo e4
  have I5 : Inv X pins σ H4 { s4 with heap := s4.heap.push { cls := .type "slice", data := .fields #[vl, vu, vs] } } := I4.kept (t' := s4.toks) fun b ob q => Heap.get?_push_of_some _ q
  obtain ⟨its, r, ht, hz⟩ := I5.tuple hx
  have hlen := r.length
  cases pl
  cases pu
  show wpAny (model X.prog X.w) X.A (subscriptTail e (.Slice none none (some (.UnaryOp .USub (.Constant (.int 1) k p1) p2)) p3) (.ref a) (.ref s4.heap.objs.size)) (EP X pins σ Q) X.xe { s4 with heap := s4.heap.push { cls := .type "slice", data := .fields #[.none, .none, vs] } }
  refine tail_any (ops := [.ref a, .ref s4.heap.objs.size]) ht.typeIs (PyProof.Rows.slot_tuple_getitem.lookup) ?_ (by with_unfolding_all rfl)
  refine getItem_tuple_back ht (Heap.IsSliceOf.new _ .none .none vs) ps ?_ (by rw [List.size_toArray]; omega)
  refine ⟨.ref _, _, I5.laid (t' := s4.toks) (o := .tup xs.reverse) (fun b ob q => Heap.get?_push_of_some _ q) (Nat.le_refl _) ?_, rfl, q _ (I5.hok.fresh (Nat.le_refl _))⟩
  exact ⟨by rw [List.length_reverse]; omega, _, r.reverse, IsTup.new _ _⟩
theorem prevT' {K : PySem.W.Frag} (h0 : X.K = K) {e : PySem.Expr} {te : TE} {k : Nat} {p1 p2 p3 pos : Pos} (he : PE X e te) : PE X (.Subscript e (.Slice none none (some (.UnaryOp .USub (.Constant (.int 1) k p1) p2)) p3) pos) (tRevT K te) := by subst h0; exact pe_revT he
end
section
variable {F : Fr} {G : List Sl} {κ : Kp} {te : TE} {α : Kps}
theorem ek_revT (h : EK F G te fun x G1 => IsTpl x fun ds => κ (.tuple ds.reverse) G1) : EK F G (tRevT F.K te) κ := fun σ H S Q q =>
  h σ H S _ fun v H1 x G1 ⟨ds, ex, k⟩ S1 e1 d1 => by
    subst ex
    cases d1 with
    | @tup aa ys _ hs ha =>
      exact ⟨_, _, rfl, .inl (.inl (low_ex _ _ hs)), fun p hp => q _ _ _ G1 k (S1.ex (upd_ex hp)) (e1.trans (low_mono (upd_ex hp))) (.tup (low_new S1 hp) (dps_mono (low_mono (upd_ex hp)) (dps_rev ha)))⟩
theorem rk_eqT {x y : PyData} (h : ∃ a b : Str, x = .str a ∧ y = .str b ∧ κ (.bool (decide (a = b))) G) : RK F rEq x y G κ := fun σ H v u S dv du Q q => by
  obtain ⟨i, j, rfl, rfl, k⟩ := h
  cases dv; cases du
  refine ⟨rfl, ?_⟩
  have e : decide (V.str i = V.str j) = decide (i = j) := by
    by_cases z : i = j
    · subst z; simp
    · rw [decide_eq_false z, decide_eq_false fun w => z (V.str.inj w)]
  rw [e]
  exact q _ H _ G k S (Ex.refl _) (.bl _)
theorem rk_neT {x y : PyData} (h : ∃ a b : Str, x = .str a ∧ y = .str b ∧ κ (.bool (!decide (a = b))) G) : RK F rNe x y G κ := fun σ H v u S dv du Q q => by
  obtain ⟨i, j, rfl, rfl, k⟩ := h
  cases dv; cases du
  refine ⟨rfl, ?_⟩
  have e : decide (V.str i = V.str j) = decide (i = j) := by
    by_cases z : i = j
    · subst z; simp
    · rw [decide_eq_false z, decide_eq_false fun w => z (V.str.inj w)]
  rw [e]
  exact q _ H _ G k S (Ex.refl _) (.bl _)
end
end DL
namespace DL
open PySem L2 Evl
section
variable {F : Fr} {G : List Sl} {α : Kps}
theorem eo_revLx {te : TE} (h : EK F G te fun x G1 => IsLst x fun ds => α ds.reverse G1) : EO F G (tRevL F.K te) α := eo_revL h
end
end DL
namespace DL
open PySem L2 Evl
abbrev KD := List (Key × PyData)
def putD (kvs : KD) (k : Key) (x : PyData) : KD :=
  if (kvs.any fun kv => decide (kv.1 = k)) = true then kvs.map (fun kv => if kv.1 = k then (kv.1, x) else kv) else kvs ++ [(k, x)]
def valD (kvs : KD) (k : Key) : Option PyData := (kvs.find? fun kv => decide (kv.1 = k)).map (·.2)
/-- the same keys, the values as data -/
def DOk (K : PySem.W.Frag) (B : Hp) (ws : List (Key × V)) (kvs : KD) : Prop := ws.map (·.1) = kvs.map (·.1) ∧ DqAll K B (ws.map (·.2)) (kvs.map (·.2))
theorem DOk.nil {K : PySem.W.Frag} {B : Hp} : DOk K B [] [] := ⟨rfl, .nil⟩
theorem DOk.cons {K : PySem.W.Frag} {B : Hp} {k : Key} {v : V} {x : PyData} {ws : List (Key × V)} {kvs : KD} (d : Dq K B v x) (h : DOk K B ws kvs) : DOk K B ((k, v) :: ws) ((k, x) :: kvs) :=
  ⟨by rw [List.map_cons, List.map_cons, h.1], .cons d h.2⟩
theorem DOk.inv {K : PySem.W.Frag} {B : Hp} {k : Key} {x : PyData} {ws : List (Key × V)} {kvs : KD} (h : DOk K B ws ((k, x) :: kvs)) : ∃ v r, ws = (k, v) :: r ∧ Dq K B v x ∧ DOk K B r kvs := by
  obtain ⟨h1, h2⟩ := h
  cases ws with
  | nil => cases h1
  | cons w r =>
    obtain ⟨k', v⟩ := w
    rw [List.map_cons, List.map_cons] at h1
    have e := (List.cons.inj h1).1
    have e : k' = k := e
    subst e
    cases h2 with
    | cons d t => exact ⟨v, r, rfl, d, (List.cons.inj h1).2, t⟩
theorem DOk.mono {K : PySem.W.Frag} {B B' : Hp} (e : Ex B B') {ws : List (Key × V)} {kvs : KD} (h : DOk K B ws kvs) : DOk K B' ws kvs := ⟨h.1, dps_mono e h.2⟩
theorem DOk.len {K : PySem.W.Frag} {B : Hp} {ws : List (Key × V)} {kvs : KD} (h : DOk K B ws kvs) : ws.length = kvs.length := by
  have := congrArg List.length h.1
  rwa [List.length_map, List.length_map] at this
theorem DOk.anyK {K : PySem.W.Frag} {B : Hp} (k : Key) : ∀ {ws : List (Key × V)} {kvs : KD}, DOk K B ws kvs → (ws.any fun kv => decide (kv.1 = k)) = (kvs.any fun kv => decide (kv.1 = k))
  | ws, [], h => by
    obtain ⟨h1, _⟩ := h
    cases ws with
    | nil => rfl
    | cons w r => cases h1
  | ws, (k', x) :: kvs, h => by
    obtain ⟨v, r, rfl, d, t⟩ := h.inv
    rw [List.any_cons, List.any_cons, t.anyK k]
theorem DOk.get {K : PySem.W.Frag} {B : Hp} (k : Key) : ∀ {ws : List (Key × V)} {kvs : KD}, DOk K B ws kvs → (valV ws k = none ∧ valD kvs k = none) ∨ ∃ v x, valV ws k = some v ∧ valD kvs k = some x ∧ Dq K B v x
  | ws, [], h => by
    obtain ⟨h1, _⟩ := h
    cases ws with
    | nil => exact .inl ⟨rfl, rfl⟩
    | cons w r => cases h1
  | ws, (k', x) :: kvs, h => by
    obtain ⟨v, r, rfl, d, t⟩ := h.inv
    by_cases e : k' = k
    · subst e
      exact .inr ⟨v, x, by unfold valV; simp [List.find?_cons], by unfold valD; simp [List.find?_cons], d⟩
    · have e1 : valV ((k', v) :: r) k = valV r k := by unfold valV; simp [List.find?_cons, e]
      have e2 : valD ((k', x) :: kvs) k = valD kvs k := by unfold valD; simp [List.find?_cons, e]
      rw [e1, e2]
      exact t.get k
theorem DOk.mapK {K : PySem.W.Frag} {B : Hp} {u : V} {y : PyData} (k : Key) (d : Dq K B u y) : ∀ {ws : List (Key × V)} {kvs : KD}, DOk K B ws kvs → DOk K B (ws.map fun kv => if kv.1 = k then (kv.1, u) else kv) (kvs.map fun kv => if kv.1 = k then (kv.1, y) else kv)
  | ws, [], h => by
    obtain ⟨h1, _⟩ := h
    cases ws with
    | nil => exact .nil
    | cons w r => cases h1
  | ws, (k', x) :: kvs, h => by
    obtain ⟨v, r, rfl, d', t⟩ := h.inv
    rw [List.map_cons, List.map_cons]
    by_cases e : k' = k
    · rw [if_pos e, if_pos e]; exact .cons d (t.mapK k d)
    · rw [if_neg e, if_neg e]; exact .cons d' (t.mapK k d)
theorem DOk.app {K : PySem.W.Frag} {B : Hp} {k : Key} {u : V} {y : PyData} {ws : List (Key × V)} {kvs : KD} (h : DOk K B ws kvs) (d : Dq K B u y) : DOk K B (ws ++ [(k, u)]) (kvs ++ [(k, y)]) :=
  ⟨by rw [List.map_append, List.map_append, h.1]; rfl, by rw [List.map_append, List.map_append]; exact dps_append h.2 (.cons d .nil)⟩
theorem DOk.put {K : PySem.W.Frag} {B : Hp} {k : Key} {u : V} {y : PyData} {ws : List (Key × V)} {kvs : KD} (h : DOk K B ws kvs) (d : Dq K B u y) : DOk K B (putK ws k u) (putD kvs k y) := by
  unfold putK putD
  rw [h.anyK k]
  split
  · exact h.mapK k d
  · exact h.app d
/-- merging pairs of unlike keys -/
theorem mergeK_nd : ∀ (more kvs : List (Key × V)), ((kvs ++ more).map (·.1)).Nodup → mergeK kvs more = kvs ++ more
  | [], kvs, _ => by rw [List.append_nil]; rfl
  | p :: r, kvs, h => by
    have e : mergeK kvs (p :: r) = mergeK (putK kvs p.1 p.2) r := rfl
    have hp : putK kvs p.1 p.2 = kvs ++ [p] := by
      unfold putK
      rw [if_neg]
      intro z
      obtain ⟨q, hq, e⟩ := List.any_eq_true.mp z
      have e : q.1 = p.1 := of_decide_eq_true e
      rw [List.map_append, List.nodup_append] at h
      exact h.2.2 q.1 (List.mem_map_of_mem hq) p.1 (List.mem_map_of_mem List.mem_cons_self) e
    rw [e, hp, mergeK_nd r (kvs ++ [p]) (by rw [List.append_assoc]; exact h), List.append_assoc]
    rfl
theorem kD_kV {K : PySem.W.Frag} {B : Hp} {v : V} {k : Key} (h : Dq K B v (kD k)) : v = kV k := by
  cases k with
  | inl i => cases h; rfl
  | inr x => cases h; rfl
/-- a new dict -/
def ED (F : Fr) (G : List Sl) (te : TE) (κ : KD → List Sl → Prop) : Prop := ∀ σ H, Sat F G σ H → ∀ Q : VK,
  (∀ p ws H' kvs G', κ kvs G' → Sat F G' σ (del p H') → Ex (low F G H) (low F G' (del p H')) → H' p = some (.dK ws) → DOk F.K (low F G' (del p H')) ws kvs → Q (.ref p) H') → te σ H Q
def RtD (F : Fr) (G : List Sl) (kvs : KD) (rt : VK) : Prop := ∀ σ H p ws, Sat F G σ (del p H) → H p = some (.dK ws) → DOk F.K (low F G (del p H)) ws kvs → rt (.ref p) H
section
variable {F : Fr} {G : List Sl} {κ : Kp} {te tv ty : TE} {D : Ends} {α : KD → List Sl → Prop} {β : Bool → List Sl → Prop}
theorem nx_ownRD (h : ED F G te fun kvs G' => RtD F G' kvs D.rt) : Nx F G (tOwn (tRet te) D) := fun σ H S => h σ H S _ fun p ws H' kvs G' k S' _ hp d => k σ H' p ws S' hp d
/-- d[k] = v -/
theorem nx_dput {i : Nat} (h : EK F G tv fun x G1 => ∃ p kvs0, G1[i]? = some (.dic p kvs0) ∧ EK F G1 ty fun y G2 => ∃ kvs k, G2[i]? = some (.dic p kvs) ∧ y = kD k ∧ kvs.length < 1000000 ∧ Nx F (G2.set i (.dic p (putD kvs k x))) D.nx) :
    Nx F G (sDPut (tVar i) ty tv D) := fun σ H S => h σ H S _ fun v H1 x G1 ⟨p, kvs0, g0, k1⟩ S1 e1 d1 => by
  refine ⟨.ref p, (S1.dicd g0).1, k1 σ H1 S1 _ fun u H2 y G2 ⟨kvs, k, g, ey, hl, kk⟩ S2 e2 d2 => ?_⟩
  subst ey
  obtain ⟨_, ws, hp, hw⟩ := S2.dicd g
  have hw : DOk F.K (low F G2 H2) ws kvs := hw
  rw [kD_kV d2]
  refine ⟨p, _, rfl, DPut.k hp (Nat.lt_of_lt_of_le (by rw [hw.len]; exact hl) (by decide)), kk _ _ ?_⟩
  exact S2.updS g rfl rfl ⟨rfl, _, upd_same, hw.put (dp_mono e2 d1)⟩
/-- d[k] -/
theorem ek_dget {i : Nat} {p0 : Addr} {kvs0 : KD} (hi : G[i]? = some (.dic p0 kvs0)) (h : EK F G ty fun y G1 => ∃ p kvs k x, G1[i]? = some (.dic p kvs) ∧ y = kD k ∧ valD kvs k = some x ∧ κ x G1) : EK F G (tDGet (tVar i) ty) κ := fun σ H S Q q => by
  refine ⟨.ref p0, (S.dicd hi).1, ?_⟩
  refine h σ H S _ fun u H1 y G1 ⟨p, kvs, k, x, g, ey, e, kk⟩ S1 e1 d1 => ?_
  subst ey
  obtain ⟨e0, ws, hp, hw⟩ := S1.dicd g
  have hw : DOk F.K (low F G1 H1) ws kvs := hw
  rcases hw.get k with ⟨_, z⟩ | ⟨v, x', ev, ex, dx⟩
  · rw [e] at z; cases z
  · rw [e] at ex; cases ex
    have e00 := (S.dicd hi).1
    rw [e0] at e00
    cases e00
    refine ⟨_, v, rfl, ?_, q v H1 x G1 kk S1 e1 dx⟩
    rw [kD_kV d1, ← ev]
    exact DGet.k hp
/-- sorted(d), its keys ints -/
theorem eo_sortedD {i : Nat} {α : Kps} (h : ∃ p kvs ks, G[i]? = some (.dic p kvs) ∧ kvs.map (·.1) = ks.map Sum.inl ∧ ks.length < 64 ∧ ∀ ys : List Int, ys.Perm ks → ys.Pairwise (· ≤ ·) → α (ys.map .int) G) :
    EO F G (tCB (fun xs H Q => ∃ (a : Addr) (kvs : List (Key × V)) (ks : List Int), xs = [.ref a] ∧ Rd H a (.dK kvs) ∧ kvs.map (·.1) = ks.map Sum.inl ∧ ks.length < 64 ∧ ∀ (ys : List Int) (p : Addr), ys.Perm ks → ys.Pairwise (· ≤ ·) → H p = none → Q (.ref p) (upd H p (.lst (ys.map V.int)))) (tCons (tVar i) tNil)) α := fun σ H S Q q => by
  obtain ⟨p, kvs, ks, g, hk, hl, k⟩ := h
  obtain ⟨e0, ws, hp, hw⟩ := S.dicd g
  have hw : DOk F.K (low F G H) ws kvs := hw
  refine ⟨.ref p, e0, p, ws, ks, rfl, .inl hp, by rw [hw.1, hk], hl, fun ys p' h1 h2 hp' => ?_⟩
  have e : Ex H (del p' (upd H p' (.lst (ys.map V.int)))) := ex_del (upd_ex hp') hp'
  exact q p' _ _ _ G (k ys h1 h2) (S.ex e) (low_mono e) upd_same (dps_ints ys)
/-- the pairs of a display -/
def EPs (F : Fr) (G : List Sl) (trs : List (TE × TE)) (α : KD → List Sl → Prop) : Prop := ∀ σ H, Sat F G σ H → ∀ Q : List (V × V) → Hp → Prop,
  (∀ ws H' kvs G', α kvs G' → Sat F G' σ H' → Ex (low F G H) (low F G' H') → DOk F.K (low F G' H') ws kvs → Q (ws.map fun kv => (kV kv.1, kv.2)) H') → tPairs trs σ H Q
theorem eps_nil (k : α [] G) : EPs F G [] α := fun σ H S Q q => q [] H [] G k S (Ex.refl _) .nil
theorem eps_cons {tk tx : TE} {r : List (TE × TE)} (h : EK F G tk fun y G1 => EK F G1 tx fun x G2 => ∃ k, y = kD k ∧ EPs F G2 r fun kvs G3 => α ((k, x) :: kvs) G3) : EPs F G ((tk, tx) :: r) α := fun σ H S Q q =>
  h σ H S _ fun u H1 y G1 k1 S1 e1 d1 => k1 σ H1 S1 _ fun v H2 x G2 ⟨k, ey, k2⟩ S2 e2 d2 => k2 σ H2 S2 _ fun ws H3 kvs G3 k3 S3 e3 d3 => by
    subst ey
    have := q ((k, v) :: ws) H3 ((k, x) :: kvs) G3 k3 S3 ((e1.trans e2).trans e3) (.cons (dp_mono e3 d2) d3)
    rw [List.map_cons] at this
    rw [kD_kV d1]
    exact this
/-- {k: v, ..} -/
theorem ed_disp {trs : List (TE × TE)} (h : ∀ B p, Ex F.B0 B → EPs (F.wo B p (.dK [])) G trs fun kvs G' => kvs.length ≤ 15 ∧ (kvs.map (·.1)).Nodup ∧ α kvs G') : ED F G (tDisp trs) α := fun σ H S Q q p hp => by
  have e : Ex H (del p (upd H p (.dK []))) := ex_del (upd_ex hp) hp
  have S1 : Sat F G σ (del p (upd H p (.dK []))) := S.ex e
  have S2 := S1.toWo (B := low F G H) (low_mono e) upd_same
  refine h (low F G H) p S.ext σ _ S2 _ fun ws H2 kvs G2 ⟨hl, hn, k⟩ S3 e3 d3 => ?_
  obtain ⟨S4, hp2⟩ := S3.ofWo S.ext (S.noz hp)
  rw [low_wo, low_wo] at e3
  rw [low_wo] at d3
  have hnd : (ws.map (·.1)).Nodup := by rw [d3.1]; exact hn
  refine ⟨hp2, ws, rfl, by rw [d3.len]; exact hl, ?_⟩
  rw [mergeK_nd ws [] hnd, List.nil_append]
  refine q p ws _ kvs G2 k (by rw [del_upd]; exact S4) ?_ upd_same (by rw [del_upd]; exact d3)
  rw [del_upd]
  exact (low_mono e).trans e3
/-- a new dict as data -/
theorem ED.ek (h : ED F G te fun kvs G' => κ (.dict ((kvs.map fun p => kD p.1).zip (kvs.map (·.2)))) G') : EK F G te κ := fun σ H S Q q => h σ H S _ fun p ws H' kvs G' k S' e hp d => by
  have hlow : low F G' H' p = some (.dK ws) := low_at S' hp
  have := Dq.dct (K := F.K) hlow (dps_mono (low_mono del_ex) d.2)
  have e1 : (ws.map fun p => kD p.1) = (kvs.map fun p => kD p.1) := by
    have := congrArg (List.map kD) d.1
    rwa [List.map_map, List.map_map] at this
  rw [e1] at this
  exact q _ H' _ G' k (S'.ex del_ex) (e.trans (low_mono del_ex)) this
end
theorem vf_cells {ns : List Int} {a r u : Int} : valD (feedL ns a r u) (Sum.inr "cells") = some (.list (ns.map .int)) := by rfl
theorem vf_at {ns : List Int} {a r u : Int} : valD (feedL ns a r u) (Sum.inr "at") = some (.int a) := by rfl
theorem vf_left {ns : List Int} {a r u : Int} : valD (feedL ns a r u) (Sum.inr "left") = some (.int r) := by rfl
theorem vf_turn {ns : List Int} {a r u : Int} : valD (feedL ns a r u) (Sum.inr "turn") = some (.int u) := by rfl
theorem pf_turn {ns : List Int} {a r u x : Int} : putD (feedL ns a r u) (Sum.inr "turn") (.int x) = feedL ns a r x := by rfl
theorem pf_left {ns : List Int} {a r u x : Int} : putD (feedL ns a r u) (Sum.inr "left") (.int x) = feedL ns a x u := by rfl
theorem pf_at {ns : List Int} {a r u x : Int} : putD (feedL ns a r u) (Sum.inr "at") (.int x) = feedL ns x r u := by rfl
theorem rtMk {K : PySem.W.Frag} {B H : Hp} {Q : VK} {ns : List Int} (hB : Ex B H) (hq : ∀ p ws H' B', Grow B H B' (del p H') → H' p = some (.dK ws) → ws.map (·.1) = (feedL ns 0 0 0).map (·.1) → DqAll K B' (ws.map (·.2)) ((feedL ns 0 0 0).map (·.2)) → Q (.ref p) H') {G : List Sl} :
    RtD (frP K B H) G (feedL ns 0 0 0) Q := fun σ H' p ws S hp d => hq p ws H' _ (grow_end hB S) hp d.1 d.2
end DL
namespace DL
open PySem L2 Evl
def encI (ns : List Int) : PyData := .tuple (ns.map .int)
theorem code_lex {B : Int} : ∀ {ns ms : List Int}, ns.length = ms.length → TS.Bd B ns → TS.Bd B ms → (TS.code B ns < TS.code B ms ↔ HT.lexLt ns ms = true)
  | [], [], _, _, _ => by
    show (0 : Int) < 0 ↔ false = true
    simp
  | [], _ :: _, h, _, _ => by simp at h
  | _ :: _, [], h, _, _ => by simp at h
  | n :: r, m :: q, h, a, b => by
    have hl : r.length = q.length := by simpa using h
    rw [HT.lexLt_cons]
    by_cases e : n = m
    · subst e
      rw [if_pos rfl, TS.code_same hl]
      exact code_lex hl a.tail b.tail
    · rw [if_neg e, decide_eq_true_eq]
      constructor
      · intro z
        by_cases w : n < m
        · exact w
        · have := TS.code_lt (B := B) hl.symm b.tail a.tail (show m < n by omega)
          omega
      · exact fun z => TS.code_lt hl a.tail b.tail z
section
variable {F : Fr} {G : List Sl} {κ : Kp} {ta te : TE} {α : Kps} {D : Ends}
theorem ind' {X : Cx} {K : PySem.W.Frag} (hu : X.A.units + 65 < cLine) (h : X.K = K) : OpR X (compareOp .In) (rInD K) := by subst h; exact op_inD hu
theorem rk_inDD {x y : PyData} (h : ∃ ds, y = .list ds ∧ SeqAt.shaped x = true ∧ SeqAt.shaped (.list ds) = true ∧ κ (.bool (ds.any fun z => PyData.eqv z x)) G) : RK F (rInD F.K) x y G κ := fun σ H v u S dv du Q q => by
  obtain ⟨ds, rfl, sx, sl, k⟩ := h
  exact ⟨x, ds, dq_dp (dp_mono low_ex dv) (nod_of sx), dq_dp (dp_mono low_ex du) (nod_of sl), sx, sl, q _ H _ G k S (Ex.refl _) (.bl _)⟩
/-- the ints of the tuple at a place -/
def tOf (H : Hp) : V → List Int
  | .ref t => match H t with
    | some (.tup vs) => vs.filterMap fun v => match v with
      | .int i => some i
      | _ => none
    | _ => []
  | _ => []
theorem fm_ints (ns : List Int) : ((ns.map V.int).filterMap fun v => match v with | .int i => some i | _ => none) = ns := by
  induction ns with
  | nil => rfl
  | cons n r ih => rw [List.map_cons, List.filterMap_cons]; simp only [ih]
theorem dq_encI {K : PySem.W.Frag} {H : Hp} {v : V} {ns : List Int} (h : Dq K H v (encI ns)) : ∃ t, v = .ref t ∧ H t = some (.tup (ns.map V.int)) ∧ tOf H v = ns := by
  cases h with
  | @tup a xs _ hs ha =>
    rw [dps_ints_inv ha] at hs
    refine ⟨a, rfl, hs, ?_⟩
    unfold tOf
    simp only [hs]
    exact fm_ints ns
theorem dqs_encI {K : PySem.W.Frag} {H : Hp} : ∀ {l : List (List Int)} {xs : List V}, DqAll K H xs (l.map encI) → l = xs.map (tOf H) ∧ ∀ x ∈ xs, ∃ t, x = .ref t ∧ H t = some (.tup ((tOf H x).map V.int))
  | [], _, .nil => ⟨rfl, fun _ h => nomatch h⟩
  | s :: l, _, .cons (v := v) h t => by
    obtain ⟨a, rfl, e1, e2⟩ := dq_encI h
    obtain ⟨i1, i2⟩ := dqs_encI t
    refine ⟨by rw [List.map_cons, e2, ← i1], fun x hx => ?_⟩
    rcases List.mem_cons.mp hx with rfl | hx
    · exact ⟨a, rfl, by rw [e2]; exact e1⟩
    · exact i2 x hx
theorem dqs_tOf {K : PySem.W.Frag} {H B : Hp} : ∀ {ys : List V}, (∀ y ∈ ys, ∃ t, y = .ref t ∧ B t = some (.tup ((tOf H y).map V.int))) → DqAll K B ys ((ys.map (tOf H)).map encI)
  | [], _ => .nil
  | y :: ys, h => by
    obtain ⟨t, rfl, e⟩ := h y List.mem_cons_self
    exact .cons (.tup e (dps_ints _)) (dqs_tOf fun z hz => h z (List.mem_cons_of_mem _ hz))
/-- what sorting tuples of ints tells -/
theorem sortU_of {d : Nat} {B : Int} {a : Addr} {xs : List V} {l : List (List Int)} {Bh H : Hp} (hs : H a = some (.lst xs)) (hd : DqAll F.K Bh xs (l.map encI)) (hB : Ex Bh H) (h64 : l.length < 64) (hb : ∀ s ∈ l, s.length = d ∧ TS.Bd B s) {Q : VK}
    (q : ∀ (m : List (List Int)) (ys : List V) (p : Addr), m.Perm l → (m.Pairwise fun x y => HT.lexLt y x = false) → DqAll F.K Bh ys (m.map encI) → H p = none → Q (.ref p) (upd H p (.lst ys))) : rSortU F.K d B [.ref a] H Q := by
  obtain ⟨el, ex⟩ := dqs_encI hd
  have hT : ∀ x ∈ xs, TupI F.K H x (tOf Bh x) ∧ (tOf Bh x).length = d ∧ TS.Bd B (tOf Bh x) := fun x hx => by
    obtain ⟨t, rfl, e⟩ := ex x hx
    have := hb (tOf Bh (.ref t)) (by rw [el]; exact List.mem_map_of_mem hx)
    exact ⟨⟨t, rfl, .inl (.inl (hB _ _ e))⟩, this.1, this.2⟩
  refine ⟨a, xs, rfl, .inl (.inl hs), by rw [el, List.length_map] at h64; exact h64, fun x hx => ⟨_, hT x hx⟩, fun ys p pm pw hp => ?_⟩
  refine q (ys.map (tOf Bh)) ys p (by rw [el]; exact pm.map _) ?_ (dqs_tOf fun y hy => ex y (pm.mem_iff.mp hy)) hp
  rw [List.pairwise_map]
  refine (List.Pairwise.and_mem.mp pw).imp fun {x y} ⟨hx, hy, h⟩ => ?_
  have tx := hT x (pm.mem_iff.mp hx)
  have ty := hT y (pm.mem_iff.mp hy)
  have hle := h _ _ tx.1 ty.1
  cases e : HT.lexLt (tOf Bh y) (tOf Bh x) with
  | false => rfl
  | true =>
    have := (code_lex (B := B) (by rw [tx.2.1, ty.2.1]) ty.2.2 tx.2.2).mpr e
    omega
theorem eo_sortIO {d : Nat} {B : Int} {i : Nat} (h : ∃ p l, G[i]? = some (.own p (l.map encI)) ∧ l.length < 64 ∧ (∀ s ∈ l, s.length = d ∧ TS.Bd B s) ∧ ∀ m : List (List Int), m.Perm l → (m.Pairwise fun x y => HT.lexLt y x = false) → α (m.map encI) G) :
    EO F G (tCB (rSortU F.K d B) (tCons (tVar i) tNil)) α := fun σ H S Q q => by
  obtain ⟨p, l, g, h64, hb, k⟩ := h
  obtain ⟨e0, vs, hp, hd⟩ := S.ownd g
  refine ⟨.ref p, e0, sortU_of hp hd low_ex h64 hb fun m ys p' pm pw hy hp' => ?_⟩
  have e : Ex H (del p' (upd H p' (.lst ys))) := ex_del (upd_ex hp') hp'
  exact q p' _ _ _ G (k m pm pw) (S.ex e) (low_mono e) upd_same (dps_mono (low_mono e) hy)
/-- own.clear() -/
theorem nx_clear {i : Nat} (h0 : ∃ p ds, G[i]? = some (.own p ds) ∧ Nx F (G.set i (.own p [])) D.nx) : Nx F G (tDrop (tBM0 F.K "list" rClear (tVar i)) D) := fun σ H S => by
  obtain ⟨p, ds, g, k⟩ := h0
  obtain ⟨e0, vs, hp, hd⟩ := S.ownd g
  exact ⟨.ref p, e0, .inl ⟨rfl, vs, .inl (.inl hp)⟩, p, vs, rfl, rfl, hp, k _ _ (S.upd g .nil)⟩
end
section
variable {F : Fr} {G : List Sl} {κ : Kp} {ta tb te tl : TE} {r : R2} {D : Ends} {s1 s2 : TS} {tr : TA} {α : Kps}
theorem nx_forLi {g : TG} {tb : TS} (h : EK F G tl fun x G1 => ∃ xs, x = .list xs ∧ ∃ I : Nat → List Sl → Prop, I 0 G1 ∧
      (∀ B, Ex F.B0 B → ∀ i x G', xs[i]? = some x → I i G' → GK (F.at B) g x G' fun G2 => Nx (F.at B) G2 (tb { D with nx := NxI (F.at B) (I (i + 1)), ct := NxI (F.at B) (I (i + 1)), bk := D.nx })) ∧
      (∀ G', I xs.length G' → Nx F G' D.nx)) : Nx F G (tFor (iList F.K tl) g tb D) := fun σ H S => h σ H S _ fun v H1 x G1 ⟨xs, ex, I, h0, hs, hd⟩ S1 e1 d1 => by
  subst ex
  cases d1 with
  | lst hl ha =>
    have E0 : Ex F.B0 (low F G1 H1) := S1.ext
    have L : ∀ G' σ' H', Sat (F.at (low F G1 H1)) G' σ' H' → SqL F.K H' _ _ := fun G' σ' H' S' => (.inl (.inl ((S'.ext.trans low_ex) _ _ hl)))
    refine ⟨_, rfl, ⟨_, .inl (.inl (low_ex _ _ hl))⟩, for_list (Pv := fun i σ' H' => NxI (F.at (low F G1 H1)) (I i) σ' H') ⟨G1, h0, ⟨Ex.refl _, S1.zk, S1.zn, S1.len, S1.nd, S1.ok⟩⟩ (fun i σ' H' _ ⟨G', _, S'⟩ => L G' σ' H' S') (fun i v σ' H' ev ⟨G', hI, S'⟩ => ?_) (fun σ' H' ⟨G', hI, S'⟩ => ?_)⟩
    · obtain ⟨x, ex, dx⟩ := dps_get' ha ev
      exact hs _ E0 i x G' ex hI σ' H' v S' (dp_mono S'.ext dx) _ fun σ2 G2 k2 S2 _ => k2 σ2 H' S2
    · rw [dps_length ha] at hI
      exact hd G' hI σ' H' (S'.weak E0)
end
theorem room65 {k : Nat} {A : Around} (r : Room k A) : A.units + 65 < cLine := by have := r.un; omega
end DL
namespace DL
open PySem L2 Evl
theorem dps_rep {K : PySem.W.Frag} {B : Hp} {vs : List V} {ds : List PyData} (h : DqAll K B vs ds) : ∀ n : Nat, DqAll K B (List.replicate n vs).flatten (List.replicate n ds).flatten
  | 0 => .nil
  | n + 1 => by
    rw [List.replicate_succ, List.replicate_succ, List.flatten_cons, List.flatten_cons]
    exact dps_append h (dps_rep h n)
theorem rk_rep {F : Fr} {G : List Sl} {κ : Kp} {x y : PyData} (h : ∃ ds k, x = .list ds ∧ y = .int k ∧ 0 ≤ k ∧ k ≤ 1000 ∧ ds.length ≤ 1000 ∧ κ (.list (List.replicate k.toNat ds).flatten) G) : RK F rRep x y G κ := fun σ H v u S dv du Q q => by
  obtain ⟨ds, k, rfl, rfl, h0, h1, hl, k⟩ := h
  cases du
  cases dv with
  | @lst a1 v1 _ hs a1' =>
    have hn := Int.toNat_of_nonneg h0
    refine ⟨_, _, v1, rfl, rfl, low_ex _ _ hs, by omega, by omega, Nat.le_trans (Nat.mul_le_mul (show v1.length ≤ 1000 by rw [dps_length a1']; exact hl) (show _ ≤ 1000 by omega)) (by decide), fun p hp => ?_⟩
    exact q _ _ _ G k (S.ex (upd_ex hp)) (low_mono (upd_ex hp)) (.lst (low_new S hp) (dps_mono (low_mono (upd_ex hp)) (dps_rep a1' _)))
end DL
namespace DL
open PySem L2 Evl
section
open PySem PySem.Sem
theorem str_eq_declines_dict (b : Str) (u : Tok) (l : Addr) (es : Array DictEntry) (ep : Nat) (dd : Option Addr) (sl : Array (Option Value)) :
    Meets (Builtin.«str.__eq__» ⟨[.str b u, .ref l], []⟩) (fun _ R s => s.heap.get? l = some { cls := .type "dict", dict := dd, data := .dict es ep, slots := sl } ∧ R (.ok (.ret .notImplemented)) s) :=
  .of_wp fun prog w A R s h => by obtain ⟨hp, g, d, tk, os⟩ := s; obtain ⟨hl, h⟩ := h; wp_walk using wpAny_loadPart' hl, wpAny_load hl; exact ⟨_, rfl, h⟩
theorem dict_eq_declines_str (l : Addr) (es : Array DictEntry) (ep : Nat) (dd : Option Addr) (sl : Array (Option Value)) (b : Str) (u : Tok) :
    Meets (Builtin.«dict.__eq__» ⟨[.ref l, .str b u], []⟩) (fun _ R s => s.heap.get? l = some { cls := .type "dict", dict := dd, data := .dict es ep, slots := sl } ∧ R (.ok (.ret .notImplemented)) s) :=
  .of_wp fun prog w A R s h => by obtain ⟨hp, g, d, tk, os⟩ := s; obtain ⟨hl, h⟩ := h; have f1 := F.sub_str_dict; wp_walk using wpAny_loadPart' hl; exact ⟨_, rfl, h⟩
open PySem.SeqAt in
theorem rcAt_str_dict {A : Around} {s : Shared} {l : Addr} {o : Obj} {es : Array DictEntry} {ep : Nat} (b : Str) (u : Tok) (ho : s.heap.get? l = some o) (hc : o.cls = .type "dict") (hd : o.data = .dict es ep) (hu : A.units < cLine) : RcAt A s (.str b u) (.ref l) false := fun prog w E Q h => by
  obtain ⟨cls, dd, data, sl⟩ := o
  simp only at hc hd
  subst hc hd
  exact rc_eq_decline_or (k := false) (typeIs_str s b u) ⟨_, ho, rfl⟩ (by decide) F.sub_dict_str F.slot_str_eq F.slot_dict_eq_refl
    (fun _ hq => call_meets F.slot_str_eq (typeIs_str s b u) F.entry_str_eq (F.args_str_eq_2 _ _) (str_eq_declines_dict b u l es ep dd sl) ⟨ho, hq⟩)
    (fun _ hq => call_meets F.slot_dict_eq_refl ⟨_, ho, rfl⟩ F.entry_dict_eq (F.args_dict_eq_2 _ _) (dict_eq_declines_str l es ep dd sl b u) ⟨ho, hq⟩)
    (fun _ hq => wpAny_of_eq (rfl : isSame (.str b u) (.ref l) = pure false) hq) (.inr hu) h
open PySem.SeqAt in
theorem eqAt_str_dict {A : Around} {s : Shared} {l : Addr} {o : Obj} {es : Array DictEntry} {ep : Nat} (b : Str) (u : Tok) (ho : s.heap.get? l = some o) (hc : o.cls = .type "dict") (hd : o.data = .dict es ep) (hu : A.units < cLine) : EqAt A s (.str b u) (.ref l) false := fun prog w E Q h => by
  unfold eqBool
  refine wpAny_holding ?_
  refine wpAny_ite_split (fun hab => absurd (eq_of_beq hab) nofun) (fun _ => ?_)
  exact wpAny_bind (rcAt_str_dict b u ho hc hd hu prog w E _ (wpAny_truthy_bool h))
end
def isTx (d : PyData) (z : Str) : Bool := match d with
  | .str y => z == y
  | _ => false
def eqTx (d : PyData) (u : Value) : Bool := match u with
  | .str z _ => isTx d z
  | _ => false
theorem any_eqTx {d : PyData} : ∀ {ts : List Str} {us : List Value}, Vals (ts.map V.str) us → us.any (eqTx d) = ts.any (isTx d)
  | [], _, .nil => rfl
  | z :: ts, _, .cons r t => by
    obtain ⟨tk, rfl⟩ := r
    rw [List.any_cons, List.any_cons, any_eqTx t]
    rfl
def rInTx (K : PySem.W.Frag) (neg : Bool) : R2 := fun x y H Q => ∃ (p : Addr) (ts : List Str) (d : PyData), y = .ref p ∧ (SqL K H p (ts.map V.str) ∨ SqT K H p (ts.map V.str)) ∧ Dq K H x d ∧ Q (.bl (if neg then !ts.any (isTx d) else ts.any (isTx d))) H
section
variable {X : Cx}
theorem eqAt_tx {A : Around} {pins : List (Addr × Obj)} {s : Shared} {σ : L2.St} {H : Hp} {x : V} {v : Value} {d : PyData} (hu : A.units < cLine) (I : Inv X pins σ H s) (rx : RelV x v) (dx : Dq X.K H x d) (z : Str) (t : Tok) : SeqAt.EqAt A s (.str z t) v (isTx d z) := by
  cases dx with
  | non => cases rx; exact SeqAt.EqAt.str_none z t
  | bl b => cases rx; exact SeqAt.EqAt.str_bool z t b
  | int b => obtain ⟨u, rfl⟩ := rx; exact SeqAt.EqAt.str_int z t b u
  | str b => obtain ⟨u, rfl⟩ := rx; exact SeqAt.EqAt.str_str z t b u
  | lst hs _ =>
    cases rx
    obtain ⟨its, r, pl, hz⟩ := I.list (.inl (.inl hs))
    exact SeqAt.EqAt.str_list z t pl.isList hu
  | tup hs _ =>
    cases rx
    obtain ⟨its, r, pl, hz⟩ := I.tuple (.inl (.inl hs))
    exact SeqAt.EqAt.str_tuple z t pl hu
  | dct hs _ =>
    cases rx
    obtain ⟨_, sm, vs, rk, o, es, ep, ho, hx, hdt, _, hp, _⟩ := I.hok _ _ hs
    exact eqAt_str_dict z t ho hx.1 hdt hu
theorem mem_tx {A : Around} {pins : List (Addr × Obj)} {s : Shared} {σ : L2.St} {H : Hp} {x : V} {v : Value} {d : PyData} (hu : A.units < cLine) (I : Inv X pins σ H s) (rx : RelV x v) (dx : Dq X.K H x d) : ∀ {ts : List Str} {us : List Value}, Vals (ts.map V.str) us → ∀ u ∈ us, SeqAt.EqAt A s u v (eqTx d u)
  | [], _, .nil => fun u hu => by cases hu
  | z :: ts, _, .cons r t => fun u' hm => by
    rcases List.mem_cons.mp hm with rfl | hm
    · obtain ⟨tk, rfl⟩ := r
      exact eqAt_tx hu I rx dx z tk
    · exact mem_tx hu I rx dx t u' hm
theorem op_inTx (hu : X.A.units + 65 < cLine) : OpR X (compareOp .In) (rInTx X.K false) := by
  intro pins s σ H x y v u Q I rx ry h
  obtain ⟨p, ts, d, rfl, hq, dx, q⟩ := h
  cases ry
  rcases hq with hq | hq
  · obtain ⟨its, r, pl, hz⟩ := I.list hq
    refine SeqAt.in_listAt (eqTx d) pl.isList (fun w hw => mem_tx (show X.A.units + 1 < cLine by omega) I rx dx r w (by simpa using hw)) ⟨.bl _, H, I, rfl, ?_⟩
    rw [show its.toArray.any (eqTx d) = its.any (eqTx d) by simp, any_eqTx r]
    exact q
  · obtain ⟨its, r, pl, hz⟩ := I.tuple hq
    refine SeqAt.in_tupleAt (eqTx d) pl (fun w hw => mem_tx (show X.A.units + 1 < cLine by omega) I rx dx r w (by simpa using hw)) ⟨.bl _, H, I, rfl, ?_⟩
    rw [show its.toArray.any (eqTx d) = its.any (eqTx d) by simp, any_eqTx r]
    exact q
end
theorem inx' {X : Cx} {K : PySem.W.Frag} (hu : X.A.units + 65 < cLine) (h : X.K = K) : OpR X (compareOp .In) (rInTx K false) := by subst h; exact op_inTx hu
theorem dqs_strs {K : PySem.W.Frag} {B : Hp} : ∀ {ts : List Str} {vs : List V}, DqAll K B vs (ts.map PyData.str) → vs = ts.map V.str
  | [], _, h => by cases h; rfl
  | z :: ts, _, h => by
    cases h with
    | cons a b =>
      cases a
      rw [dqs_strs b]; rfl
def strsOf : List PyData → List Str
  | .str z :: r => z :: strsOf r
  | _ => []
section
variable {F : Fr} {G : List Sl} {κ : Kp}
theorem rk_inTx0 {x y : PyData} {neg : Bool} (h : ∃ ds : List PyData, (y = .list ds ∨ y = .tuple ds) ∧ (strsOf ds).map PyData.str = ds ∧ κ (.bool (if neg then !(strsOf ds).any (isTx x) else (strsOf ds).any (isTx x))) G) : RK F (rInTx F.K neg) x y G κ := fun σ H v u S dv du Q q => by
  obtain ⟨ds, e, es, k⟩ := h
  have dx : Dq F.K H v x := dp_mono low_ex dv
  rcases e with rfl | rfl
  · cases du with
    | lst hs ha =>
      rw [← es] at ha
      rw [dqs_strs ha] at hs
      exact ⟨_, strsOf ds, x, rfl, .inl (.inl (.inl (low_ex _ _ hs))), dx, q _ H _ G k S (Ex.refl _) (.bl _)⟩
  · cases du with
    | tup hs ha =>
      rw [← es] at ha
      rw [dqs_strs ha] at hs
      exact ⟨_, strsOf ds, x, rfl, .inr (.inl (.inl (low_ex _ _ hs))), dx, q _ H _ G k S (Ex.refl _) (.bl _)⟩
theorem rk_inTx {x y : PyData} (h : ∃ ds : List PyData, (y = .list ds ∨ y = .tuple ds) ∧ (strsOf ds).map PyData.str = ds ∧ κ (.bool ((strsOf ds).any (isTx x))) G) : RK F (rInTx F.K false) x y G κ := rk_inTx0 h
end
open PySem PySem.Sem PySem.SeqAt in
theorem rcAt_dict_str {A : Around} {s : Shared} {l : Addr} {o : Obj} {es : Array DictEntry} {ep : Nat} (b : Str) (u : Tok) (ho : s.heap.get? l = some o) (hc : o.cls = .type "dict") (hd : o.data = .dict es ep) (hu : A.units < cLine) : RcAt A s (.ref l) (.str b u) false := fun prog w E Q h => by
  obtain ⟨cls, dd, data, sl⟩ := o
  simp only at hc hd
  subst hc hd
  exact rc_eq_decline_or (k := false) ⟨_, ho, rfl⟩ (typeIs_str s b u) (by decide) F.sub_str_dict F.slot_dict_eq F.slot_str_eq_refl
    (fun _ hq => call_meets F.slot_dict_eq ⟨_, ho, rfl⟩ F.entry_dict_eq (F.args_dict_eq_2 _ _) (dict_eq_declines_str l es ep dd sl b u) ⟨ho, hq⟩)
    (fun _ hq => call_meets F.slot_str_eq_refl (typeIs_str s b u) F.entry_str_eq (F.args_str_eq_2 _ _) (str_eq_declines_dict b u l es ep dd sl) ⟨ho, hq⟩)
    (fun _ hq => wpAny_of_eq (rfl : isSame (.ref l) (.str b u) = pure false) hq) (.inr hu) h
def rEqTx (K : PySem.W.Frag) : R2 := fun x y H Q => ∃ (z : Str) (d : PyData), y = .str z ∧ Dq K H x d ∧ Q (.bl (isTx d z)) H
section
variable {X : Cx}
theorem op_eqTx (hu : X.A.units + 65 < cLine) : OpR X (compareOp .Eq) (rEqTx X.K) := by
  intro pins s σ H x y v u Q I rx ry h
  obtain ⟨z, d, rfl, dx, q⟩ := h
  obtain ⟨t, rfl⟩ := ry
  have fin : EP X pins σ Q (.bool (isTx d z)) s := ⟨.bl _, H, I, rfl, q⟩
  have hu' : X.A.units < cLine := by omega
  cases dx with
  | non => cases rx; exact SeqAt.RcAt.none_str z t X.prog X.w _ _ fin
  | bl b => cases rx; exact SeqAt.RcAt.bool_str b z t X.prog X.w _ _ fin
  | int b => obtain ⟨u, rfl⟩ := rx; exact SeqAt.RcAt.int_str b u z t X.prog X.w _ _ fin
  | str b =>
    obtain ⟨u, rfl⟩ := rx
    refine SeqAt.RcAt.str_str b u z t X.prog X.w _ _ ?_
    rw [show (b == z) = isTx (.str b) z from BEq.comm]
    exact fin
  | lst hs _ =>
    cases rx
    obtain ⟨its, r, pl, hz⟩ := I.list (.inl (.inl hs))
    exact SeqAt.RcAt.list_str z t pl.isList hu' X.prog X.w _ _ fin
  | tup hs _ =>
    cases rx
    obtain ⟨its, r, pl, hz⟩ := I.tuple (.inl (.inl hs))
    exact SeqAt.RcAt.tuple_str z t pl hu' X.prog X.w _ _ fin
  | dct hs _ =>
    cases rx
    obtain ⟨_, sm, vs, rk, o, es, ep, ho, hx, hdt, _, hp, _⟩ := I.hok _ _ hs
    exact rcAt_dict_str z t ho hx.1 hdt hu' X.prog X.w _ _ fin
end
theorem eqx' {X : Cx} {K : PySem.W.Frag} (hu : X.A.units + 65 < cLine) (h : X.K = K) : OpR X (compareOp .Eq) (rEqTx K) := by subst h; exact op_eqTx hu
theorem rk_eqTx {F : Fr} {G : List Sl} {κ : Kp} {x y : PyData} (h : ∃ z : Str, y = .str z ∧ κ (.bool (isTx x z)) G) : RK F (rEqTx F.K) x y G κ := fun σ H v u S dv du Q q => by
  obtain ⟨z, rfl, k⟩ := h
  cases du
  exact ⟨z, x, rfl, dp_mono low_ex dv, q _ H _ G k S (Ex.refl _) (.bl _)⟩
end DL
namespace DL
open PySem PySem.Spec PyProof.Rows HT L2 Evl
theorem range_back (n : Nat) : sliceRange ((n : Int) - 1) (-1) (-1) = (List.range n).map fun (k : Nat) => n - 1 - k := by
  unfold sliceRange
  have e1 : ¬ ((-1 : Int) > 0) := by omega
  simp only [if_neg e1]
  have e2 : (if (n : Int) - 1 > -1 then ((n : Int) - 1 - -1 - -1 - 1) / (- -1) else 0) = (n : Int) := by
    rw [show (- -1 : Int) = 1 from rfl, Int.ediv_one]
    split <;> omega
  rw [e2, Int.toNat_natCast]
  apply List.map_congr_left
  intro k hk
  have := List.mem_range.mp hk
  omega
theorem pick_backS (l : List Nat) : (((List.range l.length).map fun (k : Nat) => l.length - 1 - k).filterMap (l.toArray[·]?)) = l.reverse := by
  apply List.ext_getElem?
  intro i
  have key : ∀ k, k ≤ l.length → ((List.range k).map fun (k : Nat) => l.length - 1 - k).filterMap (l.toArray[·]?) = l.reverse.take k := by
    intro k
    induction k with
    | zero => intro _; rw [List.take_zero]; rfl
    | succ k ih =>
      intro hk
      have hk' : k < l.reverse.length := by rw [List.length_reverse]; omega
      rw [List.range_succ, List.map_append, List.filterMap_append, ih (by omega), List.take_add_one, List.getElem?_eq_getElem hk']
      have hz : l.length - 1 - k < l.length := by omega
      congr 1
      simp only [List.map_cons, List.map_nil, List.filterMap_cons, List.filterMap_nil, List.getElem?_toArray, List.getElem?_eq_getElem hz]
      rw [List.getElem_reverse]
      rfl
  rw [key _ (Nat.le_refl _), List.take_of_length_le (by rw [List.length_reverse]; exact Nat.le_refl _)]
section
variable {X : Cx}
def revS (z : Str) : Str := ⟨z.cps.toList.reverse.toArray⟩
def tRevS (te : TE) : TE := fun σ H Q => te σ H fun x H1 => ∃ z : Str, x = .str z ∧ z.length ≤ sizeLine ∧ Q (.str (revS z)) H1
theorem pe_revS {e : PySem.Expr} {te : TE} {k : Nat} {p1 p2 p3 pos : Pos} (he : PE X e te) : PE X (.Subscript e (.Slice none none (some (.UnaryOp .USub (.Constant (.int 1) k p1) p2)) p3) pos) (tRevS te) := by
  refine ⟨fun pins s σ H Q I h => ?_⟩
  refine Subscript_ (thn (he.run pins s σ H _ I h) fun v s1 ⟨x, H1, I1, r1, q1⟩ => ?_)
  obtain ⟨z, ex, hz, q⟩ := q1
  subst ex
  obtain ⟨t, rfl⟩ := r1
  have hst : PO X (some (.UnaryOp .USub (.Constant (.int 1) k p1) p2)) (tPart (tUn (rU fun i => .int (-i)) (tC (.int 1)))) := po_some (pe_un un_neg pe_int)
  refine wpAny_Slice (thn (po_none.run pins s1 σ H1 (fun o H2 => o = none ∧ H2 = H1) I1 ⟨rfl, rfl⟩) fun vl s2 ⟨l, H2, I2, pl, el, e2⟩ => ?_)
  subst el e2
  refine thn (po_none.run pins s2 σ H2 (fun o H3 => o = none ∧ H3 = H2) I2 ⟨rfl, rfl⟩) fun vu s3 ⟨u, H3, I3, pu, eu, e3⟩ => ?_
  subst eu e3
  refine thn (hst.run pins s3 σ H3 (fun o H4 => o = some (-1) ∧ H4 = H3) I3 ⟨1, rfl, -1, rfl, rfl, rfl⟩) fun vs s4 ⟨o, H4, I4, ps, eo, e4⟩ => ?_
  subst eo e4
  have I5 : Inv X pins σ H4 { s4 with heap := s4.heap.push { cls := .type "slice", data := .fields #[vl, vu, vs] } } := I4.kept (t' := s4.toks) fun b ob q => Heap.get?_push_of_some _ q
  obtain ⟨st, rfl, est⟩ := IsPart.raw ps
  cases pl
  cases pu
  show wpAny (model X.prog X.w) X.A (subscriptTail e (.Slice none none (some (.UnaryOp .USub (.Constant (.int 1) k p1) p2)) p3) (.str z t) (.ref s4.heap.objs.size)) (EP X pins σ Q) X.xe { s4 with heap := s4.heap.push { cls := .type "slice", data := .fields #[.none, .none, partValue st] } }
  refine tail_any (ops := [.str z t, .ref s4.heap.objs.size]) (typeIs_str _ _ _) (F.slot_str_getitem.lookup) ?_ (by with_unfolding_all rfl)
  have est1 : (st.map (·.1)).getD 1 = -1 := by rw [est]; rfl
  refine wpAny_getItem_str_slice (l := none) (u := none) (st := st) ⟨_, Heap.get?_push_size _ rfl, rfl, rfl⟩ (by rw [est1]; rfl) ?_
  have hp : (slicePicked z none none st).filterMap (z.cps[·]?) = z.cps.toList.reverse := by
    unfold slicePicked
    rw [est1]
    show (Builtin.Str.strSliceIndices none none (-1) z.length).filterMap (z.cps[·]?) = _
    unfold Builtin.Str.strSliceIndices
    show (sliceRange ((z.length : Int) - 1) (-1) (-1)).filterMap (z.cps[·]?) = _
    rw [range_back, show z.length = z.cps.toList.length by rw [Array.length_toList]; rfl]
    have := pick_backS z.cps.toList
    simpa using this
  unfold sliceMade
  rw [est1, if_neg (by intro h; rw [Bool.and_eq_true] at h; exact absurd h.1 (by decide)), hp]
  have hl : (revS z).length ≤ sizeLine := by
    show z.cps.toList.reverse.toArray.size ≤ sizeLine
    rw [List.size_toArray, List.length_reverse, Array.length_toList]
    exact hz
  exact ⟨hl, .str _, H4, I5.tok _, ⟨_, rfl⟩, q⟩
end
section
variable {F : Fr} {G : List Sl} {κ : Kp} {ta tb te : TE}
def IsStr (x : PyData) (k : Str → Prop) : Prop := ∃ z, x = .str z ∧ k z
theorem dq_str {K : PySem.W.Frag} {B : Hp} {v : V} {z : Str} (h : Dq K B v (.str z)) : v = .str z := by cases h; rfl
theorem rk_addS {x y : PyData} (h : IsStr x fun a => IsStr y fun b => a.length + b.length ≤ 100000 ∧ κ (.str (a ++ b)) G) : RK F (fun x y H Q => ∃ i j, x = .str i ∧ y = .str j ∧ i.length + j.length ≤ sizeLine ∧ Q (.str (i ++ j)) H) x y G κ := fun σ H v u S dv du Q q => by
  obtain ⟨a, rfl, b, rfl, hl, k⟩ := h
  exact ⟨a, b, dq_str dv, dq_str du, Nat.le_trans hl (by decide), q _ H _ G k S (Ex.refl _) (.str _)⟩
theorem rk_ixS {x y : PyData} (h : IsStr x fun z => ∃ i, y = .int i ∧ 0 ≤ i ∧ i < (z.length : Int) ∧ z.length ≤ 100000 ∧ ∀ c, c ∈ z.cps.toList → κ (.str ⟨#[c]⟩) G) : RK F rIxS x y G κ := fun σ H v u S dv du Q q => by
  obtain ⟨z, rfl, i, rfl, h0, h1, hl, k⟩ := h
  cases du
  obtain ⟨c, e, hc⟩ := atI_ok (xs := z.cps.toList) h0 (by rw [Array.length_toList]; exact h1)
  exact ⟨z, i, c, dq_str dv, rfl, Nat.le_trans hl (by decide), e, q _ H _ G (k c hc) S (Ex.refl _) (.str _)⟩
theorem ck_lenS {xs : List PyData} (h : ∃ z : Str, xs = [.str z] ∧ z.length ≤ 100000 ∧ κ (.int (z.length : Int)) G) : CK F (fun xs H Q => ∃ z, xs = [.str z] ∧ z.length ≤ sizeLine ∧ Q (.int z.length) H) xs G κ := fun σ H vs S d Q q => by
  obtain ⟨z, rfl, hl, k⟩ := h
  obtain ⟨v, rfl, dv⟩ := dps1 d
  rw [dq_str dv]
  exact ⟨z, rfl, Nat.le_trans hl (by decide), q _ H _ G k S (Ex.refl _) (.int _)⟩
theorem ek_revS (h : EK F G te fun x G1 => IsStr x fun z => z.length ≤ 100000 ∧ κ (.str (revS z)) G1) : EK F G (tRevS te) κ := fun σ H S Q q =>
  h σ H S _ fun v H1 x G1 ⟨z, ex, hl, k⟩ S1 e1 d1 => by
    subst ex
    exact ⟨z, dq_str d1, Nat.le_trans hl (by decide), q _ H1 _ G1 k S1 e1 (.str _)⟩
end
theorem cutS_len (z : Str) (a b : Option Int) : (cutS z a b).length ≤ z.length := cutS_length z a b
theorem cutS_mem {z : Str} {a b : Option Int} {c : Nat} (h : c ∈ (cutS z a b).cps.toList) : c ∈ z.cps.toList := by
  unfold cutS at h
  exact List.mem_of_mem_drop (List.mem_of_mem_take h)
theorem revS_len (z : Str) : (revS z).length = z.length := by
  show z.cps.toList.reverse.toArray.size = z.cps.size
  rw [List.size_toArray, List.length_reverse, Array.length_toList]
theorem revS_mem {z : Str} {c : Nat} (h : c ∈ (revS z).cps.toList) : c ∈ z.cps.toList := by
  exact List.mem_reverse.mp h
theorem addS_len (a b : Str) : (a ++ b : Str).length = a.length + b.length := strLen_append a b
theorem addS_mem {a b : Str} {c : Nat} (h : c ∈ (a ++ b : Str).cps.toList) : c ∈ a.cps.toList ∨ c ∈ b.cps.toList := by
  have h' : c ∈ (a.cps ++ b.cps).toList := h
  rw [Array.toList_append] at h'
  exact List.mem_append.mp h'
structure Tt (n : Nat) (z : Str) : Prop where
  ln : z.length ≤ n
  sg : ∀ c ∈ z.cps.toList, c < 4294967296
theorem Tt.mono {n m : Nat} {z : Str} (h : Tt n z) (k : n ≤ m) : Tt m z := ⟨Nat.le_trans h.ln k, h.sg⟩
theorem Tt.add {n m : Nat} {a b : Str} (h : Tt n a) (k : Tt m b) : Tt (n + m) (a ++ b) :=
  ⟨by rw [addS_len]; exact Nat.add_le_add h.ln k.ln, fun c hc => (addS_mem hc).elim (h.sg c) (k.sg c)⟩
theorem Tt.cut {n : Nat} {z : Str} (h : Tt n z) (a b : Option Int) : Tt n (cutS z a b) := ⟨Nat.le_trans (cutS_len z a b) h.ln, fun c hc => h.sg c (cutS_mem hc)⟩
theorem Tt.rev {n : Nat} {z : Str} (h : Tt n z) : Tt n (revS z) := ⟨by rw [revS_len]; exact h.ln, fun c hc => h.sg c (revS_mem hc)⟩
theorem Tt.one {n : Nat} {z : Str} (h : Tt n z) {c : Nat} (hc : c ∈ z.cps.toList) : Tt 1 ⟨#[c]⟩ := ⟨Nat.le_refl _, fun d hd => by
  have e : d = c := by simpa using hd
  rw [e]; exact h.sg c hc⟩
structure Sh (n d : Nat) (x : PyData) : Prop where
  sh : x.showable = true
  ln : x.shown.length ≤ n
  dp : x.depth ≤ d
theorem Sh.mono {n d n' d' : Nat} {x : PyData} (h : Sh n d x) (hn : n ≤ n') (hd : d ≤ d') : Sh n' d' x := ⟨h.sh, Nat.le_trans h.ln hn, Nat.le_trans h.dp hd⟩
theorem sh_str {n : Nat} {z : Str} (h : Tt n z) : Sh (10 * n + 2) 0 (.str z) := by
  refine ⟨rfl, ?_, Nat.le_refl _⟩
  have h1 := StrLaws.reprText_len z fun c hc => Nat.lt_of_lt_of_le (h.sg c hc) (by decide)
  have h2 := h.ln
  show (reprText z).length ≤ _
  omega
theorem log2_60 {i : Int} (h : i.natAbs < 10 ^ 60) : i.natAbs.log2 < 1920 := by
  by_cases z : i.natAbs = 0
  · rw [z]; decide
  · exact (Nat.log2_lt z).mpr (Nat.lt_of_lt_of_le h (by decide +kernel))
theorem sh_int {i : Int} (h : i.natAbs < 10 ^ 60) : Sh 61 0 (.int i) := by
  refine ⟨?_, ?_, Nat.le_refl _⟩
  · simp only [PyData.showable, decide_eq_true_eq]; exact log2_60 h
  · have e := int_text_length_le10 (k := 60) (by decide) h
    show (Str.ofString (toString i)).length ≤ 61
    rw [PySem.ofString_length]; exact e
theorem tx_int {i : Int} (h : i.natAbs < 10 ^ 60) : Tt 61 (toString i : String) := by
  refine ⟨?_, fun c hc => ?_⟩
  · have e := int_text_length_le10 (k := 60) (by decide) h
    show (Str.ofString (toString i)).length ≤ 61
    rw [PySem.ofString_length]; exact e
  · by_cases z : 57 < c
    · exact absurd hc (int_text_free' c ⟨by omega, .inr z⟩ i)
    · omega
theorem shAll {n d : Nat} : ∀ {xs : List PyData}, (∀ x ∈ xs, Sh n d x) → PyData.showableAll xs = true ∧ ((PyData.shownAll xs).map (·.length)).sum ≤ xs.length * n ∧ PyData.depthAll xs ≤ d
  | [], _ => ⟨rfl, Nat.zero_le _, Nat.zero_le _⟩
  | x :: xs, h => by
    have a := h x (List.mem_cons_self ..)
    obtain ⟨b1, b2, b3⟩ := shAll (xs := xs) fun y hy => h y (List.mem_cons_of_mem _ hy)
    refine ⟨?_, ?_, ?_⟩
    · simp only [PyData.showableAll, a.sh, b1, Bool.and_self]
    · have h1 := a.ln
      simp only [PyData.shownAll, List.map_cons, List.sum_cons, List.length_cons, Nat.add_mul, Nat.one_mul]
      omega
    · have h1 := a.dp
      simp only [PyData.depthAll]
      omega
theorem sh_list {n d m : Nat} {xs : List PyData} (h : ∀ x ∈ xs, Sh n d x) (hm : xs.length ≤ m) : Sh (m * (n + 2) + 3) (d + 1) (.list xs) := by
  obtain ⟨a1, a2, a3⟩ := shAll h
  refine ⟨by simpa only [PyData.showable] using a1, ?_, by simpa only [PyData.depth] using Nat.succ_le_succ a3⟩
  have h2 := listText_len_le (PyData.shownAll xs)
  rw [PyData.shownAll_length] at h2
  have h3 : xs.length * (n + 2) ≤ m * (n + 2) := Nat.mul_le_mul_right _ hm
  rw [Nat.mul_add] at h3
  show (listText (PyData.shownAll xs)).length ≤ _
  omega
theorem Sm.sh' {n d : Nat} {x : PyData} (h : Sm n d x) : Sh (15 * n + 13) d x := ⟨h.sh, PyData.shown_le 13 (by decide) x h.lv |> fun q => Nat.le_trans q (by have := h.wt; omega), h.dp⟩
section
variable {F : Fr} {G : List Sl} {κ : Kp}
theorem ck_reprH {xs : List PyData} {n d : Nat} (hn : n ≤ 16000000) (hd : d ≤ 60) (h : ∃ x, xs = [x] ∧ Sh n d x ∧ κ (.str x.shown) G) : CK F (rRepr F.K) xs G κ := fun σ H vs S dd Q q => by
  obtain ⟨x, rfl, s, k⟩ := h
  obtain ⟨v, rfl, dv⟩ := dps1 dd
  exact ⟨v, x, rfl, dp_mono low_ex dv, s.sh, Nat.le_trans s.dp hd, Nat.le_trans (Nat.le_trans s.ln hn) (by decide), q _ H _ G k S (Ex.refl _) (.str _)⟩
end
def AllSh (n d : Nat) (xs : List PyData) : Prop := ∀ x ∈ xs, Sh n d x
theorem all_nil {n d : Nat} : AllSh n d [] := fun _ h => nomatch h
theorem all_mono {n d n' d' : Nat} {xs : List PyData} (h : AllSh n d xs) (hn : n ≤ n') (hd : d ≤ d') : AllSh n' d' xs := fun x hx => (h x hx).mono hn hd
end DL
namespace DL
open PySem PySem.Spec PyProof.Rows HT L2 Evl
section
variable {F : Fr} {G : List Sl} {κ : Kp} {ta tb te : TE}
theorem rk_addX {a b : Str} {n m : Nat} (ha : Tt n a) (hb : Tt m b) (hl : n + m ≤ 100000) (k : κ (.str (a ++ b)) G) : RK F (fun x y H Q => ∃ i j, x = .str i ∧ y = .str j ∧ i.length + j.length ≤ sizeLine ∧ Q (.str (i ++ j)) H) (.str a) (.str b) G κ :=
  rk_addS ⟨a, rfl, b, rfl, Nat.le_trans (Nat.add_le_add ha.ln hb.ln) hl, k⟩
theorem rk_ixX {z : Str} {i : Int} {n : Nat} (h0 : 0 ≤ i) (h1 : i < (z.length : Int)) (hz : Tt n z) (hl : n ≤ 100000) (k : ∀ c, c ∈ z.cps.toList → Tt 1 ⟨#[c]⟩ → κ (.str ⟨#[c]⟩) G) : RK F rIxS (.str z) (.int i) G κ :=
  rk_ixS ⟨z, rfl, i, rfl, h0, h1, Nat.le_trans hz.ln hl, fun c hc => k c hc (hz.one hc)⟩
def ShortS (x : PyData) (k : Str → Prop) : Prop := ∃ z n, x = .str z ∧ Tt n z ∧ n ≤ 100000 ∧ k z
theorem shortS {z : Str} {n : Nat} {k : Str → Prop} (hz : Tt n z) (hl : n ≤ 100000) (h : k z) : ShortS (.str z) k := ⟨z, n, rfl, hz, hl, h⟩
theorem ek_slX {lo hi : TO} (h : EK F G te fun x G1 => EP_ F G1 lo fun a G2 => EP_ F G2 hi fun b G3 => ShortS x fun z => κ (.str (cutS z a b)) G3) : EK F G (tSl rSlS te lo hi) κ := fun σ H S Q q =>
  h σ H S _ fun v H1 x G1 k1 S1 e1 d1 => k1 σ H1 S1 _ fun a H2 G2 k2 S2 e2 => k2 σ H2 S2 _ fun b H3 G3 ⟨z, n, ex, hz, hl, k3⟩ S3 e3 => by
    subst ex
    exact ⟨z, dq_str d1, Nat.le_trans (Nat.le_trans hz.ln hl) (by decide), q _ H3 _ G3 k3 S3 ((e1.trans e2).trans e3) (.str _)⟩
theorem ck_lenX {z : Str} {n : Nat} (hz : Tt n z) (hl : n ≤ 100000) (k : κ (.int (z.length : Int)) G) : CK F (fun xs H Q => ∃ z, xs = [.str z] ∧ z.length ≤ sizeLine ∧ Q (.int z.length) H) [.str z] G κ :=
  ck_lenS ⟨z, rfl, Nat.le_trans hz.ln hl, k⟩
theorem ek_revX (h : EK F G te fun x G1 => ShortS x fun z => κ (.str (revS z)) G1) : EK F G (tRevS te) κ := ek_revS (h.mono fun x G1 ⟨z, n, ex, hz, hl, k⟩ => ⟨z, ex, Nat.le_trans hz.ln hl, k⟩)
theorem ck_strX {i : Int} (h : i.natAbs < 10 ^ 60) (k : κ (.str (toString i)) G) : CK F (fun xs H Q => ∃ i, xs = [.int i] ∧ i.natAbs.log2 < 1920 ∧ Q (.str (toString i)) H) [.int i] G κ := ck_strI ⟨i, rfl, log2_60 h, k⟩
theorem ck_reprX {x : PyData} {n d : Nat} (h : Sh n d x) (hn : n ≤ 16000000) (hd : d ≤ 60) (k : κ (.str x.shown) G) : CK F (rRepr F.K) [x] G κ := ck_reprH hn hd ⟨x, rfl, h, k⟩
end
structure Su (n d : Nat) (xs : List PyData) : Prop where
  sh : PyData.showableAll xs = true
  sm : ((PyData.shownAll xs).map (·.length)).sum + 2 * xs.length ≤ n
  dp : PyData.depthAll xs ≤ d
theorem su_nil : Su 0 0 [] := ⟨rfl, Nat.le_refl _, Nat.le_refl _⟩
theorem su_cons {n d n' d' : Nat} {x : PyData} {xs : List PyData} (h : Sh n d x) (k : Su n' d' xs) : Su (n + 2 + n') (max d d') (x :: xs) := by
  obtain ⟨a1, a2, a3⟩ := h
  obtain ⟨b1, b2, b3⟩ := k
  refine ⟨?_, ?_, ?_⟩
  · simp only [PyData.showableAll, a1, b1, Bool.and_self]
  · simp only [PyData.shownAll, List.map_cons, List.sum_cons, List.length_cons]
    omega
  · simp only [PyData.depthAll]
    omega
theorem sh_tupleS {n d : Nat} {xs : List PyData} (h : Su n d xs) : Sh (n + 3) (d + 1) (.tuple xs) := by
  refine ⟨by simpa only [PyData.showable] using h.sh, ?_, by simpa only [PyData.depth] using Nat.succ_le_succ h.dp⟩
  have h2 := tupleText_len_le (PyData.shownAll xs)
  rw [PyData.shownAll_length] at h2
  have := h.sm
  show (tupleText (PyData.shownAll xs)).length ≤ _
  omega
end DL
namespace DL
open PySem PySem.Spec PyProof.Rows HT L2 Evl
section
variable {X : Cx}
def rNeT0 (K : PySem.W.Frag) : R2 := fun x y H Q => ∃ p q xs, x = .ref p ∧ y = .ref q ∧ SqT K H p xs ∧ SqT K H q [] ∧ Q (.bl (!xs.isEmpty)) H
theorem op_neT0 (hu : X.A.units + 64 < cLine) : OpR X (compareOp .NotEq) (rNeT0 X.K) := by
  intro pins s σ H x y v u Q I rx ry h
  obtain ⟨p, q, xs, rfl, rfl, hp, hq, k⟩ := h
  cases rx
  cases ry
  obtain ⟨its, r, hl, _⟩ := I.tuple hp
  obtain ⟨its2, r2, hl2, _⟩ := I.tuple hq
  cases r2
  have hu' : X.A.units < cLine := by omega
  refine SeqAt.RcNeAt.tuples (e := fun _ => true) hl hl2 hu' (fun j h1 h2 => absurd h2 (by simp)) X.prog X.w _ _ ?_
  have e : (!((List.range (min its.toArray.size ([] : List Value).toArray.size)).all (fun _ => true) && its.toArray.size == ([] : List Value).toArray.size)) = !xs.isEmpty := by
    have hlen := r.length
    have h1 : ([] : List Value).toArray.size = 0 := rfl
    rw [h1, Nat.min_zero, List.range_zero, List.all_nil, Bool.true_and, List.size_toArray]
    cases xs with
    | nil => rw [← hlen]; rfl
    | cons a t => rw [← hlen]; rfl
  rw [e]
  exact ⟨.bl _, H, I, rfl, k⟩
theorem net0' {K : PySem.W.Frag} (hu : X.A.units + 64 < cLine) (h : X.K = K) : OpR X (compareOp .NotEq) (rNeT0 K) := by subst h; exact op_neT0 hu
end
section
variable {F : Fr} {G : List Sl} {κ : Kp}
theorem rk_neT0 {ds : List PyData} (k : κ (.bool (!ds.isEmpty)) G) : RK F (rNeT0 F.K) (.tuple ds) (.tuple []) G κ := fun σ H v u S dv du Q q => by
  cases dv with
  | @tup a xs _ h1 a1 =>
    cases du with
    | tup h2 a2 =>
      cases a2
      refine ⟨_, _, _, rfl, rfl, .inl (.inl (low_ex _ _ h1)), .inl (.inl (low_ex _ _ h2)), ?_⟩
      have e : (!xs.isEmpty) = !ds.isEmpty := by
        have := dps_length a1
        cases ds with
        | nil => cases a1; rfl
        | cons d ds => cases a1; rfl
      rw [e]
      exact q _ H _ G k S (Ex.refl _) (.bl _)
end
structure Wt (L n d : Nat) (x : PyData) : Prop where
  sh : x.showable = true
  lv : x.leavesShort L = true
  wt : x.weight ≤ n
  dp : x.depth ≤ d
structure Ws (L n d : Nat) (xs : List PyData) : Prop where
  sh : PyData.showableAll xs = true
  lv : PyData.leavesShortAll L xs = true
  wt : PyData.weightAll xs ≤ n
  dp : PyData.depthAll xs ≤ d
mutual
theorem lv_mono {L M : Nat} (h : L ≤ M) : ∀ {x : PyData}, x.leavesShort L = true → x.leavesShort M = true
  | .none, _ => rfl
  | .bool _, _ => rfl
  | .int i, k => by simp only [PyData.leavesShort, decide_eq_true_eq] at k ⊢; exact Nat.le_trans k h
  | .str z, k => k
  | .list xs, k => by simp only [PyData.leavesShort] at k ⊢; exact lvs_mono h k
  | .tuple xs, k => by simp only [PyData.leavesShort] at k ⊢; exact lvs_mono h k
  | .dict kvs, k => by simp only [PyData.leavesShort] at k ⊢; exact lvk_mono h k
theorem lvs_mono {L M : Nat} (h : L ≤ M) : ∀ {xs : List PyData}, PyData.leavesShortAll L xs = true → PyData.leavesShortAll M xs = true
  | [], _ => rfl
  | x :: xs, k => by
    simp only [PyData.leavesShortAll, Bool.and_eq_true] at k ⊢
    exact ⟨lv_mono h k.1, lvs_mono h k.2⟩
theorem lvk_mono {L M : Nat} (h : L ≤ M) : ∀ {xs : List (PyData × PyData)}, PyData.leavesShortKv L xs = true → PyData.leavesShortKv M xs = true
  | [], _ => rfl
  | (a, b) :: xs, k => by
    simp only [PyData.leavesShortKv, Bool.and_eq_true] at k ⊢
    exact ⟨⟨lv_mono h k.1.1, lv_mono h k.1.2⟩, lvk_mono h k.2⟩
end
theorem Wt.mono {L n d L' n' d' : Nat} {x : PyData} (h : Wt L n d x) (hL : L ≤ L') (hn : n ≤ n') (hd : d ≤ d') : Wt L' n' d' x := ⟨h.sh, lv_mono hL h.lv, Nat.le_trans h.wt hn, Nat.le_trans h.dp hd⟩
theorem Ws.mono {L n d L' n' d' : Nat} {x : List PyData} (h : Ws L n d x) (hL : L ≤ L') (hn : n ≤ n') (hd : d ≤ d') : Ws L' n' d' x := ⟨h.sh, lvs_mono hL h.lv, Nat.le_trans h.wt hn, Nat.le_trans h.dp hd⟩
theorem wt_none : Wt 0 0 0 .none := ⟨rfl, rfl, Nat.le_refl _, Nat.le_refl _⟩
theorem wt_bool (b : Bool) : Wt 0 0 0 (.bool b) := ⟨rfl, rfl, Nat.le_refl _, Nat.le_refl _⟩
theorem wt_str {n : Nat} {z : Str} (h : Tt n z) : Wt 0 n 0 (.str z) := by
  refine ⟨rfl, ?_, h.ln, Nat.le_refl _⟩
  simp only [PyData.leavesShort, List.all_eq_true, decide_eq_true_eq]
  exact fun c hc => Nat.lt_of_lt_of_le (h.sg c hc) (by decide)
theorem log2_10 {i : Int} {k : Nat} (hk : 0 < k) (h : i.natAbs < 10 ^ k) : i.natAbs.log2 < 4 * k := by
  by_cases z : i.natAbs = 0
  · rw [z]; show (0 : Nat) < _; omega
  · refine (Nat.log2_lt z).mpr (Nat.lt_of_lt_of_le h ?_)
    rw [Nat.pow_mul]
    exact Nat.pow_le_pow_left (by decide) k
theorem wt_int {i : Int} {k : Nat} (hk : 0 < k) (h : i.natAbs < 10 ^ k) (hk2 : 4 * k ≤ 1920) : Wt (k + 1) (4 * k + 1) 0 (.int i) := by
  have hl := log2_10 hk h
  refine ⟨?_, ?_, ?_, Nat.le_refl _⟩
  · simp only [PyData.showable, decide_eq_true_eq]; omega
  · have e := int_text_length_le10 hk h
    simp only [PyData.leavesShort, decide_eq_true_eq]
    show (Str.ofString (toString i)).length ≤ k + 1
    rw [PySem.ofString_length]; exact e
  · simp only [PyData.weight]
    split <;> omega
theorem wt_int13 {i : Int} (h : i.natAbs < 10 ^ 12) : Wt 13 49 0 (.int i) := wt_int (k := 12) (by decide) h (by decide)
theorem ws_nil : Ws 0 0 0 [] := ⟨rfl, rfl, Nat.le_refl _, Nat.le_refl _⟩
theorem ws_cons {L n d L' n' d' : Nat} {x : PyData} {xs : List PyData} (h : Wt L n d x) (k : Ws L' n' d' xs) : Ws (max L L') (n + 1 + n') (max d d') (x :: xs) := by
  obtain ⟨a1, a2, a3, a4⟩ := h
  obtain ⟨b1, b2, b3, b4⟩ := k
  refine ⟨?_, ?_, ?_, ?_⟩
  · simp only [PyData.showableAll, a1, b1, Bool.and_self]
  · simp only [PyData.leavesShortAll, lv_mono (Nat.le_max_left ..) a2, lvs_mono (Nat.le_max_right ..) b2, Bool.and_self]
  · simp only [PyData.weightAll]; omega
  · simp only [PyData.depthAll]; omega
theorem ws_head {L n d : Nat} {x : PyData} {xs : List PyData} (h : Ws L n d (x :: xs)) : ∃ m k, m + 1 + k ≤ n ∧ Wt L m d x ∧ Ws L k d xs := by
  obtain ⟨a1, a2, a3, a4⟩ := h
  simp only [PyData.showableAll, Bool.and_eq_true] at a1
  simp only [PyData.leavesShortAll, Bool.and_eq_true] at a2
  simp only [PyData.weightAll] at a3
  simp only [PyData.depthAll] at a4
  exact ⟨x.weight, PyData.weightAll xs, a3, ⟨a1.1, a2.1, Nat.le_refl _, by omega⟩, ⟨a1.2, a2.2, Nat.le_refl _, by omega⟩⟩
theorem ws_app {L n d : Nat} {ys : List PyData} (k : Ws L n d ys) : ∀ {L' n' d' : Nat} {xs : List PyData}, Ws L' n' d' xs → Ws (max L' L) (n' + n) (max d' d) (xs ++ ys)
  | _, _, _, [], _ => k.mono (Nat.le_max_right ..) (Nat.le_add_left ..) (Nat.le_max_right ..)
  | _, _, _, x :: xs, h => by
    obtain ⟨m, j, hm, h1, h2⟩ := ws_head h
    exact (ws_cons h1 (ws_app k h2)).mono (by omega) (by omega) (by omega)
theorem ws_mem {L n d : Nat} : ∀ {xs : List PyData}, Ws L n d xs → ∀ x ∈ xs, Wt L n d x
  | [], _, _, hx => nomatch hx
  | y :: xs, h, x, hx => by
    obtain ⟨m, j, hm, h1, h2⟩ := ws_head h
    rcases List.mem_cons.mp hx with rfl | q
    · exact h1.mono (Nat.le_refl _) (by omega) (Nat.le_refl _)
    · exact (ws_mem h2 x q).mono (Nat.le_refl _) (by omega) (Nat.le_refl _)
theorem ws_sub {L d : Nat} {xs ys : List PyData} (s : List.Sublist ys xs) : ∀ {n : Nat}, Ws L n d xs → Ws L n d ys := by
  induction s with
  | slnil => exact id
  | cons a s ih =>
    intro n h
    obtain ⟨m, j, hm, h1, h2⟩ := ws_head h
    exact (ih h2).mono (Nat.le_refl _) (by omega) (Nat.le_refl _)
  | cons_cons a s ih =>
    intro n h
    obtain ⟨m, j, hm, h1, h2⟩ := ws_head h
    exact (ws_cons h1 (ih h2)).mono (by omega) (by omega) (by omega)
theorem ws_cut {L n d : Nat} {xs : List PyData} (h : Ws L n d xs) (a b : Option Int) : Ws L n d (cutD xs a b) := ws_sub ((List.take_sublist ..).trans (List.drop_sublist ..)) h
theorem ws_rev {L d : Nat} : ∀ {xs : List PyData} {n : Nat}, Ws L n d xs → Ws L n d xs.reverse
  | [], _, h => h
  | x :: xs, n, h => by
    obtain ⟨m, j, hm, h1, h2⟩ := ws_head h
    rw [List.reverse_cons]
    exact (ws_app (ws_cons h1 ws_nil) (ws_rev h2)).mono (by omega) (by omega) (by omega)
theorem wt_tuple {L n d : Nat} {xs : List PyData} (h : Ws L n d xs) : Wt L n (d + 1) (.tuple xs) :=
  ⟨by simpa only [PyData.showable] using h.sh, by simpa only [PyData.leavesShort] using h.lv, by simpa only [PyData.weight] using h.wt, by simpa only [PyData.depth] using Nat.succ_le_succ h.dp⟩
theorem wt_list {L n d : Nat} {xs : List PyData} (h : Ws L n d xs) : Wt L n (d + 1) (.list xs) :=
  ⟨by simpa only [PyData.showable] using h.sh, by simpa only [PyData.leavesShort] using h.lv, by simpa only [PyData.weight] using h.wt, by simpa only [PyData.depth] using Nat.succ_le_succ h.dp⟩
theorem wt_untuple {L n d : Nat} {xs : List PyData} (h : Wt L n d (.tuple xs)) : 1 ≤ d ∧ Ws L n (d - 1) xs := by
  obtain ⟨a1, a2, a3, a4⟩ := h
  simp only [PyData.showable] at a1
  simp only [PyData.leavesShort] at a2
  simp only [PyData.weight] at a3
  simp only [PyData.depth] at a4
  exact ⟨by omega, a1, a2, a3, by omega⟩
theorem ws_len {L n d : Nat} : ∀ {xs : List PyData}, Ws L n d xs → xs.length ≤ n := by
  intro xs
  induction xs generalizing n with
  | nil => intro _; exact Nat.zero_le _
  | cons x xs ih =>
    intro h
    obtain ⟨m, j, hm, h1, h2⟩ := ws_head h
    have := ih h2
    rw [List.length_cons]; omega
theorem wt_tt {L n d : Nat} {z : Str} (h : Wt L n d (.str z)) : Tt n z := by
  refine ⟨h.wt, ?_⟩
  have := h.lv
  simp only [PyData.leavesShort, List.all_eq_true, decide_eq_true_eq] at this
  exact this
theorem wt_nat {L n d : Nat} {i : Int} (hL : 0 < L) (h : Wt L n d (.int i)) : i.natAbs < 10 ^ L := by
  have e := h.lv
  simp only [PyData.leavesShort, decide_eq_true_eq] at e
  have e : (Str.ofString (toString i)).length ≤ L := e
  rw [PySem.ofString_length] at e
  cases i with
  | ofNat m => exact (Nat.length_repr_le_iff hL).mp e
  | negSucc m =>
    have e1 : toString (Int.negSucc m) = "-" ++ Nat.repr (m + 1) := rfl
    rw [e1, String.length_append] at e
    exact (Nat.length_repr_le_iff (n := m + 1) hL).mp (by omega)
theorem Wt.sh' {L n d : Nat} {x : PyData} (h : Wt L n d x) (hL : L ≤ 100) : Sh (102 * n + 100) d x := by
  refine ⟨h.sh, ?_, h.dp⟩
  have e := PyData.shown_le 100 (by decide) x (lv_mono hL h.lv)
  have := h.wt
  omega
def AllWt (L n d : Nat) (xs : List PyData) : Prop := ∀ x ∈ xs, Wt L n d x
theorem allw_nil {L n d : Nat} : AllWt L n d [] := fun _ h => nomatch h
theorem allw_cons {L n d : Nat} {x : PyData} {xs : List PyData} (h : Wt L n d x) (k : AllWt L n d xs) : AllWt L n d (x :: xs) := fun y hy => by
  rcases List.mem_cons.mp hy with rfl | q
  · exact h
  · exact k y q
theorem allw_app {L n d : Nat} {xs ys : List PyData} (h : AllWt L n d xs) (k : AllWt L n d ys) : AllWt L n d (xs ++ ys) := fun y hy => (List.mem_append.mp hy).elim (h y) (k y)
section
variable {F : Fr} {G : List Sl} {κ : Kp}
theorem rk_ixWtT {ds : List PyData} {i : Int} {L n d : Nat} (h0 : 0 ≤ i) (h1 : i < (ds.length : Int)) (ha : Ws L n d ds) (k : ∀ z, Wt L n d z → κ z G) : RK F (rIxT F.K) (.tuple ds) (.int i) G κ := by
  obtain ⟨x, e, hx⟩ := atI_ok h0 h1
  exact rk_ixT ⟨_, _, _, rfl, rfl, e, k x (ws_mem ha x hx)⟩
theorem rk_catW {ds es : List PyData} {L n d L' m d' : Nat} (h1 : Ws L n d ds) (h2 : Ws L' m d' es) (hl : n + m ≤ 1000000) (k : κ (.tuple (ds ++ es)) G) : RK F (rCatA F.K) (.tuple ds) (.tuple es) G κ :=
  rk_catA ⟨ds, es, rfl, rfl, Nat.le_trans (Nat.add_le_add (ws_len h1) (ws_len h2)) hl, k⟩
theorem ck_reprW {x : PyData} {L n d : Nat} (h : Wt L n d x) (hL : L ≤ 100) (hn : n ≤ 100000) (hd : d ≤ 60) (k : κ (.str x.shown) G) : CK F (rRepr F.K) [x] G κ := ck_reprH (n := 102 * n + 100) (by omega) hd ⟨x, rfl, h.sh' hL, k⟩
end
end DL
namespace DL
open PySem L2 Evl
end DL
namespace DL
open PySem L2 Evl
end DL
namespace DL
open PySem PySem.Spec PyProof.Rows L2 Evl
end DL
namespace DL
open PySem PySem.Spec PyProof.Rows L2 Evl
end DL
namespace DL
open PySem PySem.Spec PyProof.Rows L2 Evl
end DL
namespace DL
open PySem PySem.Spec PyProof.Rows L2 Evl
end DL
namespace DL
open PySem PySem.Spec PyProof.Rows L2 Evl
end DL
namespace DL
open PySem PySem.Spec PyProof.Rows L2 Evl
end DL
namespace DL
open PySem PySem.Spec PyProof.Rows L2 Evl
end DL
namespace DL
open PySem PySem.Spec PyProof.Rows L2 Evl
end DL
namespace DL
open PySem PySem.Spec PyProof.Rows L2 Evl
section
variable {F : Fr} {G : List Sl} {te : TE} {tr : TA} {α : Kps}
theorem eo_sortN (h : EK F G te fun x G1 => ∃ ns : List Int, x = .list (ns.map .int) ∧ ∀ ns' : List Int, ns'.Perm ns → ns'.Pairwise (· ≤ ·) → α (ns'.map .int) G1) : EO F G (tCB (rSortedI F.K) (tCons te tNil)) α := fun σ H S Q q =>
  h σ H S _ fun v H1 x G1 ⟨ns, ex, k⟩ S1 e1 d1 => by
    subst ex
    cases d1 with
    | lst hs ha =>
      rw [dps_ints_inv ha] at hs
      refine ⟨_, ns, rfl, .inl (.inl (low_ex _ _ hs)), fun ns' p pm pw hp => ?_⟩
      have e : Ex H1 (del p (upd H1 p (.lst (ns'.map V.int)))) := ex_del (upd_ex hp) hp
      exact q p _ _ _ G1 (k ns' pm pw) (S1.ex e) (e1.trans (low_mono e)) upd_same (dps_ints ns')
end
end DL
namespace DL
open PySem PySem.Spec PyProof.Rows L2 Evl
end DL
namespace DL
open PySem PySem.Spec PyProof.Rows L2 Evl
end DL
namespace DL
open PySem L2 Evl
theorem kit_ty {K : PySem.W.Frag} {A : Addr} {T : String} {b : Bool} (h1 : PySem.W.kitMeta T = true) (h3 : PySem.W.subIn K (.ref A) (.type T) = some b) : PySem.W.kitOne K (.ref A) (.type T) = some b := by
  unfold PySem.W.kitOne
  rw [if_neg (by simp)]
  show (if _ then _ else _) = _
  rw [if_pos h1, h3]
section
variable {F : Fr} {G : List Sl} {σ : L2.St} {H : Hp} {D : Ends}
theorem Sat.exc (S : Sat F G σ H) {i : Nat} {C : Addr} {kvs : List (Str × PyData)} (h : G[i]? = some (.exc C kvs)) : ∃ a, σ[i]? = some (some (.ref a)) ∧ ExA F.K (low F G H) a C kvs := by
  obtain ⟨a, e, x⟩ := S.ok i _ h
  exact ⟨a, getD_some e, x⟩
variable {κ : Kp} {i : Nat} {C : Addr} {kvs : List (Str × PyData)}
/-- a display of classes -/
inductive RefsA : TA → List Addr → Prop
  | nil : RefsA tNil []
  | cons {a : Addr} {t : TA} {ys : List Addr} : RefsA t ys → RefsA (tCons (tC (.ref a)) t) (a :: ys)
theorem RefsA.run {t : TA} {ys : List Addr} (h : RefsA t ys) : ∀ (σ : L2.St) (H : Hp) (Q : List V → Hp → Prop), Q (ys.map V.ref) H → t σ H Q := by
  induction h with
  | nil => exact fun _ _ _ q => q
  | cons _ ih => exact fun σ H Q q => ih σ H _ q
end
end DL
namespace DL
open PySem PySem.Spec PyProof.Rows L2 Evl
end DL
namespace DL
open PySem PySem.Spec PyProof.Rows L2 Evl
end DL
namespace DL
open PySem L2 Evl
def spFr (K : PySem.W.Frag) (c : Nat) (T : Tr) : Sp := fun vs H Q _ => ∃ f p ws B xs κ A, vs = [.ref f, .ref p] ∧ f ≠ p ∧ Ex B (del p (del f H)) ∧ Feed K B H f A ∧ A + c ≤ lim ∧ H p = some (.lst ws) ∧ DqAll K B ws xs ∧ T xs κ ∧
  ∀ v H' x B', κ x → Grow B (del p (del f H)) B' (del p (del f H')) → Feed K B' H' f (A + c) → (∃ ws', H' p = some (.lst ws') ∧ DqAll K B' ws' xs) → Dq K B' v x → Q v H'
theorem spFr_len {K : PySem.W.Frag} {c : Nat} {T : Tr} {vs : List V} {H : Hp} {Q : VK} {E : XK} (h : spFr K c T vs H Q E) : vs.length = 2 := by
  obtain ⟨f, p, ws, B, xs, κ, A, rfl, _⟩ := h; rfl
abbrev frR (K : PySem.W.Frag) (B H : Hp) (f p : Addr) : Fr := frP K B (del p (del f H))
theorem del2 {f p b : Addr} {H : Hp} {o : HO} (h : del p (del f H) b = some o) : b ≠ p ∧ b ≠ f ∧ H b = some o := by
  have h1 : b ≠ p := fun z => by subst z; rw [del_same] at h; cases h
  rw [del_ne h1] at h
  have h2 : b ≠ f := fun z => by subst z; rw [del_same] at h; cases h
  rw [del_ne h2] at h
  exact ⟨h1, h2, h⟩
theorem del2_of {f p b : Addr} {H : Hp} {o : HO} (h1 : b ≠ p) (h2 : b ≠ f) (h : H b = some o) : del p (del f H) b = some o := by rw [del_ne h1, del_ne h2]; exact h
theorem sat_startR {K : PySem.W.Frag} {B H : Hp} {f p : Addr} {ws : List V} {xs : List PyData} {N : List Str} {A : Nat} (hB : Ex B (del p (del f H))) (ne : f ≠ p) (hf : Feed K B H f A) (hp : H p = some (.lst ws)) (d : DqAll K B ws xs) (hl : 2 ≤ N.length) :
    Sat (frR K B H f p) (Sl.fd f A :: Sl.own p xs :: List.replicate (N.length - 2) Sl.any) (L2.start N [.ref f, .ref p]) H := by
  have ea : ads (Sl.fd f A :: Sl.own p xs :: List.replicate (N.length - 2) Sl.any) = [f, p] := by
    show f :: p :: ads (List.replicate (N.length - 2) Sl.any) = [f, p]
    have := ads_start [] (N.length - 2)
    rw [show ads (List.replicate (N.length - 2) Sl.any) = [] from this]
  have eB : Ex B (low (frR K B H f p) (Sl.fd f A :: Sl.own p xs :: List.replicate (N.length - 2) Sl.any) H) := fun b o e => by
    obtain ⟨h1, h2, h3⟩ := del2 (hB b o e)
    rw [low_out (fun z => by have := z.1; rw [e] at this; cases this) (by rw [ea]; simp [h1, h2])]
    exact h3
  refine ⟨eB, fun b o _ e => (del2 e).2.2, fun b hb => ?_, ?_, by rw [ea]; simp [ne], fun i s hs => ?_⟩
  · rintro ⟨_, o, e⟩
    obtain ⟨h1, h2, _⟩ := del2 e
    rw [ea] at hb
    simp [h1, h2] at hb
  · rw [start_len (by exact hl), List.length_cons, List.length_cons, List.length_replicate]; omega
  · match i with
    | 0 =>
      have e : Sl.fd f A = s := by simpa using hs
      subst e
      exact ⟨rfl, feed_mono eB (fun _ z => z) (Nat.le_refl _) hf⟩
    | 1 =>
      have e : Sl.own p xs = s := by simpa using hs
      subst e
      exact ⟨rfl, ws, hp, dps_mono eB d⟩
    | i + 2 =>
      have hs' : (List.replicate (N.length - 2) Sl.any)[i]? = some s := by simpa using hs
      rw [List.getElem?_replicate] at hs'
      split at hs'
      · cases hs'; trivial
      · cases hs'
theorem enterR {K : PySem.W.Frag} {B H : Hp} {f p : Addr} {ws : List V} {xs : List PyData} {N : List Str} {A : Nat} {P : L2.St → Hp → Prop} (hB : Ex B (del p (del f H))) (ne : f ≠ p) (hf : Feed K B H f A) (hp : H p = some (.lst ws)) (d : DqAll K B ws xs) (hl : 2 ≤ N.length)
    (h : Nx (frR K B H f p) (Sl.fd f A :: Sl.own p xs :: List.replicate (N.length - 2) Sl.any) P) : P (L2.start N [.ref f, .ref p]) H := h _ _ (sat_startR hB ne hf hp d hl)
theorem rtR {K : PySem.W.Frag} {B H : Hp} {f p : Addr} {xs : List PyData} {Q : VK} {κ : PyData → Prop} {A c : Nat} (hB : Ex B (del p (del f H)))
    (hq : ∀ v H' x B', κ x → Grow B (del p (del f H)) B' (del p (del f H')) → Feed K B' H' f (A + c) → (∃ ws', H' p = some (.lst ws') ∧ DqAll K B' ws' xs) → Dq K B' v x → Q v H') {G : List Sl} {x : PyData} {A' : Nat} (hG : G[0]? = some (.fd f A')) (hG1 : G[1]? = some (.own p xs)) (hA : A' ≤ A + c) (k : κ x) :
    Rt (frR K B H f p) G x Q := fun σ H' v S d => by
  have mf : f ∈ ads G := ads_mem hG rfl
  have mp : p ∈ ads G := ads_mem hG1 rfl
  refine hq v H' x (low (frR K B H f p) G H') k ⟨S.ext, fun b o e => ?_, fun b o e => ?_, fun b h1 h2 => low_z ⟨h1, h2⟩⟩ (feed_mono (Ex.refl _) (fun _ z => z) hA (S.feed hG).2) (S.ownd hG1).2 d
  · obtain ⟨h1, h2, h3⟩ := del2 e
    refine del2_of h1 h2 ?_
    cases q : B b with
    | none => exact S.zk b o ⟨q, o, e⟩ e
    | some u =>
      have := hB b u q
      rw [e] at this; cases this
      exact low_ex b _ (S.ext b _ q)
  · obtain ⟨e1, e2, e3⟩ := low_some e
    exact del2_of (fun z => e3 (by rw [z]; exact mp)) (fun z => e3 (by rw [z]; exact mf)) e1
section
variable {F : Fr} {G : List Sl} {κ : Kp} {E : XK} {c : Nat}
theorem ek_callFr {T : Tr} {i j : Nat} {f p : Addr} {A : Nat} {xs : List PyData} (hi : G[i]? = some (.fd f A)) (hj : G[j]? = some (.own p xs)) (hl : A + c ≤ lim) (h : T xs fun x => κ x (G.set i (.fd f (A + c)))) :
    EK F G (tCall (spFr F.K c T) [] E (tCons (tVar i) (tCons (tVar j) tNil))) κ := fun σ H S Q q => by
  obtain ⟨ef, hfeed⟩ := S.feed hi
  obtain ⟨ep, ws, hp, hd⟩ := S.ownd hj
  have hij : ¬ i = j := fun z => by subst z; rw [hi] at hj; cases hj
  have ne : f ≠ p := fun z => by
    subst z
    exact two_ads G i j _ _ f hi hj hij List.mem_cons_self List.mem_cons_self S.nd
  have mf : f ∈ ads G := ads_mem hi rfl
  have mp : p ∈ ads G := ads_mem hj rfl
  refine ⟨.ref f, ef, .ref p, ep, f, p, ws, low F G H, xs, _, A, rfl, ne, fun b o e => ?_, hfeed, hl, hp, hd, h, fun v H' x B' kx g hf hw d => ?_⟩
  · obtain ⟨e1, e2, e3⟩ := low_some e
    exact del2_of (fun z => e3 (by rw [z]; exact mp)) (fun z => e3 (by rw [z]; exact mf)) e1
  have ea : ads (G.set i (.fd f (A + c))) = ads G := ads_set_same G i _ hi rfl
  have el : ∀ H, low F (G.set i (.fd f (A + c))) H = low F G H := fun H => low_ads ea
  have keep : ∀ b o, b ≠ p → b ≠ f → H b = some o → H' b = some o := fun b o n1 n2 e => (del2 (g.2.1 b o (del2_of n1 n2 e))).2.2
  have eG : Ex (low F G H) (low F G H') := fun b o e => by
    obtain ⟨e1, e2, e3⟩ := low_some e
    rw [low_out e2 e3]
    exact keep b o (fun z => e3 (by rw [z]; exact mp)) (fun z => e3 (by rw [z]; exact mf)) e1
  have eB : Ex B' (low F G H') := fun b o e => by
    obtain ⟨n1, n2, e1⟩ := del2 (g.2.2.1 b o e)
    rw [low_out (fun z => ?_) fun z => ?_]
    · exact e1
    · obtain ⟨u, hu⟩ := F.zh b z
      have := g.2.2.2 b (low_z z) ⟨u, del2_of n1 n2 (S.zk b u z hu)⟩
      rw [e] at this; cases this
    · obtain ⟨u, hu⟩ := S.at_ z
      have := g.2.2.2 b (low_in z) ⟨_, del2_of n1 n2 hu⟩
      rw [e] at this; cases this
  have S' : Sat F (G.set i (.fd f (A + c))) σ H' := by
    refine ⟨by rw [el]; exact S.ext.trans eG, fun b o z e => keep b o (fun y => S.zn p mp (by rw [← y]; exact z)) (fun y => S.zn f mf (by rw [← y]; exact z)) (S.zk b o z e), by rw [ea]; exact S.zn, by rw [List.length_set]; exact S.len, by rw [ea]; exact S.nd, fun k s hk => ?_⟩
    rw [el]
    rw [List.getElem?_set] at hk
    by_cases hki : i = k
    · rw [if_pos hki, if_pos (List.getElem?_eq_some_iff.mp hi).1] at hk
      cases hk
      subst hki
      exact ⟨(S.ok i _ hi).1, feed_mono eB (fun _ z => z) (Nat.le_refl _) hf⟩
    · rw [if_neg hki] at hk
      by_cases hkj : j = k
      · subst hkj
        rw [hj] at hk
        cases hk
        obtain ⟨ws', h1, h2⟩ := hw
        exact ⟨(S.ok j _ hj).1, ws', h1, dps_mono eB h2⟩
      · exact slok_mono eG (fun b o hb e => keep b o (fun y => by subst y; exact two_ads G j k _ s b hj hk hkj List.mem_cons_self hb S.nd) (fun y => by subst y; exact two_ads G i k _ s b hi hk hki List.mem_cons_self hb S.nd) e) (S.ok k s hk)
  exact q v H' x _ kx S' (by rw [el]; exact eG) (by rw [el]; exact dp_mono eB d)
end
end DL
namespace DL
open PySem L2 Evl
def tOrE (t1 t2 : TE) : TE := fun σ H Q => t1 σ H Q ∨ t2 σ H Q
theorem pe_or {X : Cx} {e : Expr} {t1 t2 : TE} (h1 : PE X e t1) (h2 : PE X e t2) : PE X e (tOrE t1 t2) := ⟨fun pins s σ H Q I h => h.elim (h1.run pins s σ H Q I) (h2.run pins s σ H Q I)⟩
end DL
namespace DL
open PySem PySem.Spec PyProof.Rows L2 Evl
end DL
namespace DL
open PySem PySem.Spec PyProof.Rows L2 Evl
def testsSem (ifs : List Expr) (env : Env) : Sem Bool := forIn ifs true fun c r => if r = true then do let ok ← isTrue c env (eval c env); pure (ForInStep.yield ok) else pure (ForInStep.yield r)
def turnSem (tg : Expr) (p : Pos) (ifs : List Expr) (it : Value) (env : Env) (body : Sem Unit) (more : Sem Fin) : Sem Fin := do
  standAt p
  match ← pyNext it with
  | none => pure (.done .next)
  | some v =>
    letOwnedTupleGo tg it v
    assign tg env v
    let ok ← testsSem ifs env
    if ok then
      body
    more
/-- a comprehension that is no generator -/
structure Plain (prog : Program) (w : World) (e : Expr) : Prop where
  u1 : ∀ (A : Around) (d : Nat) (it acc : Value) (env : Env), A.under (.compLoop e d it acc env) = A
  d1 : ∀ (d : Nat) (it acc : Value) (env : Env), (model prog w).den (.compLoop e d it acc env) = (compTurn e d it acc env).onRaise (fun x => do noteFrame x env; theTreesLotGoes x)
  u0 : ∀ (A : Around) (d : Nat) (it acc : Value) (env : Env), A.under (.compStart e d it acc env) = A
  d0 : ∀ (d : Nat) (it acc : Value) (env : Env), (model prog w).den (.compStart e d it acc env) = (compStart e d it acc env).onRaise (fun x => do noteFrame x env; standAt theWindowsPlace)
theorem plain_set {prog : Program} {w : World} {elt : Expr} {gs : List Comprehension} {scope : Scope} {pos : Pos} : Plain prog w (.SetComp elt gs scope pos) := ⟨fun _ _ _ _ _ => rfl, fun _ _ _ _ => rfl, fun _ _ _ _ _ => rfl, fun _ _ _ _ => rfl⟩
abbrev noE : Value → Shared → Prop := fun _ _ => False
section
variable {prog : Program} {w : World} {A : Around} {R : Result → Shared → Prop} {s : Shared} {e : Expr} {d : Nat} {it acc : Value} {env : Env}
theorem loop_gen {tg : Expr} {p : Pos} {ifs : List Expr} {body : Sem Unit} (ht : compTurn e d it acc env = turnSem tg p ifs it env body (again (.compLoop e d it acc env))) (I : Nat → Shared → Prop)
    (turn : ∀ n s, I n s → wpAny (model prog w) A (pyNext it) (fun r s1 => match r with
      | none => R (.ok .next) s1
      | some v => wpAny (model prog w) A (letOwnedTupleGo tg it v) (fun _ s2 => wpAny (model prog w) A (assign tg env v) (fun _ s3 => wpAny (model prog w) A (testsSem ifs env) (fun ok s4 =>
          if ok = true then wpAny (model prog w) A body (fun _ s5 => ∃ m, m < n ∧ I m s5) noE s4 else ∃ m, m < n ∧ I m s4) noE s3) noE s2) noE s1) noE s)
    (n : Nat) (h : I n s) (P : Plain prog w e) : codeAny (model prog w) A (.compLoop e d it acc env) R s := by
  refine codeAny_loop rfl I (fun n s hI => ?_) n h
  rw [P.u1, P.d1]
  refine wpAny_noted ?_
  rw [ht]
  unfold turnSem
  refine wpAny_bind (wpAny_standAt (wpAny_bind (thnF (turn n s hI) fun r s1 h1 => ?_)))
  cases r with
  | none => exact wpAny_pure h1
  | some v =>
    refine wpAny_bind (thnF h1 fun _ s2 h2 => wpAny_bind (thnF h2 fun _ s3 h3 => wpAny_bind (thnF h3 fun ok s4 h4 => ?_)))
    cases ok with
    | false => exact wpAny_pure ⟨rfl, h4⟩
    | true => exact wpAny_bind (thnF h4 fun _ s5 h5 => wpAny_pure ⟨rfl, h5⟩)
theorem start_gen (P : Plain prog w e) {g : Comprehension} (hg : (clausesOf e)[d]? = some g) (ha : g.is_async = 0) (h0 : codeAny (model prog w) A (.compLoop e d it acc env) R s)
    (h : wpAny (model prog w) A (pyIter it) (fun it2 s2 => codeAny (model prog w) A (.compLoop e d it2 acc env) R s2) noE s) : codeAny (model prog w) A (.compStart e d it acc env) R s := by
  refine codeAny_of_tree ?_
  rw [P.u0, P.d0]
  refine wpAny_notedAt ?_
  unfold compStart
  rw [hg]
  simp only [Option.elim, ha]
  show wpAny _ _ (ask >>= _) _ _ s
  refine wpAny_bind (wpAny_askSetting (wpAny_ite ?_))
  split
  · first
      | exact wpAny_bind (wpAny_pure (wpAny_pure (And.intro rfl h0)))
      | exact wpAny_pure (And.intro rfl h0)
  · refine wpAny_bind (wpAny_rule ?_)
    refine wpAny_bind (wpAny_standAt ?_)
    exact wpAny_bind (thnF h fun it2 s2 q => wpAny_pure ⟨rfl, q⟩)
end
/-- what stands in a loop of a comprehension -/
abbrev TB := L2.St → Hp → (Hp → Prop) → Prop
structure PB (X : Cx) (body : Sem Unit) (vs : List Nat) (t : TB) : Prop where
  run : ∀ (pins : List (Addr × Obj)) (s : Shared) (σ : L2.St) (H : Hp) (N : Hp → Prop), Inv X pins σ H s → t σ H N →
    wpAny (model X.prog X.w) X.A body (fun _ s2 => ∃ σ2 H2, Inv X pins σ2 H2 s2 ∧ L2.wipe σ2 vs = L2.wipe σ vs ∧ N H2) noE s
/-- a loop over J -/
def LoopT (J : It) (g : TG) (tt : TT) (tb : TB) (vs : List Nat) (σ : L2.St) (H1 : Hp) (N : Hp → Prop) : Prop := ∃ W : Nat → Nat → Hp → Prop, (∃ m, W 0 m H1) ∧ ∀ i m H, W i m H →
  (J.stop i H ∧ N H) ∨ (J.go i H ∧ ∃ Nx : Hp → Prop, (∀ H2, Nx H2 → ∃ m2, m2 < m ∧ W (i + 1) m2 H2) ∧ ∀ x H2, J.yld i H x H2 → g x (L2.wipe σ vs) H2 fun σ3 H3 => L2.wipe σ3 vs = L2.wipe σ vs ∧ tt σ3 H3 fun b H4 => if b = true then tb σ3 H4 Nx else Nx H4)
theorem wipe_sub {σ : L2.St} {us vs : List Nat} (h : ∀ v ∈ us, v ∈ vs) : L2.wipe (L2.wipe σ us) vs = L2.wipe σ vs := by
  induction us with
  | nil => rfl
  | cons v r ih =>
    show L2.wipe ((L2.wipe σ r).set v none) vs = _
    rw [wipe_set (h v List.mem_cons_self)]
    exact ih fun u hu => h u (List.mem_cons_of_mem _ hu)
theorem wipe_more {σ τ : L2.St} {us vs : List Nat} (h : ∀ v ∈ us, v ∈ vs) (e : L2.wipe σ us = L2.wipe τ us) : L2.wipe σ vs = L2.wipe τ vs := by
  rw [← wipe_sub (σ := σ) h, ← wipe_sub (σ := τ) h, e]
section
variable {X : Cx} {pins : List (Addr × Obj)} {σ : L2.St} {H : Hp} {s : Shared}
theorem inv_wiped (I : Inv X pins σ H s) (vs : List Nat) : Inv X pins (L2.wipe σ vs) H s := I.weak (by rw [wipe_length]) fun j v e => (wipe_some e).1
/-- a loop of a block, its iterator there -/
theorem run_loop {tg : Expr} {p : Pos} {ifs : List Expr} {body : Sem Unit} {e : Expr} {d : Nat} {it : Addr} {acc : Value} {g : TG} {tt : TT} {tb : TB} {vs us : List Nat} {J : It} {fp : List Addr} {tn : Nat → Heap → Prop} {R : Result → Shared → Prop} {N : Hp → Prop}
    (P : Plain X.prog X.w e) (ht : compTurn e d (.ref it) acc X.env = turnSem tg p ifs (.ref it) X.env body (again (.compLoop e d (.ref it) acc X.env))) (hc : X.calm = true) (hx : X.xe = noE) (hg : PG X tg g) (hts : PTs X ifs tt) (hb : PB X body us tb) (hu : ∀ v ∈ us, v ∈ vs)
    (T : L2.Turn X.prog X.w X.K tg J fp it tn) (I0 : Inv X pins (L2.wipe σ vs) H s) (st0 : tn 0 s.heap) (fp0 : ∀ b ∈ fp, FpOk X pins H b) (h : LoopT J g tt tb vs σ H N) (hR : ∀ s2 H2, Inv X pins (L2.wipe σ vs) H2 s2 → N H2 → R (.ok .next) s2) :
    codeAny (model X.prog X.w) X.A (.compLoop e d (.ref it) acc X.env) R s := by
  obtain ⟨W, ⟨m0, w0⟩, step⟩ := h
  have still : ∀ {H2 : Hp}, (∀ b ∈ fp, H2 b = none) → ∀ b ∈ fp, FpOk X pins H2 b := fun hn b hb => ⟨hn b hb, (fp0 b hb).2⟩
  refine loop_gen ht (fun n s2 => ∃ i H2, Inv X pins (L2.wipe σ vs) H2 s2 ∧ tn i s2.heap ∧ (∀ b ∈ fp, H2 b = none) ∧ W i n H2) ?_ m0 ⟨0, H, I0, st0, fun b hb => (fp0 b hb).1, w0⟩ P
  rintro n s1 ⟨i, H1, I1, st1, f1, w1⟩
  rcases step i n H1 w1 with ⟨stop, qn⟩ | ⟨go, Nx, hNx, turn⟩
  · refine thnF (T.done X rfl rfl rfl hc i pins s1 _ H1 noE I1 (still f1) st1 stop) fun r s2 ⟨hr, I2⟩ => ?_
    subst hr
    exact hR s2 H1 I2 qn
  · refine thnF (T.item X rfl rfl rfl hc i pins s1 _ H1 noE I1 (still f1) st1 go) fun r s2 ⟨u, hr, h2⟩ => ?_
    subst hr
    refine thnF h2 fun _ s3 ⟨x, H3, I3, r3, y3, st3, f3⟩ => ?_
    have I3p := I3.pinned (still f3) (T.obj _ _ st3)
    have g1 := hg.run _ s3 _ H3 x u _ I3p r3 (turn x H3 y3)
    rw [hx] at g1
    refine thnF g1 fun _ s4 ⟨σ4, H4, I4, hw4, q4⟩ => ?_
    have t1 := hts.run _ s4 σ4 H4 _ I4 q4
    rw [hx] at t1
    have fin : ∀ {s5 : Shared} {σ5 : L2.St} {H5 : Hp}, Inv X (pins ++ pinsAt fp s3.heap) σ5 H5 s5 → L2.wipe σ5 vs = L2.wipe σ vs → Nx H5 → ∃ m, m < n ∧ ∃ i H2, Inv X pins (L2.wipe σ vs) H2 s5 ∧ tn i s5.heap ∧ (∀ b ∈ fp, H2 b = none) ∧ W i m H2 := fun {s5 σ5 H5} I5 e5 nx => by
      obtain ⟨m2, hm, w2⟩ := hNx H5 nx
      have pin5 : ∀ b ∈ fp, ∀ o, s3.heap.get? b = some o → s5.heap.get? b = some o ∧ H5 b = none := fun b hb o eo =>
        let z := I5.pin (b, o) (List.mem_append_right _ (List.mem_append_right _ (mem_pinsAt hb eo)))
        ⟨z.1, z.2.1⟩
      refine ⟨m2, hm, i + 1, H5, ?_, T.keep _ _ _ st3 fun b hb o eo => (pin5 b hb o eo).1, fun b hb => ?_, w2⟩
      · have z := inv_wiped I5.unpinned vs
        rw [e5] at z
        exact z
      · obtain ⟨o, eo, _⟩ := T.obj _ _ st3 b hb
        exact (pin5 b hb o eo).2
    refine thnF t1 fun b s5 ⟨H5, I5, q5⟩ => ?_
    cases b with
    | false =>
      rw [if_neg Bool.false_ne_true] at q5 ⊢
      exact fin I5 hw4 q5
    | true =>
      rw [if_pos rfl] at q5 ⊢
      refine thnF (hb.run _ s5 σ4 H5 _ I5 q5) fun _ s6 ⟨σ6, H6, I6, e6, nx⟩ => ?_
      exact fin I6 ((wipe_more hu e6).trans hw4) nx
end
/-- the whole: a new thing at D, then the first clause's loop -/
def tComp (wi : TI) (g : TG) (tt : TT) (tb : Addr → TB) (vs : List Nat) (ho : Addr → HO) : TE := fun σ H Q => wi σ H fun J H1 => ∀ D, H1 D = none → LoopT J g tt (tb D) vs σ (upd H1 D (ho D)) fun H2 => Q (.ref D) H2
section
variable {X : Cx}
theorem comp_core {pins : List (Addr × Obj)} {s : Shared} {σ : L2.St} {H : Hp} {Q : VK} {e tg iter : Expr} {ifs : List Expr} {rest : List Comprehension} {scope : Scope} {own : List (PySem.Str × Nat)} {p pos2 : Pos} {wi : TI} {g : TG} {tt : TT} {tb : Addr → TB} {us : List Nat}
    {use : Option (Value → Sem Unit)} {Qf : Value → Shared → Prop} {newAcc : Sem Value} {oA : Obj} {ho : Addr → HO} {body : Addr → Env → Sem Unit}
    (P : Plain X.prog X.w e) (hcl : clausesOf e = ⟨tg, iter, ifs, 0⟩ :: rest) (ht : ∀ (it D : Addr) (env : Env), compTurn e 0 (.ref it) (.ref D) env = turnSem tg p ifs (.ref it) env (body D env) (again (.compLoop e 0 (.ref it) (.ref D) env)))
    (hnew : ∀ (s : Shared) (Q : Value → Shared → Prop) (E : Value → Shared → Prop), Q (.ref s.heap.objs.size) { s with heap := s.heap.push oA } → wpAny (model X.prog X.w) X.A newAcc Q E s)
    (hobj : ∀ (H : Hp) (h : Heap), sysModules < h.objs.size → ObjOk X.prog X.w H (h.push oA) h.objs.size (ho h.objs.size))
    (hc : X.calm = true) (hN : X.N.Nodup) (I : Inv X pins σ H s) (hi : PI X tg iter wi) (ok : BlkOk X.N X.env.scope scope own)
    (hg : ∀ (s : Shared) (H : Hp) (C : Addr) (cl : List (PySem.Str × Addr)) (fp : List Addr), PG (X.blk s H scope (compEnvC scope cl C X.env) fp) tg g) (hts : ∀ (s : Shared) (H : Hp) (C : Addr) (cl : List (PySem.Str × Addr)) (fp : List Addr), PTs (X.blk s H scope (compEnvC scope cl C X.env) fp) ifs tt)
    (hb : ∀ (s : Shared) (H : Hp) (C : Addr) (cl : List (PySem.Str × Addr)) (fp : List Addr) (D : Addr), PB (X.blk s H scope (compEnvC scope cl C X.env) fp) (body D (compEnvC scope cl C X.env)) us (tb D)) (hu : ∀ v ∈ us, v ∈ own.map (·.2))
    (hs : ∀ x, foldedSetIterable iter X.env x = pure x) (h : tComp wi g tt tb (own.map (·.2)) ho σ H Q)
    (hRR : ∀ D C s2 m H2, Inv X pins σ H2 s2 → Q (.ref D) H2 → s2.heap.Ns C m → FpOk X pins H2 C → compPost (model X.prog X.w) X.A X.xe use Qf (.ref D) C (.ok .next) s2) :
    wpAny (model X.prog X.w) X.A (comprehension e scope X.env pos2 newAcc false (eval iter X.env) use) Qf X.xe s := by
  have hfree : ∀ y ∈ scope.names, y.2 = .free → ∃ c, X.env.cells.lookup y.1 = some c := fun y hy eq => (ok.free y hy eq).elim (fun k => I.ok.has _ (.inl k)) fun k => I.ok.has _ (.inr k)
  refine wpAny_comprehension_free (use := use) hcl hs (closure_ok hfree) ok.kind (fun y hy eq => by rw [ok.uniq y hy, eq])
    (thn (hi.run pins s σ H _ I h) fun xv s1 hx => thn hx fun itv s2 h2 => ?_)
  obtain ⟨it, fp, tn, J, H2, rfl, I2, T, st2, f2, q⟩ := h2
  refine hnew _ _ _ (newEnv_comp ?_)
  have hDn : H2 s2.heap.objs.size = none := I2.hok.fresh (Nat.le_refl _)
  have hq := q s2.heap.objs.size hDn
  have I3 : Inv X pins σ (upd H2 s2.heap.objs.size (ho s2.heap.objs.size)) { s2 with heap := s2.heap.push oA } :=
    I2.laid (t' := s2.toks) (fun b o eo => Heap.get?_push_of_some _ eo) (Nat.le_refl _) (hobj _ _ I2.big)
  have old : ∀ b ∈ fp, b < s2.heap.objs.size := fun b hb => by
    obtain ⟨o, eo, _⟩ := T.obj _ _ st2 b hb
    exact Heap.lt_size eo
  have f3 : ∀ b ∈ fp, FpOk X pins (upd H2 s2.heap.objs.size (ho s2.heap.objs.size)) b ∧ b < (s2.heap.push oA).objs.size := fun b hb =>
    ⟨⟨by rw [upd_ne (Nat.ne_of_lt (old b hb))]; exact (f2 b hb).1, (f2 b hb).2⟩, by rw [Heap.size_push]; exact Nat.lt_succ_of_lt (old b hb)⟩
  have st3 : tn 0 (s2.heap.push oA) := T.keep _ _ _ st2 fun b _ o eo => Heap.get?_push_of_some _ eo
  generalize hD : s2.heap.objs.size = D at hq I3 f3 hDn
  generalize hs3 : ({ s2 with heap := s2.heap.push oA } : Shared) = s3 at I3
  have eh3 : s2.heap.push oA = s3.heap := by rw [← hs3]
  rw [eh3] at f3 st3
  have I4 := block_start I3 ok hN f3
  generalize hcl2 : cellsFrom (s3.heap.objs.size + 1) scope.names (cloFrom X.env.cells scope.names []) = cl at I4
  have pg := hg s3 (upd H2 D (ho D)) s3.heap.objs.size cl fp
  have pt := hts s3 (upd H2 D (ho D)) s3.heap.objs.size cl fp
  have pb := hb s3 (upd H2 D (ho D)) s3.heap.objs.size cl fp D
  have st4 : tn 0 (pushCells (s3.heap.push { cls := .type "dict", data := .dict #[] }) scope.names) := T.keep _ _ _ st3 fun b _ o eo => pushCells_keeps _ _ _ _ (Heap.get?_push_of_some _ eo)
  have f4 : ∀ b ∈ fp, FpOk (X.blk s3 (upd H2 D (ho D)) scope (compEnvC scope cl s3.heap.objs.size X.env) fp) [] (upd H2 D (ho D)) b := fun b hb =>
    ⟨(f3 b hb).1.1, (I4.ok.exf b hb).1, I4.ok.exfs b hb, .inl hb, fun x c ec => (I4.ok.exf b hb).2 x c ec, fun z hz => absurd (show z ∈ ([] : List (Addr × Obj)) ++ [] from hz) (by simp)⟩
  show codeAny _ _ (.compStart e 0 (.ref it) (.ref D) (compEnvC scope cl s3.heap.objs.size X.env)) (compPost (model X.prog X.w) X.A X.xe use Qf (.ref D) s3.heap.objs.size) { s3 with heap := pushCells (s3.heap.push { cls := .type "dict", data := .dict #[] }) scope.names }
  have lp : codeAny (model X.prog X.w) X.A (.compLoop e 0 (.ref it) (.ref D) (compEnvC scope cl s3.heap.objs.size X.env)) (compPost (model X.prog X.w) X.A X.xe use Qf (.ref D) s3.heap.objs.size) { s3 with heap := pushCells (s3.heap.push { cls := .type "dict", data := .dict #[] }) scope.names } :=
    run_loop (X := X.blk s3 (upd H2 D (ho D)) scope (compEnvC scope cl s3.heap.objs.size X.env) fp) (σ := σ) (tt := tt) (g := g) P (ht it D _) hc rfl pg pt pb hu T I4 st4 f4 hq fun s5 H5 I5 q5 => by
      have I6 : Inv X pins σ H5 s5 := I3.call' (ch := fp) I5.os I5.base I5.hok I5.bare fun b hb => ⟨(f3 b hb).1.2.2.2.1, (f3 b hb).1.2.1, (f3 b hb).1.2.2.2.2.1, (f3 b hb).1.2.2.2.2.2⟩
      have nC : H5 s3.heap.objs.size = none := I5.free
      obtain ⟨m, hn, _⟩ := I5.loc
      exact hRR D s3.heap.objs.size s5 m H5 I6 q5 hn (I3.fpOk (Nat.le_refl _) nC)
  exact start_gen P (by rw [hcl]; rfl) rfl lp (T.self X.A 0 _ _ _ st4 lp)
end
end DL
namespace DL
open PySem PySem.Spec PyProof.Rows L2 Evl
section
variable {X : Cx} {elt tg iter tg1 i1 : Expr} {ifs ifs1 : List Expr} {scope : Scope} {own : List (PySem.Str × Nat)} {pos : Pos} {wi wi1 : TI} {g g1 : TG} {tt tt1 : TT} {te : TE} {vs1 : List Nat}
abbrev InBlk (X : Cx) (scope : Scope) (C : Cx → Prop) : Prop := ∀ (s : Shared) (H : Hp) (C' : Addr) (cl : List (PySem.Str × Addr)) (fp : List Addr), C (X.blk s H scope (compEnvC scope cl C' X.env) fp)
theorem srtZ' {w : World} (hw : X.w = w) (hc : X.calm = true) : CallR X (.builtin "sorted") (rSortedSet w) := by subst hw; exact cr_sortedSet hc
end
end DL
namespace DL
open PySem PySem.Spec PyProof.Rows L2 Evl
/-- J hands out xs while B stands -/
structure Src (K : PySem.W.Frag) (B : Hp) (J : It) (xs : List PyData) : Prop where
  go : ∀ i H, Ex B H → i < xs.length → J.go i H
  stop : ∀ H, Ex B H → J.stop xs.length H
  yld : ∀ i H v H2, Ex B H → i < xs.length → J.yld i H v H2 → H2 = H ∧ ∃ x, xs[i]? = some x ∧ Dq K B v x
theorem Src.mono {K : PySem.W.Frag} {B B2 : Hp} {J : It} {xs : List PyData} (e : Ex B B2) (h : Src K B J xs) : Src K B2 J xs :=
  ⟨fun i H k => h.go i H (e.trans k), fun H k => h.stop H (e.trans k), fun i H v H2 k hi y => let ⟨a, x, b, c⟩ := h.yld i H v H2 (e.trans k) hi y; ⟨a, x, b, dp_mono e c⟩⟩
def WI (F : Fr) (G : List Sl) (wi : TI) (κ : List PyData → List Sl → Prop) : Prop := ∀ σ H, Sat F G σ H → ∀ R : It → Hp → Prop,
  (∀ J H1 xs G1, κ xs G1 → Sat F G1 σ H1 → Ex (low F G H) (low F G1 H1) → Src F.K (low F G1 H1) J xs → R J H1) → wi σ H R
section
variable {F : Fr} {G : List Sl} {κ : List PyData → List Sl → Prop} {te : TE} {tr : TA}
theorem wi_list (h : EK F G te fun x G1 => ∃ xs, x = .list xs ∧ κ xs G1) : WI F G (iList F.K te) κ := fun σ H S R q =>
  h σ H S _ fun v H1 x G1 ⟨xs, ex, k⟩ S1 e1 d1 => by
    subst ex
    cases d1 with
    | @lst a us _ hs ha =>
      have L : ∀ H2, Ex (low F G1 H1) H2 → SqL F.K H2 a us := fun H2 e => .inl (.inl (e _ _ hs))
      have hl := dps_length ha
      refine ⟨a, rfl, ⟨us, .inl (.inl (low_ex _ _ hs))⟩, q _ H1 xs G1 k S1 e1 ⟨fun i H2 e hi => ?_, fun H2 e => ?_, fun i H2 v2 H3 e hi y => ?_⟩⟩
      · exact ⟨us, us[i]'(by omega), L H2 e, List.getElem?_eq_getElem _⟩
      · exact ⟨us, L H2 e, by omega⟩
      · obtain ⟨e3, y⟩ := y
        obtain ⟨x, ex, dx⟩ := dps_get' ha (y us (L H2 e))
        exact ⟨e3, x, ex, dx⟩
end
/-- what is put together: a list, or a set of whole numbers -/
inductive AccK where
  | l
  | s
  | o (R : PySem.W.Frag → Hp → Addr → HO → List PyData → Prop) (hm : ∀ K B B2 D o acc, Ex B B2 → R K B D o acc → R K B2 D o acc)
def AOk (w : World) (k : AccK) (K : PySem.W.Frag) (B : Hp) (D : Addr) (o : HO) (acc : List PyData) : Prop := match k with
  | .l => ∃ ws, o = .lst ws ∧ DqAll K B ws acc
  | .s => ∃ (S : Int → Bool) (n : Nat) (ns : List Int), o = SetO w D S n ∧ acc = ns.map PyData.int ∧ (∀ j : Int, S j = decide (j ∈ ns)) ∧ n ≤ ns.length
  | .o R _ => R K B D o acc
theorem AOk.mono {w : World} {k : AccK} {K : PySem.W.Frag} {B B2 : Hp} {D : Addr} {o : HO} {acc : List PyData} (e : Ex B B2) (h : AOk w k K B D o acc) : AOk w k K B2 D o acc := by
  cases k with
  | l => obtain ⟨ws, h1, h2⟩ := h; exact ⟨ws, h1, dps_mono e h2⟩
  | s => exact h
  | o R hm => exact hm _ _ _ _ _ _ e h
/-- the body of a loop at acc -/
def BK (F : Fr) (w : World) (k : AccK) (D : Addr) (tb : Addr → TB) (acc : List PyData) (G : List Sl) (κ : List PyData → List Sl → Prop) : Prop := ∀ σ H o, Sat F G σ (del D H) → H D = some o → AOk w k F.K (low F G (del D H)) D o acc → ∀ N : Hp → Prop,
  (∀ H2 o2 acc2 G2, κ acc2 G2 → Sat F G2 σ (del D H2) → Ex (low F G (del D H)) (low F G2 (del D H2)) → H2 D = some o2 → AOk w k F.K (low F G2 (del D H2)) D o2 acc2 → N H2) → tb D σ H N
def TurnB (F : Fr) (w : World) (k : AccK) (D : Addr) (vs : List Nat) (g : TG) (tt : TT) (tb : Addr → TB) (I : Nat → List PyData → List Sl → Prop) (i : Nat) (x : PyData) (acc : List PyData) (G' : List Sl) : Prop :=
  ∀ B o, Ex F.B0 B → GK (F.wo B D o) g x (wipeG G' vs) fun G2 => ET (F.wo B D o) G2 tt fun b G3 => (b = true → BK (F.at B) w k D tb acc G3 fun acc2 G4 => I (i + 1) acc2 (wipeG G4 vs)) ∧ (b = false → I (i + 1) acc (wipeG G3 vs))
def CB (F : Fr) (B : Hp) (D : Addr) (w : World) (k : AccK) (I : Nat → List PyData → List Sl → Prop) (σ : L2.St) (i : Nat) (H : Hp) : Prop :=
  ∃ acc o G', I i acc G' ∧ Sat F G' σ (del D H) ∧ Ex B (low F G' (del D H)) ∧ H D = some o ∧ AOk w k F.K (low F G' (del D H)) D o acc
theorem sat_at {F : Fr} {G : List Sl} {σ : L2.St} {H B : Hp} (S : Sat F G σ H) (e : Ex B (low F G H)) : Sat (F.at B) G σ H := ⟨e, S.zk, S.zn, S.len, S.nd, S.ok⟩
section
variable {F : Fr} {G : List Sl} {w : World} {k : AccK} {D : Addr} {g : TG} {tt : TT} {tb : Addr → TB} {vs : List Nat} {I : Nat → List PyData → List Sl → Prop}
theorem loop_dl {B : Hp} {σ : L2.St} {H1 : Hp} {J : It} {xs : List PyData} {N : Hp → Prop} (Sr : Src F.K B J xs) (hz : ¬ F.Z D) (hB : Ex F.B0 B) (gw : GW g vs) (C0 : CB F B D w k I σ 0 H1)
    (ht : ∀ i x acc G', xs[i]? = some x → I i acc G' → TurnB F w k D vs g tt tb I i x acc G')
    (hd : ∀ H acc o G', I xs.length acc G' → Sat F G' σ (del D H) → Ex B (low F G' (del D H)) → H D = some o → AOk w k F.K (low F G' (del D H)) D o acc → N H) : LoopT J g tt (tb D) vs σ H1 N := by
  refine ⟨fun i m H => m = xs.length - i ∧ i ≤ xs.length ∧ CB F B D w k I σ i H, ⟨xs.length, by simp, Nat.zero_le _, C0⟩, ?_⟩
  rintro i m H ⟨rfl, hi, acc, o, G', hI, S, eB, hD, ha⟩
  have eH : Ex B H := eB.trans (low_ex.trans del_ex)
  by_cases hlt : i < xs.length
  · refine .inr ⟨Sr.go i H eH hlt, fun H2 => CB F B D w k I σ (i + 1) H2, fun H2 c => ⟨xs.length - (i + 1), by omega, rfl, hlt, c⟩, fun v H2 y => ?_⟩
    obtain ⟨rfl, x, ex, dx⟩ := Sr.yld i H v H2 eH hlt y
    have S0 : Sat (F.wo B D o) G' σ H2 := S.toWo eB hD
    have S1 := S0.wipe vs
    have T := ht i x acc G' ex hI B o hB
    have eS : Ex (low F G' (del D H2)) (low (F.wo B D o) (wipeG G' vs) H2) := by rw [low_wo]; exact low_sub fun b => wipeG_ads G' vs b
    refine gw v (L2.wipe σ vs) H2 _ _ (T _ _ _ S1 (dp_mono (eB.trans eS) dx) (fun σ2 H3 => H3 = H2 ∧ ∃ G2, ET (F.wo B D o) G2 tt (fun b G3 => (b = true → BK (F.at B) w k D tb acc G3 fun acc2 G4 => I (i + 1) acc2 (wipeG G4 vs)) ∧ (b = false → I (i + 1) acc (wipeG G3 vs))) ∧ Sat (F.wo B D o) G2 σ2 H2 ∧ Ex (low (F.wo B D o) (wipeG G' vs) H2) (low (F.wo B D o) G2 H2)) fun σ2 G2 k2 S2 e2 => ⟨rfl, G2, k2, S2, e2⟩) fun σ2 H3 ⟨eq, G2, k2, S2, e2⟩ wq => ?_
    subst eq
    have wq : L2.wipe σ2 vs = L2.wipe σ vs := wq.trans (wipe_wipe σ vs)
    refine ⟨wq, k2 σ2 H3 S2 _ fun b H4 G3 k3 S3 e3 => ?_⟩
    obtain ⟨S3f, h3⟩ := S3.ofWo hB hz
    have e03 : Ex (low F G' (del D H3)) (low F G3 (del D H4)) := by
      have := (eS.trans e2).trans e3
      rw [low_wo] at this
      exact this
    cases b with
    | false =>
      rw [if_neg Bool.false_ne_true]
      have e6 : Ex (low F G3 (del D H4)) (low F (wipeG G3 vs) (del D H4)) := low_sub fun b => wipeG_ads G3 vs b
      exact ⟨acc, o, _, k3.2 rfl, S3f.unwipe wq, eB.trans (e03.trans e6), h3, ha.mono (e03.trans e6)⟩
    | true =>
      rw [if_pos rfl]
      refine k3.1 rfl σ2 H4 o (sat_at S3f (eB.trans e03)) h3 (ha.mono e03) _ fun H5 o2 acc2 G4 k4 S4 e4 h5 a5 => ?_
      have e6 : Ex (low F G4 (del D H5)) (low F (wipeG G4 vs) (del D H5)) := low_sub fun b => wipeG_ads G4 vs b
      have S4f : Sat F G4 σ2 (del D H5) := ⟨hB.trans S4.ext, S4.zk, S4.zn, S4.len, S4.nd, S4.ok⟩
      exact ⟨acc2, o2, _, k4, S4f.unwipe wq, (eB.trans e03).trans ((show Ex (low F G3 (del D H4)) (low F G4 (del D H5)) from e4).trans e6), h5, AOk.mono e6 a5⟩
  · have e : i = xs.length := by omega
    subst e
    exact .inl ⟨Sr.stop H eH, hd H acc o G' hI S eB hD ha⟩
/-- a new set of whole numbers -/
def EZ (F : Fr) (w : World) (G : List Sl) (te : TE) (κ : List Int → List Sl → Prop) : Prop := ∀ σ H, Sat F G σ H → ∀ Q : VK,
  (∀ p S n H2 ns G2, κ ns G2 → Sat F G2 σ (del p H2) → Ex (low F G H) (low F G2 (del p H2)) → H2 p = some (SetO w p S n) → (∀ j : Int, S j = decide (j ∈ ns)) → n ≤ ns.length → Q (.ref p) H2) → te σ H Q
/-- sorted(a set of whole numbers) -/
theorem eo_sortZ {te : TE} {α : Kps} (h : EZ F w G te fun ns G1 => ns.length < 64 ∧ ∀ zs : List Int, zs.Pairwise (· < ·) → (∀ j, j ∈ zs ↔ j ∈ ns) → α (zs.map .int) G1) : EO F G (tCB (rSortedSet w) (tCons te tNil)) α := fun σ H S Q q =>
  h σ H S _ fun p Sf n H1 ns G1 ⟨hl, k⟩ S1 e1 h1 hS hn => by
    refine ⟨p, Sf, n, rfl, h1, by omega, fun zs a hp hm _ hf => ?_⟩
    have ed : del a (upd H1 a (.lst (zs.map V.int))) = H1 := by
      rw [del_upd]
      funext b
      by_cases hb : b = a
      · subst hb; rw [del_same, hf]
      · rw [del_ne hb]
    have S2 : Sat F G1 σ H1 := S1.ex del_ex
    exact q a (zs.map V.int) _ (zs.map .int) G1 (k zs hp fun j => by rw [hm j, hS j, decide_eq_true_eq]) (by rw [ed]; exact S2) (by rw [ed]; exact e1.trans (low_mono del_ex)) upd_same (by rw [ed]; exact dps_ints zs)
end
end DL
namespace DL
open PySem PySem.Spec PyProof.Rows L2 Evl
end DL
namespace DL
open PySem PySem.Spec PyProof.Rows L2 Evl
/-- the number that a part counts as -/
inductive KP : Int → Value → Prop
  | int (i : Int) (t : Tok) : KP i (.int i t)
  | bool (b : Bool) : KP (if b = true then 1 else 0) (.bool b)
inductive KPs : List Int → List Value → Prop
  | nil : KPs [] []
  | cons {i : Int} {v : Value} {k : List Int} {vs : List Value} : KP i v → KPs k vs → KPs (i :: k) (v :: vs)
theorem KPs.quiet {k : List Int} {vs : List Value} (h : KPs k vs) : ∀ v ∈ vs, ∀ n, ofAClassStatement n v = pure false ∧ hashByValue n v = pure true := by
  induction h with
  | nil => intro v hv; cases hv
  | cons h1 _ ih =>
    intro v hv n
    rcases List.mem_cons.mp hv with rfl | hv
    · cases h1 <;> cases n <;> exact ⟨rfl, rfl⟩
    · exact ih v hv n
def TKey (h : Heap) (k : List Int) (b : Addr) : Prop := ∃ o its n, h.get? b = some o ∧ o.cls = .type "tuple" ∧ o.data = .seq its n ∧ KPs k its.toList
def nk (k : List Int) : NestedKey := .tup (k.map .num)
theorem nk_depthAll : ∀ k : List Int, NestedKey.depthAll (k.map NestedKey.num) = 0
  | [] => rfl
  | _ :: k => by rw [List.map_cons, NestedKey.depthAll, nk_depthAll k]; rfl
theorem nk_inj {k l : List Int} (h : nk k = nk l) : k = l := by
  have h : k.map NestedKey.num = l.map NestedKey.num := by unfold nk at h; injection h
  exact List.map_inj_right (fun x y e => by injection e) |>.mp h
theorem KPs.all {h : Heap} {k : List Int} {vs : List Value} (x : KPs k vs) : NestedAll h (k.map .num) vs := by
  induction x with
  | nil => exact .nil
  | cons h1 _ ih =>
    refine .cons ?_ ih
    cases h1 with
    | int => exact .int _ _
    | bool => exact .bool rfl
theorem TKey.stay {h h' : Heap} {k : List Int} {b : Addr} (x : TKey h k b) (e : ∀ o, h.get? b = some o → h'.get? b = some o) : TKey h' k b :=
  let ⟨o, its, n, g, r⟩ := x; ⟨o, its, n, e o g, r⟩
abbrev kh (w : World) (k : List Int) : Int := (nk k).hash w
section
variable {P : Program} {w : World} {A : Around} {E : Value → Shared → Prop} {s : Shared} {k : List Int} {b : Addr}
theorem TKey.is (P : Program) (w : World) {h : Heap} (x : TKey h k b) : (nestedKind P w).is h (nk k) b := by
  obtain ⟨o, its, n, g, c, d, kp⟩ := x
  refine ⟨.tup g c d kp.all, ?_⟩
  show NestedKey.depth (.tup _) ≤ 8
  rw [NestedKey.depth, nk_depthAll]
  decide
theorem tk_cls (x : TKey s.heap k b) {Q : Bool → Shared → Prop} (q : Q false s) : wpAny (model P w) A (ofAClassStatement 8 (.ref b)) Q E s := by
  obtain ⟨o, its, n, g, c, d, kp⟩ := x
  have tI : s.TypeIs (.ref b) "tuple" := ⟨o, g, c⟩
  unfold ofAClassStatement
  refine wpAny_bind (wpAny_typeOf tI ?_)
  have yes : (("tuple" : String) == "tuple") = true := by decide
  simp only [yes, if_true, Bool.not_true, Bool.false_eq_true, if_false]
  try refine wpAny_bind (wpAny_pure ?_)
  try simp only [Bool.not_true, Bool.false_eq_true, if_false]
  show wpAny _ _ (seqItems? (.ref b) >>= _) _ _ s
  refine wpAny_bind (wpAny_seqItems g d ?_)
  refine wpAny_bind ?_
  show wpAny _ _ (forIn its _ _) _ _ s
  rw [← Array.forIn_toList]
  refine wpAny_forIn_list _ (fun l z s2 => (z.1 = none ∧ s2 = s) ∧ ∀ v ∈ l, ∀ n, ofAClassStatement n v = pure false ∧ hashByValue n v = pure true) _ (fun v l z s2 ⟨⟨z1, z2⟩, a⟩ => ?_) (fun z s2 ⟨⟨z1, z2⟩, _⟩ => ?_) _ _ ⟨⟨rfl, rfl⟩, kp.quiet⟩
  · subst z2
    rw [(a v List.mem_cons_self _).1]
    refine wpAny_bind (wpAny_pure ?_)
    simp only [Bool.false_eq_true, if_false]
    exact wpAny_pure ⟨⟨rfl, rfl⟩, fun u hu => a u (List.mem_cons_of_mem _ hu)⟩
  · obtain ⟨y1, y2⟩ := z
    cases z1
    subst z2
    exact wpAny_pure q
theorem tk_hash (x : TKey s.heap k b) {Q : Bool → Shared → Prop} (q : Q true s) : wpAny (model P w) A (hashByValue 8 (.ref b)) Q E s := by
  obtain ⟨o, its, n, g, c, d, kp⟩ := x
  have tI : s.TypeIs (.ref b) "tuple" := ⟨o, g, c⟩
  unfold hashByValue
  refine wpAny_bind (wpAny_specialOf tI PySem.F.slot_tuple_hash.lookup ?_)
  show wpAny _ _ (seqItems? (.ref b) >>= _) _ _ s
  refine wpAny_bind (wpAny_seqItems g d ?_)
  refine wpAny_bind ?_
  show wpAny _ _ (forIn its _ _) _ _ s
  rw [← Array.forIn_toList]
  refine wpAny_forIn_list _ (fun l z s2 => (z.1 = none ∧ s2 = s) ∧ ∀ v ∈ l, ∀ n, ofAClassStatement n v = pure false ∧ hashByValue n v = pure true) _ (fun v l z s2 ⟨⟨z1, z2⟩, a⟩ => ?_) (fun z s2 ⟨⟨z1, z2⟩, _⟩ => ?_) _ _ ⟨⟨rfl, rfl⟩, kp.quiet⟩
  · subst z2
    rw [(a v List.mem_cons_self _).2]
    refine wpAny_bind (wpAny_pure ?_)
    simp only [Bool.not_true, Bool.false_eq_true, if_false]
    exact wpAny_pure ⟨⟨rfl, rfl⟩, fun u hu => a u (List.mem_cons_of_mem _ hu)⟩
  · obtain ⟨y1, y2⟩ := z
    cases z1
    subst z2
    exact wpAny_pure q
theorem tk_seen (x : TKey s.heap k b) {ys : List Value} (hy : ∀ y ∈ ys, ∃ l c, y = Value.ref c ∧ TKey s.heap l c) {Q : Bool → Shared → Prop} (q : Q false s) : wpAny (model P w) A (searchCouldBeSeen (.ref b) ys) Q E s := by
  unfold searchCouldBeSeen
  refine wpAny_bind ?_
  refine wpAny_forIn_list _ (fun l z s2 => (z.1 = none ∧ s2 = s) ∧ ∀ y ∈ l, ∃ l c, y = Value.ref c ∧ TKey s.heap l c) _ (fun v l z s2 ⟨⟨z1, z2⟩, a⟩ => ?_) (fun z s2 ⟨⟨z1, z2⟩, _⟩ => ?_) _ _ ⟨⟨rfl, rfl⟩, hy⟩
  · subst z2
    have more : (∀ y ∈ l, ∃ l c, y = Value.ref c ∧ TKey s2.heap l c) := fun u hu => a u (List.mem_cons_of_mem _ hu)
    obtain ⟨k2, c, rfl, tc⟩ := a v List.mem_cons_self
    dsimp only
    by_cases same : (b == c || (carriedByValue (.ref b) && carriedByValue (.ref c))) = true
    · exact wp_if_pos same (wpAny_pure ⟨⟨rfl, rfl⟩, more⟩)
    · refine wp_if_neg same (wpAny_bind ((nestedKind P w).quiet (x.is P w) ?_))
      simp only [Bool.not_true, Bool.false_eq_true, if_false]
      refine wpAny_bind ((nestedKind P w).quiet (tc.is P w) ?_)
      simp only [Bool.not_true, Bool.false_eq_true, if_false]
      refine wpAny_bind (tk_cls x ?_)
      simp only [Bool.false_eq_true, if_false]
      refine wpAny_bind (tk_cls tc ?_)
      simp only [Bool.false_eq_true, if_false]
      exact wpAny_pure ⟨⟨rfl, rfl⟩, more⟩
  · obtain ⟨y1, y2⟩ := z
    cases z1
    subst z2
    exact wpAny_pure q
end
def prb (m : Nat) (h : Int) (c : Nat) : SetTable.Probe := nth m (runAt m (SetTable.bits h % (m + 1)) (SetTable.bits h)) c
theorem prb_on (m : Nat) (h : Int) (c q : Nat) : nth m (prb m h c) q = prb m h (c + q) := (nth_add m c _ q).symm
theorem prb_j (m : Nat) (h : Int) (c : Nat) : (prb m h c).j = way m h c := rfl
theorem prb_dm (m : Nat) (h : Int) : ∀ c, (prb m h c).dummy = none
  | 0 => rfl
  | c + 1 => by
    have e : prb m h (c + 1) = adv m (prb m h c) := nth_succ m _ c
    rw [e]
    unfold adv
    split <;> exact prb_dm m h c
structure KSet (w : World) (h : Heap) (a : Addr) (L : List (Addr × List Int)) (es : Array (Int × Value)) (ep : Nat) (t : SetTable) : Prop where
  place : ∃ o, h.get? a = some o ∧ o.ExactSet ∧ o.data = .set es ep t
  els : es.toList = L.map fun p => (kh w p.2, Value.ref p.1)
  tb : TabOk t (L.map fun p => kh w p.2)
  once : (L.map (·.2)).Nodup
  keys : ∀ p ∈ L, TKey h p.2 p.1
  pl : t.plain = true
  ld : w.params.followText "set-order" = true ∨ t.led = true
  rm : L.length * 5 < t.mask * 3
  fw : L.length < 64
section
variable {P : Program} {w : World} {A : Around} {E : Value → Shared → Prop} {s : Shared} {a : Addr} {L : List (Addr × List Int)} {es : Array (Int × Value)} {ep : Nat} {t : SetTable}
theorem els_len {es : Array (Int × Value)} (h : es.toList = L.map fun p => (kh w p.2, Value.ref p.1)) : es.size = L.length := by
  rw [← Array.length_toList, h, List.length_map]
theorem els_at {es : Array (Int × Value)} (h : es.toList = L.map fun p => (kh w p.2, Value.ref p.1)) {i : Nat} {p : Addr × List Int} (e : L[i]? = some p) : es[i]? = some (kh w p.2, Value.ref p.1) := by
  rw [← Array.getElem?_toList, h, List.getElem?_map, e]; rfl
theorem KSet.fit (R : KSet w s.heap a L es ep t) : t.fits es.size = true := by
  have z := R.tb.sz
  have y := els_len R.els
  have r := R.rm
  rw [List.length_map] at z
  simp only [SetTable.fits, SetTable.fill, R.tb.dm, Bool.and_eq_true, beq_iff_eq, decide_eq_true_eq]
  refine ⟨by omega, ?_⟩
  show t.place.size + 0 ≤ t.mask
  omega
/-- the search for k from the c-th place of its way on -/
theorem ks_go (R : KSet w s.heap a L es ep t) {x : Addr} {k : List Int} (hx : TKey s.heap k x) (room : A.units + 8 < cLine) {K : Nat} (kt : K < 10 * SetTable.turns t.mask) (free : way t.mask (kh w k) K ∉ t.place.toList)
    (full : ∀ c, c < K → way t.mask (kh w k) c ∈ t.place.toList) {Q : SetFound → Shared → Prop} (yes : k ∈ L.map (·.2) → Q (.there none) s) (no : k ∉ L.map (·.2) → Q (.free (way t.mask (kh w k) K) false) s) :
    ∀ (n c : Nat) (st : Option SetTable.Probe), st.getD (t.probeStart (kh w k)) = prb t.mask (kh w k) c → c ≤ K → K < n + c → (∀ (i : Nat) p, L[i]? = some p → p.2 = k → ∃ d, c ≤ d ∧ d < K ∧ t.place.toList[i]? = some (way t.mask (kh w k) d)) →
      wpAny (model P w) A (setSearchFrom a (.ref x) (kh w k) true n st) Q E s := by
  intro n
  induction n with
  | zero => intro c st _ ck kn _; exact absurd kn (by omega)
  | succ n ih =>
    intro c st est ck kn left
    have ⟨ob, og, ox, od⟩ := R.place
    have gave : ¬ t.gaveWay = true := by
      unfold SetTable.gaveWay
      rw [mask_odd R.tb.mok]
      decide
    have on : ∀ q, (nth t.mask (prb t.mask (kh w k) c) q).j = way t.mask (kh w k) (c + q) := fun q => by rw [prb_on, prb_j]
    have hat : ∀ {i : Nat} {p : Addr × List Int}, L[i]? = some p → ((es[i]?.map (·.1)).getD 0 : Int) = kh w p.2 := fun e => by rw [els_at R.els e]; rfl
    rw [setSearchFrom_succ]
    refine wpAny_bind (wpAny_setState_of og od R.fit ?_)
    dsimp only
    refine wp_if_neg gave ?_
    try refine wpAny_bind (wpAny_pure ?_)
    have cases_ := go_spec t R.tb.ris R.tb.dm (fun i => (es[i]?.map (·.1)).getD 0) (kh w k) (10 * SetTable.turns t.mask) (K - c) (prb t.mask (kh w k) c) (prb_dm _ _ c) (by omega) (fun q hq => by rw [on]; exact full _ (by omega)) (by rw [on, Nat.add_sub_cancel' ck]; exact free)
    have start : ∀ z, SetTable.probe.go t (fun i => (es[i]?.map (·.1)).getD 0) (kh w k) (10 * SetTable.turns t.mask) (prb t.mask (kh w k) c) = z → t.probe (fun i => (es[i]?.map (·.1)).getD 0) (kh w k) (st.getD (t.probeStart (kh w k))) = z := fun z e => by rw [est]; exact e
    rcases cases_ with ⟨q, i, qK, iq, _, before, pr⟩ | ⟨before, pr⟩
    · rw [start _ pr, prb_on, prb_on, prb_j]
      rw [on] at iq
      dsimp only
      have il : i < L.length := by
        have z := R.tb.sz
        have y := (List.getElem?_eq_some_iff.mp iq).1
        rw [List.length_map] at z
        rw [Array.length_toList] at y
        omega
      obtain ⟨p, ep_⟩ : ∃ p, L[i]? = some p := ⟨_, List.getElem?_eq_getElem il⟩
      have pL := List.mem_of_getElem? ep_
      have tail : wpAny (model P w) A (searchRest a (.ref x) (kh w k) true n es t (way t.mask (kh w k) (c + q)) i (prb t.mask (kh w k) (c + (q + 1)))) Q E s := by
        unfold searchRest
        rw [els_at R.els ep_]
        dsimp only
        refine wpAny_bind (wpAny_holding ((nestedKind P w).eqBool room ((R.keys p pL).is P w) (hx.is P w) ?_))
        refine wpAny_bind (wpAny_setState_of og od R.fit ?_)
        dsimp only
        by_cases eq : p.2 = k
        · refine wp_if_pos (by rw [eq]; simp) (wpAny_pure (yes (List.mem_map.mpr ⟨p, pL, eq⟩)))
        · have ne : nk p.2 ≠ nk k := fun e => eq (nk_inj e)
          refine wp_if_neg (by simp [ne]) ?_
          try refine wpAny_bind (wpAny_pure ?_)
          rw [sameMem]
          have live : t.slot (way t.mask (kh w k) (c + q)) = .live i := slot_live R.tb.ris iq
          simp only [if_true, live, els_at R.els ep_]
          refine wpAny_bind (wpAny_isSame_ref_self (wpAny_bind (wpAny_pure ?_)))
          simp only [if_true]
          refine wp_if_neg (by simp [ne]) (ih (c + (q + 1)) _ rfl (by omega) (by omega) fun j r jr rk => ?_)
          obtain ⟨d, d1, d2, d3⟩ := left j r jr rk
          refine ⟨d, Nat.lt_of_not_le fun dq => ?_, d2, d3⟩
          rcases Nat.lt_or_eq_of_le (show d ≤ c + q by omega) with lt | e
          · exact before (d - c) j (by omega) (by rw [on, Nat.add_sub_cancel' d1]; exact d3) ((hat jr).trans (congrArg (kh w) rk))
          · rw [e] at d3
            have two := slot_live R.tb.ris d3
            rw [live] at two
            injection two with two
            rw [← two, ep_] at jr
            exact eq ((congrArg Prod.snd (Option.some.inj jr)).trans rk)
      by_cases led : t.led = true
      · refine wp_if_neg (by simp [led]) ?_
        try refine wpAny_bind (wpAny_pure ?_)
        exact tail
      · refine wp_if_pos (by simp [led]) (wpAny_bind (tk_seen hx (fun y hy => ?_) ?_))
        · obtain ⟨e, he, rfl⟩ := List.mem_map.mp hy
          have he : e ∈ es ∧ e.1 = kh w k := by simpa using he
          have he : e ∈ es.toList := by simpa using he.1
          rw [R.els] at he
          obtain ⟨r, rL, rfl⟩ := List.mem_map.mp he
          exact ⟨r.2, r.1, rfl, R.keys r rL⟩
        · refine wp_if_neg (by decide) ?_
          try refine wpAny_bind (wpAny_pure ?_)
          exact tail
    · rw [start _ pr, on, Nat.add_sub_cancel' ck]
      dsimp only
      refine wpAny_pure (no fun mem => ?_)
      obtain ⟨r, rL, rk⟩ := List.mem_map.mp mem
      obtain ⟨j, jl, je⟩ := List.getElem_of_mem rL
      have jr : L[j]? = some r := by rw [List.getElem?_eq_getElem jl, je]
      obtain ⟨d, d1, d2, d3⟩ := left j r jr rk
      exact before (d - c) j (by omega) (by rw [on, Nat.add_sub_cancel' d1]; exact d3) ((hat jr).trans (congrArg (kh w) rk))
theorem ks_find (R : KSet w s.heap a L es ep t) {x : Addr} {k : List Int} (hx : TKey s.heap k x) (room : A.units + 8 < cLine) {Q : SetFound → Shared → Prop} (yes : k ∈ L.map (·.2) → Q (.there none) s)
    (no : ∀ K, k ∉ L.map (·.2) → way t.mask (kh w k) K ∉ t.place.toList → (∀ c, c < K → way t.mask (kh w k) c ∈ t.place.toList) → Q (.free (way t.mask (kh w k) K) false) s) : wpAny (model P w) A (setSearch a (.ref x) (kh w k) true) Q E s := by
  have r := R.rm
  obtain ⟨K, kt, free, full⟩ := R.tb.first (by rw [List.length_map]; omega) (kh w k)
  have small : K < 100000 := by
    have : SetTable.turns t.mask ≤ 142 := by
      unfold SetTable.turns
      rcases R.tb.mok with e | e | e <;> omega
    omega
  refine ks_go R hx room kt free full yes (fun n => no K n free full) 100000 0 none rfl (Nat.zero_le K) (by omega) fun i p ip pk => ?_
  have z := R.tb.sz
  have il := (List.getElem?_eq_some_iff.mp ip).1
  rw [List.length_map] at z
  obtain ⟨j, jp⟩ : ∃ j, t.place.toList[i]? = some j := ⟨_, List.getElem?_eq_getElem (by rw [Array.length_toList]; omega)⟩
  obtain ⟨d, dK, e⟩ := R.tb.before free (show (L.map fun p => kh w p.2)[i]? = some (kh w k) by rw [List.getElem?_map, ip, ← pk]; rfl) jp
  exact ⟨d, Nat.zero_le d, dK, by rw [jp, e]⟩
theorem TKey.aside {h h' : Heap} {k : List Int} {b a : Addr} {o : Obj} (x : TKey h k b) (g : h.get? a = some o) (d : o.data = .set es ep t) (e : Heap.SameBut a h h') : TKey h' k b := by
  refine x.stay fun u gu => (e.2 b fun ba => ?_).trans gu
  obtain ⟨o2, its, n, g2, _, d2, _⟩ := x
  rw [ba, g] at g2
  rw [← Option.some.inj g2, d] at d2
  cases d2
theorem range_pick {α : Type} (l : List α) : ∀ m, m ≤ l.length → (List.range m).filterMap (fun i => l[i]?) = l.take m
  | 0, _ => rfl
  | m + 1, h => by
    obtain ⟨x, hx⟩ : ∃ x, l[m]? = some x := ⟨_, List.getElem?_eq_getElem (by omega)⟩
    rw [List.range_succ, List.filterMap_append, range_pick l m (by omega), List.take_add_one, hx, List.filterMap_cons_some hx]
    rfl
theorem pick_perm {L : List (Addr × List Int)} {ord : List Nat} (h : ord.Perm (List.range L.length)) : (ord.filterMap fun i => L[i]?).Perm L := by
  have e := range_pick L L.length (Nat.le_refl _)
  rw [List.take_length] at e
  exact (h.filterMap _).trans (by rw [e])
theorem pick_els (els : es.toList = L.map fun p => (kh w p.2, Value.ref p.1)) (ord : List Nat) : (ord.filterMap fun i => es[i]?) = (ord.filterMap fun i => L[i]?).map fun p => (kh w p.2, Value.ref p.1) := by
  rw [List.map_filterMap]
  congr 1
  funext i
  rw [← Array.getElem?_toList, els, List.getElem?_map]
theorem pick_hash (els : es.toList = L.map fun p => (kh w p.2, Value.ref p.1)) : ∀ ord : List Nat, (∀ i ∈ ord, i < L.length) → (ord.map fun i => (es.map (·.1)).getD i 0) = (ord.filterMap fun i => L[i]?).map fun p => kh w p.2
  | [], _ => rfl
  | i :: r, h => by
    obtain ⟨p, hp⟩ : ∃ p, L[i]? = some p := ⟨_, List.getElem?_eq_getElem (h i List.mem_cons_self)⟩
    rw [List.map_cons, List.filterMap_cons_some hp, List.map_cons, pick_hash els r fun j hj => h j (List.mem_cons_of_mem _ hj)]
    congr 1
    have e : (es.map (·.1))[i]? = some (kh w p.2) := by rw [Array.getElem?_map, els_at els hp]; rfl
    rw [Array.getD_eq_getD_getElem?, e]
    rfl
/-- the table laid anew -/
theorem ks_lay {o : Obj} (og : s.heap.get? a = some o) (ox : o.ExactSet) (od : o.data = .set es ep t) (els : es.toList = L.map fun p => (kh w p.2, Value.ref p.1)) (sz : t.place.size = L.length) (dm : t.dummies = #[]) (fl : L.length ≤ t.mask)
    (once : (L.map (·.2)).Nodup) (keys : ∀ p ∈ L, TKey s.heap p.2 p.1) (pl : t.plain = true) (ld : w.params.followText "set-order" = true ∨ t.led = true) (fw : L.length < 64) {want M : Nat} (wM : SetTable.sizeAbove want - 1 = M) (mM : MaskOk M) (big : SetTable.sizeAbove want ≤ 128)
    (rM : L.length * 5 < M * 3) {Q : Unit → Shared → Prop} (q : ∀ h2 L2 es2 ep2 t2, Heap.SameBut a s.heap h2 → KSet w h2 a L2 es2 ep2 t2 → L2.Perm L → Q () { s with heap := h2 }) : wpAny (model P w) A (setRelay a want) Q E s := by
  have ln := els_len els
  have fit : t.fits es.size = true := by
    simp only [SetTable.fits, SetTable.fill, dm, Bool.and_eq_true, beq_iff_eq, decide_eq_true_eq]
    refine ⟨by omega, ?_⟩
    show t.place.size + 0 ≤ t.mask
    omega
  obtain ⟨t2, ord, e, pm, tb2, m2, l2, p2, _⟩ := relaid_ok t (hs := es.map (·.1)) wM mM (by rw [Array.size_map, ln]; omega)
  rw [Array.size_map, ln] at pm
  rw [pick_hash els _ fun i hi => List.mem_range.mp (pm.mem_iff.mp hi)] at tb2
  have pL := pick_perm pm
  have pe : (ord.filterMap (es[·]?)).toList = (ord.toList.filterMap fun i => L[i]?).map fun p => (kh w p.2, Value.ref p.1) := by
    rw [← pick_els els]
    first | exact Array.toList_filterMap | simp
  generalize (ord.toList.filterMap fun i => L[i]?) = L2 at tb2 pL pe
  have ln2 := els_len pe
  rw [setRelay_eq]
  refine wpAny_bind (wpAny_setState_of og od fit ?_)
  dsimp only
  refine wp_if_neg (by rw [sizeLine_eq]; omega) ?_
  try refine wpAny_bind (wpAny_pure ?_)
  rw [e]
  dsimp only
  generalize ord.filterMap (es[·]?) = es2 at pe ln2
  have same : es2.size = es.size := by rw [ln2, ln]; exact pL.length_eq
  refine wpAny_bind (wp_if_neg (by rw [same]; simp) ?_)
  try refine wpAny_bind (wpAny_pure ?_)
  refine wpAny_pure ?_
  dsimp only
  refine wpAny_storeSet_of og od ?_ (by rw [same, ln, sizeLine_eq]; omega)
  have sb := Heap.SameBut.update s.heap a (Obj.putSet es2 t2)
  refine q _ L2 es2 (ep + 1) t2 sb ⟨⟨_, store_at og od, ⟨ox.1, ox.2.1, ox.2.2⟩, rfl⟩, pe, tb2, (pL.map (·.2)).nodup_iff.mpr once, fun p hp => (keys p (pL.mem_iff.mp hp)).aside og od sb, p2.trans pl, by rw [l2]; exact ld, ?_, by rw [pL.length_eq]; exact fw⟩ pL
  rw [m2, pL.length_eq]
  exact rM
/-- one more -/
theorem ks_add (R : KSet w s.heap a L es ep t) {x : Addr} {k : List Int} (hx : TKey s.heap k x) (room : A.units + 8 < cLine) (few : L.length + 1 < 64) {Q : Bool → Shared → Prop}
    (q : ∀ b h2 L2 es2 ep2 t2, Heap.SameBut a s.heap h2 → KSet w h2 a L2 es2 ep2 t2 → (k ∈ L.map (·.2) → L2 = L) → (k ∉ L.map (·.2) → L2.Perm ((x, k) :: L)) → Q b { s with heap := h2 }) : wpAny (model P w) A (setAddHashed a (.ref x) (kh w k)) Q E s := by
  have ⟨ob, og, ox, od⟩ := R.place
  have ln := els_len R.els
  have rm := R.rm
  unfold setAddHashed
  refine wpAny_holding ?_
  rw [show (100000 : Nat) = 99999 + 1 from rfl, setAddHashedIn_succ]
  refine wpAny_bind (wpAny_setState_of og od R.fit ?_)
  dsimp only
  refine wp_if_neg (by simp [byScan, Value.scannable]) ?_
  try refine wpAny_bind (wpAny_pure ?_)
  refine wpAny_bind (ks_find R hx room (fun m => ?_) fun K nm free full => ?_)
  · dsimp only
    exact wpAny_pure (q false s.heap L es ep t (Heap.SameBut.refl a s.heap) R (fun _ => rfl) fun n => absurd m n)
  dsimp only
  refine wpAny_bind (wpAny_setState_of og od R.fit ?_)
  dsimp only
  have put := R.tb.put free full
  have pin := fun es0 : Array (Int × Value) => SetTable.toList_insertAt es0
  generalize hW : way t.mask (kh w k) K = W at put ⊢
  obtain ⟨u1, u2, u3, u4, u5, u6, u7, u8, u9⟩ := put
  generalize hT : t.put W = T at u1 u3 u4 u5 u6 u7 u8 u9 ⊢
  obtain ⟨t1, at1⟩ := T
  dsimp only at u1 u3 u4 u5 u6 u7 u8 u9 ⊢
  subst u1
  have pl1 : t1.plain = true := u6.trans R.pl
  first
    | (refine wpAny_bind ?_; refine wp_if_pos pl1 ?_; refine tk_hash hx ?_)
    | refine wp_if_pos pl1 (wpAny_bind (tk_hash hx ?_))
  simp only [if_true]
  generalize SetTable.below t.place W = c at u2 u3 ⊢
  have pm : (L.take c ++ (x, k) :: L.drop c).Perm ((x, k) :: L) := put_perm L c (x, k)
  have e1 : (SetTable.insertAt es c (kh w k, Value.ref x)).toList = (L.take c ++ (x, k) :: L.drop c).map fun p => (kh w p.2, Value.ref p.1) := by
    rw [SetTable.toList_insertAt, R.els, List.map_append, List.map_cons, List.map_take, List.map_drop]
  have tb1 : TabOk t1 ((L.take c ++ (x, k) :: L.drop c).map fun p => kh w p.2) := by
    rw [List.map_append, List.map_cons, List.map_take, List.map_drop]
    exact u3
  have once1 : ((L.take c ++ (x, k) :: L.drop c).map (·.2)).Nodup := (pm.map (·.2)).nodup_iff.mpr (List.nodup_cons.mpr ⟨nm, R.once⟩)
  have len1 : (L.take c ++ (x, k) :: L.drop c).length = L.length + 1 := pm.length_eq
  generalize (L.take c ++ (x, k) :: L.drop c) = L1 at pm e1 tb1 once1 len1
  have ln1 := els_len e1
  generalize SetTable.insertAt es c (kh w k, Value.ref x) = es1 at e1 ln1 ⊢
  refine wpAny_bind (wpAny_storeSet_of og od ?_ (by rw [ln1, len1, sizeLine_eq]; omega))
  have sb := Heap.SameBut.update s.heap a (Obj.putSet es1 t1)
  have og1 := store_at (es' := es1) (t' := t1) og od
  have keys1 : ∀ p ∈ L1, TKey (s.heap.update a (Obj.putSet es1 t1)) p.2 p.1 := fun p hp => by
    rcases List.mem_cons.mp (pm.mem_iff.mp hp) with e | hp
    · rw [e]; exact hx.aside og od sb
    · exact (R.keys p hp).aside og od sb
  generalize s.heap.update a (Obj.putSet es1 t1) = h1 at sb og1 keys1 ⊢
  have ld1 : w.params.followText "set-order" = true ∨ t1.led = true := by rw [u5]; exact R.ld
  rw [List.length_map] at u9
  by_cases tight : t1.tooFull = true
  · first
      | (refine wpAny_bind ?_; refine wp_if_pos (by simp [tight]) ?_)
      | (refine wp_if_pos (by simp [tight]) ?_; refine wpAny_bind ?_)
    have over : (L.length + 1) * 5 ≥ t1.mask * 3 := by
      have z := tight
      unfold SetTable.tooFull at z
      rw [decide_eq_true_eq, u9] at z
      exact z
    rw [u4] at over
    have sz1 : t1.place.size = L1.length := by
      have z := tb1.sz
      rwa [List.length_map] at z
    rw [ln]
    have grow : ∀ M, SetTable.sizeAbove (SetTable.grown (L.length + 1)) - 1 = M → MaskOk M → SetTable.sizeAbove (SetTable.grown (L.length + 1)) ≤ 128 → (L.length + 1) * 5 < M * 3 → L.length + 1 ≤ t.mask →
        wpAny (model P w) A (setRelay a (SetTable.grown (L.length + 1))) (fun _ s2 => wpAny (model P w) A (pure true) Q E s2) E { s with heap := h1 } := fun M z1 z2 z3 z4 z5 =>
      ks_lay (s := { s with heap := h1 }) og1 ⟨ox.1, ox.2.1, ox.2.2⟩ rfl e1 sz1 tb1.dm (by rw [len1, u4]; exact z5) once1 keys1 pl1 ld1 (by rw [len1]; exact few) z1 z2 z3 (by rw [len1]; exact z4) fun h2 L2 es2 ep2 t2 sb2 R2 pm2 =>
        wpAny_pure (q true h2 L2 es2 ep2 t2 (sb.trans sb2) R2 (fun m => absurd m nm) fun _ => pm2.trans pm)
    rcases R.tb.mok with e | e | e
    · have l4 : L.length = 4 := by rw [e] at over rm; omega
      exact grow 31 (by rw [l4, size_20]) (.inr (.inl rfl)) (by rw [l4, size_20]; decide) (by omega) (by omega)
    · have l18 : L.length = 18 := by rw [e] at over rm; omega
      exact grow 127 (by rw [l18, size_76]) (.inr (.inr rfl)) (by rw [l18, size_76]; decide) (by omega) (by omega)
    · rw [e] at over; omega
  · first
      | refine wp_if_neg (by simp [tight]) ?_
      | (refine wpAny_bind ?_; refine wp_if_neg (by simp [tight]) ?_; refine wpAny_pure ?_)
    refine wpAny_pure (q true h1 L1 es1 (ep + 1) t1 sb ⟨⟨_, og1, ⟨ox.1, ox.2.1, ox.2.2⟩, rfl⟩, e1, tb1, once1, keys1, pl1, ld1, ?_, by rw [len1]; exact few⟩ (fun m => absurd m nm) fun _ => pm)
    have z := tight
    unfold SetTable.tooFull at z
    rw [decide_eq_true_eq, u9] at z
    rw [len1]
    omega
/-- d.add(x) -/
theorem ks_put (R : KSet w s.heap a L es ep t) {x : Addr} {k : List Int} (hx : TKey s.heap k x) (room : A.units + 10 < cLine) (few : L.length + 1 < 64) {Q : Value → Shared → Prop}
    (q : ∀ h2 tk L2 es2 ep2 t2, Heap.SameBut a s.heap h2 → KSet w h2 a L2 es2 ep2 t2 → (k ∈ L.map (·.2) → L2 = L) → (k ∉ L.map (·.2) → L2.Perm ((x, k) :: L)) → Q .none { s with heap := h2, toks := tk }) :
    wpAny (model P w) A (call (.builtin "set.add") [.ref a, .ref x]) Q E s := by
  have ⟨ob, og, ox, od⟩ := R.place
  have tI : s.TypeIs (.ref a) "set" := ⟨ob, og, ox.1⟩
  refine wpAny_call_entry F.slot_set_add tI F.entry_set_add ?_ (F.args_set_add_2 _ _)
  unfold Builtin.«set.add» Builtin.Frozenset.oneOther
  simp only [List.isEmpty_nil, bind_assoc]
  unfold Builtin.Frozenset.addrOf setAdd
  refine wpAny_bind (wpAny_pure ?_)
  try dsimp only
  refine wpAny_bind (wpAny_pure ?_)
  try dsimp only
  refine wpAny_bind ?_
  refine wpAny_holding ?_
  refine wpAny_bind ((nestedKind P w).pyHash (show (nestedKind P w).room _ from ?_) (hx.is P w) ?_)
  · show A.units + 1 + 8 < cLine
    omega
  refine ks_add (s := { s with toks := s.toks + (nestedKind P w).draws (nk k) }) R hx ?_ few fun b h2 L2 es2 ep2 t2 sb R2 c1 c2 => ?_
  · show A.units + 1 + 8 < cLine
    omega
  show wpAny _ _ (ret Value.none) _ _ _
  exact wpAny_pure ⟨_, rfl, q h2 _ L2 es2 ep2 t2 sb R2 c1 c2⟩
theorem ks_new (P : Program) {h : Heap} {a : Addr} (g : h.get? a = some { cls := .type "set", dict := none, data := .set #[] 0 (.fresh 0 0 (!w.params.followText "set-order")) }) : KSet w h a [] #[] 0 (.fresh 0 0 (!w.params.followText "set-order")) := by
  have R := setTR_fresh (P := P) (w := w) g
  have z : TabOk (.fresh 0 0 (!w.params.followText "set-order")) [] := R.tab
  have pl := R.plain
  have ld := R.led
  have rm := R.room
  have ob := R.ob
  clear R g
  generalize SetTable.fresh 0 0 (!w.params.followText "set-order") = t at *
  exact ⟨ob, rfl, z, List.nodup_nil, (fun p hp => nomatch hp), pl, ld, rm, by decide⟩
end
def Pr2 (h : Heap) (v : Value) (p : Int × Bool) : Prop := ∃ b o n t, v = .ref b ∧ h.get? b = some o ∧ o.cls = .type "tuple" ∧ o.data = .seq #[.int p.1 t, .bool p.2] n
def pr2Of (h : Heap) (v : Value) : Int × Bool := match v with
  | .ref b => match h.get? b with
    | some o => match o.data with
      | .seq its _ => match its.toList with
        | [.int m _, .bool c] => (m, c)
        | _ => (0, false)
      | _ => (0, false)
    | none => (0, false)
  | _ => (0, false)
theorem Pr2.of {h : Heap} {v : Value} {p : Int × Bool} (x : Pr2 h v p) : pr2Of h v = p := by
  obtain ⟨b, o, n, t, rfl, g, _, d⟩ := x
  unfold pr2Of
  simp only [g, d]
theorem Pr2.stay {h h' : Heap} {v : Value} {p : Int × Bool} (x : Pr2 h v p) (e : ∀ b o, h.get? b = some o → o.cls = .type "tuple" → h'.get? b = some o) : Pr2 h' v p :=
  let ⟨b, o, n, t, ev, g, c, d⟩ := x; ⟨b, o, n, t, ev, e b o g c, c, d⟩
def rk2 (p : Int × Bool) : Int := 2 * p.1 + (if p.2 = true then 1 else 0)
def kk2 (p : Int × Bool) : List Int := [p.1, if p.2 = true then 1 else 0]
theorem kk2_inj {p q : Int × Bool} (h : kk2 p = kk2 q) : p = q := by
  obtain ⟨m, b⟩ := p
  obtain ⟨n, c⟩ := q
  have h1 : m = n ∧ (if b = true then (1 : Int) else 0) = (if c = true then 1 else 0) := by
    unfold kk2 at h
    simpa using h
  have h2 := h1.2
  cases b <;> cases c <;> simp_all
theorem Pr2.key {h : Heap} {b : Addr} {p : Int × Bool} (x : Pr2 h (.ref b) p) : TKey h (kk2 p) b := by
  obtain ⟨c, o, n, t, e, g, cl, d⟩ := x
  injection e with e
  subst e
  exact ⟨o, _, n, g, cl, d, .cons (.int _ t) (.cons (.bool _) .nil)⟩
section
variable {P : Program} {w : World} {A : Around} {E : Value → Shared → Prop} {s : Shared}
theorem pr2_cmp {vs : List Value} (x : ∀ v ∈ vs, ∃ p, Pr2 s.heap v p) (h2 : 2 ≤ vs.length) (rr : Value → Int) (hr : ∀ v ∈ vs, ∀ p, Pr2 s.heap v p → rr v = rk2 p) (Q : SortKind → Shared → Prop) (q : ∀ κ, TS.Cmp P w A s κ (pairsOf vs) rr → Q κ s) : wpAny (model P w) A (keyKind' vs.toArray) Q E s := by
  obtain ⟨fs, kt, fl, fi⟩ : ∃ fs, PySem.W.KatTups s.heap vs fs ∧ fs.length = vs.length ∧ ∀ f ∈ fs, ∃ m t, f = Value.int m t := by
    clear h2 q hr
    induction vs with
    | nil => exact ⟨[], trivial, rfl, fun f hf => nomatch hf⟩
    | cons v r ih =>
      obtain ⟨fs, k1, k2, k3⟩ := ih fun u hu => x u (List.mem_cons_of_mem _ hu)
      obtain ⟨p, b, o, n, t, rfl, g, c, d⟩ := x v List.mem_cons_self
      refine ⟨.int p.1 t :: fs, PySem.W.KatTups.cons g c d rfl k1, by rw [List.length_cons, List.length_cons, k2], fun f hf => ?_⟩
      rcases List.mem_cons.mp hf with rfl | hf
      · exact ⟨_, _, rfl⟩
      · exact k3 f hf
  refine PySem.W.kat_kind (T := Value.type "int") kt (by omega) (fun f hf => ?_) rfl (q _ fun u v hu hv Q2 E2 q2 => ?_)
  · obtain ⟨m, t, rfl⟩ := fi f hf
    exact PySem.W.Looks.of_pure rfl
  · rw [pairsOf_toList] at hu hv
    obtain ⟨p, xp⟩ := x _ (mem_zip_self hu).2
    obtain ⟨r, xr⟩ := x _ (mem_zip_self hv).2
    rw [hr _ (mem_zip_self hu).2 p xp, hr _ (mem_zip_self hv).2 r xr] at q2
    obtain ⟨b1, o1, n1, t1, e1, g1, c1, d1⟩ := xp
    obtain ⟨b2, o2, n2, t2, e2, g2, c2, d2⟩ := xr
    rw [e1, e2]
    refine PySem.W.kat_lt g1 d1 g2 d2 ?_
    refine PySem.W.kat_cons (p := .int p.1 t1) (q := .int r.1 t2) (r := [(.bool p.2, .bool r.2)]) (wpAny_eqBool_int ?_)
    refine PySem.W.kat_go (fun e => ?_) fun e => ?_
    · have e : p.1 = r.1 := by simpa using e
      rw [e]
      refine PySem.W.kat_yes (PySem.W.kat_cons (SeqAt.EqAt.bool_bool p.2 r.2 P w _ _ ?_))
      refine PySem.W.kat_go (fun e2 => ?_) fun e2 => ?_
      · have e2 : p.2 = r.2 := by simpa using e2
        rw [e2]
        refine PySem.W.kat_yes (PySem.W.kat_nil ?_)
        rw [show decide (rk2 p < rk2 r) = decide ((#[Value.int p.1 t1, Value.bool p.2] : Array Value).size < (#[Value.int r.1 t2, Value.bool r.2] : Array Value).size) from ?_] at q2
        · exact q2
        · unfold rk2
          rw [e, e2]
          simp
      · refine PySem.W.kat_no ?_
        rw [show (_ && 0 + 1 == 0) = false by simp]
        refine PySem.W.kat_one _ _ (PyProof.Rows.lt_bool ?_)
        have e3 : decide (rk2 p < rk2 r) = decide (b2i p.2 < b2i r.2) := by
          unfold rk2
          rw [e]
          rw [decide_eq_decide]
          cases p.2 <;> cases r.2 <;> simp [b2i] <;> omega
        rw [e3] at q2
        exact q2
    · have ne : p.1 ≠ r.1 := by simpa using e
      refine PySem.W.kat_no (PyProof.Rows.oneLt_any_int ?_)
      have e3 : decide (rk2 p < rk2 r) = decide (p.1 < r.1) := by
        unfold rk2
        rw [decide_eq_decide]
        cases p.2 <;> cases r.2 <;> simp <;> omega
      rw [e3] at q2
      exact q2
theorem perm_back {α β : Type} {f : α → β} {l m : List β} (h : l.Perm m) : ∀ {L : List α}, m = L.map f → ∃ L2 : List α, L2.Perm L ∧ l = L2.map f := by
  induction h with
  | nil => intro L e; exact ⟨[], by rw [List.map_eq_nil_iff.mp e.symm], rfl⟩
  | cons x _ ih =>
    intro L e
    cases L with
    | nil => cases e
    | cons y L =>
      rw [List.map_cons] at e
      injection e with e1 e2
      obtain ⟨L2, p2, e3⟩ := ih e2
      exact ⟨y :: L2, p2.cons y, by rw [List.map_cons, e1, e3]⟩
  | swap x y l =>
    intro L e
    match L, e with
    | a :: b :: L, e =>
      rw [List.map_cons, List.map_cons] at e
      injection e with e1 e2
      injection e2 with e2 e3
      exact ⟨b :: a :: L, List.Perm.swap a b L, by rw [List.map_cons, List.map_cons, e1, e2, e3]⟩
  | trans _ _ ih1 ih2 =>
    intro L e
    obtain ⟨L2, p2, e2⟩ := ih2 e
    obtain ⟨L3, p3, e3⟩ := ih1 e2
    exact ⟨L3, p3.trans p2, e3⟩
theorem ks_sorted {a : Addr} {L : List (Addr × List Int)} {es : Array (Int × Value)} {ep : Nat} {t : SetTable} {Q : Value → Shared → Prop} (R : KSet w s.heap a L es ep t) (calm : A.handled = none) (prs : ∀ p ∈ L, ∃ m, Pr2 s.heap (.ref p.1) m)
    (q : ∀ s2 l (out : Array Value) (c : Nat) (L2 : List (Addr × List Int)), (∀ b o, s.heap.get? b = some o → s2.heap.get? b = some o) → s2.gens = s.gens → s2.os = s.os → s.heap.objs.size ≤ l → s2.heap.get? l = some (seqObj "list" out c) →
      out.toList = L2.map (fun p => Value.ref p.1) → L2.Perm L → L2.Pairwise (fun p r => rk2 (pr2Of s.heap (.ref p.1)) ≤ rk2 (pr2Of s.heap (.ref r.1))) → Q (.ref l) s2) : wpAny (model P w) A (call (.builtin "sorted") [.ref a]) Q E s := by
  have ⟨ob, og, ox, od⟩ := R.place
  have ln := els_len R.els
  have fw := R.fw
  refine Calls.call_function_entry kind_sorted plain_sorted entry_sorted (args_sorted1 _) ?_
  unfold Builtin.«sorted»
  refine wpAny_bind (m := checkCount "sorted" 1 1 _) (wpAny_pure ?_)
  refine wpAny_bind (collect_set (A := A.in1) calm ⟨ob, og, ox.1, od⟩ R.fit (by unfold scanBound; omega) R.tb.ris R.ld fun s1 vs keep1 size1 gen1 os1 pm => ?_)
  rw [R.els, List.map_map] at pm
  have pm : vs.Perm (L.map fun p => Value.ref p.1) := pm
  obtain ⟨L1, pm1, rfl⟩ := perm_back pm rfl
  have few : (L1.map fun p => Value.ref p.1).length < 64 := by rw [List.length_map, pm1.length_eq]; exact fw
  generalize hvs : (L1.map fun p => Value.ref p.1) = vs at few
  refine wpAny_bind (wpAny_newList ?_ (by rw [sizeLine_eq]; omega))
  have lg : (s1.heap.push (seqObj "list" vs.toArray 0)).get? s1.heap.objs.size = some (seqObj "list" vs.toArray 0) := Heap.get?_push_size _ rfl
  have prv : ∀ v ∈ vs, ∃ m, Pr2 s.heap v m := fun v hv => by
    rw [← hvs] at hv
    obtain ⟨p, hp, rfl⟩ := List.mem_map.mp hv
    exact prs p (pm1.mem_iff.mp hp)
  refine wpAny_bind (wpAny_holding (wpAny_call_entry slot_list_sort ⟨_, lg, rfl⟩ entry_list_sort (SK.plain_sort (s := { s1 with heap := s1.heap.push (seqObj "list" vs.toArray 0) }) (r := fun v => rk2 (pr2Of s.heap v)) lg few (fun two Q2 q2 => ?_) fun ps out o1 o2 o3 => ?_) (args_list_sort _)))
  · have mid : ∀ b o, s.heap.get? b = some o → (TS.midHeap (s1.heap.push (seqObj "list" vs.toArray 0)) s1.heap.objs.size vs).get? b = some o := fun b o e =>
      TS.midHeap_old (Nat.ne_of_lt (Heap.lt_size (keep1 b o e))) (Heap.get?_push_of_some _ (keep1 b o e))
    refine pr2_cmp (s := { s1 with heap := TS.midHeap (s1.heap.push (seqObj "list" vs.toArray 0)) s1.heap.objs.size vs }) (fun v hv => ?_) two (fun v => rk2 (pr2Of s.heap v)) (fun v hv p xp => ?_) Q2 q2
    · obtain ⟨m, x⟩ := prv v hv
      exact ⟨m, x.stay fun b o e _ => mid b o e⟩
    · obtain ⟨m, x⟩ := prv v hv
      show rk2 (pr2Of s.heap v) = _
      rw [x.of, ← xp.of, (x.stay fun b o e _ => mid b o e : Pr2 (TS.midHeap _ _ _) v m).of]
  · obtain ⟨pv, sv⟩ := TS.out_rank (r := fun v => rk2 (pr2Of s.heap v)) o1 o2 o3
    rw [← hvs] at pv
    obtain ⟨L2, pm2, e2⟩ := perm_back pv rfl
    refine ⟨_, rfl, ?_⟩
    obtain ⟨c, hc⟩ := sortedHeap_at (vs := vs) (out := out) lg
    rw [e2] at sv
    refine wpAny_pure ⟨_, rfl, q _ s1.heap.objs.size out c L2 (fun b o e => ?_) gen1 os1 size1 hc e2 (pm2.trans pm1) (by rw [List.pairwise_map] at sv; exact sv)⟩
    have e1 := keep1 b o e
    have lt1 := Heap.lt_size e1
    show (sortedHeap (s1.heap.push (seqObj "list" vs.toArray 0)) s1.heap.objs.size vs out).get? b = some o
    rw [sortedHeap_old (Nat.ne_of_lt lt1) (by rw [size_push']; exact Nat.lt_succ_of_lt lt1)]
    exact Heap.get?_push_of_some _ e1
end
def KS0 (w : World) (h : Heap) (a : Addr) (L : List (Addr × List Int)) : Prop := ∃ es ep t, (∃ o, h.get? a = some o ∧ o.ExactSet ∧ o.data = .set es ep t) ∧ es.toList = (L.map fun p => (kh w p.2, Value.ref p.1)) ∧ TabOk t (L.map fun p => kh w p.2) ∧ (L.map (·.2)).Nodup ∧ t.plain = true ∧
  (w.params.followText "set-order" = true ∨ t.led = true) ∧ L.length * 5 < t.mask * 3 ∧ L.length < 64
def SetKO (w : World) (a : Addr) (L : List (Addr × List Int)) : HO := .ext fun h => KS0 w h a L
theorem KSet.bare {w : World} {h : Heap} {a : Addr} {L : List (Addr × List Int)} {es : Array (Int × Value)} {ep : Nat} {t : SetTable} (R : KSet w h a L es ep t) : KS0 w h a L := ⟨es, ep, t, R.place, R.els, R.tb, R.once, R.pl, R.ld, R.rm, R.fw⟩
theorem KS0.full {w : World} {h : Heap} {a : Addr} {L : List (Addr × List Int)} (R : KS0 w h a L) (k : ∀ p ∈ L, TKey h p.2 p.1) : ∃ es ep t, KSet w h a L es ep t := by
  obtain ⟨es, ep, t, r1, r2, r3, r4, r5, r6, r7, r8⟩ := R
  exact ⟨es, ep, t, ⟨r1, r2, r3, r4, k, r5, r6, r7, r8⟩⟩
theorem setKO_ok {P : Program} {w : World} {H : Hp} {h : Heap} {a : Addr} {L : List (Addr × List Int)} (R : KS0 w h a L) : ObjOk P w H h a (SetKO w a L) := by
  have ⟨es, ep, t, ⟨o, g, r⟩, _⟩ := R
  refine ⟨R, ⟨o, g⟩, fun h1 h2 z e => ?_⟩
  obtain ⟨es, ep, t, ⟨o, g, r⟩, rest⟩ := z
  exact ⟨es, ep, t, ⟨o, e o g, r⟩, rest⟩
/-- the pair's tuple, as the abstract heap has it -/
abbrev HPr (K : PySem.W.Frag) (H : Hp) (b : Addr) (q : Int × Bool) : Prop := SqT K H b [.int q.1, .bl q.2]
theorem HPr.raw {X : Cx} {pins : List (Addr × Obj)} {σ : L2.St} {H : Hp} {s : Shared} {b : Addr} {q : Int × Bool} (I : Inv X pins σ H s) (x : HPr X.K H b q) : Pr2 s.heap (.ref b) q := by
  obtain ⟨its, r, ⟨o, g, c, n, d⟩, _⟩ := I.tuple x
  cases r with
  | cons h1 r =>
    cases r with
    | cons h2 r =>
      cases r
      obtain ⟨t, rfl⟩ := h1
      cases h2
      exact ⟨b, o, n, t, rfl, g, c, d⟩
def tbPutT (K : PySem.W.Frag) (w : World) (te : TE) (D : Addr) : TB := fun σ H N => te σ H fun y H1 => ∃ (b : Addr) (q : Int × Bool) (L : List (Addr × List Int)), y = .ref b ∧ HPr K H1 b q ∧ H1 D = some (SetKO w D L) ∧ (∀ p ∈ L, ∃ r, p.2 = kk2 r ∧ HPr K H1 p.1 r) ∧ L.length + 1 < 64 ∧
  ∀ L2 : List (Addr × List Int), (kk2 q ∈ L.map (·.2) → L2 = L) → (kk2 q ∉ L.map (·.2) → L2.Perm ((b, kk2 q) :: L)) → N (upd H1 D (SetKO w D L2))
def rSortedP2 (K : PySem.W.Frag) (w : World) : List V → Hp → VK → Prop := fun vs H Q => ∃ (a : Addr) (L : List (Addr × List Int)), vs = [V.ref a] ∧ H a = some (SetKO w a L) ∧ (∀ p ∈ L, ∃ r, p.2 = kk2 r ∧ HPr K H p.1 r) ∧
  ∀ (L2 : List (Addr × (Int × Bool))) (l : Addr), (L2.map fun p => (p.1, kk2 p.2)).Perm L → (L2.map (·.2)).Pairwise (fun p r => rk2 p < rk2 r) → (∀ p ∈ L2, HPr K H p.1 p.2) → L2.length < 64 → H l = none → Q (.ref l) (upd H l (.lst (L2.map fun p => V.ref p.1)))
theorem rk2_inj {p q : Int × Bool} (h : rk2 p = rk2 q) : p = q := by
  obtain ⟨m, b⟩ := p
  obtain ⟨n, c⟩ := q
  unfold rk2 at h
  cases b <;> cases c <;> simp at h
  all_goals first
    | (exfalso; omega)
    | (have e : m = n := by omega
       rw [e])
section
variable {X : Cx}
theorem pb_putT {elt : Expr} {te : TE} {D : Addr} {p : Pos} (hx : X.xe = noE) (hu : X.A.units + 64 < cLine) (he : PE X elt te) :
    PB X (do let v ← eval elt X.env; standAt p; let _ ← call (.builtin "set.add") [.ref D, v]) [] (tbPutT X.K X.w te D) := by
  refine ⟨fun pins s σ H N I h => ?_⟩
  have run := he.run pins s σ H _ I h
  rw [hx] at run
  refine wpAny_bind (thnF run fun v s1 ⟨y, H1, I1, r1, b, q, L, ey, pq, hD, pL, few, nx⟩ => ?_)
  subst ey
  cases r1
  have raw : KS0 X.w s1.heap D L := (I1.hok D _ hD).1
  obtain ⟨es, ep, t, R⟩ := raw.full fun r hr => by
    obtain ⟨m, e, x⟩ := pL r hr
    rw [e]
    exact (x.raw I1).key
  refine wpAny_bind (wpAny_standAt (wpAny_bind (ks_put R (pq.raw I1).key (by omega) few fun h2 tk L2 es2 ep2 t2 sb R2 c1 c2 => ?_)))
  have there : ∃ u, h2.get? D = some u := let ⟨o, g, _⟩ := R2.place; ⟨o, g⟩
  exact wpAny_pure ⟨_, _, I1.write (e := D) (t' := tk) (by rw [hD]; trivial) (.inl rfl) (fun c u hc e => (sb.2 c hc).trans e) there (setKO_ok R2.bare), rfl, nx L2 c1 c2⟩
theorem cr_sortedP2 (hc : X.calm = true) : CallR X (.builtin "sorted") (rSortedP2 X.K X.w) := by
  intro pins s σ H vs us Q I r h
  obtain ⟨a, L, rfl, ha, pL, q⟩ := h
  have raw : KS0 X.w s.heap a L := (I.hok a _ ha).1
  obtain ⟨es, ep, t, R⟩ := raw.full fun r hr => by
    obtain ⟨m, e, x⟩ := pL r hr
    rw [e]
    exact (x.raw I).key
  rw [Vals.ref1 r]
  refine ks_sorted R (I.ok.hd hc) (fun p hp => ?_) fun s2 l out c L2 keep gens os big at2 out2 pm pw => ?_
  · obtain ⟨m, _, x⟩ := pL p hp
    exact ⟨m, x.raw I⟩
  have few : L2.length < 64 := by rw [pm.length_eq]; exact R.fw
  have ln : (L2.map fun p => V.ref p.1).length ≤ sizeLine := by rw [List.length_map, sizeLine_eq]; omega
  have fresh : H l = none := I.hok.fresh big
  have vals : Vals (L2.map fun p => V.ref p.1) out.toList := by rw [out2]; exact vals_of_refs L2
  have J : Inv X pins σ (upd H l (.lst (L2.map fun p => V.ref p.1))) { s with heap := s2.heap, gens := s2.gens, drawn := s2.drawn, toks := s2.toks } :=
    I.call (ch := []) (Un.laid keep big fresh) (I.hok.laid keep big ⟨ln, out.toList, c, vals, at2⟩) (by rw [gens]; exact I.bare) (fun _ z => nomatch z)
  have e : s2 = { s with heap := s2.heap, gens := s2.gens, drawn := s2.drawn, toks := s2.toks } := by
    cases s2
    cases s
    cases os
    rfl
  rw [e]
  refine ⟨.ref l, _, J, rfl, ?_⟩
  have of : ∀ p ∈ L2, p.2 = kk2 (pr2Of s.heap (.ref p.1)) ∧ HPr X.K H p.1 (pr2Of s.heap (.ref p.1)) := fun p hp => by
    obtain ⟨m, e1, x⟩ := pL p (pm.mem_iff.mp hp)
    rw [(x.raw I).of]
    exact ⟨e1, x⟩
  have back : (L2.map fun p => (p.1, pr2Of s.heap (.ref p.1))).map (fun p => (p.1, kk2 p.2)) = L2 := by
    rw [List.map_map]
    conv => rhs; rw [← List.map_id L2]
    exact List.map_congr_left fun p hp => by
      show (p.1, kk2 (pr2Of s.heap (.ref p.1))) = p
      rw [← (of p hp).1]
  have refs : (L2.map fun p => (p.1, pr2Of s.heap (.ref p.1))).map (fun p => V.ref p.1) = L2.map fun p => V.ref p.1 := by rw [List.map_map]; rfl
  have z := q (L2.map fun p => (p.1, pr2Of s.heap (.ref p.1))) l (by rw [back]; exact pm) ?_ (fun p hp => ?_) (by rw [List.length_map]; exact few) fresh
  · rw [refs] at z
    exact z
  · rw [List.map_map, List.pairwise_map]
    have nd : (L2.map (·.2)).Nodup := (pm.map (·.2)).nodup_iff.mpr R.once
    have nd : L2.Pairwise fun p r => p.2 ≠ r.2 := List.pairwise_map.mp nd
    refine (List.Pairwise.and pw nd).imp_of_mem fun {p r} hp hr h => ?_
    show rk2 (pr2Of s.heap (.ref p.1)) < rk2 (pr2Of s.heap (.ref r.1))
    refine Int.lt_iff_le_and_ne.mpr ⟨h.1, fun eq => h.2 ?_⟩
    rw [(of p hp).1, (of r hr).1, rk2_inj eq]
  · obtain ⟨r, hr, rfl⟩ := List.mem_map.mp hp
    exact (of r hr).2
variable {elt tg iter : Expr} {ifs : List Expr} {scope : Scope} {own : List (PySem.Str × Nat)} {pos : Pos} {wi : TI} {g : TG} {tt : TT} {te : TE}
theorem setT_obj {w : World} {P : Program} (H : Hp) (h : Heap) (_ : sysModules < h.objs.size) : ObjOk P w H (h.push { cls := .type "set", dict := none, data := .set #[] 0 (.fresh 0 0 (!w.params.followText "set-order")) }) h.objs.size (SetKO w h.objs.size []) := setKO_ok (ks_new P (Heap.get?_push_size _ rfl)).bare
/-- {elt for ..} of pairs -/
theorem pe_scT (hc : X.calm = true) (hu : X.A.units + 64 < cLine) (hN : X.N.Nodup) (hi : PI X tg iter wi) (ok : BlkOk X.N X.env.scope scope own)
    (hg : InBlk X scope fun Y => PG Y tg g) (ht : InBlk X scope fun Y => PTs Y ifs tt) (he : InBlk X scope fun Y => PE Y elt te) (hs : ∀ x, foldedSetIterable iter X.env x = pure x := by intro _; rfl) :
    PE X (.SetComp elt [⟨tg, iter, ifs, 0⟩] scope pos) (tComp wi g tt (tbPutT X.K X.w te) (own.map (·.2)) (fun D => SetKO X.w D [])) := by
  refine ⟨fun pins s σ H Q I h => ?_⟩
  show wpAny _ _ (comprehension _ scope X.env (firstIterPos [⟨tg, iter, ifs, 0⟩] pos) (newSet (.type "set")) false (eval iter X.env)) _ _ s
  refine comp_core (p := iter.pos) (body := fun D env => do let v ← eval elt env; standAt elt.pos; let _ ← call (.builtin "set.add") [.ref D, v]) (us := []) plain_set rfl (fun _ _ _ => rfl) (fun _ _ _ q => PpSet.newSet_ok q) setT_obj hc hN I hi ok hg ht
    (fun s H C cl fp D => pb_putT (X := X.blk s H scope (compEnvC scope cl C X.env) fp) rfl hu (he s H C cl fp)) (fun _ z => nomatch z) hs h
    fun D C s2 m H2 I2 q hn f => ⟨m, hn, fun h2 sb => ?_⟩
  obtain ⟨f0, f1, f2, f3, f4, f5⟩ := f
  exact ⟨.ref D, H2, I2.turned (t' := s2.toks) (fun b o hb eo => (sb.2 b hb).trans eo) f0 f1 f3 f4 f5, rfl, q⟩
theorem pscT' {K : PySem.W.Frag} {w : World} (h0 : X.K = K) (hw : X.w = w) (hc : X.calm = true) (hu : X.A.units + 64 < cLine) (hN : X.N.Nodup) (hi : PI X tg iter wi) (ok : BlkOk X.N X.env.scope scope own)
    (hg : InBlk X scope fun Y => PG Y tg g) (ht : InBlk X scope fun Y => PTs Y ifs tt) (he : InBlk X scope fun Y => PE Y elt te) (hs : ∀ x, foldedSetIterable iter X.env x = pure x := by intro _; rfl) :
    PE X (.SetComp elt [⟨tg, iter, ifs, 0⟩] scope pos) (tComp wi g tt (tbPutT K w te) (own.map (·.2)) (fun D => SetKO w D [])) := by subst h0; subst hw; exact pe_scT hc hu hN hi ok hg ht he hs
theorem srtP2' {K : PySem.W.Frag} {w : World} (h0 : X.K = K) (hw : X.w = w) (hc : X.calm = true) : CallR X (.builtin "sorted") (rSortedP2 K w) := by subst h0; subst hw; exact cr_sortedP2 hc
end
end DL
namespace DL
open PySem PySem.Spec PyProof.Rows L2 Evl
def prIB (q : Int × Bool) : PyData := .tuple [.int q.1, .bool q.2]
def PrAcc (w : World) (K : PySem.W.Frag) (B : Hp) (D : Addr) (o : HO) (acc : List PyData) : Prop := ∃ (L : List (Addr × List Int)) (qs : List (Int × Bool)), o = SetKO w D L ∧ acc = qs.map prIB ∧
  (∀ p ∈ L, ∃ q ∈ qs, p.2 = kk2 q ∧ B p.1 = some (.tup [.int q.1, .bl q.2])) ∧ (∀ q ∈ qs, kk2 q ∈ L.map (·.2)) ∧ (L.map (·.2)).Nodup
theorem prAcc_mono (w : World) (K : PySem.W.Frag) (B B2 : Hp) (D : Addr) (o : HO) (acc : List PyData) (e : Ex B B2) (h : PrAcc w K B D o acc) : PrAcc w K B2 D o acc := by
  obtain ⟨L, qs, h1, h2, h3, h4, h5⟩ := h
  exact ⟨L, qs, h1, h2, fun p hp => let ⟨q, hq, e1, e2⟩ := h3 p hp; ⟨q, hq, e1, e _ _ e2⟩, h4, h5⟩
def accP (w : World) : AccK := .o (PrAcc w) (prAcc_mono w)
theorem dq_prIB {K : PySem.W.Frag} {B : Hp} {v : V} {q : Int × Bool} (h : Dq K B v (prIB q)) : ∃ b, v = .ref b ∧ B b = some (.tup [.int q.1, .bl q.2]) := by
  unfold prIB at h
  cases h with
  | @tup a xs _ hs ha =>
    cases ha with
    | cons d1 r =>
      cases d1
      cases r with
      | cons d2 r =>
        cases d2
        cases r
        exact ⟨a, rfl, hs⟩
theorem nodup_le : ∀ {l m : List (List Int)}, l.Nodup → (∀ x ∈ l, x ∈ m) → l.length ≤ m.length
  | [], _, _, _ => Nat.zero_le _
  | x :: l, m, hn, h => by
    have hx := h x List.mem_cons_self
    obtain ⟨n1, n2⟩ := List.nodup_cons.mp hn
    have ih := nodup_le (l := l) (m := m.erase x) n2 fun y hy => (List.mem_erase_of_ne (fun e => n1 (by rw [← e]; exact hy))).mpr (h y (List.mem_cons_of_mem _ hy))
    rw [List.length_erase_of_mem hx] at ih
    have := List.length_pos_of_mem hx
    rw [List.length_cons]
    omega
section
variable {F : Fr} {G : List Sl} {w : World} {D : Addr} {g : TG} {tt : TT} {vs : List Nat}
theorem bk_putT {te : TE} {acc : List PyData} {κ : List PyData → List Sl → Prop} (h : ∀ B o, Ex F.B0 B → EK (F.wo B D o) G te fun y G4 => ∃ q : Int × Bool, y = prIB q ∧ (∃ U : List (Int × Bool), U.length < 63 ∧ ∀ r, prIB r ∈ acc → r ∈ U) ∧ κ (acc ++ [y]) G4) : BK F w (accP w) D (tbPutT F.K w te) acc G κ := fun σ H o S hD ha N nx => by
  have hz : ¬ F.Z D := S.noz del_same
  obtain ⟨L, qs, rfl, rfl, pL, all, ln⟩ := ha
  refine h (low F G (del D H)) _ S.ext σ H (S.toWo (Ex.refl _) hD) _ fun v H2 y G4 ⟨q, ey, ⟨U, hU, sub⟩, k4⟩ S4 e4 d4 => ?_
  subst ey
  obtain ⟨S4f, h4⟩ := S4.ofWo S.ext hz
  rw [low_wo] at d4
  rw [low_wo, low_wo] at e4
  have hl : L.length < 63 := by
    have z := nodup_le (m := U.map kk2) ln fun x hx => by
      obtain ⟨p, hp, rfl⟩ := List.mem_map.mp hx
      obtain ⟨r, hr, e, _⟩ := pL p hp
      exact List.mem_map.mpr ⟨r, sub r (List.mem_map.mpr ⟨r, hr, rfl⟩), e.symm⟩
    rw [List.length_map, List.length_map] at z
    omega
  obtain ⟨b, rfl, hb⟩ := dq_prIB d4
  have up : ∀ {c : Addr} {z : HO}, low F G4 (del D H2) c = some z → H2 c = some z := fun e => del_ex _ _ (low_ex _ _ e)
  refine ⟨b, q, L, rfl, .inl (.inl (up hb)), h4, fun p hp => ?_, by omega, fun L2 c1 c2 => nx _ _ ((qs ++ [q]).map prIB) G4 (by rw [List.map_append]; exact k4) ?_ ?_ upd_same ⟨L2, qs ++ [q], rfl, rfl, fun p hp => ?_, fun r hr => ?_, ?_⟩⟩
  · obtain ⟨r, _, e1, e2⟩ := pL p hp
    exact ⟨r, e1, .inl (.inl (up (e4 _ _ e2)))⟩
  · rw [del_upd]; exact S4f
  · rw [del_upd]; exact e4
  all_goals
    by_cases m : kk2 q ∈ L.map (·.2)
  · rw [c1 m] at hp
    obtain ⟨r, hr, e1, e2⟩ := pL p hp
    exact ⟨r, List.mem_append_left _ hr, e1, by rw [del_upd]; exact e4 _ _ e2⟩
  · rcases List.mem_cons.mp ((c2 m).mem_iff.mp hp) with rfl | hp
    · exact ⟨q, List.mem_append_right _ List.mem_cons_self, rfl, by rw [del_upd]; exact hb⟩
    · obtain ⟨r, hr, e1, e2⟩ := pL p hp
      exact ⟨r, List.mem_append_left _ hr, e1, by rw [del_upd]; exact e4 _ _ e2⟩
  · rw [c1 m]
    rcases List.mem_append.mp hr with hr | hr
    · exact all r hr
    · rw [List.mem_singleton.mp hr]; exact m
  · rw [((c2 m).map (·.2)).mem_iff, List.map_cons]
    rcases List.mem_append.mp hr with hr | hr
    · exact List.mem_cons_of_mem _ (all r hr)
    · rw [List.mem_singleton.mp hr]; exact List.mem_cons_self
  · rw [c1 m]; exact ln
  · exact ((c2 m).map (·.2)).nodup_iff.mpr (List.nodup_cons.mpr ⟨m, ln⟩)
def EZT (F : Fr) (w : World) (G : List Sl) (te : TE) (κ : List (Int × Bool) → List Sl → Prop) : Prop := ∀ σ H, Sat F G σ H → ∀ Q : VK,
  (∀ p o H2 qs G2, κ qs G2 → Sat F G2 σ (del p H2) → Ex (low F G H) (low F G2 (del p H2)) → H2 p = some o → PrAcc w F.K (low F G2 (del p H2)) p o (qs.map prIB) → Q (.ref p) H2) → te σ H Q
theorem prIB_inj {p q : Int × Bool} (h : prIB p = prIB q) : p = q := by
  obtain ⟨m, b⟩ := p
  obtain ⟨n, c⟩ := q
  unfold prIB at h
  injection h with h
  injection h with h1 h2
  injection h2 with h2
  injection h1 with h1
  injection h2 with h2
  exact Prod.ext h1 h2
theorem ez_compT {wi : TI} {tb : Addr → TB} {α : List (Int × Bool) → List Sl → Prop} (h : WI F G wi fun xs G1 => ∃ I : Nat → List PyData → List Sl → Prop, GW g vs ∧ I 0 [] (wipeG G1 vs) ∧
      (∀ D i x acc G', xs[i]? = some x → I i acc G' → TurnB F w (accP w) D vs g tt tb I i x acc G') ∧ (∀ (qs : List (Int × Bool)) G', I xs.length (qs.map prIB) G' → α qs G')) : EZT F w G (tComp wi g tt tb vs (fun D => SetKO w D [])) α := fun σ H S Q q =>
  h σ H S _ fun J H1 xs G1 ⟨I, gw, h0, ht, hd⟩ S1 e1 sr => fun D hDn => by
    have hz : ¬ F.Z D := S1.noz hDn
    have ee : Ex H1 (del D (upd H1 D (SetKO w D []))) := ex_del (upd_ex hDn) hDn
    have S2 : Sat F G1 σ (del D (upd H1 D (SetKO w D []))) := S1.ex ee
    refine loop_dl (w := w) (k := accP w) (I := I) sr hz S1.ext gw ⟨[], _, _, h0, S2.unwipe rfl, (low_mono ee).trans (low_sub fun b => wipeG_ads G1 vs b), upd_same, [], [], rfl, rfl, (fun p hp => nomatch hp), (fun p hp => nomatch hp), List.nodup_nil⟩ (ht D) fun H2 acc o G' hI S3 e3 h3 a3 => ?_
    have a3 : PrAcc w F.K (low F G' (del D H2)) D o acc := a3
    obtain ⟨L, qs, e, rfl, r⟩ := a3
    exact q D o H2 qs G' (hd qs G' hI) S3 (e1.trans e3) h3 ⟨L, qs, e, rfl, r⟩
theorem eo_sortP2 {te : TE} {α : Kps} (h : EZT F w G te fun qs G1 => ∀ zs : List (Int × Bool), zs.Pairwise (fun p r => rk2 p < rk2 r) → (∀ q, q ∈ zs ↔ q ∈ qs) → zs.length < 64 → α (zs.map prIB) G1) : EO F G (tCB (rSortedP2 F.K w) (tCons te tNil)) α := fun σ H S Q nx =>
  h σ H S _ fun p o H1 qs G1 k S1 e1 h1 pa => by
    obtain ⟨L, rs, rfl, ers, pL, all, ln⟩ := pa
    obtain rfl : qs = rs := List.map_inj_right (fun _ _ => prIB_inj) |>.mp ers
    have up : ∀ {c : Addr} {z : HO}, low F G1 (del p H1) c = some z → H1 c = some z := fun e => del_ex _ _ (low_ex _ _ e)
    refine ⟨p, L, rfl, h1, fun r hr => ?_, fun L2 a pm pw _ lz hf => ?_⟩
    · obtain ⟨q, _, e2, e3⟩ := pL r hr
      exact ⟨q, e2, .inl (.inl (up e3))⟩
    have ed : del a (upd H1 a (.lst (L2.map fun p => V.ref p.1))) = H1 := by
      rw [del_upd]
      funext b
      by_cases hb : b = a
      · subst hb; rw [del_same, hf]
      · rw [del_ne hb]
    have S2 : Sat F G1 σ H1 := S1.ex del_ex
    have of : ∀ r ∈ L2, r.2 ∈ qs ∧ low F G1 (del p H1) r.1 = some (.tup [.int r.2.1, .bl r.2.2]) := fun r hr => by
      have m : (r.1, kk2 r.2) ∈ L := pm.mem_iff.mp (List.mem_map.mpr ⟨r, hr, rfl⟩)
      obtain ⟨q, hq, e2, e3⟩ := pL _ m
      have e2 : r.2 = q := kk2_inj e2
      rw [e2]
      exact ⟨hq, e3⟩
    have dq : ∀ l : List (Addr × (Int × Bool)), (∀ r ∈ l, low F G1 (del p H1) r.1 = some (.tup [.int r.2.1, .bl r.2.2])) → DqAll F.K (low F G1 H1) (l.map fun p => V.ref p.1) ((l.map (·.2)).map prIB) := by
      intro l
      induction l with
      | nil => intro _; exact .nil
      | cons r l ih =>
        intro hl
        rw [List.map_cons, List.map_cons, List.map_cons]
        exact .cons (.tup (low_mono del_ex _ _ (hl r List.mem_cons_self)) (.cons (.int _) (.cons (.bl _) .nil))) (ih fun u hu => hl u (List.mem_cons_of_mem _ hu))
    refine nx a _ _ ((L2.map (·.2)).map prIB) G1 (k _ pw (fun q => ⟨fun hq => ?_, fun hq => ?_⟩) (by rw [List.length_map]; exact lz)) (by rw [ed]; exact S2) (by rw [ed]; exact e1.trans (low_mono del_ex)) upd_same (by rw [ed]; exact dq L2 fun r hr => (of r hr).2)
    · obtain ⟨r, hr, rfl⟩ := List.mem_map.mp hq
      exact (of r hr).1
    · obtain ⟨r, hr, e2⟩ := List.mem_map.mp (all q hq)
      obtain ⟨u, hu, rfl⟩ := List.mem_map.mp (pm.mem_iff.mpr hr)
      exact List.mem_map.mpr ⟨u, hu, kk2_inj e2⟩
end
end DL
namespace DL
open PySem PySem.Spec PyProof.Rows L2 Evl
def InPart (w : World) (h : Heap) (S : Addr) (ns : List Int) (i : Nat) : Prop := ∃ c, SetR w h S (fun j => decide (j ∈ ns.take i)) c ∧ c ≤ i
theorem InPart.keep {w : World} {h h' : Heap} {S : Addr} {ns : List Int} {i : Nat} (x : InPart w h S ns i) (e : ∀ o, h.get? S = some o → h'.get? S = some o) : InPart w h' S ns i := by
  obtain ⟨c, ⟨o, es, ep, t, ho, rest⟩, hc⟩ := x
  exact ⟨c, ⟨o, es, ep, t, e o ho, rest⟩, hc⟩
section
variable {prog : Program} {w : World} {A : Around} {R : Result → Shared → Prop} {I : Addr} {fp wr : List Addr} {Gn : Array GenState → Array GenState → Prop} {n : Nat} {P : Nat → Value → Prop} {St : Nat → Shared → Prop}
theorem loopIn (W : WalksS prog w A.in1 I fp wr Gn n P St) (S : Addr) (hSf : S ∉ fp) (ns : List Int) (hsz : ns.length = n) (hb : n + 1 < scanBound)
    (hval : ∀ i v, P i v → ∃ t, v = .int (ns.getD i 0) t) :
    ∀ (k i : Nat) (s : Shared), n - i = k → i ≤ n → St i s →
      InPart w s.heap S ns i →
      (∀ s', Moved (S :: wr) Gn s s' → InPart w s'.heap S ns n → R (.ok (.ret .none)) s') →
      codeAny (model prog w) A (.builtin "set.update.loop" ⟨[.ref S, .ref I], []⟩) R s := by
  have hSw : S ∉ wr := fun h => hSf (W.sub _ h)
  have hsub : ∀ b ∈ wr, b ∈ S :: wr := fun b hb => List.mem_cons_of_mem _ hb
  intro k
  induction k with
  | zero =>
    intro i s hk hi hst hS hR
    have hin : i = n := by omega
    subst hin
    refine codeAny_builtin PyProof.Rows.F.entry_set_update_loop ?_
    rw [Around.under_plainId PyProof.Rows.F.plain_set_update_loop _]
    refine wpAny_bind (W.done s _ _ hst fun s' hm => ?_)
    exact wpAny_pure (hR s' (hm.mono hsub) (hS.keep fun o ho => hm.heap S _ hSw ho))
  | succ k ih =>
    intro i s hk hi hst hS hR
    have hlt : i < n := by omega
    refine codeAny_builtin PyProof.Rows.F.entry_set_update_loop ?_
    rw [Around.under_plainId PyProof.Rows.F.plain_set_update_loop _]
    refine wpAny_bind (W.item i s _ _ hlt hst fun v s' hP hst' hm => ?_)
    obtain ⟨t, rfl⟩ := hval i v hP
    obtain ⟨c, hS', hc⟩ : InPart w s'.heap S ns i := hS.keep fun o ho => hm.heap S _ hSw ho
    have hg : ns[i]? = some (ns.getD i 0) := by
      rw [List.getD_eq_getElem?_getD, List.getElem?_eq_getElem (by omega)]; rfl
    have em : ns.take (i + 1) = ns.take i ++ [ns.getD i 0] := by rw [List.take_add_one, hg]; rfl
    generalize ns.getD i 0 = x at em
    refine wpAny_bind (wpAny_holding ?_)
    unfold setAdd
    refine wpAny_holding ?_
    refine wpAny_bind ((PySem.intKind prog w).pyHash (k := x) (intKind_is _ _ _ _) ?_)
    refine setR_add_hashed (s := { s' with toks := s'.toks + 1 }) hS' (by omega) fun h' hsb hS2 => ?_
    have hSi : InPart w h' S ns (i + 1) := by
      refine ⟨_, ?_, (show (if decide (x ∈ ns.take i) = true then c else c + 1) ≤ i + 1 by split <;> omega)⟩
      rw [em]
      have e : (fun j => decide (j ∈ ns.take i ++ [x])) = fun j => decide (j ∈ ns.take i) || decide (j = x) := by
        funext j
        rw [Bool.eq_iff_iff]
        simp
      rw [e]
      exact hS2
    refine wpAny_pure ⟨plainId_quiet PyProof.Rows.F.plain_set_update_loop _, ih (i + 1) _ (by omega) hlt (W.frame _ s' _ _ hst' (Nat.le_succ _) fun b hb o e => ?_) hSi fun s'' hm'' hS'' => ?_⟩
    · rw [hsb.2 b (fun h : b = S => hSf (by rw [← h]; exact hb))]; exact e
    · refine hR s'' (Moved.trans W.gtrans ((hm.mono hsub).then_heap (Nat.le_succ _) fun b o hb e => ?_) hm'') hS''
      rw [hsb.2 b (fun h : b = S => hb (by rw [h]; exact List.mem_cons_self))]; exact e
end
section
variable {prog : Program} {w : World} {A : Around} {E : Value → Shared → Prop} {s : Shared}
theorem set_ints {l : Addr} {items : Array Value} {xs : List Int} {Q : Value → Shared → Prop} (hh : A.handled = none) (hl : s.heap.IsList l items) (hi : IntsAre items.toList xs) (hb : xs.length + 1 < scanBound)
    (h : ∀ (h' : Heap) (tk : Nat), InPart w h' s.heap.objs.size xs xs.length → (∀ b o, b < s.heap.objs.size → s.heap.get? b = some o → h'.get? b = some o) → Q (.ref s.heap.objs.size) { s with heap := h', toks := tk }) :
    wpAny (model prog w) A (call (.type "set") [.ref l]) Q E s := by
  have hsz : xs.length = items.size := by rw [← IntsAre.length hi, Array.length_toList]
  have hval : ∀ (i : Nat) (v : Value), items[i]? = some v → ∃ t, v = .int (xs.getD i 0) t := fun i v hv => IntsAre.int_at hi i v (by rw [Array.getElem?_toList]; exact hv)
  have hlS : l < s.heap.objs.size := by obtain ⟨o, ho, _⟩ := hl; exact Heap.lt_size ho
  obtain ⟨c, tl, hmro⟩ := PySem.F.called_set.mro
  have q1 := PySem.F.called_set.made
  have q2 := PySem.F.called_set.sub
  have q3 := PySem.F.called_set.notType
  have q4 := PySem.F.called_set.canCreate
  have q5 := PySem.F.typeCall_set_1 (.ref l)
  refine wpAny_call (codeAny_of_tree ?_)
  refine wpAny_pure ⟨Code.quiet_builtin _ (by decide +kernel), codeAny_builtin PySem.F.entry_type_call ?_⟩
  rw [Around.under_plain (weight_type_call_type "set" [.ref l] []) rfl]
  repeat (any_goals (first | assumption | wp_step))
  refine codeAny_mono (code_set_led1 (.ref l) (E := E) (Q₁ := fun obj s₁ => ∃ led : Bool, led = (!w.params.followText "set-order") ∧ obj = .ref s.heap.objs.size ∧ s₁ = { s with heap := s.heap.push { cls := .type "set", dict := none, data := .set #[] 0 (.fresh 0 0 led) } }) ⟨_, rfl, rfl, rfl⟩) fun r s₁ hr => ?_
  match r, hr with
  | .error _, hr => exact hr
  | .ok (.ret obj), hr =>
    obtain ⟨led, hled, rfl, rfl⟩ := hr
    generalize hH : s.heap.push { cls := .type "set", dict := none, data := .set #[] 0 (.fresh 0 0 led) } = H1
    have hN : H1.get? s.heap.objs.size = some { cls := .type "set", dict := none, data := .set #[] 0 (.fresh 0 0 led) } := by rw [← hH]; exact Heap.get?_push_size _ rfl
    have hK : ∀ b o, s.heap.get? b = some o → H1.get? b = some o := fun b o e => by rw [← hH]; exact Heap.get?_push_of_some _ e
    have hZ : H1.objs.size = s.heap.objs.size + 1 := by rw [← hH]; exact Heap.size_push ..
    have hT : Shared.TypeIs { s with heap := H1 } (.ref s.heap.objs.size) "set" := ⟨_, hN, rfl⟩
    have q6 := PySem.F.called_set.init.lookup
    have q7 := PySem.F.called_set.init.bind (.ref s.heap.objs.size)
    repeat (any_goals (first | assumption | wp_step))
    refine codeAny_mono (codeAny_call_builtin (R := wants (fun r s₂ => r = .none ∧ ∃ h' tk, s₂ = { s with heap := h', toks := tk } ∧ InPart w h' s.heap.objs.size xs xs.length ∧ (∀ b o, b < s.heap.objs.size → s.heap.get? b = some o → h'.get? b = some o)) E) PySem.F.called_set.init.plain PySem.F.entry_set_init (check_set_init_1 hT ?_)) fun r₂ s₂ hr₂ => ?_
    · obtain ⟨⟨ocls, odict, odata, oslots⟩, hol, hcl, nl, hdl⟩ := hl
      simp only at hcl hdl
      subst hcl hdl
      have hol' := hK l _ hol
      have hl1 : H1.IsList l items := ⟨_, hol', rfl, nl, rfl⟩
      have z1 := PySem.F.sub_list_set
      have z2 := PySem.F.sub_list_frozenset
      have z3 : (Value.type "list" == Value.type "dict") = false := by decide
      unfold Builtin.«set.__init__» noKeywords Builtin.Frozenset.updateFrom
      generalize hPI : pyIter = PI
      wp_walk
      subst hPI
      refine wpAny_pyIter_list hl1 ?_
      refine wpAny_bind (wpAny_runValue ?_)
      have hh3 : A.in1.in1.in1.handled = none := by simp [hh]
      have hneI : l ≠ H1.objs.size := Nat.ne_of_lt (by rw [hZ]; exact Nat.lt_succ_of_lt hlS)
      have hneS : s.heap.objs.size ≠ H1.objs.size := Nat.ne_of_lt (by rw [hZ]; exact Nat.lt_succ_self _)
      have hSf : s.heap.objs.size ∉ [H1.objs.size, l] := by
        simp only [List.mem_cons, List.not_mem_nil, or_false, not_or]
        exact ⟨hneS, Nat.ne_of_gt hlS⟩
      refine loopIn ((Walks.list hh3 _ l hneI items).toS) s.heap.objs.size hSf xs hsz (by rw [← hsz]; exact hb) hval (items.size - 0) 0 _ (by omega) (Nat.zero_le _) ⟨⟨_, Heap.get?_push_size _ rfl, rfl, rfl⟩, (hl1.push _)⟩ ?_ fun s' hm hS' => ?_
      · rw [hled] at hH
        have e : (fun j : Int => decide (j ∈ ([] : List Int))) = fun _ => false := by funext j; simp
        have z : InPart w H1 s.heap.objs.size xs 0 := ⟨0, by rw [List.take_zero, e, ← hH]; exact setR_fresh w, Nat.le_refl _⟩
        exact z.keep fun o e => Heap.get?_push_of_some _ e
      · obtain ⟨h', g', d', tk', os'⟩ := s'
        obtain rfl : g' = s.gens := hm.gens
        obtain rfl : d' = s.drawn := hm.drawn
        obtain rfl : os' = s.os := hm.os
        refine wpAny_pure ?_
        refine wpAny_pure ⟨rfl, h', tk', rfl, by rw [hsz]; exact hS', fun b o hb e => ?_⟩
        exact hm.heap b o (by simp only [List.mem_cons, List.not_mem_nil, or_false, not_or]; exact ⟨Nat.ne_of_lt hb, Nat.ne_of_lt (by rw [hZ]; exact Nat.lt_succ_of_lt hb)⟩) (Heap.get?_push_of_some _ (hK b o e))
    · match r₂, hr₂ with
      | .error _, hr₂ => exact hr₂
      | .ok (.ret r), hr₂ =>
        obtain ⟨rfl, h', tk, rfl, hS', hk'⟩ := hr₂
        repeat (any_goals (first | assumption | wp_step))
        exact h _ _ hS' hk'
      | .ok .next, hr₂ => exact hr₂.elim
      | .ok .brk, hr₂ => exact hr₂.elim
      | .ok .cont, hr₂ => exact hr₂.elim
  | .ok .next, hr => exact hr.elim
  | .ok .brk, hr => exact hr.elim
  | .ok .cont, hr => exact hr.elim
end
section
variable {X : Cx}
def rSetI (K : PySem.W.Frag) (w : World) : List V → Hp → VK → Prop := fun vs H Q => ∃ (l : Addr) (ns : List Int), vs = [V.ref l] ∧ SqL K H l (ns.map V.int) ∧ ns.length ≤ 4000 ∧ ∀ a c, H a = none → c ≤ ns.length → Q (.ref a) (upd H a (SetO w a (fun j => decide (j ∈ ns)) c))
theorem cr_setI (hc : X.calm = true) : CallR X (.type "set") (rSetI X.K X.w) := by
  intro pins s σ H vs us Q I r h
  obtain ⟨l, ns, rfl, hl, hn, q⟩ := h
  rw [Vals.ref1 r]
  obtain ⟨its, rv, pl, _⟩ := I.list hl
  refine set_ints (I.ok.hd hc) pl.isList (xs := ns) (by simpa using rv.ints) (Nat.lt_of_le_of_lt (Nat.succ_le_succ hn) (by decide)) fun h' tk z k => ?_
  obtain ⟨c, R, hc'⟩ := z
  rw [List.take_length] at R
  exact ⟨.ref s.heap.objs.size, upd H s.heap.objs.size (SetO X.w s.heap.objs.size (fun j => decide (j ∈ ns)) c), I.laid (t' := tk) (fun b o e => k b o (Heap.lt_size e) e) (Nat.le_refl _) (setO_new R), rfl, q _ c (I.hok.fresh (Nat.le_refl _)) hc'⟩
theorem setI' {K : PySem.W.Frag} {w : World} (h0 : X.K = K) (hw : X.w = w) (hc : X.calm = true) : CallR X (.type "set") (rSetI K w) := by subst h0; subst hw; exact cr_setI hc
end
section
variable {F : Fr} {G : List Sl} {w : World}
/-- set(xs) as a set of whole numbers -/
theorem ez_set {te : TE} {α : List Int → List Sl → Prop} (h : EK F G te fun x G1 => ∃ ns : List Int, x = .list (ns.map .int) ∧ ns.length ≤ 4000 ∧ α ns G1) : EZ F w G (tCB (rSetI F.K w) (tCons te tNil)) α := fun σ H S Q q =>
  h σ H S _ fun v H1 x G1 ⟨ns, ex, hl, k⟩ S1 e1 d1 => by
    subst ex
    cases d1 with
    | @lst p ws _ hp ha =>
      have ew : ws = ns.map V.int := dps_ints_inv ha
      subst ew
      refine ⟨p, ns, rfl, .inl (.inl (low_ex _ _ hp)), hl, fun a c hf hc => ?_⟩
      have ed : del a (upd H1 a (SetO w a (fun j => decide (j ∈ ns)) c)) = H1 := by
        rw [del_upd]
        funext b
        by_cases hb : b = a
        · subst hb; rw [del_same, hf]
        · rw [del_ne hb]
      exact q a _ c _ ns G1 k (by rw [ed]; exact S1) (by rw [ed]; exact e1) upd_same (fun j => rfl) hc
end
section
variable {F : Fr} {G : List Sl} {κ : Kp} {td ty tx : TE}
/-- {..}.get(k, x) -/
theorem ek_get2 (h : ED F G td fun kvs G1 => ∀ B p o, Ex F.B0 B → EK (F.wo B p o) G1 ty fun y G2 => ∃ k, y = kD k ∧ EK (F.wo B p o) G2 tx fun z G3 => κ ((valD kvs k).getD z) G3) : EK F G (tDGet2 td ty tx) κ := fun σ H S Q q =>
  h σ H S _ fun p ws H1 kvs G1 k S1 e1 hp d => by
    have hz : ¬ F.Z p := S1.noz del_same
    refine ⟨p, rfl, .inl ⟨ws, .inl hp⟩, k (low F G1 (del p H1)) p (.dK ws) S1.ext σ H1 (S1.toWo (Ex.refl _) hp) _ fun u H2 y G2 ⟨key, ey, k2⟩ S2 e2 d2 => k2 σ H2 S2 _ fun v H3 z G3 k3 S3 e3 d3 => ?_⟩
    subst ey
    obtain ⟨S3f, h3⟩ := S3.ofWo S1.ext hz
    rw [low_wo] at d3
    rw [low_wo, low_wo] at e2 e3
    have e13 := (e1.trans (e2.trans e3)).trans (low_mono (F := F) (G := G3) (del_ex (H := H3) (p := p)))
    rcases d.get key with ⟨a, b⟩ | ⟨v', x', a, b, dx⟩
    · rw [b] at k3
      exact ⟨none, .inl ⟨ws, key, .inl h3, kD_kV d2, a.symm⟩, q v H3 z G3 k3 (S3f.ex del_ex) e13 (dp_mono (low_mono del_ex) d3)⟩
    · rw [b] at k3
      exact ⟨some v', .inl ⟨ws, key, .inl h3, kD_kV d2, a.symm⟩, q v' H3 x' G3 k3 (S3f.ex del_ex) e13 (dp_mono (((e2.trans e3)).trans (low_mono del_ex)) dx)⟩
end
section
variable {F : Fr} {G : List Sl} {κ : Kp}
/-- isinstance(xs, T), xs a slot's own list -/
theorem ek_isiO {i : Nat} {n : String} (h : ∃ p ds, G[i]? = some (.own p ds) ∧ ∃ b, kitB (tyD (.list ds)) n = some b ∧ κ (.bool b) G) : EK F G (tCB (rIsi F.K) (tCons (tVar i) (tCons (tC (.ty n)) tNil))) κ := fun σ H S Q q => by
  obtain ⟨p, ds, hi, b, hb, k⟩ := h
  obtain ⟨e, vs, hp, hd⟩ := S.ownd hi
  exact ⟨.ref p, e, .ref p, .ty n, _, _, b, rfl, .ty n, tyx_of (Dq.lst hp (dps_mono low_ex hd)), L2.kit_ty hb, q _ H _ G k S (Ex.refl _) (.bl b)⟩
/-- repr(xs), xs a slot's own list -/
theorem ek_reprO {i : Nat} {n d : Nat} (hn : n ≤ 16000000) (hd : d ≤ 60) (h : ∃ p ds, G[i]? = some (.own p ds) ∧ Sh n d (.list ds) ∧ κ (.str (PyData.list ds).shown) G) : EK F G (tCB (rRepr F.K) (tCons (tVar i) tNil)) κ := fun σ H S Q q => by
  obtain ⟨p, ds, hi, sh, k⟩ := h
  obtain ⟨e, vs, hp, hds⟩ := S.ownd hi
  exact ⟨.ref p, e, .ref p, .list ds, rfl, Dq.lst hp (dps_mono low_ex hds), sh.sh, Nat.le_trans sh.dp hd, Nat.le_trans (Nat.le_trans sh.ln hn) (by decide), q _ H _ G k S (Ex.refl _) (.str _)⟩
end
end DL
namespace DL
open PySem PySem.Spec PyProof.Rows L2 Evl
def PPart (w : World) (h : Heap) (S : Addr) (ps : List (Addr × (Int × Bool))) (i : Nat) : Prop := ∃ L es ep t, KSet w h S L es ep t ∧ (∀ p ∈ L, ∃ r ∈ ps.take i, p = (r.1, kk2 r.2)) ∧ (∀ r ∈ ps.take i, kk2 r.2 ∈ L.map (·.2))
theorem PPart.keep {w : World} {h h' : Heap} {S : Addr} {ps : List (Addr × (Int × Bool))} {i : Nat} (x : PPart w h S ps i) (e : ∀ o, h.get? S = some o → h'.get? S = some o) (e2 : ∀ r ∈ ps, ∀ o, h.get? r.1 = some o → h'.get? r.1 = some o) : PPart w h' S ps i := by
  obtain ⟨L, es, ep, t, R, a, b⟩ := x
  obtain ⟨o, g, r⟩ := R.place
  refine ⟨L, es, ep, t, ⟨⟨o, e o g, r⟩, R.els, R.tb, R.once, fun p hp => ?_, R.pl, R.ld, R.rm, R.fw⟩, a, b⟩
  obtain ⟨r, hr, ep⟩ := a p hp
  refine (R.keys p hp).stay fun o g => ?_
  rw [ep] at g ⊢
  exact e2 r (List.mem_of_mem_take hr) o g
theorem PPart.len {w : World} {h : Heap} {S : Addr} {ps : List (Addr × (Int × Bool))} {i : Nat} {L : List (Addr × List Int)} {es : Array (Int × Value)} {ep : Nat} {t : SetTable} (R : KSet w h S L es ep t) (a : ∀ p ∈ L, ∃ r ∈ ps.take i, p = (r.1, kk2 r.2)) : L.length ≤ i := by
  have z := nodup_le (m := (ps.take i).map fun r => kk2 r.2) R.once fun x hx => by
    obtain ⟨p, hp, rfl⟩ := List.mem_map.mp hx
    obtain ⟨r, hr, e⟩ := a p hp
    rw [e]
    exact List.mem_map.mpr ⟨r, hr, rfl⟩
  rw [List.length_map, List.length_map] at z
  exact Nat.le_trans z (List.length_take_le _ _)
end DL
namespace DL
open PySem L2 Evl
inductive FV where
  | d (x : PyData)
  | own (q : Addr) (ds : List PyData)
  | dic (q : Addr) (kvs : KD)
def FV.ads : FV → List Addr
  | .d _ => []
  | .own q _ => [q]
  | .dic q _ => [q]
def FVOk (K : PySem.W.Frag) (B H : Hp) : FV → V → Prop
  | .d x, u => Dq K B u x
  | .own q ds, u => u = .ref q ∧ ∃ vs, H q = some (.lst vs) ∧ DqAll K B vs ds
  | .dic q kvs, u => u = .ref q ∧ ∃ ws, H q = some (.dK ws) ∧ DOk K B ws kvs
abbrev FS := List (Str × FV)
def fads (fs : FS) : List Addr := fs.flatMap fun p => p.2.ads
theorem fads_cons (p : Str × FV) (fs : FS) : fads (p :: fs) = p.2.ads ++ fads fs := rfl
def FSOk (K : PySem.W.Frag) (B H : Hp) : List (Str × V) → FS → Prop
  | [], [] => True
  | w :: ws, f :: fs => w.1 = f.1 ∧ FVOk K B H f.2 w.2 ∧ FSOk K B H ws fs
  | _, _ => False
theorem fvok_mono {K : PySem.W.Frag} {B B' H H' : Hp} (eB : Ex B B') : ∀ {f : FV} {u : V}, (∀ b o, b ∈ f.ads → H b = some o → H' b = some o) → FVOk K B H f u → FVOk K B' H' f u
  | .d _, _, _, k => dp_mono eB k
  | .own q _, _, h, ⟨e, vs, h1, h2⟩ => ⟨e, vs, h q _ List.mem_cons_self h1, dps_mono eB h2⟩
  | .dic q _, _, h, ⟨e, ws, h1, h2⟩ => ⟨e, ws, h q _ List.mem_cons_self h1, ⟨h2.1, dps_mono eB h2.2⟩⟩
theorem fsok_mono {K : PySem.W.Frag} {B B' H H' : Hp} (eB : Ex B B') : ∀ {ws : List (Str × V)} {fs : FS}, (∀ b o, b ∈ fads fs → H b = some o → H' b = some o) → FSOk K B H ws fs → FSOk K B' H' ws fs
  | [], [], _, k => k
  | _ :: _, _ :: _, h, ⟨e, k1, k2⟩ => ⟨e, fvok_mono eB (fun b o hb => h b o (List.mem_append_left _ hb)) k1, fsok_mono eB (fun b o hb => h b o (List.mem_append_right _ hb)) k2⟩
  | [], _ :: _, _, k => k.elim
  | _ :: _, [], _, k => k.elim
theorem fsok_at {K : PySem.W.Frag} {B H : Hp} : ∀ {ws : List (Str × V)} {fs : FS}, FSOk K B H ws fs → ∀ b ∈ fads fs, ∃ o, H b = some o ∧ ∀ xs, o ≠ .tup xs
  | [], [], _, b, hb => by cases hb
  | _ :: _, (n, f) :: fs, ⟨e, k1, k2⟩, b, hb => by
    rw [fads_cons] at hb
    rcases List.mem_append.mp hb with hb | hb
    · cases f with
      | d x => cases hb
      | own q ds =>
        obtain rfl := List.mem_singleton.mp hb
        obtain ⟨_, vs, h1, _⟩ := k1
        exact ⟨_, h1, fun _ z => nomatch z⟩
      | dic q ds =>
        obtain rfl := List.mem_singleton.mp hb
        obtain ⟨_, vs, h1, _⟩ := k1
        exact ⟨_, h1, fun _ z => nomatch z⟩
    · exact fsok_at k2 b hb
  | [], _ :: _, k, _, _ => k.elim
  | _ :: _, [], k, _, _ => k.elim
def fnames (fs : FS) : List Str := fs.map (·.1)
def objS (a C : Addr) (fs : FS) : AbsS where
  p := a
  rs := fads fs
  ok := fun K B H v => v = some (.ref a) ∧ (fnames fs).Nodup ∧ ∃ dx ws, H a = some (.ins C dx ws) ∧ FSOk K B H ws fs
  mono := fun eB h ⟨e, nd, dx, ws, h1, h2⟩ => ⟨e, nd, dx, ws, h _ _ List.mem_cons_self h1, fsok_mono eB (fun b o hb => h b o (List.mem_cons_of_mem _ hb)) h2⟩
  ref := fun h => h.1
  at_ := fun ⟨e, nd, dx, ws, h1, h2⟩ b hb => by
    rcases List.mem_cons.mp hb with rfl | hb
    · exact ⟨_, h1, fun _ z => nomatch z⟩
    · exact fsok_at h2 b hb
/-- the instance at a of the class at C in a slot -/
abbrev Sl.obj (a C : Addr) (fs : FS) : Sl := .abs (objS a C fs)
end DL
namespace DL
open PySem PySem.Spec PyProof.Rows L2 Evl
end DL
namespace DL
open PySem PySem.Spec PyProof.Rows L2 Evl
end DL
namespace LawX
open PySem L2 DL Evl
def topS (i : Nat) : Stmt := PySem.Challenge.pw_hourcoin_k09_stamps_in_order.main.body.getD i (.Pass ⟨0, 0, 0, 0⟩)
abbrev s_is_number : Stmt := topS 1
theorem sc_is_number : FnScope ["thing"] ["thing"] (defScope s_is_number) := ⟨rfl, rfl, rfl, by decide +kernel, rfl, by decide +kernel, by decide +kernel⟩
abbrev s_is_number_within : Stmt := topS 2
theorem sc_is_number_within : FnScope ["thing", "least", "most"] ["thing", "least", "most"] (defScope s_is_number_within) := ⟨rfl, rfl, rfl, by decide +kernel, rfl, by decide +kernel, by decide +kernel⟩
abbrev s_is_row : Stmt := topS 3
theorem sc_is_row : FnScope ["thing", "parts"] ["thing", "parts"] (defScope s_is_row) := ⟨rfl, rfl, rfl, by decide +kernel, rfl, by decide +kernel, by decide +kernel⟩
abbrev s_is_stamp : Stmt := topS 6
theorem sc_is_stamp : FnScope ["thing", "word", "minute"] ["thing"] (defScope s_is_stamp) := ⟨rfl, rfl, rfl, by decide +kernel, rfl, by decide +kernel, by decide +kernel⟩
abbrev s_turn_of : Stmt := topS 7
theorem sc_turn_of : FnScope ["stamp", "word", "minute"] ["stamp"] (defScope s_turn_of) := ⟨rfl, rfl, rfl, by decide +kernel, rfl, by decide +kernel, by decide +kernel⟩
abbrev s_in_order : Stmt := topS 8
theorem sc_in_order : FnScope ["stamps", "rows", "stamp", "minute", "coming"] ["stamps"] (defScope s_in_order) := ⟨rfl, rfl, rfl, by decide +kernel, rfl, by decide +kernel, by decide +kernel⟩
abbrev s__law_feed : Stmt := topS 10
theorem sc__law_feed : FnScope ["script"] ["script"] (defScope s__law_feed) := ⟨rfl, rfl, rfl, by decide +kernel, rfl, by decide +kernel, by decide +kernel⟩
abbrev s__law_draw : Stmt := topS 11
theorem sc__law_draw : FnScope ["feed", "many", "found", "at", "cell", "mixed"] ["feed", "many"] (defScope s__law_draw) := ⟨rfl, rfl, rfl, by decide +kernel, rfl, by decide +kernel, by decide +kernel⟩
abbrev s__law_of : Stmt := topS 12
theorem sc__law_of : FnScope ["feed", "some"] ["feed", "some"] (defScope s__law_of) := ⟨rfl, rfl, rfl, by decide +kernel, rfl, by decide +kernel, by decide +kernel⟩
abbrev s__law_minute : Stmt := topS 13
theorem sc__law_minute : FnScope ["feed", "near", "way"] ["feed", "near"] (defScope s__law_minute) := ⟨rfl, rfl, rfl, by decide +kernel, rfl, by decide +kernel, by decide +kernel⟩
abbrev s__law_odd : Stmt := topS 14
theorem sc__law_odd : FnScope ["feed", "some"] ["feed"] (defScope s__law_odd) := ⟨rfl, rfl, rfl, by decide +kernel, rfl, by decide +kernel, by decide +kernel⟩
abbrev s__law_word : Stmt := topS 15
theorem sc__law_word : FnScope ["feed", "word", "letters", "at", "sign", "some"] ["feed", "word"] (defScope s__law_word) := ⟨rfl, rfl, rfl, by decide +kernel, rfl, by decide +kernel, by decide +kernel⟩
abbrev s__law_bent : Stmt := topS 16
theorem sc__law_bent : FnScope ["feed", "thing", "deep", "at", "some"] ["feed", "thing", "deep"] (defScope s__law_bent) := ⟨rfl, rfl, rfl, by decide +kernel, rfl, by decide +kernel, by decide +kernel⟩
abbrev s__law_is_stamp : Stmt := topS 17
theorem sc__law_is_stamp : FnScope ["thing"] ["thing"] (defScope s__law_is_stamp) := ⟨rfl, rfl, rfl, by decide +kernel, rfl, by decide +kernel, by decide +kernel⟩
abbrev s__law_owed : Stmt := topS 18
theorem sc__law_owed : FnScope ["stamps", "found", "minute", "stamp", "word"] ["stamps"] (defScope s__law_owed) := ⟨rfl, rfl, rfl, by decide +kernel, rfl, by decide +kernel, by decide +kernel⟩
abbrev s_law : Stmt := topS 19
theorem sc_law : FnScope ["script", "feed", "near", "stamps", "turn", "stamp", "owed", "cut", "some", "handed", "told", "things", "begun", "thing", "kept"] ["script"] (defScope s_law) := ⟨rfl, rfl, rfl, by decide +kernel, rfl, by decide +kernel, by decide +kernel⟩
structure Tx (K : PySem.W.Frag) (mg : Str → Option Value) : Prop where
  f_is_number : ∃ f fd, Fun K "is_number" "is_number" s_is_number f fd ∧ mg "is_number" = some (.ref f) ∧ Binds K fd ["thing"] []
  f_is_number_within : ∃ f fd, Fun K "is_number_within" "is_number_within" s_is_number_within f fd ∧ mg "is_number_within" = some (.ref f) ∧ Binds K fd ["thing", "least", "most"] []
  f_is_row : ∃ f fd, Fun K "is_row" "is_row" s_is_row f fd ∧ mg "is_row" = some (.ref f) ∧ Binds K fd ["thing", "parts"] []
  f_is_stamp : ∃ f fd, Fun K "is_stamp" "is_stamp" s_is_stamp f fd ∧ mg "is_stamp" = some (.ref f) ∧ Binds K fd ["thing"] []
  f_turn_of : ∃ f fd, Fun K "turn_of" "turn_of" s_turn_of f fd ∧ mg "turn_of" = some (.ref f) ∧ Binds K fd ["stamp"] []
  f_in_order : ∃ f fd, Fun K "in_order" "in_order" s_in_order f fd ∧ mg "in_order" = some (.ref f) ∧ Binds K fd ["stamps"] []
  f__law_feed : ∃ f fd, Fun K "_law_feed" "_law_feed" s__law_feed f fd ∧ mg "_law_feed" = some (.ref f) ∧ Binds K fd ["script"] []
  f__law_draw : ∃ f fd, Fun K "_law_draw" "_law_draw" s__law_draw f fd ∧ mg "_law_draw" = some (.ref f) ∧ Binds K fd ["feed", "many"] []
  f__law_of : ∃ f fd, Fun K "_law_of" "_law_of" s__law_of f fd ∧ mg "_law_of" = some (.ref f) ∧ Binds K fd ["feed", "some"] []
  f__law_minute : ∃ f fd, Fun K "_law_minute" "_law_minute" s__law_minute f fd ∧ mg "_law_minute" = some (.ref f) ∧ Binds K fd ["feed", "near"] []
  f__law_odd : ∃ f fd, Fun K "_law_odd" "_law_odd" s__law_odd f fd ∧ mg "_law_odd" = some (.ref f) ∧ Binds K fd ["feed"] []
  f__law_word : ∃ f fd, Fun K "_law_word" "_law_word" s__law_word f fd ∧ mg "_law_word" = some (.ref f) ∧ Binds K fd ["feed", "word"] []
  f__law_bent : ∃ f fd, Fun K "_law_bent" "_law_bent" s__law_bent f fd ∧ mg "_law_bent" = some (.ref f) ∧ Binds K fd ["feed", "thing", "deep"] []
  f__law_is_stamp : ∃ f fd, Fun K "_law_is_stamp" "_law_is_stamp" s__law_is_stamp f fd ∧ mg "_law_is_stamp" = some (.ref f) ∧ Binds K fd ["thing"] []
  f__law_owed : ∃ f fd, Fun K "_law_owed" "_law_owed" s__law_owed f fd ∧ mg "_law_owed" = some (.ref f) ∧ Binds K fd ["stamps"] []
  b_bool : mg "bool" = none
  b_int : mg "int" = none
  b_isinstance : mg "isinstance" = none
  b_len : mg "len" = none
  b_list : mg "list" = none
  b_min : mg "min" = none
  b_range : mg "range" = none
  b_repr : mg "repr" = none
  b_set : mg "set" = none
  b_sorted : mg "sorted" = none
  b_str : mg "str" = none
  b_tuple : mg "tuple" = none
  c_LAST_MINUTE : ∃ t, mg "LAST_MINUTE" = some (.int 999999359 t)
def OkD (P : Program) (w : World) (K : PySem.W.Frag) (mg : Str → Option Value) (base : Heap) (x : Str) (lvl : Nat) (ps : List Str) (sp : Sp) : Prop :=
  ∃ f fd, mg x = some (.ref f) ∧ PySem.W.keepIn K (.ref f) = true ∧ Binds K fd ps [] ∧ FnOk P w K mg base CX0 lvl f fd ps sp
local macro_rules | `(tactic| walk_at "dlrk") => `(tactic| first
  | ((with_reducible refine rk_add ?_); (refine ⟨_, _, rfl, rfl, ?_⟩))
  | ((with_reducible refine rk_sub ?_); (refine ⟨_, _, rfl, rfl, ?_⟩))
  | ((with_reducible refine rk_mul ?_); (refine ⟨_, _, rfl, rfl, ?_, ?_⟩); (focus (first | exact .inl ⟨by omega, by omega⟩ | exact .inr ⟨by omega, by omega⟩)))
  | ((with_reducible refine rk_mod ?_); (refine ⟨_, _, rfl, rfl, ?_, ?_⟩); (focus omega))
  | ((with_reducible refine rk_fdiv ?_); (refine ⟨_, _, rfl, rfl, ?_, ?_, ?_⟩); (focus omega); (focus omega))
  | ((with_reducible refine rk_pow ?_); (refine ⟨_, _, rfl, rfl, ?_, ?_⟩); (focus exact ⟨by decide, by decide, by decide⟩); (try simp only [Int.reduceToNat, Int.reducePow]))
  | ((with_reducible refine rk_lt ?_); (refine ⟨_, _, rfl, rfl, ?_⟩))
  | ((with_reducible refine rk_gt ?_); (refine ⟨_, _, rfl, rfl, ?_⟩))
  | ((with_reducible refine rk_ge ?_); (refine ⟨_, _, rfl, rfl, ?_⟩))
  | ((with_reducible refine rk_eqI ?_); (refine ⟨_, _, rfl, rfl, ?_⟩))
  | ((with_reducible refine rk_neI ?_); (refine ⟨_, _, rfl, rfl, ?_⟩))
  | ((with_reducible refine rk_eqT ?_); (refine ⟨_, _, rfl, rfl, ?_⟩))
  | ((with_reducible refine rk_neT ?_); (refine ⟨_, _, rfl, rfl, ?_⟩))
  | ((with_reducible refine rk_inTx ?_); (first | refine ⟨_, .inl rfl, rfl, ?_⟩ | refine ⟨_, .inr rfl, rfl, ?_⟩))
  | ((with_reducible refine rk_eqTx ?_); (refine ⟨_, rfl, ?_⟩))
  | ((with_reducible refine rk_cat ?_); (refine ⟨_, _, rfl, rfl, ?_, ?_⟩); (focus first | exact Nat.le_of_ble_eq_true rfl | omega | (simp only [List.length_map, List.length_append, List.length_cons, List.length_nil]; omega)))
  | ((with_reducible refine rk_ixL ?_); (refine ⟨_, _, _, rfl, rfl, rfl, ?_⟩))
  | ((with_reducible refine rk_ixT ?_); (refine ⟨_, _, _, rfl, rfl, rfl, ?_⟩))
  | ((with_reducible refine rk_catA ?_); (refine ⟨_, _, rfl, rfl, Nat.le_of_ble_eq_true rfl, ?_⟩)))
local macro_rules | `(tactic| walk_at "dlend") => `(tactic| first
  | ((with_reducible refine And.intro (fun (hc : _ = true) => ?_) (fun (hc : _ = false) => ?_)) <;> first | (exfalso; exact absurd hc Bool.false_ne_true) | (exfalso; exact absurd hc.symm Bool.false_ne_true) | (simp only [decide_eq_true_eq, decide_eq_false_iff_not, Bool.not_eq_true', Bool.not_eq_false', Int.not_lt, Int.not_le] at hc) | skip)
  | ((with_reducible refine And.intro (fun (hc : _ = false) => ?_) (fun (hc : _ = true) => ?_)) <;> first | (exfalso; exact absurd hc Bool.false_ne_true) | (exfalso; exact absurd hc.symm Bool.false_ne_true) | (simp only [decide_eq_true_eq, decide_eq_false_iff_not, Bool.not_eq_true', Bool.not_eq_false', Int.not_lt, Int.not_le] at hc) | skip)
  | (refine ⟨(show _ < List.length _ from Nat.le_of_ble_eq_true rfl), ?_⟩; (try with_reducible refine fun (p_ : Addr) => ?_))
  | (refine ⟨_, _, _, (show _ = [_, _, _] from rfl), (show _ < List.length _ from Nat.le_of_ble_eq_true rfl), (show _ < List.length _ from Nat.le_of_ble_eq_true rfl), (show _ < List.length _ from Nat.le_of_ble_eq_true rfl), ?_⟩)
  | (refine ⟨_, _, (show _ = [_, _] from rfl), (show _ < List.length _ from Nat.le_of_ble_eq_true rfl), (show _ < List.length _ from Nat.le_of_ble_eq_true rfl), ?_⟩)
  | (refine ⟨_, (show kitB _ _ = some _ from rfl), ?_⟩)
  | (refine ⟨(show List.length _ ≤ 1000 from Nat.le_of_ble_eq_true rfl), ?_⟩)
  | (refine ⟨(show List.length _ = _ from rfl), ?_⟩)
  | (refine ⟨_, _, (show PyData.int _ = PyData.int _ from rfl), (show PyData.int _ = PyData.int _ from rfl), ?_⟩)
  | ((refine ⟨_, _, (show _ = some (Sl.fd _ _) from rfl), _, (show _ = some (Sl.fd _ _) from rfl), ?_, rfl, ?_⟩); (focus omega))
  | (refine ⟨(show scalD _ = true from rfl), ?_⟩)
  | ((refine ⟨_, (show _ = some (Sl.own _ _) from rfl), ?_⟩))
  | (refine ⟨_, (show PyData.bool _ = PyData.bool _ from rfl), ?_⟩)
  | (refine ⟨_, (show PyData.int _ = PyData.int _ from rfl), (show _ < List.length _ from Nat.le_of_ble_eq_true rfl), ?_⟩)
  | (refine ⟨_, (show PyData.int _ = PyData.int _ from rfl), ?_⟩)
  | (refine ⟨fun (z_ : Str) (e_ : PyData.list _ = PyData.str z_) => PyData.noConfusion e_, ?_⟩)
  | (refine ⟨fun (z_ : Str) (e_ : PyData.tuple _ = PyData.str z_) => PyData.noConfusion e_, ?_⟩)
  | ((refine ⟨_, _, (show _ = some (Sl.own _ _) from rfl), (show _ = some (Sl.own _ _) from rfl), ?_, ?_⟩); (focus first | exact Nat.lt_of_lt_of_le (show List.length _ < 100 from Nat.le_of_ble_eq_true rfl) (by decide) | omega | (simp only [List.length_map, List.length_append, List.length_cons, List.length_nil]; omega)))
  | ((refine ⟨_, _, (show _ = some (Sl.own _ _) from rfl), ?_⟩); (with_reducible show EK _ _ _ _))
  | ((refine ⟨_, _, (show _ = some (Sl.dic _ _) from rfl), ?_⟩); (with_reducible show EK _ _ _ _))
  | ((refine ⟨_, _, (show PyData.list _ = PyData.list _ from rfl), (show _ = some (Sl.own _ _) from rfl), ?_, ?_⟩); (focus first | exact Nat.le_of_ble_eq_true rfl | omega | (simp only [List.length_map, List.length_append, List.length_cons, List.length_nil]; omega)))
  | (refine ⟨_, _, _, (show _ = some (Sl.own _ _) from rfl), rfl, rfl, ?_⟩))
local macro_rules | `(tactic| walk_at "dl") => `(tactic| repeat' (walk_at "dl1"))
local macro_rules | `(tactic| walk_at "dl1") => `(tactic| first
  | (with_reducible refine nx_seq ?_)
  | (with_reducible refine nx_next ?_)
  | (with_reducible refine nx_own ?_)
  | (refine fun (B_ : Hp) (p_ : Addr) (ws_ : List V) (hB_ : Ex _ B_) => ?_)
  | (with_reducible refine nx_ownR ?_)
  | (with_reducible refine nx_dput ?_)
  | ((with_reducible refine' ek_dget ?h ?_); (case h => exact rfl))
  | (with_reducible refine nx_asg ?_)
  | (with_reducible refine nx_asgG ?_)
  | ((with_reducible refine' nx_app ?h ?_); (case h => exact ⟨_, _, rfl⟩))
  | ((with_reducible refine nx_clear ?_); (refine ⟨_, _, rfl, ?_⟩))
  | (with_reducible refine nx_if ?_)
  | (with_reducible refine nx_ret ?_)
  | ((with_reducible refine' ek_var ?h ?_); (case h => exact rfl))
  | ((with_reducible refine' gk_name ?h ?_); (case h => exact Nat.le_of_ble_eq_true rfl))
  | ((with_reducible refine gk_tup ?_); (refine ⟨_, rfl, rfl, ?_⟩))
  | (with_reducible refine gks_cons ?_)
  | (with_reducible refine gks_nil ?_)
  | (with_reducible refine ek_int ?_)
  | (with_reducible refine ek_dnew ?_)
  | (with_reducible refine ek_bl ?_)
  | (with_reducible refine ek_non ?_)
  | (with_reducible refine ek_str ?_)
  | ((with_reducible refine' eo_catOl ?h ?_); (case h => exact rfl))
  | ((with_reducible refine' ek_ixO ?h ?_); (case h => exact rfl))
  | ((with_reducible refine' ek_neO ?h ?_); (case h => exact rfl))
  | ((with_reducible refine' ek_ixF ?h ?_); (case h => exact rfl); (refine fun (cs_ : List Int) (hcs_ : cs_.length ≤ 63) => ?_))
  | (with_reducible refine ek_op ?_)
  | (with_reducible refine ek_neg ?_)
  | (with_reducible refine ek_notV ?_)
  | (with_reducible refine ek_andV ?_)
  | (with_reducible refine ek_orV ?_)
  | (with_reducible refine ek_if ?_)
  | (with_reducible refine ek_chainI ?_)
  | ((with_reducible refine' ek_methV ?hi ?hl ?hm ?_); (case hi => exact rfl); (case hl => exact rfl); (case hm => decide))
  | ((with_reducible refine' ek_isiV ?h ?f ?hk ?hl ?_); (case h => exact rfl); (case f => assumption); (case hk => assumption); (case hl => exact rfl))
  | (refine ek_fld ?_)
  | (refine ek_makeI ?_)
  | ((with_reducible refine ⟨_, _, _, _, (show insD _ _ _ = insD _ _ _ from rfl), rfl, ?c_, ?n_, rfl, ?_⟩); (case c_ => assumption); (case n_ => assumption))
  | (with_reducible refine ek_isi ?_)
  | (with_reducible refine ek_lenO ⟨_, _, rfl, ?_⟩)
  | (with_reducible refine EO.ek (eo_sortZ ?_))
  | (with_reducible refine eo_sortZ ?_)
  | (with_reducible refine ez_set ?_)
  | (with_reducible refine EO.ek (eo_sortP2 ?_))
  | (with_reducible refine eo_sortP2 ?_)
  | (with_reducible refine EO.ek (eo_sort2 ?_))
  | (with_reducible refine EO.ek (eo_sortN ?_))
  | (with_reducible refine EO.ek (eo_sortIO ?_))
  | (with_reducible refine EO.ek (eo_sortedD ?_))
  | (with_reducible refine ek_revS ?_)
  | (with_reducible refine rk_addS ?_)
  | (with_reducible refine ek_cb ?_)
  | (with_reducible refine ek_tup ?_)
  | (with_reducible refine ek_callP ?_)
  | ((with_reducible refine' ek_callFr ?h ?j ?l ?_); (case h => exact rfl); (case j => exact rfl); (case l => omega))
  | (with_reducible refine ek_callF ⟨_, _, rfl⟩ ?_)
  | (with_reducible refine ea_nil ?_)
  | (with_reducible refine ea_cons ?_)
  | (with_reducible refine et_test ?_)
  | (with_reducible refine et_yes ?_)
  | (with_reducible refine et_B ?_)
  | (with_reducible refine et_and ?_)
  | (with_reducible refine et_or ?_)
  | (with_reducible refine et_not ?_)
  | (with_reducible refine ep_none ?_)
  | (with_reducible refine ep_some ?_)
  | (with_reducible refine eo_lst ?_)
  | (with_reducible refine eo_cat ?_)
  | (with_reducible refine eo_callP ?_)
  | (with_reducible refine ek_slT ?_)
  | (with_reducible refine ek_revT ?_)
  | ((with_reducible refine' eo_slScr ?h ?_); (case h => exact rfl))
  | (with_reducible refine eo_slLx ?_)
  | (with_reducible refine eo_revLx ?_)
  | (with_reducible refine isLst ?_)
  | (with_reducible refine isTpl ?_)
  | (with_reducible refine EO.ek ?_)
  | (walk_at "dlrk")
  | ((with_reducible refine ck_listOf ?_); (first | refine ⟨_, .inl rfl, ?_⟩ | refine ⟨_, .inr rfl, ?_⟩))
  | ((with_reducible refine ck_min2 ?_); (refine ⟨_, _, rfl, ?_⟩))
  | ((with_reducible refine ck_len ?_); (first | refine ⟨_, .inl rfl, ?_⟩ | refine ⟨_, .inr rfl, ?_⟩))
  | (walk_at "dlend")
  | (walk_at "call")
  | fail "dl")
def isNumD : PyData → Bool
  | .int _ => true
  | _ => false
def isRowD (n : Int) : PyData → Bool
  | .tuple xs => decide ((xs.length : Int) = n)
  | _ => false
theorem isRowD_two {x : PyData} (h : isRowD 2 x = true) : ∃ a b, x = .tuple [a, b] := by
  cases x with
  | tuple xs =>
    have e : (xs.length : Int) = 2 := of_decide_eq_true h
    match xs, e with
    | [a, b], _ => exact ⟨a, b, rfl⟩
    | [], e => simp at e
    | [_], e => simp at e
    | _ :: _ :: _ :: _, e => simp only [List.length_cons] at e; omega
  | _ => exact absurd h (by simp [isRowD])
theorem isNumD_int {x : PyData} (h : isNumD x = true) : ∃ i, x = .int i := by
  cases x with
  | int i => exact ⟨i, rfl⟩
  | _ => exact absurd h (by simp [isNumD])
def isWithin (a b : Int) : PyData → Bool
  | .int i => decide (a ≤ i) && decide (i ≤ b)
  | _ => false
def isTxt (ts : List Str) (d : PyData) : Bool := ts.any (isTx d)
section
def stD (q : Str × Int) : PyData := .tuple [.str q.1, .int q.2]
def turnP (q : Str × Int) : Int × Bool := (q.2, decide (q.1 = ("in" : Str)))
def backP (q : Int × Bool) : Str × Int := (if q.2 = true then "in" else "out", q.1)
/-- the turns of stamps, each once, in their order -/
def Turns (ss : List (Str × Int)) (zs : List (Int × Bool)) : Prop := zs.Pairwise (fun p r => rk2 p < rk2 r) ∧ ∀ q, q ∈ zs ↔ q ∈ ss.map turnP
theorem rising_one {xs ys : List (Int × Bool)} (hx : xs.Pairwise fun p r => rk2 p < rk2 r) (hy : ys.Pairwise fun p r => rk2 p < rk2 r) (h : ∀ q, q ∈ xs ↔ q ∈ ys) : xs = ys := by
  induction xs generalizing ys with
  | nil =>
    cases ys with
    | nil => rfl
    | cons y r => exact absurd ((h y).mpr List.mem_cons_self) (by simp)
  | cons x l ih =>
    cases ys with
    | nil => exact absurd ((h x).mp List.mem_cons_self) (by simp)
    | cons y r =>
      obtain ⟨x1, x2⟩ := List.pairwise_cons.mp hx
      obtain ⟨y1, y2⟩ := List.pairwise_cons.mp hy
      have e : x = y := by
        rcases List.mem_cons.mp ((h x).mp List.mem_cons_self) with e | m
        · exact e
        · rcases List.mem_cons.mp ((h y).mpr List.mem_cons_self) with e | n
          · exact e.symm
          · have := y1 x m
            have := x1 y n
            omega
      subst e
      congr 1
      refine ih x2 y2 fun q => ⟨fun m => ?_, fun m => ?_⟩
      · rcases List.mem_cons.mp ((h q).mp (List.mem_cons_of_mem _ m)) with e | n
        · have := x1 q m
          rw [e] at this
          omega
        · exact n
      · rcases List.mem_cons.mp ((h q).mpr (List.mem_cons_of_mem _ m)) with e | n
        · have := y1 q m
          rw [e] at this
          omega
        · exact n
theorem Turns.one {ss : List (Str × Int)} {xs ys : List (Int × Bool)} (hx : Turns ss xs) (hy : Turns ss ys) : xs = ys := rising_one hx.1 hy.1 fun q => (hx.2 q).trans (hy.2 q).symm
theorem st_get {ss : List (Str × Int)} {i : Nat} {x : PyData} (h : (ss.map stD)[i]? = some x) : ∃ q, ss[i]? = some q ∧ x = stD q := by
  rw [List.getElem?_map] at h
  cases e : ss[i]? with
  | none => rw [e] at h; cases h
  | some q => rw [e] at h; exact ⟨q, rfl, (Option.some.inj h).symm⟩
theorem pr_get {ss : List (Int × Bool)} {i : Nat} {x : PyData} (h : (ss.map prIB)[i]? = some x) : ∃ q, ss[i]? = some q ∧ x = prIB q := by
  rw [List.getElem?_map] at h
  cases e : ss[i]? with
  | none => rw [e] at h; cases h
  | some q => rw [e] at h; exact ⟨q, rfl, (Option.some.inj h).symm⟩
theorem take_on {α β : Type} (f : α → β) {l : List α} {i : Nat} {x : α} (h : l[i]? = some x) : (l.take (i + 1)).map f = (l.take i).map f ++ [f x] := by
  rw [List.take_add_one, h, List.map_append]; rfl
end
def isStampD : PyData → Bool
  | .tuple [w, m] => isTxt ["in", "out"] w && isWithin 0 999999359 m
  | _ => false
theorem isStampD_no {x : PyData} (h : isRowD 2 x = false) : isStampD x = false := by
  unfold isStampD
  split
  · exact absurd h (by simp [isRowD])
  · rfl
local macro_rules | `(tactic| walk_at "tx") => `(tactic| first
  | (with_reducible assumption)
  | ((with_reducible apply Tt.add); (focus walk_at "tx"); (focus walk_at "tx"))
  | ((with_reducible apply Tt.cut); walk_at "tx")
  | ((with_reducible apply Tt.rev); walk_at "tx")
  | ((with_reducible apply tx_int); (first | decide | omega))
  | (refine (show Tt 8 _ from ⟨?_, ?_⟩); (focus decide +kernel); (focus decide +kernel))
  | (refine (show Tt 40 _ from ⟨?_, ?_⟩); (focus decide +kernel); (focus decide +kernel)))
local macro_rules | `(tactic| walk_at "shb") => `(tactic| first
  | (with_reducible assumption)
  | ((with_reducible apply sh_int); (first | omega | decide +kernel))
  | ((with_reducible apply sh_str); walk_at "tx")
  | ((with_reducible apply sh_tupleS); walk_at "sub"))
local macro_rules | `(tactic| walk_at "sub") => `(tactic| first
  | (with_reducible assumption)
  | (with_reducible exact su_nil)
  | ((with_reducible apply su_cons); (focus walk_at "shb"); (focus walk_at "sub")))
local macro_rules | `(tactic| walk_at "allb") => `(tactic| first
  | (with_reducible assumption))
local macro_rules | `(tactic| walk_at "sh") => `(tactic| ((apply Sh.mono); (focus walk_at "shb"); (focus first | exact Nat.le_of_ble_eq_true rfl | omega); (focus first | exact Nat.le_of_ble_eq_true rfl | omega)))
local macro_rules | `(tactic| walk_at "all") => `(tactic| ((apply all_mono); (focus walk_at "allb"); (focus first | exact Nat.le_of_ble_eq_true rfl | omega); (focus first | exact Nat.le_of_ble_eq_true rfl | omega)))
local macro_rules | `(tactic| walk_at "lt") => `(tactic| first
  | omega
  | ((refine Int.lt_of_lt_of_le ?_ ?_); (focus assumption); (focus decide +kernel))
  | (simp only [List.length_append, List.length_cons, List.length_nil]; omega))
local macro_rules | `(tactic| walk_at "lt") => `(tactic| (apply Int.lt_of_lt_of_le; (focus assumption); (focus decide +kernel)))
local macro_rules | `(tactic| walk_at "dl1") => `(tactic| first
  | ((with_reducible apply rk_addX); (focus walk_at "tx"); (focus walk_at "tx"); (focus first | exact Nat.le_of_ble_eq_true rfl | omega))
  | ((with_reducible apply rk_ixX); (focus first | assumption | omega); (focus walk_at "lt"); (focus walk_at "tx"); (focus first | exact Nat.le_of_ble_eq_true rfl | omega); (refine fun (c_ : Nat) (hc_ : c_ ∈ _) (ht_ : Tt 1 ⟨#[c_]⟩) => ?_))
  | (with_reducible refine ek_slX ?_)
  | (with_reducible refine ek_revX ?_)
  | ((with_reducible apply ck_lenX); (focus walk_at "tx"); (focus first | exact Nat.le_of_ble_eq_true rfl | omega))
  | ((with_reducible apply shortS); (focus walk_at "tx"); (focus first | exact Nat.le_of_ble_eq_true rfl | omega))
  | ((with_reducible apply ck_strX); (focus omega))
  | ((with_reducible apply ck_reprX); (focus walk_at "shb"); (focus first | exact Nat.le_of_ble_eq_true rfl | omega); (focus first | exact Nat.le_of_ble_eq_true rfl | omega)))
local macro_rules | `(tactic| walk_at "wtb") => `(tactic| first
  | (with_reducible assumption)
  | (with_reducible exact wt_none)
  | (with_reducible exact wt_bool _)
  | ((with_reducible apply wt_int13); (first | omega | decide +kernel))
  | ((with_reducible apply wt_str); walk_at "tx")
  | ((with_reducible apply wt_tuple); walk_at "wsb")
  | ((with_reducible apply wt_list); walk_at "wsb")
  | assumption)
local macro_rules | `(tactic| walk_at "wsb") => `(tactic| first
  | (with_reducible exact ws_nil)
  | (with_reducible assumption)
  | ((with_reducible apply ws_cons); (focus walk_at "wtb"); (focus walk_at "wsb"))
  | ((with_reducible apply ws_app); (focus walk_at "wsb"); (focus walk_at "wsb"))
  | ((with_reducible apply ws_cut); walk_at "wsb")
  | ((with_reducible apply ws_rev); walk_at "wsb"))
local macro_rules | `(tactic| walk_at "le") => `(tactic| first | exact Nat.le_of_ble_eq_true rfl | omega)
local macro_rules | `(tactic| walk_at "wt") => `(tactic| ((apply Wt.mono); (focus walk_at "wtb"); (focus walk_at "le"); (focus walk_at "le"); (focus walk_at "le")))
local macro_rules | `(tactic| walk_at "allw") => `(tactic| first
  | (with_reducible assumption)
  | (with_reducible exact allw_nil)
  | ((with_reducible refine allw_cons ?_ ?_); (focus walk_at "wt"); (focus walk_at "allw"))
  | ((with_reducible refine allw_app ?_ ?_); (focus walk_at "allw"); (focus walk_at "allw")))
local macro_rules | `(tactic| walk_at "dl1") => `(tactic| first
  | (with_reducible refine rk_neT0 ?_)
  | ((with_reducible apply rk_catW); (focus walk_at "wsb"); (focus walk_at "wsb"); (focus walk_at "le"))
  | ((with_reducible apply ck_reprW); (focus walk_at "wtb"); (focus walk_at "le"); (focus walk_at "le"); (focus walk_at "le")))
section
variable {P : Program} {w : World} {K : PySem.W.Frag} {mg : Str → Option Value} {base : Heap}
def T_isnum : Tr := fun xs κ => ∃ x, xs = [x] ∧ κ (.bool (isNumD x))
local macro_rules | `(tactic| walk_at "call") => `(tactic| ((with_reducible show T_isnum _ _); refine ⟨_, rfl, ?_⟩))
theorem ok_is_number (T : Tx K mg) : OkD P w K mg base "is_number" 1 ["thing"] (spP K 1 T_isnum) := by
  obtain ⟨f, fd, F, hm, hb⟩ := T.f_is_number
  refine ⟨f, fd, hm, F.kp, hb, F.ok sc_is_number (fun vs H Q E h => spP_len h) (fun cdv A_ outer s H vs Q E hr h => ?_)⟩
  obtain ⟨B, xs, κ, hB, hd, hn, hT, hq⟩ := h
  have RT : ∀ {G x}, κ x → Rt (frP K B H) G x Q := fun k => rtP hB hq k
  have hlim : lim = 1099511627776 := rfl
  obtain ⟨x, rfl, k⟩ := hT
  refine ⟨_, (pss_one (ps_ret (pe_and (pe_callB (id := "isinstance") (isi' (K := K) rfl) (by rfl) T.b_isinstance (by decide +kernel) (pa_cons (pv 0) (pa_cons (pe_bltn (v := .ty "int") (u := .type "int") (by rfl) T.b_int (by decide +kernel) rfl) pa_nil))) (pe_one (pe_not (pe_callB (id := "isinstance") (isi' (K := K) rfl) (by rfl) T.b_isinstance (by decide +kernel) (pa_cons (pv 0) (pa_cons (pe_bltn (v := .ty "bool") (u := .type "bool") (by rfl) T.b_bool (by decide +kernel) rfl) pa_nil)))))))), ?_⟩
  try dsimp only [cxOf, Cx.nox, Cx.wish, Cx.blk]
  refine enterP hB hd (Nat.le_of_ble_eq_true rfl) ?_
  show Nx _ [.d x] _
  walk_at "dl"
  cases x <;> (walk_at "dl") <;> exact RT k
def T_within : Tr := fun xs κ => ∃ (x : PyData) (a b : Int), xs = [x, .int a, .int b] ∧ κ (.bool (isWithin a b x))
local macro_rules | `(tactic| walk_at "call") => `(tactic| ((with_reducible show T_within _ _); refine ⟨_, _, _, rfl, ?_⟩))
theorem ok_is_number_within (T : Tx K mg) : OkD P w K mg base "is_number_within" 2 ["thing", "least", "most"] (spP K 3 T_within) := by
  obtain ⟨f_is_number, fd_is_number, m_is_number, k_is_number, b_is_number, G_is_number⟩ := ok_is_number (P := P) (w := w) (base := base) T
  obtain ⟨f, fd, F, hm, hb⟩ := T.f_is_number_within
  refine ⟨f, fd, hm, F.kp, hb, F.ok sc_is_number_within (fun vs H Q E h => spP_len h) (fun cdv A_ outer s H vs Q E hr h => ?_)⟩
  obtain ⟨B, xs, κ, hB, hd, hn, hT, hq⟩ := h
  have RT : ∀ {G x}, κ x → Rt (frP K B H) G x Q := fun k => rtP hB hq k
  have hlim : lim = 1099511627776 := rfl
  obtain ⟨x, a, b, rfl, k⟩ := hT
  refine ⟨_, (pss_one (ps_ret (pe_and (pe_call G_is_number (hr.mono (by first | decide | omega | (simp only [Nat.add_eq, Nat.succ_eq_add_one]; omega))) rfl m_is_number k_is_number b_is_number .nil pass0 (pa_cons (pv 0) pa_nil)) (pe_one (pe_chain op_le op_le (pv 1) (pv 0) (pv 2)))))), ?_⟩
  try dsimp only [cxOf, Cx.nox, Cx.wish, Cx.blk]
  refine enterP hB hd (Nat.le_of_ble_eq_true rfl) ?_
  show Nx _ [.d x, .d (.int a), .d (.int b)] _
  walk_at "dl"
  · rename_i h
    obtain ⟨i, rfl⟩ := isNumD_int h
    walk_at "dl"
    · rename_i h
      have k : κ (.bool (decide (a ≤ i) && decide (i ≤ b))) := k
      rw [decide_eq_true h, Bool.true_and] at k
      exact RT k
    · rename_i h
      have k : κ (.bool (decide (a ≤ i) && decide (i ≤ b))) := k
      rw [decide_eq_false (by omega : ¬ a ≤ i), Bool.false_and] at k
      exact RT k
  · rename_i h
    refine RT ?_
    rwa [show isWithin a b x = false by cases x <;> first | rfl | exact absurd h (by simp [isNumD])] at k
def T_isrow : Tr := fun xs κ => ∃ x n, xs = [x, .int n] ∧ κ (.bool (isRowD n x))
local macro_rules | `(tactic| walk_at "call") => `(tactic| ((with_reducible show T_isrow _ _); refine ⟨_, _, rfl, ?_⟩))
theorem ok_is_row (T : Tx K mg) : OkD P w K mg base "is_row" 1 ["thing", "parts"] (spP K 2 T_isrow) := by
  obtain ⟨f, fd, F, hm, hb⟩ := T.f_is_row
  refine ⟨f, fd, hm, F.kp, hb, F.ok sc_is_row (fun vs H Q E h => spP_len h) (fun cdv A_ outer s H vs Q E hr h => ?_)⟩
  obtain ⟨B, xs, κ, hB, hd, hn, hT, hq⟩ := h
  have RT : ∀ {G x}, κ x → Rt (frP K B H) G x Q := fun k => rtP hB hq k
  have hlim : lim = 1099511627776 := rfl
  obtain ⟨x, n, rfl, k⟩ := hT
  refine ⟨_, (pss_one (ps_ret (pe_and (pe_callB (id := "isinstance") (isi' (K := K) rfl) (by rfl) T.b_isinstance (by decide +kernel) (pa_cons (pv 0) (pa_cons (pe_bltn (v := .ty "tuple") (u := .type "tuple") (by rfl) T.b_tuple (by decide +kernel) rfl) pa_nil))) (pe_one (pe_cmpR op_eq (pe_callB (id := "len") (len' (K := K) rfl) (by rfl) T.b_len (by decide +kernel) (pa_cons (pv 0) pa_nil)) (pv 1) (nomark _)))))), ?_⟩
  try dsimp only [cxOf, Cx.nox, Cx.wish, Cx.blk]
  refine enterP hB hd (Nat.le_of_ble_eq_true rfl) ?_
  show Nx _ [.d x, .d (.int n)] _
  walk_at "dl"
  cases x <;> (walk_at "dl") <;> exact RT k
def T_isst : Tr := fun xs κ => ∃ x, xs = [x] ∧ κ (.bool (isStampD x))
local macro_rules | `(tactic| walk_at "call") => `(tactic| ((with_reducible show T_isst _ _); refine ⟨_, rfl, ?_⟩))
theorem ok_is_stamp (T : Tx K mg) : OkD P w K mg base "is_stamp" 3 ["thing"] (spP K 1 T_isst) := by
  obtain ⟨f_is_row, fd_is_row, m_is_row, k_is_row, b_is_row, G_is_row⟩ := ok_is_row (P := P) (w := w) (base := base) T
  obtain ⟨f_is_number_within, fd_is_number_within, m_is_number_within, k_is_number_within, b_is_number_within, G_is_number_within⟩ := ok_is_number_within (P := P) (w := w) (base := base) T
  obtain ⟨_, c_LAST_MINUTE⟩ := T.c_LAST_MINUTE
  obtain ⟨f, fd, F, hm, hb⟩ := T.f_is_stamp
  refine ⟨f, fd, hm, F.kp, hb, F.ok sc_is_stamp (fun vs H Q E h => spP_len h) (fun cdv A_ outer s H vs Q E hr h => ?_)⟩
  obtain ⟨B, xs, κ, hB, hd, hn, hT, hq⟩ := h
  have RT : ∀ {G x}, κ x → Rt (frP K B H) G x Q := fun k => rtP hB hq k
  have hlim : lim = 1099511627776 := rfl
  obtain ⟨x, rfl, k⟩ := hT
  refine ⟨_, (pss_cons (ps_if (pt_not (pt_val (pe_call G_is_row (hr.mono (by first | decide | omega | (simp only [Nat.add_eq, Nat.succ_eq_add_one]; omega))) rfl m_is_row k_is_row b_is_row .nil pass0 (pa_cons (pv 0) (pa_cons pe_int pa_nil)))))
      (pss_one (ps_ret pe_bl))
      pss_nil)
      (pss_cons (ps_asg (pv 0) (gtup' (K := K) (n := 2) rfl rfl (pgs_cons (pg_name (i := 1) sc_is_stamp.nd rfl (.inl rfl)) (pgs_cons (pg_name (i := 2) sc_is_stamp.nd rfl (.inl rfl)) pgs_nil))))
      (pss_one (ps_ret (pe_and (pe_cmpR (inx' (K := K) (room65 hr) rfl) (pv 1) (pe_tup (pa_cons pe_str (pa_cons pe_str pa_nil))) rfl) (pe_one (pe_call G_is_number_within (hr.mono (by first | decide | omega | (simp only [Nat.add_eq, Nat.succ_eq_add_one]; omega))) rfl m_is_number_within k_is_number_within b_is_number_within .nil pass0 (pa_cons (pv 2) (pa_cons pe_int (pa_cons (pe_glob (v := .int 999999359) rfl c_LAST_MINUTE ⟨_, rfl⟩) pa_nil)))))))))), ?_⟩
  try dsimp only [cxOf, Cx.nox, Cx.wish, Cx.blk]
  refine enterP hB hd (Nat.le_of_ble_eq_true rfl) ?_
  show Nx _ [.d x, .any, .any] _
  walk_at "dl"
  · rename_i h
    rw [isStampD_no h] at k
    exact RT k
  rename_i h
  obtain ⟨w, s, rfl⟩ := isRowD_two h
  have k : κ (.bool (isTxt ["in", "out"] w && isWithin 0 999999359 s)) := k
  walk_at "dl"
  · rename_i h
    rw [show isTxt ["in", "out"] w = true from h, Bool.true_and] at k
    exact RT k
  · rename_i h
    rw [show isTxt ["in", "out"] w = false from h, Bool.false_and] at k
    exact RT k
def T_turn : Tr := fun xs κ => ∃ q : Str × Int, xs = [stD q] ∧ κ (prIB (turnP q))
local macro_rules | `(tactic| walk_at "call") => `(tactic| ((with_reducible show T_turn _ _); refine ⟨_, rfl, ?_⟩))
theorem ok_turn_of (T : Tx K mg) : OkD P w K mg base "turn_of" 1 ["stamp"] (spP K 1 T_turn) := by
  obtain ⟨f, fd, F, hm, hb⟩ := T.f_turn_of
  refine ⟨f, fd, hm, F.kp, hb, F.ok sc_turn_of (fun vs H Q E h => spP_len h) (fun cdv A_ outer s H vs Q E hr h => ?_)⟩
  obtain ⟨B, xs, κ, hB, hd, hn, hT, hq⟩ := h
  have RT : ∀ {G x}, κ x → Rt (frP K B H) G x Q := fun k => rtP hB hq k
  have hlim : lim = 1099511627776 := rfl
  obtain ⟨q, rfl, k⟩ := hT
  refine ⟨_, (pss_cons (ps_asg (pv 0) (gtup' (K := K) (n := 2) rfl rfl (pgs_cons (pg_name (i := 1) sc_turn_of.nd rfl (.inl rfl)) (pgs_cons (pg_name (i := 2) sc_turn_of.nd rfl (.inl rfl)) pgs_nil))))
      (pss_one (ps_ret (pe_tup (pa_cons (pv 2) (pa_cons (pe_cmpR op_eq (pv 1) pe_str (nomark _)) pa_nil)))))), ?_⟩
  try dsimp only [cxOf, Cx.nox, Cx.wish, Cx.blk]
  refine enterP hB hd (Nat.le_of_ble_eq_true rfl) ?_
  show Nx _ [.d (.tuple [.str q.1, .int q.2]), .any, .any] _
  walk_at "dl"
  exact RT k
def T_order : Trs := fun xs κ => ∃ (ss : List (Str × Int)) (U : List (Int × Bool)), xs = [.list (ss.map stD)] ∧ ss.length ≤ 900000 ∧ U.length < 63 ∧ (∀ q ∈ ss, turnP q ∈ U) ∧ ∀ zs, Turns ss zs → zs.length < 64 → κ (zs.map fun q => stD (backP q))
theorem ok_in_order (T : Tx K mg) : OkD P w K mg base "in_order" 2 ["stamps"] (spPO K 1 T_order) := by
  obtain ⟨f_turn_of, fd_turn_of, m_turn_of, k_turn_of, b_turn_of, G_turn_of⟩ := ok_turn_of (P := P) (w := w) (base := base) T
  obtain ⟨f, fd, F, hm, hb⟩ := T.f_in_order
  refine ⟨f, fd, hm, F.kp, hb, F.ok sc_in_order (fun vs H Q E h => spPO_len h) (fun cdv A_ outer s H vs Q E hr h => ?_)⟩
  obtain ⟨B, xs, κ, hB, hd, hn, hT, hq⟩ := h
  have RT : ∀ {G x}, κ x → RtO (frP K B H) G x Q := fun k => rtPO hB hq k
  have hlim : lim = 1099511627776 := rfl
  obtain ⟨ss, U, rfl, hl, hU, sub, k⟩ := hT
  refine ⟨_, (pss_cons (ps_set (i := 1) sc_in_order.nd rfl (.inl rfl) (pe_callB (id := "sorted") (srtP2' (K := K) (w := w) rfl rfl rfl) (by rfl) T.b_sorted (by decide +kernel) (pa_cons (pscT' (K := K) (w := w) (own := [("stamp", 2)]) rfl rfl rfl hr.units sc_in_order.nd (plist' (K := K) rfl (pv 0)) (blkOk_by (own := [("stamp", 2)]) (N := ["stamps", "rows", "stamp", "minute", "coming"]) (sc := defScope s_in_order) (by decide +kernel)) (fun _ _ _ _ _ => (pg_name (i := 2) sc_in_order.nd rfl (.inl rfl))) (fun _ _ _ _ _ => pts_nil) (fun _ _ _ _ _ => (pe_call G_turn_of (hr.mono (by first | decide | omega | (simp only [Nat.add_eq, Nat.succ_eq_add_one]; omega))) rfl m_turn_of k_turn_of b_turn_of .nil pass0 (pa_cons (pv 2) pa_nil)))) pa_nil)))
      (pss_one (ps_own (ps_ret (pe_lc (own := [("minute", 3), ("coming", 4)]) rfl sc_in_order.nd (plist' (K := K) rfl (pv 1)) (blkOk_by (own := [("minute", 3), ("coming", 4)]) (N := ["stamps", "rows", "stamp", "minute", "coming"]) (sc := defScope s_in_order) (by decide +kernel)) (fun _ _ _ _ _ => (gtup' (K := K) (n := 2) rfl rfl (pgs_cons (pg_name (i := 3) sc_in_order.nd rfl (.inl rfl)) (pgs_cons (pg_name (i := 4) sc_in_order.nd rfl (.inl rfl)) pgs_nil)))) (fun _ _ _ _ _ => pts_nil) (fun _ _ _ _ _ => (pe_tup (pa_cons (pe_ifExp (pt_val (pv 4)) pe_str pe_str) (pa_cons (pv 3) pa_nil))))))))), ?_⟩
  try dsimp only [cxOf, Cx.nox, Cx.wish, Cx.blk]
  refine enterP hB hd (Nat.le_of_ble_eq_true rfl) ?_
  show Nx _ [.d (.list (ss.map stD)), .any, .any, .any, .any] _
  walk_at "dl"
  refine ez_compT ?_
  refine wi_list ?_
  walk_at "dl"
  refine ⟨_, rfl, fun i acc G => acc = ((ss.take i).map turnP).map prIB ∧ G = [.d (.list (ss.map stD)), .any, .any, .any, .any], gw_name (by decide), ⟨rfl, rfl⟩, ?_, ?_⟩
  · rintro D i x acc _ hx ⟨rfl, rfl⟩ B o hB
    obtain ⟨q, hq, rfl⟩ := st_get hx
    walk_at "dl"
    refine bk_putT fun B2 o2 hB2 => ?_
    walk_at "dl"
    refine ⟨turnP q, rfl, ⟨U, hU, fun r hr => ?_⟩, ?_, rfl⟩
    · obtain ⟨a, ha, e⟩ := List.mem_map.mp hr
      obtain ⟨b, hb, rfl⟩ := List.mem_map.mp ha
      rw [← prIB_inj e]
      exact sub b (List.mem_of_mem_take hb)
    · rw [take_on turnP hq, List.map_append]; rfl
  intro qs _ ⟨e, eG⟩ zs z1 z2 z3
  subst eG
  rw [List.length_map, List.take_length] at e
  obtain rfl : qs = ss.map turnP := List.map_inj_right (fun _ _ => prIB_inj) |>.mp e
  have k := k zs ⟨z1, z2⟩ z3
  walk_at "dl"
  refine eo_lcL (fun i acc G => acc = (zs.take i).map (fun q => stD (backP q)) ∧ G = [.d (.list (ss.map stD)), .d (.list (zs.map prIB)), .any, .any, .any]) ?_
  walk_at "dl"
  refine ⟨_, rfl, by rw [List.length_map]; omega, gw_tup (gws_cons (gw_name (by decide)) (gws_cons (gw_name (by decide)) gws_nil)), ⟨rfl, rfl⟩, ?_, ?_⟩
  · rintro i v acc _ hv ⟨rfl, rfl⟩ _ B' D ws hB'
    obtain ⟨q, hq, rfl⟩ := pr_get hv
    walk_at "dl"
    all_goals
      refine ⟨?_, rfl⟩
      rw [take_on (fun q => stD (backP q)) hq]
      first
        | (rename_i hc
           have e : backP q = (("in" : Str), q.1) := by unfold backP; rw [if_pos hc]
           rw [e]
           rfl)
        | (rename_i hc
           have e : backP q = (("out" : Str), q.1) := by unfold backP; rw [if_neg (by rw [hc]; decide)]
           rw [e]
           rfl)
  rintro acc _ ⟨rfl, rfl⟩
  rw [List.length_map, List.take_length]
  exact RT k
local macro_rules | `(tactic| walk_at "call") => `(tactic| first
  | (refine ⟨_, Sum.inr _, _, _, (show _ = some (Sl.dic _ (feedL _ _ _ _)) from rfl), rfl, vf_cells, ?_⟩)
  | (refine ⟨_, _, Sum.inr _, _, (show _ = some (Sl.dic _ (feedL _ _ _ _)) from rfl), rfl, vf_cells, ?_⟩)
  | (refine ⟨_, _, Sum.inr _, _, (show _ = some (Sl.dic _ (feedL _ _ _ _)) from rfl), rfl, vf_turn, ?_⟩)
  | (refine ⟨_, _, Sum.inr _, _, (show _ = some (Sl.dic _ (feedL _ _ _ _)) from rfl), rfl, vf_left, ?_⟩)
  | (refine ⟨_, _, Sum.inr _, _, (show _ = some (Sl.dic _ (feedL _ _ _ _)) from rfl), rfl, vf_at, ?_⟩)
  | ((refine ⟨_, Sum.inr _, (show _ = some (Sl.dic _ (feedL _ _ _ _)) from rfl), rfl, Nat.le_of_ble_eq_true rfl, ?_⟩); (first | rw [pf_turn] | rw [pf_left] | rw [pf_at])))
theorem ok__law_feed (T : Tx K mg) : OkD P w K mg base "_law_feed" 1 ["script"] (spMk K ) := by
  obtain ⟨f, fd, F, hm, hb⟩ := T.f__law_feed
  refine ⟨f, fd, hm, F.kp, hb, F.ok sc__law_feed (fun vs H Q E h => spMk_len h) (fun cdv A_ outer s H vs Q E hr h => ?_)⟩
  obtain ⟨a, ns, B, rfl, hB, hS, hns, hq⟩ := h
  have RT : ∀ {G}, RtD (frP K B H) G (feedL ns 0 0 0) Q := rtMk hB hq
  have hlim : lim = 1099511627776 := rfl
  refine ⟨_, (pss_one (ps_own (ps_ret (pe_disp (pps_cons pe_str (pe_callTy (T := "list") (lof' (K := K) rfl) (by rfl) T.b_list (by decide +kernel) (pa_cons (pe_slice (sll' (K := K) rfl) (pv 0) po_none (po_some pe_int)) pa_nil)) (pps_cons pe_str pe_int (pps_cons pe_str pe_int (pps_cons pe_str pe_int pps_nil)))) rfl rfl (by decide) (by decide))))), ?_⟩
  try dsimp only [cxOf, Cx.nox, Cx.wish, Cx.blk]
  refine enterL hB hS (Nat.le_of_ble_eq_true rfl) ?_
  show Nx _ [.scr a ns] _
  refine nx_ownRD ?_
  refine ed_disp fun B2 p2 hB2 => ?_
  refine eps_cons ?_
  walk_at "dl"
  refine ⟨rfl, ?_⟩
  walk_at "dl"
  rw [cutD_63 hns]
  refine ⟨Sum.inr _, rfl, ?_⟩
  refine eps_cons ?_
  walk_at "dl"
  refine ⟨Sum.inr _, rfl, ?_⟩
  refine eps_cons ?_
  walk_at "dl"
  refine ⟨Sum.inr _, rfl, ?_⟩
  refine eps_cons ?_
  walk_at "dl"
  refine ⟨Sum.inr _, rfl, ?_⟩
  refine eps_nil ?_
  refine ⟨Nat.le_of_ble_eq_true rfl, show [(Sum.inr "cells" : Key), Sum.inr "at", Sum.inr "left", Sum.inr "turn"].Nodup by decide, ?_⟩
  exact RT
def T_draw : Tr := fun xs κ => ∃ m : Int, xs = [.int m] ∧ 1 ≤ m ∧ m < 1073741824 ∧ ∀ r : Int, 0 ≤ r → r < m → κ (.int r)
local macro_rules | `(tactic| walk_at "call") => `(tactic| ((with_reducible show T_draw _ _); refine ⟨_, rfl, ?_, ?_, fun (r_ : Int) (h0_ : 0 ≤ r_) (h1_ : r_ < _) => ?_⟩; (focus first | decide | omega | (simp only [List.length_map]; omega)); (focus first | decide | omega | (simp only [List.length_map]; omega)); (try simp only [List.length_map] at h1_)))
theorem ok__law_draw (T : Tx K mg) : OkD P w K mg base "_law_draw" 1 ["feed", "many"] (spF K 1 1 T_draw) := by
  obtain ⟨f, fd, F, hm, hb⟩ := T.f__law_draw
  refine ⟨f, fd, hm, F.kp, hb, F.ok sc__law_draw (fun vs H Q E h => spF_len h) (fun cdv A_ outer s H vs Q E hr h => ?_)⟩
  obtain ⟨f0, us, B, xs, κ, A, rfl, hB, hf, hA, hd, hn, hT, hq⟩ := h
  have RT : ∀ {G x A'}, G[0]? = some (Sl.fd f0 A') → A' ≤ A + _ → κ x → Rt (frF K B H f0) G x Q := fun hG hA k => rtF hB hq hG hA k
  have hlim : lim = 1099511627776 := rfl
  obtain ⟨m, rfl, h1, h2, k⟩ := hT
  refine ⟨_, (pss_cons (ps_dput (hu_of hr) (pv 0) pe_str (pe_op op_add (pe_dget (hu_of hr) (pv 0) pe_str (fun _ _ => rfl)) pe_int) rfl)
      (pss_cons (ps_if (pt_cmpR op_gt (pe_dget (hu_of hr) (pv 0) pe_str (fun _ _ => rfl)) pe_int (nomark _))
      (pss_cons (ps_set (i := 2) sc__law_draw.nd rfl (.inl rfl) (pe_op op_modN (pe_dget (hu_of hr) (pv 0) pe_str (fun _ _ => rfl)) (pv 1)))
      (pss_cons (ps_dput (hu_of hr) (pv 0) pe_str (pe_op op_fdivN (pe_dget (hu_of hr) (pv 0) pe_str (fun _ _ => rfl)) (pv 1)) rfl)
      (pss_one (ps_ret (pv 2)))))
      pss_nil)
      (pss_cons (ps_set (i := 3) sc__law_draw.nd rfl (.inl rfl) (pe_dget (hu_of hr) (pv 0) pe_str (fun _ _ => rfl)))
      (pss_cons (ps_dput (hu_of hr) (pv 0) pe_str (pe_op op_add (pv 3) pe_int) rfl)
      (pss_cons (ps_set (i := 4) sc__law_draw.nd rfl (.inl rfl) pe_int)
      (C8.pss_cut (ps_if (pt_cmpR (ned' (K := K) hr.units rfl) (pe_dget (hu_of hr) (pv 0) pe_str (fun _ _ => rfl)) (pe_lst pa_nil) (nomark _))
      (pss_one (ps_set (i := 4) sc__law_draw.nd rfl (.inl rfl) (pe_ix (ixl' (K := K) rfl) (pe_dget (hu_of hr) (pv 0) pe_str (fun _ _ => rfl)) (pe_op op_modN (pv 3) (pe_callB (id := "len") (len' (K := K) rfl) (by rfl) T.b_len (by decide +kernel) (pa_cons (pe_dget (hu_of hr) (pv 0) pe_str (fun _ _ => rfl)) pa_nil))) (fun _ _ => rfl))))
      pss_nil)
      (pss_cons (ps_if (PW.pt (pw_and (pt_cmpR op_ge (pv 4) (pe_op op_pow pe_int pe_int) (nomark _)) (pw_and1 (pt_cmpR op_lt (pv 3) (pe_callB (id := "len") (len' (K := K) rfl) (by rfl) T.b_len (by decide +kernel) (pa_cons (pe_dget (hu_of hr) (pv 0) pe_str (fun _ _ => rfl)) pa_nil)) (nomark _)))))
      (pss_cons (ps_dput (hu_of hr) (pv 0) pe_str (pe_op op_fdivN (pe_op op_sub (pv 4) (pe_op op_pow pe_int pe_int)) (pv 1)) rfl)
      (pss_one (ps_ret (pe_op op_modN (pe_op op_sub (pv 4) (pe_op op_pow pe_int pe_int)) (pv 1)))))
      pss_nil)
      (pss_cons (ps_set (i := 5) sc__law_draw.nd rfl (.inl rfl) (pe_op op_modN (pe_op op_mul (pe_op op_add (pe_op op_modN (pv 4) pe_int) pe_int) (pe_op op_add pe_int (pe_op op_mul pe_int (pe_dget (hu_of hr) (pv 0) pe_str (fun _ _ => rfl))))) pe_int))
      (pss_cons (ps_set (i := 5) sc__law_draw.nd rfl (.inl rfl) (pe_op op_modN (pe_op op_add (pe_op op_pow (pv 5) pe_int) (pe_op op_mul pe_int (pe_dget (hu_of hr) (pv 0) pe_str (fun _ _ => rfl)))) pe_int))
      (pss_one (ps_ret (pe_op op_modN (pe_op op_fdivN (pe_op op_modN (pe_op op_mul (pv 5) pe_int) pe_int) pe_int) (pv 1))))))))))))), ?_⟩
  try dsimp only [cxOf, Cx.nox, Cx.wish, Cx.blk]
  refine enterF hB hf hd (Nat.le_of_ble_eq_true rfl) ?_
  show Nx _ [.fd f0 A, .d (.int m), .any, .any, .any, .any] _
  refine nx_open (i := 0) rfl fun at_ rest turn ns hns ha0 haA hr0 => ?_
  walk_at "dl"
  · refine rt_close (i := 0) A rfl hns ha0 haA (Int.ediv_nonneg hr0 (by omega)) ?_
    exact RT rfl (by omega) (k _ (Int.emod_nonneg _ (by omega)) (Int.emod_lt_of_pos _ (by omega)))
  refine nx_cut (fun G => ∃ c : Int, G = [.dic f0 (feedL ns (at_ + 1) rest (turn + 1)), .d (.int m), .any, .d (.int at_), .d (.int c), .any]) ?_ ?_
  · walk_at "dl"
    refine rk_neD ((lay_list (n := 0) lay_ints).shaped (by decide)) ((lay_list (n := 0) fun x hx => by cases hx).shaped (by decide)) ?_
    rw [eqv_nil]
    walk_at "dl"
    · have h0 : 0 < ((ns.map PyData.int).length : Int) := by
        cases ns with
        | nil => rename_i hc; exact absurd rfl hc
        | cons x r => rw [List.map_cons, List.length_cons]; omega
      refine rk_mod ⟨_, _, rfl, rfl, h0, ?_⟩
      obtain ⟨c, ec, _⟩ := atI_ints (ns := ns) (i := at_ % ((ns.map PyData.int).length : Int)) (Int.emod_nonneg _ (by omega)) (by
        have := Int.emod_lt_of_pos at_ h0
        rw [List.length_map] at this ⊢; exact this)
      refine rk_ixL ⟨_, _, _, rfl, rfl, ec, ?_⟩
      walk_at "dl"
      exact nx_inv ⟨c, rfl⟩
    · exact nx_inv ⟨_, rfl⟩
  rintro _ ⟨c, rfl⟩
  walk_at "dl"
  · refine rt_close (i := 0) (A + 1) rfl hns (by omega) (by omega) (Int.ediv_nonneg (by omega) (by omega)) ?_
    exact RT rfl (Nat.le_refl _) (k _ (Int.emod_nonneg _ (by omega)) (Int.emod_lt_of_pos _ (by omega)))
  all_goals try refine ⟨fun h => absurd h Bool.false_ne_true, fun _ => ?_⟩
  all_goals
    walk_at "dl"
    refine rk_pow ⟨_, _, rfl, rfl, ⟨by decide, by decide, by omega⟩, ?_⟩
    walk_at "dl"
    refine rt_close (i := 0) (A + 1) rfl hns (by omega) (by omega) hr0 ?_
    exact RT rfl (Nat.le_refl _) (k _ (Int.emod_nonneg _ (by omega)) (Int.emod_lt_of_pos _ (by omega)))
def T_of : Tr := fun xs κ => ∃ ds, xs = [.list ds] ∧ 1 ≤ ds.length ∧ ds.length ≤ 1000 ∧ ∀ d, d ∈ ds → κ d
theorem t_of_ints {ds : List PyData} {κ : PyData → Prop} (e : (intsOf ds).map PyData.int = ds) (h1 : 1 ≤ ds.length) (h2 : ds.length ≤ 1000) (h : ∀ c : Int, c ∈ intsOf ds → κ (.int c)) : T_of [.list ds] κ :=
  ⟨ds, rfl, h1, h2, fun d hd => by rw [← e] at hd; obtain ⟨c, hc, rfl⟩ := List.mem_map.mp hd; exact h c hc⟩
local macro_rules | `(tactic| walk_at "call") => `(tactic| first
  | ((with_reducible refine t_of_ints ?_ ?_ ?_ (fun (c_ : Int) (hc_ : c_ ∈ _) => ?_)); (focus rfl); (focus exact Nat.le_of_ble_eq_true rfl); (focus exact Nat.le_of_ble_eq_true rfl); (simp only [intsOf, List.mem_cons, List.not_mem_nil, or_false] at hc_))
  | ((with_reducible show T_of _ _); refine ⟨_, rfl, ?_, ?_, fun (d_ : PyData) (hd_ : d_ ∈ _) => ?_⟩; (focus first | exact Nat.le_of_ble_eq_true rfl | omega | (simp only [List.length_map]; omega)); (focus first | exact Nat.le_of_ble_eq_true rfl | omega | (simp only [List.length_map]; omega))))
def T_ofr : Tr := fun xs κ => 1 ≤ xs.length ∧ xs.length ≤ 1000 ∧ ∀ d, d ∈ xs → κ d
theorem ok__law_of_r (T : Tx K mg) : OkD P w K mg base "_law_of" 2 ["feed", "some"] (spFr K 1 T_ofr) := by
  obtain ⟨f__law_draw, fd__law_draw, m__law_draw, k__law_draw, b__law_draw, G__law_draw⟩ := ok__law_draw (P := P) (w := w) (base := base) T
  obtain ⟨f, fd, F, hm, hb⟩ := T.f__law_of
  refine ⟨f, fd, hm, F.kp, hb, F.ok sc__law_of (fun vs H Q E h => spFr_len h) (fun cdv A_ outer s H vs Q E hr h => ?_)⟩
  obtain ⟨f0, p0, ws, B, xs, κ, A, rfl, ne, hB, hf, hA, hp, hd, hT, hq⟩ := h
  have hlim : lim = 1099511627776 := rfl
  obtain ⟨h1, h2, k⟩ := hT
  refine ⟨_, (pss_one (ps_ret (pe_ix (ixl' (K := K) rfl) (pv 1) (pe_call G__law_draw (hr.mono (by first | decide | omega | (simp only [Nat.add_eq, Nat.succ_eq_add_one]; omega))) rfl m__law_draw k__law_draw b__law_draw .nil pass0 (pa_cons (pv 0) (pa_cons (pe_callB (id := "len") (len' (K := K) rfl) (by rfl) T.b_len (by decide +kernel) (pa_cons (pv 1) pa_nil)) pa_nil))) (fun _ _ => rfl)))), ?_⟩
  try dsimp only [cxOf, Cx.nox, Cx.wish, Cx.blk]
  refine enterR hB ne hf hp hd (Nat.le_of_ble_eq_true rfl) ?_
  show Nx _ [.fd f0 A, .own p0 xs] _
  walk_at "dl"
  rename_i r r0 r1
  obtain ⟨x, hx, hm⟩ := atI_ok (xs := xs) r0 r1
  refine ⟨_, _, _, rfl, rfl, hx, ?_⟩
  exact rtR hB hq rfl rfl (Nat.le_refl _) (k x hm)
theorem ok__law_of (T : Tx K mg) : OkD P w K mg base "_law_of" 2 ["feed", "some"] (spF K 1 1 T_of) := by
  obtain ⟨f__law_draw, fd__law_draw, m__law_draw, k__law_draw, b__law_draw, G__law_draw⟩ := ok__law_draw (P := P) (w := w) (base := base) T
  obtain ⟨f, fd, F, hm, hb⟩ := T.f__law_of
  refine ⟨f, fd, hm, F.kp, hb, F.ok sc__law_of (fun vs H Q E h => spF_len h) (fun cdv A_ outer s H vs Q E hr h => ?_)⟩
  obtain ⟨f0, us, B, xs, κ, A, rfl, hB, hf, hA, hd, hn, hT, hq⟩ := h
  have RT : ∀ {G x A'}, G[0]? = some (Sl.fd f0 A') → A' ≤ A + _ → κ x → Rt (frF K B H f0) G x Q := fun hG hA k => rtF hB hq hG hA k
  have hlim : lim = 1099511627776 := rfl
  obtain ⟨ds, rfl, h1, h2, k⟩ := hT
  refine ⟨_, (pss_one (ps_ret (pe_ix (ixl' (K := K) rfl) (pv 1) (pe_call G__law_draw (hr.mono (by first | decide | omega | (simp only [Nat.add_eq, Nat.succ_eq_add_one]; omega))) rfl m__law_draw k__law_draw b__law_draw .nil pass0 (pa_cons (pv 0) (pa_cons (pe_callB (id := "len") (len' (K := K) rfl) (by rfl) T.b_len (by decide +kernel) (pa_cons (pv 1) pa_nil)) pa_nil))) (fun _ _ => rfl)))), ?_⟩
  try dsimp only [cxOf, Cx.nox, Cx.wish, Cx.blk]
  refine enterF hB hf hd (Nat.le_of_ble_eq_true rfl) ?_
  show Nx _ [.fd f0 A, .d (.list ds)] _
  walk_at "dl"
  exact rk_ixAny ⟨_, _, rfl, rfl, by omega, by omega, fun d hd => RT rfl (Nat.le_refl _) (k d hd)⟩
def T_minute : Tr := fun xs κ => ∃ n : Int, xs = [.int n] ∧ 0 ≤ n ∧ ∀ r : Int, 0 ≤ r → r ≤ 999999359 → κ (.int r)
local macro_rules | `(tactic| walk_at "call") => `(tactic| ((with_reducible show T_minute _ _); refine ⟨_, rfl, ?_, fun (r_ : Int) (h0_ : 0 ≤ r_) (h1_ : r_ ≤ _) => ?_⟩; (focus omega)))
theorem ok__law_minute (T : Tx K mg) : OkD P w K mg base "_law_minute" 3 ["feed", "near"] (spF K 1 4 T_minute) := by
  obtain ⟨f__law_draw, fd__law_draw, m__law_draw, k__law_draw, b__law_draw, G__law_draw⟩ := ok__law_draw (P := P) (w := w) (base := base) T
  obtain ⟨f__law_of, fd__law_of, m__law_of, k__law_of, b__law_of, G__law_of⟩ := ok__law_of (P := P) (w := w) (base := base) T
  obtain ⟨f, fd, F, hm, hb⟩ := T.f__law_minute
  refine ⟨f, fd, hm, F.kp, hb, F.ok sc__law_minute (fun vs H Q E h => spF_len h) (fun cdv A_ outer s H vs Q E hr h => ?_)⟩
  obtain ⟨f0, us, B, xs, κ, A, rfl, hB, hf, hA, hd, hn, hT, hq⟩ := h
  have RT : ∀ {G x A'}, G[0]? = some (Sl.fd f0 A') → A' ≤ A + _ → κ x → Rt (frF K B H f0) G x Q := fun hG hA k => rtF hB hq hG hA k
  have hlim : lim = 1099511627776 := rfl
  obtain ⟨n, rfl, n0, k⟩ := hT
  refine ⟨_, (pss_cons (ps_set (i := 2) sc__law_minute.nd rfl (.inl rfl) (pe_call G__law_draw (hr.mono (by first | decide | omega | (simp only [Nat.add_eq, Nat.succ_eq_add_one]; omega))) rfl m__law_draw k__law_draw b__law_draw .nil pass0 (pa_cons (pv 0) (pa_cons pe_int pa_nil))))
      (pss_cons (ps_if (pt_cmpR op_eq (pv 2) pe_int (nomark _))
      (pss_one (ps_ret (pe_op op_add (pe_op op_mul pe_int (pe_call G__law_draw (hr.mono (by first | decide | omega | (simp only [Nat.add_eq, Nat.succ_eq_add_one]; omega))) rfl m__law_draw k__law_draw b__law_draw .nil pass0 (pa_cons (pv 0) (pa_cons pe_int pa_nil)))) (pe_call G__law_draw (hr.mono (by first | decide | omega | (simp only [Nat.add_eq, Nat.succ_eq_add_one]; omega))) rfl m__law_draw k__law_draw b__law_draw .nil pass0 (pa_cons (pv 0) (pa_cons pe_int pa_nil))))))
      pss_nil)
      (pss_cons (ps_if (pt_cmpR op_eq (pv 2) pe_int (nomark _))
      (pss_one (ps_ret (pe_call G__law_of (hr.mono (by first | decide | omega | (simp only [Nat.add_eq, Nat.succ_eq_add_one]; omega))) rfl m__law_of k__law_of b__law_of .nil pass0 (pa_cons (pv 0) (pa_cons (pe_lst (pa_cons pe_int (pa_cons pe_int (pa_cons pe_int (pa_cons pe_int pa_nil))))) pa_nil)))))
      pss_nil)
      (pss_one (ps_ret (pe_callB (id := "min") (call_min2 rfl) (by rfl) T.b_min (by decide +kernel) (pa_cons pe_int (pa_cons (pe_op op_add (pv 1) (pe_call G__law_draw (hr.mono (by first | decide | omega | (simp only [Nat.add_eq, Nat.succ_eq_add_one]; omega))) rfl m__law_draw k__law_draw b__law_draw .nil pass0 (pa_cons (pv 0) (pa_cons pe_int pa_nil)))) pa_nil)))))))), ?_⟩
  try dsimp only [cxOf, Cx.nox, Cx.wish, Cx.blk]
  refine enterF hB hf hd (Nat.le_of_ble_eq_true rfl) ?_
  show Nx _ [.fd f0 A, .d (.int n), .any] _
  walk_at "dl"
  · exact RT rfl (by omega) (k _ (by omega) (by omega))
  · exact RT rfl (by omega) (k _ (by omega) (by omega))
  · exact RT rfl (by omega) (k _ (by split <;> omega) (by split <;> omega))
theorem t_of_wt {ds : List PyData} {κ : PyData → Prop} {L n d : Nat} (ha : AllWt L n d ds) (h1 : 1 ≤ ds.length) (h2 : ds.length ≤ 1000) (h : ∀ x, Wt L n d x → κ x) : T_of [.list ds] κ :=
  ⟨ds, rfl, h1, h2, fun x hx => h x (ha x hx)⟩
def T_odd : Tr := fun xs κ => xs = [] ∧ ∀ x : PyData, Wt 42 700 2 x → κ x
local macro_rules | `(tactic| walk_at "call") => `(tactic| ((with_reducible show T_odd _ _); refine ⟨rfl, fun (x_ : PyData) (hx_ : Wt 42 700 2 x_) => ?_⟩))
local macro_rules | `(tactic| walk_at "dl1") => `(tactic| ((with_reducible refine ED.ek ?_); (with_reducible refine ed_disp ?_); (refine fun (B2 : Hp) (p2 : Addr) (hB2 : Ex _ B2) => ?_); (with_reducible refine eps_cons ?_)))
theorem ok__law_odd (T : Tx K mg) : OkD P w K mg base "_law_odd" 3 ["feed"] (spF K 0 1 T_odd) := by
  obtain ⟨f__law_of, fd__law_of, m__law_of, k__law_of, b__law_of, G__law_of⟩ := ok__law_of (P := P) (w := w) (base := base) T
  obtain ⟨f, fd, F, hm, hb⟩ := T.f__law_odd
  refine ⟨f, fd, hm, F.kp, hb, F.ok sc__law_odd (fun vs H Q E h => spF_len h) (fun cdv A_ outer s H vs Q E hr h => ?_)⟩
  obtain ⟨f0, us, B, xs, κ, A, rfl, hB, hf, hA, hd, hn, hT, hq⟩ := h
  have RT : ∀ {G x A'}, G[0]? = some (Sl.fd f0 A') → A' ≤ A + _ → κ x → Rt (frF K B H f0) G x Q := fun hG hA k => rtF hB hq hG hA k
  have hlim : lim = 1099511627776 := rfl
  obtain ⟨rfl, k⟩ := hT
  refine ⟨_, (pss_cons (ps_set (i := 1) sc__law_odd.nd rfl (.inl rfl) (pe_lst (pa_cons pe_int (pa_cons pe_int (pa_cons (pe_un un_neg pe_int) (pa_cons pe_int (pa_cons pe_int (pa_cons (pe_op op_pow pe_int pe_int) (pa_cons (pe_op op_pow pe_int pe_int) (pa_cons pe_bl (pa_cons pe_bl (pa_cons pe_non (pa_cons pe_str (pa_cons pe_str (pa_cons pe_str (pa_cons pe_str (pa_cons pe_str pa_nil)))))))))))))))))
      (pss_one (ps_ret (pe_call G__law_of (hr.mono (by first | decide | omega | (simp only [Nat.add_eq, Nat.succ_eq_add_one]; omega))) rfl m__law_of k__law_of b__law_of .nil pass0 (pa_cons (pv 0) (pa_cons (pe_op op_cat (pv 1) (pe_lst (pa_cons (pe_tup pa_nil) (pa_cons (pe_lst pa_nil) (pa_cons (pe_tup (pa_cons pe_str pa_nil)) (pa_cons (pe_tup (pa_cons pe_str (pa_cons pe_int pa_nil))) (pa_cons (pe_lst (pa_cons pe_str (pa_cons pe_int pa_nil))) (pa_cons pe_dnewK (pa_cons (pe_disp (pps_cons pe_str pe_int pps_nil) rfl rfl (by decide) (by decide)) (pa_cons pe_str (pa_cons pe_str pa_nil))))))))))) pa_nil)))))), ?_⟩
  try dsimp only [cxOf, Cx.nox, Cx.wish, Cx.blk]
  refine enterF hB hf hd (Nat.le_of_ble_eq_true rfl) ?_
  show Nx _ [.fd f0 A, .any] _
  walk_at "dl"
  refine ⟨Sum.inr _, rfl, ?_⟩
  refine eps_nil ?_
  refine ⟨Nat.le_of_ble_eq_true rfl, by decide, ?_⟩
  have hd1 : Wt 42 700 2 (.dict [(.str "in", .int 0)]) := ⟨by decide +kernel, by decide +kernel, by decide +kernel, by decide +kernel⟩
  have hd0 : Wt 42 700 2 (.dict []) := ⟨by decide +kernel, by decide +kernel, by decide +kernel, by decide +kernel⟩
  have hi : Wt 42 700 2 (.int 10000000000000000000000000000000000000000) := (wt_int (k := 41) (by decide) (by decide +kernel) (by decide)).mono (by decide) (by decide) (by decide)
  walk_at "dl"
  rename_i d hd
  refine RT rfl (by omega) (k d ?_)
  refine (show AllWt 42 700 2 _ from ?_) d hd
  clear hd
  walk_at "allw"
def T_word : Tr := fun xs κ => ∃ (w : Str) (n : Nat), xs = [.str w] ∧ Tt n w ∧ n ≤ 40000 ∧ ∀ z : Str, Tt (2 * n + 8) z → κ (.str z)
local macro_rules | `(tactic| walk_at "dl1") => `(tactic| first
  | (with_reducible refine ek_get2 ?_)
  | ((with_reducible refine ed_disp ?_); (refine fun (B2 : Hp) (p2 : Addr) (hB2 : Ex _ B2) => ?_); (with_reducible refine eps_cons ?_)))
theorem ok__law_word (T : Tx K mg) : OkD P w K mg base "_law_word" 3 ["feed", "word"] (spF K 1 3 T_word) := by
  obtain ⟨f__law_draw, fd__law_draw, m__law_draw, k__law_draw, b__law_draw, G__law_draw⟩ := ok__law_draw (P := P) (w := w) (base := base) T
  obtain ⟨f__law_of, fd__law_of, m__law_of, k__law_of, b__law_of, G__law_of⟩ := ok__law_of (P := P) (w := w) (base := base) T
  obtain ⟨f, fd, F, hm, hb⟩ := T.f__law_word
  refine ⟨f, fd, hm, F.kp, hb, F.ok sc__law_word (fun vs H Q E h => spF_len h) (fun cdv A_ outer s H vs Q E hr h => ?_)⟩
  obtain ⟨f0, us, B, xs, κ, A, rfl, hB, hf, hA, hd, hn, hT, hq⟩ := h
  have RT : ∀ {G x A'}, G[0]? = some (Sl.fd f0 A') → A' ≤ A + _ → κ x → Rt (frF K B H f0) G x Q := fun hG hA k => rtF hB hq hG hA k
  have hlim : lim = 1099511627776 := rfl
  obtain ⟨w, n, rfl, hw, hn, k⟩ := hT
  refine ⟨_, (pss_cons (ps_set (i := 2) sc__law_word.nd rfl (.inl rfl) pe_str)
      (pss_cons (ps_set (i := 3) sc__law_word.nd rfl (.inl rfl) (pe_call G__law_draw (hr.mono (by first | decide | omega | (simp only [Nat.add_eq, Nat.succ_eq_add_one]; omega))) rfl m__law_draw k__law_draw b__law_draw .nil pass0 (pa_cons (pv 0) (pa_cons (pe_op op_add (pe_callB (id := "len") call_len_str (by rfl) T.b_len (by decide +kernel) (pa_cons (pv 1) pa_nil)) pe_int) pa_nil))))
      (pss_cons (ps_set (i := 4) sc__law_word.nd rfl (.inl rfl) (pe_ix ix_str (pv 2) (pe_call G__law_draw (hr.mono (by first | decide | omega | (simp only [Nat.add_eq, Nat.succ_eq_add_one]; omega))) rfl m__law_draw k__law_draw b__law_draw .nil pass0 (pa_cons (pv 0) (pa_cons (pe_callB (id := "len") call_len_str (by rfl) T.b_len (by decide +kernel) (pa_cons (pv 2) pa_nil)) pa_nil))) (fun _ _ => rfl)))
      (pss_cons (ps_set (i := 5) sc__law_word.nd rfl (.inl rfl) (pe_lst (pa_cons (pe_op op_add_str (pe_op op_add_str (pe_slice sl_str (pv 1) po_none (po_some (pv 3))) (pv 4)) (pe_slice sl_str (pv 1) (po_some (pv 3)) po_none)) (pa_cons (pe_op op_add_str (pe_slice sl_str (pv 1) po_none (po_some (pv 3))) (pe_slice sl_str (pv 1) (po_some (pe_op op_add (pv 3) pe_int)) po_none)) (pa_cons (pe_op op_add_str (pe_op op_add_str (pe_slice sl_str (pv 1) po_none (po_some (pv 3))) (pv 4)) (pe_slice sl_str (pv 1) (po_some (pe_op op_add (pv 3) pe_int)) po_none)) (pa_cons (pe_revS (pv 1)) pa_nil))))))
      (pss_one (ps_ret (pe_call G__law_of (hr.mono (by first | decide | omega | (simp only [Nat.add_eq, Nat.succ_eq_add_one]; omega))) rfl m__law_of k__law_of b__law_of .nil pass0 (pa_cons (pv 0) (pa_cons (pe_op op_cat (pv 5) (pe_lst (pa_cons (pe_dget2 (hu_of hr) (pe_disp (pps_cons pe_str pe_str (pps_cons pe_str pe_str pps_nil)) rfl rfl (by decide) (by decide)) (pv 1) (pv 1) ⟨rfl, rfl, rfl, rfl⟩) (pa_cons pe_str (pa_cons (pe_op op_add_str (pv 1) (pv 1)) pa_nil))))) pa_nil))))))))), ?_⟩
  try dsimp only [cxOf, Cx.nox, Cx.wish, Cx.blk]
  refine enterF hB hf hd (Nat.le_of_ble_eq_true rfl) ?_
  show Nx _ [.fd f0 A, .d (.str w), .any, .any, .any, .any] _
  have hl := hw.ln
  walk_at "dl"
  refine ⟨Sum.inr _, rfl, ?_⟩
  refine eps_cons ?_
  walk_at "dl"
  refine ⟨Sum.inr _, rfl, ?_⟩
  refine eps_nil ?_
  refine ⟨Nat.le_of_ble_eq_true rfl, by decide, fun B2_ p o hB2_ => ?_⟩
  walk_at "dl"
  refine ⟨Sum.inr _, rfl, ?_⟩
  walk_at "dl"
  rename_i d hd
  have hv : ∃ z : Str, Tt (n + 3) z ∧ (valD [(Sum.inr "in", PyData.str "out"), (Sum.inr "out", PyData.str "in")] (Sum.inr w : Key)).getD (.str w) = .str z := by
    unfold valD
    by_cases h1 : w = "in"
    · subst h1
      exact ⟨"out", (show Tt 3 _ from ⟨by decide +kernel, by decide +kernel⟩).mono (by omega), by simp⟩
    · by_cases h2 : w = "out"
      · subst h2
        exact ⟨"in", (show Tt 3 _ from ⟨by decide +kernel, by decide +kernel⟩).mono (by omega), by simp [show ¬ (("in" : Str) = "out") by decide]⟩
      · refine ⟨w, hw.mono (by omega), ?_⟩
        have n1 : ¬ ((Sum.inr "in" : Key) = Sum.inr w) := fun e => h1 (by injection e with e; exact e.symm)
        have n2 : ¬ ((Sum.inr "out" : Key) = Sum.inr w) := fun e => h2 (by injection e with e; exact e.symm)
        simp [n1, n2]
  obtain ⟨z0, hz0, ez⟩ := hv
  rw [ez] at hd
  simp only [List.mem_append, List.mem_cons, List.not_mem_nil, or_false] at hd
  rcases hd with (rfl | rfl | rfl | rfl) | (rfl | rfl | rfl)
  all_goals exact RT rfl (by omega) (k _ (Tt.mono (by walk_at "tx") (by walk_at "le")))
def fB : Nat → Nat → Nat
  | 0, n => 2 * n + 3000
  | k + 1, n => 2 * n + 1 + fB k n
def T_bent (N : Nat) : Tr := fun xs κ => ∃ (x : PyData) (deep : Int) (L n d : Nat), xs = [x, .int deep] ∧ 0 ≤ deep ∧ deep < (N : Int) ∧ Wt L n d x ∧ 1 ≤ L ∧ L ≤ 58 ∧ n ≤ 20000 ∧ ∀ y : PyData, Wt (L + 42) (fB (N - 1) n) (d + 3) y → κ y
theorem fB_ge (n : Nat) : ∀ N, 2 * n + 3000 ≤ fB N n
  | 0 => Nat.le_refl _
  | N + 1 => by have := fB_ge n N; show _ ≤ 2 * n + 1 + fB N n; omega
theorem fB_le {n N : Nat} (hn : n ≤ 20000) (hN : N ≤ 4) : fB N n ≤ 300000 := by
  have h : N = 0 ∨ N = 1 ∨ N = 2 ∨ N = 3 ∨ N = 4 := by omega
  rcases h with rfl | rfl | rfl | rfl | rfl <;> simp only [fB] <;> omega
theorem pow_room (L : Nat) : 10 ^ L + 10000000000 ≤ 10 ^ (L + 41) := by
  have h1 : 0 < 10 ^ L := Nat.pow_pos (by decide)
  have h3 : 10 ^ L + 10000000000 ≤ 10 ^ L * 10000000001 := by
    generalize 10 ^ L = p at h1 ⊢
    omega
  rw [Nat.pow_add]
  exact Nat.le_trans h3 (Nat.mul_le_mul_left _ (by decide +kernel))
theorem okS__law_bent (T : Tx K mg) (N M : Nat) (hN : N + 1 ≤ 4) (hM : 4 ≤ M) (ih : OkD P w K mg base "_law_bent" M ["feed", "thing", "deep"] (spF K 2 (8 + 3 * N) (T_bent N))) : OkD P w K mg base "_law_bent" (M + 1) ["feed", "thing", "deep"] (spF K 2 (8 + 3 * (N + 1)) (T_bent (N + 1))) := by
  obtain ⟨f__law_draw, fd__law_draw, m__law_draw, k__law_draw, b__law_draw, G__law_draw⟩ := ok__law_draw (P := P) (w := w) (base := base) T
  obtain ⟨f__law_odd, fd__law_odd, m__law_odd, k__law_odd, b__law_odd, G__law_odd⟩ := ok__law_odd (P := P) (w := w) (base := base) T
  obtain ⟨f__law_of, fd__law_of, m__law_of, k__law_of, b__law_of, G__law_of⟩ := ok__law_of (P := P) (w := w) (base := base) T
  obtain ⟨f__law_word, fd__law_word, m__law_word, k__law_word, b__law_word, G__law_word⟩ := ok__law_word (P := P) (w := w) (base := base) T
  obtain ⟨f__law_bent, fd__law_bent, m__law_bent, k__law_bent, b__law_bent, G__law_bent⟩ := ih
  obtain ⟨f, fd, F, hm, hb⟩ := T.f__law_bent
  refine ⟨f, fd, hm, F.kp, hb, F.ok sc__law_bent (fun vs H Q E h => spF_len h) (fun cdv A_ outer s H vs Q E hr h => ?_)⟩
  obtain ⟨f0, us, B, xs, κ, A, rfl, hB, hf, hA, hd, hn, hT, hq⟩ := h
  have RT : ∀ {G x A'}, G[0]? = some (Sl.fd f0 A') → A' ≤ A + _ → κ x → Rt (frF K B H f0) G x Q := fun hG hA k => rtF hB hq hG hA k
  have hlim : lim = 1099511627776 := rfl
  obtain ⟨x, deep, L, n, d, rfl, d0, d1, hx, L1, L2, n1, k⟩ := hT
  refine ⟨_, (pss_cons (ps_if (PW.pt (pw_and (pt_val (pe_callB (id := "isinstance") (isi' (K := K) rfl) (by rfl) T.b_isinstance (by decide +kernel) (pa_cons (pv 1) (pa_cons (pe_bltn (v := .ty "tuple") (u := .type "tuple") (by rfl) T.b_tuple (by decide +kernel) rfl) pa_nil)))) (pw_and (pt_cmpR (net0' (K := K) hr.units rfl) (pv 1) (pe_tup pa_nil) (nomark _)) (pw_and (pt_cmpR op_gt (pv 2) pe_int (nomark _)) (pw_and1 (pt_cmpR op_gt (pe_call G__law_draw (hr.mono (by first | decide | omega | (simp only [Nat.add_eq, Nat.succ_eq_add_one]; omega))) rfl m__law_draw k__law_draw b__law_draw .nil pass0 (pa_cons (pv 0) (pa_cons pe_int pa_nil))) pe_int (nomark _)))))))
      (pss_cons (ps_set (i := 3) sc__law_bent.nd rfl (.inl rfl) (pe_call G__law_draw (hr.mono (by first | decide | omega | (simp only [Nat.add_eq, Nat.succ_eq_add_one]; omega))) rfl m__law_draw k__law_draw b__law_draw .nil pass0 (pa_cons (pv 0) (pa_cons (pe_callB (id := "len") (len' (K := K) rfl) (by rfl) T.b_len (by decide +kernel) (pa_cons (pv 1) pa_nil)) pa_nil))))
      (pss_one (ps_ret (pe_op (cata' (K := K) rfl) (pe_op (cata' (K := K) rfl) (pe_slice (slt' (K := K) rfl) (pv 1) po_none (po_some (pv 3))) (pe_tup (pa_cons (pe_call G__law_bent (hr.mono (by first | decide | omega | (simp only [Nat.add_eq, Nat.succ_eq_add_one]; omega))) rfl m__law_bent k__law_bent b__law_bent .nil pass0 (pa_cons (pv 0) (pa_cons (pe_ix (ixt' (K := K) rfl) (pv 1) (pv 3) (fun _ _ => rfl)) (pa_cons (pe_op op_sub (pv 2) pe_int) pa_nil)))) pa_nil))) (pe_slice (slt' (K := K) rfl) (pv 1) (po_some (pe_op op_add (pv 3) pe_int)) po_none)))))
      pss_nil)
      (pss_cons (ps_if (pt_val (pe_callB (id := "isinstance") (isi' (K := K) rfl) (by rfl) T.b_isinstance (by decide +kernel) (pa_cons (pv 1) (pa_cons (pe_bltn (v := .ty "tuple") (u := .type "tuple") (by rfl) T.b_tuple (by decide +kernel) rfl) pa_nil))))
      (pss_cons (ps_set (i := 3) sc__law_bent.nd rfl (.inl rfl) (pe_call G__law_draw (hr.mono (by first | decide | omega | (simp only [Nat.add_eq, Nat.succ_eq_add_one]; omega))) rfl m__law_draw k__law_draw b__law_draw .nil pass0 (pa_cons (pv 0) (pa_cons (pe_op op_add (pe_callB (id := "len") (len' (K := K) rfl) (by rfl) T.b_len (by decide +kernel) (pa_cons (pv 1) pa_nil)) pe_int) pa_nil))))
      (pss_cons (ps_set (i := 4) sc__law_bent.nd rfl (.inl rfl) (pe_lst (pa_cons (pe_callTy (T := "list") (lof' (K := K) rfl) (by rfl) T.b_list (by decide +kernel) (pa_cons (pv 1) pa_nil)) (pa_cons (pe_op (cata' (K := K) rfl) (pe_slice (slt' (K := K) rfl) (pv 1) po_none (po_some (pv 3))) (pe_slice (slt' (K := K) rfl) (pv 1) (po_some (pe_op op_add (pv 3) pe_int)) po_none)) (pa_cons (pe_op (cata' (K := K) rfl) (pe_op (cata' (K := K) rfl) (pe_slice (slt' (K := K) rfl) (pv 1) po_none (po_some (pv 3))) (pe_tup (pa_cons (pe_call G__law_odd (hr.mono (by first | decide | omega | (simp only [Nat.add_eq, Nat.succ_eq_add_one]; omega))) rfl m__law_odd k__law_odd b__law_odd .nil pass0 (pa_cons (pv 0) pa_nil)) pa_nil))) (pe_slice (slt' (K := K) rfl) (pv 1) (po_some (pv 3)) po_none)) (pa_cons (prevT' (K := K) rfl (pv 1)) pa_nil))))))
      (pss_one (ps_ret (pe_call G__law_of (hr.mono (by first | decide | omega | (simp only [Nat.add_eq, Nat.succ_eq_add_one]; omega))) rfl m__law_of k__law_of b__law_of .nil pass0 (pa_cons (pv 0) (pa_cons (pe_op op_cat (pv 4) (pe_lst (pa_cons (pe_tup pa_nil) (pa_cons (pe_tup (pa_cons (pv 1) pa_nil)) (pa_cons (pe_call G__law_odd (hr.mono (by first | decide | omega | (simp only [Nat.add_eq, Nat.succ_eq_add_one]; omega))) rfl m__law_odd k__law_odd b__law_odd .nil pass0 (pa_cons (pv 0) pa_nil)) (pa_cons (pe_op (cata' (K := K) rfl) (pv 1) (pv 1)) pa_nil)))))) pa_nil)))))))
      pss_nil)
      (pss_cons (ps_if (pt_val (pe_callB (id := "isinstance") (isi' (K := K) rfl) (by rfl) T.b_isinstance (by decide +kernel) (pa_cons (pv 1) (pa_cons (pe_bltn (v := .ty "str") (u := .type "str") (by rfl) T.b_str (by decide +kernel) rfl) pa_nil))))
      (pss_one (ps_ret (pe_call G__law_of (hr.mono (by first | decide | omega | (simp only [Nat.add_eq, Nat.succ_eq_add_one]; omega))) rfl m__law_of k__law_of b__law_of .nil pass0 (pa_cons (pv 0) (pa_cons (pe_lst (pa_cons (pe_call G__law_word (hr.mono (by first | decide | omega | (simp only [Nat.add_eq, Nat.succ_eq_add_one]; omega))) rfl m__law_word k__law_word b__law_word .nil pass0 (pa_cons (pv 0) (pa_cons (pv 1) pa_nil))) (pa_cons (pe_call G__law_word (hr.mono (by first | decide | omega | (simp only [Nat.add_eq, Nat.succ_eq_add_one]; omega))) rfl m__law_word k__law_word b__law_word .nil pass0 (pa_cons (pv 0) (pa_cons (pv 1) pa_nil))) (pa_cons (pe_call G__law_odd (hr.mono (by first | decide | omega | (simp only [Nat.add_eq, Nat.succ_eq_add_one]; omega))) rfl m__law_odd k__law_odd b__law_odd .nil pass0 (pa_cons (pv 0) pa_nil)) (pa_cons (pe_tup (pa_cons (pv 1) pa_nil)) pa_nil))))) pa_nil)))))
      pss_nil)
      (pss_cons (ps_if (PW.pt (pw_and (pt_val (pe_callB (id := "isinstance") (isi' (K := K) rfl) (by rfl) T.b_isinstance (by decide +kernel) (pa_cons (pv 1) (pa_cons (pe_bltn (v := .ty "int") (u := .type "int") (by rfl) T.b_int (by decide +kernel) rfl) pa_nil)))) (pw_and1 (pt_not (pt_val (pe_callB (id := "isinstance") (isi' (K := K) rfl) (by rfl) T.b_isinstance (by decide +kernel) (pa_cons (pv 1) (pa_cons (pe_bltn (v := .ty "bool") (u := .type "bool") (by rfl) T.b_bool (by decide +kernel) rfl) pa_nil))))))))
      (pss_cons (ps_set (i := 4) sc__law_bent.nd rfl (.inl rfl) (pe_lst (pa_cons (pe_op op_add (pv 1) pe_int) (pa_cons (pe_op op_sub (pv 1) pe_int) (pa_cons (pe_op op_sub pe_int (pv 1)) (pa_cons (pe_cmpR op_eq (pv 1) pe_int (nomark _)) (pa_cons (pe_callTy (T := "str") call_str_int (by rfl) T.b_str (by decide +kernel) (pa_cons (pv 1) pa_nil)) (pa_cons (pe_tup (pa_cons (pv 1) pa_nil)) (pa_cons (pe_op op_add (pv 1) pe_int) pa_nil)))))))))
      (pss_one (ps_ret (pe_call G__law_of (hr.mono (by first | decide | omega | (simp only [Nat.add_eq, Nat.succ_eq_add_one]; omega))) rfl m__law_of k__law_of b__law_of .nil pass0 (pa_cons (pv 0) (pa_cons (pe_op op_cat (pv 4) (pe_lst (pa_cons (pe_call G__law_odd (hr.mono (by first | decide | omega | (simp only [Nat.add_eq, Nat.succ_eq_add_one]; omega))) rfl m__law_odd k__law_odd b__law_odd .nil pass0 (pa_cons (pv 0) pa_nil)) (pa_cons pe_non pa_nil)))) pa_nil))))))
      pss_nil)
      (pss_one (ps_ret (pe_call G__law_odd (hr.mono (by first | decide | omega | (simp only [Nat.add_eq, Nat.succ_eq_add_one]; omega))) rfl m__law_odd k__law_odd b__law_odd .nil pass0 (pa_cons (pv 0) pa_nil)))))))), ?_⟩
  try dsimp only [cxOf, Cx.nox, Cx.wish, Cx.blk]
  refine enterF hB hf hd (Nat.le_of_ble_eq_true rfl) ?_
  show Nx _ [.fd f0 A, .d x, .d (.int deep), .any, .any] _
  have k : ∀ y : PyData, Wt (L + 42) (fB N n) (d + 3) y → κ y := k
  have hf := fB_ge n N
  cases x with
  | tuple xs =>
    obtain ⟨hd1, hs⟩ := wt_untuple hx
    have hl := ws_len hs
    cases xs with
    | nil =>
      walk_at "dl"
      rename_i y hy
      refine RT rfl (by omega) (k y ?_)
      refine (show AllWt (L + 42) (fB N n) (d + 3) _ from ?_) y hy
      clear hy
      walk_at "allw"
    | cons a r =>
      have hl1 : 1 ≤ ((a :: r).length : Int) := by rw [List.length_cons]; omega
      generalize hxs : a :: r = xs at *
      walk_at "dl"
      · rename_i q q0 q1 hc s s0 s1
        have hN : 1 ≤ N := by omega
        refine rk_ixWtT (L := L) (n := n) (d := d - 1) s0 (by omega) hs fun z hz => ?_
        walk_at "dl"
        have hb1 := fB_le (N := N - 1) n1 (by omega)
        refine ⟨z, _, L, n, d - 1, rfl, by omega, by omega, hz, L1, L2, n1, fun y hy => ?_⟩
        walk_at "dl"
        have e : fB N n = 2 * n + 1 + fB (N - 1) n := by
          obtain ⟨N', rfl⟩ : ∃ N', N = N' + 1 := ⟨N - 1, by omega⟩
          rfl
        exact RT (A' := A + 1 + 1 + (8 + 3 * N)) rfl (by omega) (k _ (by walk_at "wt"))
      all_goals
        rename_i y hy
        refine RT rfl (by omega) (k y ?_)
        refine (show AllWt (L + 42) (fB N n) (d + 3) _ from ?_) y hy
        clear hy
        walk_at "allw"
  | str z =>
    have hz := wt_tt hx
    walk_at "dl"
    refine ⟨z, n, rfl, hz, by omega, fun z1 hz1 => ?_⟩
    walk_at "dl"
    refine ⟨z, n, rfl, hz, by omega, fun z2 hz2 => ?_⟩
    walk_at "dl"
    first
      | (rename_i y hy
         refine RT rfl (by omega) (k y ?_)
         refine (show AllWt (L + 42) (fB N n) (d + 3) _ from ?_) y hy
         clear hy
         walk_at "allw")
      | (refine t_of_wt (L := L + 42) (n := fB N n) (d := d + 3) ?_ (Nat.le_of_ble_eq_true rfl) (Nat.le_of_ble_eq_true rfl) fun y hy => ?_
         · walk_at "allw"
         · exact RT rfl (by omega) (k _ hy))
  | int i =>
    have hi := wt_nat (by omega) hx
    have hp := pow_room L
    have h50 : i.natAbs < 10 ^ 58 := Nat.lt_of_lt_of_le hi (Nat.pow_le_pow_right (by decide) L2)
    have wi : ∀ j : Int, j.natAbs ≤ i.natAbs + 999999360 → Wt (L + 42) (fB N n) (d + 3) (.int j) := fun j hj =>
      (wt_int (k := L + 41) (by omega) (by omega) (by omega)).mono (Nat.le_refl _) (by omega) (by omega)
    have w1 := wi (i + 1) (by omega)
    have w2 := wi (i - 1) (by omega)
    have w3 := wi (0 - i) (by omega)
    have w4 := wi (i + 999999360) (by omega)
    have w6 : Tt 61 (toString i : String) := tx_int (by omega)
    walk_at "dl"
    first
      | (rename_i y hy
         refine RT rfl (by omega) (k y ?_)
         refine (show AllWt (L + 42) (fB N n) (d + 3) _ from ?_) y hy
         clear hy
         walk_at "allw")
      | (refine t_of_wt (L := L + 42) (n := fB N n) (d := d + 3) ?_ (Nat.le_of_ble_eq_true rfl) (Nat.le_of_ble_eq_true rfl) fun y hy => ?_
         · walk_at "allw"
         · exact RT rfl (by omega) (k _ hy))
  | _ =>
    walk_at "dl"
    rename_i y hy
    exact RT rfl (by omega) (k _ (hy.mono (by omega) (by omega) (by omega)))
theorem okR__law_bent (T : Tx K mg) : ∀ N : Nat, N ≤ 4 → OkD P w K mg base "_law_bent" (4 + N) ["feed", "thing", "deep"] (spF K 2 (8 + 3 * N) (T_bent N))
  | 0, _ => by
    obtain ⟨f, fd, F, hm, hb⟩ := T.f__law_bent
    refine ⟨f, fd, hm, F.kp, hb, F.ok sc__law_bent (fun vs H Q E h => spF_len h) (fun cdv A_ outer s H vs Q E hr h => ?_)⟩
    obtain ⟨f0, us, B, xs, κ, A, rfl, hB, hf, hA, hd, hn, hT, hq⟩ := h
    exfalso
    obtain ⟨x, deep, L, n, d, rfl, d0, d1, _⟩ := hT
    omega
  | N + 1, h => okS__law_bent T N _ h (Nat.le_add_right _ _) (okR__law_bent T N (by omega))
theorem ok__law_bent (T : Tx K mg) : OkD P w K mg base "_law_bent" 8 ["feed", "thing", "deep"] (spF K 2 20 (T_bent 4)) := okR__law_bent T 4 (Nat.le_refl _)
def T_lst : Tr := fun xs κ => ∃ x, xs = [x] ∧ κ (.bool (isStampD x))
local macro_rules | `(tactic| walk_at "call") => `(tactic| ((with_reducible show T_lst _ _); refine ⟨_, rfl, ?_⟩))
theorem ok__law_is_stamp (T : Tx K mg) : OkD P w K mg base "_law_is_stamp" 1 ["thing"] (spP K 1 T_lst) := by
  obtain ⟨f, fd, F, hm, hb⟩ := T.f__law_is_stamp
  refine ⟨f, fd, hm, F.kp, hb, F.ok sc__law_is_stamp (fun vs H Q E h => spP_len h) (fun cdv A_ outer s H vs Q E hr h => ?_)⟩
  obtain ⟨B, xs, κ, hB, hd, hn, hT, hq⟩ := h
  have RT : ∀ {G x}, κ x → Rt (frP K B H) G x Q := fun k => rtP hB hq k
  have hlim : lim = 1099511627776 := rfl
  obtain ⟨x, rfl, k⟩ := hT
  refine ⟨_, (pss_cons (ps_if (PW.pt (pw_or (pt_not (pt_val (pe_callB (id := "isinstance") (isi' (K := K) rfl) (by rfl) T.b_isinstance (by decide +kernel) (pa_cons (pv 0) (pa_cons (pe_bltn (v := .ty "tuple") (u := .type "tuple") (by rfl) T.b_tuple (by decide +kernel) rfl) pa_nil))))) (pw_or (pt_cmpR op_ne (pe_callB (id := "len") (len' (K := K) rfl) (by rfl) T.b_len (by decide +kernel) (pa_cons (pv 0) pa_nil)) pe_int (nomark _)) (pw_or1 (pt_not (pt_val (pe_callB (id := "isinstance") (isi' (K := K) rfl) (by rfl) T.b_isinstance (by decide +kernel) (pa_cons (pe_ix (ixt' (K := K) rfl) (pv 0) pe_int (fun _ _ => rfl)) (pa_cons (pe_bltn (v := .ty "str") (u := .type "str") (by rfl) T.b_str (by decide +kernel) rfl) pa_nil)))))))))
      (pss_one (ps_ret pe_bl))
      pss_nil)
      (pss_cons (ps_if (PW.pt (pw_or (pt_not (pt_val (pe_callB (id := "isinstance") (isi' (K := K) rfl) (by rfl) T.b_isinstance (by decide +kernel) (pa_cons (pe_ix (ixt' (K := K) rfl) (pv 0) pe_int (fun _ _ => rfl)) (pa_cons (pe_bltn (v := .ty "int") (u := .type "int") (by rfl) T.b_int (by decide +kernel) rfl) pa_nil))))) (pw_or1 (pt_val (pe_callB (id := "isinstance") (isi' (K := K) rfl) (by rfl) T.b_isinstance (by decide +kernel) (pa_cons (pe_ix (ixt' (K := K) rfl) (pv 0) pe_int (fun _ _ => rfl)) (pa_cons (pe_bltn (v := .ty "bool") (u := .type "bool") (by rfl) T.b_bool (by decide +kernel) rfl) pa_nil)))))))
      (pss_one (ps_ret pe_bl))
      pss_nil)
      (pss_one (ps_ret (pe_and (pe_or (pe_cmpR (eqx' (K := K) (room65 hr) rfl) (pe_ix (ixt' (K := K) rfl) (pv 0) pe_int (fun _ _ => rfl)) pe_str (nomark _)) (pe_one (pe_cmpR (eqx' (K := K) (room65 hr) rfl) (pe_ix (ixt' (K := K) rfl) (pv 0) pe_int (fun _ _ => rfl)) pe_str (nomark _)))) (pe_one (pe_chain op_lt op_lt (pe_un un_neg pe_int) (pe_ix (ixt' (K := K) rfl) (pv 0) pe_int (fun _ _ => rfl)) pe_int))))))), ?_⟩
  try dsimp only [cxOf, Cx.nox, Cx.wish, Cx.blk]
  refine enterP hB hd (Nat.le_of_ble_eq_true rfl) ?_
  show Nx _ [.d x] _
  by_cases h2 : isRowD 2 x = true
  · obtain ⟨w, s, rfl⟩ := isRowD_two h2
    have k : κ (.bool (isTxt ["in", "out"] w && isWithin 0 999999359 s)) := k
    cases w with
    | str z =>
      cases s with
      | int m =>
        have kk : κ (.bool ((isTx (.str z) "in" || isTx (.str z) "out") && (decide (-1 < m) && decide (m < 999999360)))) := by
          have e1 : isTxt ["in", "out"] (.str z) = (isTx (.str z) "in" || isTx (.str z) "out") := by
            show (isTx (.str z) "in" || (isTx (.str z) "out" || false)) = _
            rw [Bool.or_false]
          have e2 : isWithin 0 999999359 (.int m) = (decide (-1 < m) && decide (m < 999999360)) := by
            show (decide (0 ≤ m) && decide (m ≤ 999999359)) = _
            rw [show decide (0 ≤ m) = decide (-1 < m) from decide_eq_decide.mpr (by omega), show decide (m ≤ 999999359) = decide (m < 999999360) from decide_eq_decide.mpr (by omega)]
          rw [← e1, ← e2]
          exact k
        walk_at "dl"
        all_goals first
          | (have hn : ¬ (-1 < m) := by omega
             simp [*] at kk
             exact RT kk)
          | (simp [*] at kk
             exact RT kk)
      | _ =>
        have k0 : κ (.bool false) := by
          revert k
          show κ (.bool (_ && false)) → κ (.bool false)
          intro k
          rwa [Bool.and_false] at k
        walk_at "dl"
        exact RT k0
    | _ =>
      have k0 : κ (.bool false) := k
      clear k
      walk_at "dl"
      exact RT k0
  · have k0 : κ (.bool false) := by rwa [isStampD_no (by simpa using h2)] at k
    cases x with
    | tuple xs =>
      have hx : ¬ ((xs.length : Int) = 2) := fun e => h2 (decide_eq_true e)
      walk_at "dl"
      all_goals first
        | exact RT k0
        | (exfalso; rename_i h; exact hx h)
        | (exfalso; rename_i h _; exact hx h)
    | _ => walk_at "dl"; exact RT k0
def T_owed : Tr := fun xs κ => ∃ ss : List (Str × Int), xs = [.list (ss.map stD)] ∧ ss.length ≤ 60 ∧ (∀ q ∈ ss, q.1 = "in" ∨ q.1 = "out") ∧ ∀ zs, Turns ss zs → κ (.list (zs.map fun q => stD (backP q)))
theorem nodup_len : ∀ {l m : List Int}, l.Nodup → (∀ x ∈ l, x ∈ m) → l.length ≤ m.length
  | [], _, _, _ => Nat.zero_le _
  | x :: l, m, hn, h => by
    have hx := h x List.mem_cons_self
    obtain ⟨n1, n2⟩ := List.nodup_cons.mp hn
    have ih := nodup_len (l := l) (m := m.erase x) n2 fun y hy => (List.mem_erase_of_ne (fun e => n1 (by rw [← e]; exact hy))).mpr (h y (List.mem_cons_of_mem _ hy))
    rw [List.length_erase_of_mem hx] at ih
    have := List.length_pos_of_mem hx
    rw [List.length_cons]
    omega
theorem zs_get {zs : List Int} {i : Nat} {x : PyData} (h : (zs.map PyData.int)[i]? = some x) : ∃ m, zs[i]? = some m ∧ x = .int m := by
  rw [List.getElem?_map] at h
  cases e : zs[i]? with
  | none => rw [e] at h; cases h
  | some q => rw [e] at h; exact ⟨q, rfl, (Option.some.inj h).symm⟩
def T2 (ss : List (Str × Int)) (m : Int) : List (Int × Bool) := ([false, true].filter fun b => decide (backP (m, b) ∈ ss)).map fun b => (m, b)
theorem eqv_st (a b : Str × Int) : PyData.eqv (stD a) (stD b) = decide (a = b) := by
  obtain ⟨w, m⟩ := a
  obtain ⟨v, n⟩ := b
  unfold stD
  rw [Bool.eq_iff_iff]
  simp [PyData.eqv, PyData.eqvAll]
theorem any_st (ss : List (Str × Int)) (r : Str × Int) : ((ss.map stD).any fun z => PyData.eqv z (stD r)) = decide (r ∈ ss) := by
  rw [List.any_map, Bool.eq_iff_iff, List.any_eq_true, decide_eq_true_eq]
  constructor
  · rintro ⟨x, hx, e⟩
    have e : PyData.eqv (stD x) (stD r) = true := e
    rw [eqv_st, decide_eq_true_eq] at e
    exact e ▸ hx
  · intro h
    exact ⟨r, h, by show PyData.eqv (stD r) (stD r) = true; rw [eqv_st, decide_eq_true rfl]⟩
theorem lay_in {n : Nat} : lay n (.str "in") := ⟨by rw [PyData.canLay0]; decide +kernel, by rw [PyData.depth]; omega⟩
theorem lay_out {n : Nat} : lay n (.str "out") := ⟨by rw [PyData.canLay0]; decide +kernel, by rw [PyData.depth]; omega⟩
theorem lay_st {n : Nat} {q : Str × Int} (h : q.1 = "in" ∨ q.1 = "out") : lay (n + 1) (stD q) := by
  unfold stD
  rcases h with h | h <;> rw [h]
  · exact lay_pair lay_in lay_int
  · exact lay_pair lay_out lay_int
theorem turns_of {ss : List (Str × Int)} (hw : ∀ q ∈ ss, q.1 = "in" ∨ q.1 = "out") {zs : List Int} (h1 : zs.Pairwise (· < ·)) (h2 : ∀ j, j ∈ zs ↔ j ∈ ss.map (·.2)) : Turns ss (zs.flatMap (T2 ss)) := by
  refine ⟨?_, fun q => ?_⟩
  · clear h2
    induction zs with
    | nil => exact List.Pairwise.nil
    | cons m r ih =>
      obtain ⟨a, b⟩ := List.pairwise_cons.mp h1
      rw [List.flatMap_cons, List.pairwise_append]
      refine ⟨?_, ih b, fun x hx y hy => ?_⟩
      · unfold T2
        rw [List.pairwise_map]
        refine List.Pairwise.filter _ ?_
        simp [rk2]
      · obtain ⟨n, hn, hy⟩ := List.mem_flatMap.mp hy
        have := a n hn
        unfold T2 at hx hy
        obtain ⟨c, _, rfl⟩ := List.mem_map.mp hx
        obtain ⟨d, _, rfl⟩ := List.mem_map.mp hy
        unfold rk2
        dsimp only
        split <;> split <;> omega
  · rw [List.mem_flatMap]
    constructor
    · rintro ⟨m, hm, hq⟩
      unfold T2 at hq
      obtain ⟨b, hb, rfl⟩ := List.mem_map.mp hq
      have hb := (List.mem_filter.mp hb).2
      rw [decide_eq_true_eq] at hb
      refine List.mem_map.mpr ⟨_, hb, ?_⟩
      unfold turnP backP
      cases b <;> simp <;> decide
    · intro hq
      obtain ⟨s, hs, rfl⟩ := List.mem_map.mp hq
      refine ⟨s.2, (h2 _).mpr (List.mem_map.mpr ⟨s, hs, rfl⟩), ?_⟩
      unfold T2
      refine List.mem_map.mpr ⟨decide (s.1 = "in"), List.mem_filter.mpr ⟨by cases decide (s.1 = ("in" : Str)) <;> simp, ?_⟩, rfl⟩
      rw [decide_eq_true_eq]
      have e : backP (s.2, decide (s.1 = ("in" : Str))) = s := by
        unfold backP
        rcases hw s hs with h | h
        · rw [h]; exact Prod.ext h.symm rfl
        · rw [h]; exact Prod.ext h.symm rfl
      rw [e]
      exact hs
theorem ok__law_owed (T : Tx K mg) : OkD P w K mg base "_law_owed" 1 ["stamps"] (spP K 1 T_owed) := by
  obtain ⟨f, fd, F, hm, hb⟩ := T.f__law_owed
  refine ⟨f, fd, hm, F.kp, hb, F.ok sc__law_owed (fun vs H Q E h => spP_len h) (fun cdv A_ outer s H vs Q E hr h => ?_)⟩
  obtain ⟨B, xs, κ, hB, hd, hn, hT, hq⟩ := h
  have RT : ∀ {G x}, κ x → Rt (frP K B H) G x Q := fun k => rtP hB hq k
  have hlim : lim = 1099511627776 := rfl
  obtain ⟨ss, rfl, hl, hw, k⟩ := hT
  refine ⟨_, (pss_cons (ps_set (i := 1) sc__law_owed.nd rfl (.inl rfl) (pe_lst pa_nil))
      (pss_cons (ps_for PassesOwn.never rfl (plist' (K := K) rfl (pe_callB (id := "sorted") (srtZ' (w := w) rfl rfl) (by rfl) T.b_sorted (by decide +kernel) (pa_cons (pe_callTy (T := "set") (setI' (K := K) (w := w) rfl rfl rfl) (by rfl) T.b_set (by decide +kernel) (pa_cons (pe_lc (own := [("stamp", 3)]) rfl sc__law_owed.nd (plist' (K := K) rfl (pv 0)) (blkOk_by (own := [("stamp", 3)]) (N := ["stamps", "found", "minute", "stamp", "word"]) (sc := defScope s__law_owed) (by decide +kernel)) (fun _ _ _ _ _ => (pg_name (i := 3) sc__law_owed.nd rfl (.inl rfl))) (fun _ _ _ _ _ => pts_nil) (fun _ _ _ _ _ => (pe_ix (ixt' (K := K) rfl) (pv 3) pe_int (fun _ _ => rfl)))) pa_nil)) pa_nil))) (pg_name (i := 2) sc__law_owed.nd rfl (.inr rfl))
      (pss_one (ps_set (i := 1) sc__law_owed.nd rfl (.inl rfl) (pe_op op_cat (pv 1) (pe_lc (own := [("word", 4)]) rfl sc__law_owed.nd (ptup' (K := K) rfl (pe_tup (pa_cons pe_str (pa_cons pe_str pa_nil)))) (blkOk_by (own := [("word", 4)]) (N := ["stamps", "found", "minute", "stamp", "word"]) (sc := defScope s__law_owed) (by decide +kernel)) (fun _ _ _ _ _ => (pg_name (i := 4) sc__law_owed.nd rfl (.inl rfl))) (fun _ _ _ _ _ => (pts_one (pt_cmpR (ind' (K := K) (room65 hr) rfl) (pe_tup (pa_cons (pv 4) (pa_cons (pv 2) pa_nil))) (pv 0) rfl))) (fun _ _ _ _ _ => (pe_tup (pa_cons (pv 4) (pa_cons (pv 2) pa_nil)))))))))
      (pss_one (ps_ret (pv 1))))), ?_⟩
  try dsimp only [cxOf, Cx.nox, Cx.wish, Cx.blk]
  refine enterP hB hd (Nat.le_of_ble_eq_true rfl) ?_
  show Nx _ [.d (.list (ss.map stD)), .any, .any, .any, .any] _
  walk_at "dl"
  refine nx_forLi ?_
  walk_at "dl"
  refine eo_lcL (fun i acc G => acc = ((ss.take i).map (·.2)).map PyData.int ∧ G = [.d (.list (ss.map stD)), .d (.list []), .any, .any, .any]) ?_
  walk_at "dl"
  refine ⟨_, rfl, by rw [List.length_map]; omega, gw_name (by decide), ⟨rfl, rfl⟩, ?_, ?_⟩
  · rintro i v acc _ hv ⟨rfl, rfl⟩ _ B' D ws hB'
    obtain ⟨q, hq, rfl⟩ := st_get hv
    walk_at "dl"
    exact ⟨by rw [take_on (fun q : Str × Int => q.2) hq, List.map_append]; rfl, rfl⟩
  rintro acc _ ⟨rfl, rfl⟩
  rw [List.length_map, List.take_length]
  refine ⟨ss.map (·.2), rfl, by rw [List.length_map]; omega, ?_⟩
  refine ⟨by rw [List.length_map]; omega, fun zs z1 z2 => ?_⟩
  have zl : zs.length ≤ 60 := by
    have z := nodup_len (z1.imp (fun h => Int.ne_of_lt h)) fun j hj => (z2 j).mp hj
    rw [List.length_map] at z
    omega
  have k := k _ (turns_of hw z1 z2)
  refine ⟨_, rfl, fun i G => G = [.d (.list (ss.map stD)), .d (.list (((zs.take i).flatMap (T2 ss)).map fun q => stD (backP q))), .any, .any, .any], rfl, ?_, ?_⟩
  · rintro B' hB' i x _ hx rfl
    obtain ⟨m, hm, rfl⟩ := zs_get hx
    walk_at "dl"
    refine eo_lcT (fun j acc G => acc = (([false, true].take j).filter fun b => decide (backP (m, b) ∈ ss)).map (fun b => stD (backP (m, b))) ∧ G = [.d (.list (ss.map stD)), .d (.list (((zs.take i).flatMap (T2 ss)).map fun q => stD (backP q))), .d (.int m), .any, .any]) ?_
    walk_at "dl"
    refine ⟨_, rfl, by decide, gw_name (by decide), ⟨rfl, rfl⟩, ?_, ?_⟩
    · rintro j v acc _ hv ⟨rfl, rfl⟩ _ B2 D ws hB2
      obtain ⟨b, hb, rfl, ob⟩ : ∃ b, [false, true][j]? = some b ∧ v = .str (backP (m, b)).1 ∧ ((backP (m, b)).1 = "in" ∨ (backP (m, b)).1 = "out") := by
        match j, hv with
        | 0, hv => exact ⟨false, rfl, (Option.some.inj hv).symm, .inr rfl⟩
        | 1, hv => exact ⟨true, rfl, (Option.some.inj hv).symm, .inl rfl⟩
      walk_at "dl"
      refine rk_inDD ⟨_, rfl, (lay_st (n := 0) (q := ((backP (m, b)).1, m)) ob).shaped (by decide), (lay_list (n := 1) fun x hx => by
        obtain ⟨s, hs, rfl⟩ := List.mem_map.mp hx
        exact lay_st (hw s hs)).shaped (by decide), ?_⟩
      rw [show PyData.tuple [.str (backP (m, b)).1, .int m] = stD (backP (m, b)) from rfl, any_st]
      have et : [false, true].take (j + 1) = [false, true].take j ++ [b] := by rw [List.take_add_one, hb]; rfl
      walk_at "dl"
      · rename_i hc
        exact ⟨by rw [et, List.filter_append, List.map_append, List.filter_cons, if_pos (decide_eq_true hc)]; rfl, rfl⟩
      · rename_i hc
        have e0 : ([b].filter fun b => decide (backP (m, b) ∈ ss)) = [] := by
          rw [List.filter_cons]
          exact if_neg (by rw [decide_eq_true_eq]; exact hc)
        exact ⟨by rw [et, List.filter_append, e0, List.append_nil], rfl⟩
    rintro acc _ ⟨rfl, rfl⟩
    have e3 : (([false, true].take [PyData.str "out", .str "in"].length).filter fun b => decide (backP (m, b) ∈ ss)).map (fun b => stD (backP (m, b))) = (T2 ss m).map fun q => stD (backP q) := by
      unfold T2
      rw [List.map_map]
      rfl
    rw [e3]
    have ln : (T2 ss m).length ≤ 2 := by
      unfold T2
      rw [List.length_map]
      exact List.length_filter_le _ _
    have lb : ((zs.take i).flatMap (T2 ss)).length ≤ 2 * i := by
      rw [List.length_flatMap]
      have : ∀ l : List Int, (l.map fun a => (T2 ss a).length).sum ≤ 2 * l.length := by
        intro l
        induction l with
        | nil => exact Nat.le_refl _
        | cons a r ih =>
          have h2 : (T2 ss a).length ≤ 2 := by
            unfold T2
            rw [List.length_map]
            exact List.length_filter_le _ _
          rw [List.map_cons, List.sum_cons, List.length_cons]
          omega
      exact Nat.le_trans (this _) (Nat.mul_le_mul_left 2 (List.length_take_le _ _))
    refine rk_cat ⟨_, _, rfl, rfl, by rw [List.length_map, List.length_map]; have := (List.getElem?_eq_some_iff.mp hm).1; omega, ?_⟩
    walk_at "dl"
    refine nx_wipe [2] ?_
    refine nx_inv ?_
    have et : (zs.take (i + 1)).flatMap (T2 ss) = (zs.take i).flatMap (T2 ss) ++ T2 ss m := by
      rw [List.take_add_one, hm, List.flatMap_append]
      show _ ++ ([m].flatMap (T2 ss)) = _
      rw [List.flatMap_cons, List.flatMap_nil, List.append_nil]
    dsimp only
    rw [et, List.map_append]
    rfl
  · rintro _ rfl
    rw [List.length_map, List.take_length]
    walk_at "dl"
    exact RT k
local macro_rules | `(tactic| walk_at "dl1") => `(tactic| ((with_reducible refine ek_isiO ?_); (refine ⟨_, _, (show _ = some (Sl.own _ _) from rfl), _, (show kitB _ _ = some _ from rfl), ?_⟩)))
local macro_rules | `(tactic| walk_at "dl1") => `(tactic| ((with_reducible refine ek_reprO (n := 10000) (d := 5) (by decide) (by decide) ?_); (refine ⟨_, _, (show _ = some (Sl.own _ _) from rfl), ?_, ?_⟩)))
structure StOk (q : Str × Int) : Prop where
  w : q.1 = "in" ∨ q.1 = "out"
  m0 : 0 ≤ q.2
  m1 : q.2 ≤ 999999359
theorem snocSt (ss : List (Str × Int)) (q : Str × Int) : ss.map stD ++ [stD q] = (ss ++ [q]).map stD := by rw [List.map_append]; rfl
theorem lay_sts {n : Nat} {ss : List (Str × Int)} (h : ∀ q ∈ ss, StOk q) : lay (n + 2) (.list (ss.map stD)) := lay_list fun x hx => by
  obtain ⟨s, hs, rfl⟩ := List.mem_map.mp hx
  exact lay_st (h s hs).w
theorem eqv_nil0 (ds : List PyData) : PyData.eqv (.list ds) (.list []) = ds.isEmpty := by cases ds <;> simp [PyData.eqv, PyData.eqvAll]
theorem cutD_hi (ds : List PyData) (a : Nat) (h : a ≤ ds.length) : cutD ds (some (a : Int)) none = ds.drop a := by
  unfold cutD
  have e1 : HT.sIx ds.length ds.length none = ds.length := rfl
  have e2 : HT.sIx ds.length 0 (some (a : Int)) = a := by
    unfold HT.sIx
    simp only [Option.getD]
    split <;> omega
  rw [e1, e2, List.take_of_length_le (by rw [List.length_drop]; omega)]
theorem cutD_lo (ds : List PyData) (a : Nat) (h : a ≤ ds.length) : cutD ds none (some (a : Int)) = ds.take a := by
  unfold cutD
  have e1 : HT.sIx ds.length 0 none = 0 := rfl
  have e2 : HT.sIx ds.length ds.length (some (a : Int)) = a := by
    unfold HT.sIx
    simp only [Option.getD]
    split <;> omega
  rw [e1, e2, List.drop_zero, Nat.sub_zero]
theorem cutD_lo3 (ds : List PyData) : cutD ds none (some (3 : Int)) = ds.take 3 := by
  unfold cutD
  have e1 : HT.sIx ds.length 0 none = 0 := rfl
  have e2 : HT.sIx ds.length ds.length (some (3 : Int)) = min 3 ds.length := HT.sIx_nat _ _ 3
  rw [e1, e2, List.drop_zero, Nat.sub_zero]
  rcases Nat.le_total 3 ds.length with h | h
  · rw [Nat.min_eq_left h]
  · rw [Nat.min_eq_right h, List.take_of_length_le h, List.take_of_length_le (Nat.le_refl _)]
/-- the same stamps, laid otherwise -/
def Same (ss vs : List (Str × Int)) : Prop := vs.length ≤ 80 ∧ ∀ q, q ∈ vs ↔ q ∈ ss
theorem Same.turns {ss vs : List (Str × Int)} (h : Same ss vs) {zs : List (Int × Bool)} (z : Turns vs zs) : Turns ss zs := by
  refine ⟨z.1, fun q => (z.2 q).trans ?_⟩
  rw [List.mem_map, List.mem_map]
  exact ⟨fun ⟨x, hx, e⟩ => ⟨x, (h.2 x).mp hx, e⟩, fun ⟨x, hx, e⟩ => ⟨x, (h.2 x).mpr hx, e⟩⟩
theorem ok_law (T : Tx K mg) {f : Addr} {fd : FuncData} (F : Fun K "law" "law" s_law f fd) : FnG P w K mg base CX0 9 f fd ["script"] (spLaw K ) := by
  obtain ⟨f__law_feed, fd__law_feed, m__law_feed, k__law_feed, b__law_feed, G__law_feed⟩ := ok__law_feed (P := P) (w := w) (base := base) T
  obtain ⟨f__law_of, fd__law_of, m__law_of, k__law_of, b__law_of, G__law_of⟩ := ok__law_of (P := P) (w := w) (base := base) T
  obtain ⟨f__law_draw, fd__law_draw, m__law_draw, k__law_draw, b__law_draw, G__law_draw⟩ := ok__law_draw (P := P) (w := w) (base := base) T
  obtain ⟨f__law_minute, fd__law_minute, m__law_minute, k__law_minute, b__law_minute, G__law_minute⟩ := ok__law_minute (P := P) (w := w) (base := base) T
  obtain ⟨f__law_owed, fd__law_owed, m__law_owed, k__law_owed, b__law_owed, G__law_owed⟩ := ok__law_owed (P := P) (w := w) (base := base) T
  obtain ⟨f_in_order, fd_in_order, m_in_order, k_in_order, b_in_order, G_in_order⟩ := ok_in_order (P := P) (w := w) (base := base) T
  obtain ⟨f__law_bent, fd__law_bent, m__law_bent, k__law_bent, b__law_bent, G__law_bent⟩ := ok__law_bent (P := P) (w := w) (base := base) T
  obtain ⟨f_is_stamp, fd_is_stamp, m_is_stamp, k_is_stamp, b_is_stamp, G_is_stamp⟩ := ok_is_stamp (P := P) (w := w) (base := base) T
  obtain ⟨f__law_is_stamp, fd__law_is_stamp, m__law_is_stamp, k__law_is_stamp, b__law_is_stamp, G__law_is_stamp⟩ := ok__law_is_stamp (P := P) (w := w) (base := base) T
  obtain ⟨f__law_of_r, fd__law_of_r, m__law_of_r, k__law_of_r, b__law_of_r, G__law_of_r⟩ := ok__law_of_r (P := P) (w := w) (base := base) T
  refine okG F sc_law (fun vs H Q E h => spLaw_len h) (fun cdv A_ outer s H vs Q E hr hgu h => ?_)
  obtain ⟨a, ns, rfl, hS, hns, hq⟩ := h
  have RT : ∀ {G}, Rt (frP K H H) G (.bool true) Q := rtLaw hq
  have hlim : lim = 1099511627776 := rfl
  refine ⟨_, (pss_cons (ps_own (ps_set (i := 1) sc_law.nd rfl (.inl rfl) (pe_call G__law_feed (hr.mono (by first | decide | omega | (simp only [Nat.add_eq, Nat.succ_eq_add_one]; omega))) rfl m__law_feed k__law_feed b__law_feed .nil pass0 (pa_cons (pv 0) pa_nil))))
      (pss_cons (ps_set (i := 2) sc_law.nd rfl (.inl rfl) (pe_call G__law_of (hr.mono (by first | decide | omega | (simp only [Nat.add_eq, Nat.succ_eq_add_one]; omega))) rfl m__law_of k__law_of b__law_of .nil pass0 (pa_cons (pv 1) (pa_cons (pe_lst (pa_cons pe_int (pa_cons pe_int (pa_cons (pe_op op_add (pe_op op_mul pe_int (pe_call G__law_draw (hr.mono (by first | decide | omega | (simp only [Nat.add_eq, Nat.succ_eq_add_one]; omega))) rfl m__law_draw k__law_draw b__law_draw .nil pass0 (pa_cons (pv 1) (pa_cons pe_int pa_nil)))) (pe_call G__law_draw (hr.mono (by first | decide | omega | (simp only [Nat.add_eq, Nat.succ_eq_add_one]; omega))) rfl m__law_draw k__law_draw b__law_draw .nil pass0 (pa_cons (pv 1) (pa_cons pe_int pa_nil)))) (pa_cons pe_int pa_nil))))) pa_nil))))
      (pss_cons (ps_own (ps_set (i := 3) sc_law.nd rfl (.inl rfl) (pe_lst pa_nil)))
      (pss_cons (ps_for PassesOwn.never rfl (pi_range1 rfl T.b_range (pa_cons (pe_call G__law_draw (hr.mono (by first | decide | omega | (simp only [Nat.add_eq, Nat.succ_eq_add_one]; omega))) rfl m__law_draw k__law_draw b__law_draw .nil pass0 (pa_cons (pv 1) (pa_cons pe_int pa_nil))) pa_nil)) (pg_name (i := 4) sc_law.nd rfl (.inl rfl))
      (pss_cons (ps_set (i := 5) sc_law.nd rfl (.inl rfl) (pe_tup (pa_cons (pe_call G__law_of (hr.mono (by first | decide | omega | (simp only [Nat.add_eq, Nat.succ_eq_add_one]; omega))) rfl m__law_of k__law_of b__law_of .nil pass0 (pa_cons (pv 1) (pa_cons (pe_lst (pa_cons pe_str (pa_cons pe_str pa_nil))) pa_nil))) (pa_cons (pe_call G__law_minute (hr.mono (by first | decide | omega | (simp only [Nat.add_eq, Nat.succ_eq_add_one]; omega))) rfl m__law_minute k__law_minute b__law_minute .nil pass0 (pa_cons (pv 1) (pa_cons (pv 2) pa_nil))) pa_nil))))
      (C8.pss_cut (ps_if (PW.pt (pw_and (pt_cmpR (ned' (K := K) hr.units rfl) (pv 3) (pe_lst pa_nil) (nomark _)) (pw_and1 (pt_cmpR op_eq (pe_call G__law_draw (hr.mono (by first | decide | omega | (simp only [Nat.add_eq, Nat.succ_eq_add_one]; omega))) rfl m__law_draw k__law_draw b__law_draw .nil pass0 (pa_cons (pv 1) (pa_cons pe_int pa_nil))) pe_int (nomark _)))))
      (pss_cons (ps_set (i := 5) sc_law.nd rfl (.inl rfl) (pe_call G__law_of_r (hr.mono (by first | decide | omega | (simp only [Nat.add_eq, Nat.succ_eq_add_one]; omega))) rfl m__law_of_r k__law_of_r b__law_of_r .nil pass0 (pa_cons (pv 1) (pa_cons (pv 3) pa_nil))))
      (pss_one (ps_set (i := 5) sc_law.nd rfl (.inl rfl) (pe_tup (pa_cons (pe_call G__law_of (hr.mono (by first | decide | omega | (simp only [Nat.add_eq, Nat.succ_eq_add_one]; omega))) rfl m__law_of k__law_of b__law_of .nil pass0 (pa_cons (pv 1) (pa_cons (pe_lst (pa_cons pe_str (pa_cons pe_str pa_nil))) pa_nil))) (pa_cons (pe_ix (ixt' (K := K) rfl) (pv 5) pe_int (fun _ _ => rfl)) pa_nil))))))
      pss_nil)
      (pss_one (ps_expr (pe_bm PySem.F.plainAttrs_list PySem.F.slot_list_append PySem.F.type_list_append mt_append (pv 3) (pa_cons (pv 5) pa_nil)))))))
      (pss_cons (ps_set (i := 6) sc_law.nd rfl (.inl rfl) (pe_call G__law_owed (hr.mono (by first | decide | omega | (simp only [Nat.add_eq, Nat.succ_eq_add_one]; omega))) rfl m__law_owed k__law_owed b__law_owed .nil pass0 (pa_cons (pv 3) pa_nil)))
      (pss_cons (ps_set (i := 7) sc_law.nd rfl (.inl rfl) (pe_call G__law_draw (hr.mono (by first | decide | omega | (simp only [Nat.add_eq, Nat.succ_eq_add_one]; omega))) rfl m__law_draw k__law_draw b__law_draw .nil pass0 (pa_cons (pv 1) (pa_cons (pe_op op_add (pe_callB (id := "len") (len' (K := K) rfl) (by rfl) T.b_len (by decide +kernel) (pa_cons (pv 3) pa_nil)) pe_int) pa_nil))))
      (pss_cons (ps_for PassesOwn.never rfl (plist' (K := K) rfl (pe_lst (pa_cons (pv 3) (pa_cons (prevL' (K := K) rfl (pv 3)) (pa_cons (pe_op op_cat (pe_slice (sll' (K := K) rfl) (pv 3) (po_some (pv 7)) po_none) (pe_slice (sll' (K := K) rfl) (pv 3) po_none (po_some (pv 7)))) (pa_cons (pe_op op_cat (pv 3) (pv 3)) pa_nil)))))) (pg_name (i := 8) sc_law.nd rfl (.inl rfl))
      (pss_cons (ps_set (i := 9) sc_law.nd rfl (.inl rfl) (pe_callTy (T := "list") (lof' (K := K) rfl) (by rfl) T.b_list (by decide +kernel) (pa_cons (pv 8) pa_nil)))
      (pss_cons (ps_own (ps_set (i := 10) sc_law.nd rfl (.inl rfl) (pe_call G_in_order (hr.mono (by first | decide | omega | (simp only [Nat.add_eq, Nat.succ_eq_add_one]; omega))) rfl m_in_order k_in_order b_in_order .nil pass0 (pa_cons (pv 9) pa_nil))))
      (pss_cons (ps_if (PW.pt (pw_or (pt_not (pt_val (pe_callB (id := "isinstance") (isi' (K := K) rfl) (by rfl) T.b_isinstance (by decide +kernel) (pa_cons (pv 10) (pa_cons (pe_bltn (v := .ty "list") (u := .type "list") (by rfl) T.b_list (by decide +kernel) rfl) pa_nil))))) (pw_or (pt_cmpR op_ne (pe_callB (id := "repr") (callR' (K := K) rfl hgu hr.units) (by rfl) T.b_repr (by decide +kernel) (pa_cons (pv 10) pa_nil)) (pe_callB (id := "repr") (callR' (K := K) rfl hgu hr.units) (by rfl) T.b_repr (by decide +kernel) (pa_cons (pv 6) pa_nil)) (nomark _)) (pw_or1 (pt_cmpR (ned' (K := K) hr.units rfl) (pv 9) (pv 8) (nomark _))))))
      (pss_one (ps_ret pe_bl))
      pss_nil)
      (pss_cons (ps_expr (pe_bm0 PySem.F.plainAttrs_list PySem.F.slot_list_clear PySem.F.type_list_clear mt_clear (pv 10)))
      (pss_one (ps_if (pt_cmpR op_ne (pe_callB (id := "repr") (callR' (K := K) rfl hgu hr.units) (by rfl) T.b_repr (by decide +kernel) (pa_cons (pe_call G_in_order (hr.mono (by first | decide | omega | (simp only [Nat.add_eq, Nat.succ_eq_add_one]; omega))) rfl m_in_order k_in_order b_in_order .nil pass0 (pa_cons (pv 9) pa_nil)) pa_nil)) (pe_callB (id := "repr") (callR' (K := K) rfl hgu hr.units) (by rfl) T.b_repr (by decide +kernel) (pa_cons (pv 6) pa_nil)) (nomark _))
      (pss_one (ps_ret pe_bl))
      pss_nil)))))))
      (pss_cons (ps_own (ps_set (i := 11) sc_law.nd rfl (.inl rfl) (pe_op op_cat (pe_slice (sll' (K := K) rfl) (pv 3) po_none (po_some pe_int)) (pe_lst (pa_cons pe_non (pa_cons pe_bl (pa_cons pe_int (pa_cons pe_str (pa_cons pe_str (pa_cons (pe_tup pa_nil) (pa_cons (pe_lst pa_nil) (pa_cons (pe_tup (pa_cons pe_str pa_nil)) (pa_cons (pe_tup (pa_cons pe_str (pa_cons pe_int (pa_cons pe_int pa_nil)))) (pa_cons (pe_tup (pa_cons pe_str (pa_cons pe_bl pa_nil))) (pa_cons (pe_tup (pa_cons pe_str (pa_cons pe_bl pa_nil))) pa_nil)))))))))))))))
      (pss_cons (ps_own (ps_set (i := 11) sc_law.nd rfl (.inl rfl) (pe_op op_cat (pv 11) (pe_lst (pa_cons (pe_tup (pa_cons pe_str (pa_cons pe_int pa_nil))) (pa_cons (pe_tup (pa_cons pe_str (pa_cons pe_int pa_nil))) (pa_cons (pe_tup (pa_cons pe_str (pa_cons (pe_un un_neg pe_int) pa_nil))) (pa_cons (pe_tup (pa_cons pe_str (pa_cons pe_str pa_nil))) (pa_cons (pe_tup (pa_cons pe_int (pa_cons pe_str pa_nil))) (pa_cons (pe_lst (pa_cons pe_str (pa_cons pe_int pa_nil))) pa_nil))))))))))
      (pss_cons (ps_set (i := 12) sc_law.nd rfl (.inl rfl) (pe_tup (pa_cons (pe_call G__law_of (hr.mono (by first | decide | omega | (simp only [Nat.add_eq, Nat.succ_eq_add_one]; omega))) rfl m__law_of k__law_of b__law_of .nil pass0 (pa_cons (pv 1) (pa_cons (pe_lst (pa_cons pe_str (pa_cons pe_str pa_nil))) pa_nil))) (pa_cons (pe_call G__law_minute (hr.mono (by first | decide | omega | (simp only [Nat.add_eq, Nat.succ_eq_add_one]; omega))) rfl m__law_minute k__law_minute b__law_minute .nil pass0 (pa_cons (pv 1) (pa_cons (pv 2) pa_nil))) pa_nil))))
      (pss_cons (ps_for PassesOwn.never rfl (pi_range1 rfl T.b_range (pa_cons pe_int pa_nil)) (pg_name (i := 4) sc_law.nd rfl (.inl rfl))
      (pss_cons (ps_set (i := 13) sc_law.nd rfl (.inl rfl) (pe_call G__law_bent (hr.mono (by first | decide | omega | (simp only [Nat.add_eq, Nat.succ_eq_add_one]; omega))) rfl m__law_bent k__law_bent b__law_bent .nil pass0 (pa_cons (pv 1) (pa_cons (pv 12) (pa_cons pe_int pa_nil)))))
      (C8.pss_cut (ps_if (pt_cmpR op_gt (pv 4) pe_int (nomark _))
      (pss_one (ps_set (i := 13) sc_law.nd rfl (.inl rfl) (pe_call G__law_bent (hr.mono (by first | decide | omega | (simp only [Nat.add_eq, Nat.succ_eq_add_one]; omega))) rfl m__law_bent k__law_bent b__law_bent .nil pass0 (pa_cons (pv 1) (pa_cons (pv 13) (pa_cons pe_int pa_nil))))))
      pss_nil)
      (pss_one (ps_expr (pe_bm PySem.F.plainAttrs_list PySem.F.slot_list_append PySem.F.type_list_append mt_append (pv 11) (pa_cons (pv 13) pa_nil)))))))
      (pss_cons (ps_for PassesOwn.never rfl (plist' (K := K) rfl (pe_op op_cat (pv 11) (pe_lst (pa_cons (pv 12) pa_nil)))) (pg_name (i := 13) sc_law.nd rfl (.inl rfl))
      (pss_cons (ps_set (i := 14) sc_law.nd rfl (.inl rfl) (pe_callB (id := "repr") (callR' (K := K) rfl hgu hr.units) (by rfl) T.b_repr (by decide +kernel) (pa_cons (pv 13) pa_nil)))
      (pss_one (ps_if (PW.pt (pw_or (pt_cmpR (ned' (K := K) hr.units rfl) (pe_lst (pa_cons (pe_callB (id := "repr") (callR' (K := K) rfl hgu hr.units) (by rfl) T.b_repr (by decide +kernel) (pa_cons (pe_call G_is_stamp (hr.mono (by first | decide | omega | (simp only [Nat.add_eq, Nat.succ_eq_add_one]; omega))) rfl m_is_stamp k_is_stamp b_is_stamp .nil pass0 (pa_cons (pv 13) pa_nil)) pa_nil)) (pa_cons (pe_callB (id := "repr") (callR' (K := K) rfl hgu hr.units) (by rfl) T.b_repr (by decide +kernel) (pa_cons (pe_call G_is_stamp (hr.mono (by first | decide | omega | (simp only [Nat.add_eq, Nat.succ_eq_add_one]; omega))) rfl m_is_stamp k_is_stamp b_is_stamp .nil pass0 (pa_cons (pv 13) pa_nil)) pa_nil)) pa_nil))) (pe_op op_rep (pe_lst (pa_cons (pe_callB (id := "repr") (callR' (K := K) rfl hgu hr.units) (by rfl) T.b_repr (by decide +kernel) (pa_cons (pe_call G__law_is_stamp (hr.mono (by first | decide | omega | (simp only [Nat.add_eq, Nat.succ_eq_add_one]; omega))) rfl m__law_is_stamp k__law_is_stamp b__law_is_stamp .nil pass0 (pa_cons (pv 13) pa_nil)) pa_nil)) pa_nil)) pe_int) (nomark _)) (pw_or1 (pt_cmpR op_ne (pe_callB (id := "repr") (callR' (K := K) rfl hgu hr.units) (by rfl) T.b_repr (by decide +kernel) (pa_cons (pv 13) pa_nil)) (pv 14) (nomark _)))))
      (pss_one (ps_ret pe_bl))
      pss_nil))))
      (pss_one (ps_ret pe_bl)))))))))))))), ?_⟩
  try dsimp only [cxOf, Cx.nox, Cx.wish, Cx.blk]
  refine enterL (Ex.refl _) hS (Nat.le_of_ble_eq_true rfl) ?_
  show Nx _ [.scr a ns, .any, .any, .any, .any, .any, .any, .any, .any, .any, .any, .any, .any, .any, .any] _
  refine nx_seq ?_
  refine nx_callMk rfl hns (Nat.le_of_ble_eq_true rfl) fun p_ => ?_
  dsimp only
  walk_at "dl"
  rename_i x x0 x1 y y0 y1 near hnear q
  have near0 : 0 ≤ near := by omega
  clear hnear x0 x1 y0 y1
  refine nx_forR (fun i G => ∃ (A' : Nat) (ss : List (Str × Int)), A' ≤ 10 + 20 * i ∧ ss.length = i ∧ (∀ q ∈ ss, StOk q) ∧ G = [.scr a ns, .fd p_ A', .d (.int near), .own q (ss.map stD), .any, .any, .any, .any, .any, .any, .any, .any, .any, .any, .any]) ?_
  walk_at "dl"
  rename_i r r0 r1
  refine ⟨_, rfl, by omega, by omega, ⟨_, [], by omega, rfl, (fun q hq => nomatch hq), rfl⟩, ?_, ?_⟩
  · rintro i _ hi ⟨A', ss, hA', hl, hok, rfl⟩
    walk_at "dl"
    rename_i w hw m m0 m1
    obtain ⟨s0, rfl, hs0⟩ : ∃ s0 : Str, w = .str s0 ∧ (s0 = "in" ∨ s0 = "out") := by
      simp only [List.mem_cons, List.not_mem_nil, or_false] at hw
      rcases hw with rfl | rfl
      · exact ⟨_, rfl, .inl rfl⟩
      · exact ⟨_, rfl, .inr rfl⟩
    clear hw
    refine nx_cut (fun G => ∃ (A2 : Nat) (st : Str × Int), A2 ≤ A' + 12 ∧ StOk st ∧ G = [.scr a ns, .fd p_ A2, .d (.int near), .own q (ss.map stD), .d (.int i), .d (stD st), .any, .any, .any, .any, .any, .any, .any, .any, .any]) ?_ ?_
    · walk_at "dl"
      refine ⟨(lay_sts (n := 0) hok).shaped (by decide), (lay_list (n := 0) fun x hx => by cases hx).shaped (by decide), ?_⟩
      rw [eqv_nil0]
      walk_at "dl"
      · rename_i hne f f0 f1 ff
        have hp : 1 ≤ (ss.map stD).length := by
          cases ss with
          | nil => cases hne
          | cons => rw [List.map_cons, List.length_cons]; omega
        refine ⟨hp, by rw [List.length_map]; omega, fun d hd => ?_⟩
        obtain ⟨st, hst, rfl⟩ := List.mem_map.mp hd
        have ok := hok st hst
        walk_at "dl"
        rename_i e he
        simp only [List.mem_cons, List.not_mem_nil, or_false] at he
        rcases he with rfl | rfl
        · exact nx_inv ⟨_, ("in", st.2), by omega, ⟨.inl rfl, ok.m0, ok.m1⟩, rfl⟩
        · exact nx_inv ⟨_, ("out", st.2), by omega, ⟨.inr rfl, ok.m0, ok.m1⟩, rfl⟩
      · exact nx_inv ⟨_, (s0, m), by omega, ⟨hs0, m0, m1⟩, rfl⟩
      · exact nx_inv ⟨_, (s0, m), by omega, ⟨hs0, m0, m1⟩, rfl⟩
    rintro _ ⟨A2, st, hA2, hst, rfl⟩
    walk_at "dl"
    rw [snocSt]
    refine nx_wipe [4, 5] ?_
    refine nx_inv ⟨A2, ss ++ [st], by omega, by rw [List.length_append]; exact congrArg (· + 1) hl, fun u hu => ?_, rfl⟩
    rcases List.mem_append.mp hu with hu | hu
    · exact hok u hu
    · rw [List.mem_singleton.mp hu]; exact hst
  rintro _ ⟨A', ss, hA', hl, hok, rfl⟩
  have hl40 : ss.length ≤ 40 := by omega
  refine nx_freeze (i := 3) rfl ?_
  walk_at "dl"
  refine ⟨ss, rfl, by omega, fun u hu => (hok u hu).w, fun zs hzs => ?_⟩
  walk_at "dl"
  rename_i c c0 c1
  have shz : Sh 10000 5 (.list (zs.map fun q => stD (backP q))) := by
    have one : ∀ x ∈ zs.map (fun q => stD (backP q)), Sh 200 1 x := fun x hx => by
      obtain ⟨q, hq, rfl⟩ := List.mem_map.mp hx
      obtain ⟨s, hs, e⟩ := List.mem_map.mp ((hzs.2 q).mp hq)
      have ok := hok s hs
      rw [← e]
      have w8 : Tt 8 (backP (turnP s)).1 := by
        have z : ∀ q : Int × Bool, (backP q).1 = "in" ∨ (backP q).1 = "out" := fun q => by
          unfold backP
          split
          · exact .inl rfl
          · exact .inr rfl
        rcases z (turnP s) with h | h <;> rw [h] <;> exact ⟨by decide +kernel, by decide +kernel⟩
      have m8 : (backP (turnP s)).2.natAbs < 10 ^ 60 := by
        show s.2.natAbs < 10 ^ 60
        have := ok.m0
        have := ok.m1
        omega
      unfold stD
      walk_at "sh"
    have zl : zs.length ≤ 40 := by
      have nd : (zs.map kk2).Nodup := by
        refine List.pairwise_map.mpr (hzs.1.imp fun {p r} h e => ?_)
        rw [kk2_inj e] at h
        omega
      have z := nodup_le (m := (ss.map turnP).map kk2) nd fun x hx => by
        obtain ⟨q, hq, rfl⟩ := List.mem_map.mp hx
        exact List.mem_map.mpr ⟨q, (hzs.2 q).mp hq, rfl⟩
      rw [List.length_map, List.length_map, List.length_map] at z
      omega
    exact (sh_list one (m := 40) (by rw [List.length_map]; exact zl)).mono (by decide) (by decide)
  refine nx_forLi ?_
  walk_at "dl"
  obtain ⟨c, rfl⟩ : ∃ n : Nat, c = n := ⟨c.toNat, by omega⟩
  rw [cutD_hi _ c (by rw [List.length_map]; omega), cutD_lo _ c (by rw [List.length_map]; omega), ← List.map_drop, ← List.map_take]
  refine rk_cat ⟨_, _, rfl, rfl, by rw [List.length_map, List.length_map, List.length_drop, List.length_take]; omega, ?_⟩
  rw [← List.map_append]
  walk_at "dl"
  rw [← List.map_reverse, ← List.map_append (l₁ := ss) (l₂ := ss)]
  have sm : ∀ vs ∈ [ss, ss.reverse, ss.drop c ++ ss.take c, ss ++ ss], Same ss vs := fun vs hv => by
    simp only [List.mem_cons, List.not_mem_nil, or_false] at hv
    rcases hv with rfl | rfl | rfl | rfl
    · exact ⟨by omega, fun q => Iff.rfl⟩
    · exact ⟨by rw [List.length_reverse]; omega, fun q => List.mem_reverse⟩
    · refine ⟨by rw [List.length_append, List.length_drop, List.length_take]; omega, fun q => ?_⟩
      rw [List.mem_append, Or.comm, ← List.mem_append, List.take_append_drop]
    · exact ⟨by rw [List.length_append]; omega, fun q => by rw [List.mem_append, or_self]⟩
  refine ⟨_, rfl, fun j G => G = [.scr a ns, .fd p_ (A' + 1), .d (.int near), .d (.list (ss.map stD)), .any, .any, .d (.list (zs.map fun q => stD (backP q))), .d (.int c), .any, .any, .any, .any, .any, .any, .any], ?_, ?_, ?_⟩
  · rfl
  · rintro B2 hB2 j x _ hx rfl
    obtain ⟨vs, hvs, rfl⟩ : ∃ vs ∈ [ss, ss.reverse, ss.drop c ++ ss.take c, ss ++ ss], x = .list (vs.map stD) := by
      have hx := List.mem_of_getElem? hx
      simp only [List.mem_cons, List.not_mem_nil, or_false] at hx ⊢
      rcases hx with rfl | rfl | rfl | rfl
      · exact ⟨_, .inl rfl, rfl⟩
      · exact ⟨_, .inr (.inl rfl), rfl⟩
      · exact ⟨_, .inr (.inr (.inl rfl)), rfl⟩
      · exact ⟨_, .inr (.inr (.inr rfl)), rfl⟩
    have hS := sm vs hvs
    have tel : ∀ κ : List PyData → Prop, κ (zs.map fun q => stD (backP q)) → T_order [.list (vs.map stD)] κ := fun κ k =>
      ⟨vs, ss.map turnP, rfl, by have := hS.1; omega, by rw [List.length_map]; omega, fun q hq => List.mem_map.mpr ⟨q, (hS.2 q).mp hq, rfl⟩, fun ys hy _ => by rw [(hS.turns hy).one hzs]; exact k⟩
    walk_at "dl"
    refine tel _ ?_
    walk_at "dl"
    · exact shz
    refine rk_neS (lay_sts (n := 0) fun q hq => hok q ((hS.2 q).mp hq)) (by decide) ?_
    walk_at "dl"
    · refine tel _ ?_
      walk_at "dl"
      · rename_i h
        exact absurd trivial h
      refine nx_wipe [8, 9, 10] ?_
      exact nx_inv rfl
    · rename_i h _
      exact absurd trivial h
  rintro _ rfl
  walk_at "dl"
  rw [cutD_lo3, ← List.map_take]
  have l3 : ((ss.take 3).map stD).length ≤ 3 := by rw [List.length_map]; exact List.length_take_le _ _
  refine ⟨_, _, rfl, rfl, ?_, ?_⟩
  · exact Nat.le_trans (Nat.add_le_add_right l3 _) (Nat.le_of_ble_eq_true rfl)
  have w8 : ∀ q : Str × Int, StOk q → Wt 13 70 1 (stD q) := fun q hq => by
    have wt : Tt 8 q.1 := by rcases hq.w with h | h <;> rw [h] <;> exact ⟨by decide +kernel, by decide +kernel⟩
    have := hq.m0
    have := hq.m1
    unfold stD
    walk_at "wt"
  have w3 : AllWt 97 50000 9 ((ss.take 3).map stD) := fun x hx => by
    obtain ⟨q, hq, rfl⟩ := List.mem_map.mp hx
    exact (w8 q (hok q (List.mem_of_mem_take hq))).mono (by decide) (by decide) (by decide)
  generalize (ss.take 3).map stD = d3 at w3 l3
  walk_at "dl"
  refine ⟨_, _, (show _ = some (Sl.own _ _) from rfl), (show PyData.list _ = PyData.list _ from rfl), ?_, ?_⟩
  · rw [List.length_append]
    exact Nat.le_trans (Nat.add_le_add_right (Nat.add_le_add_right l3 _) _) (Nat.le_of_ble_eq_true rfl)
  walk_at "dl"
  rename_i pz pt w hw m m0 m1
  obtain ⟨s0, rfl, hs0⟩ : ∃ s0 : Str, w = .str s0 ∧ (s0 = "in" ∨ s0 = "out") := by
    simp only [List.mem_cons, List.not_mem_nil, or_false] at hw
    rcases hw with rfl | rfl
    · exact ⟨_, rfl, .inl rfl⟩
    · exact ⟨_, rfl, .inr rfl⟩
  clear hw
  have wb : Wt 13 70 1 (.tuple [.str s0, .int m]) := w8 (s0, m) ⟨hs0, m0, m1⟩
  generalize PyData.tuple [.str s0, .int m] = bg at wb ⊢
  have lz : ((d3 ++ ([PyData.none, .bool true, .int 0, .str "", .str "in 0", .tuple [], .list [], .tuple [.str "in"], .tuple [.str "in", .int 0, .int 0], .tuple [.str "in", .bool true], .tuple [.str "out", .bool false]] : List PyData)) ++ ([PyData.tuple [.str "in", .int 999999359], .tuple [.str "in", .int 999999360], .tuple [.str "out", .int (-1)], .tuple [.str "in", .str "0"], .tuple [.int 0, .str "in"], .list [.str "in", .int 0]] : List PyData)).length ≤ 20 := by
    rw [List.length_append, List.length_append]
    exact Nat.add_le_add_right (Nat.add_le_add_right l3 _) _
  have wz : AllWt 97 50000 9 ((d3 ++ ([PyData.none, .bool true, .int 0, .str "", .str "in 0", .tuple [], .list [], .tuple [.str "in"], .tuple [.str "in", .int 0, .int 0], .tuple [.str "in", .bool true], .tuple [.str "out", .bool false]] : List PyData)) ++ ([PyData.tuple [.str "in", .int 999999359], .tuple [.str "in", .int 999999360], .tuple [.str "out", .int (-1)], .tuple [.str "in", .str "0"], .tuple [.int 0, .str "in"], .list [.str "in", .int 0]] : List PyData)) := by
    refine allw_app (allw_app w3 ?_) ?_
    · walk_at "allw"
    · walk_at "allw"
  refine nx_forR (fun i G => ∃ (A2 : Nat) (ds : List PyData), A2 ≤ A' + 20 + 50 * i ∧ AllWt 97 50000 9 ds ∧ ds.length ≤ 20 + i ∧ G = [.scr a ns, .fd p_ A2, .d (.int near), .d (.list (ss.map stD)), .any, .any, .d (.list (zs.map fun q => stD (backP q))), .d (.int c), .any, .any, .any, .own pt ds, .d bg, .any, .any]) ?_
  walk_at "dl"
  refine ⟨_, rfl, by decide, by decide, ⟨_, _, by omega, wz, lz, rfl⟩, ?_, ?_⟩
  · rintro i _ hi ⟨A2, ds, hA2, hd, hl, rfl⟩
    walk_at "dl"
    refine ⟨_, _, 13, 70, 1, rfl, by decide, by decide, wb, by decide, by decide, by decide, fun y hy => ?_⟩
    have hy : Wt 55 4000 4 y := hy.mono (by decide) (by decide) (by decide)
    walk_at "dl"
    refine nx_cut (fun G => ∃ (A3 : Nat) (y : PyData), A3 ≤ A2 + 40 ∧ Wt 97 50000 9 y ∧ G = [.scr a ns, .fd p_ A3, .d (.int near), .d (.list (ss.map stD)), .d (.int i), .any, .d (.list (zs.map fun q => stD (backP q))), .d (.int c), .any, .any, .any, .own pt ds, .d bg, .d y, .any]) ?_ ?_
    · walk_at "dl"
      · refine ⟨_, _, 55, 4000, 4, rfl, by decide, by decide, hy, by decide, by decide, by decide, fun y2 hy2 => ?_⟩
        have hy2 : Wt 97 50000 9 y2 := hy2.mono (by decide) (by decide) (by decide)
        walk_at "dl"
        refine nx_inv ⟨_, y2, ?_, hy2, rfl⟩
        omega
      · refine nx_inv ⟨_, y, ?_, hy.mono (by decide) (by decide) (by decide), rfl⟩
        omega
    rintro _ ⟨A3, y', hA3, hy', rfl⟩
    walk_at "dl"
    refine nx_wipe [4, 13] ?_
    refine nx_inv ⟨A3, _, ?_, allw_app hd (by walk_at "allw"), ?_, rfl⟩
    · omega
    · rw [List.length_append]; show ds.length + 1 ≤ _; omega
  · rintro _ ⟨A2, ds, hA2, hd, hl, rfl⟩
    walk_at "dl"
    refine nx_forLi ?_
    refine EO.ek ?_
    refine eo_catOl rfl ?_
    walk_at "dl"
    refine ⟨_, _, rfl, rfl, by show ds.length + 1 ≤ _; have hl : ds.length ≤ 28 := hl; omega, ?_⟩
    refine ⟨_, rfl, fun j G => ∃ B3 : Nat, G = [.scr a ns, .fd p_ B3, .d (.int near), .d (.list (ss.map stD)), .any, .any, .d (.list (zs.map fun q => stD (backP q))), .d (.int c), .any, .any, .any, .own pt ds, .d bg, .any, .any], ⟨A2, rfl⟩, ?_, ?_⟩
    · rintro B2 hB2 j x _ hx ⟨B3, rfl⟩
      have hsx : Wt 97 50000 9 x := (allw_app hd (show AllWt 97 50000 9 [_] from allw_cons (by walk_at "wt") allw_nil)) x (List.mem_of_getElem? hx)
      have hsb : Wt 97 50000 9 (.bool (isStampD x)) := by walk_at "wt"
      walk_at "dl"
      refine rk_rep ⟨_, _, rfl, rfl, by decide, by decide, Nat.le_of_ble_eq_true rfl, ?_⟩
      have hlay : lay 1 (.list [.str (PyData.bool (isStampD x)).shown, .str (PyData.bool (isStampD x)).shown]) := lay_list (n := 0) fun q hq => by
        simp only [List.mem_cons, List.not_mem_nil, or_false, or_self] at hq
        subst hq
        exact ⟨by rw [PyData.canLay0]; cases isStampD x <;> decide +kernel, by rw [PyData.depth]; omega⟩
      refine rk_neS hlay (by decide) ?_
      walk_at "dl"
      all_goals first
        | (rename_i h; exact absurd trivial h)
        | (refine nx_wipe [8, 13, 14] ?_
           exact nx_inv ⟨_, rfl⟩)
        | trace_state
    · rintro _ ⟨B3, rfl⟩
      walk_at "dl"
      all_goals first
        | exact RT
        | trace_state
end
theorem mkF {K : PySem.W.Frag} {h : Heap} {mg : Str → Option Value} (X : K.In h) (G : h.Ns mainGlobals mg) {x : Str} {st : Stmt} {ps : List Str} {f1 : Addr} {od1 an1 : Option Addr} {sl1 : Array (Option Value)} {oc1 kV1 dc1 pm1 cd1 ct1 : Value}
    (hb : ∀ (kV doc pm : Value) (an : Option Addr) (cdv ct : Value) (us : List Value), us.length = ps.length → bindArgs (PySem.W.fnOf x x (defArgs st) (defBody st) (defScope st) .none kV doc pm an cdv ct) ⟨us, []⟩ = pure (ps.zip us))
    (a1 : PySem.W.nsIn K mainGlobals x = some (some (.ref f1))) (l1 : K.lookup f1 = some ⟨oc1, od1, .func (PySem.W.fnOf x x (defArgs st) (defBody st) (defScope st) .none kV1 dc1 pm1 an1 cd1 ct1), sl1⟩) (c1 : PySem.W.codeIn K cd1 x = true) (k1 : PySem.W.keepIn K (.ref f1) = true) :
    ∃ f fd, Fun K x x st f fd ∧ mg x = some (.ref f) ∧ Binds K fd ps [] :=
  ⟨f1, _, fun_mk (st := st) l1 c1 k1, PySem.W.mg_of X G a1, (fun_mk (st := st) l1 c1 k1).binds hb⟩
theorem law_end {P : Program} {w : World} {K : PySem.W.Frag} {mg : Str → Option Value} {fa : Addr} {h : Heap} (X : K.In h) (G : h.Ns mainGlobals mg) (hmg : mg "law" = some (.ref fa)) (T : Tx K mg)
    {f1 : Addr} {od1 an1 : Option Addr} {sl1 : Array (Option Value)} {oc1 kV1 dc1 pm1 cd1 ct1 : Value}
    (a1 : PySem.W.nsIn K mainGlobals "law" = some (some (.ref f1))) (l1 : K.lookup f1 = some ⟨oc1, od1, .func (PySem.W.fnOf "law" "law" (defArgs s_law) (defBody s_law) (defScope s_law) .none kV1 dc1 pm1 an1 cd1 ct1), sl1⟩) (c1 : PySem.W.codeIn K cd1 "law" = true) (k1 : PySem.W.keepIn K (.ref f1) = true) :
    ∃ fd : FuncData, (∀ (s : Shared) (v : Value), BindsTo s fd ⟨[v], []⟩ [("script", v)]) ∧ ∀ base : Heap, K.In base → base.Ns mainGlobals mg → FnG P w K mg base CX0 9 fa fd ["script"] (spLaw K) := by
  have e := hmg.symm.trans (PySem.W.mg_of X G a1)
  cases e
  exact ⟨_, fun s v => .of_eq rfl, fun base _ _ => ok_law T (fun_mk (st := s_law) l1 c1 k1)⟩
theorem all_mk {P : Program} {w : World} {K : PySem.W.Frag} {mg : Str → Option Value} {fa : Addr} {h : Heap} (X : K.In h) (G : h.Ns mainGlobals mg) (hmg : mg "law" = some (.ref fa))
    {f0 : Addr} {od0 an0 : Option Addr} {sl0 : Array (Option Value)} {oc0 kV0 dc0 pm0 cd0 ct0 : Value}
    (a0 : PySem.W.nsIn K mainGlobals "is_number" = some (some (.ref f0))) (l0 : K.lookup f0 = some ⟨oc0, od0, .func (PySem.W.fnOf "is_number" "is_number" (defArgs s_is_number) (defBody s_is_number) (defScope s_is_number) .none kV0 dc0 pm0 an0 cd0 ct0), sl0⟩) (c0 : PySem.W.codeIn K cd0 "is_number" = true) (k0 : PySem.W.keepIn K (.ref f0) = true)
    {f1 : Addr} {od1 an1 : Option Addr} {sl1 : Array (Option Value)} {oc1 kV1 dc1 pm1 cd1 ct1 : Value}
    (a1 : PySem.W.nsIn K mainGlobals "is_number_within" = some (some (.ref f1))) (l1 : K.lookup f1 = some ⟨oc1, od1, .func (PySem.W.fnOf "is_number_within" "is_number_within" (defArgs s_is_number_within) (defBody s_is_number_within) (defScope s_is_number_within) .none kV1 dc1 pm1 an1 cd1 ct1), sl1⟩) (c1 : PySem.W.codeIn K cd1 "is_number_within" = true) (k1 : PySem.W.keepIn K (.ref f1) = true)
    {f2 : Addr} {od2 an2 : Option Addr} {sl2 : Array (Option Value)} {oc2 kV2 dc2 pm2 cd2 ct2 : Value}
    (a2 : PySem.W.nsIn K mainGlobals "is_row" = some (some (.ref f2))) (l2 : K.lookup f2 = some ⟨oc2, od2, .func (PySem.W.fnOf "is_row" "is_row" (defArgs s_is_row) (defBody s_is_row) (defScope s_is_row) .none kV2 dc2 pm2 an2 cd2 ct2), sl2⟩) (c2 : PySem.W.codeIn K cd2 "is_row" = true) (k2 : PySem.W.keepIn K (.ref f2) = true)
    {f3 : Addr} {od3 an3 : Option Addr} {sl3 : Array (Option Value)} {oc3 kV3 dc3 pm3 cd3 ct3 : Value}
    (a3 : PySem.W.nsIn K mainGlobals "is_stamp" = some (some (.ref f3))) (l3 : K.lookup f3 = some ⟨oc3, od3, .func (PySem.W.fnOf "is_stamp" "is_stamp" (defArgs s_is_stamp) (defBody s_is_stamp) (defScope s_is_stamp) .none kV3 dc3 pm3 an3 cd3 ct3), sl3⟩) (c3 : PySem.W.codeIn K cd3 "is_stamp" = true) (k3 : PySem.W.keepIn K (.ref f3) = true)
    {f4 : Addr} {od4 an4 : Option Addr} {sl4 : Array (Option Value)} {oc4 kV4 dc4 pm4 cd4 ct4 : Value}
    (a4 : PySem.W.nsIn K mainGlobals "turn_of" = some (some (.ref f4))) (l4 : K.lookup f4 = some ⟨oc4, od4, .func (PySem.W.fnOf "turn_of" "turn_of" (defArgs s_turn_of) (defBody s_turn_of) (defScope s_turn_of) .none kV4 dc4 pm4 an4 cd4 ct4), sl4⟩) (c4 : PySem.W.codeIn K cd4 "turn_of" = true) (k4 : PySem.W.keepIn K (.ref f4) = true)
    {f5 : Addr} {od5 an5 : Option Addr} {sl5 : Array (Option Value)} {oc5 kV5 dc5 pm5 cd5 ct5 : Value}
    (a5 : PySem.W.nsIn K mainGlobals "in_order" = some (some (.ref f5))) (l5 : K.lookup f5 = some ⟨oc5, od5, .func (PySem.W.fnOf "in_order" "in_order" (defArgs s_in_order) (defBody s_in_order) (defScope s_in_order) .none kV5 dc5 pm5 an5 cd5 ct5), sl5⟩) (c5 : PySem.W.codeIn K cd5 "in_order" = true) (k5 : PySem.W.keepIn K (.ref f5) = true)
    {f6 : Addr} {od6 an6 : Option Addr} {sl6 : Array (Option Value)} {oc6 kV6 dc6 pm6 cd6 ct6 : Value}
    (a6 : PySem.W.nsIn K mainGlobals "_law_feed" = some (some (.ref f6))) (l6 : K.lookup f6 = some ⟨oc6, od6, .func (PySem.W.fnOf "_law_feed" "_law_feed" (defArgs s__law_feed) (defBody s__law_feed) (defScope s__law_feed) .none kV6 dc6 pm6 an6 cd6 ct6), sl6⟩) (c6 : PySem.W.codeIn K cd6 "_law_feed" = true) (k6 : PySem.W.keepIn K (.ref f6) = true)
    {f7 : Addr} {od7 an7 : Option Addr} {sl7 : Array (Option Value)} {oc7 kV7 dc7 pm7 cd7 ct7 : Value}
    (a7 : PySem.W.nsIn K mainGlobals "_law_draw" = some (some (.ref f7))) (l7 : K.lookup f7 = some ⟨oc7, od7, .func (PySem.W.fnOf "_law_draw" "_law_draw" (defArgs s__law_draw) (defBody s__law_draw) (defScope s__law_draw) .none kV7 dc7 pm7 an7 cd7 ct7), sl7⟩) (c7 : PySem.W.codeIn K cd7 "_law_draw" = true) (k7 : PySem.W.keepIn K (.ref f7) = true)
    {f8 : Addr} {od8 an8 : Option Addr} {sl8 : Array (Option Value)} {oc8 kV8 dc8 pm8 cd8 ct8 : Value}
    (a8 : PySem.W.nsIn K mainGlobals "_law_of" = some (some (.ref f8))) (l8 : K.lookup f8 = some ⟨oc8, od8, .func (PySem.W.fnOf "_law_of" "_law_of" (defArgs s__law_of) (defBody s__law_of) (defScope s__law_of) .none kV8 dc8 pm8 an8 cd8 ct8), sl8⟩) (c8 : PySem.W.codeIn K cd8 "_law_of" = true) (k8 : PySem.W.keepIn K (.ref f8) = true)
    {f9 : Addr} {od9 an9 : Option Addr} {sl9 : Array (Option Value)} {oc9 kV9 dc9 pm9 cd9 ct9 : Value}
    (a9 : PySem.W.nsIn K mainGlobals "_law_minute" = some (some (.ref f9))) (l9 : K.lookup f9 = some ⟨oc9, od9, .func (PySem.W.fnOf "_law_minute" "_law_minute" (defArgs s__law_minute) (defBody s__law_minute) (defScope s__law_minute) .none kV9 dc9 pm9 an9 cd9 ct9), sl9⟩) (c9 : PySem.W.codeIn K cd9 "_law_minute" = true) (k9 : PySem.W.keepIn K (.ref f9) = true)
    {f10 : Addr} {od10 an10 : Option Addr} {sl10 : Array (Option Value)} {oc10 kV10 dc10 pm10 cd10 ct10 : Value}
    (a10 : PySem.W.nsIn K mainGlobals "_law_odd" = some (some (.ref f10))) (l10 : K.lookup f10 = some ⟨oc10, od10, .func (PySem.W.fnOf "_law_odd" "_law_odd" (defArgs s__law_odd) (defBody s__law_odd) (defScope s__law_odd) .none kV10 dc10 pm10 an10 cd10 ct10), sl10⟩) (c10 : PySem.W.codeIn K cd10 "_law_odd" = true) (k10 : PySem.W.keepIn K (.ref f10) = true)
    {f11 : Addr} {od11 an11 : Option Addr} {sl11 : Array (Option Value)} {oc11 kV11 dc11 pm11 cd11 ct11 : Value}
    (a11 : PySem.W.nsIn K mainGlobals "_law_word" = some (some (.ref f11))) (l11 : K.lookup f11 = some ⟨oc11, od11, .func (PySem.W.fnOf "_law_word" "_law_word" (defArgs s__law_word) (defBody s__law_word) (defScope s__law_word) .none kV11 dc11 pm11 an11 cd11 ct11), sl11⟩) (c11 : PySem.W.codeIn K cd11 "_law_word" = true) (k11 : PySem.W.keepIn K (.ref f11) = true)
    {f12 : Addr} {od12 an12 : Option Addr} {sl12 : Array (Option Value)} {oc12 kV12 dc12 pm12 cd12 ct12 : Value}
    (a12 : PySem.W.nsIn K mainGlobals "_law_bent" = some (some (.ref f12))) (l12 : K.lookup f12 = some ⟨oc12, od12, .func (PySem.W.fnOf "_law_bent" "_law_bent" (defArgs s__law_bent) (defBody s__law_bent) (defScope s__law_bent) .none kV12 dc12 pm12 an12 cd12 ct12), sl12⟩) (c12 : PySem.W.codeIn K cd12 "_law_bent" = true) (k12 : PySem.W.keepIn K (.ref f12) = true)
    {f13 : Addr} {od13 an13 : Option Addr} {sl13 : Array (Option Value)} {oc13 kV13 dc13 pm13 cd13 ct13 : Value}
    (a13 : PySem.W.nsIn K mainGlobals "_law_is_stamp" = some (some (.ref f13))) (l13 : K.lookup f13 = some ⟨oc13, od13, .func (PySem.W.fnOf "_law_is_stamp" "_law_is_stamp" (defArgs s__law_is_stamp) (defBody s__law_is_stamp) (defScope s__law_is_stamp) .none kV13 dc13 pm13 an13 cd13 ct13), sl13⟩) (c13 : PySem.W.codeIn K cd13 "_law_is_stamp" = true) (k13 : PySem.W.keepIn K (.ref f13) = true)
    {f14 : Addr} {od14 an14 : Option Addr} {sl14 : Array (Option Value)} {oc14 kV14 dc14 pm14 cd14 ct14 : Value}
    (a14 : PySem.W.nsIn K mainGlobals "_law_owed" = some (some (.ref f14))) (l14 : K.lookup f14 = some ⟨oc14, od14, .func (PySem.W.fnOf "_law_owed" "_law_owed" (defArgs s__law_owed) (defBody s__law_owed) (defScope s__law_owed) .none kV14 dc14 pm14 an14 cd14 ct14), sl14⟩) (c14 : PySem.W.codeIn K cd14 "_law_owed" = true) (k14 : PySem.W.keepIn K (.ref f14) = true)
    {f15 : Addr} {od15 an15 : Option Addr} {sl15 : Array (Option Value)} {oc15 kV15 dc15 pm15 cd15 ct15 : Value}
    (a15 : PySem.W.nsIn K mainGlobals "law" = some (some (.ref f15))) (l15 : K.lookup f15 = some ⟨oc15, od15, .func (PySem.W.fnOf "law" "law" (defArgs s_law) (defBody s_law) (defScope s_law) .none kV15 dc15 pm15 an15 cd15 ct15), sl15⟩) (c15 : PySem.W.codeIn K cd15 "law" = true) (k15 : PySem.W.keepIn K (.ref f15) = true)
    (z_bool : PySem.W.nsIn K mainGlobals "bool" = some none)
    (z_int : PySem.W.nsIn K mainGlobals "int" = some none)
    (z_isinstance : PySem.W.nsIn K mainGlobals "isinstance" = some none)
    (z_len : PySem.W.nsIn K mainGlobals "len" = some none)
    (z_list : PySem.W.nsIn K mainGlobals "list" = some none)
    (z_min : PySem.W.nsIn K mainGlobals "min" = some none)
    (z_range : PySem.W.nsIn K mainGlobals "range" = some none)
    (z_repr : PySem.W.nsIn K mainGlobals "repr" = some none)
    (z_set : PySem.W.nsIn K mainGlobals "set" = some none)
    (z_sorted : PySem.W.nsIn K mainGlobals "sorted" = some none)
    (z_str : PySem.W.nsIn K mainGlobals "str" = some none)
    (z_tuple : PySem.W.nsIn K mainGlobals "tuple" = some none)
    {t_LAST_MINUTE : Tok} (g_LAST_MINUTE : PySem.W.nsIn K mainGlobals "LAST_MINUTE" = some (some (.int 999999359 t_LAST_MINUTE))) :
    ∃ fd : FuncData, (∀ (s : Shared) (v : Value), BindsTo s fd ⟨[v], []⟩ [("script", v)]) ∧ ∀ base : Heap, K.In base → base.Ns mainGlobals mg → FnG P w K mg base CX0 9 fa fd ["script"] (spLaw K) :=
  law_end X G hmg ⟨mkF (st := s_is_number) X G (fun _ _ _ _ _ _ us hl => match us, hl with | [_], _ => rfl) a0 l0 c0 k0, mkF (st := s_is_number_within) X G (fun _ _ _ _ _ _ us hl => match us, hl with | [_, _, _], _ => rfl) a1 l1 c1 k1, mkF (st := s_is_row) X G (fun _ _ _ _ _ _ us hl => match us, hl with | [_, _], _ => rfl) a2 l2 c2 k2, mkF (st := s_is_stamp) X G (fun _ _ _ _ _ _ us hl => match us, hl with | [_], _ => rfl) a3 l3 c3 k3, mkF (st := s_turn_of) X G (fun _ _ _ _ _ _ us hl => match us, hl with | [_], _ => rfl) a4 l4 c4 k4, mkF (st := s_in_order) X G (fun _ _ _ _ _ _ us hl => match us, hl with | [_], _ => rfl) a5 l5 c5 k5, mkF (st := s__law_feed) X G (fun _ _ _ _ _ _ us hl => match us, hl with | [_], _ => rfl) a6 l6 c6 k6, mkF (st := s__law_draw) X G (fun _ _ _ _ _ _ us hl => match us, hl with | [_, _], _ => rfl) a7 l7 c7 k7, mkF (st := s__law_of) X G (fun _ _ _ _ _ _ us hl => match us, hl with | [_, _], _ => rfl) a8 l8 c8 k8, mkF (st := s__law_minute) X G (fun _ _ _ _ _ _ us hl => match us, hl with | [_, _], _ => rfl) a9 l9 c9 k9, mkF (st := s__law_odd) X G (fun _ _ _ _ _ _ us hl => match us, hl with | [_], _ => rfl) a10 l10 c10 k10, mkF (st := s__law_word) X G (fun _ _ _ _ _ _ us hl => match us, hl with | [_, _], _ => rfl) a11 l11 c11 k11, mkF (st := s__law_bent) X G (fun _ _ _ _ _ _ us hl => match us, hl with | [_, _, _], _ => rfl) a12 l12 c12 k12, mkF (st := s__law_is_stamp) X G (fun _ _ _ _ _ _ us hl => match us, hl with | [_], _ => rfl) a13 l13 c13 k13, mkF (st := s__law_owed) X G (fun _ _ _ _ _ _ us hl => match us, hl with | [_], _ => rfl) a14 l14 c14 k14, PySem.W.mg_none_of X G z_bool, PySem.W.mg_none_of X G z_int, PySem.W.mg_none_of X G z_isinstance, PySem.W.mg_none_of X G z_len, PySem.W.mg_none_of X G z_list, PySem.W.mg_none_of X G z_min, PySem.W.mg_none_of X G z_range, PySem.W.mg_none_of X G z_repr, PySem.W.mg_none_of X G z_set, PySem.W.mg_none_of X G z_sorted, PySem.W.mg_none_of X G z_str, PySem.W.mg_none_of X G z_tuple, ⟨_, PySem.W.mg_of X G g_LAST_MINUTE⟩⟩ a15 l15 c15 k15
end LawX
open PySem PySem.W PyProof.Rows
set_option maxHeartbeats 0 in
theorem PySem.Challenge.cw_hourcoin_k09_stamps_in_order_holds : PySem.Challenge.rw_hourcoin_k09_stamps_in_order.Holds := by
  w_on; o_law; k_head; (case hw => w_witness2)
  k_fill
  refine DL.walk_ofG (l := PySem.Challenge.rw_hourcoin_k09_stamps_in_order) (n := 63) (k := 9) (x := "script") (CX := fun _ => L2.CX0) (sp := fun w => DL.spLaw _) rfl (by decide) rfl ⟨rfl, by decide, by decide⟩ (fun w h Y => PySem.W.kIn_of Y) ?F (fun _ _ a ns hl hS => ⟨a, ns, rfl, hS, hl, fun _ => rfl⟩) (fun _ _ _ _ _ h => h)
  case F =>
    intro w mg fa h KX G hmg
    refine' LawX.all_mk KX G hmg ?a0 ?l0 ?c0 ?k0 ?a1 ?l1 ?c1 ?k1 ?a2 ?l2 ?c2 ?k2 ?a3 ?l3 ?c3 ?k3 ?a4 ?l4 ?c4 ?k4 ?a5 ?l5 ?c5 ?k5 ?a6 ?l6 ?c6 ?k6 ?a7 ?l7 ?c7 ?k7 ?a8 ?l8 ?c8 ?k8 ?a9 ?l9 ?c9 ?k9 ?a10 ?l10 ?c10 ?k10 ?a11 ?l11 ?c11 ?k11 ?a12 ?l12 ?c12 ?k12 ?a13 ?l13 ?c13 ?k13 ?a14 ?l14 ?c14 ?k14 ?a15 ?l15 ?c15 ?k15 ?z_bool ?z_int ?z_isinstance ?z_len ?z_list ?z_min ?z_range ?z_repr ?z_set ?z_sorted ?z_str ?z_tuple ?g_LAST_MINUTE
    (case a0 => k_is); (case l0 => k_is); (case c0 => k_is); (case k0 => k_is); (case a1 => k_is); (case l1 => k_is); (case c1 => k_is); (case k1 => k_is); (case a2 => k_is); (case l2 => k_is); (case c2 => k_is); (case k2 => k_is); (case a3 => k_is); (case l3 => k_is); (case c3 => k_is); (case k3 => k_is); (case a4 => k_is); (case l4 => k_is); (case c4 => k_is); (case k4 => k_is); (case a5 => k_is); (case l5 => k_is); (case c5 => k_is); (case k5 => k_is); (case a6 => k_is); (case l6 => k_is); (case c6 => k_is); (case k6 => k_is); (case a7 => k_is); (case l7 => k_is); (case c7 => k_is); (case k7 => k_is); (case a8 => k_is); (case l8 => k_is); (case c8 => k_is); (case k8 => k_is); (case a9 => k_is); (case l9 => k_is); (case c9 => k_is); (case k9 => k_is); (case a10 => k_is); (case l10 => k_is); (case c10 => k_is); (case k10 => k_is); (case a11 => k_is); (case l11 => k_is); (case c11 => k_is); (case k11 => k_is); (case a12 => k_is); (case l12 => k_is); (case c12 => k_is); (case k12 => k_is); (case a13 => k_is); (case l13 => k_is); (case c13 => k_is); (case k13 => k_is); (case a14 => k_is); (case l14 => k_is); (case c14 => k_is); (case k14 => k_is); (case a15 => k_is); (case l15 => k_is); (case c15 => k_is); (case k15 => k_is); (case z_bool => k_is); (case z_int => k_is); (case z_isinstance => k_is); (case z_len => k_is); (case z_list => k_is); (case z_min => k_is); (case z_range => k_is); (case z_repr => k_is); (case z_set => k_is); (case z_sorted => k_is); (case z_str => k_is); (case z_tuple => k_is); (case g_LAST_MINUTE => k_is)
