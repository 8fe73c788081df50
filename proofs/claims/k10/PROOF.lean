import PyProof.Rows.All
import HandS.ForMost
import HandS.Evl
import HandS.IsInst
import HandS.SortInts
import HandS.Sort
import HandS.SortRule
import HandS.Codes
import HandS.NoneIn
import HandS.Walk
import HandS.Conv
import HandS.TupAny
import HandS.Exc
import HandS.ExcInit
import HandS.ExcIs
import HandS.ExcField
import HandS.ExcValue
import KE.KExcIs
import PyProof.ReprRoads
import HandS.Ends
import HandS.Style
import HandS.RaiseMore
import HandS.Words
import PyProof.ReprLen
import PyProof.Rows.ReprOcc
import HandS.More
import HandS.Deep
import HandS.TupSets
import PyProof.Rows.IntBool
import PyProof.EqKinds
import HandS.Text
import PyProof.NeKinds
import KE.DatumOrd
import HandS.SortKw
import HandS.CallLocal
import HandS.Zip
import KE.DataCmp
import KE.Datum
import KE.GoesZip
import KE.GoesMore
import PyProof.SetRoads
import HandS.Strs
import HandS.WordsExc
import PyProof.Rows.StrMul
import HandS.FStr
import KE.KDictPairs
import PyProof.Rows.SortStr
import HandS.SetBool
import PyProof.Rows.StrIntSpec
import KE.KxField
import KE.KIntText
import KE.IntTextText
import HandS.StrMore
import KE.KeyNested
import KE.KSortTupAny
import PySem.Challenge.RW_hourcoin_k10_stretches_gone_through
set_option Elab.async false
set_option linter.all false
set_option maxRecDepth 100000
set_option maxHeartbeats 4000000
namespace DL
open PySem PySem.Spec PyProof.Rows L2
/-- at a: an exception of the class cls with its dict at d -/
def exO (a : Addr) (cls : Value) (d : Option Addr) : HO := .ext fun h => ∃ (ob : Obj) (ws : Array Value), h.get? a = some ob ∧ Zc cls d ob ∧ ob.data = .fields ws
end DL
namespace DL
open PySem L2 Evl
theorem Ex.app {H H' : Hp} (e : Ex H H') {a : Addr} {o : HO} (h : H a = some o) : H' a = some o := e a o h
/-- a dict's key as data -/
def kD : Key → PyData
  | .inl i => .int i
  | .inr x => .str x
mutual
inductive Dq (K : PySem.W.Frag) (H : Hp) : V → PyData → Prop
  | non : Dq K H .non .none
  | bl (b : Bool) : Dq K H (.bl b) (.bool b)
  | int (i : Int) : Dq K H (.int i) (.int i)
  | str (x : Str) : Dq K H (.str x) (.str x)
  | lst {a : Addr} {xs : List V} {ds : List PyData} : H a = some (.lst xs) → DqAll K H xs ds → Dq K H (.ref a) (.list ds)
  | tup {a : Addr} {xs : List V} {ds : List PyData} : H a = some (.tup xs) → DqAll K H xs ds → Dq K H (.ref a) (.tuple ds)
  | dct {a : Addr} {kvs : List (Key × V)} {ds : List PyData} : H a = some (.dK kvs) → DqAll K H (kvs.map (·.2)) ds → Dq K H (.ref a) (.dict ((kvs.map fun p => kD p.1).zip ds))
inductive DqAll (K : PySem.W.Frag) (H : Hp) : List V → List PyData → Prop
  | nil : DqAll K H [] []
  | cons {v : V} {vs : List V} {d : PyData} {ds : List PyData} : Dq K H v d → DqAll K H vs ds → DqAll K H (v :: vs) (d :: ds)
end
mutual
theorem dq_dp {K : PySem.W.Frag} {H : Hp} : ∀ {v : V} {d : PyData}, Dq K H v d → d.hasDict = false → Dp K H v d
  | _, _, .non, _ => .non
  | _, _, .bl b, _ => .bl b
  | _, _, .int i, _ => .int i
  | _, _, .str x, _ => .str x
  | _, _, .lst hs ha, e => .lst (.inl (.inl hs)) (dqs_dp ha (by simpa only [PyData.hasDict] using e))
  | _, _, .tup hs ha, e => .tup (.inl (.inl hs)) (dqs_dp ha (by simpa only [PyData.hasDict] using e))
  | _, _, .dct _ _, e => by simp only [PyData.hasDict, Bool.true_eq_false] at e
theorem dqs_dp {K : PySem.W.Frag} {H : Hp} : ∀ {v : List V} {d : List PyData}, DqAll K H v d → PyData.hasDictAll d = false → DpAll K H v d
  | _, _, .nil, _ => .nil
  | _, _, .cons h t, e => by
    have e' := e
    simp only [PyData.hasDictAll, Bool.or_eq_false_iff] at e'
    exact .cons (dq_dp h e'.1) (dqs_dp t e'.2)
end
theorem nod_of {x : PyData} (h : SeqAt.shaped x = true) : x.hasDict = false := PyData.hasDict_of_canLay x (SeqAt.canLay_of_shaped h)
mutual
theorem dp_mono {K : PySem.W.Frag} {H H' : Hp} (e : Ex H H') : ∀ {v : V} {d : PyData}, Dq K H v d → Dq K H' v d
  | _, _, .non => .non
  | _, _, .bl b => .bl b
  | _, _, .int i => .int i
  | _, _, .str x => .str x
  | _, _, .lst hs ha => .lst (e _ _ hs) (dps_mono e ha)
  | _, _, .tup hs ha => .tup (e _ _ hs) (dps_mono e ha)
  | _, _, .dct hs ha => .dct (e _ _ hs) (dps_mono e ha)
theorem dps_mono {K : PySem.W.Frag} {H H' : Hp} (e : Ex H H') : ∀ {v : List V} {d : List PyData}, DqAll K H v d → DqAll K H' v d
  | _, _, .nil => .nil
  | _, _, .cons h t => .cons (dp_mono e h) (dps_mono e t)
end
theorem dps_length {K : PySem.W.Frag} {H : Hp} : ∀ {v : List V} {d : List PyData}, DqAll K H v d → v.length = d.length
  | _, _, .nil => rfl
  | _, _, .cons _ t => congrArg (· + 1) (dps_length t)
theorem dps_get {K : PySem.W.Frag} {H : Hp} : ∀ {v : List V} {d : List PyData} {i : Nat} {x : PyData}, DqAll K H v d → d[i]? = some x → ∃ u, v[i]? = some u ∧ Dq K H u x
  | _, _, 0, x, .cons h _, e => ⟨_, rfl, by have e' : _ = x := Option.some.inj e; rw [← e']; exact h⟩
  | _, _, i + 1, x, .cons _ t, e => dps_get (i := i) t e
theorem dps_get' {K : PySem.W.Frag} {H : Hp} : ∀ {v : List V} {d : List PyData} {i : Nat} {u : V}, DqAll K H v d → v[i]? = some u → ∃ x, d[i]? = some x ∧ Dq K H u x
  | _, _, 0, u, .cons h _, e => ⟨_, rfl, by have e' : _ = u := Option.some.inj e; rw [← e']; exact h⟩
  | _, _, i + 1, x, .cons _ t, e => dps_get' (i := i) t e
theorem dps_append {K : PySem.W.Frag} {H : Hp} : ∀ {v w : List V} {d e : List PyData}, DqAll K H v d → DqAll K H w e → DqAll K H (v ++ w) (d ++ e)
  | _, _, _, _, .nil, h => h
  | _, _, _, _, .cons h t, k => .cons h (dps_append t k)
theorem dps_take {K : PySem.W.Frag} {H : Hp} : ∀ {v : List V} {d : List PyData} (n : Nat), DqAll K H v d → DqAll K H (v.take n) (d.take n)
  | _, _, 0, _ => .nil
  | _, _, _ + 1, .nil => .nil
  | _, _, n + 1, .cons h t => .cons h (dps_take n t)
theorem dps_drop {K : PySem.W.Frag} {H : Hp} : ∀ {v : List V} {d : List PyData} (n : Nat), DqAll K H v d → DqAll K H (v.drop n) (d.drop n)
  | _, _, 0, h => h
  | _, _, _ + 1, .nil => .nil
  | _, _, n + 1, .cons _ t => dps_drop n t
theorem dps_ints {K : PySem.W.Frag} {H : Hp} : ∀ (ns : List Int), DqAll K H (ns.map V.int) (ns.map PyData.int)
  | [] => .nil
  | n :: r => .cons (.int n) (dps_ints r)
/-- heap less the address p -/
def del (p : Addr) (H : Hp) : Hp := fun b => if b = p then none else H b
theorem del_same {p : Addr} {H : Hp} : del p H p = none := if_pos rfl
theorem del_ne {p b : Addr} {H : Hp} (h : b ≠ p) : del p H b = H b := if_neg h
theorem del_ex {p : Addr} {H : Hp} : Ex (del p H) H := fun b o e => by
  by_cases h : b = p
  · subst h; rw [del_same] at e; cases e
  · rw [del_ne h] at e; exact e
theorem del_mono {p : Addr} {H H' : Hp} (e : Ex H H') : Ex (del p H) (del p H') := fun b o h => by
  by_cases q : b = p
  · subst q; rw [del_same] at h; cases h
  · rw [del_ne q] at h ⊢; exact e b o h
theorem ex_del {p : Addr} {H H' : Hp} (e : Ex H H') (h : H p = none) : Ex H (del p H') := fun b o q => by
  have hb : b ≠ p := fun z => by subst z; rw [h] at q; cases q
  rw [del_ne hb]; exact e b o q
/-- what a slot may own, told from outside: p and the addresses rs -/
structure AbsS where
  p : Addr
  rs : List Addr
  ok : PySem.W.Frag → Hp → Hp → Option V → Prop
  mono : ∀ {K : PySem.W.Frag} {B B' H H' : Hp} {v : Option V}, Ex B B' → (∀ b o, b ∈ p :: rs → H b = some o → H' b = some o) → ok K B H v → ok K B' H' v
  ref : ∀ {K : PySem.W.Frag} {B H : Hp} {v : Option V}, ok K B H v → v = some (.ref p)
  at_ : ∀ {K : PySem.W.Frag} {B H : Hp} {v : Option V}, ok K B H v → ∀ b ∈ p :: rs, ∃ o, H b = some o ∧ ∀ xs, o ≠ .tup xs
inductive Sl where
  | any
  | d (x : PyData)
  | own (p : Addr) (xs : List PyData)
  | fd (p : Addr) (A : Nat)
  | scr (a : Addr) (ns : List Int)
  | fn (f : Addr)
  | dic (p : Addr) (kvs : List (Key × PyData))
  | nest (p : Addr) (rs : List Addr) (xss : List (List PyData))
  | exc (C : Addr) (kvs : List (Str × PyData))
  | abs (o : AbsS)
def Sl.ad : Sl → Option Addr
  | .own p _ => some p
  | .fd p _ => some p
  | .dic p _ => some p
  | .nest p _ _ => some p
  | .abs o => some o.p
  | _ => none
/-- all that a slot owns: a list of lists with all its lists -/
def Sl.ads : Sl → List Addr
  | .own p _ => [p]
  | .fd p _ => [p]
  | .dic p _ => [p]
  | .nest p rs _ => p :: rs
  | .abs o => o.p :: o.rs
  | _ => []
theorem Sl.ads_none {s : Sl} (h : s.ad = none) : s.ads = [] := by cases s <;> first | rfl | cases h
theorem Sl.ad_mem {s : Sl} {p : Addr} (h : s.ad = some p) : p ∈ s.ads := by
  cases s <;> first | (cases h; exact List.mem_cons_self) | cases h
def ads (G : List Sl) : List Addr := G.flatMap Sl.ads
/-- the frame of a body: what it may read at its entry, what it never touches -/
structure Fr where
  K : PySem.W.Frag
  B0 : Hp
  Z : Addr → Prop
  Hz : Hp
  zh : ∀ b, Z b → ∃ o, Hz b = some o
open Classical in
noncomputable def low (F : Fr) (G : List Sl) (H : Hp) : Hp := fun b => if F.Z b ∨ b ∈ ads G then none else H b
section
variable {F : Fr}
theorem low_in {G : List Sl} {H : Hp} {b : Addr} (h : b ∈ ads G) : low F G H b = none := if_pos (.inr h)
theorem low_z {G : List Sl} {H : Hp} {b : Addr} (h : F.Z b) : low F G H b = none := if_pos (.inl h)
theorem low_cases (F : Fr) (G : List Sl) (H : Hp) (b : Addr) : (low F G H b = none ∧ (F.Z b ∨ b ∈ ads G)) ∨ (low F G H b = H b ∧ ¬ F.Z b ∧ b ∉ ads G) := by
  by_cases h : F.Z b ∨ b ∈ ads G
  · exact .inl ⟨if_pos h, h⟩
  · exact .inr ⟨if_neg h, fun z => h (.inl z), fun z => h (.inr z)⟩
theorem low_out {G : List Sl} {H : Hp} {b : Addr} (h0 : ¬ F.Z b) (h : b ∉ ads G) : low F G H b = H b := if_neg fun z => z.elim h0 h
theorem low_some {G : List Sl} {H : Hp} {b : Addr} {o : HO} (h : low F G H b = some o) : H b = some o ∧ ¬ F.Z b ∧ b ∉ ads G := by
  rcases low_cases F G H b with ⟨e, _⟩ | ⟨e, z⟩
  · rw [e] at h; cases h
  · exact ⟨e ▸ h, z⟩
theorem low_ex {G : List Sl} {H : Hp} : Ex (low F G H) H := fun b o e => (low_some e).1
theorem low_mono {G : List Sl} {H H' : Hp} (e : Ex H H') : Ex (low F G H) (low F G H') := fun b o h => by
  obtain ⟨h1, h2, h3⟩ := low_some h
  rw [low_out h2 h3]; exact e b o h1
/-- fewer owned: more is low -/
theorem low_sub {G G' : List Sl} {H : Hp} (h : ∀ b, b ∈ ads G' → b ∈ ads G) : Ex (low F G H) (low F G' H) := fun b o e => by
  obtain ⟨h1, h2, h3⟩ := low_some e
  rw [low_out h2 fun z => h3 (h b z)]; exact h1
theorem low_upd_in {G : List Sl} {H : Hp} {p : Addr} {o : HO} (h : p ∈ ads G) : low F G (upd H p o) = low F G H := by
  funext b
  by_cases q : b ∈ ads G
  · rw [low_in q, low_in q]
  · by_cases z : F.Z b
    · rw [low_z z, low_z z]
    · rw [low_out z q, low_out z q, upd_ne fun z => q (by rw [z]; exact h)]
theorem low_ads {G G' : List Sl} {H : Hp} (h : ads G' = ads G) : low F G' H = low F G H := by
  funext b
  by_cases q : b ∈ ads G
  · rw [low_in q, low_in (by rw [h]; exact q)]
  · by_cases z : F.Z b
    · rw [low_z z, low_z z]
    · rw [low_out z q, low_out z (by rw [h]; exact q)]
end
theorem ads_mem' {G : List Sl} {i : Nat} {s : Sl} {p : Addr} (h : G[i]? = some s) (ha : p ∈ s.ads) : p ∈ ads G :=
  List.mem_flatMap.mpr ⟨s, List.mem_of_getElem? h, ha⟩
theorem ads_mem {G : List Sl} {i : Nat} {s : Sl} {p : Addr} (h : G[i]? = some s) (ha : s.ad = some p) : p ∈ ads G := ads_mem' h (Sl.ad_mem ha)
theorem ads_cons (a : Sl) (G : List Sl) : ads (a :: G) = a.ads ++ ads G := List.flatMap_cons
theorem ads_set_sub {s : Sl} (hs : s.ad = none) : ∀ (G : List Sl) (i : Nat), List.Sublist (ads (G.set i s)) (ads G)
  | [], _ => List.Sublist.refl _
  | a :: G, 0 => by
    show List.Sublist (ads (s :: G)) (ads (a :: G))
    rw [ads_cons, ads_cons, Sl.ads_none hs]
    exact List.sublist_append_right _ _
  | a :: G, i + 1 => by
    show List.Sublist (ads (a :: G.set i s)) (ads (a :: G))
    rw [ads_cons, ads_cons]
    exact (List.append_sublist_append_left _).mpr (ads_set_sub hs G i)
/-- the same addresses in a slot again -/
theorem ads_set_same {s : Sl} : ∀ (G : List Sl) (i : Nat) (t : Sl), G[i]? = some t → t.ads = s.ads → ads (G.set i s) = ads G
  | [], _, _, h, _ => by simp at h
  | a :: G, 0, t, h, e => by
    have h' : a = t := by simpa using h
    subst h'
    show ads (s :: G) = ads (a :: G)
    rw [ads_cons, ads_cons, e]
  | a :: G, i + 1, t, h, e => by
    have ih := ads_set_same G i t (by simpa using h) e
    show ads (a :: G.set i s) = ads (a :: G)
    rw [ads_cons, ads_cons, ih]
theorem ads_set_mem' {s : Sl} {b : Addr} (G : List Sl) (i : Nat) (h : b ∈ ads (G.set i s)) : b ∈ s.ads ∨ b ∈ ads G := by
  obtain ⟨t, ht, e⟩ := List.mem_flatMap.mp h
  rcases List.mem_or_eq_of_mem_set ht with z | z
  · exact .inr (List.mem_flatMap.mpr ⟨t, z, e⟩)
  · subst z; exact .inl e
theorem ads_set_mem {s : Sl} {b p : Addr} (hs : s.ads = [p]) (G : List Sl) (i : Nat) (h : b ∈ ads (G.set i s)) : s.ads = [b] ∨ b ∈ ads G := by
  rcases ads_set_mem' G i h with q | q
  · rw [hs, List.mem_singleton] at q
    subst q
    exact .inl hs
  · exact .inr q
theorem ads_set_nd' {s : Sl} (hs : s.ads.Nodup) : ∀ (G : List Sl) (i : Nat), (ads G).Nodup → (∀ b, b ∈ s.ads → b ∉ ads G) → (ads (G.set i s)).Nodup
  | [], _, h, _ => h
  | a :: G, 0, h, hp => by
    show (ads (s :: G)).Nodup
    rw [ads_cons] at h hp ⊢
    refine List.nodup_append.mpr ⟨hs, (List.nodup_append.mp h).2.1, fun b hb c hc e => ?_⟩
    subst e
    exact hp b hb (List.mem_append_right _ hc)
  | a :: G, i + 1, h, hp => by
    show (ads (a :: G.set i s)).Nodup
    rw [ads_cons] at h hp ⊢
    obtain ⟨h1, h2, h3⟩ := List.nodup_append.mp h
    refine List.nodup_append.mpr ⟨h1, ads_set_nd' hs G i h2 fun b hb z => hp b hb (List.mem_append_right _ z), fun b hb c hc e => ?_⟩
    subst e
    rcases ads_set_mem' G i hc with y | y
    · exact hp b y (List.mem_append_left _ hb)
    · exact h3 b hb b y rfl
theorem ads_set_nd {s : Sl} {p : Addr} (hs : s.ads = [p]) (G : List Sl) (i : Nat) (h : (ads G).Nodup) (hp : p ∉ ads G) : (ads (G.set i s)).Nodup :=
  ads_set_nd' (by rw [hs]; exact List.nodup_cons.mpr ⟨fun z => (nomatch z), List.nodup_nil⟩) G i h fun b hb => by
    rw [hs, List.mem_singleton] at hb
    subst hb; exact hp
/-- the draws' state at p: the cells, a place, what is left -/
def Feed (K : PySem.W.Frag) (B H : Hp) (p : Addr) (A : Nat) : Prop := ∃ (l : Addr) (at_ rest turn : Int) (ns : List Int),
  H p = some (.dK [(Sum.inr "cells", .ref l), (Sum.inr "at", .int at_), (Sum.inr "left", .int rest), (Sum.inr "turn", .int turn)]) ∧ B l = some (.lst (ns.map V.int)) ∧ ns.length ≤ 63 ∧ 0 ≤ at_ ∧ at_ ≤ (A : Int) ∧ 0 ≤ rest
/-- an exception's fields, its dict at d -/
def XfAt (K : PySem.W.Frag) (B : Hp) (d : Option Addr) (kvs : List (Str × PyData)) : Prop := (d = none ∧ kvs = []) ∨ ∃ dd fs, d = some dd ∧ B dd = some (.xd fs) ∧ ∀ f x, kvs.lookup f = some x → ∃ v, fs.lookup f = some v ∧ Dq K B v x
/-- at a: an exception of the class at C with these fields -/
def ExA (K : PySem.W.Frag) (B : Hp) (a C : Addr) (kvs : List (Str × PyData)) : Prop := ∃ d, B a = some (exO a (.ref C) d) ∧ XfAt K B d kvs
theorem xfAt_mono {K : PySem.W.Frag} {B B' : Hp} {d : Option Addr} {kvs : List (Str × PyData)} (e : Ex B B') (h : XfAt K B d kvs) : XfAt K B' d kvs := by
  rcases h with h | ⟨dd, fs, h1, h2, h3⟩
  · exact .inl h
  · exact .inr ⟨dd, fs, h1, e _ _ h2, fun f x l => let ⟨v, l', q⟩ := h3 f x l; ⟨v, l', dp_mono e q⟩⟩
theorem exA_mono {K : PySem.W.Frag} {B B' : Hp} {a C : Addr} {kvs : List (Str × PyData)} (e : Ex B B') (h : ExA K B a C kvs) : ExA K B' a C kvs := let ⟨d, h1, h2⟩ := h; ⟨d, e _ _ h1, xfAt_mono e h2⟩
def SlOk (K : PySem.W.Frag) (B H : Hp) : Sl → Option V → Prop
  | .exc C kvs, v => ∃ a, v = some (.ref a) ∧ ExA K B a C kvs
  | .abs o, v => o.ok K B H v
  | .any, _ => True
  | .d x, v => ∃ u, v = some u ∧ Dq K B u x
  | .own p xs, v => v = some (.ref p) ∧ ∃ vs, H p = some (.lst vs) ∧ DqAll K B vs xs
  | .fd p A, v => v = some (.ref p) ∧ Feed K B H p A
  | .scr a ns, v => v = some (.ref a) ∧ SqL K B a (ns.map V.int)
  | .fn f, v => v = some (.ref f)
  | .nest p rs xss, v => v = some (.ref p) ∧ H p = some (.lst (rs.map V.ref)) ∧ rs.length = xss.length ∧ ∀ (i : Nat) (r : Addr) (xs : List PyData), rs[i]? = some r → xss[i]? = some xs → ∃ vs, H r = some (.lst vs) ∧ DqAll K B vs xs
  | .dic p kvs, v => v = some (.ref p) ∧ ∃ ws : List (Key × V), H p = some (.dK ws) ∧ ws.map (·.1) = kvs.map (·.1) ∧ DqAll K B (ws.map (·.2)) (kvs.map (·.2))
theorem feed_mono {K : PySem.W.Frag} {B B' H H' : Hp} {p : Addr} {A A' : Nat} (eB : Ex B B') (h : ∀ o, H p = some o → H' p = some o) (hA : A ≤ A') (f : Feed K B H p A) : Feed K B' H' p A' := by
  obtain ⟨l, a, r, u, ns, h1, h2, h3, h4, h5, h6⟩ := f
  exact ⟨l, a, r, u, ns, h _ h1, eB _ _ h2, h3, h4, by omega, h6⟩
theorem slok_mono {K : PySem.W.Frag} {B B' H H' : Hp} {v : Option V} {s : Sl} (eB : Ex B B') (h : ∀ p o, p ∈ s.ads → H p = some o → H' p = some o) (k : SlOk K B H s v) : SlOk K B' H' s v := by
  cases s with
  | any => trivial
  | d x => obtain ⟨u, e, k⟩ := k; exact ⟨u, e, dp_mono eB k⟩
  | own p xs => obtain ⟨e, vs, h1, h2⟩ := k; exact ⟨e, vs, h p _ List.mem_cons_self h1, dps_mono eB h2⟩
  | fd p A => obtain ⟨e, f⟩ := k; exact ⟨e, feed_mono eB (fun o => h p o List.mem_cons_self) (Nat.le_refl _) f⟩
  | scr a ns => exact ⟨k.1, ex_l eB k.2⟩
  | fn f => exact k
  | exc C kvs => obtain ⟨a, e, x⟩ := k; exact ⟨a, e, exA_mono eB x⟩
  | abs o => exact o.mono eB h k
  | dic p kvs => obtain ⟨e, ws, h1, h2, h3⟩ := k; exact ⟨e, ws, h p _ List.mem_cons_self h1, h2, dps_mono eB h3⟩
  | nest p rs xss =>
    obtain ⟨e, h1, hl, h2⟩ := k
    refine ⟨e, h p _ List.mem_cons_self h1, hl, fun i r xs hr hx => ?_⟩
    obtain ⟨vs, h3, h4⟩ := h2 i r xs hr hx
    exact ⟨vs, h r _ (List.mem_cons_of_mem _ (List.mem_of_getElem? hr)) h3, dps_mono eB h4⟩
theorem slok_at {K : PySem.W.Frag} {B H : Hp} {v : Option V} {s : Sl} {p : Addr} (k : SlOk K B H s v) (e : s.ad = some p) : v = some (.ref p) ∧ ∃ o, H p = some o ∧ ∀ xs, o ≠ .tup xs := by
  cases s with
  | any => cases e
  | d x => cases e
  | own q xs => cases e; obtain ⟨e, vs, h, _⟩ := k; exact ⟨e, _, h, fun _ z => nomatch z⟩
  | fd q A => cases e; obtain ⟨e, l, a, r, u, ns, h, _⟩ := k; exact ⟨e, _, h, fun _ z => nomatch z⟩
  | scr a ns => cases e
  | fn f => cases e
  | exc C kvs => cases e
  | abs o => cases e; exact ⟨o.ref k, o.at_ k _ List.mem_cons_self⟩
  | dic q kvs => cases e; obtain ⟨e, ws, h, _⟩ := k; exact ⟨e, _, h, fun _ z => nomatch z⟩
  | nest q rs xss => cases e; obtain ⟨e, h, _⟩ := k; exact ⟨e, _, h, fun _ z => nomatch z⟩
theorem slok_at' {K : PySem.W.Frag} {B H : Hp} {v : Option V} {s : Sl} {p : Addr} (k : SlOk K B H s v) (e : p ∈ s.ads) : ∃ o, H p = some o ∧ ∀ xs, o ≠ .tup xs := by
  have one : ∀ q, s.ads = [q] → s.ad = some q → ∃ o, H p = some o ∧ ∀ xs, o ≠ .tup xs := fun q e1 e2 => by
    rw [e1, List.mem_singleton] at e
    subst e
    exact (slok_at k e2).2
  cases s with
  | any => cases e
  | d x => cases e
  | own q xs => exact one q rfl rfl
  | fd q A => exact one q rfl rfl
  | scr a ns => cases e
  | fn f => cases e
  | exc C kvs => cases e
  | abs o => exact o.at_ k p e
  | dic q kvs => exact one q rfl rfl
  | nest q rs xss =>
    rcases List.mem_cons.mp e with z | z
    · subst z; exact (slok_at k rfl).2
    · obtain ⟨e, h, hl, h2⟩ := k
      obtain ⟨i, hi⟩ := List.getElem?_of_mem z
      have hil : i < xss.length := by rw [← hl]; exact (List.getElem?_eq_some_iff.mp hi).1
      obtain ⟨vs, h3, _⟩ := h2 i p _ hi (List.getElem?_eq_getElem hil)
      exact ⟨_, h3, fun _ z => nomatch z⟩
structure Sat (F : Fr) (G : List Sl) (σ : L2.St) (H : Hp) : Prop where
  ext : Ex F.B0 (low F G H)
  zk : ∀ b o, F.Z b → F.Hz b = some o → H b = some o
  zn : ∀ b, b ∈ ads G → ¬ F.Z b
  len : σ.length = G.length
  nd : (ads G).Nodup
  ok : ∀ i s, G[i]? = some s → SlOk F.K (low F G H) H s (σ.getD i none)
section
variable {F : Fr} {G G' : List Sl} {σ : L2.St} {H H' : Hp}
theorem Sat.ex (S : Sat F G σ H) (e : Ex H H') : Sat F G σ H' :=
  ⟨S.ext.trans (low_mono e), fun b o z q => e _ _ (S.zk b o z q), S.zn, S.len, S.nd, fun i s h => slok_mono (low_mono e) (fun p o _ q => e p o q) (S.ok i s h)⟩
theorem Sat.noz (S : Sat F G σ H) {p : Addr} (h : H p = none) : ¬ F.Z p := fun z => by
  obtain ⟨o, e⟩ := F.zh p z
  rw [S.zk p o z e] at h; cases h
theorem getD_some {σ : L2.St} {i : Nat} {v : V} (h : σ.getD i none = some v) : σ[i]? = some (some v) := by
  rw [List.getD_eq_getElem?_getD] at h
  cases q : σ[i]? with
  | none => rw [q] at h; cases h
  | some o => rw [q] at h; exact congrArg some h
theorem Sat.dat (S : Sat F G σ H) {i : Nat} {x : PyData} (h : G[i]? = some (.d x)) : ∃ v, σ[i]? = some (some v) ∧ Dq F.K (low F G H) v x := by
  obtain ⟨u, e, k⟩ := S.ok i _ h
  exact ⟨u, getD_some e, k⟩
theorem Sat.ownd (S : Sat F G σ H) {i : Nat} {p : Addr} {xs : List PyData} (h : G[i]? = some (.own p xs)) : σ[i]? = some (some (.ref p)) ∧ ∃ vs, H p = some (.lst vs) ∧ DqAll F.K (low F G H) vs xs := by
  obtain ⟨e, k⟩ := S.ok i _ h
  exact ⟨getD_some e, k⟩
theorem Sat.feed (S : Sat F G σ H) {i : Nat} {p : Addr} {A : Nat} (h : G[i]? = some (.fd p A)) : σ[i]? = some (some (.ref p)) ∧ Feed F.K (low F G H) H p A := by
  obtain ⟨e, k⟩ := S.ok i _ h
  exact ⟨getD_some e, k⟩
theorem Sat.dicd (S : Sat F G σ H) {i : Nat} {p : Addr} {kvs : List (Key × PyData)} (h : G[i]? = some (.dic p kvs)) : σ[i]? = some (some (.ref p)) ∧ ∃ ws : List (Key × V), H p = some (.dK ws) ∧ ws.map (·.1) = kvs.map (·.1) ∧ DqAll F.K (low F G H) (ws.map (·.2)) (kvs.map (·.2)) := by
  obtain ⟨e, k⟩ := S.ok i _ h
  exact ⟨getD_some e, k⟩
theorem Sat.at_nt (S : Sat F G σ H) {b : Addr} (h : b ∈ ads G) : ∃ o, H b = some o ∧ ∀ xs, o ≠ .tup xs := by
  obtain ⟨s, hs, e⟩ := List.mem_flatMap.mp h
  obtain ⟨i, hi⟩ := List.getElem?_of_mem hs
  exact slok_at' (S.ok i s hi) e
theorem Sat.at_ (S : Sat F G σ H) {b : Addr} (h : b ∈ ads G) : ∃ o, H b = some o := let ⟨o, e, _⟩ := S.at_nt h; ⟨o, e⟩
theorem getD_set_eq {σ : L2.St} {i j : Nat} {v : Option V} (h : i < σ.length) : (σ.set i v).getD j none = if i = j then v else σ.getD j none := by
  rw [List.getD_eq_getElem?_getD, List.getElem?_set, List.getD_eq_getElem?_getD]
  by_cases e : i = j
  · subst e; rw [if_pos rfl, if_pos rfl, if_pos h]; rfl
  · rw [if_neg e, if_neg e]
/-- a value stored -/
theorem Sat.set (S : Sat F G σ H) {i : Nat} {v : V} {x : PyData} (hi : i < G.length) (h : Dq F.K (low F G H) v x) : Sat F (G.set i (.d x)) (σ.set i (some v)) H := by
  have hs : ∀ b, b ∈ ads (G.set i (.d x)) → b ∈ ads G := fun b hb => (ads_set_sub (s := .d x) rfl G i).subset hb
  have e : Ex (low F G H) (low F (G.set i (.d x)) H) := low_sub hs
  refine ⟨S.ext.trans e, S.zk, fun b hb => S.zn b (hs b hb), by rw [List.length_set, List.length_set]; exact S.len, S.nd.sublist (ads_set_sub rfl G i), fun j s hj => ?_⟩
  rw [getD_set_eq (by rw [S.len]; exact hi)]
  rw [List.getElem?_set] at hj
  by_cases q : i = j
  · rw [if_pos q] at hj ⊢
    rw [if_pos hi] at hj
    cases hj
    exact ⟨v, rfl, dp_mono e h⟩
  · rw [if_neg q] at hj ⊢
    exact slok_mono e (fun _ _ _ z => z) (S.ok j s hj)
/-- a slot whose content is no matter -/
theorem Sat.forget (S : Sat F G σ H) (i : Nat) (v : Option V) : Sat F (G.set i .any) (σ.set i v) H := by
  have hs : ∀ b, b ∈ ads (G.set i .any) → b ∈ ads G := fun b hb => (ads_set_sub (s := .any) rfl G i).subset hb
  have e : Ex (low F G H) (low F (G.set i .any) H) := low_sub hs
  refine ⟨S.ext.trans e, S.zk, fun b hb => S.zn b (hs b hb), by rw [List.length_set, List.length_set]; exact S.len, S.nd.sublist (ads_set_sub rfl G i), fun j s hj => ?_⟩
  rw [List.getElem?_set] at hj
  by_cases q : i = j
  · rw [if_pos q] at hj
    by_cases hi : i < G.length
    · rw [if_pos hi] at hj; cases hj; trivial
    · rw [if_neg hi] at hj; cases hj
  · rw [if_neg q] at hj
    have z : (σ.set i v).getD j none = σ.getD j none := by
      rw [List.getD_eq_getElem?_getD, List.getElem?_set, if_neg q, ← List.getD_eq_getElem?_getD]
    rw [z]
    exact slok_mono e (fun _ _ _ z => z) (S.ok j s hj)
/-- a new list stored: it is the slot's own -/
theorem Sat.setOwn {p : Addr} {vs : List V} {xs : List PyData} (S : Sat F G σ (del p H)) {i : Nat} (hi : i < G.length) (hp : H p = some (.lst vs)) (h : DqAll F.K (low F G (del p H)) vs xs) :
    Sat F (G.set i (.own p xs)) (σ.set i (some (.ref p))) H := by
  have pn : p ∉ ads G := fun z => by obtain ⟨ws, e⟩ := S.at_ z; rw [del_same] at e; cases e
  have pz : ¬ F.Z p := S.noz del_same
  have e : Ex (low F G (del p H)) (low F (G.set i (.own p xs)) H) := fun b o q => by
    obtain ⟨q1, q2, q3⟩ := low_some q
    have hbp : b ≠ p := fun z => by subst z; rw [del_same] at q1; cases q1
    rw [del_ne hbp] at q1
    rw [low_out q2 fun z => ?_]
    · exact q1
    · rcases ads_set_mem (p := p) rfl G i z with y | y
      · cases y; exact hbp rfl
      · exact q3 y
  refine ⟨S.ext.trans e, fun b o z q => del_ex _ _ (S.zk b o z q), fun b hb => ?_, by rw [List.length_set, List.length_set]; exact S.len, ads_set_nd rfl G i S.nd pn, fun j s hj => ?_⟩
  · rcases ads_set_mem (p := p) rfl G i hb with y | y
    · cases y; exact pz
    · exact S.zn b y
  rw [getD_set_eq (by rw [S.len]; exact hi)]
  rw [List.getElem?_set] at hj
  by_cases q : i = j
  · rw [if_pos q] at hj ⊢
    rw [if_pos hi] at hj
    cases hj
    exact ⟨rfl, vs, hp, dps_mono e h⟩
  · rw [if_neg q] at hj ⊢
    exact slok_mono e (fun b o _ z => del_ex b o z) (S.ok j s hj)
/-- a new object stored: s' describes it -/
theorem Sat.setNew {p : Addr} {s' : Sl} (S : Sat F G σ (del p H)) {i : Nat} (hi : i < G.length) (h1 : s'.ads = [p]) (h : SlOk F.K (low F G (del p H)) H s' (some (.ref p))) :
    Sat F (G.set i s') (σ.set i (some (.ref p))) H := by
  have pn : p ∉ ads G := fun z => by obtain ⟨ws, e⟩ := S.at_ z; rw [del_same] at e; cases e
  have pz : ¬ F.Z p := S.noz del_same
  have e : Ex (low F G (del p H)) (low F (G.set i s') H) := fun b o q => by
    obtain ⟨q1, q2, q3⟩ := low_some q
    have hbp : b ≠ p := fun z => by subst z; rw [del_same] at q1; cases q1
    rw [del_ne hbp] at q1
    rw [low_out q2 fun z => ?_]
    · exact q1
    · rcases ads_set_mem h1 G i z with y | y
      · rw [h1] at y; cases y; exact hbp rfl
      · exact q3 y
  refine ⟨S.ext.trans e, fun b o z q => del_ex _ _ (S.zk b o z q), fun b hb => ?_, by rw [List.length_set, List.length_set]; exact S.len, ads_set_nd h1 G i S.nd pn, fun j s hj => ?_⟩
  · rcases ads_set_mem h1 G i hb with y | y
    · rw [h1] at y; cases y; exact pz
    · exact S.zn b y
  rw [getD_set_eq (by rw [S.len]; exact hi)]
  rw [List.getElem?_set] at hj
  by_cases q : i = j
  · rw [if_pos q] at hj ⊢
    rw [if_pos hi] at hj
    cases hj
    exact slok_mono e (fun _ _ _ z => z) h
  · rw [if_neg q] at hj ⊢
    exact slok_mono e (fun b o _ z => del_ex b o z) (S.ok j s hj)
theorem two_ads : ∀ (G : List Sl) (i j : Nat) (s t : Sl) (b : Addr), G[i]? = some s → G[j]? = some t → ¬ i = j → b ∈ s.ads → b ∈ t.ads → ¬ (ads G).Nodup
  | [], _, _, _, _, _, h, _, _, _, _ => by simp at h
  | a :: G, 0, 0, _, _, _, _, _, n, _, _ => absurd rfl n
  | a :: G, 0, j + 1, s, t, b, h, k, _, e, f => fun nd => by
    have h' : a = s := by simpa using h
    subst h'
    rw [ads_cons] at nd
    exact (List.nodup_append.mp nd).2.2 b e b (ads_mem' (by simpa using k) f) rfl
  | a :: G, i + 1, 0, s, t, b, h, k, _, e, f => fun nd => by
    have h' : a = t := by simpa using k
    subst h'
    rw [ads_cons] at nd
    exact (List.nodup_append.mp nd).2.2 b f b (ads_mem' (by simpa using h) e) rfl
  | a :: G, i + 1, j + 1, s, t, b, h, k, n, e, f => fun nd => by
    refine two_ads G i j s t b (by simpa using h) (by simpa using k) (fun z => n (congrArg (· + 1) z)) e f ?_
    rw [ads_cons] at nd
    exact (List.nodup_append.mp nd).2.1
/-- an owned object changed in its place: s' describes it now -/
theorem Sat.updS {p : Addr} {o : HO} {s0 s' : Sl} (S : Sat F G σ H) {i : Nat} (hi : G[i]? = some s0) (h0 : s0.ad = some p) (h1 : s'.ads = s0.ads)
    (h : SlOk F.K (low F G H) (upd H p o) s' (some (.ref p))) :
    Sat F (G.set i s') σ (upd H p o) := by
  have hil : i < G.length := (List.getElem?_eq_some_iff.mp hi).1
  have hp : p ∈ ads G := ads_mem hi h0
  have ea : ads (G.set i s') = ads G := ads_set_same G i _ hi h1.symm
  have e : low F (G.set i s') (upd H p o) = low F G H := by
    rw [low_ads ea, low_upd_in hp]
  refine ⟨by rw [e]; exact S.ext, fun b o z q => ?_, by rw [ea]; exact S.zn, by rw [List.length_set]; exact S.len, by rw [ea]; exact S.nd, fun j s hj => ?_⟩
  · rw [upd_ne fun y => S.zn p hp (by rw [← y]; exact z)]; exact S.zk b o z q
  rw [e]
  rw [List.getElem?_set] at hj
  by_cases q : i = j
  · rw [if_pos q, if_pos hil] at hj
    cases hj
    subst q
    rw [(slok_at (S.ok i _ hi) h0).1]
    exact h
  · rw [if_neg q] at hj
    refine slok_mono (Ex.refl _) (fun b o hb z => ?_) (S.ok j s hj)
    have hbp : b ≠ p := fun y => by
      subst y
      exact absurd S.nd (two_ads G i j _ s b hi hj q (Sl.ad_mem h0) hb)
    rw [upd_ne hbp]
    exact z
theorem Sat.upd {p : Addr} {vs : List V} {xs ys : List PyData} (S : Sat F G σ H) {i : Nat} (hi : G[i]? = some (.own p xs)) (h : DqAll F.K (low F G H) vs ys) :
    Sat F (G.set i (.own p ys)) σ (L2.upd H p (.lst vs)) := S.updS hi rfl rfl ⟨rfl, vs, upd_same, h⟩
/-- the same slot told otherwise -/
theorem Sat.retell {s0 s' : Sl} (S : Sat F G σ H) {i : Nat} (hi : G[i]? = some s0) (e : s0.ads = s'.ads)
    (h : ∀ v, SlOk F.K (low F G H) H s0 v → SlOk F.K (low F G H) H s' v) : Sat F (G.set i s') σ H := by
  have ea : ads (G.set i s') = ads G := ads_set_same G i _ hi e
  have el : low F (G.set i s') H = low F G H := low_ads ea
  refine ⟨by rw [el]; exact S.ext, S.zk, by rw [ea]; exact S.zn, by rw [List.length_set]; exact S.len, by rw [ea]; exact S.nd, fun j s hj => ?_⟩
  rw [el]
  rw [List.getElem?_set] at hj
  by_cases q : i = j
  · rw [if_pos q, if_pos (List.getElem?_eq_some_iff.mp hi).1] at hj
    cases hj
    subst q
    exact h _ (S.ok i _ hi)
  · rw [if_neg q] at hj
    exact S.ok j s hj
end
end DL
namespace DL
open PySem L2 Evl
abbrev Kp := PyData → List Sl → Prop
abbrev Kps := List PyData → List Sl → Prop
def EK (F : Fr) (G : List Sl) (te : TE) (κ : Kp) : Prop := ∀ σ H, Sat F G σ H → ∀ Q : VK,
  (∀ v H' x G', κ x G' → Sat F G' σ H' → Ex (low F G H) (low F G' H') → Dq F.K (low F G' H') v x → Q v H') → te σ H Q
def ET (F : Fr) (G : List Sl) (tt : TT) (κ : Bool → List Sl → Prop) : Prop := ∀ σ H, Sat F G σ H → ∀ Q : Bool → Hp → Prop,
  (∀ b H' G', κ b G' → Sat F G' σ H' → Ex (low F G H) (low F G' H') → Q b H') → tt σ H Q
def EA (F : Fr) (G : List Sl) (ta : TA) (κ : Kps) : Prop := ∀ σ H, Sat F G σ H → ∀ Q : List V → Hp → Prop,
  (∀ vs H' xs G', κ xs G' → Sat F G' σ H' → Ex (low F G H) (low F G' H') → DqAll F.K (low F G' H') vs xs → Q vs H') → ta σ H Q
/-- a new list -/
def EO (F : Fr) (G : List Sl) (te : TE) (κ : Kps) : Prop := ∀ σ H, Sat F G σ H → ∀ Q : VK,
  (∀ p vs H' xs G', κ xs G' → Sat F G' σ (del p H') → Ex (low F G H) (low F G' (del p H')) → H' p = some (.lst vs) → DqAll F.K (low F G' (del p H')) vs xs → Q (.ref p) H') → te σ H Q
/-- an operation on values -/
def RK (F : Fr) (r : R2) (x y : PyData) (G : List Sl) (κ : Kp) : Prop := ∀ σ H v u, Sat F G σ H → Dq F.K (low F G H) v x → Dq F.K (low F G H) u y → ∀ Q : VK,
  (∀ v H' z G', κ z G' → Sat F G' σ H' → Ex (low F G H) (low F G' H') → Dq F.K (low F G' H') v z → Q v H') → r v u H Q
def CK (F : Fr) (r : List V → Hp → VK → Prop) (xs : List PyData) (G : List Sl) (κ : Kp) : Prop := ∀ σ H vs, Sat F G σ H → DqAll F.K (low F G H) vs xs → ∀ Q : VK,
  (∀ v H' z G', κ z G' → Sat F G' σ H' → Ex (low F G H) (low F G' H') → Dq F.K (low F G' H') v z → Q v H') → r vs H Q
section
variable {F : Fr} {G : List Sl} {κ κ' : Kp} {ta tb te : TE} {r : R2}
theorem EK.mono (h : EK F G te κ) (k : ∀ x G', κ x G' → κ' x G') : EK F G te κ' := fun σ H S Q q => h σ H S Q fun v H' x G' a => q v H' x G' (k x G' a)
theorem low_at {p : Addr} {σ : L2.St} {H : Hp} {o : HO} (S : Sat F G σ (del p H)) (h : H p = some o) : low F G H p = some o := by
  rw [low_out (S.noz del_same) fun z => by obtain ⟨vs, e⟩ := S.at_ z; rw [del_same] at e; cases e]
  exact h
theorem EO.ek (h : EO F G te fun xs G' => κ (.list xs) G') : EK F G te κ := fun σ H S Q q => h σ H S Q fun p vs H' xs G' k S' e hv hd =>
  q _ H' _ G' k (S'.ex del_ex) (e.trans (low_mono del_ex)) (.lst (low_at S' hv) (dps_mono (low_mono del_ex) hd))
theorem ek_var {i : Nat} {x : PyData} (h : G[i]? = some (.d x)) (k : κ x G) : EK F G (tVar i) κ := fun σ H S Q q => by
  obtain ⟨v, e, d⟩ := S.dat h
  exact ⟨v, e, q v H x G k S (Ex.refl _) d⟩
theorem ek_int {n : Int} (k : κ (.int n) G) : EK F G (tC (.int n)) κ := fun σ H S Q q => q _ H _ G k S (Ex.refl _) (.int n)
theorem ek_bl {n : Bool} (k : κ (.bool n) G) : EK F G (tC (.bl n)) κ := fun σ H S Q q => q _ H _ G k S (Ex.refl _) (.bl n)
theorem ek_non (k : κ .none G) : EK F G (tC .non) κ := fun σ H S Q q => q _ H _ G k S (Ex.refl _) .non
theorem ek_str {z : Str} (k : κ (.str z) G) : EK F G (tC (.str z)) κ := fun σ H S Q q => q _ H _ G k S (Ex.refl _) (.str z)
theorem ek_op (h : EK F G ta fun x G1 => EK F G1 tb fun y G2 => RK F r x y G2 κ) : EK F G (tOp r ta tb) κ := fun σ H S Q q =>
  h σ H S _ fun v H1 x G1 k1 S1 e1 d1 => k1 σ H1 S1 _ fun u H2 y G2 k2 S2 e2 d2 => k2 σ H2 v u S2 (dp_mono e2 d1) d2 Q fun w H3 z G3 k3 S3 e3 d3 => q w H3 z G3 k3 S3 ((e1.trans e2).trans e3) d3
theorem rk_i {C : Int → Int → Prop} {g : Int → Int → V} (f : Int → Int → PyData) (hg : ∀ i j B, Dq F.K B (g i j) (f i j)) {x y : PyData}
    (h : ∃ i j, x = .int i ∧ y = .int j ∧ C i j ∧ κ (f i j) G) : RK F (rI C g) x y G κ := fun σ H v u S dv du Q q => by
  obtain ⟨i, j, rfl, rfl, c, k⟩ := h
  cases dv; cases du
  exact ⟨i, j, rfl, rfl, c, q _ H _ G k S (Ex.refl _) (hg i j _)⟩
theorem rk_i0 {g : Int → Int → V} (f : Int → Int → PyData) (hg : ∀ i j B, Dq F.K B (g i j) (f i j)) {x y : PyData}
    (h : ∃ i j, x = .int i ∧ y = .int j ∧ κ (f i j) G) : RK F (rI0 g) x y G κ := fun σ H v u S dv du Q q => by
  obtain ⟨i, j, rfl, rfl, k⟩ := h
  cases dv; cases du
  exact ⟨i, j, rfl, rfl, q _ H _ G k S (Ex.refl _) (hg i j _)⟩
theorem rk_add {x y : PyData} (h : ∃ i j, x = .int i ∧ y = .int j ∧ κ (.int (i + j)) G) : RK F (rI0 fun i j => .int (i + j)) x y G κ := rk_i0 (fun i j => .int (i + j)) (fun _ _ _ => .int _) h
theorem rk_sub {x y : PyData} (h : ∃ i j, x = .int i ∧ y = .int j ∧ κ (.int (i - j)) G) : RK F (rI0 fun i j => .int (i - j)) x y G κ := rk_i0 (fun i j => .int (i - j)) (fun _ _ _ => .int _) h
theorem rk_lt {x y : PyData} (h : ∃ i j, x = .int i ∧ y = .int j ∧ κ (.bool (decide (i < j))) G) : RK F (rI0 fun i j => .bl (decide (i < j))) x y G κ := rk_i0 (fun i j => .bool (decide (i < j))) (fun _ _ _ => .bl _) h
theorem rk_le {x y : PyData} (h : ∃ i j, x = .int i ∧ y = .int j ∧ κ (.bool (decide (i ≤ j))) G) : RK F (rI0 fun i j => .bl (decide (i ≤ j))) x y G κ := rk_i0 (fun i j => .bool (decide (i ≤ j))) (fun _ _ _ => .bl _) h
theorem rk_gt {x y : PyData} (h : ∃ i j, x = .int i ∧ y = .int j ∧ κ (.bool (decide (j < i))) G) : RK F (rI0 fun i j => .bl (decide (j < i))) x y G κ := rk_i0 (fun i j => .bool (decide (j < i))) (fun _ _ _ => .bl _) h
theorem rk_ge {x y : PyData} (h : ∃ i j, x = .int i ∧ y = .int j ∧ κ (.bool (decide (j ≤ i))) G) : RK F (rI0 fun i j => .bl (decide (j ≤ i))) x y G κ := rk_i0 (fun i j => .bool (decide (j ≤ i))) (fun _ _ _ => .bl _) h
theorem rk_mul {x y : PyData} (h : ∃ i j, x = .int i ∧ y = .int j ∧ CMul i j ∧ κ (.int (i * j)) G) : RK F (rI CMul fun i j => .int (i * j)) x y G κ := rk_i (fun i j => .int (i * j)) (fun _ _ _ => .int _) h
theorem rk_pow {x y : PyData} (h : ∃ i j, x = .int i ∧ y = .int j ∧ CPow i j ∧ κ (.int (i ^ j.toNat)) G) : RK F (rI CPow fun i j => .int (i ^ j.toNat)) x y G κ := rk_i (fun i j => .int (i ^ j.toNat)) (fun _ _ _ => .int _) h
/-- by a positive divisor -/
theorem rk_mod {x y : PyData} (h : ∃ i j, x = .int i ∧ y = .int j ∧ 0 < j ∧ κ (.int (i % j)) G) : RK F (rI (fun _ j => j ≠ 0) fun i j => .int (i.fmod j)) x y G κ := fun σ H v u S dv du Q q => by
  obtain ⟨i, j, rfl, rfl, c, k⟩ := h
  cases dv; cases du
  refine ⟨i, j, rfl, rfl, by omega, ?_⟩
  show Q (.int (i.fmod j)) H
  rw [Int.fmod_eq_emod_of_nonneg _ (by omega)]
  exact q _ H _ G k S (Ex.refl _) (.int _)
theorem rk_fdiv {x y : PyData} (h : ∃ i j, x = .int i ∧ y = .int j ∧ 0 < j ∧ j < 1073741824 ∧ κ (.int (i / j)) G) : RK F (rI CDivN fun i j => .int (i.fdiv j)) x y G κ := fun σ H v u S dv du Q q => by
  obtain ⟨i, j, rfl, rfl, c, c2, k⟩ := h
  cases dv; cases du
  refine ⟨i, j, rfl, rfl, ⟨by omega, by omega⟩, ?_⟩
  show Q (.int (i.fdiv j)) H
  rw [Int.fdiv_eq_ediv_of_nonneg _ (by omega)]
  exact q _ H _ G k S (Ex.refl _) (.int _)
theorem rk_eqI {x y : PyData} (h : ∃ i j, x = .int i ∧ y = .int j ∧ κ (.bool (decide (i = j))) G) : RK F rEq x y G κ := fun σ H v u S dv du Q q => by
  obtain ⟨i, j, rfl, rfl, k⟩ := h
  cases dv; cases du
  refine ⟨rfl, ?_⟩
  have e : decide (V.int i = V.int j) = decide (i = j) := by
    by_cases z : i = j
    · subst z; simp
    · rw [decide_eq_false z, decide_eq_false fun w => z (V.int.inj w)]
  rw [e]
  exact q _ H _ G k S (Ex.refl _) (.bl _)
/-- deep -/
theorem rk_eqD {x y : PyData} (hx : SeqAt.shaped x = true) (hy : SeqAt.shaped y = true) (k : κ (.bool (PyData.eqv x y)) G) : RK F (rEqD F.K) x y G κ := fun σ H v u S dv du Q q =>
  ⟨x, y, dq_dp (dp_mono low_ex dv) (nod_of hx), dq_dp (dp_mono low_ex du) (nod_of hy), hx, hy, q _ H _ G k S (Ex.refl _) (.bl _)⟩
theorem rk_neD {x y : PyData} (hx : SeqAt.shaped x = true) (hy : SeqAt.shaped y = true) (k : κ (.bool (!PyData.eqv x y)) G) : RK F (rNeD F.K) x y G κ := fun σ H v u S dv du Q q =>
  ⟨x, y, dq_dp (dp_mono low_ex dv) (nod_of hx), dq_dp (dp_mono low_ex du) (nod_of hy), hx, hy, q _ H _ G k S (Ex.refl _) (.bl _)⟩
theorem atI_dps {K : PySem.W.Frag} {B : Hp} {vs : List V} {ds : List PyData} {i : Int} {d : PyData} (h : DqAll K B vs ds) (e : atI ds i = some d) : ∃ v, atI vs i = some v ∧ Dq K B v d := by
  unfold atI at e ⊢
  rw [dps_length h]
  cases q : ixN ds.length i with
  | none => rw [q] at e; cases e
  | some j => rw [q] at e; exact dps_get h e
theorem rk_ixL {x y : PyData} (h : ∃ ds i d, x = .list ds ∧ y = .int i ∧ atI ds i = some d ∧ κ d G) : RK F (rIxL F.K) x y G κ := fun σ H v u S dv du Q q => by
  obtain ⟨ds, i, d, rfl, rfl, e, k⟩ := h
  cases du
  cases dv with
  | lst hs ha =>
    obtain ⟨w, ew, dw⟩ := atI_dps ha e
    exact ⟨_, _, i, w, rfl, rfl, .inl (.inl (low_ex _ _ hs)), ew, q _ H _ G k S (Ex.refl _) dw⟩
theorem rk_ixT {x y : PyData} (h : ∃ ds i d, x = .tuple ds ∧ y = .int i ∧ atI ds i = some d ∧ κ d G) : RK F (rIxT F.K) x y G κ := fun σ H v u S dv du Q q => by
  obtain ⟨ds, i, d, rfl, rfl, e, k⟩ := h
  cases du
  cases dv with
  | tup hs ha =>
    obtain ⟨w, ew, dw⟩ := atI_dps ha e
    exact ⟨_, _, i, w, rfl, rfl, .inl (.inl (low_ex _ _ hs)), ew, q _ H _ G k S (Ex.refl _) dw⟩
/-- an index into a slot's own list -/
theorem ek_ixO {i : Nat} {p : Addr} {xs : List PyData} (hi : G[i]? = some (.own p xs)) (h : EK F G tb fun y G2 => ∃ ds j d, G2[i]? = some (.own p ds) ∧ y = .int j ∧ atI ds j = some d ∧ κ d G2) : EK F G (tOp (rIxL F.K) (tVar i) tb) κ := fun σ H S Q q => by
  refine ⟨.ref p, (S.ownd hi).1, h σ H S _ fun u H1 y G1 ⟨ds, j, d, g1, ey, ea, k⟩ S1 e1 du => ?_⟩
  subst ey
  cases du
  obtain ⟨_, vs, hp, hd⟩ := S1.ownd g1
  obtain ⟨w, ew, dw⟩ := atI_dps hd ea
  exact ⟨p, vs, j, w, rfl, rfl, .inl (.inl hp), ew, q _ H1 _ G1 k S1 e1 dw⟩
variable {t u : TT} {β : Bool → List Sl → Prop}
theorem et_test (h : EK F G te fun x G' => ∃ b, x = .bool b ∧ β b G') : ET F G (tTest te) β := fun σ H S Q q => h σ H S _ fun v H' x G' ⟨b, ex, k⟩ S' e d => by
  subst ex; cases d
  exact ⟨b, rfl, q b H' G' k S' e⟩
theorem et_B (h : EK F G te fun x G' => ∃ b, x = .bool b ∧ β b G') : ET F G (tB te) β := et_test h
theorem et_and (h : ET F G t fun b G1 => (b = true → ET F G1 u β) ∧ (b = false → β false G1)) : ET F G (tAnd t u) β := fun σ H S Q q => h σ H S _ fun b H1 G1 k S1 e => by
  cases b with
  | true => exact k.1 rfl σ H1 S1 Q fun b' H2 G2 k2 S2 e2 => q b' H2 G2 k2 S2 (e.trans e2)
  | false => exact q false H1 G1 (k.2 rfl) S1 e
theorem et_or (h : ET F G t fun b G1 => (b = false → ET F G1 u β) ∧ (b = true → β true G1)) : ET F G (tOr t u) β := fun σ H S Q q => h σ H S _ fun b H1 G1 k S1 e => by
  cases b with
  | false => exact k.1 rfl σ H1 S1 Q fun b' H2 G2 k2 S2 e2 => q b' H2 G2 k2 S2 (e.trans e2)
  | true => exact q true H1 G1 (k.2 rfl) S1 e
theorem et_not (h : ET F G t fun b G1 => β (!b) G1) : ET F G (tNot t) β := fun σ H S Q q => h σ H S _ fun b H1 G1 k S1 e => q _ H1 G1 k S1 e
theorem ek_if (h : ET F G t fun b G1 => (b = true → EK F G1 ta κ) ∧ (b = false → EK F G1 tb κ)) : EK F G (tIf t ta tb) κ := fun σ H S Q q => h σ H S _ fun b H1 G1 k S1 e => by
  cases b with
  | true => exact k.1 rfl σ H1 S1 Q fun v H2 x G2 k2 S2 e2 => q v H2 x G2 k2 S2 (e.trans e2)
  | false => exact k.2 rfl σ H1 S1 Q fun v H2 x G2 k2 S2 e2 => q v H2 x G2 k2 S2 (e.trans e2)
/-- a op1 b op2 c of ints: p, p' are the comparisons -/
theorem ek_chainI {g g' : Int → Int → Bool} {tc : TE} (h : EK F G ta fun x G1 => EK F G1 tb fun y G2 => ∃ i j, x = .int i ∧ y = .int j ∧ (g i j = true → EK F G2 tc fun z G3 => ∃ k, z = .int k ∧ κ (.bool (g' j k)) G3) ∧ (g i j = false → κ (.bool false) G2)) :
    EK F G (tChain (rI0 fun i j => .bl (g i j)) (rI0 fun i j => .bl (g' i j)) ta tb tc) κ := fun σ H S Q q =>
  h σ H S _ fun v H1 x G1 k1 S1 e1 d1 => k1 σ H1 S1 _ fun w H2 y G2 ⟨i, j, ex, ey, k2⟩ S2 e2 d2 => by
    subst ex; subst ey; cases d1; cases d2
    refine ⟨i, j, rfl, rfl, g i j, rfl, ?_⟩
    cases c : g i j with
    | true =>
      exact k2.1 c σ H2 S2 _ fun z H3 zx G3 ⟨k, ez, k3⟩ S3 e3 d3 => by
        subst ez; cases d3
        exact ⟨j, k, rfl, rfl, q _ H3 _ G3 k3 S3 ((e1.trans e2).trans e3) (.bl _)⟩
    | false => exact q _ H2 _ G2 (k2.2 c) S2 (e1.trans e2) (.bl _)
variable {tr : TA} {α : Kps}
theorem ea_nil (k : α [] G) : EA F G tNil α := fun σ H S Q q => q [] H [] G k S (Ex.refl _) .nil
theorem ea_cons (h : EK F G te fun x G1 => EA F G1 tr fun xs G2 => α (x :: xs) G2) : EA F G (tCons te tr) α := fun σ H S Q q =>
  h σ H S _ fun v H1 x G1 k1 S1 e1 d1 => k1 σ H1 S1 _ fun vs H2 xs G2 k2 S2 e2 d2 => q (v :: vs) H2 _ G2 k2 S2 (e1.trans e2) (.cons (dp_mono e2 d1) d2)
theorem upd_ex {H : Hp} {p : Addr} {o : HO} (h : H p = none) : Ex H (upd H p o) := Ex.new h
theorem low_new {σ : L2.St} {H : Hp} {p : Addr} {o : HO} (S : Sat F G σ H) (h : H p = none) : low F G (upd H p o) p = some o := by
  rw [low_out (S.noz h) fun z => by obtain ⟨vs, e⟩ := S.at_ z; rw [h] at e; cases e]
  exact upd_same
theorem ek_tup (h : EA F G tr fun xs G' => xs.length ≤ 1000 ∧ κ (.tuple xs) G') : EK F G (tTup tr) κ := fun σ H S Q q => h σ H S _ fun vs H1 xs G1 ⟨hl, k⟩ S1 e1 d1 =>
  ⟨Nat.le_of_lt (small1000 (by rw [dps_length d1]; exact hl)), fun p hp => q _ _ _ G1 k (S1.ex (upd_ex hp)) (e1.trans (low_mono (upd_ex hp))) (.tup (low_new S1 hp) (dps_mono (low_mono (upd_ex hp)) d1))⟩
theorem eo_lst (h : EA F G tr fun xs G' => xs.length ≤ 1000 ∧ α xs G') : EO F G (tLst tr) α := fun σ H S Q q => h σ H S _ fun vs H1 xs G1 ⟨hl, k⟩ S1 e1 d1 =>
  ⟨Nat.le_of_lt (small1000 (by rw [dps_length d1]; exact hl)), fun p hp => by
    have e : Ex H1 (del p (upd H1 p (.lst vs))) := ex_del (upd_ex hp) hp
    exact q p vs _ xs G1 k (S1.ex e) (e1.trans (low_mono e)) upd_same (dps_mono (low_mono e) d1)⟩
def Nx (F : Fr) (G : List Sl) (P : L2.St → Hp → Prop) : Prop := ∀ σ H, Sat F G σ H → P σ H
def NxI (F : Fr) (I : List Sl → Prop) : L2.St → Hp → Prop := fun σ H => ∃ G, I G ∧ Sat F G σ H
/-- what is handed back -/
def Rt (F : Fr) (G : List Sl) (x : PyData) (rt : VK) : Prop := ∀ σ H v, Sat F G σ H → Dq F.K (low F G H) v x → rt v H
def RtO (F : Fr) (G : List Sl) (xs : List PyData) (rt : VK) : Prop := ∀ σ H p vs, Sat F G σ (del p H) → H p = some (.lst vs) → DqAll F.K (low F G (del p H)) vs xs → rt (.ref p) H
variable {D : Ends} {s1 s2 : TS}
theorem nx_seq (h : Nx F G (s1 { D with nx := s2 D })) : Nx F G (tSeq s1 s2 D) := h
theorem nx_next (h : Nx F G D.nx) : Nx F G (tNext D) := h
theorem nx_inv {I : List Sl → Prop} (h : I G) : Nx F G (NxI F I) := fun σ H S => ⟨G, h, S⟩
theorem nx_asg {i : Nat} (h : EK F G te fun x G' => i < G'.length ∧ Nx F (G'.set i (.d x)) D.nx) : Nx F G (tAsg te (gName i) D) := fun σ H S =>
  h σ H S _ fun v H' x G' ⟨hi, k⟩ S' _ d => k _ _ (S'.set hi d)
theorem nx_asgO {i : Nat} (h : EO F G te fun xs G' => i < G'.length ∧ ∀ p, Nx F (G'.set i (.own p xs)) D.nx) : Nx F G (tAsg te (gName i) D) := fun σ H S =>
  h σ H S _ fun p vs H' xs G' ⟨hi, k⟩ S' _ hp d => k p _ _ (S'.setOwn hi hp d)
theorem nx_if (h : ET F G t fun b G1 => (b = true → Nx F G1 (s1 D)) ∧ (b = false → Nx F G1 (s2 D))) : Nx F G (tIfS t s1 s2 D) := fun σ H S =>
  h σ H S _ fun b H1 G1 k S1 e => by
    cases b with
    | true => exact k.1 rfl σ H1 S1
    | false => exact k.2 rfl σ H1 S1
theorem nx_ret (h : EK F G te fun x G' => Rt F G' x D.rt) : Nx F G (tRet te D) := fun σ H S => h σ H S _ fun v H' x G' k S' _ d => k σ H' v S' d
theorem nx_retO (h : EO F G te fun xs G' => RtO F G' xs D.rt) : Nx F G (tRet te D) := fun σ H S => h σ H S _ fun p vs H' x G' k S' _ hp d => k σ H' p vs S' hp d
theorem nx_drop (h : EK F G te fun _ G' => Nx F G' D.nx) : Nx F G (tDrop te D) := fun σ H S => h σ H S _ fun v H' x G' k S' _ _ => k σ H' S'
/-- own lists: append, set -/
theorem nx_app {i : Nat} (hi0 : ∃ p ds, G[i]? = some (.own p ds)) (h : EK F G te fun x G' => ∃ p ds, G'[i]? = some (.own p ds) ∧ G[i]? = some (.own p ds) ∧ ds.length < 1000000 ∧ Nx F (G'.set i (.own p (ds ++ [x]))) D.nx) :
    Nx F G (tDrop (tBM F.K "list" rAppend (tVar i) (tCons te tNil)) D) := fun σ H S => by
  obtain ⟨p, ds, hi⟩ := hi0
  obtain ⟨e0, vs0, hp0, _⟩ := S.ownd hi
  refine ⟨.ref p, e0, .inl ⟨rfl, vs0, .inl (.inl hp0)⟩, h σ H S _ fun v H' x G' ⟨p', ds', h1, h0, hl, k⟩ S' _ d => ?_⟩
  rw [hi] at h0; cases h0
  obtain ⟨_, vs, hp, hd⟩ := S'.ownd h1
  exact ⟨p, vs, v, rfl, rfl, hp, Nat.lt_of_lt_of_le (by rw [dps_length hd]; exact hl) (by decide), k _ _ (S'.upd h1 (dps_append hd (.cons d .nil)))⟩
end
end DL
namespace DL
open PySem L2 Evl
section
variable {F : Fr} {G : List Sl} {κ : Kp} {ta tb te tl : TE} {r : R2} {D : Ends} {s1 s2 : TS} {tr : TA} {α : Kps}
theorem ek_cb {rr : List V → Hp → VK → Prop} (h : EA F G tr fun xs G1 => CK F rr xs G1 κ) : EK F G (tCB rr tr) κ := fun σ H S Q q =>
  h σ H S _ fun vs H1 xs G1 k1 S1 e1 d1 => k1 σ H1 vs S1 d1 Q fun v H2 z G2 k2 S2 e2 d2 => q v H2 z G2 k2 S2 (e1.trans e2) d2
theorem dps1 {K : PySem.W.Frag} {B : Hp} {vs : List V} {x : PyData} (h : DqAll K B vs [x]) : ∃ v, vs = [v] ∧ Dq K B v x := by
  cases h with
  | cons a t => cases t; exact ⟨_, rfl, a⟩
theorem dps2 {K : PySem.W.Frag} {B : Hp} {vs : List V} {x y : PyData} (h : DqAll K B vs [x, y]) : ∃ v u, vs = [v, u] ∧ Dq K B v x ∧ Dq K B u y := by
  cases h with
  | cons a t => cases t with
    | cons b t => cases t; exact ⟨_, _, rfl, a, b⟩
variable {xs : List PyData}
theorem ck_max2 (h : ∃ i j, xs = [.int i, .int j] ∧ κ (.int (if j > i then j else i)) G) : CK F (fun xs H Q => ∃ i j, xs = [.int i, .int j] ∧ Q (.int (if j > i then j else i)) H) xs G κ := fun σ H vs S d Q q => by
  obtain ⟨i, j, rfl, k⟩ := h
  obtain ⟨v, u, rfl, dd, d'⟩ := dps2 d
  cases dd; cases d'
  exact ⟨i, j, rfl, q _ H _ G k S (Ex.refl _) (.int _)⟩
theorem ck_min2 (h : ∃ i j, xs = [.int i, .int j] ∧ κ (.int (if j < i then j else i)) G) : CK F (fun xs H Q => ∃ i j, xs = [.int i, .int j] ∧ Q (.int (if j < i then j else i)) H) xs G κ := fun σ H vs S d Q q => by
  obtain ⟨i, j, rfl, k⟩ := h
  obtain ⟨v, u, rfl, dd, d'⟩ := dps2 d
  cases dd; cases d'
  exact ⟨i, j, rfl, q _ H _ G k S (Ex.refl _) (.int _)⟩
theorem ck_len (h : ∃ ds, (xs = [.list ds] ∨ xs = [.tuple ds]) ∧ κ (.int (ds.length : Int)) G) : CK F (fun xs H Q => ∃ p ys, xs = [.ref p] ∧ (SqL F.K H p ys ∨ SqT F.K H p ys) ∧ Q (.int ys.length) H) xs G κ := fun σ H vs S d Q q => by
  obtain ⟨ds, e, k⟩ := h
  rcases e with rfl | rfl
  · obtain ⟨v, rfl, dd⟩ := dps1 d
    cases dd with
    | lst hs ha =>
      refine ⟨_, _, rfl, .inl (.inl (.inl (low_ex _ _ hs))), ?_⟩
      rw [dps_length ha]
      exact q _ H _ G k S (Ex.refl _) (.int _)
  · obtain ⟨v, rfl, dd⟩ := dps1 d
    cases dd with
    | tup hs ha =>
      refine ⟨_, _, rfl, .inr (.inl (.inl (low_ex _ _ hs))), ?_⟩
      rw [dps_length ha]
      exact q _ H _ G k S (Ex.refl _) (.int _)
/-- list(x) -/
theorem eo_listOf (h : EA F G tr fun xs G1 => ∃ ds, (xs = [.list ds] ∨ xs = [.tuple ds]) ∧ α ds G1) : EO F G (tCB (fun xs H Q => ∃ p ys, xs = [.ref p] ∧ (SqL F.K H p ys ∨ SqT F.K H p ys) ∧ ∀ l, H l = none → Q (.ref l) (upd H l (.lst ys))) tr) α := fun σ H S Q q =>
  h σ H S _ fun vs H1 xs G1 ⟨ds, e, k⟩ S1 e1 d => by
    have fin : ∀ ws, DqAll F.K (low F G1 H1) ws ds → ∀ l, H1 l = none → Q (.ref l) (upd H1 l (.lst ws)) := fun ws ha l hl => by
      have e : Ex H1 (del l (upd H1 l (.lst ws))) := ex_del (upd_ex hl) hl
      exact q l ws _ ds G1 k (S1.ex e) (e1.trans (low_mono e)) upd_same (dps_mono (low_mono e) ha)
    rcases e with rfl | rfl
    · obtain ⟨v, rfl, dd⟩ := dps1 d
      cases dd with
      | lst hs ha => exact ⟨_, _, rfl, .inl (.inl (.inl (low_ex _ _ hs))), fin _ ha⟩
    · obtain ⟨v, rfl, dd⟩ := dps1 d
      cases dd with
      | tup hs ha => exact ⟨_, _, rfl, .inr (.inl (.inl (low_ex _ _ hs))), fin _ ha⟩
def cutD (xs : List PyData) (lo hi : Option Int) : List PyData := (xs.drop (HT.sIx xs.length 0 lo)).take (HT.sIx xs.length xs.length hi - HT.sIx xs.length 0 lo)
theorem dps_cut {K : PySem.W.Frag} {B : Hp} {vs : List V} {ds : List PyData} (h : DqAll K B vs ds) (lo hi : Option Int) : DqAll K B (cutV vs lo hi) (cutD ds lo hi) := by
  unfold cutV cutD
  rw [dps_length h]
  exact dps_take _ (dps_drop _ h)
def EP_ (F : Fr) (G : List Sl) (to : TO) (κ : Option Int → List Sl → Prop) : Prop := ∀ σ H, Sat F G σ H → ∀ Q : Option Int → Hp → Prop,
  (∀ o H' G', κ o G' → Sat F G' σ H' → Ex (low F G H) (low F G' H') → Q o H') → to σ H Q
theorem ep_none {π : Option Int → List Sl → Prop} (k : π none G) : EP_ F G tNoPart π := fun σ H S Q q => q none H G k S (Ex.refl _)
theorem ep_some {π : Option Int → List Sl → Prop} (h : EK F G te fun x G1 => ∃ i, x = .int i ∧ π (some i) G1) : EP_ F G (tPart te) π := fun σ H S Q q => h σ H S _ fun v H1 x G1 ⟨i, e, k⟩ S1 e1 d => by
  subst e; cases d
  exact ⟨i, rfl, q _ H1 G1 k S1 e1⟩
theorem eo_slL {lo hi : TO} (h : EK F G te fun x G1 => EP_ F G1 lo fun a G2 => EP_ F G2 hi fun b G3 => ∃ ds, x = .list ds ∧ α (cutD ds a b) G3) : EO F G (tSl (rSlL F.K) te lo hi) α := fun σ H S Q q =>
  h σ H S _ fun v H1 x G1 k1 S1 e1 d1 => k1 σ H1 S1 _ fun a H2 G2 k2 S2 e2 => k2 σ H2 S2 _ fun b H3 G3 ⟨ds, ex, k3⟩ S3 e3 => by
    subst ex
    have d3 := dp_mono (e2.trans e3) d1
    cases d3 with
    | @lst aa ys _ hs ha =>
      refine ⟨_, _, rfl, .inl (.inl (low_ex _ _ hs)), fun p hp => ?_⟩
      have e : Ex H3 (del p (upd H3 p (.lst (cutV ys a b)))) := ex_del (upd_ex hp) hp
      exact q p _ _ _ G3 k3 (S3.ex e) (((e1.trans e2).trans e3).trans (low_mono e)) upd_same (dps_mono (low_mono e) (dps_cut ha a b))
/-- of the script -/
theorem eo_slScr {i : Nat} {lo hi : TO} {a : Addr} {ns : List Int} (hi0 : G[i]? = some (.scr a ns)) (h : EP_ F G lo fun a' G2 => EP_ F G2 hi fun b G3 => G3[i]? = some (.scr a ns) ∧ α (cutD (ns.map .int) a' b) G3) : EO F G (tSl (rSlL F.K) (tVar i) lo hi) α := fun σ H S Q q => by
  refine ⟨.ref a, getD_some (S.ok i _ hi0).1, h σ H S _ fun a' H2 G2 k2 S2 e2 => k2 σ H2 S2 _ fun b H3 G3 ⟨g3, k3⟩ S3 e3 => ?_⟩
  refine ⟨_, _, rfl, ex_l low_ex (S3.ok i _ g3).2, fun p hp => ?_⟩
  have e : Ex H3 (del p (upd H3 p (.lst (cutV (ns.map V.int) a' b)))) := ex_del (upd_ex hp) hp
  exact q p _ _ _ G3 k3 (S3.ex e) ((e2.trans e3).trans (low_mono e)) upd_same (dps_cut (dps_ints ns) a' b)
def GK (F : Fr) (g : TG) (x : PyData) (G : List Sl) (κ : List Sl → Prop) : Prop := ∀ σ H v, Sat F G σ H → Dq F.K (low F G H) v x → ∀ Q : L2.St → Hp → Prop,
  (∀ σ' G', κ G' → Sat F G' σ' H → Ex (low F G H) (low F G' H) → Q σ' H) → g v σ H Q
def GKs (F : Fr) (g : TGs) (xs : List PyData) (G : List Sl) (κ : List Sl → Prop) : Prop := ∀ σ H vs, Sat F G σ H → DqAll F.K (low F G H) vs xs → ∀ Q : L2.St → Hp → Prop,
  (∀ σ' G', κ G' → Sat F G' σ' H → Ex (low F G H) (low F G' H) → Q σ' H) → g vs σ H Q
theorem low_set_d {i : Nat} {x : PyData} {H : Hp} : Ex (low F G H) (low F (G.set i (.d x)) H) := low_sub fun b hb => (ads_set_sub (s := .d x) rfl G i).subset hb
variable {γ : List Sl → Prop}
theorem gk_name {i : Nat} {x : PyData} (hi : i < G.length) (k : γ (G.set i (.d x))) : GK F (gName i) x G γ := fun σ H v S d Q q => q _ _ k (S.set hi d) low_set_d
theorem gks_nil (k : γ G) : GKs F gNil [] G γ := fun σ H vs S d Q q => by cases d; exact ⟨rfl, q _ _ k S (Ex.refl _)⟩
theorem gks_cons {g : TG} {gs : TGs} {x : PyData} {xs : List PyData} (h : GK F g x G fun G1 => GKs F gs xs G1 γ) : GKs F (gCons g gs) (x :: xs) G γ := fun σ H vs S d Q q => by
  cases d with
  | cons d1 d2 => exact ⟨_, _, rfl, h σ H _ S d1 _ fun σ1 G1 k1 S1 e1 => k1 σ1 H _ S1 (dps_mono e1 d2) Q fun σ2 G2 k2 S2 e2 => q σ2 G2 k2 S2 (e1.trans e2)⟩
theorem gk_tup {n : Nat} {gs : TGs} {x : PyData} (h : ∃ ds, x = .tuple ds ∧ ds.length = n ∧ GKs F gs ds G γ) : GK F (gTup F.K n gs) x G γ := fun σ H v S d Q q => by
  obtain ⟨ds, rfl, hl, k⟩ := h
  cases d with
  | tup hs ha => exact ⟨_, _, rfl, .inl (.inl (low_ex _ _ hs)), by rw [dps_length ha]; exact hl, k σ H _ S ha Q q⟩
/-- a target of any form behind an expression -/
theorem nx_asgG {g : TG} (h : EK F G te fun x G1 => GK F g x G1 fun G2 => Nx F G2 D.nx) : Nx F G (tAsg te g D) := fun σ H S => h σ H S _ fun v H' x G' k S' _ d => k σ H' v S' d _ fun σ2 G2 k2 S2 _ => k2 σ2 H' S2
abbrev Fr.at (F : Fr) (B : Hp) : Fr := { F with B0 := B }
theorem Sat.weak {B : Hp} {σ : L2.St} {H : Hp} (e : Ex F.B0 B) (S : Sat (F.at B) G σ H) : Sat F G σ H := ⟨e.trans S.ext, S.zk, S.zn, S.len, S.nd, S.ok⟩
theorem Nx.weak {B : Hp} {P : L2.St → Hp → Prop} (e : Ex F.B0 B) (h : Nx F G P) : Nx (F.at B) G P := fun σ H S => h σ H (S.weak e)
theorem Rt.weak {B : Hp} {x : PyData} {rt : VK} (e : Ex F.B0 B) (h : Rt F G x rt) : Rt (F.at B) G x rt := fun σ H v S d => h σ H v (S.weak e) d
theorem RtO.weak {B : Hp} {xs : List PyData} {rt : VK} (e : Ex F.B0 B) (h : RtO F G xs rt) : RtO (F.at B) G xs rt := fun σ H p vs S e1 d => h σ H p vs (S.weak e) e1 d
theorem nx_forT {g : TG} {tb : TS} (I : Nat → List Sl → Prop) (h : EK F G tl fun x G1 => ∃ xs, x = .tuple xs ∧ I 0 G1 ∧
      (∀ B, Ex F.B0 B → ∀ i x G', xs[i]? = some x → I i G' → GK (F.at B) g x G' fun G2 => Nx (F.at B) G2 (tb { D with nx := NxI (F.at B) (I (i + 1)), ct := NxI (F.at B) (I (i + 1)), bk := D.nx })) ∧
      (∀ G', I xs.length G' → Nx F G' D.nx)) : Nx F G (tFor (iTup F.K tl) g tb D) := fun σ H S => h σ H S _ fun v H1 x G1 ⟨xs, ex, h0, hs, hd⟩ S1 e1 d1 => by
  subst ex
  cases d1 with
  | tup hl ha =>
    have E0 : Ex F.B0 (low F G1 H1) := S1.ext
    have L : ∀ G' σ' H', Sat (F.at (low F G1 H1)) G' σ' H' → SqT F.K H' _ _ := fun G' σ' H' S' => .inl (.inl ((S'.ext.trans low_ex) _ _ hl))
    refine ⟨_, rfl, ⟨_, .inl (.inl (low_ex _ _ hl))⟩, for_tup (Pv := fun i σ' H' => NxI (F.at (low F G1 H1)) (I i) σ' H') ⟨G1, h0, ⟨Ex.refl _, S1.zk, S1.zn, S1.len, S1.nd, S1.ok⟩⟩ (fun i σ' H' _ ⟨G', _, S'⟩ => L G' σ' H' S') (fun i v σ' H' ev ⟨G', hI, S'⟩ => ?_) (fun σ' H' ⟨G', hI, S'⟩ => ?_)⟩
    · obtain ⟨x, ex, dx⟩ := dps_get' ha ev
      exact hs _ E0 i x G' ex hI σ' H' v S' (dp_mono S'.ext dx) _ fun σ2 G2 k2 S2 _ => k2 σ2 H' S2
    · rw [dps_length ha] at hI
      exact hd G' hI σ' H' (S'.weak E0)
theorem nx_forR {g : TG} {tb : TS} (I : Nat → List Sl → Prop) (h : EA F G tr fun xs G1 => ∃ n : Int, xs = [.int n] ∧ n < 2 ^ 62 ∧ -(2 ^ 62) ≤ n ∧ I 0 G1 ∧
      (∀ (i : Nat) G', (i : Int) < n → I i G' → GK F g (.int i) G' fun G2 => Nx F G2 (tb { D with nx := NxI F (I (i + 1)), ct := NxI F (I (i + 1)), bk := D.nx })) ∧
      (∀ G', I n.toNat G' → Nx F G' D.nx)) : Nx F G (tFor (iRng1 tr) g tb D) := fun σ H S => h σ H S _ fun vs H1 xs G1 ⟨n, ex, hn, hn2, h0, hs, hd⟩ S1 e1 d1 => by
  subst ex
  obtain ⟨v, rfl, dd⟩ := dps1 d1
  cases dd
  refine ⟨n, rfl, hn2, hn, for_range (lo := 0) (n := n.toNat) (Pv := fun i σ' H' => NxI F (I i) σ' H') ⟨G1, h0, S1⟩ (fun i σ' H' hi ⟨G', hI, S'⟩ => ?_) (fun σ' H' ⟨G', hI, S'⟩ => hd G' hI σ' H' S')⟩
  rw [Int.zero_add]
  exact hs i G' (by omega) hI σ' H' _ S' (.int _) _ fun σ2 G2 k2 S2 _ => k2 σ2 H' S2
/-- a while: W falls -/
theorem nx_while {t : TT} {tb : TS} (W : Nat → List Sl → Prop) (m0 : Nat) (h0 : W m0 G) (hs : ∀ m G', W m G' → ET F G' t fun b G1 => (b = true → ∃ N : List Sl → Prop, (∀ G2, N G2 → ∃ m', m' < m ∧ W m' G2) ∧ Nx F G1 (tb { D with nx := NxI F N, ct := NxI F N, bk := D.nx })) ∧ (b = false → Nx F G1 D.nx)) : Nx F G (tWhile t tb D) := fun σ H S => by
  refine ⟨fun m σ' H' => NxI F (W m) σ' H', ⟨m0, G, h0, S⟩, fun m σ' H' ⟨G', hw, S'⟩ => ?_⟩
  refine hs m G' hw σ' H' S' _ fun b H1 G1 k S1 _ => ?_
  cases b with
  | true =>
    obtain ⟨N, hN, k⟩ := k.1 rfl
    exact ⟨NxI F N, fun σ2 H2 ⟨G2, n2, S2⟩ => by obtain ⟨m', hm, hw'⟩ := hN G2 n2; exact ⟨m', hm, G2, hw', S2⟩, k σ' H1 S1⟩
  | false => exact k.2 rfl σ' H1 S1
end
end DL
namespace DL
open PySem L2 Evl
abbrev Tr := List PyData → (PyData → Prop) → Prop
abbrev Trs := List PyData → (List PyData → Prop) → Prop
def lim : Nat := 1099511627776
def Grow (B H B' H' : Hp) : Prop := Ex B B' ∧ Ex H H' ∧ Ex B' H' ∧ ∀ b, B b = none → (∃ o, H b = some o) → B' b = none
/-- a def over data -/
def spP (K : PySem.W.Frag) (n : Nat) (T : Tr) : Sp := fun vs H Q _ => ∃ B xs κ, Ex B H ∧ DqAll K B vs xs ∧ xs.length = n ∧ T xs κ ∧ ∀ v H' x B', κ x → Grow B H B' H' → Dq K B' v x → Q v H'
/-- .. that hands back a new list -/
def spPO (K : PySem.W.Frag) (n : Nat) (T : Trs) : Sp := fun vs H Q _ => ∃ B xs κ, Ex B H ∧ DqAll K B vs xs ∧ xs.length = n ∧ T xs κ ∧
  ∀ p ws H' ys B', κ ys → Grow B H B' (del p H') → H' p = some (.lst ws) → DqAll K B' ws ys → Q (.ref p) H'
/-- .. that draws, at most c times -/
def spF (K : PySem.W.Frag) (n c : Nat) (T : Tr) : Sp := fun vs H Q _ => ∃ f us B xs κ A, vs = .ref f :: us ∧ Ex B (del f H) ∧ Feed K B H f A ∧ A + c ≤ lim ∧ DqAll K B us xs ∧ xs.length = n ∧ T xs κ ∧
  ∀ v H' x B', κ x → Grow B (del f H) B' (del f H') → Feed K B' H' f (A + c) → Dq K B' v x → Q v H'
def spFO (K : PySem.W.Frag) (n c : Nat) (T : Trs) : Sp := fun vs H Q _ => ∃ f us B xs κ A, vs = .ref f :: us ∧ Ex B (del f H) ∧ Feed K B H f A ∧ A + c ≤ lim ∧ DqAll K B us xs ∧ xs.length = n ∧ T xs κ ∧
  ∀ p ws H' ys B', κ ys → Grow B (del f H) B' (del f (del p H')) → Feed K B' (del p H') f (A + c) → H' p = some (.lst ws) → DqAll K B' ws ys → Q (.ref p) H'
theorem spP_len {K : PySem.W.Frag} {n : Nat} {T : Tr} {vs : List V} {H : Hp} {Q : VK} {E : XK} (h : spP K n T vs H Q E) : vs.length = n := by
  obtain ⟨B, xs, κ, _, d, hn, _⟩ := h; rw [dps_length d]; exact hn
theorem spPO_len {K : PySem.W.Frag} {n : Nat} {T : Trs} {vs : List V} {H : Hp} {Q : VK} {E : XK} (h : spPO K n T vs H Q E) : vs.length = n := by
  obtain ⟨B, xs, κ, _, d, hn, _⟩ := h; rw [dps_length d]; exact hn
theorem spF_len {K : PySem.W.Frag} {n c : Nat} {T : Tr} {vs : List V} {H : Hp} {Q : VK} {E : XK} (h : spF K n c T vs H Q E) : vs.length = n + 1 := by
  obtain ⟨f, us, B, xs, κ, A, rfl, _, _, _, d, hn, _⟩ := h; rw [List.length_cons, dps_length d, hn]
theorem spFO_len {K : PySem.W.Frag} {n c : Nat} {T : Trs} {vs : List V} {H : Hp} {Q : VK} {E : XK} (h : spFO K n c T vs H Q E) : vs.length = n + 1 := by
  obtain ⟨f, us, B, xs, κ, A, rfl, _, _, _, d, hn, _⟩ := h; rw [List.length_cons, dps_length d, hn]
abbrev frP (K : PySem.W.Frag) (B H : Hp) : Fr := ⟨K, B, fun b => B b = none ∧ ∃ o, H b = some o, H, fun _ h => h.2⟩
theorem map_getD (xs : List PyData) (m i : Nat) (s : Sl) (h : (xs.map Sl.d ++ List.replicate m Sl.any)[i]? = some s) : (∃ x, xs[i]? = some x ∧ s = .d x) ∨ s = .any := by
  rw [List.getElem?_append] at h
  split at h
  · rw [List.getElem?_map] at h
    cases q : xs[i]? with
    | none => rw [q] at h; cases h
    | some x => rw [q] at h; exact .inl ⟨x, rfl, (Option.some.inj h).symm⟩
  · rw [List.getElem?_replicate] at h
    split at h
    · exact .inr (Option.some.inj h).symm
    · cases h
theorem ads_start (xs : List PyData) (m : Nat) : ads (xs.map Sl.d ++ List.replicate m Sl.any) = [] := by
  unfold ads
  rw [List.flatMap_eq_nil_iff]
  intro s hs
  rcases List.mem_append.mp hs with h | h
  · obtain ⟨x, _, rfl⟩ := List.mem_map.mp h; rfl
  · rw [(List.mem_replicate.mp h).2]; rfl
theorem start_getD {N : List Str} {vs : List V} {i : Nat} {v : V} (h : vs[i]? = some v) : (L2.start N vs).getD i none = some v := by
  unfold L2.start
  have hi := (List.getElem?_eq_some_iff.mp h).1
  rw [List.getD_eq_getElem?_getD, List.getElem?_append_left (by rw [List.length_map]; exact hi), List.getElem?_map, h]; rfl
theorem start_len {N : List Str} {vs : List V} (h : vs.length ≤ N.length) : (L2.start N vs).length = N.length := by
  unfold L2.start
  rw [List.length_append, List.length_map, List.length_replicate]; omega
theorem sat_start {K : PySem.W.Frag} {B H : Hp} {vs : List V} {xs : List PyData} {N : List Str} (hB : Ex B H) (d : DqAll K B vs xs) (hl : xs.length ≤ N.length) :
    Sat (frP K B H) (xs.map Sl.d ++ List.replicate (N.length - xs.length) Sl.any) (L2.start N vs) H := by
  have ea := ads_start xs (N.length - xs.length)
  have eB : Ex B (low (frP K B H) (xs.map Sl.d ++ List.replicate (N.length - xs.length) Sl.any) H) := fun b o e => by
    rw [low_out (fun z => by have := z.1; rw [e] at this; cases this) (by rw [ea]; simp)]
    exact hB b o e
  refine ⟨eB, fun b o _ e => e, fun b hb => (by rw [ea] at hb; cases hb), ?_, by rw [ea]; exact List.nodup_nil, fun i s hs => ?_⟩
  · rw [start_len (by rw [dps_length d]; exact hl), List.length_append, List.length_map, List.length_replicate]; omega
  · rcases map_getD xs _ i s hs with ⟨x, ex, rfl⟩ | rfl
    · obtain ⟨v, ev, dv⟩ := dps_get d ex
      exact ⟨v, start_getD ev, dp_mono eB dv⟩
    · trivial
theorem grow_end {K : PySem.W.Frag} {B H H' : Hp} {G : List Sl} {σ : L2.St} (hB : Ex B H) (S : Sat (frP K B H) G σ H') : Grow B H (low (frP K B H) G H') H' := by
  refine ⟨S.ext, fun b o e => ?_, low_ex, fun b h1 h2 => low_z ⟨h1, h2⟩⟩
  cases q : B b with
  | none => exact S.zk b o ⟨q, o, e⟩ e
  | some u =>
    have := hB b u q
    rw [e] at this; cases this
    exact low_ex b _ (S.ext b _ q)
theorem rtP {K : PySem.W.Frag} {B H : Hp} {Q : VK} {κ : PyData → Prop} (hB : Ex B H) (hq : ∀ v H' x B', κ x → Grow B H B' H' → Dq K B' v x → Q v H') {G : List Sl} {x : PyData} (k : κ x) : Rt (frP K B H) G x Q :=
  fun σ H' v S d => hq v H' x _ k (grow_end hB S) d
theorem rtPO {K : PySem.W.Frag} {B H : Hp} {Q : VK} {κ : List PyData → Prop} (hB : Ex B H) (hq : ∀ p ws H' ys B', κ ys → Grow B H B' (del p H') → H' p = some (.lst ws) → DqAll K B' ws ys → Q (.ref p) H') {G : List Sl} {xs : List PyData} (k : κ xs) :
    RtO (frP K B H) G xs Q := fun σ H' p vs S hp d => hq p vs H' xs _ k (grow_end hB S) hp d
/-- return of a slot's own list -/
theorem nx_retOwn {F : Fr} {G : List Sl} {D : Ends} {i : Nat} {p : Addr} {xs : List PyData} (hi : G[i]? = some (.own p xs)) (h : RtO F (G.set i .any) xs D.rt) : Nx F G (tRet (tVar i) D) := fun σ H S => by
  obtain ⟨e, vs, hp, hd⟩ := S.ownd hi
  refine ⟨.ref p, e, ?_⟩
  have hs : ∀ b, b ∈ ads (G.set i .any) → b ∈ ads G := fun b hb => (ads_set_sub (s := .any) rfl G i).subset hb
  have hil : i < G.length := (List.getElem?_eq_some_iff.mp hi).1
  have np : p ∉ ads (G.set i .any) := fun z => by
    obtain ⟨s, hs, es⟩ := List.mem_flatMap.mp z
    obtain ⟨j, hj⟩ := List.getElem?_of_mem hs
    rw [List.getElem?_set] at hj
    by_cases q : i = j
    · rw [if_pos q, if_pos hil] at hj; cases hj; cases es
    · rw [if_neg q] at hj
      exact two_ads G i j _ s p hi hj q List.mem_cons_self es S.nd
  have e2 : Ex (low F G H) (low F (G.set i .any) (del p H)) := fun b o q => by
    obtain ⟨q1, q2, q3⟩ := low_some q
    rw [low_out q2 fun z => q3 (hs b z), del_ne fun z => q3 (by rw [z]; exact ads_mem hi rfl)]
    exact q1
  have zp : ¬ F.Z p := S.zn p (ads_mem hi rfl)
  have S' : Sat F (G.set i .any) (σ.set i none) (del p H) := by
    have T := S.forget i none
    refine ⟨S.ext.trans e2, fun b o z q => ?_, T.zn, T.len, T.nd, fun j s hj => ?_⟩
    · rw [del_ne fun y => zp (by rw [← y]; exact z)]; exact S.zk b o z q
    · rw [List.getElem?_set] at hj
      by_cases q : i = j
      · rw [if_pos q, if_pos hil] at hj; cases hj; trivial
      · rw [if_neg q] at hj
        have z : (σ.set i none).getD j none = σ.getD j none := by
          rw [List.getD_eq_getElem?_getD, List.getElem?_set, if_neg q, ← List.getD_eq_getElem?_getD]
        rw [z]
        refine slok_mono e2 (fun b o hb hh => ?_) (S.ok j s hj)
        have nb : b ≠ p := fun y => by subst y; exact two_ads G i j _ s b hi hj q List.mem_cons_self hb S.nd
        rw [del_ne nb]; exact hh
  exact h _ _ p vs S' hp (dps_mono e2 hd)
abbrev frF (K : PySem.W.Frag) (B H : Hp) (f : Addr) : Fr := frP K B (del f H)
theorem sat_startF {K : PySem.W.Frag} {B H : Hp} {f : Addr} {us : List V} {xs : List PyData} {N : List Str} {A : Nat} (hB : Ex B (del f H)) (hf : Feed K B H f A) (d : DqAll K B us xs) (hl : xs.length + 1 ≤ N.length) :
    Sat (frF K B H f) (Sl.fd f A :: (xs.map Sl.d ++ List.replicate (N.length - (xs.length + 1)) Sl.any)) (L2.start N (.ref f :: us)) H := by
  have ea : ads (Sl.fd f A :: (xs.map Sl.d ++ List.replicate (N.length - (xs.length + 1)) Sl.any)) = [f] := by
    show f :: ads _ = [f]
    rw [ads_start]
  have eB : Ex B (low (frF K B H f) (Sl.fd f A :: (xs.map Sl.d ++ List.replicate (N.length - (xs.length + 1)) Sl.any)) H) := fun b o e => by
    have e' := hB b o e
    have nb : b ≠ f := fun y => by subst y; rw [del_same] at e'; cases e'
    rw [low_out (fun z => by have := z.1; rw [e] at this; cases this) (by rw [ea]; simpa using nb)]
    rw [del_ne nb] at e'; exact e'
  refine ⟨eB, fun b o _ e => del_ex b o e, fun b hb => ?_, ?_, by rw [ea]; simp, fun i s hs => ?_⟩
  · rw [ea] at hb
    obtain rfl : b = f := by simpa using hb
    rintro ⟨_, o, e⟩
    rw [del_same] at e; cases e
  · rw [start_len (by rw [List.length_cons, dps_length d]; exact hl), List.length_cons, List.length_append, List.length_map, List.length_replicate]; omega
  · cases i with
    | zero =>
      have e : Sl.fd f A = s := by simpa using hs
      subst e
      exact ⟨rfl, feed_mono eB (fun _ z => z) (Nat.le_refl _) hf⟩
    | succ i =>
      have hs' : (xs.map Sl.d ++ List.replicate (N.length - (xs.length + 1)) Sl.any)[i]? = some s := by simpa using hs
      rcases map_getD xs _ i s hs' with ⟨x, ex, rfl⟩ | rfl
      · obtain ⟨v, ev, dv⟩ := dps_get d ex
        exact ⟨v, start_getD (by simpa using ev), dp_mono eB dv⟩
      · trivial
theorem grow_endF {K : PySem.W.Frag} {B H H' : Hp} {f : Addr} {G : List Sl} {σ : L2.St} (hf : f ∈ ads G) (hB : Ex B (del f H)) (S : Sat (frF K B H f) G σ H') : Grow B (del f H) (low (frF K B H f) G H') (del f H') := by
  refine ⟨S.ext, fun b o e => ?_, fun b o e => ?_, fun b h1 h2 => low_z ⟨h1, h2⟩⟩
  · have nb : b ≠ f := fun y => by subst y; rw [del_same] at e; cases e
    rw [del_ne nb]
    cases q : B b with
    | none => exact S.zk b o ⟨q, o, e⟩ e
    | some u =>
      have := hB b u q
      rw [e] at this; cases this
      exact low_ex b _ (S.ext b _ q)
  · obtain ⟨e1, e2, e3⟩ := low_some e
    rw [del_ne fun y => e3 (by rw [y]; exact hf)]
    exact e1
theorem rtF {K : PySem.W.Frag} {B H : Hp} {f : Addr} {Q : VK} {κ : PyData → Prop} {A c : Nat} (hB : Ex B (del f H))
    (hq : ∀ v H' x B', κ x → Grow B (del f H) B' (del f H') → Feed K B' H' f (A + c) → Dq K B' v x → Q v H') {G : List Sl} {x : PyData} {A' : Nat} (hG : G[0]? = some (.fd f A')) (hA : A' ≤ A + c) (k : κ x) : Rt (frF K B H f) G x Q :=
  fun σ H' v S d => hq v H' x _ k (grow_endF (ads_mem hG rfl) hB S) (feed_mono (Ex.refl _) (fun _ z => z) hA (S.feed hG).2) d
theorem rtFO {K : PySem.W.Frag} {B H : Hp} {f : Addr} {Q : VK} {κ : List PyData → Prop} {A c : Nat} (hB : Ex B (del f H))
    (hq : ∀ p ws H' ys B', κ ys → Grow B (del f H) B' (del f (del p H')) → Feed K B' (del p H') f (A + c) → H' p = some (.lst ws) → DqAll K B' ws ys → Q (.ref p) H') {G : List Sl} {xs : List PyData} {A' : Nat} (hG : G[0]? = some (.fd f A')) (hA : A' ≤ A + c) (k : κ xs) :
    RtO (frF K B H f) G xs Q :=
  fun σ H' p vs S hp d => hq p vs H' xs _ k (grow_endF (ads_mem hG rfl) hB S) (feed_mono (Ex.refl _) (fun _ z => z) hA (S.feed hG).2) hp d
section
variable {F : Fr} {G : List Sl} {κ : Kp} {α : Kps} {ta : TA} {n c : Nat} {E : XK}
theorem grow_low {σ : L2.St} {H H' B' : Hp} (S : Sat F G σ H) (g : Grow (low F G H) H B' H') : Ex B' (low F G H') := fun b o e => by
  have e1 := g.2.2.1 b o e
  rw [low_out (fun z => ?_) fun z => ?_]
  · exact e1
  · obtain ⟨u, hu⟩ := F.zh b z
    have := g.2.2.2 b (low_z z) ⟨u, S.zk b u z hu⟩
    rw [e] at this; cases this
  · obtain ⟨vs, hv⟩ := S.at_ z
    have := g.2.2.2 b (low_in z) ⟨_, hv⟩
    rw [e] at this; cases this
theorem ek_callP {T : Tr} (h : EA F G ta fun xs G1 => xs.length = n ∧ T xs fun x => κ x G1) : EK F G (tCall (spP F.K n T) [] E ta) κ := fun σ H S Q q =>
  h σ H S _ fun vs H1 xs G1 ⟨hn, k⟩ S1 e1 d1 => by
    show spP F.K n T (vs ++ []) H1 Q E
    rw [List.append_nil]
    exact ⟨low F G1 H1, xs, fun x => κ x G1, low_ex, d1, hn, k, fun v H' x B' kx g d => q v H' x G1 kx (S1.ex g.2.1) (e1.trans (low_mono g.2.1)) (dp_mono (grow_low S1 g) d)⟩
theorem eo_callP {T : Trs} (h : EA F G ta fun xs G1 => xs.length = n ∧ T xs fun x => α x G1) : EO F G (tCall (spPO F.K n T) [] E ta) α := fun σ H S Q q =>
  h σ H S _ fun vs H1 xs G1 ⟨hn, k⟩ S1 e1 d1 => by
    show spPO F.K n T (vs ++ []) H1 Q E
    rw [List.append_nil]
    exact ⟨low F G1 H1, xs, fun x => α x G1, low_ex, d1, hn, k, fun p ws H' ys B' kx g hp d => q p ws H' ys G1 kx (S1.ex g.2.1) (e1.trans (low_mono g.2.1)) hp (dps_mono (grow_low S1 g) d)⟩
/-- behind a call that drew -/
theorem sat_drawn {σ : L2.St} {H H' B' : Hp} {i : Nat} {f : Addr} {A A' : Nat} (S : Sat F G σ H) (hi : G[i]? = some (.fd f A)) (g : Grow (low F G H) (del f H) B' (del f H')) (hf : Feed F.K B' H' f A') :
    Sat F (G.set i (.fd f A')) σ H' ∧ Ex (low F G H) (low F (G.set i (.fd f A')) H') ∧ Ex B' (low F (G.set i (.fd f A')) H') := by
  have hp : f ∈ ads G := ads_mem hi rfl
  have ea : ads (G.set i (.fd f A')) = ads G := ads_set_same G i _ hi rfl
  have el : ∀ H, low F (G.set i (.fd f A')) H = low F G H := fun H => low_ads ea
  have keep : ∀ b o, b ≠ f → H b = some o → H' b = some o := fun b o nb e => by
    have := g.2.1 b o (by rw [del_ne nb]; exact e)
    rw [del_ne nb] at this; exact this
  have eG : Ex (low F G H) (low F G H') := fun b o e => by
    obtain ⟨e1, e2, e3⟩ := low_some e
    rw [low_out e2 e3]
    exact keep b o (fun y => e3 (by rw [y]; exact hp)) e1
  have eB : Ex B' (low F G H') := fun b o e => by
    have e1 := g.2.2.1 b o e
    have nb : b ≠ f := fun y => by subst y; rw [del_same] at e1; cases e1
    rw [del_ne nb] at e1
    rw [low_out (fun z => ?_) fun z => ?_]
    · exact e1
    · obtain ⟨u, hu⟩ := F.zh b z
      have := g.2.2.2 b (low_z z) ⟨u, by rw [del_ne nb]; exact S.zk b u z hu⟩
      rw [e] at this; cases this
    · obtain ⟨vs, hv⟩ := S.at_ z
      have := g.2.2.2 b (low_in z) ⟨_, by rw [del_ne nb]; exact hv⟩
      rw [e] at this; cases this
  refine ⟨⟨by rw [el]; exact S.ext.trans eG, fun b o z q => keep b o (fun y => S.zn f hp (by rw [← y]; exact z)) (S.zk b o z q), by rw [ea]; exact S.zn, by rw [List.length_set]; exact S.len, by rw [ea]; exact S.nd, fun j s hj => ?_⟩, by rw [el]; exact eG, by rw [el]; exact eB⟩
  rw [el]
  rw [List.getElem?_set] at hj
  by_cases q : i = j
  · rw [if_pos q, if_pos (List.getElem?_eq_some_iff.mp hi).1] at hj
    cases hj
    subst q
    exact ⟨(S.ok i _ hi).1, feed_mono eB (fun _ z => z) (Nat.le_refl _) hf⟩
  · rw [if_neg q] at hj
    exact slok_mono eG (fun b o hb e => keep b o (fun y => by subst y; exact two_ads G i j _ s b hi hj q List.mem_cons_self hb S.nd) e) (S.ok j s hj)
theorem ek_callF {T : Tr} {i : Nat} (hi : ∃ f A, G[i]? = some (.fd f A)) (h : EA F G ta fun xs G1 => ∃ f A, G[i]? = some (.fd f A) ∧ ∃ A1, G1[i]? = some (.fd f A1) ∧ A1 + c ≤ lim ∧ xs.length = n ∧ T xs fun x => κ x (G1.set i (.fd f (A1 + c)))) :
    EK F G (tCall (spF F.K n c T) [] E (tCons (tVar i) ta)) κ := fun σ H S Q q => by
  obtain ⟨f, A, hi⟩ := hi
  refine ⟨.ref f, (S.feed hi).1, h σ H S _ fun vs H1 xs G1 ⟨f', A', hi', A1, h1, hl, hn, k⟩ S1 e1 d1 => ?_⟩
  rw [hi] at hi'; cases hi'
  show spF F.K n c T ((.ref f :: vs) ++ []) H1 Q E
  rw [List.append_nil]
  have hp : f ∈ ads G1 := ads_mem h1 rfl
  refine ⟨f, vs, low F G1 H1, xs, fun x => κ x (G1.set i (.fd f (A1 + c))), A1, rfl, fun b o e => ?_, (S1.feed h1).2, hl, d1, hn, k, fun v H' x B' kx g hf d => ?_⟩
  · obtain ⟨e1, e2, e3⟩ := low_some e
    rw [del_ne fun y => e3 (by rw [y]; exact hp)]; exact e1
  · obtain ⟨S2, e2, eB⟩ := sat_drawn S1 h1 g hf
    exact q v H' x _ kx S2 (e1.trans e2) (dp_mono eB d)
theorem eo_callF {T : Trs} {i : Nat} (hi : ∃ f A, G[i]? = some (.fd f A)) (h : EA F G ta fun xs G1 => ∃ f A, G[i]? = some (.fd f A) ∧ ∃ A1, G1[i]? = some (.fd f A1) ∧ A1 + c ≤ lim ∧ xs.length = n ∧ T xs fun ys => α ys (G1.set i (.fd f (A1 + c)))) :
    EO F G (tCall (spFO F.K n c T) [] E (tCons (tVar i) ta)) α := fun σ H S Q q => by
  obtain ⟨f, A, hi⟩ := hi
  refine ⟨.ref f, (S.feed hi).1, h σ H S _ fun vs H1 xs G1 ⟨f', A', hi', A1, h1, hl, hn, k⟩ S1 e1 d1 => ?_⟩
  rw [hi] at hi'; cases hi'
  show spFO F.K n c T ((.ref f :: vs) ++ []) H1 Q E
  rw [List.append_nil]
  have hp : f ∈ ads G1 := ads_mem h1 rfl
  refine ⟨f, vs, low F G1 H1, xs, fun x => α x (G1.set i (.fd f (A1 + c))), A1, rfl, fun b o e => ?_, (S1.feed h1).2, hl, d1, hn, k, fun p ws H' ys B' kx g hf hpw d => ?_⟩
  · obtain ⟨e1, e2, e3⟩ := low_some e
    rw [del_ne fun y => e3 (by rw [y]; exact hp)]; exact e1
  · obtain ⟨S2, e2, eB⟩ := sat_drawn S1 h1 g hf
    exact q p ws H' ys _ kx S2 (e1.trans e2) hpw (dps_mono eB d)
theorem dps_ints_inv {K : PySem.W.Frag} {B : Hp} : ∀ {ns : List Int} {vs : List V}, DqAll K B vs (ns.map PyData.int) → vs = ns.map V.int
  | [], _, .nil => rfl
  | n :: r, _, .cons h t => by cases h; rw [dps_ints_inv t]; rfl
def feedL (ns : List Int) (a r u : Int) : List (Key × PyData) := [(Sum.inr "cells", .list (ns.map .int)), (Sum.inr "at", .int a), (Sum.inr "left", .int r), (Sum.inr "turn", .int u)]
theorem four_keys {ws : List (Key × V)} {a b c d : Key} (h : ws.map (·.1) = [a, b, c, d]) : ∃ v1 v2 v3 v4, ws = [(a, v1), (b, v2), (c, v3), (d, v4)] := by
  match ws, h with
  | [(_, v1), (_, v2), (_, v3), (_, v4)], h =>
    simp only [List.map_cons, List.map_nil, List.cons.injEq, and_true] at h
    obtain ⟨rfl, rfl, rfl, rfl⟩ := h
    exact ⟨_, _, _, _, rfl⟩
  | [], h => simp at h
  | [_], h => simp at h
  | [_, _], h => simp at h
  | [_, _, _], h => simp at h
  | _ :: _ :: _ :: _ :: _ :: _, h => simp at h
theorem nx_open {P : L2.St → Hp → Prop} {i : Nat} {f : Addr} {A : Nat} (hi : G[i]? = some (.fd f A))
    (h : ∀ (at_ rest turn : Int) (ns : List Int), ns.length ≤ 63 → 0 ≤ at_ → at_ ≤ (A : Int) → 0 ≤ rest → Nx F (G.set i (.dic f (feedL ns at_ rest turn))) P) : Nx F G P := fun σ H S => by
  obtain ⟨e, l, a, r, u, ns, hp, hs, h1, h2, h3, h4⟩ := S.feed hi
  refine h a r u ns h1 h2 h3 h4 σ H ?_
  refine S.retell hi rfl fun v ⟨ev, _⟩ => ⟨ev, _, hp, rfl, .cons (.lst hs (dps_ints ns)) (.cons (.int a) (.cons (.int r) (.cons (.int u) .nil)))⟩
theorem sat_close {σ : L2.St} {H : Hp} {i : Nat} {f : Addr} {A : Nat} {at_ rest turn : Int} {ns : List Int} (hi : G[i]? = some (.dic f (feedL ns at_ rest turn))) (h1 : ns.length ≤ 63) (h2 : 0 ≤ at_) (h3 : at_ ≤ (A : Int)) (h4 : 0 ≤ rest)
    (S : Sat F G σ H) : Sat F (G.set i (.fd f A)) σ H := by
  refine S.retell hi rfl fun v ⟨ev, ws, hp, hk, hd⟩ => ⟨ev, ?_⟩
  have hk' : ws.map (·.1) = [(Sum.inr "cells" : Key), Sum.inr "at", Sum.inr "left", Sum.inr "turn"] := hk
  obtain ⟨v1, v2, v3, v4, rfl⟩ := four_keys hk'
  have hd : DqAll F.K (low F G H) [v1, v2, v3, v4] [.list (ns.map .int), .int at_, .int rest, .int turn] := hd
  cases hd with
  | cons d1 t1 => cases t1 with
    | cons d2 t2 => cases t2 with
      | cons d3 t3 => cases t3 with
        | cons d4 t4 =>
        cases t4; cases d2; cases d3; cases d4
        cases d1 with
        | lst hs ha =>
          rw [dps_ints_inv ha] at hs
          exact ⟨_, at_, rest, turn, ns, hp, hs, h1, h2, h3, h4⟩
theorem rt_close {x : PyData} {rt : VK} {i : Nat} {f : Addr} (A : Nat) {at_ rest turn : Int} {ns : List Int} (hi : G[i]? = some (.dic f (feedL ns at_ rest turn))) (h1 : ns.length ≤ 63) (h2 : 0 ≤ at_) (h3 : at_ ≤ (A : Int)) (h4 : 0 ≤ rest)
    (h : Rt F (G.set i (.fd f A)) x rt) : Rt F G x rt := fun σ H v S d => h σ H v (sat_close hi h1 h2 h3 h4 S) (by rw [low_ads (ads_set_same (s := .fd f A) G i _ hi rfl)]; exact d)
theorem nx_conv {P : L2.St → Hp → Prop} {G' : List Sl} (e : G = G') (h : Nx F G' P) : Nx F G P := by rw [e]; exact h
end
def spLaw (K : PySem.W.Frag) : Sp := fun vs H Q _ => ∃ (a : Addr) (ns : List Int), vs = [.ref a] ∧ SqL K H a (ns.map V.int) ∧ ns.length ≤ 63 ∧ ∀ H', Q (.bl true) H'
theorem spLaw_len {K : PySem.W.Frag} {vs : List V} {H : Hp} {Q : VK} {E : XK} (h : spLaw K vs H Q E) : vs.length = 1 := by obtain ⟨a, ns, rfl, _⟩ := h; rfl
theorem rtLaw {F : Fr} {Q : VK} (hq : ∀ H', Q (.bl true) H') {G : List Sl} : Rt F G (.bool true) Q := fun σ H v S d => by cases d; exact hq H
/-- what makes the feed: of the script -/
def spMk (K : PySem.W.Frag) : Sp := fun vs H Q _ => ∃ (a : Addr) (ns : List Int) (B : Hp), vs = [.ref a] ∧ Ex B H ∧ SqL K B a (ns.map V.int) ∧ ns.length ≤ 63 ∧
  ∀ p ws H' B', Grow B H B' (del p H') → H' p = some (.dK ws) → ws.map (·.1) = (feedL ns 0 0 0).map (·.1) → DqAll K B' (ws.map (·.2)) ((feedL ns 0 0 0).map (·.2)) → Q (.ref p) H'
theorem spMk_len {K : PySem.W.Frag} {vs : List V} {H : Hp} {Q : VK} {E : XK} (h : spMk K vs H Q E) : vs.length = 1 := by obtain ⟨a, ns, B, rfl, _⟩ := h; rfl
theorem nx_callMk {F : Fr} {G : List Sl} {D : Ends} {E : XK} {i j : Nat} {a : Addr} {ns : List Int} (hi : G[i]? = some (.scr a ns)) (hn : ns.length ≤ 63) (hj : j < G.length) (k : ∀ p, Nx F (G.set j (.fd p 0)) D.nx) : Nx F G (tAsg (tCall (spMk F.K) [] E (tCons (tVar i) tNil)) (gName j) D) := fun σ H S => by
  refine ⟨.ref a, getD_some (S.ok i _ hi).1, ?_⟩
  refine ⟨a, ns, low F G H, rfl, low_ex, (S.ok i _ hi).2, hn, fun p ws H' B' g hp hk hd => ?_⟩
  have S2 : Sat F G σ (del p H') := S.ex g.2.1
  have S3 : Sat F (G.set j (.dic p (feedL ns 0 0 0))) (σ.set j (some (.ref p))) H' := S2.setNew (s' := .dic p (feedL ns 0 0 0)) hj rfl ⟨rfl, ws, hp, hk, dps_mono (grow_low S g) hd⟩
  have hi2 : (G.set j (.dic p (feedL ns 0 0 0)))[j]? = some (.dic p (feedL ns 0 0 0)) := by rw [List.getElem?_set, if_pos rfl, if_pos hj]
  have S4 := sat_close (A := 0) hi2 hn (Int.le_refl 0) (Int.le_refl 0) (Int.le_refl 0) S3
  rw [List.set_set] at S4
  exact k p _ _ S4
theorem sat_mk {K : PySem.W.Frag} {B H : Hp} {a : Addr} {ns : List Int} {N : List Str} (hB : Ex B H) (hS : SqL K B a (ns.map V.int)) (hl : 1 ≤ N.length) :
    Sat (frP K B H) (.scr a ns :: List.replicate (N.length - 1) Sl.any) (L2.start N [.ref a]) H := by
  have ea : ads (.scr a ns :: List.replicate (N.length - 1) Sl.any) = [] := ads_start [] (N.length - 1)
  have eB : Ex B (low (frP K B H) (.scr a ns :: List.replicate (N.length - 1) Sl.any) H) := fun b o e => by
    rw [low_out (fun z => by have := z.1; rw [e] at this; cases this) (by rw [ea]; simp)]
    exact hB b o e
  refine ⟨eB, fun b o _ e => e, fun b hb => (by rw [ea] at hb; cases hb), ?_, by rw [ea]; exact List.nodup_nil, fun i s hs => ?_⟩
  · rw [start_len (by simpa using hl), List.length_cons, List.length_replicate]; omega
  · cases i with
    | zero =>
      have e : Sl.scr a ns = s := by simpa using hs
      subst e
      exact ⟨rfl, ex_l eB hS⟩
    | succ i =>
      have hs' : (List.replicate (N.length - 1) Sl.any)[i]? = some s := by simpa using hs
      rw [List.getElem?_replicate] at hs'
      split at hs'
      · cases hs'; trivial
      · cases hs'
end DL
namespace DL
open PySem L2 Evl
section
variable {X : Cx} {K : PySem.W.Frag}
theorem isi' (h : X.K = K) : CallR X (.builtin "isinstance") (rIsi K) := by subst h; exact call_isi
theorem len' (h : X.K = K) : CallR X (.builtin "len") (fun xs H Q => ∃ p ys, xs = [.ref p] ∧ (SqL K H p ys ∨ SqT K H p ys) ∧ Q (.int ys.length) H) := by subst h; exact call_len_seq
theorem lof' (h : X.K = K) : CallR X (.type "list") (fun xs H Q => ∃ p ys, xs = [.ref p] ∧ (SqL K H p ys ∨ SqT K H p ys) ∧ ∀ l, H l = none → Q (.ref l) (upd H l (.lst ys))) := by subst h; exact call_list_of
theorem tof' (h : X.K = K) : CallR X (.type "tuple") (fun xs H Q => ∃ p ys, xs = [.ref p] ∧ ((SqL K H p ys ∧ ∀ l, H l = none → Q (.ref l) (upd H l (.tup ys))) ∨ (SqT K H p ys ∧ Q (.ref p) H))) := by subst h; exact call_tuple_of
theorem ixl' (h : X.K = K) : IxR X (rIxL K) := by subst h; exact ix_list
theorem ixt' (h : X.K = K) : IxR X (rIxT K) := by subst h; exact ix_tup
theorem sll' (h : X.K = K) : SlR X (rSlL K) := by subst h; exact sl_list
theorem eqd' (hu : X.A.units + 64 < cLine) (h : X.K = K) : OpR X (compareOp .Eq) (rEqD K) := by subst h; exact op_eqD hu
theorem ned' (hu : X.A.units + 64 < cLine) (h : X.K = K) : OpR X (compareOp .NotEq) (rNeD K) := by subst h; exact op_neD hu
theorem plist' {tg l : Expr} {tl : TE} (h : X.K = K) (hl : PE X l tl) : PI X tg l (iList K tl) := by subst h; exact pi_list hl
theorem ptup' {tg l : Expr} {tl : TE} (h : X.K = K) (hl : PE X l tl) : PI X tg l (iTup K tl) := by subst h; exact pi_tup hl
theorem gtup' {es : List Expr} {k : Nat} {t : TGs} {n : Nat} {pos : Pos} (h0 : X.K = K) (hc : X.calm = true) (h : PGs X es t)
    (hn : (assignEach es X.env).length = n := by rfl) (hst : (assignEach es X.env).findIdx? (·.1) = none := by rfl) : PG X (.Tuple es k pos) (gTup K n t) := by subst h0; exact pg_tup hc h hn hst
end
/-- the slot's list is its own from here on -/
def tOwn (t : TS) : TS := t
theorem ps_own {X : Cx} {st : Stmt} {t : TS} (h : PS X st t) : PS X st (tOwn t) := h
section
variable {F : Fr} {G : List Sl} {κ : Kp} {ta tb te tl : TE} {r : R2} {D : Ends} {s1 s2 : TS} {tr : TA} {α : Kps} {xs : List PyData}
/-- what stands behind a statement, once for all its ways -/
theorem nx_cut (J : List Sl → Prop) (h : Nx F G (s1 { D with nx := NxI F J })) (k : ∀ G', J G' → Nx F G' (s2 D)) : Nx F G (C8.tCut s1 s2 D) := fun σ H S =>
  ⟨NxI F J, h σ H S, fun σ' H' ⟨G', hJ, S'⟩ => k G' hJ σ' H' S'⟩
theorem nx_own {i : Nat} (h : EO F G te fun xs G' => i < G'.length ∧ ∀ p, Nx F (G'.set i (.own p xs)) D.nx) : Nx F G (tOwn (tAsg te (gName i)) D) := nx_asgO h
theorem enterP {K : PySem.W.Frag} {B H : Hp} {vs : List V} {xs : List PyData} {N : List Str} {P : L2.St → Hp → Prop} (hB : Ex B H) (d : DqAll K B vs xs) (hl : xs.length ≤ N.length)
    (h : Nx (frP K B H) (xs.map Sl.d ++ List.replicate (N.length - xs.length) Sl.any) P) : P (L2.start N vs) H := h _ _ (sat_start hB d hl)
theorem enterF {K : PySem.W.Frag} {B H : Hp} {f : Addr} {us : List V} {xs : List PyData} {N : List Str} {A : Nat} {P : L2.St → Hp → Prop} (hB : Ex B (del f H)) (hf : Feed K B H f A) (d : DqAll K B us xs) (hl : xs.length + 1 ≤ N.length)
    (h : Nx (frF K B H f) (Sl.fd f A :: (xs.map Sl.d ++ List.replicate (N.length - (xs.length + 1)) Sl.any)) P) : P (L2.start N (.ref f :: us)) H := h _ _ (sat_startF hB hf d hl)
theorem enterL {K : PySem.W.Frag} {B H : Hp} {a : Addr} {ns : List Int} {N : List Str} {P : L2.St → Hp → Prop} (hB : Ex B H) (hS : SqL K B a (ns.map V.int)) (hl : 1 ≤ N.length)
    (h : Nx (frP K B H) (.scr a ns :: List.replicate (N.length - 1) Sl.any) P) : P (L2.start N [.ref a]) H := h _ _ (sat_mk hB hS hl)
def tyD : PyData → String
  | .none => "NoneType"
  | .bool _ => "bool"
  | .int _ => "int"
  | .str _ => "str"
  | .list _ => "list"
  | .tuple _ => "tuple"
  | .dict _ => "dict"
theorem tyx_of {K : PySem.W.Frag} {H : Hp} {v : V} {x : PyData} (h : Dq K H v x) : TyX K H v (.type (tyD x)) := by
  cases h with
  | non => exact .base .non
  | bl b => exact .base (.bl b)
  | int i => exact .base (.int i)
  | str z => exact .base (.str z)
  | lst h _ => exact .base (.lst h)
  | tup h _ => exact .base (.tup h)
  | dct h _ => exact .base (.dK h)
theorem rk_cat {x y : PyData} (h : ∃ ds es, x = .list ds ∧ y = .list es ∧ ds.length + es.length ≤ 1000000 ∧ κ (.list (ds ++ es)) G) : RK F rCat x y G κ := fun σ H v u S dv du Q q => by
  obtain ⟨ds, es, rfl, rfl, hl, k⟩ := h
  cases dv with
  | @lst a1 v1 _ h1 a1' => cases du with
    | @lst a2 v2 _ h2 a2' =>
      refine ⟨_, _, v1, v2, rfl, rfl, low_ex _ _ h1, low_ex _ _ h2, Nat.le_trans (by rw [dps_length a1', dps_length a2']; exact hl) (by decide), fun p hp => ?_⟩
      exact q _ _ _ G k (S.ex (upd_ex hp)) (low_mono (upd_ex hp)) (.lst (low_new S hp) (dps_mono (low_mono (upd_ex hp)) (dps_append a1' a2')))
theorem wipe_getD (σ : L2.St) : ∀ (vs : List Nat) (j : Nat), j ∉ vs → (wipe σ vs).getD j none = σ.getD j none
  | [], _, _ => rfl
  | i :: r, j, h => by
    show ((wipe σ r).set i none).getD j none = _
    rw [List.getD_eq_getElem?_getD, List.getElem?_set, if_neg fun e => h (by rw [e]; exact List.mem_cons_self), ← List.getD_eq_getElem?_getD]
    exact wipe_getD σ r j fun z => h (List.mem_cons_of_mem _ z)
theorem wipe_in (σ : L2.St) : ∀ (vs : List Nat) (j : Nat), j ∈ vs → j < σ.length → (wipe σ vs)[j]? = some none
  | i :: r, j, h, hl => by
    show ((wipe σ r).set i none)[j]? = _
    rw [List.getElem?_set, wipe_length]
    by_cases e : i = j
    · rw [if_pos e, if_pos (by rw [e]; exact hl)]
    · rw [if_neg e]
      rcases List.mem_cons.mp h with z | z
      · exact absurd z.symm e
      · exact wipe_in σ r j z hl
theorem wipe_set {σ : L2.St} {i : Nat} {v : Option V} {vs : List Nat} (h : i ∈ vs) : wipe (σ.set i v) vs = wipe σ vs := by
  refine List.ext_getElem? fun j => ?_
  by_cases hj : j ∈ vs
  · by_cases hl : j < σ.length
    · rw [wipe_in _ vs j hj (by rw [List.length_set]; exact hl), wipe_in _ vs j hj hl]
    · rw [List.getElem?_eq_none (by rw [wipe_length, List.length_set]; omega), List.getElem?_eq_none (by rw [wipe_length]; omega)]
  · rw [wipe_out hj, wipe_out hj, List.getElem?_set, if_neg fun e => hj (by rw [← e]; exact h)]
def GW (g : TG) (vs : List Nat) : Prop := ∀ v σ H (Q Q' : L2.St → Hp → Prop), g v σ H Q → (∀ σ' H', Q σ' H' → wipe σ' vs = wipe σ vs → Q' σ' H') → g v σ H Q'
def GWs (g : TGs) (vs : List Nat) : Prop := ∀ v σ H (Q Q' : L2.St → Hp → Prop), g v σ H Q → (∀ σ' H', Q σ' H' → wipe σ' vs = wipe σ vs → Q' σ' H') → g v σ H Q'
theorem gw_name {i : Nat} {vs : List Nat} (h : i ∈ vs) : GW (gName i) vs := fun v σ H Q Q' q k => k _ _ q (wipe_set h)
theorem gws_nil {vs : List Nat} : GWs gNil vs := fun v σ H Q Q' ⟨e, q⟩ k => ⟨e, k _ _ q rfl⟩
theorem gws_cons {g : TG} {gs : TGs} {vs : List Nat} (h : GW g vs) (k : GWs gs vs) : GWs (gCons g gs) vs := fun v σ H Q Q' ⟨x, r, e, q⟩ f =>
  ⟨x, r, e, h x σ H _ _ q fun σ' H' q' w => k r σ' H' Q Q' q' fun σ2 H2 q2 w2 => f σ2 H2 q2 (w2.trans w)⟩
theorem gw_tup {K : PySem.W.Frag} {n : Nat} {gs : TGs} {vs : List Nat} (h : GWs gs vs) : GW (gTup K n gs) vs := fun v σ H Q Q' ⟨a, xs, e, s, l, q⟩ k => ⟨a, xs, e, s, l, h _ _ _ _ _ q k⟩
def wipeG (G : List Sl) : List Nat → List Sl
  | [] => G
  | v :: vs => (wipeG G vs).set v .any
theorem Sat.wipe {σ : L2.St} {H : Hp} (S : Sat F G σ H) : ∀ vs : List Nat, Sat F (wipeG G vs) (L2.wipe σ vs) H
  | [] => S
  | v :: vs => (S.wipe vs).forget v none
theorem wipeG_any : ∀ (G : List Sl) (vs : List Nat) (j : Nat) (s : Sl), j ∈ vs → (wipeG G vs)[j]? = some s → s = .any
  | G, i :: r, j, s, h, e => by
    have e' : ((wipeG G r).set i .any)[j]? = some s := e
    rw [List.getElem?_set] at e'
    by_cases q : i = j
    · rw [if_pos q] at e'
      split at e'
      · cases e'; rfl
      · cases e'
    · rw [if_neg q] at e'
      rcases List.mem_cons.mp h with z | z
      · exact absurd z.symm q
      · exact wipeG_any G r j s z e'
/-- the outer slots again -/
theorem Sat.unwipe {σ σ2 : L2.St} {H : Hp} {vs : List Nat} (S : Sat F G σ2 H) (w : L2.wipe σ2 vs = L2.wipe σ vs) : Sat F (wipeG G vs) σ H := by
  have T := S.wipe vs
  rw [w] at T
  refine ⟨T.ext, T.zk, T.zn, by rw [← T.len, wipe_length], T.nd, fun j s hj => ?_⟩
  by_cases h : j ∈ vs
  · rw [wipeG_any G vs j s h hj]; trivial
  · have := T.ok j s hj
    rw [wipe_getD σ vs j h] at this
    exact this
/-- the frame within a comprehension: D, the new list, is not touched -/
abbrev Fr.wo (F : Fr) (B : Hp) (D : Addr) (ob : HO) : Fr := ⟨F.K, B, fun b => F.Z b ∨ b = D, fun b => if b = D then some ob else F.Hz b, fun b h => by
  by_cases e : b = D
  · exact ⟨_, if_pos e⟩
  · rw [if_neg e]
    exact F.zh b (h.resolve_right e)⟩
theorem low_wo {B : Hp} {D : Addr} {ob : HO} {H : Hp} : low (F.wo B D ob) G H = low F G (del D H) := by
  funext b
  rcases low_cases F G (del D H) b with ⟨e, z⟩ | ⟨e, z1, z2⟩
  · rw [e]
    rcases z with z | z
    · exact low_z (.inl z)
    · exact low_in z
  · by_cases hb : b = D
    · rw [e]
      subst hb
      rw [del_same]
      exact low_z (F := F.wo B b ob) (.inr rfl)
    · rw [e, del_ne hb]
      exact low_out (F := F.wo B D ob) (fun h => h.elim z1 hb) z2
theorem Sat.toWo {B : Hp} {D : Addr} {ob : HO} {σ : L2.St} {H : Hp} (S : Sat F G σ (del D H)) (hB : Ex B (low F G (del D H))) (hD : H D = some ob) : Sat (F.wo B D ob) G σ H := by
  refine ⟨by rw [low_wo]; exact hB, fun b o z e => ?_, fun b hb z => ?_, S.len, S.nd, fun i s h => ?_⟩
  · by_cases hb : b = D
    · subst hb
      have e' : some ob = some o := by rw [← e]; exact (if_pos rfl).symm
      rw [hD, e']
    · have e' : F.Hz b = some o := by rw [← e]; exact (if_neg hb).symm
      exact del_ex b o (S.zk b o (z.resolve_right hb) e')
  · rcases z with z | z
    · exact S.zn b hb z
    · subst z
      obtain ⟨vs, e⟩ := S.at_ hb
      rw [del_same] at e; cases e
  · rw [low_wo]
    exact slok_mono (Ex.refl _) (fun p o _ e => del_ex p o e) (S.ok i s h)
theorem Sat.ofWo {B : Hp} {D : Addr} {ob : HO} {σ : L2.St} {H : Hp} (S : Sat (F.wo B D ob) G σ H) (hB : Ex F.B0 B) (hz : ¬ F.Z D) : Sat F G σ (del D H) ∧ H D = some ob := by
  have hD : H D = some ob := S.zk D _ (.inr rfl) (if_pos rfl)
  have nD : D ∉ ads G := fun z => S.zn D z (.inr rfl)
  have e0 := S.ext
  rw [low_wo] at e0
  refine ⟨⟨hB.trans e0, fun b o z e => ?_, fun b hb z => S.zn b hb (.inl z), S.len, S.nd, fun i s h => ?_⟩, hD⟩
  · have hb : b ≠ D := fun y => hz (by rw [← y]; exact z)
    rw [del_ne hb]
    exact S.zk b o (.inl z) (by rw [← e]; exact if_neg hb)
  · have := S.ok i s h
    rw [low_wo] at this
    exact slok_mono (Ex.refl _) (fun p o hp e => by
      have : p ≠ D := fun y => nD (by rw [← y]; exact ads_mem' h hp)
      rw [del_ne this]; exact e) this
abbrev Fr.wd (F : Fr) (B : Hp) (D : Addr) (ws : List V) : Fr := F.wo B D (.lst ws)
theorem low_wd {B : Hp} {D : Addr} {ws : List V} {H : Hp} : low (F.wd B D ws) G H = low F G (del D H) := low_wo
theorem Sat.toWd {B : Hp} {D : Addr} {ws : List V} {σ : L2.St} {H : Hp} (S : Sat F G σ (del D H)) (hB : Ex B (low F G (del D H))) (hD : H D = some (.lst ws)) : Sat (F.wd B D ws) G σ H := S.toWo hB hD
theorem Sat.ofWd {B : Hp} {D : Addr} {ws : List V} {σ : L2.St} {H : Hp} (S : Sat (F.wd B D ws) G σ H) (hB : Ex F.B0 B) (hz : ¬ F.Z D) : Sat F G σ (del D H) ∧ H D = some (.lst ws) := S.ofWo hB hz
theorem del_upd {p : Addr} {H : Hp} {o : HO} : del p (L2.upd H p o) = del p H := by
  funext b
  by_cases h : b = p
  · subst h; rw [del_same, del_same]
  · rw [del_ne h, del_ne h, upd_ne h]
theorem wipe_wipe (σ : L2.St) (vs : List Nat) : L2.wipe (L2.wipe σ vs) vs = L2.wipe σ vs := by
  refine List.ext_getElem? fun j => ?_
  by_cases hj : j ∈ vs
  · by_cases hl : j < σ.length
    · rw [wipe_in _ vs j hj (by rw [wipe_length]; exact hl), wipe_in _ vs j hj hl]
    · rw [List.getElem?_eq_none (by rw [wipe_length, wipe_length]; omega), List.getElem?_eq_none (by rw [wipe_length]; omega)]
  · rw [wipe_out hj]
/-- one turn -/
def Turn (F : Fr) (vs : List Nat) (g : TG) (tt : TT) (te : TE) (I : Nat → List PyData → List Sl → Prop) (i : Nat) (x : PyData) (acc : List PyData) (G' : List Sl) : Prop :=
  ∀ B D ws, Ex F.B0 B → GK (F.wd B D ws) g x (wipeG G' vs) fun G2 => ET (F.wd B D ws) G2 tt fun b G3 => (b = true → EK (F.wd B D ws) G3 te fun y G4 => I (i + 1) (acc ++ [y]) (wipeG G4 vs)) ∧ (b = false → I (i + 1) acc (wipeG G3 vs))
def CW (F : Fr) (B : Hp) (D : Addr) (I : Nat → List PyData → List Sl → Prop) (σ : L2.St) (i : Nat) (H : Hp) : Prop :=
  ∃ acc ws G', I i acc G' ∧ acc.length ≤ i ∧ Sat F G' σ (del D H) ∧ Ex B (low F G' (del D H)) ∧ H D = some (.lst ws) ∧ DqAll F.K (low F G' (del D H)) ws acc
theorem wipeG_ads : ∀ (G : List Sl) (vs : List Nat) (b : Addr), b ∈ ads (wipeG G vs) → b ∈ ads G
  | _, [], _, h => h
  | G, i :: r, b, h => wipeG_ads G r b ((ads_set_sub (s := .any) rfl (wipeG G r) i).subset h)
theorem cw_turn {B : Hp} {D : Addr} {I : Nat → List PyData → List Sl → Prop} {σ : L2.St} {i : Nat} {H : Hp} {vs : List Nat} {g : TG} {tt : TT} {te : TE} {x : PyData} {v : V} (hz : ¬ F.Z D) (hB : Ex F.B0 B) (hi : i < 1000000) (C : CW F B D I σ i H)
    (hv : ∀ G', Sat F G' σ (del D H) → Ex B (low F G' (del D H)) → Dq F.K (low F G' (del D H)) v x) (gw : GW g vs) (ht : ∀ acc G', I i acc G' → acc.length ≤ i → Turn F vs g tt te I i x acc G') :
    g v (L2.wipe σ vs) H fun σ2 H2 => L2.wipe σ2 vs = L2.wipe σ vs ∧ tt σ2 H2 fun b H3 => if b = true then te σ2 H3 fun y H4 => ∃ acc, H4 D = some (.lst acc) ∧ acc.length < sizeLine ∧ CW F B D I σ (i + 1) (upd H4 D (.lst (acc ++ [y]))) else CW F B D I σ (i + 1) H3 := by
  obtain ⟨acc, ws, G', hI, hl, S, eB, hD, hd⟩ := C
  have S0 : Sat (F.wd B D ws) G' σ H := S.toWd eB hD
  have S1 := S0.wipe vs
  have T := ht acc G' hI hl B D ws hB
  have dv : Dq F.K (low (F.wd B D ws) (wipeG G' vs) H) v x := dp_mono (by
    rw [low_wd]; exact low_sub fun b => wipeG_ads G' vs b) (hv G' S eB)
  refine gw v (L2.wipe σ vs) H _ _ (T _ _ _ S1 dv (fun σ2 H2 => H2 = H ∧ ∃ G2, ET (F.wd B D ws) G2 tt (fun b G3 => (b = true → EK (F.wd B D ws) G3 te fun y G4 => I (i + 1) (acc ++ [y]) (wipeG G4 vs)) ∧ (b = false → I (i + 1) acc (wipeG G3 vs))) ∧ Sat (F.wd B D ws) G2 σ2 H ∧ Ex (low (F.wd B D ws) (wipeG G' vs) H) (low (F.wd B D ws) G2 H)) fun σ' G2 k2 S2 e2 => ⟨rfl, G2, k2, S2, e2⟩) fun σ2 H2 ⟨eH, G2, k2, S2, e2⟩ w => ?_
  subst eH
  have w' : L2.wipe σ2 vs = L2.wipe σ vs := by
    rw [w]
    exact wipe_wipe σ vs
  refine ⟨w', k2 σ2 H2 S2 _ fun b H3 G3 k3 S3 e3 => ?_⟩
  have e0 : Ex (low F G' (del D H2)) (low (F.wd B D ws) (wipeG G' vs) H2) := by rw [low_wd]; exact low_sub fun b => wipeG_ads G' vs b
  have fin : ∀ {G5 : List Sl} {H5 : Hp}, Sat (F.wd B D ws) G5 σ2 H5 → Ex (low (F.wd B D ws) G3 H3) (low (F.wd B D ws) G5 H5) → Sat F (wipeG G5 vs) σ (del D H5) ∧ Ex (low F G' (del D H2)) (low F (wipeG G5 vs) (del D H5)) ∧ H5 D = some (.lst ws) ∧ Ex (low (F.wd B D ws) G5 H5) (low F (wipeG G5 vs) (del D H5)) := fun {G5 H5} S5 e5 => by
    obtain ⟨T5, h5⟩ := S5.ofWd hB hz
    have e6 : Ex (low (F.wd B D ws) G5 H5) (low F (wipeG G5 vs) (del D H5)) := by rw [low_wd]; exact low_sub fun b => wipeG_ads G5 vs b
    exact ⟨T5.unwipe w', (((e0.trans e2).trans e3).trans e5).trans e6, h5, e6⟩
  cases b with
  | false =>
    rw [if_neg Bool.false_ne_true]
    obtain ⟨S5, e5, h5, _⟩ := fin S3 (Ex.refl _)
    exact ⟨acc, ws, _, k3.2 rfl, by omega, S5, eB.trans e5, h5, dps_mono e5 hd⟩
  | true =>
    rw [if_pos rfl]
    refine k3.1 rfl σ2 H3 S3 _ fun y H4 yx G4 k4 S4 e4 d4 => ?_
    obtain ⟨S5, e5, h5, e6⟩ := fin S4 e4
    have hlw := dps_length hd
    refine ⟨ws, h5, Nat.lt_of_lt_of_le (by rw [hlw]; exact Nat.lt_of_le_of_lt hl hi) (by decide), acc ++ [yx], ws ++ [y], _, k4, by rw [List.length_append]; simp only [List.length_cons, List.length_nil]; omega, ?_, ?_, upd_same, ?_⟩
    · rw [del_upd]; exact S5
    · rw [del_upd]; exact eB.trans e5
    · rw [del_upd]
      exact dps_append (dps_mono e5 hd) (.cons (dp_mono e6 d4) .nil)
theorem cw_start {σ : L2.St} {H1 : Hp} {D : Addr} {I : Nat → List PyData → List Sl → Prop} {vs : List Nat} (S1 : Sat F G σ H1) (h0 : I 0 [] (wipeG G vs)) (hD : H1 D = none) : CW F (low F G H1) D I σ 0 (upd H1 D (.lst [])) := by
  have e : Ex H1 (del D (upd H1 D (.lst []))) := ex_del (upd_ex hD) hD
  have S2 : Sat F G σ (del D (upd H1 D (.lst []))) := S1.ex e
  have S3 : Sat F (wipeG G vs) σ (del D (upd H1 D (.lst []))) := S2.unwipe rfl
  exact ⟨[], [], _, h0, Nat.le_refl _, S3, (low_mono e).trans (low_sub fun b => wipeG_ads G vs b), upd_same, .nil⟩
/-- [elt for target in a list if ..] -/
theorem eo_lcL {g : TG} {tt : TT} {vs : List Nat} (I : Nat → List PyData → List Sl → Prop) (h : EK F G tl fun x G1 => ∃ xs, x = .list xs ∧ xs.length < 1000000 ∧ GW g vs ∧ I 0 [] (wipeG G1 vs) ∧
      (∀ i x acc G', xs[i]? = some x → I i acc G' → acc.length ≤ i → Turn F vs g tt te I i x acc G') ∧ (∀ acc G', I xs.length acc G' → α acc G')) : EO F G (tLc (iList F.K tl) g tt te vs) α := fun σ H S Q q =>
  h σ H S _ fun v H1 x G1 ⟨xs, ex, hl, gw, h0, ht, hd⟩ S1 e1 d1 => by
    subst ex
    cases d1 with
    | @lst a us _ hs ha =>
      refine ⟨a, rfl, ⟨us, .inl (.inl (low_ex _ _ hs))⟩, fun D hD => ?_⟩
      have hz : ¬ F.Z D := S1.noz hD
      have L : ∀ i H', CW F (low F G1 H1) D I σ i H' → SqL F.K H' a us := fun i H' ⟨acc, ws, G', _, _, _, eB, _, _⟩ => .inl (.inl (del_ex _ _ (low_ex _ _ (eB _ _ hs))))
      refine lc_list (Pv := fun i H' => CW F (low F G1 H1) D I σ i H') (cw_start S1 h0 hD) (fun i H' _ C => L i H' C) (fun i v H' ev C => ?_) (fun H' C => ?_)
      · obtain ⟨x, ex, dx⟩ := dps_get' ha ev
        have hi : i < us.length := (List.getElem?_eq_some_iff.mp ev).1
        exact cw_turn hz S1.ext (by rw [dps_length ha] at hi; omega) C (fun _ _ e => dp_mono e dx) gw fun acc G' hI hacc => ht i x acc G' ex hI hacc
      · obtain ⟨acc, ws, G', hI, _, S', eB, hw, hd'⟩ := C
        rw [dps_length ha] at hI
        exact q D ws H' acc G' (hd acc G' hI) S' (e1.trans eB) hw hd'
theorem eo_lcT {g : TG} {tt : TT} {vs : List Nat} (I : Nat → List PyData → List Sl → Prop) (h : EK F G tl fun x G1 => ∃ xs, x = .tuple xs ∧ xs.length < 1000000 ∧ GW g vs ∧ I 0 [] (wipeG G1 vs) ∧
      (∀ i x acc G', xs[i]? = some x → I i acc G' → acc.length ≤ i → Turn F vs g tt te I i x acc G') ∧ (∀ acc G', I xs.length acc G' → α acc G')) : EO F G (tLc (iTup F.K tl) g tt te vs) α := fun σ H S Q q =>
  h σ H S _ fun v H1 x G1 ⟨xs, ex, hl, gw, h0, ht, hd⟩ S1 e1 d1 => by
    subst ex
    cases d1 with
    | @tup a us _ hs ha =>
      refine ⟨a, rfl, ⟨us, .inl (.inl (low_ex _ _ hs))⟩, fun D hD => ?_⟩
      have hz : ¬ F.Z D := S1.noz hD
      have L : ∀ i H', CW F (low F G1 H1) D I σ i H' → SqT F.K H' a us := fun i H' ⟨acc, ws, G', _, _, _, eB, _, _⟩ => .inl (.inl (((eB.trans low_ex).trans del_ex) _ _ hs))
      refine lc_tup (Pv := fun i H' => CW F (low F G1 H1) D I σ i H') (cw_start S1 h0 hD) (fun i H' _ C => L i H' C) (fun i v H' ev C => ?_) (fun H' C => ?_)
      · obtain ⟨x, ex, dx⟩ := dps_get' ha ev
        have hi : i < us.length := (List.getElem?_eq_some_iff.mp ev).1
        exact cw_turn hz S1.ext (by rw [dps_length ha] at hi; omega) C (fun _ _ e => dp_mono e dx) gw fun acc G' hI hacc => ht i x acc G' ex hI hacc
      · obtain ⟨acc, ws, G', hI, _, S', eB, hw, hd'⟩ := C
        rw [dps_length ha] at hI
        exact q D ws H' acc G' (hd acc G' hI) S' (e1.trans eB) hw hd'
theorem eo_lcR {g : TG} {tt : TT} {vs : List Nat} (I : Nat → List PyData → List Sl → Prop) (h : EA F G tr fun xs G1 => ∃ n : Int, xs = [.int n] ∧ n < 1000000 ∧ -1000000 ≤ n ∧ GW g vs ∧ I 0 [] (wipeG G1 vs) ∧
      (∀ (i : Nat) acc G', (i : Int) < n → I i acc G' → acc.length ≤ i → Turn F vs g tt te I i (.int i) acc G') ∧ (∀ acc G', I n.toNat acc G' → α acc G')) : EO F G (tLc (iRng1 tr) g tt te vs) α := fun σ H S Q q =>
  h σ H S _ fun us H1 xs G1 ⟨n, ex, hl, hl2, gw, h0, ht, hd⟩ S1 e1 d1 => by
    subst ex
    obtain ⟨v, rfl, dd⟩ := dps1 d1
    cases dd
    refine ⟨n, rfl, by omega, by omega, fun D hD => ?_⟩
    have hz : ¬ F.Z D := S1.noz hD
    refine lc_range (lo := 0) (n := n.toNat) (Pv := fun i H' => CW F (low F G1 H1) D I σ i H') (cw_start S1 h0 hD) (fun i H' hi C => ?_) (fun H' C => ?_)
    · rw [Int.zero_add]
      exact cw_turn hz S1.ext (by omega) C (fun _ _ _ => .int _) gw fun acc G' hI hacc => ht i acc G' (by omega) hI hacc
    · obtain ⟨acc, ws, G', hI, _, S', eB, hw, hd'⟩ := C
      exact q D ws H' acc G' (hd acc G' hI) S' (e1.trans eB) hw hd'
theorem et_yes {β : Bool → List Sl → Prop} (k : β true G) : ET F G tYes β := fun σ H S Q q => q true H G k S (Ex.refl _)
theorem nx_wipe {P : L2.St → Hp → Prop} (vs : List Nat) (h : Nx F (wipeG G vs) P) : Nx F G P := fun σ H S => h σ H (S.unwipe rfl)
/-- feed[0] of a feed -/
def noneD : PyData → Bool
  | .none => true
  | _ => false
theorem noneD_of {B : Hp} {v : V} {x : PyData} (h : Dq F.K B v x) : decide (v = .non) = noneD x := by
  cases h <;> first | rfl | exact decide_eq_false (fun e => by cases e)
theorem rk_isN {x y : PyData} (hy : y = .none) (k : κ (.bool (noneD x)) G) : RK F (fun x y H Q => y = .non ∧ Q (.bl (decide (x = .non))) H) x y G κ := fun σ H v u S dv du Q q => by
  subst hy
  cases du
  refine ⟨rfl, ?_⟩
  rw [noneD_of dv]
  exact q _ H _ G k S (Ex.refl _) (.bl _)
theorem rk_eqD' {x y : PyData} {b : Bool} (hx : SeqAt.shaped x = true) (hy : SeqAt.shaped y = true) (e : PyData.eqv x y = b) (k : κ (.bool b) G) : RK F (rEqD F.K) x y G κ := rk_eqD hx hy (by rw [e]; exact k)
theorem rk_neD' {x y : PyData} {b : Bool} (hx : SeqAt.shaped x = true) (hy : SeqAt.shaped y = true) (e : PyData.eqv x y = b) (k : κ (.bool (!b)) G) : RK F (rNeD F.K) x y G κ := rk_neD hx hy (by rw [e]; exact k)
theorem nx_ownR (h : EO F G te fun xs G' => RtO F G' xs D.rt) : Nx F G (tOwn (tRet te) D) := nx_retO h
theorem ek_neg (h : EK F G ta fun x G1 => ∃ i, x = .int i ∧ κ (.int (-i)) G1) : EK F G (tUn (rU fun i => .int (-i)) ta) κ := fun σ H S Q q => h σ H S _ fun v H1 x G1 ⟨i, e, k⟩ S1 e1 d => by
  subst e; cases d
  exact ⟨i, rfl, q _ H1 _ G1 k S1 e1 (.int _)⟩
theorem cutD_63 {ns : List Int} (h : ns.length ≤ 63) : cutD (ns.map .int) none (some 63) = ns.map .int := by
  unfold cutD
  rw [HT.sIx_none, show HT.sIx (ns.map PyData.int).length (ns.map PyData.int).length (some 63) = min 63 (ns.map PyData.int).length from HT.sIx_nat _ _ 63, List.length_map, List.drop_zero, Nat.sub_zero, List.take_of_length_le (by rw [List.length_map]; omega)]
end
end DL
namespace DL
open PySem L2 Evl
def lay (n : Nat) (x : PyData) : Prop := x.canLay0 = true ∧ x.depth ≤ n
theorem lay_all {n : Nat} : ∀ {xs : List PyData}, (∀ x ∈ xs, lay n x) → PyData.canLayAll0 xs = true ∧ PyData.depthAll xs ≤ n
  | [], _ => ⟨rfl, Nat.zero_le _⟩
  | x :: r, h => by
    have h1 := h x List.mem_cons_self
    have h2 := lay_all (xs := r) fun y hy => h y (List.mem_cons_of_mem _ hy)
    exact ⟨by rw [PyData.canLayAll0, h1.1, h2.1]; rfl, by rw [PyData.depthAll]; exact Nat.max_le.mpr ⟨h1.2, h2.2⟩⟩
theorem lay_list {n : Nat} {xs : List PyData} (h : ∀ x ∈ xs, lay n x) : lay (n + 1) (.list xs) := by
  obtain ⟨h1, h2⟩ := lay_all h
  exact ⟨by rw [PyData.canLay0]; exact h1, by rw [PyData.depth]; omega⟩
theorem lay_tup {n : Nat} {xs : List PyData} (h : ∀ x ∈ xs, lay n x) : lay (n + 1) (.tuple xs) := by
  obtain ⟨h1, h2⟩ := lay_all h
  exact ⟨by rw [PyData.canLay0]; exact h1, by rw [PyData.depth]; omega⟩
theorem lay_int {n : Nat} {i : Int} : lay n (.int i) := ⟨by rw [PyData.canLay0], by rw [PyData.depth]; omega⟩
theorem lay.mono {n m : Nat} {x : PyData} (h : lay n x) (k : n ≤ m) : lay m x := ⟨h.1, Nat.le_trans h.2 k⟩
theorem lay.shaped {n : Nat} {x : PyData} (h : lay n x) (k : n ≤ 64) : SeqAt.shaped x = true := by
  unfold SeqAt.shaped
  rw [h.1, decide_eq_true (Nat.le_trans h.2 k)]; rfl
theorem lay_ints {n : Nat} {ns : List Int} : ∀ x ∈ ns.map PyData.int, lay n x := fun x hx => by
  obtain ⟨i, _, rfl⟩ := List.mem_map.mp hx; exact lay_int
/-- equal data, by an encoding that parts -/
theorem eqv_map {α : Type} [DecidableEq α] {f : α → PyData} (h : ∀ x y, PyData.eqv (f x) (f y) = decide (x = y)) : ∀ xs ys : List α, PyData.eqvAll (xs.map f) (ys.map f) = decide (xs = ys)
  | [], [] => by rw [List.map_nil, PyData.eqvAll, decide_eq_true rfl]
  | [], y :: r => by rw [List.map_nil, List.map_cons, PyData.eqvAll, decide_eq_false (by simp)]
  | x :: r, [] => by rw [List.map_nil, List.map_cons, PyData.eqvAll, decide_eq_false (by simp)]
  | x :: r, y :: s => by
    rw [List.map_cons, List.map_cons, PyData.eqvAll, h, eqv_map h r s]
    by_cases e1 : x = y
    · by_cases e2 : r = s
      · rw [decide_eq_true e1, decide_eq_true e2, decide_eq_true (by rw [e1, e2])]; rfl
      · rw [decide_eq_true e1, decide_eq_false e2, decide_eq_false (fun z => e2 (List.cons.inj z).2)]; rfl
    · rw [decide_eq_false e1, decide_eq_false (fun z => e1 (List.cons.inj z).1)]; rfl
theorem eqv_int (i j : Int) : PyData.eqv (.int i) (.int j) = decide (i = j) := by rw [PyData.eqv, Bool.beq_eq_decide_eq]
/-- a list against the empty one -/
theorem eqv_nil (xs : List PyData) : PyData.eqv (.list xs) (.list []) = decide (xs = []) := by
  rw [PyData.eqv]
  cases xs with
  | nil => rw [PyData.eqvAll, decide_eq_true rfl]
  | cons x r => rw [PyData.eqvAll, decide_eq_false (by simp)]
theorem atI_ok {α : Type} {xs : List α} {i : Int} (h0 : 0 ≤ i) (h1 : i < xs.length) : ∃ x, atI xs i = some x ∧ x ∈ xs := by
  unfold atI ixN
  rw [if_pos h0, if_pos h1]
  have hi : i.toNat < xs.length := by omega
  exact ⟨xs[i.toNat], by rw [Option.bind_some, List.getElem?_eq_getElem hi], List.getElem_mem hi⟩
theorem atI_ints {ns : List Int} {i : Int} (h0 : 0 ≤ i) (h1 : i < ns.length) : ∃ c : Int, atI (ns.map PyData.int) i = some (.int c) ∧ c ∈ ns := by
  obtain ⟨x, e, m⟩ := atI_ok (xs := ns.map PyData.int) h0 (by rw [List.length_map]; exact h1)
  obtain ⟨c, hc, rfl⟩ := List.mem_map.mp m
  exact ⟨c, e, hc⟩
end DL
namespace DL
open PySem L2 Evl
section
variable {F : Fr} {G : List Sl} {κ : Kp} {ta tb te tl te2 : TE} {r : R2} {D : Ends} {s1 s2 : TS} {tr : TA} {α : Kps} {xs : List PyData}
def scalD : PyData → Bool
  | .none => true
  | .bool _ => true
  | .int _ => true
  | .str _ => true
  | _ => false
theorem scal_any {K : PySem.W.Frag} {B B' : Hp} {v : V} {x : PyData} (h : scalD x = true) (d : Dq K B v x) : Dq K B' v x := by
  cases d <;> first | exact .non | exact .bl _ | exact .int _ | exact .str _ | cases h
theorem CW.ex {B : Hp} {Da : Addr} {I : Nat → List PyData → List Sl → Prop} {σ : L2.St} {i : Nat} {H H' : Hp} (C : CW F B Da I σ i H) (e : Ex H H') : CW F B Da I σ i H' := by
  obtain ⟨acc, ws, G', hI, hl, S, eB, hD, hd⟩ := C
  have e' : Ex (del Da H) (del Da H') := del_mono e
  exact ⟨acc, ws, G', hI, hl, S.ex e', eB.trans (low_mono e'), e _ _ hD, dps_mono (low_mono e') hd⟩
theorem lay_pair {n : Nat} {x y : PyData} (h : lay n x) (k : lay n y) : lay (n + 1) (.tuple [x, y]) := lay_tup (by
  intro z hz
  simp only [List.mem_cons, List.not_mem_nil, or_false] at hz
  rcases hz with rfl | rfl
  · exact h
  · exact k)
theorem ck_listOf {zs : List PyData} (h : ∃ ds, (zs = [.list ds] ∨ zs = [.tuple ds]) ∧ κ (.list ds) G) : CK F (fun xs H Q => ∃ p ys, xs = [.ref p] ∧ (SqL F.K H p ys ∨ SqT F.K H p ys) ∧ ∀ l, H l = none → Q (.ref l) (upd H l (.lst ys))) zs G κ := fun σ H vs S d Q q => by
  obtain ⟨ds, e, k⟩ := h
  have fin : ∀ ws, DqAll F.K (low F G H) ws ds → ∀ l, H l = none → Q (.ref l) (upd H l (.lst ws)) := fun ws ha l hl =>
    q _ _ _ G k (S.ex (upd_ex hl)) (low_mono (upd_ex hl)) (.lst (low_new S hl) (dps_mono (low_mono (upd_ex hl)) ha))
  rcases e with rfl | rfl
  · obtain ⟨v, rfl, dd⟩ := dps1 d
    cases dd with
    | lst hs ha => exact ⟨_, _, rfl, .inl (.inl (.inl (low_ex _ _ hs))), fin _ ha⟩
  · obtain ⟨v, rfl, dd⟩ := dps1 d
    cases dd with
    | tup hs ha => exact ⟨_, _, rfl, .inr (.inl (.inl (low_ex _ _ hs))), fin _ ha⟩
end
end DL
namespace DL
open PySem PySem.Spec PyProof.Rows L2 Evl
theorem keys_reads {P : Program} {w : World} {h : Heap} : ∀ {kvs : List (Key × V)} {vs : List (Key × Value)} {es : List DictEntry}, KV kvs vs → Pairs (mixKind P w) es vs → ReadsAll h (es.map (·.key)) (kvs.map fun p => kD p.1) []
  | [], [], [], _, _ => .nil
  | [], [], _ :: _, _, p => nomatch p
  | p0 :: kvs, q0 :: vs, e :: es, .cons r rs, .cons h1 h2 h3 => by
    have h1' : keyIs q0.1 e.key = true := h1
    have q := keys_reads (h := h) rs h3
    have e0 : kD p0.1 = kD q0.1 := congrArg kD r.1
    rcases keyIs_shape h1' with ⟨i, t, e1, e2⟩ | ⟨x, t, e1, e2⟩
    · rw [List.map_cons, List.map_cons, e2, e0, e1]
      exact .cons (.int i t) q
    · rw [List.map_cons, List.map_cons, e2, e0, e1]
      exact .cons (.str x t) q
theorem vals_entries {P : Program} {w : World} : ∀ {kvs : List (Key × V)} {vs : List (Key × Value)} {es : List DictEntry}, KV kvs vs → Pairs (mixKind P w) es vs → Vals (kvs.map (·.2)) (es.map (·.val))
  | [], [], [], _, _ => .nil
  | [], [], _ :: _, _, p => nomatch p
  | p0 :: kvs, q0 :: vs, e :: es, .cons r rs, .cons h1 h2 h3 => by
    have q := vals_entries rs h3
    rw [List.map_cons, List.map_cons, h2]
    exact .cons r.2 q
theorem zip_fst {α β : Type} : ∀ {l : List α} {k : List β}, l.length = k.length → (l.zip k).map (·.1) = l
  | [], [], _ => rfl
  | a :: l, b :: k, h => by
    show a :: ((l.zip k).map (·.1)) = a :: l
    rw [zip_fst (Nat.succ.inj h)]
theorem zip_snd {α β : Type} : ∀ {l : List α} {k : List β}, l.length = k.length → (l.zip k).map (·.2) = k
  | [], [], _ => rfl
  | a :: l, b :: k, h => by
    show b :: ((l.zip k).map (·.2)) = b :: k
    rw [zip_snd (Nat.succ.inj h)]
theorem dct_len {K : PySem.W.Frag} {H : Hp} {kvs : List (Key × V)} {ds : List PyData} (ha : DqAll K H (kvs.map (·.2)) ds) : (kvs.map fun p => kD p.1).length = ds.length := by
  rw [List.length_map, ← dps_length ha, List.length_map]
mutual
theorem dq_reads {P : Program} {w : World} {K : PySem.W.Frag} {H : Hp} {h : Heap} (hok : HOk P w H h) : ∀ {v : V} {x : PyData}, Dq K H v x → x.showable = true → ∀ {u : Value}, RelV v u → ∃ as, Reads h u x as
  | _, _, .non, _, _, r => by cases r; exact ⟨_, .none⟩
  | _, _, .bl b, _, _, r => by cases r; exact ⟨_, .bool b⟩
  | _, _, .int i, _, _, r => by obtain ⟨t, rfl⟩ := r; exact ⟨_, .int i t⟩
  | _, _, .str x, _, _, r => by obtain ⟨t, rfl⟩ := r; exact ⟨_, .str x t⟩
  | _, _, .lst hs ha, z, _, r => by
    cases r
    obtain ⟨_, its, n, rv, ho⟩ := hok _ _ hs
    obtain ⟨as, q⟩ := dqs_reads hok ha (by simpa [PyData.showable] using z) rv
    exact ⟨_, .list ho rfl rfl q⟩
  | _, _, .tup hs ha, z, _, r => by
    cases r
    obtain ⟨_, its, rv, o, ho, hc, n, hd⟩ := hok _ _ hs
    obtain ⟨as, q⟩ := dqs_reads hok ha (by simpa [PyData.showable] using z) rv
    exact ⟨_, .tuple ho hc hd q⟩
  | _, _, .dct (kvs := kvs) (ds := ds) hs ha, y, _, r => by
    cases r
    obtain ⟨_, _, vs, rk, o, es, ep, ho, hx, hd, _, hp, _⟩ := hok _ _ hs
    have z := dct_len ha
    obtain ⟨_, y2⟩ := PyData.showableKv_split _ (by simpa [PyData.showable] using y)
    rw [zip_snd z] at y2
    obtain ⟨as, q⟩ := dqs_reads hok ha y2 (vals_entries rk hp)
    exact ⟨_, .dict ho hx.1 hd (by rw [zip_fst z]; exact keys_reads rk hp) (by rw [zip_snd z]; exact q)⟩
theorem dqs_reads {P : Program} {w : World} {K : PySem.W.Frag} {H : Hp} {h : Heap} (hok : HOk P w H h) : ∀ {v : List V} {x : List PyData}, DqAll K H v x → PyData.showableAll x = true → ∀ {u : List Value}, Vals v u → ∃ as, ReadsAll h u x as
  | _, _, .nil, _, _, r => by cases r; exact ⟨_, .nil⟩
  | _, _, .cons d ds, z, _, r => by
    obtain ⟨z1, z2⟩ := Bool.and_eq_true_iff.mp (by simpa only [PyData.showableAll] using z)
    cases r with
    | cons r rs =>
      obtain ⟨as, q⟩ := dq_reads hok d z1 r
      obtain ⟨bs, qs⟩ := dqs_reads hok ds z2 rs
      exact ⟨_, .cons q qs⟩
end
theorem rat_app {h : Heap} {n m : Nat} {bs cs : List Addr} (h1 : ReadAtMost h n bs) (h2 : ReadAtMost h m cs) : ReadAtMost h (max n m) (bs ++ cs) := fun b hm => by
  rcases List.mem_append.mp hm with q | q
  · obtain ⟨d, as, r, z⟩ := h1 b q
    exact ⟨d, as, r, Nat.le_trans z (Nat.le_max_left _ _)⟩
  · obtain ⟨d, as, r, z⟩ := h2 b q
    exact ⟨d, as, r, Nat.le_trans z (Nat.le_max_right _ _)⟩
theorem rak_app {P : Program} {w : World} {h : Heap} {n m : Nat} {bs cs : List Addr} {v : Value} {t : Str} {vs : List Value} {ts : List Str} (h1 : ReprK P w bs h n v t) (h2 : ReprAllK P w cs h m vs ts) : ReprAllK P w (bs ++ cs) h (max n m) (v :: vs) (t :: ts) :=
  .cons ((h1.more fun b hb => List.mem_append_left _ hb).level_le (Nat.le_max_left _ _)) (h2.more_le (fun b hb => List.mem_append_right _ hb) (Nat.le_max_right _ _))
/-- the keys' texts: no object is reached -/
theorem keys_repr {P : Program} {w : World} {h : Heap} {ks : List Value} {xs : List PyData} (r : ReadsAll h ks xs []) (sc : ∀ x ∈ xs, (∃ i, x = .int i) ∨ ∃ y, x = .str y) (hs : PyData.showableAll xs = true) (hz : ∀ t ∈ PyData.shownAll xs, t.length ≤ sizeLine) :
    ReprAllK P w [] h (PyData.depthAll xs) ks (PyData.shownAll xs) := by
  have nd : PyData.hasDictAll xs = false := by
    clear r hs hz
    induction xs with
    | nil => rfl
    | cons x r ih =>
      have e : x.hasDict = false := by
        rcases sc x (List.mem_cons_self ..) with ⟨i, rfl⟩ | ⟨y, rfl⟩ <;> rfl
      simp only [PyData.hasDictAll, e, ih fun z hz => sc z (List.mem_cons_of_mem _ hz), Bool.or_self]
  have dz : PyData.depthAll xs = 0 := by
    clear r hs hz nd
    induction xs with
    | nil => rfl
    | cons x r ih =>
      have e : x.depth = 0 := by
        rcases sc x (List.mem_cons_self ..) with ⟨i, rfl⟩ | ⟨y, rfl⟩ <;> rfl
      simp only [PyData.depthAll, e, ih fun z hz => sc z (List.mem_cons_of_mem _ hz), Nat.max_self]
  obtain ⟨bs, hb, k⟩ := ReprAllK.of_readsAll (prog := P) (w := w) r hs (fun z => by rw [nd] at z; cases z) hz
  have : bs = [] := by
    cases bs with
    | nil => rfl
    | cons b bs =>
      obtain ⟨d, as, rd, z⟩ := hb b (List.mem_cons_self ..)
      rw [dz] at z
      cases rd <;> simp [PyData.depth] at z
  rw [this] at k
  exact k
mutual
theorem dq_repr {P : Program} {w : World} {K : PySem.W.Frag} {H : Hp} {h : Heap} (hok : HOk P w H h) : ∀ {v : V} {x : PyData}, Dq K H v x → x.showable = true → x.shown.length ≤ sizeLine → ∀ {u : Value}, RelV v u → ∃ bs, ReadAtMost h x.depth bs ∧ ReprK P w bs h x.depth u x.shown
  | _, _, .non, _, _, _, r => by cases r; exact ⟨[], (fun _ h => nomatch h), by simp only [PyData.shown]; exact .of_is ReprIs.none _ _ _⟩
  | _, _, .bl b, _, _, _, r => by cases r; exact ⟨[], (fun _ h => nomatch h), by simp only [PyData.shown]; exact .of_is (ReprIs.bool b) _ _ _⟩
  | _, _, .int i, hs, _, _, r => by obtain ⟨t, rfl⟩ := r; exact ⟨[], (fun _ h => nomatch h), by simp only [PyData.shown]; exact .of_is (ReprIs.int t (by simpa [PyData.showable] using hs)) _ _ _⟩
  | _, _, .str x, _, hz, _, r => by obtain ⟨t, rfl⟩ := r; exact ⟨[], (fun _ h => nomatch h), by simp only [PyData.shown]; exact .of_is (ReprIs.str x t (by simpa only [PyData.shown] using hz)) _ _ _⟩
  | _, _, .lst (a := a) (ds := ds) hl ha, hs, hz, _, r => by
    cases r
    have hz' : (listText (PyData.shownAll ds)).length ≤ sizeLine := by simpa only [PyData.shown] using hz
    obtain ⟨_, its, n, rv, ho⟩ := hok _ _ hl
    obtain ⟨bs, hb, k⟩ := dqs_repr hok ha (by simpa [PyData.showable] using hs) (fun t ht => Nat.le_trans (listText_mem_le ht) hz') rv
    obtain ⟨as, q⟩ := dqs_reads hok ha (by simpa [PyData.showable] using hs) rv
    have rd : Reads h (.ref a) (.list ds) _ := .list ho rfl rfl q
    have na : a ∉ bs := not_mem_of_deeper rd (by simp only [PyData.depth]; omega) hb
    refine ⟨a :: bs, ReadAtMost.cons rd (by simp only [PyData.depth]; omega) hb, ?_⟩
    simp only [PyData.depth, PyData.shown]
    cases its with
    | nil =>
      cases rv; cases ha
      simp only [PyData.shownAll, listText_nil]
      exact ReprK.listEmpty ho rfl rfl
    | cons x l => exact ReprK.list ho rfl rfl na (by simpa using k.length_eq) (fun i y e => k.item i y (by simpa using e))
  | _, _, .tup (a := a) (ds := ds) hl ha, hs, hz, _, r => by
    cases r
    have hz' : (tupleText (PyData.shownAll ds)).length ≤ sizeLine := by simpa only [PyData.shown] using hz
    obtain ⟨_, its, rv, o, ho, hc, n, hd⟩ := hok _ _ hl
    obtain ⟨bs, hb, k⟩ := dqs_repr hok ha (by simpa [PyData.showable] using hs) (fun t ht => Nat.le_trans (tupleText_mem_le ht) hz') rv
    obtain ⟨as, q⟩ := dqs_reads hok ha (by simpa [PyData.showable] using hs) rv
    have rd : Reads h (.ref a) (.tuple ds) _ := .tuple ho hc hd q
    have na : a ∉ bs := not_mem_of_deeper rd (by simp only [PyData.depth]; omega) hb
    refine ⟨a :: bs, ReadAtMost.cons rd (by simp only [PyData.depth]; omega) hb, ?_⟩
    simp only [PyData.depth, PyData.shown]
    exact ReprK.tuple ho hc hd na k
  | _, _, .dct (a := a) (kvs := kvs) (ds := ds) hl ha, hs, hz, _, r => by
    cases r
    have z := dct_len ha
    have hz' : (dictText (PyData.shownKv ((kvs.map fun p => kD p.1).zip ds))).length ≤ sizeLine := by simpa only [PyData.shown] using hz
    obtain ⟨_, sm, vs, rk, o, es, ep, ho, hx, hd, _, hp, _⟩ := hok _ _ hl
    obtain ⟨hs1, hs2⟩ := PyData.showableKv_split _ (by simpa [PyData.showable] using hs)
    have e1 := PyData.depthAll_keys_le ((kvs.map fun p => kD p.1).zip ds)
    have e2 := PyData.depthAll_vals_le ((kvs.map fun p => kD p.1).zip ds)
    have y1 : ∀ t ∈ PyData.shownAll (kvs.map fun p => kD p.1), t.length ≤ sizeLine := fun t ht => by
      obtain ⟨p, hp, hl⟩ := PyData.shownKv_key_le ((kvs.map fun p => kD p.1).zip ds) t (by rw [zip_fst z]; exact ht)
      exact Nat.le_trans hl (Nat.le_trans (dictText_mem_le hp) hz')
    have y2 : ∀ t ∈ PyData.shownAll ds, t.length ≤ sizeLine := fun t ht => by
      obtain ⟨p, hp, hl⟩ := PyData.shownKv_val_le ((kvs.map fun p => kD p.1).zip ds) t (by rw [zip_snd z]; exact ht)
      exact Nat.le_trans hl (Nat.le_trans (dictText_mem_le hp) hz')
    rw [zip_fst z] at hs1 e1
    rw [zip_snd z] at hs2 e2
    have rv := vals_entries rk hp
    have k1 := keys_repr (P := P) (w := w) (keys_reads (h := h) rk hp) (fun x hx => by
      obtain ⟨p, _, rfl⟩ := List.mem_map.mp hx
      cases p.1 with
      | inl i => exact .inl ⟨i, rfl⟩
      | inr y => exact .inr ⟨y, rfl⟩) hs1 y1
    obtain ⟨bs, hb, k2⟩ := dqs_repr hok ha hs2 y2 rv
    obtain ⟨as, q⟩ := dqs_reads hok ha hs2 rv
    have rd : Reads h (.ref a) (.dict ((kvs.map fun p => kD p.1).zip ds)) _ := .dict ho hx.1 hd (by rw [zip_fst z]; exact keys_reads rk hp) (by rw [zip_snd z]; exact q)
    have na : a ∉ bs := not_mem_of_deeper rd (by simp only [PyData.depth]; omega) (hb.mono e2)
    refine ⟨a :: bs, ReadAtMost.cons rd (by simp only [PyData.depth]; omega) (hb.mono e2), ?_⟩
    simp only [PyData.depth, PyData.shown, PyData.shownKv_eq]
    rw [zip_fst z, zip_snd z]
    exact ReprK.dict ho hx.1 hd sm na (ReprEntriesK.of_two es.toList _ _ (k1.more_le (fun _ hb => by simp at hb) e1) (k2.more_le (fun _ hb => hb) e2))
theorem dqs_repr {P : Program} {w : World} {K : PySem.W.Frag} {H : Hp} {h : Heap} (hok : HOk P w H h) : ∀ {v : List V} {x : List PyData}, DqAll K H v x → PyData.showableAll x = true → (∀ t ∈ PyData.shownAll x, t.length ≤ sizeLine) → ∀ {u : List Value}, Vals v u → ∃ bs, ReadAtMost h (PyData.depthAll x) bs ∧ ReprAllK P w bs h (PyData.depthAll x) u (PyData.shownAll x)
  | _, _, .nil, _, _, _, r => by cases r; exact ⟨[], (fun _ h => nomatch h), by simp only [PyData.shownAll]; exact .nil⟩
  | _, _, .cons d ds, hs, hz, _, r => by
    cases r with
    | cons r rs =>
      simp only [PyData.showableAll, Bool.and_eq_true] at hs
      obtain ⟨bs, h1, k1⟩ := dq_repr hok d hs.1 (hz _ (by simp only [PyData.shownAll]; exact List.mem_cons_self ..)) r
      obtain ⟨cs, h2, k2⟩ := dqs_repr hok ds hs.2 (fun t ht => hz t (by simp only [PyData.shownAll]; exact List.mem_cons_of_mem _ ht)) rs
      refine ⟨bs ++ cs, ?_, ?_⟩
      · simp only [PyData.depthAll]; exact rat_app h1 h2
      · simp only [PyData.depthAll, PyData.shownAll]; exact rak_app k1 k2
end
/-- repr(x) -/
def rRepr (K : PySem.W.Frag) : List V → Hp → VK → Prop := fun vs H Q => ∃ (v : V) (x : PyData), vs = [v] ∧ Dq K H v x ∧ x.showable = true ∧ x.depth ≤ 60 ∧ x.shown.length ≤ sizeLine ∧ Q (.str x.shown) H
theorem call_repr {X : Cx} (hg : X.A.guards = some []) (hu : X.A.units + 64 < cLine) : CallR X (.builtin "repr") (rRepr X.K) := by
  intro pins s σ H xs us Q I r h
  obtain ⟨v, x, rfl, d, hs, hd, hz, q⟩ := h
  cases r with
  | cons r1 r2 =>
    cases r2
    cases d with
    | non => cases r1; exact PySem.P.repr_of_none ⟨.str _, H, I.tok _, ⟨_, rfl⟩, q⟩
    | bl b => cases r1; exact PySem.P.repr_of_bool ⟨.str _, H, I.tok _, ⟨_, rfl⟩, q⟩
    | int i => obtain ⟨t, rfl⟩ := r1; exact PySem.P.repr_of_int (by simpa only [PyData.showable, decide_eq_true_eq] using hs) ⟨.str _, H, I.tok _, ⟨_, rfl⟩, q⟩
    | str y => obtain ⟨t, rfl⟩ := r1; exact PySem.P.repr_of_str ⟨.str _, H, I.tok _, ⟨_, rfl⟩, q⟩ hz
    | @lst a us ds h1 h2 =>
      cases r1
      simp only [PyData.depth] at hd
      have hz' : (listText (PyData.shownAll ds)).length ≤ sizeLine := by simpa only [PyData.shown] using hz
      simp only [PyData.shown] at q
      obtain ⟨_, its, n, rv, ho⟩ := I.hok _ _ h1
      obtain ⟨bs, hb, k⟩ := dqs_repr I.hok h2 (by simpa [PyData.showable] using hs) (fun t ht => Nat.le_trans (listText_mem_le ht) hz') rv
      obtain ⟨as, rd⟩ := dqs_reads I.hok h2 (by simpa [PyData.showable] using hs) rv
      have na : a ∉ bs := not_mem_of_deeper (.list ho rfl rfl rd) (by simp only [PyData.depth]; omega) hb
      refine call_repr_slot (by omega) ⟨_, ho, rfl⟩ F.slot_list_repr.toG ?_
      cases its with
      | nil =>
        cases rv; cases h2
        simp only [PyData.shownAll, listText_nil] at q
        exact call_list_repr_empty ⟨_, ho, rfl⟩ ho rfl ⟨_, _, rfl, .str _, H, I.tok _, ⟨_, rfl⟩, q⟩
      | cons x l => exact call_list_reprK ho rfl rfl na (by simpa using k.length_eq) (fun i y e => k.item i y (by simpa using e)) (A := X.A.in1) hg (fun b _ => Clear.nil b) (by show X.A.units + 1 + _ < cLine; omega) (fun _ _ e => e) (fun h' u tk hk => ⟨_, _, rfl, .str _, H, I.kept hk, ⟨_, rfl⟩, q⟩) hz'
    | @tup a us ds h1 h2 =>
      cases r1
      simp only [PyData.depth] at hd
      have hz' : (tupleText (PyData.shownAll ds)).length ≤ sizeLine := by simpa only [PyData.shown] using hz
      simp only [PyData.shown] at q
      obtain ⟨_, its, rv, o, ho, hc, n, hdt⟩ := I.hok _ _ h1
      obtain ⟨bs, hb, k⟩ := dqs_repr I.hok h2 (by simpa [PyData.showable] using hs) (fun t ht => Nat.le_trans (tupleText_mem_le ht) hz') rv
      obtain ⟨as, rd⟩ := dqs_reads I.hok h2 (by simpa [PyData.showable] using hs) rv
      have na : a ∉ bs := not_mem_of_deeper (.tuple ho hc hdt rd) (by simp only [PyData.depth]; omega) hb
      refine call_repr_slot (by omega) ⟨_, ho, hc⟩ F.slot_tuple_repr ?_
      exact call_tuple_reprK ho hc hdt na k (A := X.A.in1) hg (fun b _ => Clear.nil b) (by show X.A.units + 1 + _ < cLine; omega) (fun _ _ e => e) (fun h' u tk hk => ⟨_, _, rfl, .str _, H, I.kept hk, ⟨_, rfl⟩, q⟩) hz'
    | @dct a kvs ds h1 h2 =>
      cases r1
      simp only [PyData.depth] at hd
      have z := dct_len h2
      have hz' : (dictText (PyData.shownKv ((kvs.map fun p => kD p.1).zip ds))).length ≤ sizeLine := by simpa only [PyData.shown] using hz
      have q' := q
      simp only [PyData.shown, PyData.shownKv_eq] at q'
      rw [zip_fst z, zip_snd z] at q'
      obtain ⟨_, sm, vs, rk, o, es, ep, ho, hx, hdt, _, hp, _⟩ := I.hok _ _ h1
      obtain ⟨hs1, hs2⟩ := PyData.showableKv_split _ (by simpa [PyData.showable] using hs)
      have e1 := PyData.depthAll_keys_le ((kvs.map fun p => kD p.1).zip ds)
      have e2 := PyData.depthAll_vals_le ((kvs.map fun p => kD p.1).zip ds)
      have y1 : ∀ t ∈ PyData.shownAll (kvs.map fun p => kD p.1), t.length ≤ sizeLine := fun t ht => by
        obtain ⟨p, hp, hl⟩ := PyData.shownKv_key_le ((kvs.map fun p => kD p.1).zip ds) t (by rw [zip_fst z]; exact ht)
        exact Nat.le_trans hl (Nat.le_trans (dictText_mem_le hp) hz')
      have y2 : ∀ t ∈ PyData.shownAll ds, t.length ≤ sizeLine := fun t ht => by
        obtain ⟨p, hp, hl⟩ := PyData.shownKv_val_le ((kvs.map fun p => kD p.1).zip ds) t (by rw [zip_snd z]; exact ht)
        exact Nat.le_trans hl (Nat.le_trans (dictText_mem_le hp) hz')
      rw [zip_fst z] at hs1 e1
      rw [zip_snd z] at hs2 e2
      have rv := vals_entries rk hp
      have k1 := keys_repr (P := X.prog) (w := X.w) (keys_reads (h := s.heap) rk hp) (fun x hx => by
        obtain ⟨p, _, rfl⟩ := List.mem_map.mp hx
        cases p.1 with
        | inl i => exact .inl ⟨i, rfl⟩
        | inr y => exact .inr ⟨y, rfl⟩) hs1 y1
      obtain ⟨bs, hb, k2⟩ := dqs_repr I.hok h2 hs2 y2 rv
      obtain ⟨as, rd0⟩ := dqs_reads I.hok h2 hs2 rv
      have rd : Reads s.heap (.ref a) (.dict ((kvs.map fun p => kD p.1).zip ds)) _ := .dict ho hx.1 hdt (by rw [zip_fst z]; exact keys_reads rk hp) (by rw [zip_snd z]; exact rd0)
      have na : a ∉ bs := not_mem_of_deeper rd (by simp only [PyData.depth]; omega) (hb.mono e2)
      refine call_repr_slot (by omega) ⟨_, ho, hx.1⟩ F.slot_dict_repr ?_
      exact call_dict_reprK ho hx.1 hdt sm na (ReprEntriesK.of_two es.toList _ _ (k1.more_le (fun _ hb => by simp at hb) e1) (k2.more_le (fun _ hb => hb) e2)) (A := X.A.in1) hg (fun b _ => Clear.nil b) (by show X.A.units + 1 + _ < cLine; omega) (fun _ _ e => e)
        (fun h' u tk hk => ⟨_, _, rfl, .str _, H, I.kept hk, ⟨_, rfl⟩, q'⟩) (by have w := hz'; rw [PyData.shownKv_eq, zip_fst z, zip_snd z] at w; exact w)
structure FnG (P : Program) (w : World) (K : PySem.W.Frag) (mg : Str → Option Value) (base : Heap) (CX : CXT) (k : Nat) (f : Addr) (fd : FuncData) (ps : List Str) (sp : Sp) : Prop where
  len : ∀ vs H Q E, sp vs H Q E → vs.length = ps.length
  run : ∀ (A : Around) (outer : List Env) (s : Shared) (H : Hp) (args : Args) (us : List Value) (vs : List V) (Q : VK) (E : XK), Room k A → A.guards = some [] → Env0 P w K mg base A outer s H → BindsTo s fd args (ps.zip us) → Vals vs us → sp vs H Q E →
    codeAny (model P w) A (.call (.ref f) args) (CR CX outer P w H s Q E) s
theorem FnOk.g {P : Program} {w : World} {K : PySem.W.Frag} {mg : Str → Option Value} {base : Heap} {CX : CXT} {k : Nat} {f : Addr} {fd : FuncData} {ps : List Str} {sp : Sp} (F : FnOk P w K mg base CX k f fd ps sp) : FnG P w K mg base CX k f fd ps sp :=
  ⟨F.len, fun A outer s H args us vs Q E hr _ => F.run A outer s H args us vs Q E hr⟩
theorem FnG.mono {P : Program} {w : World} {K : PySem.W.Frag} {mg : Str → Option Value} {base : Heap} {CX : CXT} {j k : Nat} {f : Addr} {fd : FuncData} {ps : List Str} {sp : Sp} (F : FnG P w K mg base CX j f fd ps sp) (h : j ≤ k) : FnG P w K mg base CX k f fd ps sp :=
  ⟨F.len, fun A outer s H args us vs Q E hr => F.run A outer s H args us vs Q E (hr.mono h)⟩
theorem fn_ofG {CX : CXT} {P : Program} {w : World} {K : PySem.W.Frag} {mg : Str → Option Value} {base : Heap} {k : Nat} {f : Addr} {name qual : Str} {params : Arguments} {body : List Stmt} {scope : Scope} {dV kV doc pm cdv ct oc : Value} {an od : Option Addr}
    {osl : Array (Option Value)} {N ps : List Str} {sp : Sp} (lk : K.lookup f = some ⟨oc, od, .func (PySem.W.fnOf name qual params body scope dV kV doc pm an cdv ct), osl⟩) (hcd : PySem.W.codeIn K cdv qual = true) (S : FnScope N ps scope)
    (len : ∀ vs H Q E, sp vs H Q E → vs.length = ps.length)
    (hbody : ∀ (A : Around) (outer : List Env) (s : Shared) (H : Hp) (vs : List V) (Q : VK) (E : XK), Room k (A.deeper (envOfC qual scope s.heap.objs.size f cdv)) → (A.deeper (envOfC qual scope s.heap.objs.size f cdv)).guards = some [] → sp vs H Q E →
      ∃ t, PSs (cxOf CX P w K mg base N qual scope f cdv A outer s H E) body t ∧ t { nx := fun _ H' => Q .non H', rt := Q } (start N vs) H) :
    FnG P w K mg base CX (k + 1) f (PySem.W.fnOf name qual params body scope dV kV doc pm an cdv ct) ps sp where
  len := len
  run A outer s H args us vs Q E hr hg e0 hb r hsp := by
    have inH : K.In s.heap := e0.mod.kin.keeps fun b o e => (e0.bs b o e).1
    have done : ∀ (fl : Flow) (s' : Shared), (∀ σ' H' v u, Inv (cxOf CX P w K mg base N qual scope f cdv A outer s H E) [] σ' H' s' → RelV v u → Q v H' → CE outer P w H s Q u s') := fun fl s' σ' H' v u J rv q => ⟨v, H', J.os, J.bare, J.base, J.hok, rv, q⟩
    refine codeAny_call_function hr.depth (inH _ _ lk) rfl S.co S.gen rfl (PySem.W.codeRec_of inH hcd) (hb _ _ _ _ ?_)
    refine wpAny_newFunctionEnv_cells S.kind (fun y hy => ?_) fun env he s1 x => ?_
    · rcases S.par y.1 (List.of_mem_zip hy).1 with q | q
      · exact .inl q
      · exact .inr ⟨q, PySem.W.cellsFrom_some _ _ _ (.inl q)⟩
    · subst he
      obtain ⟨t, ht, hq⟩ := hbody A outer s H vs Q E (hr.deeper _) hg hsp
      refine ⟨(e0.mod.nolimit.keeps fun b o e => (e0.bs b o e).1).keeps x.toInCall.keep, codeAny_func ?_⟩
      refine wpAny_mono (ht.run [] s1 (start N vs) H _ (inv_start S hr.hd e0 (len _ _ _ _ hsp) r x) hq) (fun fl s' hs => ?_) fun e s' hs => hs
      cases fl with
      | ret u => obtain ⟨v, σ', H', J, rv, q⟩ := hs; exact done .next s' _ _ _ _ J rv q
      | next => obtain ⟨σ', H', J, q⟩ := hs; exact done .next s' _ _ .non _ J rfl q
      | brk => obtain ⟨_, _, _, q⟩ := hs; exact q.elim
      | cont => obtain ⟨_, _, _, q⟩ := hs; exact q.elim
end DL
namespace DL
open PySem PySem.Spec PyProof.Rows L2 Evl
section
variable {P : Program} {w : World} {K : PySem.W.Frag} {mg mb : Str → Option Value} {CX : CXT} {k : Nat} {fa a : Addr} {fd : FuncData} {x : Str} {sp : Sp} {s₁ : Shared} {vs : List Value} {ns : List Int}
/-- the law's call over a heap in which at most frozen lists are tracked -/
theorem law_atG {H : Hp} (KX : K.In s₁.heap) (hns : s₁.heap.Ns mainGlobals mg) (hb : s₁.heap.Ns builtinsNs mb) (hbb : ∀ x : Str, x ≠ "__name__" → mb x = bootBuiltins x) (hlim : s₁.heap.NoLimit) (hg : s₁.gens = #[]) (hr : Room k callerA)
    (F : ∀ base : Heap, K.In base → base.Ns mainGlobals mg → FnG P w K mg base CX k fa fd [x] sp) (hbind : ∀ (s : Shared) (u : Value), BindsTo s fd ⟨[u], []⟩ [(x, u)])
    (hsp : sp [.ref a] H (fun v _ => v = .bl true) fun _ _ _ => False) (hCX : ∀ e s', CX [] H s₁ (fun _ _ _ => False) e s' → False) (hok : HOk P w H s₁.heap)
    (fr : ∀ b u, H b = some u → ∃ (o : Obj) (xs : List V), u = .frz o (.lst xs) ∧ (∀ es ep, o.data ≠ .dict es ep) ∧ K.lookup b = none) :
    codeAny (model P w) callerA (.call (.ref fa) ⟨[.ref a], []⟩) (fun r s' => r = .ok (.ret (.bool true)) ∧ OldK s₁.heap s'.heap ∧ s'.os = s₁.os ∧ AllBare s'.gens) s₁ := by
  have ns1 : ∀ {b : Addr} {m : Str → Option Value}, s₁.heap.Ns b m → (hidT s₁.heap H).Ns b m := fun {b m} ⟨o, es, ep, e, d, r⟩ => ⟨o, es, ep, hidT_get e (by
    cases q : H b with
    | none => rfl
    | some u =>
      obtain ⟨o', xs, rfl, nd, _⟩ := fr b u q
      have e' := (hok b _ q).1
      rw [e] at e'; cases e'
      exact absurd d (nd es ep)), d, r⟩
  have inK : K.In (hidT s₁.heap H) := fun b o e => hidT_get (KX b o e) (by
    cases q : H b with
    | none => rfl
    | some u =>
      obtain ⟨_, _, _, _, z⟩ := fr b u q
      rw [e] at z; cases z)
  have mod : Mod K mg (hidT s₁.heap H) := ⟨inK, ns1 hns, ⟨mb, ns1 hb, hbb⟩, let ⟨mc, h1, h2⟩ := hlim; ⟨mc, ns1 h1, h2⟩⟩
  have e0 : Env0 P w K mg (hidT s₁.heap H) callerA [] s₁ H := ⟨rfl, mod, fun b o e => of_hidT e, Nat.le_of_eq (hidT_size _ _), trivial, fun b hb => (nomatch hb), hok, .of_eq hg⟩
  refine codeAny_mono ((F _ inK (ns1 hns)).run callerA [] s₁ H ⟨[.ref a], []⟩ [.ref a] [.ref a] _ _ hr rfl e0 (hbind s₁ (.ref a)) (.cons rfl .nil) hsp) fun r s' h => ?_
  match r, h with
  | .error e, h => exact (hCX e s' h).elim
  | .ok (.ret u), h =>
    obtain ⟨v, H', os, bare, un, hok', r', rfl⟩ := h
    cases r'
    refine ⟨rfl, OldK.of_keep fun b o e => ?_, os, bare⟩
    cases q : H b with
    | none => exact un.keep b o e q (fun z => nomatch z) (fun z => nomatch z)
    | some u =>
      obtain ⟨o', xs, rfl, _⟩ := fr b u q
      have e1 := (hok b _ q).1
      rw [e] at e1; cases e1
      exact (hok' b _ (un.frzs b _ _ q)).1
theorem law_callG (KX : K.In s₁.heap) (hns : s₁.heap.Ns mainGlobals mg) (hb : s₁.heap.Ns builtinsNs mb) (hbb : ∀ x : Str, x ≠ "__name__" → mb x = bootBuiltins x) (hlim : s₁.heap.NoLimit) (hg : s₁.gens = #[])
    (ha : s₁.heap.get? a = some { cls := .type "list", data := .seq vs.toArray }) (hi : IntsAre vs ns) (hl : ns.length ≤ sizeLine) (hr : Room k callerA)
    (F : ∀ base : Heap, K.In base → base.Ns mainGlobals mg → FnG P w K mg base CX k fa fd [x] sp) (hbind : ∀ (s : Shared) (u : Value), BindsTo s fd ⟨[u], []⟩ [(x, u)])
    (hsp : ∀ H : Hp, SqL K H a (ns.map V.int) → sp [.ref a] H (fun v _ => v = .bl true) fun _ _ _ => False) (hCX : ∀ H e s', CX [] H s₁ (fun _ _ _ => False) e s' → False) :
    codeAny (model P w) callerA (.call (.ref fa) ⟨[.ref a], []⟩) (fun r s' => r = .ok (.ret (.bool true)) ∧ OldK s₁.heap s'.heap ∧ s'.os = s₁.os ∧ AllBare s'.gens) s₁ := by
  have rv := vals_ints hi
  by_cases hk : ∃ o, K.lookup a = some o
  · obtain ⟨o, hk⟩ := hk
    have e := KX a o hk
    rw [ha] at e; cases e
    exact law_atG (H := fun _ => none) KX hns hb hbb hlim hg hr F hbind
      (hsp _ (.inr ⟨_, vs.toArray, _, hk, rfl, rfl, rfl, by rw [List.size_toArray, hi.length]; exact hl, by simpa using rv⟩)) (hCX _) (fun _ _ z => nomatch z) (fun _ _ z => nomatch z)
  · have hk : K.lookup a = none := by
      cases q : K.lookup a with
      | none => rfl
      | some o => exact absurd ⟨o, q⟩ hk
    have at_ : ∀ {b : Addr} {u : HO}, (fun c : Addr => if c = a then some (HO.frz { cls := .type "list", data := .seq vs.toArray } (.lst (ns.map V.int))) else none) b = some u → b = a ∧ u = .frz { cls := .type "list", data := .seq vs.toArray } (.lst (ns.map V.int)) := fun {b u} z => by
      by_cases hb : b = a
      · exact ⟨hb, (Option.some.inj ((if_pos hb).symm.trans z)).symm⟩
      · have z' := (if_neg hb).symm.trans z
        cases z'
    refine law_atG (H := fun c => if c = a then some (.frz { cls := .type "list", data := .seq vs.toArray } (.lst (ns.map V.int))) else none) KX hns hb hbb hlim hg hr F hbind
      (hsp _ (.inl (.inr ⟨{ cls := .type "list", data := .seq vs.toArray }, if_pos rfl⟩))) (hCX _) (fun b u z => ?_) (fun b u z => ?_)
    · obtain ⟨rfl, rfl⟩ := at_ z
      exact ⟨ha, by rw [List.length_map]; exact hl, vs, _, rv, ha⟩
    · obtain ⟨rfl, rfl⟩ := at_ z
      refine ⟨_, _, rfl, fun es ep d => ?_, hk⟩
      have d' : Data.seq vs.toArray _ = Data.dict es ep := d
      cases d'
end
/-- the end of a law whose def promises where no repr is under way -/
theorem walk_ofG {l : PySem.W.OpenLaw} {n k : Nat} {q : Program} {loose : List Str} {XP : (Str → Option Value) → Heap → Prop} {YP : World → Heap → Prop} {d : DefRec} {K : Params → PySem.W.Frag} {CX : World → CXT} {sp : World → Sp} {x : Str}
    (hn : l.most = some n) (hn2 : n ≤ sizeLine) (hdf : d.params.defaults = []) (hr : Room k callerA) (hY : ∀ (w : World) (h : Heap), YP w h → (K w.params).In h)
    (F : ∀ (w : World) (mg : Str → Option Value) (fa : Addr) (h : Heap), (K w.params).In h → h.Ns mainGlobals mg → mg d.name = some (.ref fa) →
      ∃ fd : FuncData, (∀ (s : Shared) (u : Value), BindsTo s fd ⟨[u], []⟩ [(x, u)]) ∧ ∀ base : Heap, (K w.params).In base → base.Ns mainGlobals mg → FnG l.prog w (K w.params) mg base (CX w) k fa fd [x] (sp w))
    (hsp : ∀ (w : World) (H : Hp) (a : Addr) (ns : List Int), ns.length ≤ n → SqL (K w.params) H a (ns.map V.int) → sp w [.ref a] H (fun v _ => v = .bl true) fun _ _ _ => False)
    (hCX : ∀ (w : World) (H : Hp) (s : Shared) (e : Value) (s' : Shared), CX w [] H s (fun _ _ _ => False) e s' → False) :
    PySem.W.WalkO q loose XP YP l.row.toRowW d [] (fun f vs => PySem.call f vs) := by
  refine Att.attach_call hn hdf fun w s₀ s₁ mg mb fa o pm cd doc a vs ns G Y ho hd hcd hmg hobj hints hlen hg => ?_
  obtain ⟨fd, hb, hF⟩ := F w mg fa _ (hY w _ Y) G.T.g hmg
  exact law_callG (hY w _ Y) G.T.g G.T.b G.T.builtins G.T.nolimit hg hobj hints (Nat.le_trans hlen hn2) hr hF hb (fun H hS => hsp w H a ns hlen hS) fun H e s' => hCX w H s₁ e s'
end DL
namespace DL
open PySem PySem.Spec PyProof.Rows L2 Evl
def pr2 (s : Int × Int) : PyData := .tuple [.int s.1, .int s.2]
/-- the pair at a place -/
def kOf (H : Hp) : V → Int × Int
  | .ref t => match H t with
    | some (.tup [.int a, .int b]) => (a, b)
    | _ => (0, 0)
  | _ => (0, 0)
theorem kOf_at {H : Hp} {t : Addr} {a b : Int} (h : H t = some (.tup [.int a, .int b])) : kOf H (.ref t) = (a, b) := by
  unfold kOf
  simp only [h]
theorem dq_pr2 {K : PySem.W.Frag} {H : Hp} {v : V} {s : Int × Int} (h : Dq K H v (pr2 s)) : ∃ t, v = .ref t ∧ H t = some (.tup [.int s.1, .int s.2]) := by
  cases h with
  | tup h1 h2 =>
    cases h2 with
    | cons a r =>
      cases a
      cases r with
      | cons b r =>
        cases b; cases r
        exact ⟨_, rfl, h1⟩
theorem dqs_pr2 {K : PySem.W.Frag} {H : Hp} : ∀ {l : List (Int × Int)} {xs : List V}, DqAll K H xs (l.map pr2) → l = xs.map (kOf H) ∧ ∀ x ∈ xs, ∃ t, x = .ref t ∧ H t = some (.tup [.int (kOf H x).1, .int (kOf H x).2])
  | [], _, .nil => ⟨rfl, fun x h => nomatch h⟩
  | s :: l, _, .cons d r => by
    obtain ⟨t, rfl, h⟩ := dq_pr2 d
    obtain ⟨e, q⟩ := dqs_pr2 r
    have ek := kOf_at h
    refine ⟨by rw [List.map_cons, ek, ← e], fun x hx => ?_⟩
    rcases List.mem_cons.mp hx with rfl | hx
    · exact ⟨t, rfl, by rw [ek]; exact h⟩
    · exact q x hx
theorem dqs_kOf {K : PySem.W.Frag} {B H : Hp} : ∀ {ys : List V}, (∀ y ∈ ys, ∃ t, y = .ref t ∧ B t = some (.tup [.int (kOf H y).1, .int (kOf H y).2])) → DqAll K B ys ((ys.map (kOf H)).map pr2)
  | [], _ => .nil
  | y :: ys, h => by
    obtain ⟨t, rfl, e⟩ := h y (List.mem_cons_self ..)
    exact .cons (.tup e (.cons (.int _) (.cons (.int _) .nil))) (dqs_kOf fun z hz => h z (List.mem_cons_of_mem _ hz))
section
variable {F : Fr} {G : List Sl} {κ : Kp} {te : TE} {α : Kps}
theorem eo_sort2 (h : EK F G te fun x G1 => ∃ l : List (Int × Int), x = .list (l.map pr2) ∧ ∀ m : List (Int × Int), m.Perm l → (m.Pairwise fun x y => SrtO.lexB y x = false) → α (m.map pr2) G1) : EO F G (tCB (rSortedPO F.K) (tCons te tNil)) α := fun σ H S Q q => by
  refine h σ H S _ fun v H1 x G1 ⟨l, ex, k⟩ S1 e1 d1 => ?_
  subst ex
  cases d1 with
  | @lst a xs _ ha hd =>
    have lo : ∀ {b o}, low F G1 H1 b = some o → H1 b = some o := fun {b o} e => low_ex b o e
    obtain ⟨el, q1⟩ := dqs_pr2 (dps_mono low_ex hd)
    refine ⟨a, xs, kOf H1, rfl, .inl (.inl (lo ha)), q1, fun ys p hs hst hp => ?_⟩
    have e : Ex H1 (del p (upd H1 p (.lst ys))) := ex_del (upd_ex hp) hp
    obtain ⟨ey, q2⟩ := dqs_pr2 (l := l) (H := low F G1 H1) hd
    have pm := hst.perm
    have dl : DqAll F.K (low F G1 H1) ys ((ys.map (kOf H1)).map pr2) := by
      refine dqs_kOf fun y hy => ?_
      obtain ⟨t, rfl, z⟩ := q2 y (pm.mem_iff.mp hy)
      refine ⟨t, rfl, ?_⟩
      have z1 := lo z
      have z2 := kOf_at z1
      rw [z2]
      exact z
    refine q p ys _ _ G1 (k (ys.map (kOf H1)) ?_ ?_) (S1.ex e) (e1.trans (low_mono e)) upd_same (dps_mono (low_mono e) dl)
    · rw [el]; exact pm.map _
    · rw [List.pairwise_map]; exact hs
end
end DL
namespace DL
open PySem PySem.Spec PyProof.Rows L2 Evl
section
variable {F : Fr} {G : List Sl} {κ : Kp} {te : TE} {α : Kps}
/-- own list != .. -/
theorem ek_neO {tb : TE} {i : Nat} {p : Addr} {xs : List PyData} (hi : G[i]? = some (.own p xs)) (h : EK F G tb fun y G2 => ∃ ds, G2[i]? = some (.own p ds) ∧ SeqAt.shaped (.list ds) = true ∧ SeqAt.shaped y = true ∧ κ (.bool (!PyData.eqv (.list ds) y)) G2) :
    EK F G (tOp (rNeD F.K) (tVar i) tb) κ := fun σ H S Q q => by
  refine ⟨.ref p, (S.ownd hi).1, h σ H S _ fun u H1 y G1 ⟨ds, g1, hx, hy, k⟩ S1 e1 du => ?_⟩
  obtain ⟨_, vs, hp, hd⟩ := S1.ownd g1
  exact ⟨.list ds, y, dq_dp (.lst hp (dps_mono low_ex hd)) (nod_of hx), dq_dp (dp_mono low_ex du) (nod_of hy), hx, hy, q _ H1 _ G1 k S1 e1 (.bl _)⟩
end
end DL
namespace DL
open PySem PySem.Spec PyProof.Rows L2 Evl
theorem callR' {X : Cx} {K : PySem.W.Frag} (h0 : X.K = K) (hg : X.A.guards = some []) (hu : X.A.units + 64 < cLine) : CallR X (.builtin "repr") (rRepr K) := by subst h0; exact call_repr hg hu
section
variable {F : Fr} {G : List Sl} {κ : Kp} {te : TE} {α : Kps}
theorem ck_tupleOf {zs : List PyData} (h : ∃ ds, (zs = [.list ds] ∨ zs = [.tuple ds]) ∧ κ (.tuple ds) G) : CK F (fun xs H Q => ∃ p ys, xs = [.ref p] ∧ ((SqL F.K H p ys ∧ ∀ l, H l = none → Q (.ref l) (upd H l (.tup ys))) ∨ (SqT F.K H p ys ∧ Q (.ref p) H))) zs G κ := fun σ H vs S d Q q => by
  obtain ⟨ds, e, k⟩ := h
  rcases e with rfl | rfl
  · obtain ⟨v, rfl, dd⟩ := dps1 d
    cases dd with
    | lst hs ha =>
      exact ⟨_, _, rfl, .inl ⟨.inl (.inl (low_ex _ _ hs)), fun l hl => q _ _ _ G k (S.ex (upd_ex hl)) (low_mono (upd_ex hl)) (.tup (low_new S hl) (dps_mono (low_mono (upd_ex hl)) ha))⟩⟩
  · obtain ⟨v, rfl, dd⟩ := dps1 d
    cases dd with
    | tup hs ha => exact ⟨_, _, rfl, .inr ⟨.inl (.inl (low_ex _ _ hs)), q _ H _ G k S (Ex.refl _) (.tup hs ha)⟩⟩
end
section
variable {P : Program} {w : World} {K : PySem.W.Frag} {mg : Str → Option Value} {base : Heap}
theorem okG {x qual : Str} {st : Stmt} {f : Addr} {fd : FuncData} {N ps : List Str} {k : Nat} {sp : Sp} (F : L2.Fun K x qual st f fd) (S : FnScope N ps (defScope st)) (len : ∀ vs H Q E, sp vs H Q E → vs.length = ps.length)
    (hbody : ∀ (cdv : Value) (A : Around) (outer : List Env) (s : Shared) (H : Hp) (vs : List V) (Q : VK) (E : XK), Room k (A.deeper (envOfC qual (defScope st) s.heap.objs.size f cdv)) → (A.deeper (envOfC qual (defScope st) s.heap.objs.size f cdv)).guards = some [] → sp vs H Q E →
      ∃ t, PSs (cxOf CX0 P w K mg base N qual (defScope st) f cdv A outer s H E).nox (defBody st) t ∧ t { nx := fun _ H' => Q .non H', rt := Q } (start N vs) H) : FnG P w K mg base CX0 (k + 1) f fd ps sp := by
  obtain ⟨oc, od, kV, doc, pm, an, cdv, ct, osl, rfl, lk, hcd⟩ := F.ex
  refine fn_ofG lk hcd S len fun A outer s H vs Q E hr hg hsp => ?_
  obtain ⟨t, h, q⟩ := hbody cdv A outer s H vs Q E hr hg hsp
  exact ⟨t, h.nox, q⟩
end
end DL
namespace DL
open PySem PySem.Spec PyProof.Rows L2 Evl
structure Sm (n d : Nat) (x : PyData) : Prop where
  sh : x.showable = true
  lv : x.leavesShort 13 = true
  wt : x.weight ≤ n
  dp : x.depth ≤ d
theorem Sm.mono {n d n' d' : Nat} {x : PyData} (h : Sm n d x) (hn : n ≤ n') (hd : d ≤ d') : Sm n' d' x := ⟨h.sh, h.lv, Nat.le_trans h.wt hn, Nat.le_trans h.dp hd⟩
theorem log2_12 {i : Int} (h : i.natAbs < 10 ^ 12) : i.natAbs.log2 < 40 := by
  by_cases z : i.natAbs = 0
  · rw [z]; decide
  · exact (Nat.log2_lt z).mpr (Nat.lt_of_lt_of_le h (by decide))
theorem sm_int {i : Int} (h : i.natAbs < 10 ^ 12) : Sm 40 0 (.int i) := by
  have hl := log2_12 h
  refine ⟨?_, ?_, ?_, Nat.le_refl _⟩
  · simp only [PyData.showable, decide_eq_true_eq]; omega
  · simp only [PyData.leavesShort, decide_eq_true_eq]; exact PyData.shown_int_le h
  · simp only [PyData.weight]
    split <;> omega
structure SmAll (n d : Nat) (xs : List PyData) : Prop where
  sh : PyData.showableAll xs = true
  lv : PyData.leavesShortAll 13 xs = true
  wt : PyData.weightAll xs ≤ xs.length * (n + 1)
  dp : PyData.depthAll xs ≤ d
theorem smAll {n d : Nat} : ∀ {xs : List PyData}, (∀ x ∈ xs, Sm n d x) → SmAll n d xs
  | [], _ => ⟨rfl, rfl, Nat.zero_le _, Nat.zero_le _⟩
  | x :: xs, h => by
    have a := h x (List.mem_cons_self ..)
    have b := smAll fun y hy => h y (List.mem_cons_of_mem _ hy)
    refine ⟨?_, ?_, ?_, ?_⟩
    · simp only [PyData.showableAll, a.sh, b.sh, Bool.and_self]
    · simp only [PyData.leavesShortAll, a.lv, b.lv, Bool.and_self]
    · have h1 := a.wt
      have h2 := b.wt
      simp only [PyData.weightAll, List.length_cons, Nat.add_mul, Nat.one_mul]
      omega
    · have h1 := a.dp
      have h2 := b.dp
      simp only [PyData.depthAll]
      omega
theorem sm_list {n d m : Nat} {xs : List PyData} (h : ∀ x ∈ xs, Sm n d x) (hm : xs.length ≤ m) : Sm (m * (n + 1)) (d + 1) (.list xs) := by
  have a := smAll h
  refine ⟨by simpa only [PyData.showable] using a.sh, by simpa only [PyData.leavesShort] using a.lv, ?_, by simpa only [PyData.depth] using Nat.succ_le_succ a.dp⟩
  simp only [PyData.weight]
  exact Nat.le_trans a.wt (Nat.mul_le_mul_right _ hm)
theorem sm_tuple {n d m : Nat} {xs : List PyData} (h : ∀ x ∈ xs, Sm n d x) (hm : xs.length ≤ m) : Sm (m * (n + 1)) (d + 1) (.tuple xs) := by
  have a := smAll h
  refine ⟨by simpa only [PyData.showable] using a.sh, by simpa only [PyData.leavesShort] using a.lv, ?_, by simpa only [PyData.depth] using Nat.succ_le_succ a.dp⟩
  simp only [PyData.weight]
  exact Nat.le_trans a.wt (Nat.mul_le_mul_right _ hm)
theorem Sm.fits {n d : Nat} {x : PyData} (h : Sm n d x) (hn : n ≤ 2 ^ 20) : x.shown.length ≤ sizeLine := PyData.shown_fits (by decide) (by decide) h.lv (Nat.le_trans h.wt hn)
end DL
namespace DL
open PySem L2 Evl
def intsOf : List PyData → List Int
  | [] => []
  | .int i :: r => i :: intsOf r
  | _ :: r => intsOf r
section
variable {F : Fr} {G : List Sl} {κ : Kp} {ta tb te : TE} {α : Kps}
theorem rk_ixAny {x y : PyData} (h : ∃ ds i, x = .list ds ∧ y = .int i ∧ 0 ≤ i ∧ i < (ds.length : Int) ∧ ∀ d, d ∈ ds → κ d G) : RK F (rIxL F.K) x y G κ := by
  obtain ⟨ds, i, rfl, rfl, h0, h1, k⟩ := h
  obtain ⟨d, e, hd⟩ := atI_ok h0 h1
  exact rk_ixL ⟨_, _, _, rfl, rfl, e, k d hd⟩
def IsLst (x : PyData) (k : List PyData → Prop) : Prop := ∃ ds, x = .list ds ∧ k ds
def IsTpl (x : PyData) (k : List PyData → Prop) : Prop := ∃ ds, x = .tuple ds ∧ k ds
theorem isLst {ds : List PyData} {k : List PyData → Prop} (h : k ds) : IsLst (.list ds) k := ⟨_, rfl, h⟩
theorem isTpl {ds : List PyData} {k : List PyData → Prop} (h : k ds) : IsTpl (.tuple ds) k := ⟨_, rfl, h⟩
theorem eo_slLx {lo hi : TO} (h : EK F G te fun x G1 => EP_ F G1 lo fun a G2 => EP_ F G2 hi fun b G3 => IsLst x fun ds => α (cutD ds a b) G3) : EO F G (tSl (rSlL F.K) te lo hi) α := eo_slL h
/-- t[lo:hi] -/
theorem slt' {X : Cx} {K : PySem.W.Frag} (h : X.K = K) : SlR X (rSlA K) := by subst h; exact sl_tupA
theorem cutD_whole {ds : List PyData} {a b : Option Int} (h1 : HT.sIx ds.length 0 a = 0) (h2 : HT.sIx ds.length ds.length b = ds.length) : cutD ds a b = ds := by
  unfold cutD
  rw [h1, h2, List.drop_zero, Nat.sub_zero, List.take_length]
theorem ek_slT {lo hi : TO} (h : EK F G te fun x G1 => EP_ F G1 lo fun a G2 => EP_ F G2 hi fun b G3 => IsTpl x fun ds => κ (.tuple (cutD ds a b)) G3) : EK F G (tSl (rSlA F.K) te lo hi) κ := fun σ H S Q q =>
  h σ H S _ fun v H1 x G1 k1 S1 e1 d1 => k1 σ H1 S1 _ fun a H2 G2 k2 S2 e2 => k2 σ H2 S2 _ fun b H3 G3 ⟨ds, ex, k3⟩ S3 e3 => by
    subst ex
    have d3 := dp_mono (e2.trans e3) d1
    cases d3 with
    | @tup aa ys _ hs ha =>
      have hl := dps_length ha
      refine ⟨aa, ys, rfl, .inl (.inl (low_ex _ _ hs)), fun w => ?_, fun _ p hp => ?_⟩
      · rw [hl] at w
        have k3 : κ (.tuple (cutD ds a b)) G3 := k3
        rw [cutD_whole w.1 w.2] at k3
        exact q _ H3 _ G3 k3 S3 ((e1.trans e2).trans e3) (.tup hs ha)
      · exact q _ _ _ G3 k3 (S3.ex (upd_ex hp)) (((e1.trans e2).trans e3).trans (low_mono (upd_ex hp))) (.tup (low_new S3 hp) (dps_mono (low_mono (upd_ex hp)) (dps_cut ha a b)))
/-- t + u -/
theorem cata' {X : Cx} {K : PySem.W.Frag} (h : X.K = K) : OpR X (binaryOp .Add) (rCatA K) := by subst h; exact op_catA
theorem rk_catA {x y : PyData} (h : ∃ ds es, x = .tuple ds ∧ y = .tuple es ∧ ds.length + es.length ≤ 1000000 ∧ κ (.tuple (ds ++ es)) G) : RK F (rCatA F.K) x y G κ := fun σ H v u S dv du Q q => by
  obtain ⟨ds, es, rfl, rfl, hl, k⟩ := h
  cases dv with
  | @tup a xs _ h1 a1 =>
    cases du with
    | @tup b ys _ h2 a2 =>
      refine ⟨a, b, xs, ys, rfl, rfl, .inl (.inl (low_ex _ _ h1)), .inl (.inl (low_ex _ _ h2)), Nat.le_trans (by rw [dps_length a1, dps_length a2]; exact hl) (by decide), fun e => ?_, fun _ e => ?_, fun _ _ p hp => ?_⟩
      · subst e
        cases a1
        exact q _ H _ G k S (Ex.refl _) (.tup h2 a2)
      · subst e
        cases a2
        rw [List.append_nil] at k
        exact q _ H _ G k S (Ex.refl _) (.tup h1 a1)
      · exact q _ _ _ G k (S.ex (upd_ex hp)) (low_mono (upd_ex hp)) (.tup (low_new S hp) (dps_mono (low_mono (upd_ex hp)) (dps_append a1 a2)))
end
end DL
namespace DL
open PySem PySem.Spec PyProof.Rows HT L2 Evl
section
variable {F : Fr} {G : List Sl} {κ : Kp} {te : TE} {α : Kps}
theorem rk_eqT {x y : PyData} (h : ∃ a b : Str, x = .str a ∧ y = .str b ∧ κ (.bool (decide (a = b))) G) : RK F rEq x y G κ := fun σ H v u S dv du Q q => by
  obtain ⟨i, j, rfl, rfl, k⟩ := h
  cases dv; cases du
  refine ⟨rfl, ?_⟩
  have e : decide (V.str i = V.str j) = decide (i = j) := by
    by_cases z : i = j
    · subst z; simp
    · rw [decide_eq_false z, decide_eq_false fun w => z (V.str.inj w)]
  rw [e]
  exact q _ H _ G k S (Ex.refl _) (.bl _)
theorem rk_neT {x y : PyData} (h : ∃ a b : Str, x = .str a ∧ y = .str b ∧ κ (.bool (!decide (a = b))) G) : RK F rNe x y G κ := fun σ H v u S dv du Q q => by
  obtain ⟨i, j, rfl, rfl, k⟩ := h
  cases dv; cases du
  refine ⟨rfl, ?_⟩
  have e : decide (V.str i = V.str j) = decide (i = j) := by
    by_cases z : i = j
    · subst z; simp
    · rw [decide_eq_false z, decide_eq_false fun w => z (V.str.inj w)]
  rw [e]
  exact q _ H _ G k S (Ex.refl _) (.bl _)
theorem rk_eqTc {x y : PyData} (h : ∃ (a b : Str) (c : Bool), x = .str a ∧ y = .str b ∧ decide (a = b) = c ∧ κ (.bool c) G) : RK F rEq x y G κ := by
  obtain ⟨a, b, c, ex, ey, e, k⟩ := h
  exact rk_eqT ⟨a, b, ex, ey, by rw [e]; exact k⟩
end
end DL
namespace DL
open PySem L2 Evl
section
variable {F : Fr} {G : List Sl} {κ : Kp} {ta tb te tl : TE} {D : Ends} {tr : TA} {α : Kps}
theorem nx_forR2 {g : TG} {tb : TS} (I : Nat → List Sl → Prop) (h : EA F G tr fun xs G1 => ∃ lo n : Int, xs = [.int lo, .int n] ∧ (-(2 ^ 62) ≤ lo ∧ lo < 2 ^ 62 ∧ -(2 ^ 62) ≤ n ∧ n < 2 ^ 62) ∧ I 0 G1 ∧
      (∀ (i : Nat) G', lo + (i : Int) < n → I i G' → GK F g (.int (lo + i)) G' fun G2 => Nx F G2 (tb { D with nx := NxI F (I (i + 1)), ct := NxI F (I (i + 1)), bk := D.nx })) ∧
      (∀ G', I (n - lo).toNat G' → Nx F G' D.nx)) : Nx F G (tFor (iRng2 tr) g tb D) := fun σ H S => h σ H S _ fun vs H1 xs G1 ⟨lo, n, ex, hn, h0, hs, hd⟩ S1 e1 d1 => by
  subst ex
  obtain ⟨v, u, rfl, dd, d2⟩ := dps2 d1
  cases dd
  cases d2
  refine ⟨lo, n, rfl, hn, for_range (lo := lo) (n := (n - lo).toNat) (Pv := fun i σ' H' => NxI F (I i) σ' H') ⟨G1, h0, S1⟩ (fun i σ' H' hi ⟨G', hI, S'⟩ => ?_) (fun σ' H' ⟨G', hI, S'⟩ => hd G' hI σ' H' S')⟩
  exact hs i G' (by omega) hI σ' H' _ S' (.int _) _ fun σ2 G2 k2 S2 _ => k2 σ2 H' S2
end
end DL
namespace DL
open PySem L2 Evl
abbrev KD := List (Key × PyData)
def putD (kvs : KD) (k : Key) (x : PyData) : KD :=
  if (kvs.any fun kv => decide (kv.1 = k)) = true then kvs.map (fun kv => if kv.1 = k then (kv.1, x) else kv) else kvs ++ [(k, x)]
def valD (kvs : KD) (k : Key) : Option PyData := (kvs.find? fun kv => decide (kv.1 = k)).map (·.2)
/-- the same keys, the values as data -/
def DOk (K : PySem.W.Frag) (B : Hp) (ws : List (Key × V)) (kvs : KD) : Prop := ws.map (·.1) = kvs.map (·.1) ∧ DqAll K B (ws.map (·.2)) (kvs.map (·.2))
theorem DOk.nil {K : PySem.W.Frag} {B : Hp} : DOk K B [] [] := ⟨rfl, .nil⟩
theorem DOk.cons {K : PySem.W.Frag} {B : Hp} {k : Key} {v : V} {x : PyData} {ws : List (Key × V)} {kvs : KD} (d : Dq K B v x) (h : DOk K B ws kvs) : DOk K B ((k, v) :: ws) ((k, x) :: kvs) :=
  ⟨by rw [List.map_cons, List.map_cons, h.1], .cons d h.2⟩
theorem DOk.inv {K : PySem.W.Frag} {B : Hp} {k : Key} {x : PyData} {ws : List (Key × V)} {kvs : KD} (h : DOk K B ws ((k, x) :: kvs)) : ∃ v r, ws = (k, v) :: r ∧ Dq K B v x ∧ DOk K B r kvs := by
  obtain ⟨h1, h2⟩ := h
  cases ws with
  | nil => cases h1
  | cons w r =>
    obtain ⟨k', v⟩ := w
    rw [List.map_cons, List.map_cons] at h1
    have e := (List.cons.inj h1).1
    have e : k' = k := e
    subst e
    cases h2 with
    | cons d t => exact ⟨v, r, rfl, d, (List.cons.inj h1).2, t⟩
theorem DOk.mono {K : PySem.W.Frag} {B B' : Hp} (e : Ex B B') {ws : List (Key × V)} {kvs : KD} (h : DOk K B ws kvs) : DOk K B' ws kvs := ⟨h.1, dps_mono e h.2⟩
theorem DOk.len {K : PySem.W.Frag} {B : Hp} {ws : List (Key × V)} {kvs : KD} (h : DOk K B ws kvs) : ws.length = kvs.length := by
  have := congrArg List.length h.1
  rwa [List.length_map, List.length_map] at this
theorem DOk.anyK {K : PySem.W.Frag} {B : Hp} (k : Key) : ∀ {ws : List (Key × V)} {kvs : KD}, DOk K B ws kvs → (ws.any fun kv => decide (kv.1 = k)) = (kvs.any fun kv => decide (kv.1 = k))
  | ws, [], h => by
    obtain ⟨h1, _⟩ := h
    cases ws with
    | nil => rfl
    | cons w r => cases h1
  | ws, (k', x) :: kvs, h => by
    obtain ⟨v, r, rfl, d, t⟩ := h.inv
    rw [List.any_cons, List.any_cons, t.anyK k]
theorem DOk.get {K : PySem.W.Frag} {B : Hp} (k : Key) : ∀ {ws : List (Key × V)} {kvs : KD}, DOk K B ws kvs → (valV ws k = none ∧ valD kvs k = none) ∨ ∃ v x, valV ws k = some v ∧ valD kvs k = some x ∧ Dq K B v x
  | ws, [], h => by
    obtain ⟨h1, _⟩ := h
    cases ws with
    | nil => exact .inl ⟨rfl, rfl⟩
    | cons w r => cases h1
  | ws, (k', x) :: kvs, h => by
    obtain ⟨v, r, rfl, d, t⟩ := h.inv
    by_cases e : k' = k
    · subst e
      exact .inr ⟨v, x, by unfold valV; simp [List.find?_cons], by unfold valD; simp [List.find?_cons], d⟩
    · have e1 : valV ((k', v) :: r) k = valV r k := by unfold valV; simp [List.find?_cons, e]
      have e2 : valD ((k', x) :: kvs) k = valD kvs k := by unfold valD; simp [List.find?_cons, e]
      rw [e1, e2]
      exact t.get k
theorem DOk.mapK {K : PySem.W.Frag} {B : Hp} {u : V} {y : PyData} (k : Key) (d : Dq K B u y) : ∀ {ws : List (Key × V)} {kvs : KD}, DOk K B ws kvs → DOk K B (ws.map fun kv => if kv.1 = k then (kv.1, u) else kv) (kvs.map fun kv => if kv.1 = k then (kv.1, y) else kv)
  | ws, [], h => by
    obtain ⟨h1, _⟩ := h
    cases ws with
    | nil => exact .nil
    | cons w r => cases h1
  | ws, (k', x) :: kvs, h => by
    obtain ⟨v, r, rfl, d', t⟩ := h.inv
    rw [List.map_cons, List.map_cons]
    by_cases e : k' = k
    · rw [if_pos e, if_pos e]; exact .cons d (t.mapK k d)
    · rw [if_neg e, if_neg e]; exact .cons d' (t.mapK k d)
theorem DOk.app {K : PySem.W.Frag} {B : Hp} {k : Key} {u : V} {y : PyData} {ws : List (Key × V)} {kvs : KD} (h : DOk K B ws kvs) (d : Dq K B u y) : DOk K B (ws ++ [(k, u)]) (kvs ++ [(k, y)]) :=
  ⟨by rw [List.map_append, List.map_append, h.1]; rfl, by rw [List.map_append, List.map_append]; exact dps_append h.2 (.cons d .nil)⟩
theorem DOk.put {K : PySem.W.Frag} {B : Hp} {k : Key} {u : V} {y : PyData} {ws : List (Key × V)} {kvs : KD} (h : DOk K B ws kvs) (d : Dq K B u y) : DOk K B (putK ws k u) (putD kvs k y) := by
  unfold putK putD
  rw [h.anyK k]
  split
  · exact h.mapK k d
  · exact h.app d
/-- merging pairs of unlike keys -/
theorem mergeK_nd : ∀ (more kvs : List (Key × V)), ((kvs ++ more).map (·.1)).Nodup → mergeK kvs more = kvs ++ more
  | [], kvs, _ => by rw [List.append_nil]; rfl
  | p :: r, kvs, h => by
    have e : mergeK kvs (p :: r) = mergeK (putK kvs p.1 p.2) r := rfl
    have hp : putK kvs p.1 p.2 = kvs ++ [p] := by
      unfold putK
      rw [if_neg]
      intro z
      obtain ⟨q, hq, e⟩ := List.any_eq_true.mp z
      have e : q.1 = p.1 := of_decide_eq_true e
      rw [List.map_append, List.nodup_append] at h
      exact h.2.2 q.1 (List.mem_map_of_mem hq) p.1 (List.mem_map_of_mem List.mem_cons_self) e
    rw [e, hp, mergeK_nd r (kvs ++ [p]) (by rw [List.append_assoc]; exact h), List.append_assoc]
    rfl
theorem kD_kV {K : PySem.W.Frag} {B : Hp} {v : V} {k : Key} (h : Dq K B v (kD k)) : v = kV k := by
  cases k with
  | inl i => cases h; rfl
  | inr x => cases h; rfl
/-- a new dict -/
def ED (F : Fr) (G : List Sl) (te : TE) (κ : KD → List Sl → Prop) : Prop := ∀ σ H, Sat F G σ H → ∀ Q : VK,
  (∀ p ws H' kvs G', κ kvs G' → Sat F G' σ (del p H') → Ex (low F G H) (low F G' (del p H')) → H' p = some (.dK ws) → DOk F.K (low F G' (del p H')) ws kvs → Q (.ref p) H') → te σ H Q
def tOwnD (t : TS) : TS := t
theorem ps_ownD {X : Cx} {st : Stmt} {t : TS} (h : PS X st t) : PS X st (tOwnD t) := h
def RtD (F : Fr) (G : List Sl) (kvs : KD) (rt : VK) : Prop := ∀ σ H p ws, Sat F G σ (del p H) → H p = some (.dK ws) → DOk F.K (low F G (del p H)) ws kvs → rt (.ref p) H
section
variable {F : Fr} {G : List Sl} {κ : Kp} {te tv ty : TE} {D : Ends} {α : KD → List Sl → Prop} {β : Bool → List Sl → Prop}
theorem ed_new (k : α [] G) : ED F G tDNewK α := fun σ H S Q q p hp => by
  have e : Ex H (del p (upd H p (.dK []))) := ex_del (upd_ex hp) hp
  exact q p [] _ [] G k (S.ex e) (low_mono e) upd_same .nil
theorem nx_ownD {i : Nat} (h : ED F G te fun kvs G' => i < G'.length ∧ ∀ p, Nx F (G'.set i (.dic p kvs)) D.nx) : Nx F G (tOwnD (tAsg te (gName i)) D) := fun σ H S =>
  h σ H S _ fun p ws H' kvs G' ⟨hi, k⟩ S' _ hp d => k p _ _ (S'.setNew (s' := .dic p kvs) hi rfl ⟨rfl, ws, hp, d⟩)
theorem nx_ownRD (h : ED F G te fun kvs G' => RtD F G' kvs D.rt) : Nx F G (tOwn (tRet te) D) := fun σ H S => h σ H S _ fun p ws H' kvs G' k S' _ hp d => k σ H' p ws S' hp d
/-- d[k] = v -/
theorem nx_dput {i : Nat} (h : EK F G tv fun x G1 => ∃ p kvs0, G1[i]? = some (.dic p kvs0) ∧ EK F G1 ty fun y G2 => ∃ kvs k, G2[i]? = some (.dic p kvs) ∧ y = kD k ∧ kvs.length < 1000000 ∧ Nx F (G2.set i (.dic p (putD kvs k x))) D.nx) :
    Nx F G (sDPut (tVar i) ty tv D) := fun σ H S => h σ H S _ fun v H1 x G1 ⟨p, kvs0, g0, k1⟩ S1 e1 d1 => by
  refine ⟨.ref p, (S1.dicd g0).1, k1 σ H1 S1 _ fun u H2 y G2 ⟨kvs, k, g, ey, hl, kk⟩ S2 e2 d2 => ?_⟩
  subst ey
  obtain ⟨_, ws, hp, hw⟩ := S2.dicd g
  have hw : DOk F.K (low F G2 H2) ws kvs := hw
  rw [kD_kV d2]
  refine ⟨p, _, rfl, DPut.k hp (Nat.lt_of_lt_of_le (by rw [hw.len]; exact hl) (by decide)), kk _ _ ?_⟩
  exact S2.updS g rfl rfl ⟨rfl, _, upd_same, hw.put (dp_mono e2 d1)⟩
/-- d[k] -/
theorem ek_dget {i : Nat} {p0 : Addr} {kvs0 : KD} (hi : G[i]? = some (.dic p0 kvs0)) (h : EK F G ty fun y G1 => ∃ p kvs k x, G1[i]? = some (.dic p kvs) ∧ y = kD k ∧ valD kvs k = some x ∧ κ x G1) : EK F G (tDGet (tVar i) ty) κ := fun σ H S Q q => by
  refine ⟨.ref p0, (S.dicd hi).1, ?_⟩
  refine h σ H S _ fun u H1 y G1 ⟨p, kvs, k, x, g, ey, e, kk⟩ S1 e1 d1 => ?_
  subst ey
  obtain ⟨e0, ws, hp, hw⟩ := S1.dicd g
  have hw : DOk F.K (low F G1 H1) ws kvs := hw
  rcases hw.get k with ⟨_, z⟩ | ⟨v, x', ev, ex, dx⟩
  · rw [e] at z; cases z
  · rw [e] at ex; cases ex
    have e00 := (S.dicd hi).1
    rw [e0] at e00
    cases e00
    refine ⟨_, v, rfl, ?_, q v H1 x G1 kk S1 e1 dx⟩
    rw [kD_kV d1, ← ev]
    exact DGet.k hp
/-- sorted(d), its keys ints -/
theorem eo_sortedD {i : Nat} {α : Kps} (h : ∃ p kvs ks, G[i]? = some (.dic p kvs) ∧ kvs.map (·.1) = ks.map Sum.inl ∧ ks.length < 64 ∧ ∀ ys : List Int, ys.Perm ks → ys.Pairwise (· ≤ ·) → α (ys.map .int) G) :
    EO F G (tCB (fun xs H Q => ∃ (a : Addr) (kvs : List (Key × V)) (ks : List Int), xs = [.ref a] ∧ Rd H a (.dK kvs) ∧ kvs.map (·.1) = ks.map Sum.inl ∧ ks.length < 64 ∧ ∀ (ys : List Int) (p : Addr), ys.Perm ks → ys.Pairwise (· ≤ ·) → H p = none → Q (.ref p) (upd H p (.lst (ys.map V.int)))) (tCons (tVar i) tNil)) α := fun σ H S Q q => by
  obtain ⟨p, kvs, ks, g, hk, hl, k⟩ := h
  obtain ⟨e0, ws, hp, hw⟩ := S.dicd g
  have hw : DOk F.K (low F G H) ws kvs := hw
  refine ⟨.ref p, e0, p, ws, ks, rfl, .inl hp, by rw [hw.1, hk], hl, fun ys p' h1 h2 hp' => ?_⟩
  have e : Ex H (del p' (upd H p' (.lst (ys.map V.int)))) := ex_del (upd_ex hp') hp'
  exact q p' _ _ _ G (k ys h1 h2) (S.ex e) (low_mono e) upd_same (dps_ints ys)
/-- the pairs of a display -/
def EPs (F : Fr) (G : List Sl) (trs : List (TE × TE)) (α : KD → List Sl → Prop) : Prop := ∀ σ H, Sat F G σ H → ∀ Q : List (V × V) → Hp → Prop,
  (∀ ws H' kvs G', α kvs G' → Sat F G' σ H' → Ex (low F G H) (low F G' H') → DOk F.K (low F G' H') ws kvs → Q (ws.map fun kv => (kV kv.1, kv.2)) H') → tPairs trs σ H Q
theorem eps_nil (k : α [] G) : EPs F G [] α := fun σ H S Q q => q [] H [] G k S (Ex.refl _) .nil
theorem eps_cons {tk tx : TE} {r : List (TE × TE)} (h : EK F G tk fun y G1 => EK F G1 tx fun x G2 => ∃ k, y = kD k ∧ EPs F G2 r fun kvs G3 => α ((k, x) :: kvs) G3) : EPs F G ((tk, tx) :: r) α := fun σ H S Q q =>
  h σ H S _ fun u H1 y G1 k1 S1 e1 d1 => k1 σ H1 S1 _ fun v H2 x G2 ⟨k, ey, k2⟩ S2 e2 d2 => k2 σ H2 S2 _ fun ws H3 kvs G3 k3 S3 e3 d3 => by
    subst ey
    have := q ((k, v) :: ws) H3 ((k, x) :: kvs) G3 k3 S3 ((e1.trans e2).trans e3) (.cons (dp_mono e3 d2) d3)
    rw [List.map_cons] at this
    rw [kD_kV d1]
    exact this
/-- {k: v, ..} -/
theorem ed_disp {trs : List (TE × TE)} (h : ∀ B p, Ex F.B0 B → EPs (F.wo B p (.dK [])) G trs fun kvs G' => kvs.length ≤ 15 ∧ (kvs.map (·.1)).Nodup ∧ α kvs G') : ED F G (tDisp trs) α := fun σ H S Q q p hp => by
  have e : Ex H (del p (upd H p (.dK []))) := ex_del (upd_ex hp) hp
  have S1 : Sat F G σ (del p (upd H p (.dK []))) := S.ex e
  have S2 := S1.toWo (B := low F G H) (low_mono e) upd_same
  refine h (low F G H) p S.ext σ _ S2 _ fun ws H2 kvs G2 ⟨hl, hn, k⟩ S3 e3 d3 => ?_
  obtain ⟨S4, hp2⟩ := S3.ofWo S.ext (S.noz hp)
  rw [low_wo, low_wo] at e3
  rw [low_wo] at d3
  have hnd : (ws.map (·.1)).Nodup := by rw [d3.1]; exact hn
  refine ⟨hp2, ws, rfl, by rw [d3.len]; exact hl, ?_⟩
  rw [mergeK_nd ws [] hnd, List.nil_append]
  refine q p ws _ kvs G2 k (by rw [del_upd]; exact S4) ?_ upd_same (by rw [del_upd]; exact d3)
  rw [del_upd]
  exact (low_mono e).trans e3
end
theorem vf_cells {ns : List Int} {a r u : Int} : valD (feedL ns a r u) (Sum.inr "cells") = some (.list (ns.map .int)) := by rfl
theorem vf_at {ns : List Int} {a r u : Int} : valD (feedL ns a r u) (Sum.inr "at") = some (.int a) := by rfl
theorem vf_left {ns : List Int} {a r u : Int} : valD (feedL ns a r u) (Sum.inr "left") = some (.int r) := by rfl
theorem vf_turn {ns : List Int} {a r u : Int} : valD (feedL ns a r u) (Sum.inr "turn") = some (.int u) := by rfl
theorem pf_turn {ns : List Int} {a r u x : Int} : putD (feedL ns a r u) (Sum.inr "turn") (.int x) = feedL ns a r x := by rfl
theorem pf_left {ns : List Int} {a r u x : Int} : putD (feedL ns a r u) (Sum.inr "left") (.int x) = feedL ns a x u := by rfl
theorem pf_at {ns : List Int} {a r u x : Int} : putD (feedL ns a r u) (Sum.inr "at") (.int x) = feedL ns x r u := by rfl
theorem rtMk {K : PySem.W.Frag} {B H : Hp} {Q : VK} {ns : List Int} (hB : Ex B H) (hq : ∀ p ws H' B', Grow B H B' (del p H') → H' p = some (.dK ws) → ws.map (·.1) = (feedL ns 0 0 0).map (·.1) → DqAll K B' (ws.map (·.2)) ((feedL ns 0 0 0).map (·.2)) → Q (.ref p) H') {G : List Sl} :
    RtD (frP K B H) G (feedL ns 0 0 0) Q := fun σ H' p ws S hp d => hq p ws H' _ (grow_end hB S) hp d.1 d.2
end DL
namespace DL
open PySem L2 Evl
def encI (ns : List Int) : PyData := .tuple (ns.map .int)
theorem lex_irr : ∀ ns : List Int, HT.lexLt ns ns = false
  | [] => rfl
  | n :: r => by rw [HT.lexLt_cons, if_pos rfl]; exact lex_irr r
theorem lex_tot : ∀ {ns ms : List Int}, ns.length = ms.length → HT.lexLt ns ms = false → HT.lexLt ms ns = false → ns = ms
  | [], [], _, _, _ => rfl
  | [], _ :: _, h, _, _ => by simp at h
  | _ :: _, [], h, _, _ => by simp at h
  | n :: r, m :: q, h, a, b => by
    rw [HT.lexLt_cons] at a b
    by_cases e : n = m
    · subst e
      rw [if_pos rfl] at a b
      rw [lex_tot (by simpa using h) a b]
    · rw [if_neg e] at a
      rw [if_neg (Ne.symm e)] at b
      have a := of_decide_eq_false a
      have b := of_decide_eq_false b
      omega
theorem lex_trans : ∀ {a b c : List Int}, HT.lexLt a b = true → HT.lexLt b c = true → HT.lexLt a c = true
  | [], [], _, h, _ => by cases h
  | [], _ :: _, [], _, h => by cases h
  | [], _ :: _, _ :: _, _, _ => rfl
  | _ :: _, [], _, h, _ => by cases h
  | _ :: _, _ :: _, [], _, h => by cases h
  | x :: r, y :: q, z :: p, h, k => by
    rw [HT.lexLt_cons] at h k ⊢
    by_cases e : x = y
    · subst e
      rw [if_pos rfl] at h
      by_cases e2 : x = z
      · subst e2
        rw [if_pos rfl] at k ⊢
        exact lex_trans h k
      · rw [if_neg e2] at k ⊢
        exact k
    · rw [if_neg e] at h
      have h := of_decide_eq_true h
      by_cases e2 : y = z
      · subst e2
        rw [if_neg e]
        exact decide_eq_true h
      · rw [if_neg e2] at k
        have k := of_decide_eq_true k
        rw [if_neg (by omega)]
        exact decide_eq_true (by omega)
theorem code_lex {B : Int} : ∀ {ns ms : List Int}, ns.length = ms.length → TS.Bd B ns → TS.Bd B ms → (TS.code B ns < TS.code B ms ↔ HT.lexLt ns ms = true)
  | [], [], _, _, _ => by
    show (0 : Int) < 0 ↔ false = true
    simp
  | [], _ :: _, h, _, _ => by simp at h
  | _ :: _, [], h, _, _ => by simp at h
  | n :: r, m :: q, h, a, b => by
    have hl : r.length = q.length := by simpa using h
    rw [HT.lexLt_cons]
    by_cases e : n = m
    · subst e
      rw [if_pos rfl, TS.code_same hl]
      exact code_lex hl a.tail b.tail
    · rw [if_neg e, decide_eq_true_eq]
      constructor
      · intro z
        by_cases w : n < m
        · exact w
        · have := TS.code_lt (B := B) hl.symm b.tail a.tail (show m < n by omega)
          omega
      · exact fun z => TS.code_lt hl a.tail b.tail z
/-- rising, without one twice -/
def Rising (l : List (List Int)) : Prop := l.Pairwise fun a b => HT.lexLt a b = true
theorem rising_of {d : Nat} {l m : List (List Int)} (hd : ∀ s ∈ l, s.length = d) (nd : l.Nodup) (p : m.Perm l) (h : m.Pairwise fun a b => HT.lexLt b a = false) : Rising m := by
  have nd2 : m.Nodup := (p.nodup_iff).mpr nd
  unfold Rising
  refine (List.Pairwise.and_mem.mp (nd2.and h)).imp fun {a b} ⟨ha, hb, ne, no⟩ => ?_
  cases e : HT.lexLt a b with
  | true => rfl
  | false => exact absurd (lex_tot (by rw [hd a (p.mem_iff.mp ha), hd b (p.mem_iff.mp hb)]) e no) ne
section
variable {F : Fr} {G : List Sl} {κ : Kp} {ta te : TE} {α : Kps} {D : Ends}
theorem nind' {X : Cx} {K : PySem.W.Frag} (hu : X.A.units + 65 < cLine) (h : X.K = K) : OpR X (compareOp .NotIn) (rNotInD K) := by subst h; exact op_notInD hu
theorem ind' {X : Cx} {K : PySem.W.Frag} (hu : X.A.units + 65 < cLine) (h : X.K = K) : OpR X (compareOp .In) (rInD K) := by subst h; exact op_inD hu
theorem srtT' {X : Cx} {K : PySem.W.Frag} {d : Nat} {B : Int} (hd : 1 ≤ d) (h : X.K = K) : CallR X (.builtin "sorted") (rSortU K d B) := by subst h; exact cr_sortT hd
/-- x not in a slot's own list -/
theorem ek_ninO {i : Nat} (h0 : ∃ p es, G[i]? = some (.own p es)) (h : EK F G ta fun x G1 => ∃ p ds, G1[i]? = some (.own p ds) ∧ SeqAt.shaped x = true ∧ SeqAt.shaped (.list ds) = true ∧ κ (.bool (!ds.any fun z => PyData.eqv z x)) G1) : EK F G (tOp (rNotInD F.K) ta (tVar i)) κ := fun σ H S Q q =>
  h σ H S _ fun v H1 x G1 ⟨p, ds, g, sx, sl, k⟩ S1 e1 d1 => by
    obtain ⟨e0, vs, hp, hd⟩ := S1.ownd g
    refine ⟨.ref p, e0, x, ds, dq_dp (dp_mono low_ex d1) (nod_of sx), ?_, sx, sl, q _ H1 _ G1 k S1 e1 (.bl _)⟩
    have hl := nod_of sl
    simp only [PyData.hasDict] at hl
    exact .lst (.inl (.inl hp)) (dqs_dp (dps_mono low_ex hd) hl)
theorem rk_inDD {x y : PyData} (h : ∃ ds, y = .list ds ∧ SeqAt.shaped x = true ∧ SeqAt.shaped (.list ds) = true ∧ κ (.bool (ds.any fun z => PyData.eqv z x)) G) : RK F (rInD F.K) x y G κ := fun σ H v u S dv du Q q => by
  obtain ⟨ds, rfl, sx, sl, k⟩ := h
  exact ⟨x, ds, dq_dp (dp_mono low_ex dv) (nod_of sx), dq_dp (dp_mono low_ex du) (nod_of sl), sx, sl, q _ H _ G k S (Ex.refl _) (.bl _)⟩
/-- the ints of the tuple at a place -/
def tOf (H : Hp) : V → List Int
  | .ref t => match H t with
    | some (.tup vs) => vs.filterMap fun v => match v with
      | .int i => some i
      | _ => none
    | _ => []
  | _ => []
theorem fm_ints (ns : List Int) : ((ns.map V.int).filterMap fun v => match v with | .int i => some i | _ => none) = ns := by
  induction ns with
  | nil => rfl
  | cons n r ih => rw [List.map_cons, List.filterMap_cons]; simp only [ih]
theorem dq_encI {K : PySem.W.Frag} {H : Hp} {v : V} {ns : List Int} (h : Dq K H v (encI ns)) : ∃ t, v = .ref t ∧ H t = some (.tup (ns.map V.int)) ∧ tOf H v = ns := by
  cases h with
  | @tup a xs _ hs ha =>
    rw [dps_ints_inv ha] at hs
    refine ⟨a, rfl, hs, ?_⟩
    unfold tOf
    simp only [hs]
    exact fm_ints ns
theorem dqs_encI {K : PySem.W.Frag} {H : Hp} : ∀ {l : List (List Int)} {xs : List V}, DqAll K H xs (l.map encI) → l = xs.map (tOf H) ∧ ∀ x ∈ xs, ∃ t, x = .ref t ∧ H t = some (.tup ((tOf H x).map V.int))
  | [], _, .nil => ⟨rfl, fun _ h => nomatch h⟩
  | s :: l, _, .cons (v := v) h t => by
    obtain ⟨a, rfl, e1, e2⟩ := dq_encI h
    obtain ⟨i1, i2⟩ := dqs_encI t
    refine ⟨by rw [List.map_cons, e2, ← i1], fun x hx => ?_⟩
    rcases List.mem_cons.mp hx with rfl | hx
    · exact ⟨a, rfl, by rw [e2]; exact e1⟩
    · exact i2 x hx
theorem dqs_tOf {K : PySem.W.Frag} {H B : Hp} : ∀ {ys : List V}, (∀ y ∈ ys, ∃ t, y = .ref t ∧ B t = some (.tup ((tOf H y).map V.int))) → DqAll K B ys ((ys.map (tOf H)).map encI)
  | [], _ => .nil
  | y :: ys, h => by
    obtain ⟨t, rfl, e⟩ := h y List.mem_cons_self
    exact .cons (.tup e (dps_ints _)) (dqs_tOf fun z hz => h z (List.mem_cons_of_mem _ hz))
/-- what sorting tuples of ints tells -/
theorem sortU_of {d : Nat} {B : Int} {a : Addr} {xs : List V} {l : List (List Int)} {Bh H : Hp} (hs : H a = some (.lst xs)) (hd : DqAll F.K Bh xs (l.map encI)) (hB : Ex Bh H) (h64 : l.length < 64) (hb : ∀ s ∈ l, s.length = d ∧ TS.Bd B s) {Q : VK}
    (q : ∀ (m : List (List Int)) (ys : List V) (p : Addr), m.Perm l → (m.Pairwise fun x y => HT.lexLt y x = false) → DqAll F.K Bh ys (m.map encI) → H p = none → Q (.ref p) (upd H p (.lst ys))) : rSortU F.K d B [.ref a] H Q := by
  obtain ⟨el, ex⟩ := dqs_encI hd
  have hT : ∀ x ∈ xs, TupI F.K H x (tOf Bh x) ∧ (tOf Bh x).length = d ∧ TS.Bd B (tOf Bh x) := fun x hx => by
    obtain ⟨t, rfl, e⟩ := ex x hx
    have := hb (tOf Bh (.ref t)) (by rw [el]; exact List.mem_map_of_mem hx)
    exact ⟨⟨t, rfl, .inl (.inl (hB _ _ e))⟩, this.1, this.2⟩
  refine ⟨a, xs, rfl, .inl (.inl hs), by rw [el, List.length_map] at h64; exact h64, fun x hx => ⟨_, hT x hx⟩, fun ys p pm pw hp => ?_⟩
  refine q (ys.map (tOf Bh)) ys p (by rw [el]; exact pm.map _) ?_ (dqs_tOf fun y hy => ex y (pm.mem_iff.mp hy)) hp
  rw [List.pairwise_map]
  refine (List.Pairwise.and_mem.mp pw).imp fun {x y} ⟨hx, hy, h⟩ => ?_
  have tx := hT x (pm.mem_iff.mp hx)
  have ty := hT y (pm.mem_iff.mp hy)
  have hle := h _ _ tx.1 ty.1
  cases e : HT.lexLt (tOf Bh y) (tOf Bh x) with
  | false => rfl
  | true =>
    have := (code_lex (B := B) (by rw [tx.2.1, ty.2.1]) ty.2.2 tx.2.2).mpr e
    omega
theorem eo_sortIO {d : Nat} {B : Int} {i : Nat} (h : ∃ p l, G[i]? = some (.own p (l.map encI)) ∧ l.length < 64 ∧ (∀ s ∈ l, s.length = d ∧ TS.Bd B s) ∧ ∀ m : List (List Int), m.Perm l → (m.Pairwise fun x y => HT.lexLt y x = false) → α (m.map encI) G) :
    EO F G (tCB (rSortU F.K d B) (tCons (tVar i) tNil)) α := fun σ H S Q q => by
  obtain ⟨p, l, g, h64, hb, k⟩ := h
  obtain ⟨e0, vs, hp, hd⟩ := S.ownd g
  refine ⟨.ref p, e0, sortU_of hp hd low_ex h64 hb fun m ys p' pm pw hy hp' => ?_⟩
  have e : Ex H (del p' (upd H p' (.lst ys))) := ex_del (upd_ex hp') hp'
  exact q p' _ _ _ G (k m pm pw) (S.ex e) (low_mono e) upd_same (dps_mono (low_mono e) hy)
/-- own.clear() -/
theorem nx_clear {i : Nat} (h0 : ∃ p ds, G[i]? = some (.own p ds) ∧ Nx F (G.set i (.own p [])) D.nx) : Nx F G (tDrop (tBM0 F.K "list" rClear (tVar i)) D) := fun σ H S => by
  obtain ⟨p, ds, g, k⟩ := h0
  obtain ⟨e0, vs, hp, hd⟩ := S.ownd g
  exact ⟨.ref p, e0, .inl ⟨rfl, vs, .inl (.inl hp)⟩, p, vs, rfl, rfl, hp, k _ _ (S.upd g .nil)⟩
end
section
variable {F : Fr} {G : List Sl} {κ : Kp} {ta tb te tl : TE} {r : R2} {D : Ends} {s1 s2 : TS} {tr : TA} {α : Kps}
theorem eo_lcLi {g : TG} {tt : TT} {vs : List Nat} (h : EK F G tl fun x G1 => ∃ xs, x = .list xs ∧ xs.length < 1000000 ∧ GW g vs ∧ ∃ I : Nat → List PyData → List Sl → Prop, I 0 [] (wipeG G1 vs) ∧
      (∀ i x acc G', xs[i]? = some x → I i acc G' → acc.length ≤ i → Turn F vs g tt te I i x acc G') ∧ (∀ acc G', I xs.length acc G' → α acc G')) : EO F G (tLc (iList F.K tl) g tt te vs) α := fun σ H S Q q =>
  h σ H S _ fun v H1 x G1 ⟨xs, ex, hl, gw, I, h0, ht, hd⟩ S1 e1 d1 => by
    subst ex
    cases d1 with
    | @lst a us _ hs ha =>
      refine ⟨a, rfl, ⟨us, .inl (.inl (low_ex _ _ hs))⟩, fun D hD => ?_⟩
      have hz : ¬ F.Z D := S1.noz hD
      have L : ∀ i H', CW F (low F G1 H1) D I σ i H' → SqL F.K H' a us := fun i H' ⟨acc, ws, G', _, _, _, eB, _, _⟩ => .inl (.inl (del_ex _ _ (low_ex _ _ (eB _ _ hs))))
      refine lc_list (Pv := fun i H' => CW F (low F G1 H1) D I σ i H') (cw_start S1 h0 hD) (fun i H' _ C => L i H' C) (fun i v H' ev C => ?_) (fun H' C => ?_)
      · obtain ⟨x, ex, dx⟩ := dps_get' ha ev
        have hi : i < us.length := (List.getElem?_eq_some_iff.mp ev).1
        exact cw_turn hz S1.ext (by rw [dps_length ha] at hi; omega) C (fun _ _ e => dp_mono e dx) gw fun acc G' hI hacc => ht i x acc G' ex hI hacc
      · obtain ⟨acc, ws, G', hI, _, S', eB, hw, hd'⟩ := C
        rw [dps_length ha] at hI
        exact q D ws H' acc G' (hd acc G' hI) S' (e1.trans eB) hw hd'
theorem nx_forLi {g : TG} {tb : TS} (h : EK F G tl fun x G1 => ∃ xs, x = .list xs ∧ ∃ I : Nat → List Sl → Prop, I 0 G1 ∧
      (∀ B, Ex F.B0 B → ∀ i x G', xs[i]? = some x → I i G' → GK (F.at B) g x G' fun G2 => Nx (F.at B) G2 (tb { D with nx := NxI (F.at B) (I (i + 1)), ct := NxI (F.at B) (I (i + 1)), bk := D.nx })) ∧
      (∀ G', I xs.length G' → Nx F G' D.nx)) : Nx F G (tFor (iList F.K tl) g tb D) := fun σ H S => h σ H S _ fun v H1 x G1 ⟨xs, ex, I, h0, hs, hd⟩ S1 e1 d1 => by
  subst ex
  cases d1 with
  | lst hl ha =>
    have E0 : Ex F.B0 (low F G1 H1) := S1.ext
    have L : ∀ G' σ' H', Sat (F.at (low F G1 H1)) G' σ' H' → SqL F.K H' _ _ := fun G' σ' H' S' => (.inl (.inl ((S'.ext.trans low_ex) _ _ hl)))
    refine ⟨_, rfl, ⟨_, .inl (.inl (low_ex _ _ hl))⟩, for_list (Pv := fun i σ' H' => NxI (F.at (low F G1 H1)) (I i) σ' H') ⟨G1, h0, ⟨Ex.refl _, S1.zk, S1.zn, S1.len, S1.nd, S1.ok⟩⟩ (fun i σ' H' _ ⟨G', _, S'⟩ => L G' σ' H' S') (fun i v σ' H' ev ⟨G', hI, S'⟩ => ?_) (fun σ' H' ⟨G', hI, S'⟩ => ?_)⟩
    · obtain ⟨x, ex, dx⟩ := dps_get' ha ev
      exact hs _ E0 i x G' ex hI σ' H' v S' (dp_mono S'.ext dx) _ fun σ2 G2 k2 S2 _ => k2 σ2 H' S2
    · rw [dps_length ha] at hI
      exact hd G' hI σ' H' (S'.weak E0)
theorem nx_forTi {g : TG} {tb : TS} (h : EK F G tl fun x G1 => ∃ xs, x = .tuple xs ∧ ∃ I : Nat → List Sl → Prop, I 0 G1 ∧
      (∀ B, Ex F.B0 B → ∀ i x G', xs[i]? = some x → I i G' → GK (F.at B) g x G' fun G2 => Nx (F.at B) G2 (tb { D with nx := NxI (F.at B) (I (i + 1)), ct := NxI (F.at B) (I (i + 1)), bk := D.nx })) ∧
      (∀ G', I xs.length G' → Nx F G' D.nx)) : Nx F G (tFor (iTup F.K tl) g tb D) := fun σ H S => h σ H S _ fun v H1 x G1 ⟨xs, ex, I, h0, hs, hd⟩ S1 e1 d1 => by
  subst ex
  cases d1 with
  | tup hl ha =>
    have E0 : Ex F.B0 (low F G1 H1) := S1.ext
    have L : ∀ G' σ' H', Sat (F.at (low F G1 H1)) G' σ' H' → SqT F.K H' _ _ := fun G' σ' H' S' => .inl (.inl ((S'.ext.trans low_ex) _ _ hl))
    refine ⟨_, rfl, ⟨_, .inl (.inl (low_ex _ _ hl))⟩, for_tup (Pv := fun i σ' H' => NxI (F.at (low F G1 H1)) (I i) σ' H') ⟨G1, h0, ⟨Ex.refl _, S1.zk, S1.zn, S1.len, S1.nd, S1.ok⟩⟩ (fun i σ' H' _ ⟨G', _, S'⟩ => L G' σ' H' S') (fun i v σ' H' ev ⟨G', hI, S'⟩ => ?_) (fun σ' H' ⟨G', hI, S'⟩ => ?_)⟩
    · obtain ⟨x, ex, dx⟩ := dps_get' ha ev
      exact hs _ E0 i x G' ex hI σ' H' v S' (dp_mono S'.ext dx) _ fun σ2 G2 k2 S2 _ => k2 σ2 H' S2
    · rw [dps_length ha] at hI
      exact hd G' hI σ' H' (S'.weak E0)
end
theorem ck_reprS {F : Fr} {G : List Sl} {κ : Kp} {xs : List PyData} {n d : Nat} (hn : n ≤ 2 ^ 20) (hd : d ≤ 60) (h : ∃ x, xs = [x] ∧ Sm n d x ∧ κ (.str x.shown) G) : CK F (rRepr F.K) xs G κ := fun σ H vs S dd Q q => by
  obtain ⟨x, rfl, s, k⟩ := h
  obtain ⟨v, rfl, dv⟩ := dps1 dd
  exact ⟨v, x, rfl, dp_mono low_ex dv, s.sh, Nat.le_trans s.dp hd, s.fits hn, q _ H _ G k S (Ex.refl _) (.str _)⟩
theorem room65 {k : Nat} {A : Around} (r : Room k A) : A.units + 65 < cLine := by have := r.un; omega
theorem eqv_encI (a b : List Int) : PyData.eqv (encI a) (encI b) = decide (a = b) := by
  unfold encI
  rw [PyData.eqv, eqv_map eqv_int]
theorem lay_encI {n : Nat} (s : List Int) : lay (n + 1) (encI s) := lay_tup lay_ints
theorem lay_encIs {n : Nat} (l : List (List Int)) : ∀ x ∈ l.map encI, lay (n + 1) x := fun x hx => by
  obtain ⟨s, _, rfl⟩ := List.mem_map.mp hx
  exact lay_encI s
theorem any_encI {l : List (List Int)} {s : List Int} : ((l.map encI).any fun z => PyData.eqv z (encI s)) = decide (s ∈ l) := by
  rw [List.any_map, Bool.eq_iff_iff, List.any_eq_true, decide_eq_true_eq]
  constructor
  · rintro ⟨x, hx, e⟩
    have e : PyData.eqv (encI x) (encI s) = true := e
    rw [eqv_encI, decide_eq_true_eq] at e
    rw [← e]; exact hx
  · exact fun h => ⟨s, h, by show PyData.eqv (encI s) (encI s) = true; rw [eqv_encI]; exact decide_eq_true rfl⟩
theorem snocE {α : Type} (f : α → PyData) (ns : List α) (x : α) : ns.map f ++ [f x] = (ns ++ [x]).map f := by rw [List.map_append]; rfl
end DL
namespace DL
open PySem L2 Evl
end DL
namespace DL
open PySem L2 Evl
end DL
namespace DL
open PySem PySem.Spec PyProof.Rows HT L2 Evl
section
variable {X : Cx}
def revS (z : Str) : Str := ⟨z.cps.toList.reverse.toArray⟩
end
theorem cutS_len (z : Str) (a b : Option Int) : (cutS z a b).length ≤ z.length := cutS_length z a b
theorem cutS_mem {z : Str} {a b : Option Int} {c : Nat} (h : c ∈ (cutS z a b).cps.toList) : c ∈ z.cps.toList := by
  unfold cutS at h
  exact List.mem_of_mem_drop (List.mem_of_mem_take h)
theorem revS_len (z : Str) : (revS z).length = z.length := by
  show z.cps.toList.reverse.toArray.size = z.cps.size
  rw [List.size_toArray, List.length_reverse, Array.length_toList]
theorem revS_mem {z : Str} {c : Nat} (h : c ∈ (revS z).cps.toList) : c ∈ z.cps.toList := by
  exact List.mem_reverse.mp h
theorem addS_len (a b : Str) : (a ++ b : Str).length = a.length + b.length := strLen_append a b
theorem addS_mem {a b : Str} {c : Nat} (h : c ∈ (a ++ b : Str).cps.toList) : c ∈ a.cps.toList ∨ c ∈ b.cps.toList := by
  have h' : c ∈ (a.cps ++ b.cps).toList := h
  rw [Array.toList_append] at h'
  exact List.mem_append.mp h'
structure Tt (n : Nat) (z : Str) : Prop where
  ln : z.length ≤ n
  sg : ∀ c ∈ z.cps.toList, c < 4294967296
theorem Tt.mono {n m : Nat} {z : Str} (h : Tt n z) (k : n ≤ m) : Tt m z := ⟨Nat.le_trans h.ln k, h.sg⟩
theorem Tt.add {n m : Nat} {a b : Str} (h : Tt n a) (k : Tt m b) : Tt (n + m) (a ++ b) :=
  ⟨by rw [addS_len]; exact Nat.add_le_add h.ln k.ln, fun c hc => (addS_mem hc).elim (h.sg c) (k.sg c)⟩
theorem Tt.cut {n : Nat} {z : Str} (h : Tt n z) (a b : Option Int) : Tt n (cutS z a b) := ⟨Nat.le_trans (cutS_len z a b) h.ln, fun c hc => h.sg c (cutS_mem hc)⟩
theorem Tt.rev {n : Nat} {z : Str} (h : Tt n z) : Tt n (revS z) := ⟨by rw [revS_len]; exact h.ln, fun c hc => h.sg c (revS_mem hc)⟩
theorem Tt.one {n : Nat} {z : Str} (h : Tt n z) {c : Nat} (hc : c ∈ z.cps.toList) : Tt 1 ⟨#[c]⟩ := ⟨Nat.le_refl _, fun d hd => by
  have e : d = c := by simpa using hd
  rw [e]; exact h.sg c hc⟩
structure Sh (n d : Nat) (x : PyData) : Prop where
  sh : x.showable = true
  ln : x.shown.length ≤ n
  dp : x.depth ≤ d
theorem Sh.mono {n d n' d' : Nat} {x : PyData} (h : Sh n d x) (hn : n ≤ n') (hd : d ≤ d') : Sh n' d' x := ⟨h.sh, Nat.le_trans h.ln hn, Nat.le_trans h.dp hd⟩
theorem sh_str {n : Nat} {z : Str} (h : Tt n z) : Sh (10 * n + 2) 0 (.str z) := by
  refine ⟨rfl, ?_, Nat.le_refl _⟩
  have h1 := StrLaws.reprText_len z fun c hc => Nat.lt_of_lt_of_le (h.sg c hc) (by decide)
  have h2 := h.ln
  show (reprText z).length ≤ _
  omega
theorem log2_60 {i : Int} (h : i.natAbs < 10 ^ 60) : i.natAbs.log2 < 1920 := by
  by_cases z : i.natAbs = 0
  · rw [z]; decide
  · exact (Nat.log2_lt z).mpr (Nat.lt_of_lt_of_le h (by decide +kernel))
theorem sh_int {i : Int} (h : i.natAbs < 10 ^ 60) : Sh 61 0 (.int i) := by
  refine ⟨?_, ?_, Nat.le_refl _⟩
  · simp only [PyData.showable, decide_eq_true_eq]; exact log2_60 h
  · have e := int_text_length_le10 (k := 60) (by decide) h
    show (Str.ofString (toString i)).length ≤ 61
    rw [PySem.ofString_length]; exact e
theorem shAll {n d : Nat} : ∀ {xs : List PyData}, (∀ x ∈ xs, Sh n d x) → PyData.showableAll xs = true ∧ ((PyData.shownAll xs).map (·.length)).sum ≤ xs.length * n ∧ PyData.depthAll xs ≤ d
  | [], _ => ⟨rfl, Nat.zero_le _, Nat.zero_le _⟩
  | x :: xs, h => by
    have a := h x (List.mem_cons_self ..)
    obtain ⟨b1, b2, b3⟩ := shAll (xs := xs) fun y hy => h y (List.mem_cons_of_mem _ hy)
    refine ⟨?_, ?_, ?_⟩
    · simp only [PyData.showableAll, a.sh, b1, Bool.and_self]
    · have h1 := a.ln
      simp only [PyData.shownAll, List.map_cons, List.sum_cons, List.length_cons, Nat.add_mul, Nat.one_mul]
      omega
    · have h1 := a.dp
      simp only [PyData.depthAll]
      omega
theorem sh_list {n d m : Nat} {xs : List PyData} (h : ∀ x ∈ xs, Sh n d x) (hm : xs.length ≤ m) : Sh (m * (n + 2) + 3) (d + 1) (.list xs) := by
  obtain ⟨a1, a2, a3⟩ := shAll h
  refine ⟨by simpa only [PyData.showable] using a1, ?_, by simpa only [PyData.depth] using Nat.succ_le_succ a3⟩
  have h2 := listText_len_le (PyData.shownAll xs)
  rw [PyData.shownAll_length] at h2
  have h3 : xs.length * (n + 2) ≤ m * (n + 2) := Nat.mul_le_mul_right _ hm
  rw [Nat.mul_add] at h3
  show (listText (PyData.shownAll xs)).length ≤ _
  omega
section
variable {F : Fr} {G : List Sl} {κ : Kp}
theorem ck_reprH {xs : List PyData} {n d : Nat} (hn : n ≤ 16000000) (hd : d ≤ 60) (h : ∃ x, xs = [x] ∧ Sh n d x ∧ κ (.str x.shown) G) : CK F (rRepr F.K) xs G κ := fun σ H vs S dd Q q => by
  obtain ⟨x, rfl, s, k⟩ := h
  obtain ⟨v, rfl, dv⟩ := dps1 dd
  exact ⟨v, x, rfl, dp_mono low_ex dv, s.sh, Nat.le_trans s.dp hd, Nat.le_trans (Nat.le_trans s.ln hn) (by decide), q _ H _ G k S (Ex.refl _) (.str _)⟩
end
def AllSh (n d : Nat) (xs : List PyData) : Prop := ∀ x ∈ xs, Sh n d x
theorem all_cons {n d : Nat} {x : PyData} {xs : List PyData} (h : Sh n d x) (k : AllSh n d xs) : AllSh n d (x :: xs) := fun y hy => by
  rcases List.mem_cons.mp hy with rfl | q
  · exact h
  · exact k y q
theorem all_mono {n d n' d' : Nat} {xs : List PyData} (h : AllSh n d xs) (hn : n ≤ n') (hd : d ≤ d') : AllSh n' d' xs := fun x hx => (h x hx).mono hn hd
end DL
namespace DL
open PySem PySem.Spec PyProof.Rows HT L2 Evl
section
variable {F : Fr} {G : List Sl} {κ : Kp} {ta tb te : TE}
theorem ck_reprX {x : PyData} {n d : Nat} (h : Sh n d x) (hn : n ≤ 16000000) (hd : d ≤ 60) (k : κ (.str x.shown) G) : CK F (rRepr F.K) [x] G κ := ck_reprH hn hd ⟨x, rfl, h, k⟩
end
structure Su (n d : Nat) (xs : List PyData) : Prop where
  sh : PyData.showableAll xs = true
  sm : ((PyData.shownAll xs).map (·.length)).sum + 2 * xs.length ≤ n
  dp : PyData.depthAll xs ≤ d
theorem su_nil : Su 0 0 [] := ⟨rfl, Nat.le_refl _, Nat.le_refl _⟩
theorem su_cons {n d n' d' : Nat} {x : PyData} {xs : List PyData} (h : Sh n d x) (k : Su n' d' xs) : Su (n + 2 + n') (max d d') (x :: xs) := by
  obtain ⟨a1, a2, a3⟩ := h
  obtain ⟨b1, b2, b3⟩ := k
  refine ⟨?_, ?_, ?_⟩
  · simp only [PyData.showableAll, a1, b1, Bool.and_self]
  · simp only [PyData.shownAll, List.map_cons, List.sum_cons, List.length_cons]
    omega
  · simp only [PyData.depthAll]
    omega
theorem sh_tupleS {n d : Nat} {xs : List PyData} (h : Su n d xs) : Sh (n + 3) (d + 1) (.tuple xs) := by
  refine ⟨by simpa only [PyData.showable] using h.sh, ?_, by simpa only [PyData.depth] using Nat.succ_le_succ h.dp⟩
  have h2 := tupleText_len_le (PyData.shownAll xs)
  rw [PyData.shownAll_length] at h2
  have := h.sm
  show (tupleText (PyData.shownAll xs)).length ≤ _
  omega
end DL
namespace DL
open PySem PySem.Spec PyProof.Rows HT L2 Evl
structure Wt (L n d : Nat) (x : PyData) : Prop where
  sh : x.showable = true
  lv : x.leavesShort L = true
  wt : x.weight ≤ n
  dp : x.depth ≤ d
structure Ws (L n d : Nat) (xs : List PyData) : Prop where
  sh : PyData.showableAll xs = true
  lv : PyData.leavesShortAll L xs = true
  wt : PyData.weightAll xs ≤ n
  dp : PyData.depthAll xs ≤ d
mutual
theorem lv_mono {L M : Nat} (h : L ≤ M) : ∀ {x : PyData}, x.leavesShort L = true → x.leavesShort M = true
  | .none, _ => rfl
  | .bool _, _ => rfl
  | .int i, k => by simp only [PyData.leavesShort, decide_eq_true_eq] at k ⊢; exact Nat.le_trans k h
  | .str z, k => k
  | .list xs, k => by simp only [PyData.leavesShort] at k ⊢; exact lvs_mono h k
  | .tuple xs, k => by simp only [PyData.leavesShort] at k ⊢; exact lvs_mono h k
  | .dict kvs, k => by simp only [PyData.leavesShort] at k ⊢; exact lvk_mono h k
theorem lvs_mono {L M : Nat} (h : L ≤ M) : ∀ {xs : List PyData}, PyData.leavesShortAll L xs = true → PyData.leavesShortAll M xs = true
  | [], _ => rfl
  | x :: xs, k => by
    simp only [PyData.leavesShortAll, Bool.and_eq_true] at k ⊢
    exact ⟨lv_mono h k.1, lvs_mono h k.2⟩
theorem lvk_mono {L M : Nat} (h : L ≤ M) : ∀ {xs : List (PyData × PyData)}, PyData.leavesShortKv L xs = true → PyData.leavesShortKv M xs = true
  | [], _ => rfl
  | (a, b) :: xs, k => by
    simp only [PyData.leavesShortKv, Bool.and_eq_true] at k ⊢
    exact ⟨⟨lv_mono h k.1.1, lv_mono h k.1.2⟩, lvk_mono h k.2⟩
end
theorem Wt.mono {L n d L' n' d' : Nat} {x : PyData} (h : Wt L n d x) (hL : L ≤ L') (hn : n ≤ n') (hd : d ≤ d') : Wt L' n' d' x := ⟨h.sh, lv_mono hL h.lv, Nat.le_trans h.wt hn, Nat.le_trans h.dp hd⟩
theorem Ws.mono {L n d L' n' d' : Nat} {x : List PyData} (h : Ws L n d x) (hL : L ≤ L') (hn : n ≤ n') (hd : d ≤ d') : Ws L' n' d' x := ⟨h.sh, lvs_mono hL h.lv, Nat.le_trans h.wt hn, Nat.le_trans h.dp hd⟩
theorem log2_10 {i : Int} {k : Nat} (hk : 0 < k) (h : i.natAbs < 10 ^ k) : i.natAbs.log2 < 4 * k := by
  by_cases z : i.natAbs = 0
  · rw [z]; show (0 : Nat) < _; omega
  · refine (Nat.log2_lt z).mpr (Nat.lt_of_lt_of_le h ?_)
    rw [Nat.pow_mul]
    exact Nat.pow_le_pow_left (by decide) k
theorem wt_int {i : Int} {k : Nat} (hk : 0 < k) (h : i.natAbs < 10 ^ k) (hk2 : 4 * k ≤ 1920) : Wt (k + 1) (4 * k + 1) 0 (.int i) := by
  have hl := log2_10 hk h
  refine ⟨?_, ?_, ?_, Nat.le_refl _⟩
  · simp only [PyData.showable, decide_eq_true_eq]; omega
  · have e := int_text_length_le10 hk h
    simp only [PyData.leavesShort, decide_eq_true_eq]
    show (Str.ofString (toString i)).length ≤ k + 1
    rw [PySem.ofString_length]; exact e
  · simp only [PyData.weight]
    split <;> omega
theorem wt_int13 {i : Int} (h : i.natAbs < 10 ^ 12) : Wt 13 49 0 (.int i) := wt_int (k := 12) (by decide) h (by decide)
theorem ws_nil : Ws 0 0 0 [] := ⟨rfl, rfl, Nat.le_refl _, Nat.le_refl _⟩
theorem ws_cons {L n d L' n' d' : Nat} {x : PyData} {xs : List PyData} (h : Wt L n d x) (k : Ws L' n' d' xs) : Ws (max L L') (n + 1 + n') (max d d') (x :: xs) := by
  obtain ⟨a1, a2, a3, a4⟩ := h
  obtain ⟨b1, b2, b3, b4⟩ := k
  refine ⟨?_, ?_, ?_, ?_⟩
  · simp only [PyData.showableAll, a1, b1, Bool.and_self]
  · simp only [PyData.leavesShortAll, lv_mono (Nat.le_max_left ..) a2, lvs_mono (Nat.le_max_right ..) b2, Bool.and_self]
  · simp only [PyData.weightAll]; omega
  · simp only [PyData.depthAll]; omega
theorem ws_head {L n d : Nat} {x : PyData} {xs : List PyData} (h : Ws L n d (x :: xs)) : ∃ m k, m + 1 + k ≤ n ∧ Wt L m d x ∧ Ws L k d xs := by
  obtain ⟨a1, a2, a3, a4⟩ := h
  simp only [PyData.showableAll, Bool.and_eq_true] at a1
  simp only [PyData.leavesShortAll, Bool.and_eq_true] at a2
  simp only [PyData.weightAll] at a3
  simp only [PyData.depthAll] at a4
  exact ⟨x.weight, PyData.weightAll xs, a3, ⟨a1.1, a2.1, Nat.le_refl _, by omega⟩, ⟨a1.2, a2.2, Nat.le_refl _, by omega⟩⟩
theorem ws_len {L n d : Nat} : ∀ {xs : List PyData}, Ws L n d xs → xs.length ≤ n := by
  intro xs
  induction xs generalizing n with
  | nil => intro _; exact Nat.zero_le _
  | cons x xs ih =>
    intro h
    obtain ⟨m, j, hm, h1, h2⟩ := ws_head h
    have := ih h2
    rw [List.length_cons]; omega
section
variable {F : Fr} {G : List Sl} {κ : Kp}
theorem rk_catW {ds es : List PyData} {L n d L' m d' : Nat} (h1 : Ws L n d ds) (h2 : Ws L' m d' es) (hl : n + m ≤ 1000000) (k : κ (.tuple (ds ++ es)) G) : RK F (rCatA F.K) (.tuple ds) (.tuple es) G κ :=
  rk_catA ⟨ds, es, rfl, rfl, Nat.le_trans (Nat.add_le_add (ws_len h1) (ws_len h2)) hl, k⟩
end
end DL
namespace DL
open PySem L2 Evl
def delL (as : List Addr) (H : Hp) : Hp := fun b => if b ∈ as then none else H b
theorem delL_same {as : List Addr} {H : Hp} {b : Addr} (h : b ∈ as) : delL as H b = none := if_pos h
theorem delL_ne {as : List Addr} {H : Hp} {b : Addr} (h : b ∉ as) : delL as H b = H b := if_neg h
theorem delL_ex {as : List Addr} {H : Hp} : Ex (delL as H) H := fun b o e => by
  by_cases h : b ∈ as
  · rw [delL_same h] at e; cases e
  · rw [delL_ne h] at e; exact e
theorem delL_del {p : Addr} {as : List Addr} {H : Hp} (h : p ∈ as) : Ex (delL as H) (del p H) := fun b o e => by
  by_cases q : b ∈ as
  · rw [delL_same q] at e; cases e
  · rw [delL_ne q] at e
    rw [del_ne fun z => q (by rw [z]; exact h)]
    exact e
section
variable {F : Fr} {G G' : List Sl} {σ : L2.St} {H H' : Hp}
theorem ads_nd_at : ∀ (G : List Sl) (i : Nat) (s : Sl), G[i]? = some s → (ads G).Nodup → s.ads.Nodup
  | [], _, _, h, _ => by simp at h
  | a :: G, 0, s, h, nd => by
    have h' : a = s := by simpa using h
    subst h'
    rw [ads_cons] at nd
    exact (List.nodup_append.mp nd).1
  | a :: G, i + 1, s, h, nd => by
    rw [ads_cons] at nd
    exact ads_nd_at G i s (by simpa using h) (List.nodup_append.mp nd).2.1
theorem set_back {α : Type} {l : List α} {i : Nat} {a b c : α} (h : l[i]? = some a) : ((l.set i b).set i a) = l := by
  rw [List.set_set]
  apply List.ext_getElem?
  intro j
  rw [List.getElem?_set]
  split
  · rename_i q; subst q; rw [if_pos (List.getElem?_eq_some_iff.mp h).1, h]
  · rfl
end
theorem delL_upd {as : List Addr} {H : Hp} {b : Addr} {o : HO} (h : b ∈ as) : delL as (L2.upd H b o) = delL as H := by
  funext c
  by_cases q : c ∈ as
  · rw [delL_same q, delL_same q]
  · rw [delL_ne q, delL_ne q, upd_ne fun z => q (by rw [z]; exact h)]
end DL
namespace DL
open PySem L2 Evl
end DL
namespace DL
open PySem PySem.Spec PyProof.Rows L2 Evl
theorem listLt_lex : ∀ xs ys : List Int, PySem.W.listLt xs ys = HT.lexLt xs ys
  | [], [] => rfl
  | [], _ :: _ => rfl
  | _ :: _, [] => rfl
  | x :: xs, y :: ys => by
    rw [PySem.W.listLt, HT.lexLt_cons, listLt_lex xs ys]
    rfl
theorem encI_inj {a b : List Int} (h : encI a = encI b) : a = b := by
  have := eqv_encI a b
  rw [h, eqv_encI] at this
  simpa using this.symm
theorem minD_enc (l : List Int) : ∀ ls : List (List Int), PySem.W.minD (encI l) (ls.map encI) = encI (ls.foldl (fun a y => if HT.lexLt y a = true then y else a) l) := by
  intro ls
  unfold PySem.W.minD
  induction ls generalizing l with
  | nil => rfl
  | cons y ys ih =>
    rw [List.map_cons, List.foldl_cons, List.foldl_cons, ← ih]
    (try dsimp only)
    have e : PySem.W.dataLt (encI y) (encI l) = HT.lexLt y l := by
      have := PySem.W.DatumOrd.lt_eq (PySem.W.Tup.mk y) (PySem.W.Tup.mk l)
      rw [← listLt_lex]
      exact this
    rw [e]
    cases HT.lexLt y l <;> rfl
/-- the least of tuples -/
def minI (l : List Int) (ls : List (List Int)) : List Int := ls.foldl (fun a y => if HT.lexLt y a = true then y else a) l
theorem minI_mem (l : List Int) : ∀ ls : List (List Int), minI l ls ∈ l :: ls := by
  intro ls
  unfold minI
  induction ls generalizing l with
  | nil => exact List.mem_cons_self
  | cons y ys ih =>
    rw [List.foldl_cons]
    rcases List.mem_cons.mp (ih (if HT.lexLt y l = true then y else l)) with h | h
    · rw [h]
      by_cases c : HT.lexLt y l = true
      · rw [if_pos c]; exact List.mem_cons_of_mem _ List.mem_cons_self
      · rw [if_neg c]; exact List.mem_cons_self
    · exact List.mem_cons_of_mem _ (List.mem_cons_of_mem _ h)
theorem minI_le {d : Nat} (l : List Int) : ∀ ls : List (List Int), (∀ m ∈ l :: ls, m.length = d) → ∀ m ∈ l :: ls, HT.lexLt m (minI l ls) = false := by
  intro ls
  unfold minI
  induction ls generalizing l with
  | nil => intro _ m hm; rw [List.mem_singleton] at hm; rw [hm]; exact lex_irr l
  | cons y ys ih =>
    intro hd m hm
    rw [List.foldl_cons]
    have hl := hd l List.mem_cons_self
    have hy := hd y (List.mem_cons_of_mem _ List.mem_cons_self)
    have ih' := ih (if HT.lexLt y l = true then y else l) (fun m hm => by
      rcases List.mem_cons.mp hm with z | z
      · rw [z]; split
        · exact hy
        · exact hl
      · exact hd m (List.mem_cons_of_mem _ (List.mem_cons_of_mem _ z)))
    have h0 := ih' (if HT.lexLt y l = true then y else l) List.mem_cons_self
    have hmem := minI_mem (if HT.lexLt y l = true then y else l) ys
    unfold minI at hmem
    generalize hr : ys.foldl (fun a y => if HT.lexLt y a = true then y else a) (if HT.lexLt y l = true then y else l) = r at ih' h0 hmem ⊢
    have hrl : r.length = d := by
      rcases List.mem_cons.mp hmem with z | z
      · rw [z]; split
        · exact hy
        · exact hl
      · exact hd r (List.mem_cons_of_mem _ (List.mem_cons_of_mem _ z))
    -- what isn't less than the kept one isn't less than the least
    have tr : ∀ a b : List Int, a.length = d → b.length = d → HT.lexLt a b = false → HT.lexLt b r = false → HT.lexLt a r = false := fun a b ha hb h1 h2 => by
      cases h3 : HT.lexLt a r with
      | false => rfl
      | true =>
        cases h4 : HT.lexLt b a with
        | true => rw [lex_trans h4 h3] at h2; cases h2
        | false =>
          have := lex_tot (by rw [ha, hb]) h1 h4
          rw [this] at h3; rw [h3] at h2; cases h2
    by_cases c : HT.lexLt y l = true
    · rw [if_pos c] at h0 ih'
      rcases List.mem_cons.mp hm with z | z
      · rw [z]
        refine tr l y hl hy ?_ h0
        cases h5 : HT.lexLt l y with
        | false => rfl
        | true => have := lex_trans h5 c; rw [lex_irr] at this; cases this
      · exact ih' m z
    · rw [if_neg c] at h0 ih'
      rcases List.mem_cons.mp hm with z | z
      · rw [z]; exact h0
      · rcases List.mem_cons.mp z with w | w
        · rw [w]; exact tr y l hy hl (by simpa using c) h0
        · exact ih' m (List.mem_cons_of_mem _ w)
theorem depth_encIs (ls : List (List Int)) : PyData.depthAll (ls.map encI) ≤ 1 := (lay_all (n := 1) fun x hx => by
  obtain ⟨s, _, rfl⟩ := List.mem_map.mp hx
  exact lay_encI (n := 0) s).2
theorem alike_encIs (ls : List (List Int)) : PySem.W.AlikeAll (ls.map encI) := by
  have := PySem.W.alikeAll_datum (ls.map PySem.W.Tup.mk)
  rw [List.map_map] at this
  exact this
theorem nod_encIs : ∀ ls : List (List Int), PyData.hasDictAll (ls.map encI) = false
  | [] => rfl
  | l :: ls => by
    rw [List.map_cons, PyData.hasDictAll, nod_encIs ls, nod_of ((lay_encI (n := 0) l).shaped (by decide))]; rfl
end DL
namespace DL
open PySem PySem.Spec PyProof.Rows L2 Evl
section
variable {F : Fr} {G : List Sl} {κ : Kp} {xs : List PyData}
theorem nx_fall {rt : VK} (h : Rt F G .none rt) : Nx F G (fun _ H => rt .non H) := fun σ H S => h σ H .non S .non
end
end DL
namespace DL
open PySem PySem.Spec PyProof.Rows L2 Evl
end DL
namespace DL
open PySem PySem.Spec PyProof.Rows L2 Evl
end DL
namespace DL
open PySem PySem.Spec PyProof.Rows L2 Evl
end DL
namespace DL
open PySem PySem.Spec PyProof.Rows L2 Evl
end DL
namespace DL
open PySem PySem.Spec PyProof.Rows L2 Evl
end DL
namespace DL
open PySem PySem.Spec PyProof.Rows L2 Evl
end DL
namespace DL
open PySem PySem.Spec PyProof.Rows L2 Evl
section
variable {F : Fr} {G : List Sl} {te : TE} {tr : TA} {α : Kps}
theorem eo_sortN (h : EK F G te fun x G1 => ∃ ns : List Int, x = .list (ns.map .int) ∧ ∀ ns' : List Int, ns'.Perm ns → ns'.Pairwise (· ≤ ·) → α (ns'.map .int) G1) : EO F G (tCB (rSortedI F.K) (tCons te tNil)) α := fun σ H S Q q =>
  h σ H S _ fun v H1 x G1 ⟨ns, ex, k⟩ S1 e1 d1 => by
    subst ex
    cases d1 with
    | lst hs ha =>
      rw [dps_ints_inv ha] at hs
      refine ⟨_, ns, rfl, .inl (.inl (low_ex _ _ hs)), fun ns' p pm pw hp => ?_⟩
      have e : Ex H1 (del p (upd H1 p (.lst (ns'.map V.int)))) := ex_del (upd_ex hp) hp
      exact q p _ _ _ G1 (k ns' pm pw) (S1.ex e) (e1.trans (low_mono e)) upd_same (dps_ints ns')
end
end DL
namespace DL
open PySem PySem.Spec PyProof.Rows L2 Evl
end DL
namespace DL
open PySem PySem.Spec PyProof.Rows L2 Evl
end DL
namespace DL
open PySem L2 Evl
theorem mg_uni {mg : Str → Option Value} {x : Str} {a b : Addr} (h : mg x = some (.ref a)) (h' : mg x = some (.ref b)) : a = b := by
  rw [h] at h'
  exact Value.ref.inj (Option.some.inj h')
theorem kit_ty {K : PySem.W.Frag} {A : Addr} {T : String} {b : Bool} (h1 : PySem.W.kitMeta T = true) (h3 : PySem.W.subIn K (.ref A) (.type T) = some b) : PySem.W.kitOne K (.ref A) (.type T) = some b := by
  unfold PySem.W.kitOne
  rw [if_neg (by simp)]
  show (if _ then _ else _) = _
  rw [if_pos h1, h3]
section
variable {F : Fr} {G : List Sl} {σ : L2.St} {H : Hp} {D : Ends}
theorem Sat.exc (S : Sat F G σ H) {i : Nat} {C : Addr} {kvs : List (Str × PyData)} (h : G[i]? = some (.exc C kvs)) : ∃ a, σ[i]? = some (some (.ref a)) ∧ ExA F.K (low F G H) a C kvs := by
  obtain ⟨a, e, x⟩ := S.ok i _ h
  exact ⟨a, getD_some e, x⟩
variable {κ : Kp} {i : Nat} {C : Addr} {kvs : List (Str × PyData)}
/-- a display of classes -/
inductive RefsA : TA → List Addr → Prop
  | nil : RefsA tNil []
  | cons {a : Addr} {t : TA} {ys : List Addr} : RefsA t ys → RefsA (tCons (tC (.ref a)) t) (a :: ys)
theorem RefsA.run {t : TA} {ys : List Addr} (h : RefsA t ys) : ∀ (σ : L2.St) (H : Hp) (Q : List V → Hp → Prop), Q (ys.map V.ref) H → t σ H Q := by
  induction h with
  | nil => exact fun _ _ _ q => q
  | cons _ ih => exact fun σ H Q q => ih σ H _ q
end
end DL
namespace DL
open PySem PySem.Spec PyProof.Rows L2 Evl
end DL
namespace DL
open PySem PySem.Spec PyProof.Rows L2 Evl
end DL
namespace DL
open PySem L2 Evl
end DL
namespace DL
open PySem L2 Evl
/-- what isinstance asks of a class -/
structure InsF (K : PySem.W.Frag) (C : Addr) : Prop where
  cl : Cls K C
  ha : PySem.W.findIn K (.ref C) "__class__" = some (some (.builtin "object.__class__"))
  hn : PySem.W.specialIn K (.builtin "object.__class__") "__get__" = some (some (.builtin "getset_descriptor.__get__"))
  htk : PySem.W.takesIn K (.builtin "object.__class__") = some true
  hm : PySem.W.mroIn K C (.type "object") = some true
theorem pe_fld' {X : Cx} {K : PySem.W.Frag} {e : Expr} {f : Str} {pos : Pos} {ta : TE} (h : X.K = K) (he : PE X e ta) (hb : attributeBase e f X.env (eval e X.env) = eval e X.env := by rfl) : PE X (.Attribute e f pos) (tFld K ta f) := by subst h; exact pe_fld he hb
theorem ps_fld' {X : Cx} {K : PySem.W.Frag} {o value : Expr} {f : Str} {pos pos' : Pos} {ta tv : TE} (h : X.K = K) (ha : PE X o ta) (hv : PE X value tv) (hs : swapsWith value (some (.Attribute o f pos')) pos.line X.env = pure false := by rfl) : PS X (.Assign [.Attribute o f pos'] value pos) (sFld K ta tv f) := by subst h; exact ps_fld ha hv hs
end DL
namespace DL
open PySem PySem.Spec PyProof.Rows L2 Evl
end DL
namespace DL
open PySem PySem.Spec PyProof.Rows L2 Evl
def testsSem (ifs : List Expr) (env : Env) : Sem Bool := forIn ifs true fun c r => if r = true then do let ok ← isTrue c env (eval c env); pure (ForInStep.yield ok) else pure (ForInStep.yield r)
def turnSem (tg : Expr) (p : Pos) (ifs : List Expr) (it : Value) (env : Env) (body : Sem Unit) (more : Sem Fin) : Sem Fin := do
  standAt p
  match ← pyNext it with
  | none => pure (.done .next)
  | some v =>
    letOwnedTupleGo tg it v
    assign tg env v
    let ok ← testsSem ifs env
    if ok then
      body
    more
/-- a comprehension that is no generator -/
structure Plain (prog : Program) (w : World) (e : Expr) : Prop where
  u1 : ∀ (A : Around) (d : Nat) (it acc : Value) (env : Env), A.under (.compLoop e d it acc env) = A
  d1 : ∀ (d : Nat) (it acc : Value) (env : Env), (model prog w).den (.compLoop e d it acc env) = (compTurn e d it acc env).onRaise (fun x => do noteFrame x env; theTreesLotGoes x)
  u0 : ∀ (A : Around) (d : Nat) (it acc : Value) (env : Env), A.under (.compStart e d it acc env) = A
  d0 : ∀ (d : Nat) (it acc : Value) (env : Env), (model prog w).den (.compStart e d it acc env) = (compStart e d it acc env).onRaise (fun x => do noteFrame x env; standAt theWindowsPlace)
theorem plain_set {prog : Program} {w : World} {elt : Expr} {gs : List Comprehension} {scope : Scope} {pos : Pos} : Plain prog w (.SetComp elt gs scope pos) := ⟨fun _ _ _ _ _ => rfl, fun _ _ _ _ => rfl, fun _ _ _ _ _ => rfl, fun _ _ _ _ => rfl⟩
abbrev noE : Value → Shared → Prop := fun _ _ => False
section
variable {prog : Program} {w : World} {A : Around} {R : Result → Shared → Prop} {s : Shared} {e : Expr} {d : Nat} {it acc : Value} {env : Env}
theorem loop_gen {tg : Expr} {p : Pos} {ifs : List Expr} {body : Sem Unit} (ht : compTurn e d it acc env = turnSem tg p ifs it env body (again (.compLoop e d it acc env))) (I : Nat → Shared → Prop)
    (turn : ∀ n s, I n s → wpAny (model prog w) A (pyNext it) (fun r s1 => match r with
      | none => R (.ok .next) s1
      | some v => wpAny (model prog w) A (letOwnedTupleGo tg it v) (fun _ s2 => wpAny (model prog w) A (assign tg env v) (fun _ s3 => wpAny (model prog w) A (testsSem ifs env) (fun ok s4 =>
          if ok = true then wpAny (model prog w) A body (fun _ s5 => ∃ m, m < n ∧ I m s5) noE s4 else ∃ m, m < n ∧ I m s4) noE s3) noE s2) noE s1) noE s)
    (n : Nat) (h : I n s) (P : Plain prog w e) : codeAny (model prog w) A (.compLoop e d it acc env) R s := by
  refine codeAny_loop rfl I (fun n s hI => ?_) n h
  rw [P.u1, P.d1]
  refine wpAny_noted ?_
  rw [ht]
  unfold turnSem
  refine wpAny_bind (wpAny_standAt (wpAny_bind (thnF (turn n s hI) fun r s1 h1 => ?_)))
  cases r with
  | none => exact wpAny_pure h1
  | some v =>
    refine wpAny_bind (thnF h1 fun _ s2 h2 => wpAny_bind (thnF h2 fun _ s3 h3 => wpAny_bind (thnF h3 fun ok s4 h4 => ?_)))
    cases ok with
    | false => exact wpAny_pure ⟨rfl, h4⟩
    | true => exact wpAny_bind (thnF h4 fun _ s5 h5 => wpAny_pure ⟨rfl, h5⟩)
theorem start_gen (P : Plain prog w e) {g : Comprehension} (hg : (clausesOf e)[d]? = some g) (ha : g.is_async = 0) (h0 : codeAny (model prog w) A (.compLoop e d it acc env) R s)
    (h : wpAny (model prog w) A (pyIter it) (fun it2 s2 => codeAny (model prog w) A (.compLoop e d it2 acc env) R s2) noE s) : codeAny (model prog w) A (.compStart e d it acc env) R s := by
  refine codeAny_of_tree ?_
  rw [P.u0, P.d0]
  refine wpAny_notedAt ?_
  unfold compStart
  rw [hg]
  simp only [Option.elim, ha]
  show wpAny _ _ (ask >>= _) _ _ s
  refine wpAny_bind (wpAny_askSetting (wpAny_ite ?_))
  split
  · first
      | exact wpAny_bind (wpAny_pure (wpAny_pure (And.intro rfl h0)))
      | exact wpAny_pure (And.intro rfl h0)
  · refine wpAny_bind (wpAny_rule ?_)
    refine wpAny_bind (wpAny_standAt ?_)
    exact wpAny_bind (thnF h fun it2 s2 q => wpAny_pure ⟨rfl, q⟩)
end
/-- what stands in a loop of a comprehension -/
abbrev TB := L2.St → Hp → (Hp → Prop) → Prop
structure PB (X : Cx) (body : Sem Unit) (vs : List Nat) (t : TB) : Prop where
  run : ∀ (pins : List (Addr × Obj)) (s : Shared) (σ : L2.St) (H : Hp) (N : Hp → Prop), Inv X pins σ H s → t σ H N →
    wpAny (model X.prog X.w) X.A body (fun _ s2 => ∃ σ2 H2, Inv X pins σ2 H2 s2 ∧ L2.wipe σ2 vs = L2.wipe σ vs ∧ N H2) noE s
/-- a loop over J -/
def LoopT (J : It) (g : TG) (tt : TT) (tb : TB) (vs : List Nat) (σ : L2.St) (H1 : Hp) (N : Hp → Prop) : Prop := ∃ W : Nat → Nat → Hp → Prop, (∃ m, W 0 m H1) ∧ ∀ i m H, W i m H →
  (J.stop i H ∧ N H) ∨ (J.go i H ∧ ∃ Nx : Hp → Prop, (∀ H2, Nx H2 → ∃ m2, m2 < m ∧ W (i + 1) m2 H2) ∧ ∀ x H2, J.yld i H x H2 → g x (L2.wipe σ vs) H2 fun σ3 H3 => L2.wipe σ3 vs = L2.wipe σ vs ∧ tt σ3 H3 fun b H4 => if b = true then tb σ3 H4 Nx else Nx H4)
theorem wipe_sub {σ : L2.St} {us vs : List Nat} (h : ∀ v ∈ us, v ∈ vs) : L2.wipe (L2.wipe σ us) vs = L2.wipe σ vs := by
  induction us with
  | nil => rfl
  | cons v r ih =>
    show L2.wipe ((L2.wipe σ r).set v none) vs = _
    rw [wipe_set (h v List.mem_cons_self)]
    exact ih fun u hu => h u (List.mem_cons_of_mem _ hu)
theorem wipe_more {σ τ : L2.St} {us vs : List Nat} (h : ∀ v ∈ us, v ∈ vs) (e : L2.wipe σ us = L2.wipe τ us) : L2.wipe σ vs = L2.wipe τ vs := by
  rw [← wipe_sub (σ := σ) h, ← wipe_sub (σ := τ) h, e]
section
variable {X : Cx} {pins : List (Addr × Obj)} {σ : L2.St} {H : Hp} {s : Shared}
theorem inv_wiped (I : Inv X pins σ H s) (vs : List Nat) : Inv X pins (L2.wipe σ vs) H s := I.weak (by rw [wipe_length]) fun j v e => (wipe_some e).1
/-- a loop of a block, its iterator there -/
theorem run_loop {tg : Expr} {p : Pos} {ifs : List Expr} {body : Sem Unit} {e : Expr} {d : Nat} {it : Addr} {acc : Value} {g : TG} {tt : TT} {tb : TB} {vs us : List Nat} {J : It} {fp : List Addr} {tn : Nat → Heap → Prop} {R : Result → Shared → Prop} {N : Hp → Prop}
    (P : Plain X.prog X.w e) (ht : compTurn e d (.ref it) acc X.env = turnSem tg p ifs (.ref it) X.env body (again (.compLoop e d (.ref it) acc X.env))) (hc : X.calm = true) (hx : X.xe = noE) (hg : PG X tg g) (hts : PTs X ifs tt) (hb : PB X body us tb) (hu : ∀ v ∈ us, v ∈ vs)
    (T : L2.Turn X.prog X.w X.K tg J fp it tn) (I0 : Inv X pins (L2.wipe σ vs) H s) (st0 : tn 0 s.heap) (fp0 : ∀ b ∈ fp, FpOk X pins H b) (h : LoopT J g tt tb vs σ H N) (hR : ∀ s2 H2, Inv X pins (L2.wipe σ vs) H2 s2 → N H2 → R (.ok .next) s2) :
    codeAny (model X.prog X.w) X.A (.compLoop e d (.ref it) acc X.env) R s := by
  obtain ⟨W, ⟨m0, w0⟩, step⟩ := h
  have still : ∀ {H2 : Hp}, (∀ b ∈ fp, H2 b = none) → ∀ b ∈ fp, FpOk X pins H2 b := fun hn b hb => ⟨hn b hb, (fp0 b hb).2⟩
  refine loop_gen ht (fun n s2 => ∃ i H2, Inv X pins (L2.wipe σ vs) H2 s2 ∧ tn i s2.heap ∧ (∀ b ∈ fp, H2 b = none) ∧ W i n H2) ?_ m0 ⟨0, H, I0, st0, fun b hb => (fp0 b hb).1, w0⟩ P
  rintro n s1 ⟨i, H1, I1, st1, f1, w1⟩
  rcases step i n H1 w1 with ⟨stop, qn⟩ | ⟨go, Nx, hNx, turn⟩
  · refine thnF (T.done X rfl rfl rfl hc i pins s1 _ H1 noE I1 (still f1) st1 stop) fun r s2 ⟨hr, I2⟩ => ?_
    subst hr
    exact hR s2 H1 I2 qn
  · refine thnF (T.item X rfl rfl rfl hc i pins s1 _ H1 noE I1 (still f1) st1 go) fun r s2 ⟨u, hr, h2⟩ => ?_
    subst hr
    refine thnF h2 fun _ s3 ⟨x, H3, I3, r3, y3, st3, f3⟩ => ?_
    have I3p := I3.pinned (still f3) (T.obj _ _ st3)
    have g1 := hg.run _ s3 _ H3 x u _ I3p r3 (turn x H3 y3)
    rw [hx] at g1
    refine thnF g1 fun _ s4 ⟨σ4, H4, I4, hw4, q4⟩ => ?_
    have t1 := hts.run _ s4 σ4 H4 _ I4 q4
    rw [hx] at t1
    have fin : ∀ {s5 : Shared} {σ5 : L2.St} {H5 : Hp}, Inv X (pins ++ pinsAt fp s3.heap) σ5 H5 s5 → L2.wipe σ5 vs = L2.wipe σ vs → Nx H5 → ∃ m, m < n ∧ ∃ i H2, Inv X pins (L2.wipe σ vs) H2 s5 ∧ tn i s5.heap ∧ (∀ b ∈ fp, H2 b = none) ∧ W i m H2 := fun {s5 σ5 H5} I5 e5 nx => by
      obtain ⟨m2, hm, w2⟩ := hNx H5 nx
      have pin5 : ∀ b ∈ fp, ∀ o, s3.heap.get? b = some o → s5.heap.get? b = some o ∧ H5 b = none := fun b hb o eo =>
        let z := I5.pin (b, o) (List.mem_append_right _ (List.mem_append_right _ (mem_pinsAt hb eo)))
        ⟨z.1, z.2.1⟩
      refine ⟨m2, hm, i + 1, H5, ?_, T.keep _ _ _ st3 fun b hb o eo => (pin5 b hb o eo).1, fun b hb => ?_, w2⟩
      · have z := inv_wiped I5.unpinned vs
        rw [e5] at z
        exact z
      · obtain ⟨o, eo, _⟩ := T.obj _ _ st3 b hb
        exact (pin5 b hb o eo).2
    refine thnF t1 fun b s5 ⟨H5, I5, q5⟩ => ?_
    cases b with
    | false =>
      rw [if_neg Bool.false_ne_true] at q5 ⊢
      exact fin I5 hw4 q5
    | true =>
      rw [if_pos rfl] at q5 ⊢
      refine thnF (hb.run _ s5 σ4 H5 _ I5 q5) fun _ s6 ⟨σ6, H6, I6, e6, nx⟩ => ?_
      exact fin I6 ((wipe_more hu e6).trans hw4) nx
end
/-- the whole: a new thing at D, then the first clause's loop -/
def tComp (wi : TI) (g : TG) (tt : TT) (tb : Addr → TB) (vs : List Nat) (ho : Addr → HO) : TE := fun σ H Q => wi σ H fun J H1 => ∀ D, H1 D = none → LoopT J g tt (tb D) vs σ (upd H1 D (ho D)) fun H2 => Q (.ref D) H2
section
variable {X : Cx}
theorem comp_core {pins : List (Addr × Obj)} {s : Shared} {σ : L2.St} {H : Hp} {Q : VK} {e tg iter : Expr} {ifs : List Expr} {rest : List Comprehension} {scope : Scope} {own : List (PySem.Str × Nat)} {p pos2 : Pos} {wi : TI} {g : TG} {tt : TT} {tb : Addr → TB} {us : List Nat}
    {use : Option (Value → Sem Unit)} {Qf : Value → Shared → Prop} {newAcc : Sem Value} {oA : Obj} {ho : Addr → HO} {body : Addr → Env → Sem Unit}
    (P : Plain X.prog X.w e) (hcl : clausesOf e = ⟨tg, iter, ifs, 0⟩ :: rest) (ht : ∀ (it D : Addr) (env : Env), compTurn e 0 (.ref it) (.ref D) env = turnSem tg p ifs (.ref it) env (body D env) (again (.compLoop e 0 (.ref it) (.ref D) env)))
    (hnew : ∀ (s : Shared) (Q : Value → Shared → Prop) (E : Value → Shared → Prop), Q (.ref s.heap.objs.size) { s with heap := s.heap.push oA } → wpAny (model X.prog X.w) X.A newAcc Q E s)
    (hobj : ∀ (H : Hp) (h : Heap), sysModules < h.objs.size → ObjOk X.prog X.w H (h.push oA) h.objs.size (ho h.objs.size))
    (hc : X.calm = true) (hN : X.N.Nodup) (I : Inv X pins σ H s) (hi : PI X tg iter wi) (ok : BlkOk X.N X.env.scope scope own)
    (hg : ∀ (s : Shared) (H : Hp) (C : Addr) (cl : List (PySem.Str × Addr)) (fp : List Addr), PG (X.blk s H scope (compEnvC scope cl C X.env) fp) tg g) (hts : ∀ (s : Shared) (H : Hp) (C : Addr) (cl : List (PySem.Str × Addr)) (fp : List Addr), PTs (X.blk s H scope (compEnvC scope cl C X.env) fp) ifs tt)
    (hb : ∀ (s : Shared) (H : Hp) (C : Addr) (cl : List (PySem.Str × Addr)) (fp : List Addr) (D : Addr), PB (X.blk s H scope (compEnvC scope cl C X.env) fp) (body D (compEnvC scope cl C X.env)) us (tb D)) (hu : ∀ v ∈ us, v ∈ own.map (·.2))
    (hs : ∀ x, foldedSetIterable iter X.env x = pure x) (h : tComp wi g tt tb (own.map (·.2)) ho σ H Q)
    (hRR : ∀ D C s2 m H2, Inv X pins σ H2 s2 → Q (.ref D) H2 → s2.heap.Ns C m → FpOk X pins H2 C → compPost (model X.prog X.w) X.A X.xe use Qf (.ref D) C (.ok .next) s2) :
    wpAny (model X.prog X.w) X.A (comprehension e scope X.env pos2 newAcc false (eval iter X.env) use) Qf X.xe s := by
  have hfree : ∀ y ∈ scope.names, y.2 = .free → ∃ c, X.env.cells.lookup y.1 = some c := fun y hy eq => (ok.free y hy eq).elim (fun k => I.ok.has _ (.inl k)) fun k => I.ok.has _ (.inr k)
  refine wpAny_comprehension_free (use := use) hcl hs (closure_ok hfree) ok.kind (fun y hy eq => by rw [ok.uniq y hy, eq])
    (thn (hi.run pins s σ H _ I h) fun xv s1 hx => thn hx fun itv s2 h2 => ?_)
  obtain ⟨it, fp, tn, J, H2, rfl, I2, T, st2, f2, q⟩ := h2
  refine hnew _ _ _ (newEnv_comp ?_)
  have hDn : H2 s2.heap.objs.size = none := I2.hok.fresh (Nat.le_refl _)
  have hq := q s2.heap.objs.size hDn
  have I3 : Inv X pins σ (upd H2 s2.heap.objs.size (ho s2.heap.objs.size)) { s2 with heap := s2.heap.push oA } :=
    I2.laid (t' := s2.toks) (fun b o eo => Heap.get?_push_of_some _ eo) (Nat.le_refl _) (hobj _ _ I2.big)
  have old : ∀ b ∈ fp, b < s2.heap.objs.size := fun b hb => by
    obtain ⟨o, eo, _⟩ := T.obj _ _ st2 b hb
    exact Heap.lt_size eo
  have f3 : ∀ b ∈ fp, FpOk X pins (upd H2 s2.heap.objs.size (ho s2.heap.objs.size)) b ∧ b < (s2.heap.push oA).objs.size := fun b hb =>
    ⟨⟨by rw [upd_ne (Nat.ne_of_lt (old b hb))]; exact (f2 b hb).1, (f2 b hb).2⟩, by rw [Heap.size_push]; exact Nat.lt_succ_of_lt (old b hb)⟩
  have st3 : tn 0 (s2.heap.push oA) := T.keep _ _ _ st2 fun b _ o eo => Heap.get?_push_of_some _ eo
  generalize hD : s2.heap.objs.size = D at hq I3 f3 hDn
  generalize hs3 : ({ s2 with heap := s2.heap.push oA } : Shared) = s3 at I3
  have eh3 : s2.heap.push oA = s3.heap := by rw [← hs3]
  rw [eh3] at f3 st3
  have I4 := block_start I3 ok hN f3
  generalize hcl2 : cellsFrom (s3.heap.objs.size + 1) scope.names (cloFrom X.env.cells scope.names []) = cl at I4
  have pg := hg s3 (upd H2 D (ho D)) s3.heap.objs.size cl fp
  have pt := hts s3 (upd H2 D (ho D)) s3.heap.objs.size cl fp
  have pb := hb s3 (upd H2 D (ho D)) s3.heap.objs.size cl fp D
  have st4 : tn 0 (pushCells (s3.heap.push { cls := .type "dict", data := .dict #[] }) scope.names) := T.keep _ _ _ st3 fun b _ o eo => pushCells_keeps _ _ _ _ (Heap.get?_push_of_some _ eo)
  have f4 : ∀ b ∈ fp, FpOk (X.blk s3 (upd H2 D (ho D)) scope (compEnvC scope cl s3.heap.objs.size X.env) fp) [] (upd H2 D (ho D)) b := fun b hb =>
    ⟨(f3 b hb).1.1, (I4.ok.exf b hb).1, I4.ok.exfs b hb, .inl hb, fun x c ec => (I4.ok.exf b hb).2 x c ec, fun z hz => absurd (show z ∈ ([] : List (Addr × Obj)) ++ [] from hz) (by simp)⟩
  show codeAny _ _ (.compStart e 0 (.ref it) (.ref D) (compEnvC scope cl s3.heap.objs.size X.env)) (compPost (model X.prog X.w) X.A X.xe use Qf (.ref D) s3.heap.objs.size) { s3 with heap := pushCells (s3.heap.push { cls := .type "dict", data := .dict #[] }) scope.names }
  have lp : codeAny (model X.prog X.w) X.A (.compLoop e 0 (.ref it) (.ref D) (compEnvC scope cl s3.heap.objs.size X.env)) (compPost (model X.prog X.w) X.A X.xe use Qf (.ref D) s3.heap.objs.size) { s3 with heap := pushCells (s3.heap.push { cls := .type "dict", data := .dict #[] }) scope.names } :=
    run_loop (X := X.blk s3 (upd H2 D (ho D)) scope (compEnvC scope cl s3.heap.objs.size X.env) fp) (σ := σ) (tt := tt) (g := g) P (ht it D _) hc rfl pg pt pb hu T I4 st4 f4 hq fun s5 H5 I5 q5 => by
      have I6 : Inv X pins σ H5 s5 := I3.call' (ch := fp) I5.os I5.base I5.hok I5.bare fun b hb => ⟨(f3 b hb).1.2.2.2.1, (f3 b hb).1.2.1, (f3 b hb).1.2.2.2.2.1, (f3 b hb).1.2.2.2.2.2⟩
      have nC : H5 s3.heap.objs.size = none := I5.free
      obtain ⟨m, hn, _⟩ := I5.loc
      exact hRR D s3.heap.objs.size s5 m H5 I6 q5 hn (I3.fpOk (Nat.le_refl _) nC)
  exact start_gen P (by rw [hcl]; rfl) rfl lp (T.self X.A 0 _ _ _ st4 lp)
end
end DL
namespace DL
open PySem PySem.Spec PyProof.Rows L2 Evl
section
variable {X : Cx} {elt tg iter tg1 i1 : Expr} {ifs ifs1 : List Expr} {scope : Scope} {own : List (PySem.Str × Nat)} {pos : Pos} {wi wi1 : TI} {g g1 : TG} {tt tt1 : TT} {te : TE} {vs1 : List Nat}
abbrev InBlk (X : Cx) (scope : Scope) (C : Cx → Prop) : Prop := ∀ (s : Shared) (H : Hp) (C' : Addr) (cl : List (PySem.Str × Addr)) (fp : List Addr), C (X.blk s H scope (compEnvC scope cl C' X.env) fp)
theorem srtZ' {w : World} (hw : X.w = w) (hc : X.calm = true) : CallR X (.builtin "sorted") (rSortedSet w) := by subst hw; exact cr_sortedSet hc
end
end DL
namespace DL
open PySem PySem.Spec PyProof.Rows L2 Evl
/-- J hands out xs while B stands -/
structure Src (K : PySem.W.Frag) (B : Hp) (J : It) (xs : List PyData) : Prop where
  go : ∀ i H, Ex B H → i < xs.length → J.go i H
  stop : ∀ H, Ex B H → J.stop xs.length H
  yld : ∀ i H v H2, Ex B H → i < xs.length → J.yld i H v H2 → H2 = H ∧ ∃ x, xs[i]? = some x ∧ Dq K B v x
theorem Src.mono {K : PySem.W.Frag} {B B2 : Hp} {J : It} {xs : List PyData} (e : Ex B B2) (h : Src K B J xs) : Src K B2 J xs :=
  ⟨fun i H k => h.go i H (e.trans k), fun H k => h.stop H (e.trans k), fun i H v H2 k hi y => let ⟨a, x, b, c⟩ := h.yld i H v H2 (e.trans k) hi y; ⟨a, x, b, dp_mono e c⟩⟩
def WI (F : Fr) (G : List Sl) (wi : TI) (κ : List PyData → List Sl → Prop) : Prop := ∀ σ H, Sat F G σ H → ∀ R : It → Hp → Prop,
  (∀ J H1 xs G1, κ xs G1 → Sat F G1 σ H1 → Ex (low F G H) (low F G1 H1) → Src F.K (low F G1 H1) J xs → R J H1) → wi σ H R
section
variable {F : Fr} {G : List Sl} {κ : List PyData → List Sl → Prop} {te : TE} {tr : TA}
theorem wi_list (h : EK F G te fun x G1 => ∃ xs, x = .list xs ∧ κ xs G1) : WI F G (iList F.K te) κ := fun σ H S R q =>
  h σ H S _ fun v H1 x G1 ⟨xs, ex, k⟩ S1 e1 d1 => by
    subst ex
    cases d1 with
    | @lst a us _ hs ha =>
      have L : ∀ H2, Ex (low F G1 H1) H2 → SqL F.K H2 a us := fun H2 e => .inl (.inl (e _ _ hs))
      have hl := dps_length ha
      refine ⟨a, rfl, ⟨us, .inl (.inl (low_ex _ _ hs))⟩, q _ H1 xs G1 k S1 e1 ⟨fun i H2 e hi => ?_, fun H2 e => ?_, fun i H2 v2 H3 e hi y => ?_⟩⟩
      · exact ⟨us, us[i]'(by omega), L H2 e, List.getElem?_eq_getElem _⟩
      · exact ⟨us, L H2 e, by omega⟩
      · obtain ⟨e3, y⟩ := y
        obtain ⟨x, ex, dx⟩ := dps_get' ha (y us (L H2 e))
        exact ⟨e3, x, ex, dx⟩
end
/-- what is put together: a list, or a set of whole numbers -/
inductive AccK where
  | l
  | s
  | o (R : PySem.W.Frag → Hp → Addr → HO → List PyData → Prop) (hm : ∀ K B B2 D o acc, Ex B B2 → R K B D o acc → R K B2 D o acc)
def AOk (w : World) (k : AccK) (K : PySem.W.Frag) (B : Hp) (D : Addr) (o : HO) (acc : List PyData) : Prop := match k with
  | .l => ∃ ws, o = .lst ws ∧ DqAll K B ws acc
  | .s => ∃ (S : Int → Bool) (n : Nat) (ns : List Int), o = SetO w D S n ∧ acc = ns.map PyData.int ∧ (∀ j : Int, S j = decide (j ∈ ns)) ∧ n ≤ ns.length
  | .o R _ => R K B D o acc
theorem AOk.mono {w : World} {k : AccK} {K : PySem.W.Frag} {B B2 : Hp} {D : Addr} {o : HO} {acc : List PyData} (e : Ex B B2) (h : AOk w k K B D o acc) : AOk w k K B2 D o acc := by
  cases k with
  | l => obtain ⟨ws, h1, h2⟩ := h; exact ⟨ws, h1, dps_mono e h2⟩
  | s => exact h
  | o R hm => exact hm _ _ _ _ _ _ e h
/-- the body of a loop at acc -/
def BK (F : Fr) (w : World) (k : AccK) (D : Addr) (tb : Addr → TB) (acc : List PyData) (G : List Sl) (κ : List PyData → List Sl → Prop) : Prop := ∀ σ H o, Sat F G σ (del D H) → H D = some o → AOk w k F.K (low F G (del D H)) D o acc → ∀ N : Hp → Prop,
  (∀ H2 o2 acc2 G2, κ acc2 G2 → Sat F G2 σ (del D H2) → Ex (low F G (del D H)) (low F G2 (del D H2)) → H2 D = some o2 → AOk w k F.K (low F G2 (del D H2)) D o2 acc2 → N H2) → tb D σ H N
def TurnB (F : Fr) (w : World) (k : AccK) (D : Addr) (vs : List Nat) (g : TG) (tt : TT) (tb : Addr → TB) (I : Nat → List PyData → List Sl → Prop) (i : Nat) (x : PyData) (acc : List PyData) (G' : List Sl) : Prop :=
  ∀ B o, Ex F.B0 B → GK (F.wo B D o) g x (wipeG G' vs) fun G2 => ET (F.wo B D o) G2 tt fun b G3 => (b = true → BK (F.at B) w k D tb acc G3 fun acc2 G4 => I (i + 1) acc2 (wipeG G4 vs)) ∧ (b = false → I (i + 1) acc (wipeG G3 vs))
def CB (F : Fr) (B : Hp) (D : Addr) (w : World) (k : AccK) (I : Nat → List PyData → List Sl → Prop) (σ : L2.St) (i : Nat) (H : Hp) : Prop :=
  ∃ acc o G', I i acc G' ∧ Sat F G' σ (del D H) ∧ Ex B (low F G' (del D H)) ∧ H D = some o ∧ AOk w k F.K (low F G' (del D H)) D o acc
theorem sat_at {F : Fr} {G : List Sl} {σ : L2.St} {H B : Hp} (S : Sat F G σ H) (e : Ex B (low F G H)) : Sat (F.at B) G σ H := ⟨e, S.zk, S.zn, S.len, S.nd, S.ok⟩
section
variable {F : Fr} {G : List Sl} {w : World} {k : AccK} {D : Addr} {g : TG} {tt : TT} {tb : Addr → TB} {vs : List Nat} {I : Nat → List PyData → List Sl → Prop}
theorem loop_dl {B : Hp} {σ : L2.St} {H1 : Hp} {J : It} {xs : List PyData} {N : Hp → Prop} (Sr : Src F.K B J xs) (hz : ¬ F.Z D) (hB : Ex F.B0 B) (gw : GW g vs) (C0 : CB F B D w k I σ 0 H1)
    (ht : ∀ i x acc G', xs[i]? = some x → I i acc G' → TurnB F w k D vs g tt tb I i x acc G')
    (hd : ∀ H acc o G', I xs.length acc G' → Sat F G' σ (del D H) → Ex B (low F G' (del D H)) → H D = some o → AOk w k F.K (low F G' (del D H)) D o acc → N H) : LoopT J g tt (tb D) vs σ H1 N := by
  refine ⟨fun i m H => m = xs.length - i ∧ i ≤ xs.length ∧ CB F B D w k I σ i H, ⟨xs.length, by simp, Nat.zero_le _, C0⟩, ?_⟩
  rintro i m H ⟨rfl, hi, acc, o, G', hI, S, eB, hD, ha⟩
  have eH : Ex B H := eB.trans (low_ex.trans del_ex)
  by_cases hlt : i < xs.length
  · refine .inr ⟨Sr.go i H eH hlt, fun H2 => CB F B D w k I σ (i + 1) H2, fun H2 c => ⟨xs.length - (i + 1), by omega, rfl, hlt, c⟩, fun v H2 y => ?_⟩
    obtain ⟨rfl, x, ex, dx⟩ := Sr.yld i H v H2 eH hlt y
    have S0 : Sat (F.wo B D o) G' σ H2 := S.toWo eB hD
    have S1 := S0.wipe vs
    have T := ht i x acc G' ex hI B o hB
    have eS : Ex (low F G' (del D H2)) (low (F.wo B D o) (wipeG G' vs) H2) := by rw [low_wo]; exact low_sub fun b => wipeG_ads G' vs b
    refine gw v (L2.wipe σ vs) H2 _ _ (T _ _ _ S1 (dp_mono (eB.trans eS) dx) (fun σ2 H3 => H3 = H2 ∧ ∃ G2, ET (F.wo B D o) G2 tt (fun b G3 => (b = true → BK (F.at B) w k D tb acc G3 fun acc2 G4 => I (i + 1) acc2 (wipeG G4 vs)) ∧ (b = false → I (i + 1) acc (wipeG G3 vs))) ∧ Sat (F.wo B D o) G2 σ2 H2 ∧ Ex (low (F.wo B D o) (wipeG G' vs) H2) (low (F.wo B D o) G2 H2)) fun σ2 G2 k2 S2 e2 => ⟨rfl, G2, k2, S2, e2⟩) fun σ2 H3 ⟨eq, G2, k2, S2, e2⟩ wq => ?_
    subst eq
    have wq : L2.wipe σ2 vs = L2.wipe σ vs := wq.trans (wipe_wipe σ vs)
    refine ⟨wq, k2 σ2 H3 S2 _ fun b H4 G3 k3 S3 e3 => ?_⟩
    obtain ⟨S3f, h3⟩ := S3.ofWo hB hz
    have e03 : Ex (low F G' (del D H3)) (low F G3 (del D H4)) := by
      have := (eS.trans e2).trans e3
      rw [low_wo] at this
      exact this
    cases b with
    | false =>
      rw [if_neg Bool.false_ne_true]
      have e6 : Ex (low F G3 (del D H4)) (low F (wipeG G3 vs) (del D H4)) := low_sub fun b => wipeG_ads G3 vs b
      exact ⟨acc, o, _, k3.2 rfl, S3f.unwipe wq, eB.trans (e03.trans e6), h3, ha.mono (e03.trans e6)⟩
    | true =>
      rw [if_pos rfl]
      refine k3.1 rfl σ2 H4 o (sat_at S3f (eB.trans e03)) h3 (ha.mono e03) _ fun H5 o2 acc2 G4 k4 S4 e4 h5 a5 => ?_
      have e6 : Ex (low F G4 (del D H5)) (low F (wipeG G4 vs) (del D H5)) := low_sub fun b => wipeG_ads G4 vs b
      have S4f : Sat F G4 σ2 (del D H5) := ⟨hB.trans S4.ext, S4.zk, S4.zn, S4.len, S4.nd, S4.ok⟩
      exact ⟨acc2, o2, _, k4, S4f.unwipe wq, (eB.trans e03).trans ((show Ex (low F G3 (del D H4)) (low F G4 (del D H5)) from e4).trans e6), h5, AOk.mono e6 a5⟩
  · have e : i = xs.length := by omega
    subst e
    exact .inl ⟨Sr.stop H eH, hd H acc o G' hI S eB hD ha⟩
/-- a new set of whole numbers -/
def EZ (F : Fr) (w : World) (G : List Sl) (te : TE) (κ : List Int → List Sl → Prop) : Prop := ∀ σ H, Sat F G σ H → ∀ Q : VK,
  (∀ p S n H2 ns G2, κ ns G2 → Sat F G2 σ (del p H2) → Ex (low F G H) (low F G2 (del p H2)) → H2 p = some (SetO w p S n) → (∀ j : Int, S j = decide (j ∈ ns)) → n ≤ ns.length → Q (.ref p) H2) → te σ H Q
/-- sorted(a set of whole numbers) -/
theorem eo_sortZ {te : TE} {α : Kps} (h : EZ F w G te fun ns G1 => ns.length < 64 ∧ ∀ zs : List Int, zs.Pairwise (· < ·) → (∀ j, j ∈ zs ↔ j ∈ ns) → α (zs.map .int) G1) : EO F G (tCB (rSortedSet w) (tCons te tNil)) α := fun σ H S Q q =>
  h σ H S _ fun p Sf n H1 ns G1 ⟨hl, k⟩ S1 e1 h1 hS hn => by
    refine ⟨p, Sf, n, rfl, h1, by omega, fun zs a hp hm _ hf => ?_⟩
    have ed : del a (upd H1 a (.lst (zs.map V.int))) = H1 := by
      rw [del_upd]
      funext b
      by_cases hb : b = a
      · subst hb; rw [del_same, hf]
      · rw [del_ne hb]
    have S2 : Sat F G1 σ H1 := S1.ex del_ex
    exact q a (zs.map V.int) _ (zs.map .int) G1 (k zs hp fun j => by rw [hm j, hS j, decide_eq_true_eq]) (by rw [ed]; exact S2) (by rw [ed]; exact e1.trans (low_mono del_ex)) upd_same (by rw [ed]; exact dps_ints zs)
end
end DL
namespace DL
open PySem PySem.Spec PyProof.Rows L2 Evl
end DL
namespace DL
open PySem PySem.Spec PyProof.Rows L2 Evl
/-- the number that a part counts as -/
inductive KP : Int → Value → Prop
  | int (i : Int) (t : Tok) : KP i (.int i t)
  | bool (b : Bool) : KP (if b = true then 1 else 0) (.bool b)
inductive KPs : List Int → List Value → Prop
  | nil : KPs [] []
  | cons {i : Int} {v : Value} {k : List Int} {vs : List Value} : KP i v → KPs k vs → KPs (i :: k) (v :: vs)
theorem KPs.quiet {k : List Int} {vs : List Value} (h : KPs k vs) : ∀ v ∈ vs, ∀ n, ofAClassStatement n v = pure false ∧ hashByValue n v = pure true := by
  induction h with
  | nil => intro v hv; cases hv
  | cons h1 _ ih =>
    intro v hv n
    rcases List.mem_cons.mp hv with rfl | hv
    · cases h1 <;> cases n <;> exact ⟨rfl, rfl⟩
    · exact ih v hv n
def TKey (h : Heap) (k : List Int) (b : Addr) : Prop := ∃ o its n, h.get? b = some o ∧ o.cls = .type "tuple" ∧ o.data = .seq its n ∧ KPs k its.toList
def nk (k : List Int) : NestedKey := .tup (k.map .num)
theorem nk_depthAll : ∀ k : List Int, NestedKey.depthAll (k.map NestedKey.num) = 0
  | [] => rfl
  | _ :: k => by rw [List.map_cons, NestedKey.depthAll, nk_depthAll k]; rfl
theorem nk_inj {k l : List Int} (h : nk k = nk l) : k = l := by
  have h : k.map NestedKey.num = l.map NestedKey.num := by unfold nk at h; injection h
  exact List.map_inj_right (fun x y e => by injection e) |>.mp h
theorem KPs.all {h : Heap} {k : List Int} {vs : List Value} (x : KPs k vs) : NestedAll h (k.map .num) vs := by
  induction x with
  | nil => exact .nil
  | cons h1 _ ih =>
    refine .cons ?_ ih
    cases h1 with
    | int => exact .int _ _
    | bool => exact .bool rfl
theorem TKey.stay {h h' : Heap} {k : List Int} {b : Addr} (x : TKey h k b) (e : ∀ o, h.get? b = some o → h'.get? b = some o) : TKey h' k b :=
  let ⟨o, its, n, g, r⟩ := x; ⟨o, its, n, e o g, r⟩
abbrev kh (w : World) (k : List Int) : Int := (nk k).hash w
section
variable {P : Program} {w : World} {A : Around} {E : Value → Shared → Prop} {s : Shared} {k : List Int} {b : Addr}
theorem TKey.is (P : Program) (w : World) {h : Heap} (x : TKey h k b) : (nestedKind P w).is h (nk k) b := by
  obtain ⟨o, its, n, g, c, d, kp⟩ := x
  refine ⟨.tup g c d kp.all, ?_⟩
  show NestedKey.depth (.tup _) ≤ 8
  rw [NestedKey.depth, nk_depthAll]
  decide
theorem tk_cls (x : TKey s.heap k b) {Q : Bool → Shared → Prop} (q : Q false s) : wpAny (model P w) A (ofAClassStatement 8 (.ref b)) Q E s := by
  obtain ⟨o, its, n, g, c, d, kp⟩ := x
  have tI : s.TypeIs (.ref b) "tuple" := ⟨o, g, c⟩
  unfold ofAClassStatement
  refine wpAny_bind (wpAny_typeOf tI ?_)
  have yes : (("tuple" : String) == "tuple") = true := by decide
  simp only [yes, if_true, Bool.not_true, Bool.false_eq_true, if_false]
  try refine wpAny_bind (wpAny_pure ?_)
  try simp only [Bool.not_true, Bool.false_eq_true, if_false]
  show wpAny _ _ (seqItems? (.ref b) >>= _) _ _ s
  refine wpAny_bind (wpAny_seqItems g d ?_)
  refine wpAny_bind ?_
  show wpAny _ _ (forIn its _ _) _ _ s
  rw [← Array.forIn_toList]
  refine wpAny_forIn_list _ (fun l z s2 => (z.1 = none ∧ s2 = s) ∧ ∀ v ∈ l, ∀ n, ofAClassStatement n v = pure false ∧ hashByValue n v = pure true) _ (fun v l z s2 ⟨⟨z1, z2⟩, a⟩ => ?_) (fun z s2 ⟨⟨z1, z2⟩, _⟩ => ?_) _ _ ⟨⟨rfl, rfl⟩, kp.quiet⟩
  · subst z2
    rw [(a v List.mem_cons_self _).1]
    refine wpAny_bind (wpAny_pure ?_)
    simp only [Bool.false_eq_true, if_false]
    exact wpAny_pure ⟨⟨rfl, rfl⟩, fun u hu => a u (List.mem_cons_of_mem _ hu)⟩
  · obtain ⟨y1, y2⟩ := z
    cases z1
    subst z2
    exact wpAny_pure q
theorem tk_hash (x : TKey s.heap k b) {Q : Bool → Shared → Prop} (q : Q true s) : wpAny (model P w) A (hashByValue 8 (.ref b)) Q E s := by
  obtain ⟨o, its, n, g, c, d, kp⟩ := x
  have tI : s.TypeIs (.ref b) "tuple" := ⟨o, g, c⟩
  unfold hashByValue
  refine wpAny_bind (wpAny_specialOf tI PySem.F.slot_tuple_hash.lookup ?_)
  show wpAny _ _ (seqItems? (.ref b) >>= _) _ _ s
  refine wpAny_bind (wpAny_seqItems g d ?_)
  refine wpAny_bind ?_
  show wpAny _ _ (forIn its _ _) _ _ s
  rw [← Array.forIn_toList]
  refine wpAny_forIn_list _ (fun l z s2 => (z.1 = none ∧ s2 = s) ∧ ∀ v ∈ l, ∀ n, ofAClassStatement n v = pure false ∧ hashByValue n v = pure true) _ (fun v l z s2 ⟨⟨z1, z2⟩, a⟩ => ?_) (fun z s2 ⟨⟨z1, z2⟩, _⟩ => ?_) _ _ ⟨⟨rfl, rfl⟩, kp.quiet⟩
  · subst z2
    rw [(a v List.mem_cons_self _).2]
    refine wpAny_bind (wpAny_pure ?_)
    simp only [Bool.not_true, Bool.false_eq_true, if_false]
    exact wpAny_pure ⟨⟨rfl, rfl⟩, fun u hu => a u (List.mem_cons_of_mem _ hu)⟩
  · obtain ⟨y1, y2⟩ := z
    cases z1
    subst z2
    exact wpAny_pure q
theorem tk_seen (x : TKey s.heap k b) {ys : List Value} (hy : ∀ y ∈ ys, ∃ l c, y = Value.ref c ∧ TKey s.heap l c) {Q : Bool → Shared → Prop} (q : Q false s) : wpAny (model P w) A (searchCouldBeSeen (.ref b) ys) Q E s := by
  unfold searchCouldBeSeen
  refine wpAny_bind ?_
  refine wpAny_forIn_list _ (fun l z s2 => (z.1 = none ∧ s2 = s) ∧ ∀ y ∈ l, ∃ l c, y = Value.ref c ∧ TKey s.heap l c) _ (fun v l z s2 ⟨⟨z1, z2⟩, a⟩ => ?_) (fun z s2 ⟨⟨z1, z2⟩, _⟩ => ?_) _ _ ⟨⟨rfl, rfl⟩, hy⟩
  · subst z2
    have more : (∀ y ∈ l, ∃ l c, y = Value.ref c ∧ TKey s2.heap l c) := fun u hu => a u (List.mem_cons_of_mem _ hu)
    obtain ⟨k2, c, rfl, tc⟩ := a v List.mem_cons_self
    dsimp only
    by_cases same : (b == c || (carriedByValue (.ref b) && carriedByValue (.ref c))) = true
    · exact wp_if_pos same (wpAny_pure ⟨⟨rfl, rfl⟩, more⟩)
    · refine wp_if_neg same (wpAny_bind ((nestedKind P w).quiet (x.is P w) ?_))
      simp only [Bool.not_true, Bool.false_eq_true, if_false]
      refine wpAny_bind ((nestedKind P w).quiet (tc.is P w) ?_)
      simp only [Bool.not_true, Bool.false_eq_true, if_false]
      refine wpAny_bind (tk_cls x ?_)
      simp only [Bool.false_eq_true, if_false]
      refine wpAny_bind (tk_cls tc ?_)
      simp only [Bool.false_eq_true, if_false]
      exact wpAny_pure ⟨⟨rfl, rfl⟩, more⟩
  · obtain ⟨y1, y2⟩ := z
    cases z1
    subst z2
    exact wpAny_pure q
end
def prb (m : Nat) (h : Int) (c : Nat) : SetTable.Probe := nth m (runAt m (SetTable.bits h % (m + 1)) (SetTable.bits h)) c
theorem prb_on (m : Nat) (h : Int) (c q : Nat) : nth m (prb m h c) q = prb m h (c + q) := (nth_add m c _ q).symm
theorem prb_j (m : Nat) (h : Int) (c : Nat) : (prb m h c).j = way m h c := rfl
theorem prb_dm (m : Nat) (h : Int) : ∀ c, (prb m h c).dummy = none
  | 0 => rfl
  | c + 1 => by
    have e : prb m h (c + 1) = adv m (prb m h c) := nth_succ m _ c
    rw [e]
    unfold adv
    split <;> exact prb_dm m h c
structure KSet (w : World) (h : Heap) (a : Addr) (L : List (Addr × List Int)) (es : Array (Int × Value)) (ep : Nat) (t : SetTable) : Prop where
  place : ∃ o, h.get? a = some o ∧ o.ExactSet ∧ o.data = .set es ep t
  els : es.toList = L.map fun p => (kh w p.2, Value.ref p.1)
  tb : TabOk t (L.map fun p => kh w p.2)
  once : (L.map (·.2)).Nodup
  keys : ∀ p ∈ L, TKey h p.2 p.1
  pl : t.plain = true
  ld : w.params.followText "set-order" = true ∨ t.led = true
  rm : L.length * 5 < t.mask * 3
  fw : L.length < 64
section
variable {P : Program} {w : World} {A : Around} {E : Value → Shared → Prop} {s : Shared} {a : Addr} {L : List (Addr × List Int)} {es : Array (Int × Value)} {ep : Nat} {t : SetTable}
theorem els_len {es : Array (Int × Value)} (h : es.toList = L.map fun p => (kh w p.2, Value.ref p.1)) : es.size = L.length := by
  rw [← Array.length_toList, h, List.length_map]
theorem els_at {es : Array (Int × Value)} (h : es.toList = L.map fun p => (kh w p.2, Value.ref p.1)) {i : Nat} {p : Addr × List Int} (e : L[i]? = some p) : es[i]? = some (kh w p.2, Value.ref p.1) := by
  rw [← Array.getElem?_toList, h, List.getElem?_map, e]; rfl
theorem KSet.fit (R : KSet w s.heap a L es ep t) : t.fits es.size = true := by
  have z := R.tb.sz
  have y := els_len R.els
  have r := R.rm
  rw [List.length_map] at z
  simp only [SetTable.fits, SetTable.fill, R.tb.dm, Bool.and_eq_true, beq_iff_eq, decide_eq_true_eq]
  refine ⟨by omega, ?_⟩
  show t.place.size + 0 ≤ t.mask
  omega
/-- the search for k from the c-th place of its way on -/
theorem ks_go (R : KSet w s.heap a L es ep t) {x : Addr} {k : List Int} (hx : TKey s.heap k x) (room : A.units + 8 < cLine) {K : Nat} (kt : K < 10 * SetTable.turns t.mask) (free : way t.mask (kh w k) K ∉ t.place.toList)
    (full : ∀ c, c < K → way t.mask (kh w k) c ∈ t.place.toList) {Q : SetFound → Shared → Prop} (yes : k ∈ L.map (·.2) → Q (.there none) s) (no : k ∉ L.map (·.2) → Q (.free (way t.mask (kh w k) K) false) s) :
    ∀ (n c : Nat) (st : Option SetTable.Probe), st.getD (t.probeStart (kh w k)) = prb t.mask (kh w k) c → c ≤ K → K < n + c → (∀ (i : Nat) p, L[i]? = some p → p.2 = k → ∃ d, c ≤ d ∧ d < K ∧ t.place.toList[i]? = some (way t.mask (kh w k) d)) →
      wpAny (model P w) A (setSearchFrom a (.ref x) (kh w k) true n st) Q E s := by
  intro n
  induction n with
  | zero => intro c st _ ck kn _; exact absurd kn (by omega)
  | succ n ih =>
    intro c st est ck kn left
    have ⟨ob, og, ox, od⟩ := R.place
    have gave : ¬ t.gaveWay = true := by
      unfold SetTable.gaveWay
      rw [mask_odd R.tb.mok]
      decide
    have on : ∀ q, (nth t.mask (prb t.mask (kh w k) c) q).j = way t.mask (kh w k) (c + q) := fun q => by rw [prb_on, prb_j]
    have hat : ∀ {i : Nat} {p : Addr × List Int}, L[i]? = some p → ((es[i]?.map (·.1)).getD 0 : Int) = kh w p.2 := fun e => by rw [els_at R.els e]; rfl
    rw [setSearchFrom_succ]
    refine wpAny_bind (wpAny_setState_of og od R.fit ?_)
    dsimp only
    refine wp_if_neg gave ?_
    try refine wpAny_bind (wpAny_pure ?_)
    have cases_ := go_spec t R.tb.ris R.tb.dm (fun i => (es[i]?.map (·.1)).getD 0) (kh w k) (10 * SetTable.turns t.mask) (K - c) (prb t.mask (kh w k) c) (prb_dm _ _ c) (by omega) (fun q hq => by rw [on]; exact full _ (by omega)) (by rw [on, Nat.add_sub_cancel' ck]; exact free)
    have start : ∀ z, SetTable.probe.go t (fun i => (es[i]?.map (·.1)).getD 0) (kh w k) (10 * SetTable.turns t.mask) (prb t.mask (kh w k) c) = z → t.probe (fun i => (es[i]?.map (·.1)).getD 0) (kh w k) (st.getD (t.probeStart (kh w k))) = z := fun z e => by rw [est]; exact e
    rcases cases_ with ⟨q, i, qK, iq, _, before, pr⟩ | ⟨before, pr⟩
    · rw [start _ pr, prb_on, prb_on, prb_j]
      rw [on] at iq
      dsimp only
      have il : i < L.length := by
        have z := R.tb.sz
        have y := (List.getElem?_eq_some_iff.mp iq).1
        rw [List.length_map] at z
        rw [Array.length_toList] at y
        omega
      obtain ⟨p, ep_⟩ : ∃ p, L[i]? = some p := ⟨_, List.getElem?_eq_getElem il⟩
      have pL := List.mem_of_getElem? ep_
      have tail : wpAny (model P w) A (searchRest a (.ref x) (kh w k) true n es t (way t.mask (kh w k) (c + q)) i (prb t.mask (kh w k) (c + (q + 1)))) Q E s := by
        unfold searchRest
        rw [els_at R.els ep_]
        dsimp only
        refine wpAny_bind (wpAny_holding ((nestedKind P w).eqBool room ((R.keys p pL).is P w) (hx.is P w) ?_))
        refine wpAny_bind (wpAny_setState_of og od R.fit ?_)
        dsimp only
        by_cases eq : p.2 = k
        · refine wp_if_pos (by rw [eq]; simp) (wpAny_pure (yes (List.mem_map.mpr ⟨p, pL, eq⟩)))
        · have ne : nk p.2 ≠ nk k := fun e => eq (nk_inj e)
          refine wp_if_neg (by simp [ne]) ?_
          try refine wpAny_bind (wpAny_pure ?_)
          rw [sameMem]
          have live : t.slot (way t.mask (kh w k) (c + q)) = .live i := slot_live R.tb.ris iq
          simp only [if_true, live, els_at R.els ep_]
          refine wpAny_bind (wpAny_isSame_ref_self (wpAny_bind (wpAny_pure ?_)))
          simp only [if_true]
          refine wp_if_neg (by simp [ne]) (ih (c + (q + 1)) _ rfl (by omega) (by omega) fun j r jr rk => ?_)
          obtain ⟨d, d1, d2, d3⟩ := left j r jr rk
          refine ⟨d, Nat.lt_of_not_le fun dq => ?_, d2, d3⟩
          rcases Nat.lt_or_eq_of_le (show d ≤ c + q by omega) with lt | e
          · exact before (d - c) j (by omega) (by rw [on, Nat.add_sub_cancel' d1]; exact d3) ((hat jr).trans (congrArg (kh w) rk))
          · rw [e] at d3
            have two := slot_live R.tb.ris d3
            rw [live] at two
            injection two with two
            rw [← two, ep_] at jr
            exact eq ((congrArg Prod.snd (Option.some.inj jr)).trans rk)
      by_cases led : t.led = true
      · refine wp_if_neg (by simp [led]) ?_
        try refine wpAny_bind (wpAny_pure ?_)
        exact tail
      · refine wp_if_pos (by simp [led]) (wpAny_bind (tk_seen hx (fun y hy => ?_) ?_))
        · obtain ⟨e, he, rfl⟩ := List.mem_map.mp hy
          have he : e ∈ es ∧ e.1 = kh w k := by simpa using he
          have he : e ∈ es.toList := by simpa using he.1
          rw [R.els] at he
          obtain ⟨r, rL, rfl⟩ := List.mem_map.mp he
          exact ⟨r.2, r.1, rfl, R.keys r rL⟩
        · refine wp_if_neg (by decide) ?_
          try refine wpAny_bind (wpAny_pure ?_)
          exact tail
    · rw [start _ pr, on, Nat.add_sub_cancel' ck]
      dsimp only
      refine wpAny_pure (no fun mem => ?_)
      obtain ⟨r, rL, rk⟩ := List.mem_map.mp mem
      obtain ⟨j, jl, je⟩ := List.getElem_of_mem rL
      have jr : L[j]? = some r := by rw [List.getElem?_eq_getElem jl, je]
      obtain ⟨d, d1, d2, d3⟩ := left j r jr rk
      exact before (d - c) j (by omega) (by rw [on, Nat.add_sub_cancel' d1]; exact d3) ((hat jr).trans (congrArg (kh w) rk))
theorem ks_find (R : KSet w s.heap a L es ep t) {x : Addr} {k : List Int} (hx : TKey s.heap k x) (room : A.units + 8 < cLine) {Q : SetFound → Shared → Prop} (yes : k ∈ L.map (·.2) → Q (.there none) s)
    (no : ∀ K, k ∉ L.map (·.2) → way t.mask (kh w k) K ∉ t.place.toList → (∀ c, c < K → way t.mask (kh w k) c ∈ t.place.toList) → Q (.free (way t.mask (kh w k) K) false) s) : wpAny (model P w) A (setSearch a (.ref x) (kh w k) true) Q E s := by
  have r := R.rm
  obtain ⟨K, kt, free, full⟩ := R.tb.first (by rw [List.length_map]; omega) (kh w k)
  have small : K < 100000 := by
    have : SetTable.turns t.mask ≤ 142 := by
      unfold SetTable.turns
      rcases R.tb.mok with e | e | e <;> omega
    omega
  refine ks_go R hx room kt free full yes (fun n => no K n free full) 100000 0 none rfl (Nat.zero_le K) (by omega) fun i p ip pk => ?_
  have z := R.tb.sz
  have il := (List.getElem?_eq_some_iff.mp ip).1
  rw [List.length_map] at z
  obtain ⟨j, jp⟩ : ∃ j, t.place.toList[i]? = some j := ⟨_, List.getElem?_eq_getElem (by rw [Array.length_toList]; omega)⟩
  obtain ⟨d, dK, e⟩ := R.tb.before free (show (L.map fun p => kh w p.2)[i]? = some (kh w k) by rw [List.getElem?_map, ip, ← pk]; rfl) jp
  exact ⟨d, Nat.zero_le d, dK, by rw [jp, e]⟩
theorem TKey.aside {h h' : Heap} {k : List Int} {b a : Addr} {o : Obj} (x : TKey h k b) (g : h.get? a = some o) (d : o.data = .set es ep t) (e : Heap.SameBut a h h') : TKey h' k b := by
  refine x.stay fun u gu => (e.2 b fun ba => ?_).trans gu
  obtain ⟨o2, its, n, g2, _, d2, _⟩ := x
  rw [ba, g] at g2
  rw [← Option.some.inj g2, d] at d2
  cases d2
theorem range_pick {α : Type} (l : List α) : ∀ m, m ≤ l.length → (List.range m).filterMap (fun i => l[i]?) = l.take m
  | 0, _ => rfl
  | m + 1, h => by
    obtain ⟨x, hx⟩ : ∃ x, l[m]? = some x := ⟨_, List.getElem?_eq_getElem (by omega)⟩
    rw [List.range_succ, List.filterMap_append, range_pick l m (by omega), List.take_add_one, hx, List.filterMap_cons_some hx]
    rfl
theorem pick_perm {L : List (Addr × List Int)} {ord : List Nat} (h : ord.Perm (List.range L.length)) : (ord.filterMap fun i => L[i]?).Perm L := by
  have e := range_pick L L.length (Nat.le_refl _)
  rw [List.take_length] at e
  exact (h.filterMap _).trans (by rw [e])
theorem pick_els (els : es.toList = L.map fun p => (kh w p.2, Value.ref p.1)) (ord : List Nat) : (ord.filterMap fun i => es[i]?) = (ord.filterMap fun i => L[i]?).map fun p => (kh w p.2, Value.ref p.1) := by
  rw [List.map_filterMap]
  congr 1
  funext i
  rw [← Array.getElem?_toList, els, List.getElem?_map]
theorem pick_hash (els : es.toList = L.map fun p => (kh w p.2, Value.ref p.1)) : ∀ ord : List Nat, (∀ i ∈ ord, i < L.length) → (ord.map fun i => (es.map (·.1)).getD i 0) = (ord.filterMap fun i => L[i]?).map fun p => kh w p.2
  | [], _ => rfl
  | i :: r, h => by
    obtain ⟨p, hp⟩ : ∃ p, L[i]? = some p := ⟨_, List.getElem?_eq_getElem (h i List.mem_cons_self)⟩
    rw [List.map_cons, List.filterMap_cons_some hp, List.map_cons, pick_hash els r fun j hj => h j (List.mem_cons_of_mem _ hj)]
    congr 1
    have e : (es.map (·.1))[i]? = some (kh w p.2) := by rw [Array.getElem?_map, els_at els hp]; rfl
    rw [Array.getD_eq_getD_getElem?, e]
    rfl
/-- the table laid anew -/
theorem ks_lay {o : Obj} (og : s.heap.get? a = some o) (ox : o.ExactSet) (od : o.data = .set es ep t) (els : es.toList = L.map fun p => (kh w p.2, Value.ref p.1)) (sz : t.place.size = L.length) (dm : t.dummies = #[]) (fl : L.length ≤ t.mask)
    (once : (L.map (·.2)).Nodup) (keys : ∀ p ∈ L, TKey s.heap p.2 p.1) (pl : t.plain = true) (ld : w.params.followText "set-order" = true ∨ t.led = true) (fw : L.length < 64) {want M : Nat} (wM : SetTable.sizeAbove want - 1 = M) (mM : MaskOk M) (big : SetTable.sizeAbove want ≤ 128)
    (rM : L.length * 5 < M * 3) {Q : Unit → Shared → Prop} (q : ∀ h2 L2 es2 ep2 t2, Heap.SameBut a s.heap h2 → KSet w h2 a L2 es2 ep2 t2 → L2.Perm L → Q () { s with heap := h2 }) : wpAny (model P w) A (setRelay a want) Q E s := by
  have ln := els_len els
  have fit : t.fits es.size = true := by
    simp only [SetTable.fits, SetTable.fill, dm, Bool.and_eq_true, beq_iff_eq, decide_eq_true_eq]
    refine ⟨by omega, ?_⟩
    show t.place.size + 0 ≤ t.mask
    omega
  obtain ⟨t2, ord, e, pm, tb2, m2, l2, p2, _⟩ := relaid_ok t (hs := es.map (·.1)) wM mM (by rw [Array.size_map, ln]; omega)
  rw [Array.size_map, ln] at pm
  rw [pick_hash els _ fun i hi => List.mem_range.mp (pm.mem_iff.mp hi)] at tb2
  have pL := pick_perm pm
  have pe : (ord.filterMap (es[·]?)).toList = (ord.toList.filterMap fun i => L[i]?).map fun p => (kh w p.2, Value.ref p.1) := by
    rw [← pick_els els]
    first | exact Array.toList_filterMap | simp
  generalize (ord.toList.filterMap fun i => L[i]?) = L2 at tb2 pL pe
  have ln2 := els_len pe
  rw [setRelay_eq]
  refine wpAny_bind (wpAny_setState_of og od fit ?_)
  dsimp only
  refine wp_if_neg (by rw [sizeLine_eq]; omega) ?_
  try refine wpAny_bind (wpAny_pure ?_)
  rw [e]
  dsimp only
  generalize ord.filterMap (es[·]?) = es2 at pe ln2
  have same : es2.size = es.size := by rw [ln2, ln]; exact pL.length_eq
  refine wpAny_bind (wp_if_neg (by rw [same]; simp) ?_)
  try refine wpAny_bind (wpAny_pure ?_)
  refine wpAny_pure ?_
  dsimp only
  refine wpAny_storeSet_of og od ?_ (by rw [same, ln, sizeLine_eq]; omega)
  have sb := Heap.SameBut.update s.heap a (Obj.putSet es2 t2)
  refine q _ L2 es2 (ep + 1) t2 sb ⟨⟨_, store_at og od, ⟨ox.1, ox.2.1, ox.2.2⟩, rfl⟩, pe, tb2, (pL.map (·.2)).nodup_iff.mpr once, fun p hp => (keys p (pL.mem_iff.mp hp)).aside og od sb, p2.trans pl, by rw [l2]; exact ld, ?_, by rw [pL.length_eq]; exact fw⟩ pL
  rw [m2, pL.length_eq]
  exact rM
/-- one more -/
theorem ks_add (R : KSet w s.heap a L es ep t) {x : Addr} {k : List Int} (hx : TKey s.heap k x) (room : A.units + 8 < cLine) (few : L.length + 1 < 64) {Q : Bool → Shared → Prop}
    (q : ∀ b h2 L2 es2 ep2 t2, Heap.SameBut a s.heap h2 → KSet w h2 a L2 es2 ep2 t2 → (k ∈ L.map (·.2) → L2 = L) → (k ∉ L.map (·.2) → L2.Perm ((x, k) :: L)) → Q b { s with heap := h2 }) : wpAny (model P w) A (setAddHashed a (.ref x) (kh w k)) Q E s := by
  have ⟨ob, og, ox, od⟩ := R.place
  have ln := els_len R.els
  have rm := R.rm
  unfold setAddHashed
  refine wpAny_holding ?_
  rw [show (100000 : Nat) = 99999 + 1 from rfl, setAddHashedIn_succ]
  refine wpAny_bind (wpAny_setState_of og od R.fit ?_)
  dsimp only
  refine wp_if_neg (by simp [byScan, Value.scannable]) ?_
  try refine wpAny_bind (wpAny_pure ?_)
  refine wpAny_bind (ks_find R hx room (fun m => ?_) fun K nm free full => ?_)
  · dsimp only
    exact wpAny_pure (q false s.heap L es ep t (Heap.SameBut.refl a s.heap) R (fun _ => rfl) fun n => absurd m n)
  dsimp only
  refine wpAny_bind (wpAny_setState_of og od R.fit ?_)
  dsimp only
  have put := R.tb.put free full
  have pin := fun es0 : Array (Int × Value) => SetTable.toList_insertAt es0
  generalize hW : way t.mask (kh w k) K = W at put ⊢
  obtain ⟨u1, u2, u3, u4, u5, u6, u7, u8, u9⟩ := put
  generalize hT : t.put W = T at u1 u3 u4 u5 u6 u7 u8 u9 ⊢
  obtain ⟨t1, at1⟩ := T
  dsimp only at u1 u3 u4 u5 u6 u7 u8 u9 ⊢
  subst u1
  have pl1 : t1.plain = true := u6.trans R.pl
  first
    | (refine wpAny_bind ?_; refine wp_if_pos pl1 ?_; refine tk_hash hx ?_)
    | refine wp_if_pos pl1 (wpAny_bind (tk_hash hx ?_))
  simp only [if_true]
  generalize SetTable.below t.place W = c at u2 u3 ⊢
  have pm : (L.take c ++ (x, k) :: L.drop c).Perm ((x, k) :: L) := put_perm L c (x, k)
  have e1 : (SetTable.insertAt es c (kh w k, Value.ref x)).toList = (L.take c ++ (x, k) :: L.drop c).map fun p => (kh w p.2, Value.ref p.1) := by
    rw [SetTable.toList_insertAt, R.els, List.map_append, List.map_cons, List.map_take, List.map_drop]
  have tb1 : TabOk t1 ((L.take c ++ (x, k) :: L.drop c).map fun p => kh w p.2) := by
    rw [List.map_append, List.map_cons, List.map_take, List.map_drop]
    exact u3
  have once1 : ((L.take c ++ (x, k) :: L.drop c).map (·.2)).Nodup := (pm.map (·.2)).nodup_iff.mpr (List.nodup_cons.mpr ⟨nm, R.once⟩)
  have len1 : (L.take c ++ (x, k) :: L.drop c).length = L.length + 1 := pm.length_eq
  generalize (L.take c ++ (x, k) :: L.drop c) = L1 at pm e1 tb1 once1 len1
  have ln1 := els_len e1
  generalize SetTable.insertAt es c (kh w k, Value.ref x) = es1 at e1 ln1 ⊢
  refine wpAny_bind (wpAny_storeSet_of og od ?_ (by rw [ln1, len1, sizeLine_eq]; omega))
  have sb := Heap.SameBut.update s.heap a (Obj.putSet es1 t1)
  have og1 := store_at (es' := es1) (t' := t1) og od
  have keys1 : ∀ p ∈ L1, TKey (s.heap.update a (Obj.putSet es1 t1)) p.2 p.1 := fun p hp => by
    rcases List.mem_cons.mp (pm.mem_iff.mp hp) with e | hp
    · rw [e]; exact hx.aside og od sb
    · exact (R.keys p hp).aside og od sb
  generalize s.heap.update a (Obj.putSet es1 t1) = h1 at sb og1 keys1 ⊢
  have ld1 : w.params.followText "set-order" = true ∨ t1.led = true := by rw [u5]; exact R.ld
  rw [List.length_map] at u9
  by_cases tight : t1.tooFull = true
  · first
      | (refine wpAny_bind ?_; refine wp_if_pos (by simp [tight]) ?_)
      | (refine wp_if_pos (by simp [tight]) ?_; refine wpAny_bind ?_)
    have over : (L.length + 1) * 5 ≥ t1.mask * 3 := by
      have z := tight
      unfold SetTable.tooFull at z
      rw [decide_eq_true_eq, u9] at z
      exact z
    rw [u4] at over
    have sz1 : t1.place.size = L1.length := by
      have z := tb1.sz
      rwa [List.length_map] at z
    rw [ln]
    have grow : ∀ M, SetTable.sizeAbove (SetTable.grown (L.length + 1)) - 1 = M → MaskOk M → SetTable.sizeAbove (SetTable.grown (L.length + 1)) ≤ 128 → (L.length + 1) * 5 < M * 3 → L.length + 1 ≤ t.mask →
        wpAny (model P w) A (setRelay a (SetTable.grown (L.length + 1))) (fun _ s2 => wpAny (model P w) A (pure true) Q E s2) E { s with heap := h1 } := fun M z1 z2 z3 z4 z5 =>
      ks_lay (s := { s with heap := h1 }) og1 ⟨ox.1, ox.2.1, ox.2.2⟩ rfl e1 sz1 tb1.dm (by rw [len1, u4]; exact z5) once1 keys1 pl1 ld1 (by rw [len1]; exact few) z1 z2 z3 (by rw [len1]; exact z4) fun h2 L2 es2 ep2 t2 sb2 R2 pm2 =>
        wpAny_pure (q true h2 L2 es2 ep2 t2 (sb.trans sb2) R2 (fun m => absurd m nm) fun _ => pm2.trans pm)
    rcases R.tb.mok with e | e | e
    · have l4 : L.length = 4 := by rw [e] at over rm; omega
      exact grow 31 (by rw [l4, size_20]) (.inr (.inl rfl)) (by rw [l4, size_20]; decide) (by omega) (by omega)
    · have l18 : L.length = 18 := by rw [e] at over rm; omega
      exact grow 127 (by rw [l18, size_76]) (.inr (.inr rfl)) (by rw [l18, size_76]; decide) (by omega) (by omega)
    · rw [e] at over; omega
  · first
      | refine wp_if_neg (by simp [tight]) ?_
      | (refine wpAny_bind ?_; refine wp_if_neg (by simp [tight]) ?_; refine wpAny_pure ?_)
    refine wpAny_pure (q true h1 L1 es1 (ep + 1) t1 sb ⟨⟨_, og1, ⟨ox.1, ox.2.1, ox.2.2⟩, rfl⟩, e1, tb1, once1, keys1, pl1, ld1, ?_, by rw [len1]; exact few⟩ (fun m => absurd m nm) fun _ => pm)
    have z := tight
    unfold SetTable.tooFull at z
    rw [decide_eq_true_eq, u9] at z
    rw [len1]
    omega
/-- d.add(x) -/
theorem ks_put (R : KSet w s.heap a L es ep t) {x : Addr} {k : List Int} (hx : TKey s.heap k x) (room : A.units + 10 < cLine) (few : L.length + 1 < 64) {Q : Value → Shared → Prop}
    (q : ∀ h2 tk L2 es2 ep2 t2, Heap.SameBut a s.heap h2 → KSet w h2 a L2 es2 ep2 t2 → (k ∈ L.map (·.2) → L2 = L) → (k ∉ L.map (·.2) → L2.Perm ((x, k) :: L)) → Q .none { s with heap := h2, toks := tk }) :
    wpAny (model P w) A (call (.builtin "set.add") [.ref a, .ref x]) Q E s := by
  have ⟨ob, og, ox, od⟩ := R.place
  have tI : s.TypeIs (.ref a) "set" := ⟨ob, og, ox.1⟩
  refine wpAny_call_entry F.slot_set_add tI F.entry_set_add ?_ (F.args_set_add_2 _ _)
  unfold Builtin.«set.add» Builtin.Frozenset.oneOther
  simp only [List.isEmpty_nil, bind_assoc]
  unfold Builtin.Frozenset.addrOf setAdd
  refine wpAny_bind (wpAny_pure ?_)
  try dsimp only
  refine wpAny_bind (wpAny_pure ?_)
  try dsimp only
  refine wpAny_bind ?_
  refine wpAny_holding ?_
  refine wpAny_bind ((nestedKind P w).pyHash (show (nestedKind P w).room _ from ?_) (hx.is P w) ?_)
  · show A.units + 1 + 8 < cLine
    omega
  refine ks_add (s := { s with toks := s.toks + (nestedKind P w).draws (nk k) }) R hx ?_ few fun b h2 L2 es2 ep2 t2 sb R2 c1 c2 => ?_
  · show A.units + 1 + 8 < cLine
    omega
  show wpAny _ _ (ret Value.none) _ _ _
  exact wpAny_pure ⟨_, rfl, q h2 _ L2 es2 ep2 t2 sb R2 c1 c2⟩
theorem ks_new (P : Program) {h : Heap} {a : Addr} (g : h.get? a = some { cls := .type "set", dict := none, data := .set #[] 0 (.fresh 0 0 (!w.params.followText "set-order")) }) : KSet w h a [] #[] 0 (.fresh 0 0 (!w.params.followText "set-order")) := by
  have R := setTR_fresh (P := P) (w := w) g
  have z : TabOk (.fresh 0 0 (!w.params.followText "set-order")) [] := R.tab
  have pl := R.plain
  have ld := R.led
  have rm := R.room
  have ob := R.ob
  clear R g
  generalize SetTable.fresh 0 0 (!w.params.followText "set-order") = t at *
  exact ⟨ob, rfl, z, List.nodup_nil, (fun p hp => nomatch hp), pl, ld, rm, by decide⟩
end
def Pr2 (h : Heap) (v : Value) (p : Int × Bool) : Prop := ∃ b o n t, v = .ref b ∧ h.get? b = some o ∧ o.cls = .type "tuple" ∧ o.data = .seq #[.int p.1 t, .bool p.2] n
def pr2Of (h : Heap) (v : Value) : Int × Bool := match v with
  | .ref b => match h.get? b with
    | some o => match o.data with
      | .seq its _ => match its.toList with
        | [.int m _, .bool c] => (m, c)
        | _ => (0, false)
      | _ => (0, false)
    | none => (0, false)
  | _ => (0, false)
theorem Pr2.of {h : Heap} {v : Value} {p : Int × Bool} (x : Pr2 h v p) : pr2Of h v = p := by
  obtain ⟨b, o, n, t, rfl, g, _, d⟩ := x
  unfold pr2Of
  simp only [g, d]
theorem Pr2.stay {h h' : Heap} {v : Value} {p : Int × Bool} (x : Pr2 h v p) (e : ∀ b o, h.get? b = some o → o.cls = .type "tuple" → h'.get? b = some o) : Pr2 h' v p :=
  let ⟨b, o, n, t, ev, g, c, d⟩ := x; ⟨b, o, n, t, ev, e b o g c, c, d⟩
def rk2 (p : Int × Bool) : Int := 2 * p.1 + (if p.2 = true then 1 else 0)
def kk2 (p : Int × Bool) : List Int := [p.1, if p.2 = true then 1 else 0]
theorem kk2_inj {p q : Int × Bool} (h : kk2 p = kk2 q) : p = q := by
  obtain ⟨m, b⟩ := p
  obtain ⟨n, c⟩ := q
  have h1 : m = n ∧ (if b = true then (1 : Int) else 0) = (if c = true then 1 else 0) := by
    unfold kk2 at h
    simpa using h
  have h2 := h1.2
  cases b <;> cases c <;> simp_all
theorem Pr2.key {h : Heap} {b : Addr} {p : Int × Bool} (x : Pr2 h (.ref b) p) : TKey h (kk2 p) b := by
  obtain ⟨c, o, n, t, e, g, cl, d⟩ := x
  injection e with e
  subst e
  exact ⟨o, _, n, g, cl, d, .cons (.int _ t) (.cons (.bool _) .nil)⟩
section
variable {P : Program} {w : World} {A : Around} {E : Value → Shared → Prop} {s : Shared}
theorem pr2_cmp {vs : List Value} (x : ∀ v ∈ vs, ∃ p, Pr2 s.heap v p) (h2 : 2 ≤ vs.length) (rr : Value → Int) (hr : ∀ v ∈ vs, ∀ p, Pr2 s.heap v p → rr v = rk2 p) (Q : SortKind → Shared → Prop) (q : ∀ κ, TS.Cmp P w A s κ (pairsOf vs) rr → Q κ s) : wpAny (model P w) A (keyKind' vs.toArray) Q E s := by
  obtain ⟨fs, kt, fl, fi⟩ : ∃ fs, PySem.W.KatTups s.heap vs fs ∧ fs.length = vs.length ∧ ∀ f ∈ fs, ∃ m t, f = Value.int m t := by
    clear h2 q hr
    induction vs with
    | nil => exact ⟨[], trivial, rfl, fun f hf => nomatch hf⟩
    | cons v r ih =>
      obtain ⟨fs, k1, k2, k3⟩ := ih fun u hu => x u (List.mem_cons_of_mem _ hu)
      obtain ⟨p, b, o, n, t, rfl, g, c, d⟩ := x v List.mem_cons_self
      refine ⟨.int p.1 t :: fs, PySem.W.KatTups.cons g c d rfl k1, by rw [List.length_cons, List.length_cons, k2], fun f hf => ?_⟩
      rcases List.mem_cons.mp hf with rfl | hf
      · exact ⟨_, _, rfl⟩
      · exact k3 f hf
  refine PySem.W.kat_kind (T := Value.type "int") kt (by omega) (fun f hf => ?_) rfl (q _ fun u v hu hv Q2 E2 q2 => ?_)
  · obtain ⟨m, t, rfl⟩ := fi f hf
    exact PySem.W.Looks.of_pure rfl
  · rw [pairsOf_toList] at hu hv
    obtain ⟨p, xp⟩ := x _ (mem_zip_self hu).2
    obtain ⟨r, xr⟩ := x _ (mem_zip_self hv).2
    rw [hr _ (mem_zip_self hu).2 p xp, hr _ (mem_zip_self hv).2 r xr] at q2
    obtain ⟨b1, o1, n1, t1, e1, g1, c1, d1⟩ := xp
    obtain ⟨b2, o2, n2, t2, e2, g2, c2, d2⟩ := xr
    rw [e1, e2]
    refine PySem.W.kat_lt g1 d1 g2 d2 ?_
    refine PySem.W.kat_cons (p := .int p.1 t1) (q := .int r.1 t2) (r := [(.bool p.2, .bool r.2)]) (wpAny_eqBool_int ?_)
    refine PySem.W.kat_go (fun e => ?_) fun e => ?_
    · have e : p.1 = r.1 := by simpa using e
      rw [e]
      refine PySem.W.kat_yes (PySem.W.kat_cons (SeqAt.EqAt.bool_bool p.2 r.2 P w _ _ ?_))
      refine PySem.W.kat_go (fun e2 => ?_) fun e2 => ?_
      · have e2 : p.2 = r.2 := by simpa using e2
        rw [e2]
        refine PySem.W.kat_yes (PySem.W.kat_nil ?_)
        rw [show decide (rk2 p < rk2 r) = decide ((#[Value.int p.1 t1, Value.bool p.2] : Array Value).size < (#[Value.int r.1 t2, Value.bool r.2] : Array Value).size) from ?_] at q2
        · exact q2
        · unfold rk2
          rw [e, e2]
          simp
      · refine PySem.W.kat_no ?_
        rw [show (_ && 0 + 1 == 0) = false by simp]
        refine PySem.W.kat_one _ _ (PyProof.Rows.lt_bool ?_)
        have e3 : decide (rk2 p < rk2 r) = decide (b2i p.2 < b2i r.2) := by
          unfold rk2
          rw [e]
          rw [decide_eq_decide]
          cases p.2 <;> cases r.2 <;> simp [b2i] <;> omega
        rw [e3] at q2
        exact q2
    · have ne : p.1 ≠ r.1 := by simpa using e
      refine PySem.W.kat_no (PyProof.Rows.oneLt_any_int ?_)
      have e3 : decide (rk2 p < rk2 r) = decide (p.1 < r.1) := by
        unfold rk2
        rw [decide_eq_decide]
        cases p.2 <;> cases r.2 <;> simp <;> omega
      rw [e3] at q2
      exact q2
theorem perm_back {α β : Type} {f : α → β} {l m : List β} (h : l.Perm m) : ∀ {L : List α}, m = L.map f → ∃ L2 : List α, L2.Perm L ∧ l = L2.map f := by
  induction h with
  | nil => intro L e; exact ⟨[], by rw [List.map_eq_nil_iff.mp e.symm], rfl⟩
  | cons x _ ih =>
    intro L e
    cases L with
    | nil => cases e
    | cons y L =>
      rw [List.map_cons] at e
      injection e with e1 e2
      obtain ⟨L2, p2, e3⟩ := ih e2
      exact ⟨y :: L2, p2.cons y, by rw [List.map_cons, e1, e3]⟩
  | swap x y l =>
    intro L e
    match L, e with
    | a :: b :: L, e =>
      rw [List.map_cons, List.map_cons] at e
      injection e with e1 e2
      injection e2 with e2 e3
      exact ⟨b :: a :: L, List.Perm.swap a b L, by rw [List.map_cons, List.map_cons, e1, e2, e3]⟩
  | trans _ _ ih1 ih2 =>
    intro L e
    obtain ⟨L2, p2, e2⟩ := ih2 e
    obtain ⟨L3, p3, e3⟩ := ih1 e2
    exact ⟨L3, p3.trans p2, e3⟩
theorem ks_sorted {a : Addr} {L : List (Addr × List Int)} {es : Array (Int × Value)} {ep : Nat} {t : SetTable} {Q : Value → Shared → Prop} (R : KSet w s.heap a L es ep t) (calm : A.handled = none) (prs : ∀ p ∈ L, ∃ m, Pr2 s.heap (.ref p.1) m)
    (q : ∀ s2 l (out : Array Value) (c : Nat) (L2 : List (Addr × List Int)), (∀ b o, s.heap.get? b = some o → s2.heap.get? b = some o) → s2.gens = s.gens → s2.os = s.os → s.heap.objs.size ≤ l → s2.heap.get? l = some (seqObj "list" out c) →
      out.toList = L2.map (fun p => Value.ref p.1) → L2.Perm L → L2.Pairwise (fun p r => rk2 (pr2Of s.heap (.ref p.1)) ≤ rk2 (pr2Of s.heap (.ref r.1))) → Q (.ref l) s2) : wpAny (model P w) A (call (.builtin "sorted") [.ref a]) Q E s := by
  have ⟨ob, og, ox, od⟩ := R.place
  have ln := els_len R.els
  have fw := R.fw
  refine Calls.call_function_entry kind_sorted plain_sorted entry_sorted (args_sorted1 _) ?_
  unfold Builtin.«sorted»
  refine wpAny_bind (m := checkCount "sorted" 1 1 _) (wpAny_pure ?_)
  refine wpAny_bind (collect_set (A := A.in1) calm ⟨ob, og, ox.1, od⟩ R.fit (by unfold scanBound; omega) R.tb.ris R.ld fun s1 vs keep1 size1 gen1 os1 pm => ?_)
  rw [R.els, List.map_map] at pm
  have pm : vs.Perm (L.map fun p => Value.ref p.1) := pm
  obtain ⟨L1, pm1, rfl⟩ := perm_back pm rfl
  have few : (L1.map fun p => Value.ref p.1).length < 64 := by rw [List.length_map, pm1.length_eq]; exact fw
  generalize hvs : (L1.map fun p => Value.ref p.1) = vs at few
  refine wpAny_bind (wpAny_newList ?_ (by rw [sizeLine_eq]; omega))
  have lg : (s1.heap.push (seqObj "list" vs.toArray 0)).get? s1.heap.objs.size = some (seqObj "list" vs.toArray 0) := Heap.get?_push_size _ rfl
  have prv : ∀ v ∈ vs, ∃ m, Pr2 s.heap v m := fun v hv => by
    rw [← hvs] at hv
    obtain ⟨p, hp, rfl⟩ := List.mem_map.mp hv
    exact prs p (pm1.mem_iff.mp hp)
  refine wpAny_bind (wpAny_holding (wpAny_call_entry slot_list_sort ⟨_, lg, rfl⟩ entry_list_sort (SK.plain_sort (s := { s1 with heap := s1.heap.push (seqObj "list" vs.toArray 0) }) (r := fun v => rk2 (pr2Of s.heap v)) lg few (fun two Q2 q2 => ?_) fun ps out o1 o2 o3 => ?_) (args_list_sort _)))
  · have mid : ∀ b o, s.heap.get? b = some o → (TS.midHeap (s1.heap.push (seqObj "list" vs.toArray 0)) s1.heap.objs.size vs).get? b = some o := fun b o e =>
      TS.midHeap_old (Nat.ne_of_lt (Heap.lt_size (keep1 b o e))) (Heap.get?_push_of_some _ (keep1 b o e))
    refine pr2_cmp (s := { s1 with heap := TS.midHeap (s1.heap.push (seqObj "list" vs.toArray 0)) s1.heap.objs.size vs }) (fun v hv => ?_) two (fun v => rk2 (pr2Of s.heap v)) (fun v hv p xp => ?_) Q2 q2
    · obtain ⟨m, x⟩ := prv v hv
      exact ⟨m, x.stay fun b o e _ => mid b o e⟩
    · obtain ⟨m, x⟩ := prv v hv
      show rk2 (pr2Of s.heap v) = _
      rw [x.of, ← xp.of, (x.stay fun b o e _ => mid b o e : Pr2 (TS.midHeap _ _ _) v m).of]
  · obtain ⟨pv, sv⟩ := TS.out_rank (r := fun v => rk2 (pr2Of s.heap v)) o1 o2 o3
    rw [← hvs] at pv
    obtain ⟨L2, pm2, e2⟩ := perm_back pv rfl
    refine ⟨_, rfl, ?_⟩
    obtain ⟨c, hc⟩ := sortedHeap_at (vs := vs) (out := out) lg
    rw [e2] at sv
    refine wpAny_pure ⟨_, rfl, q _ s1.heap.objs.size out c L2 (fun b o e => ?_) gen1 os1 size1 hc e2 (pm2.trans pm1) (by rw [List.pairwise_map] at sv; exact sv)⟩
    have e1 := keep1 b o e
    have lt1 := Heap.lt_size e1
    show (sortedHeap (s1.heap.push (seqObj "list" vs.toArray 0)) s1.heap.objs.size vs out).get? b = some o
    rw [sortedHeap_old (Nat.ne_of_lt lt1) (by rw [size_push']; exact Nat.lt_succ_of_lt lt1)]
    exact Heap.get?_push_of_some _ e1
end
def KS0 (w : World) (h : Heap) (a : Addr) (L : List (Addr × List Int)) : Prop := ∃ es ep t, (∃ o, h.get? a = some o ∧ o.ExactSet ∧ o.data = .set es ep t) ∧ es.toList = (L.map fun p => (kh w p.2, Value.ref p.1)) ∧ TabOk t (L.map fun p => kh w p.2) ∧ (L.map (·.2)).Nodup ∧ t.plain = true ∧
  (w.params.followText "set-order" = true ∨ t.led = true) ∧ L.length * 5 < t.mask * 3 ∧ L.length < 64
def SetKO (w : World) (a : Addr) (L : List (Addr × List Int)) : HO := .ext fun h => KS0 w h a L
theorem KSet.bare {w : World} {h : Heap} {a : Addr} {L : List (Addr × List Int)} {es : Array (Int × Value)} {ep : Nat} {t : SetTable} (R : KSet w h a L es ep t) : KS0 w h a L := ⟨es, ep, t, R.place, R.els, R.tb, R.once, R.pl, R.ld, R.rm, R.fw⟩
theorem KS0.full {w : World} {h : Heap} {a : Addr} {L : List (Addr × List Int)} (R : KS0 w h a L) (k : ∀ p ∈ L, TKey h p.2 p.1) : ∃ es ep t, KSet w h a L es ep t := by
  obtain ⟨es, ep, t, r1, r2, r3, r4, r5, r6, r7, r8⟩ := R
  exact ⟨es, ep, t, ⟨r1, r2, r3, r4, k, r5, r6, r7, r8⟩⟩
theorem setKO_ok {P : Program} {w : World} {H : Hp} {h : Heap} {a : Addr} {L : List (Addr × List Int)} (R : KS0 w h a L) : ObjOk P w H h a (SetKO w a L) := by
  have ⟨es, ep, t, ⟨o, g, r⟩, _⟩ := R
  refine ⟨R, ⟨o, g⟩, fun h1 h2 z e => ?_⟩
  obtain ⟨es, ep, t, ⟨o, g, r⟩, rest⟩ := z
  exact ⟨es, ep, t, ⟨o, e o g, r⟩, rest⟩
/-- the pair's tuple, as the abstract heap has it -/
abbrev HPr (K : PySem.W.Frag) (H : Hp) (b : Addr) (q : Int × Bool) : Prop := SqT K H b [.int q.1, .bl q.2]
theorem HPr.raw {X : Cx} {pins : List (Addr × Obj)} {σ : L2.St} {H : Hp} {s : Shared} {b : Addr} {q : Int × Bool} (I : Inv X pins σ H s) (x : HPr X.K H b q) : Pr2 s.heap (.ref b) q := by
  obtain ⟨its, r, ⟨o, g, c, n, d⟩, _⟩ := I.tuple x
  cases r with
  | cons h1 r =>
    cases r with
    | cons h2 r =>
      cases r
      obtain ⟨t, rfl⟩ := h1
      cases h2
      exact ⟨b, o, n, t, rfl, g, c, d⟩
def tbPutT (K : PySem.W.Frag) (w : World) (te : TE) (D : Addr) : TB := fun σ H N => te σ H fun y H1 => ∃ (b : Addr) (q : Int × Bool) (L : List (Addr × List Int)), y = .ref b ∧ HPr K H1 b q ∧ H1 D = some (SetKO w D L) ∧ (∀ p ∈ L, ∃ r, p.2 = kk2 r ∧ HPr K H1 p.1 r) ∧ L.length + 1 < 64 ∧
  ∀ L2 : List (Addr × List Int), (kk2 q ∈ L.map (·.2) → L2 = L) → (kk2 q ∉ L.map (·.2) → L2.Perm ((b, kk2 q) :: L)) → N (upd H1 D (SetKO w D L2))
def rSortedP2 (K : PySem.W.Frag) (w : World) : List V → Hp → VK → Prop := fun vs H Q => ∃ (a : Addr) (L : List (Addr × List Int)), vs = [V.ref a] ∧ H a = some (SetKO w a L) ∧ (∀ p ∈ L, ∃ r, p.2 = kk2 r ∧ HPr K H p.1 r) ∧
  ∀ (L2 : List (Addr × (Int × Bool))) (l : Addr), (L2.map fun p => (p.1, kk2 p.2)).Perm L → (L2.map (·.2)).Pairwise (fun p r => rk2 p < rk2 r) → (∀ p ∈ L2, HPr K H p.1 p.2) → L2.length < 64 → H l = none → Q (.ref l) (upd H l (.lst (L2.map fun p => V.ref p.1)))
theorem rk2_inj {p q : Int × Bool} (h : rk2 p = rk2 q) : p = q := by
  obtain ⟨m, b⟩ := p
  obtain ⟨n, c⟩ := q
  unfold rk2 at h
  cases b <;> cases c <;> simp at h
  all_goals first
    | (exfalso; omega)
    | (have e : m = n := by omega
       rw [e])
section
variable {X : Cx}
theorem pb_putT {elt : Expr} {te : TE} {D : Addr} {p : Pos} (hx : X.xe = noE) (hu : X.A.units + 64 < cLine) (he : PE X elt te) :
    PB X (do let v ← eval elt X.env; standAt p; let _ ← call (.builtin "set.add") [.ref D, v]) [] (tbPutT X.K X.w te D) := by
  refine ⟨fun pins s σ H N I h => ?_⟩
  have run := he.run pins s σ H _ I h
  rw [hx] at run
  refine wpAny_bind (thnF run fun v s1 ⟨y, H1, I1, r1, b, q, L, ey, pq, hD, pL, few, nx⟩ => ?_)
  subst ey
  cases r1
  have raw : KS0 X.w s1.heap D L := (I1.hok D _ hD).1
  obtain ⟨es, ep, t, R⟩ := raw.full fun r hr => by
    obtain ⟨m, e, x⟩ := pL r hr
    rw [e]
    exact (x.raw I1).key
  refine wpAny_bind (wpAny_standAt (wpAny_bind (ks_put R (pq.raw I1).key (by omega) few fun h2 tk L2 es2 ep2 t2 sb R2 c1 c2 => ?_)))
  have there : ∃ u, h2.get? D = some u := let ⟨o, g, _⟩ := R2.place; ⟨o, g⟩
  exact wpAny_pure ⟨_, _, I1.write (e := D) (t' := tk) (by rw [hD]; trivial) (.inl rfl) (fun c u hc e => (sb.2 c hc).trans e) there (setKO_ok R2.bare), rfl, nx L2 c1 c2⟩
theorem cr_sortedP2 (hc : X.calm = true) : CallR X (.builtin "sorted") (rSortedP2 X.K X.w) := by
  intro pins s σ H vs us Q I r h
  obtain ⟨a, L, rfl, ha, pL, q⟩ := h
  have raw : KS0 X.w s.heap a L := (I.hok a _ ha).1
  obtain ⟨es, ep, t, R⟩ := raw.full fun r hr => by
    obtain ⟨m, e, x⟩ := pL r hr
    rw [e]
    exact (x.raw I).key
  rw [Vals.ref1 r]
  refine ks_sorted R (I.ok.hd hc) (fun p hp => ?_) fun s2 l out c L2 keep gens os big at2 out2 pm pw => ?_
  · obtain ⟨m, _, x⟩ := pL p hp
    exact ⟨m, x.raw I⟩
  have few : L2.length < 64 := by rw [pm.length_eq]; exact R.fw
  have ln : (L2.map fun p => V.ref p.1).length ≤ sizeLine := by rw [List.length_map, sizeLine_eq]; omega
  have fresh : H l = none := I.hok.fresh big
  have vals : Vals (L2.map fun p => V.ref p.1) out.toList := by rw [out2]; exact vals_of_refs L2
  have J : Inv X pins σ (upd H l (.lst (L2.map fun p => V.ref p.1))) { s with heap := s2.heap, gens := s2.gens, drawn := s2.drawn, toks := s2.toks } :=
    I.call (ch := []) (Un.laid keep big fresh) (I.hok.laid keep big ⟨ln, out.toList, c, vals, at2⟩) (by rw [gens]; exact I.bare) (fun _ z => nomatch z)
  have e : s2 = { s with heap := s2.heap, gens := s2.gens, drawn := s2.drawn, toks := s2.toks } := by
    cases s2
    cases s
    cases os
    rfl
  rw [e]
  refine ⟨.ref l, _, J, rfl, ?_⟩
  have of : ∀ p ∈ L2, p.2 = kk2 (pr2Of s.heap (.ref p.1)) ∧ HPr X.K H p.1 (pr2Of s.heap (.ref p.1)) := fun p hp => by
    obtain ⟨m, e1, x⟩ := pL p (pm.mem_iff.mp hp)
    rw [(x.raw I).of]
    exact ⟨e1, x⟩
  have back : (L2.map fun p => (p.1, pr2Of s.heap (.ref p.1))).map (fun p => (p.1, kk2 p.2)) = L2 := by
    rw [List.map_map]
    conv => rhs; rw [← List.map_id L2]
    exact List.map_congr_left fun p hp => by
      show (p.1, kk2 (pr2Of s.heap (.ref p.1))) = p
      rw [← (of p hp).1]
  have refs : (L2.map fun p => (p.1, pr2Of s.heap (.ref p.1))).map (fun p => V.ref p.1) = L2.map fun p => V.ref p.1 := by rw [List.map_map]; rfl
  have z := q (L2.map fun p => (p.1, pr2Of s.heap (.ref p.1))) l (by rw [back]; exact pm) ?_ (fun p hp => ?_) (by rw [List.length_map]; exact few) fresh
  · rw [refs] at z
    exact z
  · rw [List.map_map, List.pairwise_map]
    have nd : (L2.map (·.2)).Nodup := (pm.map (·.2)).nodup_iff.mpr R.once
    have nd : L2.Pairwise fun p r => p.2 ≠ r.2 := List.pairwise_map.mp nd
    refine (List.Pairwise.and pw nd).imp_of_mem fun {p r} hp hr h => ?_
    show rk2 (pr2Of s.heap (.ref p.1)) < rk2 (pr2Of s.heap (.ref r.1))
    refine Int.lt_iff_le_and_ne.mpr ⟨h.1, fun eq => h.2 ?_⟩
    rw [(of p hp).1, (of r hr).1, rk2_inj eq]
  · obtain ⟨r, hr, rfl⟩ := List.mem_map.mp hp
    exact (of r hr).2
variable {elt tg iter : Expr} {ifs : List Expr} {scope : Scope} {own : List (PySem.Str × Nat)} {pos : Pos} {wi : TI} {g : TG} {tt : TT} {te : TE}
theorem setT_obj {w : World} {P : Program} (H : Hp) (h : Heap) (_ : sysModules < h.objs.size) : ObjOk P w H (h.push { cls := .type "set", dict := none, data := .set #[] 0 (.fresh 0 0 (!w.params.followText "set-order")) }) h.objs.size (SetKO w h.objs.size []) := setKO_ok (ks_new P (Heap.get?_push_size _ rfl)).bare
/-- {elt for ..} of pairs -/
theorem pe_scT (hc : X.calm = true) (hu : X.A.units + 64 < cLine) (hN : X.N.Nodup) (hi : PI X tg iter wi) (ok : BlkOk X.N X.env.scope scope own)
    (hg : InBlk X scope fun Y => PG Y tg g) (ht : InBlk X scope fun Y => PTs Y ifs tt) (he : InBlk X scope fun Y => PE Y elt te) (hs : ∀ x, foldedSetIterable iter X.env x = pure x := by intro _; rfl) :
    PE X (.SetComp elt [⟨tg, iter, ifs, 0⟩] scope pos) (tComp wi g tt (tbPutT X.K X.w te) (own.map (·.2)) (fun D => SetKO X.w D [])) := by
  refine ⟨fun pins s σ H Q I h => ?_⟩
  show wpAny _ _ (comprehension _ scope X.env (firstIterPos [⟨tg, iter, ifs, 0⟩] pos) (newSet (.type "set")) false (eval iter X.env)) _ _ s
  refine comp_core (p := iter.pos) (body := fun D env => do let v ← eval elt env; standAt elt.pos; let _ ← call (.builtin "set.add") [.ref D, v]) (us := []) plain_set rfl (fun _ _ _ => rfl) (fun _ _ _ q => PpSet.newSet_ok q) setT_obj hc hN I hi ok hg ht
    (fun s H C cl fp D => pb_putT (X := X.blk s H scope (compEnvC scope cl C X.env) fp) rfl hu (he s H C cl fp)) (fun _ z => nomatch z) hs h
    fun D C s2 m H2 I2 q hn f => ⟨m, hn, fun h2 sb => ?_⟩
  obtain ⟨f0, f1, f2, f3, f4, f5⟩ := f
  exact ⟨.ref D, H2, I2.turned (t' := s2.toks) (fun b o hb eo => (sb.2 b hb).trans eo) f0 f1 f3 f4 f5, rfl, q⟩
theorem pscT' {K : PySem.W.Frag} {w : World} (h0 : X.K = K) (hw : X.w = w) (hc : X.calm = true) (hu : X.A.units + 64 < cLine) (hN : X.N.Nodup) (hi : PI X tg iter wi) (ok : BlkOk X.N X.env.scope scope own)
    (hg : InBlk X scope fun Y => PG Y tg g) (ht : InBlk X scope fun Y => PTs Y ifs tt) (he : InBlk X scope fun Y => PE Y elt te) (hs : ∀ x, foldedSetIterable iter X.env x = pure x := by intro _; rfl) :
    PE X (.SetComp elt [⟨tg, iter, ifs, 0⟩] scope pos) (tComp wi g tt (tbPutT K w te) (own.map (·.2)) (fun D => SetKO w D [])) := by subst h0; subst hw; exact pe_scT hc hu hN hi ok hg ht he hs
theorem srtP2' {K : PySem.W.Frag} {w : World} (h0 : X.K = K) (hw : X.w = w) (hc : X.calm = true) : CallR X (.builtin "sorted") (rSortedP2 K w) := by subst h0; subst hw; exact cr_sortedP2 hc
end
end DL
namespace DL
open PySem PySem.Spec PyProof.Rows L2 Evl
def prIB (q : Int × Bool) : PyData := .tuple [.int q.1, .bool q.2]
def PrAcc (w : World) (K : PySem.W.Frag) (B : Hp) (D : Addr) (o : HO) (acc : List PyData) : Prop := ∃ (L : List (Addr × List Int)) (qs : List (Int × Bool)), o = SetKO w D L ∧ acc = qs.map prIB ∧
  (∀ p ∈ L, ∃ q ∈ qs, p.2 = kk2 q ∧ B p.1 = some (.tup [.int q.1, .bl q.2])) ∧ (∀ q ∈ qs, kk2 q ∈ L.map (·.2)) ∧ (L.map (·.2)).Nodup
theorem prAcc_mono (w : World) (K : PySem.W.Frag) (B B2 : Hp) (D : Addr) (o : HO) (acc : List PyData) (e : Ex B B2) (h : PrAcc w K B D o acc) : PrAcc w K B2 D o acc := by
  obtain ⟨L, qs, h1, h2, h3, h4, h5⟩ := h
  exact ⟨L, qs, h1, h2, fun p hp => let ⟨q, hq, e1, e2⟩ := h3 p hp; ⟨q, hq, e1, e _ _ e2⟩, h4, h5⟩
def accP (w : World) : AccK := .o (PrAcc w) (prAcc_mono w)
theorem dq_prIB {K : PySem.W.Frag} {B : Hp} {v : V} {q : Int × Bool} (h : Dq K B v (prIB q)) : ∃ b, v = .ref b ∧ B b = some (.tup [.int q.1, .bl q.2]) := by
  unfold prIB at h
  cases h with
  | @tup a xs _ hs ha =>
    cases ha with
    | cons d1 r =>
      cases d1
      cases r with
      | cons d2 r =>
        cases d2
        cases r
        exact ⟨a, rfl, hs⟩
theorem nodup_le : ∀ {l m : List (List Int)}, l.Nodup → (∀ x ∈ l, x ∈ m) → l.length ≤ m.length
  | [], _, _, _ => Nat.zero_le _
  | x :: l, m, hn, h => by
    have hx := h x List.mem_cons_self
    obtain ⟨n1, n2⟩ := List.nodup_cons.mp hn
    have ih := nodup_le (l := l) (m := m.erase x) n2 fun y hy => (List.mem_erase_of_ne (fun e => n1 (by rw [← e]; exact hy))).mpr (h y (List.mem_cons_of_mem _ hy))
    rw [List.length_erase_of_mem hx] at ih
    have := List.length_pos_of_mem hx
    rw [List.length_cons]
    omega
section
variable {F : Fr} {G : List Sl} {w : World} {D : Addr} {g : TG} {tt : TT} {vs : List Nat}
theorem bk_putT {te : TE} {acc : List PyData} {κ : List PyData → List Sl → Prop} (h : ∀ B o, Ex F.B0 B → EK (F.wo B D o) G te fun y G4 => ∃ q : Int × Bool, y = prIB q ∧ (∃ U : List (Int × Bool), U.length < 63 ∧ ∀ r, prIB r ∈ acc → r ∈ U) ∧ κ (acc ++ [y]) G4) : BK F w (accP w) D (tbPutT F.K w te) acc G κ := fun σ H o S hD ha N nx => by
  have hz : ¬ F.Z D := S.noz del_same
  obtain ⟨L, qs, rfl, rfl, pL, all, ln⟩ := ha
  refine h (low F G (del D H)) _ S.ext σ H (S.toWo (Ex.refl _) hD) _ fun v H2 y G4 ⟨q, ey, ⟨U, hU, sub⟩, k4⟩ S4 e4 d4 => ?_
  subst ey
  obtain ⟨S4f, h4⟩ := S4.ofWo S.ext hz
  rw [low_wo] at d4
  rw [low_wo, low_wo] at e4
  have hl : L.length < 63 := by
    have z := nodup_le (m := U.map kk2) ln fun x hx => by
      obtain ⟨p, hp, rfl⟩ := List.mem_map.mp hx
      obtain ⟨r, hr, e, _⟩ := pL p hp
      exact List.mem_map.mpr ⟨r, sub r (List.mem_map.mpr ⟨r, hr, rfl⟩), e.symm⟩
    rw [List.length_map, List.length_map] at z
    omega
  obtain ⟨b, rfl, hb⟩ := dq_prIB d4
  have up : ∀ {c : Addr} {z : HO}, low F G4 (del D H2) c = some z → H2 c = some z := fun e => del_ex _ _ (low_ex _ _ e)
  refine ⟨b, q, L, rfl, .inl (.inl (up hb)), h4, fun p hp => ?_, by omega, fun L2 c1 c2 => nx _ _ ((qs ++ [q]).map prIB) G4 (by rw [List.map_append]; exact k4) ?_ ?_ upd_same ⟨L2, qs ++ [q], rfl, rfl, fun p hp => ?_, fun r hr => ?_, ?_⟩⟩
  · obtain ⟨r, _, e1, e2⟩ := pL p hp
    exact ⟨r, e1, .inl (.inl (up (e4 _ _ e2)))⟩
  · rw [del_upd]; exact S4f
  · rw [del_upd]; exact e4
  all_goals
    by_cases m : kk2 q ∈ L.map (·.2)
  · rw [c1 m] at hp
    obtain ⟨r, hr, e1, e2⟩ := pL p hp
    exact ⟨r, List.mem_append_left _ hr, e1, by rw [del_upd]; exact e4 _ _ e2⟩
  · rcases List.mem_cons.mp ((c2 m).mem_iff.mp hp) with rfl | hp
    · exact ⟨q, List.mem_append_right _ List.mem_cons_self, rfl, by rw [del_upd]; exact hb⟩
    · obtain ⟨r, hr, e1, e2⟩ := pL p hp
      exact ⟨r, List.mem_append_left _ hr, e1, by rw [del_upd]; exact e4 _ _ e2⟩
  · rw [c1 m]
    rcases List.mem_append.mp hr with hr | hr
    · exact all r hr
    · rw [List.mem_singleton.mp hr]; exact m
  · rw [((c2 m).map (·.2)).mem_iff, List.map_cons]
    rcases List.mem_append.mp hr with hr | hr
    · exact List.mem_cons_of_mem _ (all r hr)
    · rw [List.mem_singleton.mp hr]; exact List.mem_cons_self
  · rw [c1 m]; exact ln
  · exact ((c2 m).map (·.2)).nodup_iff.mpr (List.nodup_cons.mpr ⟨m, ln⟩)
def EZT (F : Fr) (w : World) (G : List Sl) (te : TE) (κ : List (Int × Bool) → List Sl → Prop) : Prop := ∀ σ H, Sat F G σ H → ∀ Q : VK,
  (∀ p o H2 qs G2, κ qs G2 → Sat F G2 σ (del p H2) → Ex (low F G H) (low F G2 (del p H2)) → H2 p = some o → PrAcc w F.K (low F G2 (del p H2)) p o (qs.map prIB) → Q (.ref p) H2) → te σ H Q
theorem prIB_inj {p q : Int × Bool} (h : prIB p = prIB q) : p = q := by
  obtain ⟨m, b⟩ := p
  obtain ⟨n, c⟩ := q
  unfold prIB at h
  injection h with h
  injection h with h1 h2
  injection h2 with h2
  injection h1 with h1
  injection h2 with h2
  exact Prod.ext h1 h2
theorem ez_compT {wi : TI} {tb : Addr → TB} {α : List (Int × Bool) → List Sl → Prop} (h : WI F G wi fun xs G1 => ∃ I : Nat → List PyData → List Sl → Prop, GW g vs ∧ I 0 [] (wipeG G1 vs) ∧
      (∀ D i x acc G', xs[i]? = some x → I i acc G' → TurnB F w (accP w) D vs g tt tb I i x acc G') ∧ (∀ (qs : List (Int × Bool)) G', I xs.length (qs.map prIB) G' → α qs G')) : EZT F w G (tComp wi g tt tb vs (fun D => SetKO w D [])) α := fun σ H S Q q =>
  h σ H S _ fun J H1 xs G1 ⟨I, gw, h0, ht, hd⟩ S1 e1 sr => fun D hDn => by
    have hz : ¬ F.Z D := S1.noz hDn
    have ee : Ex H1 (del D (upd H1 D (SetKO w D []))) := ex_del (upd_ex hDn) hDn
    have S2 : Sat F G1 σ (del D (upd H1 D (SetKO w D []))) := S1.ex ee
    refine loop_dl (w := w) (k := accP w) (I := I) sr hz S1.ext gw ⟨[], _, _, h0, S2.unwipe rfl, (low_mono ee).trans (low_sub fun b => wipeG_ads G1 vs b), upd_same, [], [], rfl, rfl, (fun p hp => nomatch hp), (fun p hp => nomatch hp), List.nodup_nil⟩ (ht D) fun H2 acc o G' hI S3 e3 h3 a3 => ?_
    have a3 : PrAcc w F.K (low F G' (del D H2)) D o acc := a3
    obtain ⟨L, qs, e, rfl, r⟩ := a3
    exact q D o H2 qs G' (hd qs G' hI) S3 (e1.trans e3) h3 ⟨L, qs, e, rfl, r⟩
theorem eo_sortP2 {te : TE} {α : Kps} (h : EZT F w G te fun qs G1 => ∀ zs : List (Int × Bool), zs.Pairwise (fun p r => rk2 p < rk2 r) → (∀ q, q ∈ zs ↔ q ∈ qs) → zs.length < 64 → α (zs.map prIB) G1) : EO F G (tCB (rSortedP2 F.K w) (tCons te tNil)) α := fun σ H S Q nx =>
  h σ H S _ fun p o H1 qs G1 k S1 e1 h1 pa => by
    obtain ⟨L, rs, rfl, ers, pL, all, ln⟩ := pa
    obtain rfl : qs = rs := List.map_inj_right (fun _ _ => prIB_inj) |>.mp ers
    have up : ∀ {c : Addr} {z : HO}, low F G1 (del p H1) c = some z → H1 c = some z := fun e => del_ex _ _ (low_ex _ _ e)
    refine ⟨p, L, rfl, h1, fun r hr => ?_, fun L2 a pm pw _ lz hf => ?_⟩
    · obtain ⟨q, _, e2, e3⟩ := pL r hr
      exact ⟨q, e2, .inl (.inl (up e3))⟩
    have ed : del a (upd H1 a (.lst (L2.map fun p => V.ref p.1))) = H1 := by
      rw [del_upd]
      funext b
      by_cases hb : b = a
      · subst hb; rw [del_same, hf]
      · rw [del_ne hb]
    have S2 : Sat F G1 σ H1 := S1.ex del_ex
    have of : ∀ r ∈ L2, r.2 ∈ qs ∧ low F G1 (del p H1) r.1 = some (.tup [.int r.2.1, .bl r.2.2]) := fun r hr => by
      have m : (r.1, kk2 r.2) ∈ L := pm.mem_iff.mp (List.mem_map.mpr ⟨r, hr, rfl⟩)
      obtain ⟨q, hq, e2, e3⟩ := pL _ m
      have e2 : r.2 = q := kk2_inj e2
      rw [e2]
      exact ⟨hq, e3⟩
    have dq : ∀ l : List (Addr × (Int × Bool)), (∀ r ∈ l, low F G1 (del p H1) r.1 = some (.tup [.int r.2.1, .bl r.2.2])) → DqAll F.K (low F G1 H1) (l.map fun p => V.ref p.1) ((l.map (·.2)).map prIB) := by
      intro l
      induction l with
      | nil => intro _; exact .nil
      | cons r l ih =>
        intro hl
        rw [List.map_cons, List.map_cons, List.map_cons]
        exact .cons (.tup (low_mono del_ex _ _ (hl r List.mem_cons_self)) (.cons (.int _) (.cons (.bl _) .nil))) (ih fun u hu => hl u (List.mem_cons_of_mem _ hu))
    refine nx a _ _ ((L2.map (·.2)).map prIB) G1 (k _ pw (fun q => ⟨fun hq => ?_, fun hq => ?_⟩) (by rw [List.length_map]; exact lz)) (by rw [ed]; exact S2) (by rw [ed]; exact e1.trans (low_mono del_ex)) upd_same (by rw [ed]; exact dq L2 fun r hr => (of r hr).2)
    · obtain ⟨r, hr, rfl⟩ := List.mem_map.mp hq
      exact (of r hr).1
    · obtain ⟨r, hr, e2⟩ := List.mem_map.mp (all q hq)
      obtain ⟨u, hu, rfl⟩ := List.mem_map.mp (pm.mem_iff.mpr hr)
      exact List.mem_map.mpr ⟨u, hu, kk2_inj e2⟩
end
end DL
namespace DL
open PySem PySem.Spec PyProof.Rows L2 Evl
def InPart (w : World) (h : Heap) (S : Addr) (ns : List Int) (i : Nat) : Prop := ∃ c, SetR w h S (fun j => decide (j ∈ ns.take i)) c ∧ c ≤ i
theorem InPart.keep {w : World} {h h' : Heap} {S : Addr} {ns : List Int} {i : Nat} (x : InPart w h S ns i) (e : ∀ o, h.get? S = some o → h'.get? S = some o) : InPart w h' S ns i := by
  obtain ⟨c, ⟨o, es, ep, t, ho, rest⟩, hc⟩ := x
  exact ⟨c, ⟨o, es, ep, t, e o ho, rest⟩, hc⟩
section
variable {prog : Program} {w : World} {A : Around} {R : Result → Shared → Prop} {I : Addr} {fp wr : List Addr} {Gn : Array GenState → Array GenState → Prop} {n : Nat} {P : Nat → Value → Prop} {St : Nat → Shared → Prop}
theorem loopIn (W : WalksS prog w A.in1 I fp wr Gn n P St) (S : Addr) (hSf : S ∉ fp) (ns : List Int) (hsz : ns.length = n) (hb : n + 1 < scanBound)
    (hval : ∀ i v, P i v → ∃ t, v = .int (ns.getD i 0) t) :
    ∀ (k i : Nat) (s : Shared), n - i = k → i ≤ n → St i s →
      InPart w s.heap S ns i →
      (∀ s', Moved (S :: wr) Gn s s' → InPart w s'.heap S ns n → R (.ok (.ret .none)) s') →
      codeAny (model prog w) A (.builtin "set.update.loop" ⟨[.ref S, .ref I], []⟩) R s := by
  have hSw : S ∉ wr := fun h => hSf (W.sub _ h)
  have hsub : ∀ b ∈ wr, b ∈ S :: wr := fun b hb => List.mem_cons_of_mem _ hb
  intro k
  induction k with
  | zero =>
    intro i s hk hi hst hS hR
    have hin : i = n := by omega
    subst hin
    refine codeAny_builtin PyProof.Rows.F.entry_set_update_loop ?_
    rw [Around.under_plainId PyProof.Rows.F.plain_set_update_loop _]
    refine wpAny_bind (W.done s _ _ hst fun s' hm => ?_)
    exact wpAny_pure (hR s' (hm.mono hsub) (hS.keep fun o ho => hm.heap S _ hSw ho))
  | succ k ih =>
    intro i s hk hi hst hS hR
    have hlt : i < n := by omega
    refine codeAny_builtin PyProof.Rows.F.entry_set_update_loop ?_
    rw [Around.under_plainId PyProof.Rows.F.plain_set_update_loop _]
    refine wpAny_bind (W.item i s _ _ hlt hst fun v s' hP hst' hm => ?_)
    obtain ⟨t, rfl⟩ := hval i v hP
    obtain ⟨c, hS', hc⟩ : InPart w s'.heap S ns i := hS.keep fun o ho => hm.heap S _ hSw ho
    have hg : ns[i]? = some (ns.getD i 0) := by
      rw [List.getD_eq_getElem?_getD, List.getElem?_eq_getElem (by omega)]; rfl
    have em : ns.take (i + 1) = ns.take i ++ [ns.getD i 0] := by rw [List.take_add_one, hg]; rfl
    generalize ns.getD i 0 = x at em
    refine wpAny_bind (wpAny_holding ?_)
    unfold setAdd
    refine wpAny_holding ?_
    refine wpAny_bind ((PySem.intKind prog w).pyHash (k := x) (intKind_is _ _ _ _) ?_)
    refine setR_add_hashed (s := { s' with toks := s'.toks + 1 }) hS' (by omega) fun h' hsb hS2 => ?_
    have hSi : InPart w h' S ns (i + 1) := by
      refine ⟨_, ?_, (show (if decide (x ∈ ns.take i) = true then c else c + 1) ≤ i + 1 by split <;> omega)⟩
      rw [em]
      have e : (fun j => decide (j ∈ ns.take i ++ [x])) = fun j => decide (j ∈ ns.take i) || decide (j = x) := by
        funext j
        rw [Bool.eq_iff_iff]
        simp
      rw [e]
      exact hS2
    refine wpAny_pure ⟨plainId_quiet PyProof.Rows.F.plain_set_update_loop _, ih (i + 1) _ (by omega) hlt (W.frame _ s' _ _ hst' (Nat.le_succ _) fun b hb o e => ?_) hSi fun s'' hm'' hS'' => ?_⟩
    · rw [hsb.2 b (fun h : b = S => hSf (by rw [← h]; exact hb))]; exact e
    · refine hR s'' (Moved.trans W.gtrans ((hm.mono hsub).then_heap (Nat.le_succ _) fun b o hb e => ?_) hm'') hS''
      rw [hsb.2 b (fun h : b = S => hb (by rw [h]; exact List.mem_cons_self))]; exact e
end
section
variable {prog : Program} {w : World} {A : Around} {E : Value → Shared → Prop} {s : Shared}
theorem set_ints {l : Addr} {items : Array Value} {xs : List Int} {Q : Value → Shared → Prop} (hh : A.handled = none) (hl : s.heap.IsList l items) (hi : IntsAre items.toList xs) (hb : xs.length + 1 < scanBound)
    (h : ∀ (h' : Heap) (tk : Nat), InPart w h' s.heap.objs.size xs xs.length → (∀ b o, b < s.heap.objs.size → s.heap.get? b = some o → h'.get? b = some o) → Q (.ref s.heap.objs.size) { s with heap := h', toks := tk }) :
    wpAny (model prog w) A (call (.type "set") [.ref l]) Q E s := by
  have hsz : xs.length = items.size := by rw [← IntsAre.length hi, Array.length_toList]
  have hval : ∀ (i : Nat) (v : Value), items[i]? = some v → ∃ t, v = .int (xs.getD i 0) t := fun i v hv => IntsAre.int_at hi i v (by rw [Array.getElem?_toList]; exact hv)
  have hlS : l < s.heap.objs.size := by obtain ⟨o, ho, _⟩ := hl; exact Heap.lt_size ho
  obtain ⟨c, tl, hmro⟩ := PySem.F.called_set.mro
  have q1 := PySem.F.called_set.made
  have q2 := PySem.F.called_set.sub
  have q3 := PySem.F.called_set.notType
  have q4 := PySem.F.called_set.canCreate
  have q5 := PySem.F.typeCall_set_1 (.ref l)
  refine wpAny_call (codeAny_of_tree ?_)
  refine wpAny_pure ⟨Code.quiet_builtin _ (by decide +kernel), codeAny_builtin PySem.F.entry_type_call ?_⟩
  rw [Around.under_plain (weight_type_call_type "set" [.ref l] []) rfl]
  repeat (any_goals (first | assumption | wp_step))
  refine codeAny_mono (code_set_led1 (.ref l) (E := E) (Q₁ := fun obj s₁ => ∃ led : Bool, led = (!w.params.followText "set-order") ∧ obj = .ref s.heap.objs.size ∧ s₁ = { s with heap := s.heap.push { cls := .type "set", dict := none, data := .set #[] 0 (.fresh 0 0 led) } }) ⟨_, rfl, rfl, rfl⟩) fun r s₁ hr => ?_
  match r, hr with
  | .error _, hr => exact hr
  | .ok (.ret obj), hr =>
    obtain ⟨led, hled, rfl, rfl⟩ := hr
    generalize hH : s.heap.push { cls := .type "set", dict := none, data := .set #[] 0 (.fresh 0 0 led) } = H1
    have hN : H1.get? s.heap.objs.size = some { cls := .type "set", dict := none, data := .set #[] 0 (.fresh 0 0 led) } := by rw [← hH]; exact Heap.get?_push_size _ rfl
    have hK : ∀ b o, s.heap.get? b = some o → H1.get? b = some o := fun b o e => by rw [← hH]; exact Heap.get?_push_of_some _ e
    have hZ : H1.objs.size = s.heap.objs.size + 1 := by rw [← hH]; exact Heap.size_push ..
    have hT : Shared.TypeIs { s with heap := H1 } (.ref s.heap.objs.size) "set" := ⟨_, hN, rfl⟩
    have q6 := PySem.F.called_set.init.lookup
    have q7 := PySem.F.called_set.init.bind (.ref s.heap.objs.size)
    repeat (any_goals (first | assumption | wp_step))
    refine codeAny_mono (codeAny_call_builtin (R := wants (fun r s₂ => r = .none ∧ ∃ h' tk, s₂ = { s with heap := h', toks := tk } ∧ InPart w h' s.heap.objs.size xs xs.length ∧ (∀ b o, b < s.heap.objs.size → s.heap.get? b = some o → h'.get? b = some o)) E) PySem.F.called_set.init.plain PySem.F.entry_set_init (check_set_init_1 hT ?_)) fun r₂ s₂ hr₂ => ?_
    · obtain ⟨⟨ocls, odict, odata, oslots⟩, hol, hcl, nl, hdl⟩ := hl
      simp only at hcl hdl
      subst hcl hdl
      have hol' := hK l _ hol
      have hl1 : H1.IsList l items := ⟨_, hol', rfl, nl, rfl⟩
      have z1 := PySem.F.sub_list_set
      have z2 := PySem.F.sub_list_frozenset
      have z3 : (Value.type "list" == Value.type "dict") = false := by decide
      unfold Builtin.«set.__init__» noKeywords Builtin.Frozenset.updateFrom
      generalize hPI : pyIter = PI
      wp_walk
      subst hPI
      refine wpAny_pyIter_list hl1 ?_
      refine wpAny_bind (wpAny_runValue ?_)
      have hh3 : A.in1.in1.in1.handled = none := by simp [hh]
      have hneI : l ≠ H1.objs.size := Nat.ne_of_lt (by rw [hZ]; exact Nat.lt_succ_of_lt hlS)
      have hneS : s.heap.objs.size ≠ H1.objs.size := Nat.ne_of_lt (by rw [hZ]; exact Nat.lt_succ_self _)
      have hSf : s.heap.objs.size ∉ [H1.objs.size, l] := by
        simp only [List.mem_cons, List.not_mem_nil, or_false, not_or]
        exact ⟨hneS, Nat.ne_of_gt hlS⟩
      refine loopIn ((Walks.list hh3 _ l hneI items).toS) s.heap.objs.size hSf xs hsz (by rw [← hsz]; exact hb) hval (items.size - 0) 0 _ (by omega) (Nat.zero_le _) ⟨⟨_, Heap.get?_push_size _ rfl, rfl, rfl⟩, (hl1.push _)⟩ ?_ fun s' hm hS' => ?_
      · rw [hled] at hH
        have e : (fun j : Int => decide (j ∈ ([] : List Int))) = fun _ => false := by funext j; simp
        have z : InPart w H1 s.heap.objs.size xs 0 := ⟨0, by rw [List.take_zero, e, ← hH]; exact setR_fresh w, Nat.le_refl _⟩
        exact z.keep fun o e => Heap.get?_push_of_some _ e
      · obtain ⟨h', g', d', tk', os'⟩ := s'
        obtain rfl : g' = s.gens := hm.gens
        obtain rfl : d' = s.drawn := hm.drawn
        obtain rfl : os' = s.os := hm.os
        refine wpAny_pure ?_
        refine wpAny_pure ⟨rfl, h', tk', rfl, by rw [hsz]; exact hS', fun b o hb e => ?_⟩
        exact hm.heap b o (by simp only [List.mem_cons, List.not_mem_nil, or_false, not_or]; exact ⟨Nat.ne_of_lt hb, Nat.ne_of_lt (by rw [hZ]; exact Nat.lt_succ_of_lt hb)⟩) (Heap.get?_push_of_some _ (hK b o e))
    · match r₂, hr₂ with
      | .error _, hr₂ => exact hr₂
      | .ok (.ret r), hr₂ =>
        obtain ⟨rfl, h', tk, rfl, hS', hk'⟩ := hr₂
        repeat (any_goals (first | assumption | wp_step))
        exact h _ _ hS' hk'
      | .ok .next, hr₂ => exact hr₂.elim
      | .ok .brk, hr₂ => exact hr₂.elim
      | .ok .cont, hr₂ => exact hr₂.elim
  | .ok .next, hr => exact hr.elim
  | .ok .brk, hr => exact hr.elim
  | .ok .cont, hr => exact hr.elim
end
section
variable {X : Cx}
def rSetI (K : PySem.W.Frag) (w : World) : List V → Hp → VK → Prop := fun vs H Q => ∃ (l : Addr) (ns : List Int), vs = [V.ref l] ∧ SqL K H l (ns.map V.int) ∧ ns.length ≤ 4000 ∧ ∀ a c, H a = none → c ≤ ns.length → Q (.ref a) (upd H a (SetO w a (fun j => decide (j ∈ ns)) c))
theorem cr_setI (hc : X.calm = true) : CallR X (.type "set") (rSetI X.K X.w) := by
  intro pins s σ H vs us Q I r h
  obtain ⟨l, ns, rfl, hl, hn, q⟩ := h
  rw [Vals.ref1 r]
  obtain ⟨its, rv, pl, _⟩ := I.list hl
  refine set_ints (I.ok.hd hc) pl.isList (xs := ns) (by simpa using rv.ints) (Nat.lt_of_le_of_lt (Nat.succ_le_succ hn) (by decide)) fun h' tk z k => ?_
  obtain ⟨c, R, hc'⟩ := z
  rw [List.take_length] at R
  exact ⟨.ref s.heap.objs.size, upd H s.heap.objs.size (SetO X.w s.heap.objs.size (fun j => decide (j ∈ ns)) c), I.laid (t' := tk) (fun b o e => k b o (Heap.lt_size e) e) (Nat.le_refl _) (setO_new R), rfl, q _ c (I.hok.fresh (Nat.le_refl _)) hc'⟩
theorem setI' {K : PySem.W.Frag} {w : World} (h0 : X.K = K) (hw : X.w = w) (hc : X.calm = true) : CallR X (.type "set") (rSetI K w) := by subst h0; subst hw; exact cr_setI hc
end
section
variable {F : Fr} {G : List Sl} {w : World}
/-- set(xs) as a set of whole numbers -/
theorem ez_set {te : TE} {α : List Int → List Sl → Prop} (h : EK F G te fun x G1 => ∃ ns : List Int, x = .list (ns.map .int) ∧ ns.length ≤ 4000 ∧ α ns G1) : EZ F w G (tCB (rSetI F.K w) (tCons te tNil)) α := fun σ H S Q q =>
  h σ H S _ fun v H1 x G1 ⟨ns, ex, hl, k⟩ S1 e1 d1 => by
    subst ex
    cases d1 with
    | @lst p ws _ hp ha =>
      have ew : ws = ns.map V.int := dps_ints_inv ha
      subst ew
      refine ⟨p, ns, rfl, .inl (.inl (low_ex _ _ hp)), hl, fun a c hf hc => ?_⟩
      have ed : del a (upd H1 a (SetO w a (fun j => decide (j ∈ ns)) c)) = H1 := by
        rw [del_upd]
        funext b
        by_cases hb : b = a
        · subst hb; rw [del_same, hf]
        · rw [del_ne hb]
      exact q a _ c _ ns G1 k (by rw [ed]; exact S1) (by rw [ed]; exact e1) upd_same (fun j => rfl) hc
end
section
variable {F : Fr} {G : List Sl} {κ : Kp}
/-- isinstance(xs, T), xs a slot's own list -/
theorem ek_isiO {i : Nat} {n : String} (h : ∃ p ds, G[i]? = some (.own p ds) ∧ ∃ b, kitB (tyD (.list ds)) n = some b ∧ κ (.bool b) G) : EK F G (tCB (rIsi F.K) (tCons (tVar i) (tCons (tC (.ty n)) tNil))) κ := fun σ H S Q q => by
  obtain ⟨p, ds, hi, b, hb, k⟩ := h
  obtain ⟨e, vs, hp, hd⟩ := S.ownd hi
  exact ⟨.ref p, e, .ref p, .ty n, _, _, b, rfl, .ty n, tyx_of (Dq.lst hp (dps_mono low_ex hd)), L2.kit_ty hb, q _ H _ G k S (Ex.refl _) (.bl b)⟩
/-- repr(xs), xs a slot's own list -/
theorem ek_reprO {i : Nat} {n d : Nat} (hn : n ≤ 16000000) (hd : d ≤ 60) (h : ∃ p ds, G[i]? = some (.own p ds) ∧ Sh n d (.list ds) ∧ κ (.str (PyData.list ds).shown) G) : EK F G (tCB (rRepr F.K) (tCons (tVar i) tNil)) κ := fun σ H S Q q => by
  obtain ⟨p, ds, hi, sh, k⟩ := h
  obtain ⟨e, vs, hp, hds⟩ := S.ownd hi
  exact ⟨.ref p, e, .ref p, .list ds, rfl, Dq.lst hp (dps_mono low_ex hds), sh.sh, Nat.le_trans sh.dp hd, Nat.le_trans (Nat.le_trans sh.ln hn) (by decide), q _ H _ G k S (Ex.refl _) (.str _)⟩
end
end DL
namespace DL
open PySem PySem.Spec PyProof.Rows L2 Evl
def PPart (w : World) (h : Heap) (S : Addr) (ps : List (Addr × (Int × Bool))) (i : Nat) : Prop := ∃ L es ep t, KSet w h S L es ep t ∧ (∀ p ∈ L, ∃ r ∈ ps.take i, p = (r.1, kk2 r.2)) ∧ (∀ r ∈ ps.take i, kk2 r.2 ∈ L.map (·.2))
theorem PPart.keep {w : World} {h h' : Heap} {S : Addr} {ps : List (Addr × (Int × Bool))} {i : Nat} (x : PPart w h S ps i) (e : ∀ o, h.get? S = some o → h'.get? S = some o) (e2 : ∀ r ∈ ps, ∀ o, h.get? r.1 = some o → h'.get? r.1 = some o) : PPart w h' S ps i := by
  obtain ⟨L, es, ep, t, R, a, b⟩ := x
  obtain ⟨o, g, r⟩ := R.place
  refine ⟨L, es, ep, t, ⟨⟨o, e o g, r⟩, R.els, R.tb, R.once, fun p hp => ?_, R.pl, R.ld, R.rm, R.fw⟩, a, b⟩
  obtain ⟨r, hr, ep⟩ := a p hp
  refine (R.keys p hp).stay fun o g => ?_
  rw [ep] at g ⊢
  exact e2 r (List.mem_of_mem_take hr) o g
theorem PPart.len {w : World} {h : Heap} {S : Addr} {ps : List (Addr × (Int × Bool))} {i : Nat} {L : List (Addr × List Int)} {es : Array (Int × Value)} {ep : Nat} {t : SetTable} (R : KSet w h S L es ep t) (a : ∀ p ∈ L, ∃ r ∈ ps.take i, p = (r.1, kk2 r.2)) : L.length ≤ i := by
  have z := nodup_le (m := (ps.take i).map fun r => kk2 r.2) R.once fun x hx => by
    obtain ⟨p, hp, rfl⟩ := List.mem_map.mp hx
    obtain ⟨r, hr, e⟩ := a p hp
    rw [e]
    exact List.mem_map.mpr ⟨r, hr, rfl⟩
  rw [List.length_map, List.length_map] at z
  exact Nat.le_trans z (List.length_take_le _ _)
end DL
namespace DL
open PySem L2 Evl
def AbsS.as (o : AbsS) : List Addr := o.p :: o.rs
section
variable {F : Fr} {G G' : List Sl} {σ : L2.St} {H H' B' : Hp}
theorem Sat.absd (S : Sat F G σ H) {i : Nat} {o : AbsS} (h : G[i]? = some (.abs o)) : σ[i]? = some (some (.ref o.p)) ∧ o.ok F.K (low F G H) H (some (.ref o.p)) := by
  have k : o.ok F.K (low F G H) H (σ.getD i none) := S.ok i _ h
  have e := o.ref k
  rw [e] at k
  exact ⟨getD_some e, k⟩
theorem Sat.setAbs {o : AbsS} (S : Sat F G σ (delL o.as H)) {i : Nat} (hi : i < G.length) (nd : o.as.Nodup) (h : o.ok F.K (low F G (delL o.as H)) H (some (.ref o.p))) :
    Sat F (G.set i (.abs o)) (σ.set i (some (.ref o.p))) H := by
  have pn : ∀ b, b ∈ (Sl.abs o).ads → b ∉ ads G := fun b hb z => by obtain ⟨ws, e⟩ := S.at_ z; rw [delL_same (as := o.as) hb] at e; cases e
  have pz : ∀ b, b ∈ o.as → ¬ F.Z b := fun b hb => S.noz (delL_same hb)
  have e : Ex (low F G (delL o.as H)) (low F (G.set i (.abs o)) H) := fun b u q => by
    obtain ⟨q1, q2, q3⟩ := low_some q
    have hb : b ∉ o.as := fun z => by rw [delL_same z] at q1; cases q1
    rw [delL_ne hb] at q1
    rw [low_out q2 fun z => ?_]
    · exact q1
    · rcases ads_set_mem' G i z with y | y
      · exact hb y
      · exact q3 y
  refine ⟨S.ext.trans e, fun b u z q => delL_ex _ _ (S.zk b u z q), fun b hb => ?_, by rw [List.length_set, List.length_set]; exact S.len, ads_set_nd' (s := .abs o) nd G i S.nd pn, fun j s hj => ?_⟩
  · rcases ads_set_mem' G i hb with y | y
    · exact pz b y
    · exact S.zn b y
  rw [getD_set_eq (by rw [S.len]; exact hi)]
  rw [List.getElem?_set] at hj
  by_cases q : i = j
  · rw [if_pos q] at hj ⊢
    rw [if_pos hi] at hj
    cases hj
    exact slok_mono e (fun _ _ _ z => z) (show SlOk F.K (low F G (delL o.as H)) H (.abs o) (some (.ref o.p)) from h)
  · rw [if_neg q] at hj ⊢
    exact slok_mono e (fun b u _ z => delL_ex b u z) (S.ok j s hj)
theorem Sat.letGoA (S : Sat F G σ H) {i : Nat} {o : AbsS} (hi : G[i]? = some (.abs o)) : Sat F (G.set i .any) (σ.set i none) (delL o.as H) ∧ Ex (low F G H) (low F (G.set i .any) (delL o.as H)) := by
  have hs : ∀ b, b ∈ ads (G.set i .any) → b ∈ ads G := fun b hb => (ads_set_sub (s := .any) rfl G i).subset hb
  have hil : i < G.length := (List.getElem?_eq_some_iff.mp hi).1
  have hin : ∀ b, b ∈ o.as → b ∈ ads G := fun b hb => ads_mem' hi hb
  have e2 : Ex (low F G H) (low F (G.set i .any) (delL o.as H)) := fun b u q => by
    obtain ⟨q1, q2, q3⟩ := low_some q
    rw [low_out q2 fun z => q3 (hs b z), delL_ne fun z => q3 (hin b z)]
    exact q1
  refine ⟨?_, e2⟩
  have T := S.forget i none
  refine ⟨S.ext.trans e2, fun b u z q => ?_, T.zn, T.len, T.nd, fun j s hj => ?_⟩
  · rw [delL_ne fun y => S.zn b (hin b y) z]; exact S.zk b u z q
  · rw [List.getElem?_set] at hj
    by_cases q : i = j
    · rw [if_pos q, if_pos hil] at hj; cases hj; trivial
    · rw [if_neg q] at hj
      have z : (σ.set i none).getD j none = σ.getD j none := by
        rw [List.getD_eq_getElem?_getD, List.getElem?_set, if_neg q, ← List.getD_eq_getElem?_getD]
      rw [z]
      refine slok_mono e2 (fun b u hb hh => ?_) (S.ok j s hj)
      have nb : b ∉ o.as := fun y => two_ads G i j _ s b hi hj q y hb S.nd
      rw [delL_ne nb]; exact hh
theorem low_set_abs {o : AbsS} {i : Nat} : Ex (low F (G.set i .any) (delL o.as H)) (low F (G.set i (.abs o)) H) := fun b u q => by
  obtain ⟨q1, q2, q3⟩ := low_some q
  have hb : b ∉ o.as := fun z => by rw [delL_same z] at q1; cases q1
  rw [delL_ne hb] at q1
  rw [low_out q2 fun z => ?_]
  · exact q1
  · rw [show G.set i (.abs o) = (G.set i .any).set i (.abs o) from (List.set_set ..).symm] at z
    rcases ads_set_mem' (G.set i .any) i z with y | y
    · exact hb y
    · exact q3 y
/-- behind what changed a slot's own, and it alone; data may have come -/
theorem Sat.redo {o o' : AbsS} (S : Sat F G σ H) {i : Nat} (hi : G[i]? = some (.abs o)) (ep : o'.p = o.p) (nd : o'.as.Nodup) (g : Grow (low F G H) (delL o.as H) B' (delL o'.as H')) (h : o'.ok F.K B' H' (some (.ref o'.p))) :
    Sat F (G.set i (.abs o')) σ H' ∧ Ex (low F G H) (low F (G.set i (.abs o')) H') ∧ Ex B' (low F (G.set i (.abs o')) H') := by
  have hil : i < G.length := (List.getElem?_eq_some_iff.mp hi).1
  obtain ⟨S1, e1⟩ := S.letGoA hi
  have S2 := S1.ex g.2.1
  have eB : Ex B' (low F (G.set i .any) (delL o'.as H')) := fun b u e => by
    have e2 := g.2.2.1 b u e
    rw [low_out (fun z => ?_) fun z => ?_]
    · exact e2
    · obtain ⟨w, hw⟩ := F.zh b z
      have := g.2.2.2 b (low_z z) ⟨w, S1.zk b w z hw⟩
      rw [e] at this; cases this
    · have zG : b ∈ ads G := (ads_set_sub (s := .any) rfl G i).subset z
      obtain ⟨w, hw⟩ := S1.at_ z
      have := g.2.2.2 b (low_in zG) ⟨w, hw⟩
      rw [e] at this; cases this
  have S3 := S2.setAbs (i := i) (by rw [List.length_set]; exact hil) nd (o'.mono eB (fun _ _ _ z => z) h)
  rw [List.set_set] at S3
  have e3 : (σ.set i none).set i (some (.ref o'.p)) = σ := by rw [ep]; exact set_back (c := none) (S.absd hi).1
  rw [e3] at S3
  have e4 : Ex (low F (G.set i .any) (delL o'.as H')) (low F (G.set i (.abs o')) H') := low_set_abs
  exact ⟨S3, (e1.trans (low_mono g.2.1)).trans e4, eB.trans e4⟩
/-- the same, nothing but the slot's own changed -/
theorem Sat.redo0 {o o' : AbsS} (S : Sat F G σ H) {i : Nat} (hi : G[i]? = some (.abs o)) (ep : o'.p = o.p) (nd : o'.as.Nodup) (e : delL o'.as H' = delL o.as H) (h : o'.ok F.K (low F G H) H' (some (.ref o'.p))) :
    Sat F (G.set i (.abs o')) σ H' ∧ Ex (low F G H) (low F (G.set i (.abs o')) H') := by
  have g : Grow (low F G H) (delL o.as H) (low F G H) (delL o'.as H') := ⟨Ex.refl _, by rw [e]; exact Ex.refl _, fun b u q => by
    obtain ⟨q1, q2, q3⟩ := low_some q
    rw [e, delL_ne (as := o.as) fun z => q3 (ads_mem' hi z)]
    exact q1, fun b q _ => q⟩
  obtain ⟨a, b, _⟩ := S.redo hi ep nd g h
  exact ⟨a, b⟩
theorem Sat.abs_nd (S : Sat F G σ H) {i : Nat} {o : AbsS} (h : G[i]? = some (.abs o)) : o.as.Nodup := ads_nd_at G i _ h S.nd
end
inductive FV where
  | d (x : PyData)
  | own (q : Addr) (ds : List PyData)
  | dic (q : Addr) (kvs : KD)
def FV.ads : FV → List Addr
  | .d _ => []
  | .own q _ => [q]
  | .dic q _ => [q]
def FVOk (K : PySem.W.Frag) (B H : Hp) : FV → V → Prop
  | .d x, u => Dq K B u x
  | .own q ds, u => u = .ref q ∧ ∃ vs, H q = some (.lst vs) ∧ DqAll K B vs ds
  | .dic q kvs, u => u = .ref q ∧ ∃ ws, H q = some (.dK ws) ∧ DOk K B ws kvs
abbrev FS := List (Str × FV)
def fads (fs : FS) : List Addr := fs.flatMap fun p => p.2.ads
theorem fads_cons (p : Str × FV) (fs : FS) : fads (p :: fs) = p.2.ads ++ fads fs := rfl
def FSOk (K : PySem.W.Frag) (B H : Hp) : List (Str × V) → FS → Prop
  | [], [] => True
  | w :: ws, f :: fs => w.1 = f.1 ∧ FVOk K B H f.2 w.2 ∧ FSOk K B H ws fs
  | _, _ => False
theorem fvok_mono {K : PySem.W.Frag} {B B' H H' : Hp} (eB : Ex B B') : ∀ {f : FV} {u : V}, (∀ b o, b ∈ f.ads → H b = some o → H' b = some o) → FVOk K B H f u → FVOk K B' H' f u
  | .d _, _, _, k => dp_mono eB k
  | .own q _, _, h, ⟨e, vs, h1, h2⟩ => ⟨e, vs, h q _ List.mem_cons_self h1, dps_mono eB h2⟩
  | .dic q _, _, h, ⟨e, ws, h1, h2⟩ => ⟨e, ws, h q _ List.mem_cons_self h1, ⟨h2.1, dps_mono eB h2.2⟩⟩
theorem fsok_mono {K : PySem.W.Frag} {B B' H H' : Hp} (eB : Ex B B') : ∀ {ws : List (Str × V)} {fs : FS}, (∀ b o, b ∈ fads fs → H b = some o → H' b = some o) → FSOk K B H ws fs → FSOk K B' H' ws fs
  | [], [], _, k => k
  | _ :: _, _ :: _, h, ⟨e, k1, k2⟩ => ⟨e, fvok_mono eB (fun b o hb => h b o (List.mem_append_left _ hb)) k1, fsok_mono eB (fun b o hb => h b o (List.mem_append_right _ hb)) k2⟩
  | [], _ :: _, _, k => k.elim
  | _ :: _, [], _, k => k.elim
theorem fsok_at {K : PySem.W.Frag} {B H : Hp} : ∀ {ws : List (Str × V)} {fs : FS}, FSOk K B H ws fs → ∀ b ∈ fads fs, ∃ o, H b = some o ∧ ∀ xs, o ≠ .tup xs
  | [], [], _, b, hb => by cases hb
  | _ :: _, (n, f) :: fs, ⟨e, k1, k2⟩, b, hb => by
    rw [fads_cons] at hb
    rcases List.mem_append.mp hb with hb | hb
    · cases f with
      | d x => cases hb
      | own q ds =>
        obtain rfl := List.mem_singleton.mp hb
        obtain ⟨_, vs, h1, _⟩ := k1
        exact ⟨_, h1, fun _ z => nomatch z⟩
      | dic q ds =>
        obtain rfl := List.mem_singleton.mp hb
        obtain ⟨_, vs, h1, _⟩ := k1
        exact ⟨_, h1, fun _ z => nomatch z⟩
    · exact fsok_at k2 b hb
  | [], _ :: _, k, _, _ => k.elim
  | _ :: _, [], k, _, _ => k.elim
theorem fsok_look {K : PySem.W.Frag} {B H : Hp} {n : Str} {f : FV} : ∀ {ws : List (Str × V)} {fs : FS}, FSOk K B H ws fs → fs.lookup n = some f → ∃ u, ws.lookup n = some u ∧ FVOk K B H f u
  | [], [], _, h => by cases h
  | (m', u) :: ws, (m, g) :: fs, ⟨e, k1, k2⟩, h => by
    have e : m' = m := e
    subst e
    rw [List.lookup_cons] at h ⊢
    cases q : n == m' with
    | true => rw [q] at h; cases h; exact ⟨u, rfl, k1⟩
    | false => rw [q] at h; exact fsok_look k2 h
  | [], _ :: _, k, _ => k.elim
  | _ :: _, [], k, _ => k.elim
theorem fsok_none {K : PySem.W.Frag} {B H : Hp} {n : Str} : ∀ {ws : List (Str × V)} {fs : FS}, FSOk K B H ws fs → fs.lookup n = none → ws.lookup n = none
  | [], [], _, _ => rfl
  | (m', u) :: ws, (m, g) :: fs, ⟨e, k1, k2⟩, h => by
    have e : m' = m := e
    subst e
    rw [List.lookup_cons] at h ⊢
    cases q : n == m' with
    | true => rw [q] at h; cases h
    | false => rw [q] at h; exact fsok_none k2 h
  | [], _ :: _, k, _ => k.elim
  | _ :: _, [], k, _ => k.elim
theorem fsok_len {K : PySem.W.Frag} {B H : Hp} : ∀ {ws : List (Str × V)} {fs : FS}, FSOk K B H ws fs → ws.length = fs.length
  | [], [], _ => rfl
  | _ :: _, _ :: _, ⟨_, _, k⟩ => congrArg (· + 1) (fsok_len k)
  | [], _ :: _, k => k.elim
  | _ :: _, [], k => k.elim
def putG (n : Str) (f : FV) : FS → FS
  | [] => [(n, f)]
  | (m, g) :: r => if m = n then (m, f) :: r else (m, g) :: putG n f r
/-- a field written, all the others staying -/
theorem fsok_put {K : PySem.W.Frag} {B H H' : Hp} {n : Str} {f : FV} {u : V} (hf : FVOk K B H' f u) : ∀ {ws : List (Str × V)} {fs : FS}, (∀ m g, (m, g) ∈ fs → m ≠ n → ∀ b o, b ∈ g.ads → H b = some o → H' b = some o) → (fs.map (·.1)).Nodup → FSOk K B H ws fs → FSOk K B H' (putF n u ws) (putG n f fs)
  | [], [], _, _, _ => ⟨rfl, hf, trivial⟩
  | (m', w) :: ws, (m, g) :: fs, h, nd, ⟨e, k1, k2⟩ => by
    have e : m' = m := e
    subst e
    obtain ⟨n1, n2⟩ := List.nodup_cons.mp nd
    show FSOk K B H' (if m' = n then (m', u) :: ws else (m', w) :: putF n u ws) (if m' = n then (m', f) :: fs else (m', g) :: putG n f fs)
    by_cases q : m' = n
    · rw [if_pos q, if_pos q]
      refine ⟨rfl, hf, ?_⟩
      have ok : ∀ {ws : List (Str × V)} {fs' : FS}, (∀ p ∈ fs', p ∈ fs) → FSOk K B H ws fs' → FSOk K B H' ws fs' := by
        intro ws fs'
        induction fs' generalizing ws with
        | nil => intro _ k; cases ws with
          | nil => exact k
          | cons => exact k.elim
        | cons p r ih =>
          intro sub k
          cases ws with
          | nil => exact k.elim
          | cons w ws =>
            obtain ⟨a, b, c⟩ := k
            have hp := sub p List.mem_cons_self
            have hne : p.1 ≠ n := fun z => n1 (by rw [q, ← z]; exact List.mem_map.mpr ⟨p, hp, rfl⟩)
            exact ⟨a, fvok_mono (Ex.refl _) (h p.1 p.2 (List.mem_cons_of_mem _ hp) hne) b, ih (fun x hx => sub x (List.mem_cons_of_mem _ hx)) c⟩
      exact ok (fun _ z => z) k2
    · rw [if_neg q, if_neg q]
      exact ⟨rfl, fvok_mono (Ex.refl _) (h m' g List.mem_cons_self q) k1, fsok_put hf (fun m g hm hne => h m g (List.mem_cons_of_mem _ hm) hne) n2 k2⟩
  | [], _ :: _, _, _, k => k.elim
  | _ :: _, [], _, _, k => k.elim
def fnames (fs : FS) : List Str := fs.map (·.1)
def objS (a C : Addr) (fs : FS) : AbsS where
  p := a
  rs := fads fs
  ok := fun K B H v => v = some (.ref a) ∧ (fnames fs).Nodup ∧ ∃ dx ws, H a = some (.ins C dx ws) ∧ FSOk K B H ws fs
  mono := fun eB h ⟨e, nd, dx, ws, h1, h2⟩ => ⟨e, nd, dx, ws, h _ _ List.mem_cons_self h1, fsok_mono eB (fun b o hb => h b o (List.mem_cons_of_mem _ hb)) h2⟩
  ref := fun h => h.1
  at_ := fun ⟨e, nd, dx, ws, h1, h2⟩ b hb => by
    rcases List.mem_cons.mp hb with rfl | hb
    · exact ⟨_, h1, fun _ z => nomatch z⟩
    · exact fsok_at h2 b hb
/-- the instance at a of the class at C in a slot -/
abbrev Sl.obj (a C : Addr) (fs : FS) : Sl := .abs (objS a C fs)
theorem mem_fads {fs : FS} {m : Str} {g : FV} {b : Addr} (h : (m, g) ∈ fs) (hb : b ∈ g.ads) : b ∈ fads fs := List.mem_flatMap.mpr ⟨(m, g), h, hb⟩
theorem look_mem {fs : FS} {n : Str} {f : FV} (h : fs.lookup n = some f) : (n, f) ∈ fs := by
  induction fs with
  | nil => cases h
  | cons p r ih =>
    obtain ⟨m, g⟩ := p
    rw [List.lookup_cons] at h
    cases q : n == m with
    | true => rw [q] at h; cases h; rw [eq_of_beq q]; exact List.mem_cons_self
    | false => rw [q] at h; exact List.mem_cons_of_mem _ (ih h)
/-- two fields own nothing in common -/
theorem fads_apart : ∀ {fs : FS} {n m : Str} {f g : FV} {b : Addr}, (fads fs).Nodup → (n, f) ∈ fs → (m, g) ∈ fs → m ≠ n → b ∈ f.ads → b ∉ g.ads
  | [], _, _, _, _, _, _, h, _, _, _ => by cases h
  | p :: r, n, m, f, g, b, nd, h1, h2, ne, hb => fun hg => by
    rw [fads_cons] at nd
    obtain ⟨n1, n2, n3⟩ := List.nodup_append.mp nd
    rcases List.mem_cons.mp h1 with e1 | k1
    · rcases List.mem_cons.mp h2 with e2 | k2
      · rw [← e1] at e2; cases e2; exact ne rfl
      · rw [← e1] at n3; exact n3 b hb b (mem_fads k2 hg) rfl
    · rcases List.mem_cons.mp h2 with e2 | k2
      · rw [← e2] at n3; exact n3 b hg b (mem_fads k1 hb) rfl
      · exact fads_apart n2 k1 k2 ne hb hg
theorem putF_same {f : Str} {v : V} : ∀ {ws : List (Str × V)}, ws.lookup f = some v → putF f v ws = ws
  | [], h => by cases h
  | (m, u) :: ws, h => by
    rw [List.lookup_cons] at h
    show (if m = f then (m, v) :: ws else (m, u) :: putF f v ws) = _
    cases q : f == m with
    | true => rw [q] at h; cases h; rw [if_pos (eq_of_beq q).symm]
    | false =>
      rw [q] at h
      rw [if_neg fun z => by rw [z] at q; simp at q, putF_same h]
theorem fads_put {f : Str} {g g' : FV} : ∀ {fs : FS}, fs.lookup f = some g → g'.ads = g.ads → fads (putG f g' fs) = fads fs
  | [], h, _ => by cases h
  | (m, u) :: fs, h, e => by
    rw [List.lookup_cons] at h
    show fads (if m = f then (m, g') :: fs else (m, u) :: putG f g' fs) = _
    cases q : f == m with
    | true => rw [q] at h; cases h; rw [if_pos (eq_of_beq q).symm, fads_cons, fads_cons]; show g'.ads ++ _ = _; rw [e]
    | false => rw [q] at h; rw [if_neg fun z => by rw [z] at q; simp at q, fads_cons, fads_cons, fads_put h e]
theorem names_put {f : Str} {g g' : FV} : ∀ {fs : FS}, fs.lookup f = some g → (putG f g' fs).map (·.1) = fs.map (·.1)
  | [], h => by cases h
  | (m, u) :: fs, h => by
    rw [List.lookup_cons] at h
    show (if m = f then (m, g') :: fs else (m, u) :: putG f g' fs).map (·.1) = _
    cases q : f == m with
    | true => rw [if_pos (eq_of_beq q).symm]; rfl
    | false => rw [q] at h; rw [if_neg fun z => by rw [z] at q; simp at q, List.map_cons, List.map_cons, names_put h]
theorem putG_new {f : Str} {g : FV} : ∀ {fs : FS}, fs.lookup f = none → putG f g fs = fs ++ [(f, g)]
  | [], _ => rfl
  | (m, u) :: fs, h => by
    rw [List.lookup_cons] at h
    show (if m = f then (m, g) :: fs else (m, u) :: putG f g fs) = _
    cases q : f == m with
    | true => rw [q] at h; cases h
    | false => rw [q] at h; rw [if_neg fun z => by rw [z] at q; simp at q, putG_new h]; rfl
theorem names_new {f : Str} : ∀ {fs : FS}, fs.lookup f = none → f ∉ fs.map (·.1)
  | [], _ => fun z => nomatch z
  | (m, u) :: fs, h => by
    rw [List.lookup_cons] at h
    cases q : f == m with
    | true => rw [q] at h; cases h
    | false =>
      rw [q] at h
      intro z
      rw [List.map_cons] at z
      rcases List.mem_cons.mp z with y | y
      · rw [y] at q; simp at q
      · exact names_new h y
theorem nodup_new {f : Str} {fs : FS} (nd : (fs.map (·.1)).Nodup) (h : fs.lookup f = none) : (fs.map (·.1) ++ [f]).Nodup :=
  List.nodup_append.mpr ⟨nd, List.nodup_cons.mpr ⟨fun z => (nomatch z), List.nodup_nil⟩, fun b hb c hc e => by
    rw [List.mem_singleton] at hc
    exact names_new h (by rw [← hc, ← e]; exact hb)⟩
section
variable {F : Fr} {G : List Sl} {κ : Kp} {te tv ty : TE} {tr : TA} {D : Ends} {α : Kps}
theorem Sat.objd {σ : L2.St} {H : Hp} (S : Sat F G σ H) {i : Nat} {a C : Addr} {fs : FS} (h : G[i]? = some (.obj a C fs)) : σ[i]? = some (some (.ref a)) ∧ (fs.map (·.1)).Nodup ∧ (a :: fads fs).Nodup ∧ ∃ dx ws, H a = some (.ins C dx ws) ∧ FSOk F.K (low F G H) H ws fs := by
  obtain ⟨e, e2, nd, k⟩ := S.absd h
  exact ⟨e, nd, S.abs_nd h, k⟩
/-- x.f, data -/
theorem ek_fldO {i : Nat} {a C : Addr} {fs : FS} {f : Str} {x : PyData} (hi : G[i]? = some (.obj a C fs)) (c : Cls F.K C) (n : NoAttr F.K C f) (hf : fs.lookup f = some (.d x)) (k : κ x G) : EK F G (tFld F.K (tVar i) f) κ := fun σ H S Q q => by
  obtain ⟨e, _, _, dx, ws, ha, hw⟩ := S.objd hi
  obtain ⟨u, hu, du⟩ := fsok_look hw hf
  exact ⟨.ref a, e, a, C, dx, ws, u, rfl, ha, c, n, hu, q u H x G k S (Ex.refl _) du⟩
/-- x.f = data -/
theorem nx_fldO0 {i : Nat} {f : Str} (h : EK F G te fun x G1 => ∃ a C fs, G1[i]? = some (.obj a C fs) ∧ Cls F.K C ∧ NoAttr F.K C f ∧ fs.length < 1000 ∧ fads (putG f (.d x) fs) = fads fs ∧ ((fs.map (·.1)).Nodup → ((putG f (.d x) fs).map (·.1)).Nodup) ∧ Nx F (G1.set i (.obj a C (putG f (.d x) fs))) D.nx) :
    Nx F G (sFld F.K (tVar i) te f D) := fun σ H S => h σ H S _ fun v H1 x G1 ⟨a, C, fs, g, c, n, hl, he, hnd, k⟩ S1 e1 d1 => by
  obtain ⟨e, nd1, nd2, dx, ws, ha, hw⟩ := S1.objd g
  refine ⟨.ref a, e, a, C, dx, ws, rfl, ha, c, n, by rw [fsok_len hw]; exact hl, k _ _ ?_⟩
  have na : a ∉ fads fs := (List.nodup_cons.mp nd2).1
  refine (S1.redo0 g (o' := objS a C (putG f (.d x) fs)) rfl ?_ ?_ ⟨rfl, hnd nd1, dx, _, upd_same, fsok_put (show FVOk F.K (low F G1 H1) (upd H1 a _) (.d x) v from d1) (fun m g hm hne b o hb hh => ?_) nd1 hw⟩).1
  · show (a :: fads (putG f (.d x) fs)).Nodup
    rw [he]; exact nd2
  · show delL (a :: fads (putG f (.d x) fs)) _ = delL (a :: fads fs) H1
    rw [he]; exact delL_upd List.mem_cons_self
  · rw [upd_ne fun z => na (by rw [← z]; exact mem_fads hm hb)]; exact hh
/-- x.f = data, x having one -/
theorem nx_fldO {i : Nat} {f : Str} (h : EK F G te fun x G1 => ∃ a C fs x0, G1[i]? = some (.obj a C fs) ∧ Cls F.K C ∧ NoAttr F.K C f ∧ fs.length < 1000 ∧ fs.lookup f = some (.d x0) ∧ Nx F (G1.set i (.obj a C (putG f (.d x) fs))) D.nx) : Nx F G (sFld F.K (tVar i) te f D) :=
  nx_fldO0 (h.mono fun x G1 ⟨a, C, fs, x0, g, c, n, hl, hf, k⟩ => ⟨a, C, fs, g, c, n, hl, fads_put hf rfl, fun nd => by rw [names_put hf]; exact nd, k⟩)
/-- x.f = data, x having none -/
theorem nx_fldON {i : Nat} {f : Str} (h : EK F G te fun x G1 => ∃ a C fs, G1[i]? = some (.obj a C fs) ∧ Cls F.K C ∧ NoAttr F.K C f ∧ fs.length < 1000 ∧ fs.lookup f = none ∧ Nx F (G1.set i (.obj a C (fs ++ [(f, .d x)]))) D.nx) : Nx F G (sFld F.K (tVar i) te f D) :=
  nx_fldO0 (h.mono fun x G1 ⟨a, C, fs, g, c, n, hl, hf, k⟩ => ⟨a, C, fs, g, c, n, hl, by rw [putG_new hf]; unfold fads; rw [List.flatMap_append]; exact List.append_nil _, fun nd => by rw [putG_new hf, List.map_append]; exact nodup_new nd hf, by rw [putG_new hf]; exact k⟩)
/-- x.f = [..], a new list, x having no f -/
theorem nx_fldOL {i : Nat} {f : Str} (h : EO F G te fun ds G1 => ∃ a C fs, G1[i]? = some (.obj a C fs) ∧ Cls F.K C ∧ NoAttr F.K C f ∧ fs.length < 1000 ∧ fs.lookup f = none ∧ ∀ q, Nx F (G1.set i (.obj a C (fs ++ [(f, .own q ds)]))) D.nx) :
    Nx F G (sFld F.K (tVar i) te f D) := fun σ H S => h σ H S _ fun q vs H1 ds G1 ⟨a, C, fs, g, c, n, hl, ho, k⟩ S1 e1 hq d1 => by
  obtain ⟨e, nd1, nd2, dx, ws, ha, hw⟩ := S1.objd g
  have na : a ∉ fads fs := (List.nodup_cons.mp nd2).1
  have haq : a ≠ q := fun z => by rw [z, del_same] at ha; cases ha
  have nq : q ∉ a :: fads fs := fun z => by
    obtain ⟨o, e⟩ := S1.at_ (ads_mem' g z)
    rw [del_same] at e; cases e
  rw [del_ne haq] at ha
  refine ⟨.ref a, e, a, C, dx, ws, rfl, ha, c, n, by rw [fsok_len hw]; exact hl, k q _ _ ?_⟩
  have ef : fads (fs ++ [(f, FV.own q ds)]) = fads fs ++ [q] := by unfold fads; rw [List.flatMap_append]; rfl
  refine (S1.redo0 g (H' := upd H1 a (.ins C dx (putF f (.ref q) ws))) (o' := objS a C (fs ++ [(f, .own q ds)])) rfl ?_ ?_ ⟨rfl, by unfold fnames; rw [List.map_append]; exact nodup_new nd1 ho, dx, _, upd_same, ?_⟩).1
  · show (a :: fads (fs ++ [(f, FV.own q ds)])).Nodup
    rw [ef]
    obtain ⟨n1, n2⟩ := List.nodup_cons.mp nd2
    refine List.nodup_cons.mpr ⟨fun z => ?_, List.nodup_append.mpr ⟨n2, List.nodup_cons.mpr ⟨fun z => (nomatch z), List.nodup_nil⟩, fun b hb c hc e => ?_⟩⟩
    · rcases List.mem_append.mp z with y | y
      · exact n1 y
      · exact haq (List.mem_singleton.mp y)
    · rw [List.mem_singleton] at hc
      exact nq (List.mem_cons_of_mem _ (by rw [← hc, ← e]; exact hb))
  · show delL (a :: fads (fs ++ [(f, FV.own q ds)])) _ = delL (a :: fads fs) (del q H1)
    rw [ef]
    funext b
    by_cases z1 : b ∈ a :: fads fs
    · rw [delL_same z1, delL_same]
      rcases List.mem_cons.mp z1 with y | y
      · rw [y]; exact List.mem_cons_self
      · exact List.mem_cons_of_mem _ (List.mem_append_left _ y)
    · rw [delL_ne z1]
      by_cases z2 : b = q
      · rw [z2, del_same, delL_same]
        exact List.mem_cons_of_mem _ (List.mem_append_right _ (List.mem_singleton_self _))
      · rw [del_ne z2, delL_ne, upd_ne]
        · exact fun y => z1 (by rw [y]; exact List.mem_cons_self)
        · intro y
          rcases List.mem_cons.mp y with y | y
          · exact z1 (by rw [y]; exact List.mem_cons_self)
          · rcases List.mem_append.mp y with y | y
            · exact z1 (List.mem_cons_of_mem _ y)
            · exact z2 (List.mem_singleton.mp y)
  · rw [← putG_new ho]
    refine fsok_put (show FVOk F.K _ (upd H1 a _) (.own q ds) (.ref q) from ⟨rfl, vs, by rw [upd_ne (Ne.symm haq)]; exact hq, d1⟩) (fun m g' hm hne b o hb hh => ?_) nd1 hw
    have hb2 := mem_fads hm hb
    rw [upd_ne fun z => na (by rw [← z]; exact hb2)]
    exact del_ex _ _ hh
/-- x.f = {}, a new dict -/
theorem nx_fldOD {i : Nat} {f : Str} (h : ED F G te fun kvs G1 => ∃ a C fs, G1[i]? = some (.obj a C fs) ∧ Cls F.K C ∧ NoAttr F.K C f ∧ fs.length < 1000 ∧ fs.lookup f = none ∧ ∀ q, Nx F (G1.set i (.obj a C (fs ++ [(f, .dic q kvs)]))) D.nx) :
    Nx F G (sFld F.K (tVar i) te f D) := fun σ H S => h σ H S _ fun q vs H1 ds G1 ⟨a, C, fs, g, c, n, hl, ho, k⟩ S1 e1 hq d1 => by
  obtain ⟨e, nd1, nd2, dx, ws, ha, hw⟩ := S1.objd g
  have na : a ∉ fads fs := (List.nodup_cons.mp nd2).1
  have haq : a ≠ q := fun z => by rw [z, del_same] at ha; cases ha
  have nq : q ∉ a :: fads fs := fun z => by
    obtain ⟨o, e⟩ := S1.at_ (ads_mem' g z)
    rw [del_same] at e; cases e
  rw [del_ne haq] at ha
  refine ⟨.ref a, e, a, C, dx, ws, rfl, ha, c, n, by rw [fsok_len hw]; exact hl, k q _ _ ?_⟩
  have ef : fads (fs ++ [(f, FV.dic q ds)]) = fads fs ++ [q] := by unfold fads; rw [List.flatMap_append]; rfl
  refine (S1.redo0 g (H' := upd H1 a (.ins C dx (putF f (.ref q) ws))) (o' := objS a C (fs ++ [(f, .dic q ds)])) rfl ?_ ?_ ⟨rfl, by unfold fnames; rw [List.map_append]; exact nodup_new nd1 ho, dx, _, upd_same, ?_⟩).1
  · show (a :: fads (fs ++ [(f, FV.dic q ds)])).Nodup
    rw [ef]
    obtain ⟨n1, n2⟩ := List.nodup_cons.mp nd2
    refine List.nodup_cons.mpr ⟨fun z => ?_, List.nodup_append.mpr ⟨n2, List.nodup_cons.mpr ⟨fun z => (nomatch z), List.nodup_nil⟩, fun b hb c hc e => ?_⟩⟩
    · rcases List.mem_append.mp z with y | y
      · exact n1 y
      · exact haq (List.mem_singleton.mp y)
    · rw [List.mem_singleton] at hc
      exact nq (List.mem_cons_of_mem _ (by rw [← hc, ← e]; exact hb))
  · show delL (a :: fads (fs ++ [(f, FV.dic q ds)])) _ = delL (a :: fads fs) (del q H1)
    rw [ef]
    funext b
    by_cases z1 : b ∈ a :: fads fs
    · rw [delL_same z1, delL_same]
      rcases List.mem_cons.mp z1 with y | y
      · rw [y]; exact List.mem_cons_self
      · exact List.mem_cons_of_mem _ (List.mem_append_left _ y)
    · rw [delL_ne z1]
      by_cases z2 : b = q
      · rw [z2, del_same, delL_same]
        exact List.mem_cons_of_mem _ (List.mem_append_right _ (List.mem_singleton_self _))
      · rw [del_ne z2, delL_ne, upd_ne]
        · exact fun y => z1 (by rw [y]; exact List.mem_cons_self)
        · intro y
          rcases List.mem_cons.mp y with y | y
          · exact z1 (by rw [y]; exact List.mem_cons_self)
          · rcases List.mem_append.mp y with y | y
            · exact z1 (List.mem_cons_of_mem _ y)
            · exact z2 (List.mem_singleton.mp y)
  · rw [← putG_new ho]
    refine fsok_put (show FVOk F.K _ (upd H1 a _) (.dic q ds) (.ref q) from ⟨rfl, vs, by rw [upd_ne (Ne.symm haq)]; exact hq, d1⟩) (fun m g' hm hne b o hb hh => ?_) nd1 hw
    have hb2 := mem_fads hm hb
    rw [upd_ne fun z => na (by rw [← z]; exact hb2)]
    exact del_ex _ _ hh
/-- the object at an instance's own address q rewritten -/
theorem Sat.putQ {σ : L2.St} {H : Hp} (S : Sat F G σ H) {i : Nat} {a C q : Addr} {fs : FS} {f : Str} {g g' : FV} {o : HO} (hi : G[i]? = some (.obj a C fs)) (hf : fs.lookup f = some g) (hg : g.ads = [q]) (he : fads (putG f g' fs) = fads fs) (hm : (putG f g' fs).map (·.1) = fs.map (·.1)) (hws : ∀ ws : List (Str × V), ws.lookup f = some (.ref q) → putF f (.ref q) ws = ws)
    (hu : ∀ u, FVOk F.K (low F G H) H g u → u = .ref q) (hk : FVOk F.K (low F G H) (L2.upd H q o) g' (.ref q)) : Sat F (G.set i (.obj a C (putG f g' fs))) σ (L2.upd H q o) := by
  obtain ⟨e, nd1, nd2, dx, ws, ha, hw⟩ := S.objd hi
  obtain ⟨na, nf⟩ := List.nodup_cons.mp nd2
  have hin : q ∈ fads fs := mem_fads (look_mem hf) (by rw [hg]; exact List.mem_cons_self)
  have haq : a ≠ q := fun z => na (by rw [z]; exact hin)
  obtain ⟨u, hlu, hku⟩ := fsok_look hw hf
  obtain rfl := hu u hku
  refine (S.redo0 hi (o' := objS a C (putG f g' fs)) rfl ?_ ?_ ⟨rfl, by unfold fnames; rw [hm]; exact nd1, dx, ws, by rw [upd_ne haq]; exact ha, ?_⟩).1
  · show (a :: fads (putG f g' fs)).Nodup
    rw [he]; exact nd2
  · show delL (a :: fads (putG f g' fs)) _ = delL (a :: fads fs) H
    rw [he]; exact delL_upd (List.mem_cons_of_mem _ hin)
  · have := fsok_put (n := f) hk (fun m g2 hm2 hne b o2 hb hh => ?_) nd1 hw
    · rw [hws ws hlu] at this
      exact this
    · rw [upd_ne fun z => ?_]
      · exact hh
      · subst z
        exact fads_apart nf (look_mem hf) hm2 hne (by rw [hg]; exact List.mem_cons_self) hb
/-- x.f.append(e), f the instance's own list -/
theorem nx_appO {i : Nat} {a C q : Addr} {fs0 : FS} {f : Str} {ds0 : List PyData} (hi : G[i]? = some (.obj a C fs0)) (c : Cls F.K C) (n : NoAttr F.K C f) (hf0 : fs0.lookup f = some (.own q ds0)) (h : EK F G te fun x G1 => ∃ fs ds, G1[i]? = some (.obj a C fs) ∧ fs.lookup f = some (.own q ds) ∧ ds.length < 1000000 ∧ Nx F (G1.set i (.obj a C (putG f (.own q (ds ++ [x])) fs))) D.nx) :
    Nx F G (tDrop (tBM F.K "list" rAppend (tFld F.K (tVar i) f) (tCons te tNil)) D) := fun σ H S => by
  obtain ⟨e, nd1, nd2, dx, ws, ha, hw⟩ := S.objd hi
  obtain ⟨u, hu, rfl, vs0, hq0, _⟩ := fsok_look hw hf0
  refine ⟨.ref a, e, a, C, dx, ws, .ref q, rfl, ha, c, n, hu, .inl ⟨rfl, vs0, .inl (.inl hq0)⟩, h σ H S _ fun v H1 x G1 ⟨fs, ds, g, hf, hl, k⟩ S1 e1 d1 => ?_⟩
  obtain ⟨_, _, _, dx1, ws1, ha1, hw1⟩ := S1.objd g
  obtain ⟨u1, hu1, _, vs, hq, hd⟩ := fsok_look hw1 hf
  refine ⟨q, vs, v, rfl, rfl, hq, Nat.lt_of_lt_of_le (by rw [dps_length hd]; exact hl) (by decide), k _ _ ?_⟩
  exact S1.putQ g hf rfl (fads_put hf rfl) (names_put hf) (fun ws h => putF_same h) (fun u hu => hu.1) ⟨rfl, _, upd_same, dps_append hd (.cons d1 .nil)⟩
/-- k not in x.f, f the instance's own dict -/
theorem ek_dninO {i : Nat} {f : Str} (h : EK F G ty fun y G1 => ∃ a C fs q kvs k, G1[i]? = some (.obj a C fs) ∧ Cls F.K C ∧ NoAttr F.K C f ∧ fs.lookup f = some (.dic q kvs) ∧ y = kD k ∧ κ (.bool (!(valD kvs k).isSome)) G1) : EK F G (tDNotIn ty (tFld F.K (tVar i) f)) κ := fun σ H S Q q =>
  h σ H S _ fun u H1 y G1 ⟨a, C, fs, p, kvs, k, g, c, n, hf, ey, kk⟩ S1 e1 d1 => by
    subst ey
    obtain ⟨e, nd1, nd2, dx, ws, ha, hw⟩ := S1.objd g
    obtain ⟨v, hv, rfl, wd, hp, hd⟩ := fsok_look hw hf
    refine ⟨.ref a, e, a, C, dx, ws, .ref p, rfl, ha, c, n, hv, p, _, rfl, by rw [kD_kV d1]; exact DGet.k hp, ?_⟩
    have e : (valV wd k).isSome = (valD kvs k).isSome := by
      rcases hd.get k with ⟨z1, z2⟩ | ⟨v, x', ev, ex, _⟩
      · rw [z1, z2]; rfl
      · rw [ev, ex]; rfl
    rw [e]
    exact q _ H1 _ G1 kk S1 e1 (.bl _)
/-- x.f[k] -/
theorem ek_dgetO {i : Nat} {a C p : Addr} {fs0 : FS} {f : Str} {kvs0 : KD} (hi : G[i]? = some (.obj a C fs0)) (c : Cls F.K C) (n : NoAttr F.K C f) (hf0 : fs0.lookup f = some (.dic p kvs0)) (h : EK F G ty fun y G1 => ∃ fs kvs k x, G1[i]? = some (.obj a C fs) ∧ fs.lookup f = some (.dic p kvs) ∧ y = kD k ∧ valD kvs k = some x ∧ κ x G1) : EK F G (tDGet (tFld F.K (tVar i) f) ty) κ := fun σ H S Q q => by
  obtain ⟨e, nd1, nd2, dx, ws, ha, hw⟩ := S.objd hi
  obtain ⟨v, hv, rfl, wd, hp, _⟩ := fsok_look hw hf0
  refine ⟨.ref a, e, a, C, dx, ws, .ref p, rfl, ha, c, n, hv, h σ H S _ fun u H1 y G1 ⟨fs, kvs, k, x, g, hf, ey, ex, kk⟩ S1 e1 d1 => ?_⟩
  subst ey
  obtain ⟨_, _, _, dx1, ws1, ha1, hw1⟩ := S1.objd g
  obtain ⟨v1, hv1, _, wd1, hp1, hd1⟩ := fsok_look hw1 hf
  rcases hd1.get k with ⟨_, z⟩ | ⟨v', x', ev, ex', dx'⟩
  · rw [ex] at z; cases z
  · rw [ex] at ex'; cases ex'
    refine ⟨p, v', rfl, ?_, q v' H1 x G1 kk S1 e1 dx'⟩
    rw [kD_kV d1, ← ev]
    exact DGet.k hp1
/-- x.f[k] = e -/
theorem nx_dputO {i : Nat} {f : Str} (h : EK F G tv fun x G1 => ∃ a C p fs0 kvs0, G1[i]? = some (.obj a C fs0) ∧ Cls F.K C ∧ NoAttr F.K C f ∧ fs0.lookup f = some (.dic p kvs0) ∧ EK F G1 ty fun y G2 => ∃ fs kvs k, G2[i]? = some (.obj a C fs) ∧ fs.lookup f = some (.dic p kvs) ∧ y = kD k ∧ kvs.length < 1000000 ∧ Nx F (G2.set i (.obj a C (putG f (.dic p (putD kvs k x)) fs))) D.nx) :
    Nx F G (sDPut (tFld F.K (tVar i) f) ty tv D) := fun σ H S => h σ H S _ fun v H1 x G1 ⟨a, C, p, fs0, kvs0, g0, c, n, hf0, k1⟩ S1 e1 d1 => by
  obtain ⟨e, nd1, nd2, dx, ws, ha, hw⟩ := S1.objd g0
  obtain ⟨v0, hv, rfl, wd, hp, _⟩ := fsok_look hw hf0
  refine ⟨.ref a, e, a, C, dx, ws, .ref p, rfl, ha, c, n, hv, k1 σ H1 S1 _ fun u H2 y G2 ⟨fs, kvs, k, g, hf, ey, hl, kk⟩ S2 e2 d2 => ?_⟩
  subst ey
  obtain ⟨_, _, _, dx1, ws1, ha1, hw1⟩ := S2.objd g
  obtain ⟨v1, hv1, _, wd1, hp1, hd1⟩ := fsok_look hw1 hf
  rw [kD_kV d2]
  refine ⟨p, _, rfl, DPut.k hp1 (Nat.lt_of_lt_of_le (by rw [hd1.len]; exact hl) (by decide)), kk _ _ ?_⟩
  exact S2.putQ g hf rfl (fads_put hf rfl) (names_put hf) (fun ws h => putF_same h) (fun u hu => hu.1) ⟨rfl, _, upd_same, hd1.put (dp_mono e2 d1)⟩
abbrev TrO := FS → List PyData → (PyData → FS → Prop) → Prop
def spS (K : PySem.W.Frag) (C : Addr) (n : Nat) (T : TrO) : Sp := fun vs H Q _ => ∃ a us B fs xs κ, vs = .ref a :: us ∧ Ex B (delL (objS a C fs).as H) ∧ (objS a C fs).as.Nodup ∧ (objS a C fs).ok K B H (some (.ref a)) ∧ DqAll K B us xs ∧ xs.length = n ∧ T fs xs κ ∧
  ∀ v H' x B' fs', κ x fs' → (objS a C fs').as.Nodup → Grow B (delL (objS a C fs).as H) B' (delL (objS a C fs').as H') → (objS a C fs').ok K B' H' (some (.ref a)) → Dq K B' v x → Q v H'
theorem spS_len {K : PySem.W.Frag} {C : Addr} {n : Nat} {T : TrO} {vs : List V} {H : Hp} {Q : VK} {E : XK} (h : spS K C n T vs H Q E) : vs.length = n + 1 := by
  obtain ⟨a, us, B, fs, xs, κ, rfl, _, _, _, d, hn, _⟩ := h
  rw [List.length_cons, dps_length d, hn]
theorem sat_startS {K : PySem.W.Frag} {B H : Hp} {o : AbsS} {us : List V} {xs : List PyData} {N : List Str} (hB : Ex B (delL o.as H)) (nd : o.as.Nodup) (ok : o.ok K B H (some (.ref o.p))) (d : DqAll K B us xs) (hl : xs.length + 1 ≤ N.length) :
    Sat (frP K B (delL o.as H)) (Sl.abs o :: (xs.map Sl.d ++ List.replicate (N.length - (xs.length + 1)) Sl.any)) (L2.start N (.ref o.p :: us)) H := by
  have ea : ads (Sl.abs o :: (xs.map Sl.d ++ List.replicate (N.length - (xs.length + 1)) Sl.any)) = o.as := by
    show o.as ++ ads _ = o.as
    rw [ads_start, List.append_nil]
  have eB : Ex B (low (frP K B (delL o.as H)) (Sl.abs o :: (xs.map Sl.d ++ List.replicate (N.length - (xs.length + 1)) Sl.any)) H) := fun b u e => by
    have e' := hB b u e
    have nb : b ∉ o.as := fun y => by rw [delL_same y] at e'; cases e'
    rw [low_out (fun z => by have := z.1; rw [e] at this; cases this) (by rw [ea]; exact nb)]
    rw [delL_ne nb] at e'; exact e'
  refine ⟨eB, fun b u _ e => delL_ex b u e, fun b hb => ?_, ?_, by rw [ea]; exact nd, fun i s hs => ?_⟩
  · rw [ea] at hb
    rintro ⟨_, u, e⟩
    rw [delL_same hb] at e; cases e
  · rw [start_len (by rw [List.length_cons, dps_length d]; exact hl), List.length_cons, List.length_append, List.length_map, List.length_replicate]; omega
  · cases i with
    | zero =>
      have e : Sl.abs o = s := by simpa using hs
      subst e
      exact o.mono eB (fun _ _ _ z => z) ok
    | succ i =>
      have hs' : (xs.map Sl.d ++ List.replicate (N.length - (xs.length + 1)) Sl.any)[i]? = some s := by simpa using hs
      rcases map_getD xs _ i s hs' with ⟨x, ex, rfl⟩ | rfl
      · obtain ⟨v, ev, dv⟩ := dps_get d ex
        exact ⟨v, start_getD (by simpa using ev), dp_mono eB dv⟩
      · trivial
theorem enterS {K : PySem.W.Frag} {B H : Hp} {a C : Addr} {fs : FS} {us : List V} {xs : List PyData} {N : List Str} {P : L2.St → Hp → Prop} (hB : Ex B (delL (objS a C fs).as H)) (nd : (objS a C fs).as.Nodup) (ok : (objS a C fs).ok K B H (some (.ref a))) (d : DqAll K B us xs) (hl : xs.length + 1 ≤ N.length)
    (h : Nx (frP K B (delL (objS a C fs).as H)) (Sl.obj a C fs :: (xs.map Sl.d ++ List.replicate (N.length - (xs.length + 1)) Sl.any)) P) : P (L2.start N (.ref a :: us)) H := h _ _ (sat_startS hB nd ok d hl)
theorem rtS {K : PySem.W.Frag} {B H : Hp} {a C : Addr} {fs : FS} {Q : VK} {κ : PyData → FS → Prop} (hB : Ex B (delL (objS a C fs).as H))
    (hq : ∀ v H' x B' fs', κ x fs' → (objS a C fs').as.Nodup → Grow B (delL (objS a C fs).as H) B' (delL (objS a C fs').as H') → (objS a C fs').ok K B' H' (some (.ref a)) → Dq K B' v x → Q v H') {G : List Sl} {x : PyData} {fs' : FS} (hG : G[0]? = some (.obj a C fs')) (k : κ x fs') :
    Rt (frP K B (delL (objS a C fs).as H)) G x Q := fun σ H' v S d => by
  obtain ⟨_, ok⟩ := S.absd hG
  have hm : ∀ b, b ∈ (objS a C fs').as → b ∈ ads G := fun b hb => ads_mem' hG hb
  refine hq v H' x (low (frP K B (delL (objS a C fs).as H)) G H') fs' k (S.abs_nd hG) ⟨S.ext, fun b u e => ?_, fun b u e => ?_, fun b h1 h2 => low_z ⟨h1, h2⟩⟩ ok d
  · cases q : B b with
    | none =>
      have e2 := S.zk b u ⟨q, u, e⟩ e
      rw [delL_ne fun z => ?_]
      · exact e2
      · exact S.zn b (hm b z) ⟨q, u, e⟩
    | some w =>
      have := hB b w q
      rw [e] at this; cases this
      obtain ⟨e1, _, e3⟩ := low_some (S.ext b _ q)
      rw [delL_ne fun z => e3 (hm b z)]
      exact e1
  · obtain ⟨e1, e2, e3⟩ := low_some e
    rw [delL_ne fun z => e3 (hm b z)]
    exact e1
/-- x.m(..), x a slot's own instance -/
theorem ek_methS {C a : Addr} {m : Str} {n : Nat} {T : TrO} {fs0 : FS} {i : Nat} {E : XK} (hi : G[i]? = some (.obj a C fs0)) (hm : fs0.lookup m = none) (h : EA F G tr fun xs G1 => xs.length = n ∧ ∃ fs, G1[i]? = some (.obj a C fs) ∧ T fs xs fun x fs' => κ x (G1.set i (.obj a C fs'))) :
    EK F G (tMeth C m (spS F.K C n T) [] E (tVar i) tr) κ := fun σ H S Q q => by
  obtain ⟨e, _, _, dx, ws, ha, hw⟩ := S.objd hi
  refine ⟨.ref a, e, a, dx, ws, rfl, ha, fsok_none hw hm, h σ H S _ fun vs H1 xs G1 ⟨hn, fs, g, k⟩ S1 e1 d1 => ?_⟩
  rw [List.append_nil]
  obtain ⟨_, ok⟩ := S1.absd g
  refine ⟨a, vs, low F G1 H1, fs, xs, _, rfl, fun b u e => ?_, S1.abs_nd g, ok, d1, hn, k, fun v H' x B' fs' kx nd gr ok' d => ?_⟩
  · obtain ⟨q1, q2, q3⟩ := low_some e
    rw [delL_ne (as := (objS a C fs).as) fun z => q3 (ads_mem' g z)]
    exact q1
  · obtain ⟨S2, e2, e3⟩ := S1.redo g (o' := objS a C fs') rfl nd gr ok'
    exact q v H' x _ kx S2 (e1.trans e2) (dp_mono e3 d)
/-- y = C(..) -/
theorem nx_makeO {C : Addr} {n : Nat} {T : TrO} {j : Nat} {E : XK} (h : EA F G tr fun xs G1 => xs.length = n ∧ j < G1.length ∧ T [] xs fun x fs => x = .none ∧ ∀ a, Nx F (G1.set j (.obj a C fs)) D.nx) : Nx F G (tAsg (tMake C (spS F.K C n T) [] E tr) (gName j) D) := fun σ H S =>
  h σ H S _ fun vs H1 xs G1 ⟨hn, hj, k⟩ S1 e1 d1 => fun a dx ha hdx ne => by
    rw [List.append_nil]
    have hx1 : upd H1 dx (.own a) a = none := by rw [upd_ne (Ne.symm ne)]; exact ha
    have E1 : Ex H1 (delL (objS a C []).as (upd (upd H1 dx (.own a)) a (.ins C dx []))) := fun b u e => by
      have hb : b ≠ a := fun z => by rw [z, ha] at e; cases e
      rw [delL_ne (as := (objS a C []).as) (fun z => hb (List.mem_singleton.mp z)), upd_ne hb]
      exact upd_ex hdx b u e
    refine ⟨a, vs, low F G1 H1, [], xs, _, rfl, low_ex.trans E1, List.nodup_cons.mpr ⟨fun z => (nomatch z), List.nodup_nil⟩, ⟨rfl, List.nodup_nil, dx, [], upd_same, trivial⟩, d1, hn, k, fun v H' x B' fs kx nd gr ok' d => ?_⟩
    obtain ⟨rfl, kx⟩ := kx
    cases d
    refine ⟨rfl, kx a _ _ ?_⟩
    have S2 : Sat F G1 σ (delL (objS a C fs).as H') := (S1.ex E1).ex gr.2.1
    refine S2.setAbs (o := objS a C fs) hj nd ((objS a C fs).mono (fun b u e => ?_) (fun _ _ _ z => z) ok')
    have e2 := gr.2.2.1 b u e
    rw [low_out (fun z => ?_) fun z => ?_]
    · exact e2
    · obtain ⟨w, hw⟩ := F.zh b z
      have := gr.2.2.2 b (low_z z) ⟨w, E1 b w (S1.zk b w z hw)⟩
      rw [e] at this; cases this
    · obtain ⟨w, hw⟩ := S1.at_ z
      have := gr.2.2.2 b (low_in z) ⟨w, E1 b w hw⟩
      rw [e] at this; cases this
end
end DL
namespace DL
open PySem PySem.Spec PyProof.Rows L2 Evl
def rMinT (K : PySem.W.Frag) : List V → Hp → VK → Prop := fun vs H Q => ∃ (a : Addr) (xs : List V) (l : List Int) (ls : List (List Int)), vs = [.ref a] ∧ SqL K H a xs ∧ DpAll K H xs ((l :: ls).map encI) ∧
  ∀ (i : Nat) (v : V), xs[i]? = some v → (l :: ls)[i]? = some (minI l ls) → Q v H
section
variable {X : Cx}
theorem cr_minT (hc : X.calm = true) (hu : X.A.units + 64 < cLine) : CallR X (.builtin "min") (rMinT X.K) := by
  intro pins s σ H vs us Q I r h
  obtain ⟨a, xs, l, ls, rfl, hs, hd, q1⟩ := h
  obtain ⟨its, rv, hl, hz⟩ := I.list hs
  obtain ⟨as, ra⟩ := Dp.readsAll I _ _ _ hd rv
  rw [Vals.ref1 r]
  have hdep := depth_encIs (l :: ls)
  refine PySem.W.min_list_data (I.ok.hd hc) hl.isList (x := encI l) (xs := ls.map encI) (as := as) (by simpa using ra) (alike_encIs (l :: ls)) (by rw [List.map_cons] at hdep; omega) (fun i v h' tk bs hi rr hk => ?_)
  have hi' : its[i]? = some v := by simpa using hi
  have hil : i < its.length := (List.getElem?_eq_some_iff.mp hi').1
  have hxl : i < xs.length := by rw [rv.length]; exact hil
  obtain ⟨w, ew, rw'⟩ := rv.get (List.getElem?_eq_getElem hxl)
  rw [hi'] at ew
  cases ew
  obtain ⟨bs', r1, hlen, _, _⟩ := PySem.W.readsAll_at ra i v hi'
  rw [minD_enc] at rr
  have e3 := (reads_det (fun b o q _ => hk b o q) r1 rr).1
  have hll : i < (l :: ls).length := by rw [List.length_map] at hlen; exact hlen
  have e4 : ((l :: ls).map encI).getD i .none = encI ((l :: ls)[i]) := by
    rw [List.getD_eq_getElem?_getD, List.getElem?_map, List.getElem?_eq_getElem hll]; rfl
  rw [e4] at e3
  have e5 := encI_inj e3
  exact ⟨xs[i], H, I.kept hk, rw', q1 i xs[i] (List.getElem?_eq_getElem hxl) (by rw [List.getElem?_eq_getElem hll, ← e5]; rfl)⟩
theorem minT' {K : PySem.W.Frag} (hc : X.calm = true) (hu : X.A.units + 64 < cLine) (h : X.K = K) : CallR X (.builtin "min") (rMinT K) := by subst h; exact cr_minT hc hu
end
section
variable {F : Fr} {G : List Sl} {κ : Kp} {te : TE} {α : Kps}
theorem ck_minT {xs : List PyData} (h : ∃ l ls, xs = [.list ((l :: ls).map encI)] ∧ κ (encI (minI l ls)) G) : CK F (rMinT F.K) xs G κ := fun σ H vs S d Q q => by
  obtain ⟨l, ls, rfl, k⟩ := h
  obtain ⟨v, rfl, dd⟩ := dps1 d
  cases dd with
  | @lst a us _ hs ha =>
    refine ⟨a, us, l, ls, rfl, .inl (.inl (low_ex _ _ hs)), dqs_dp (dps_mono low_ex ha) (nod_encIs (l :: ls)), fun i w hw hm => ?_⟩
    obtain ⟨u, hu, du⟩ := dps_get (i := i) (x := encI (minI l ls)) ha (by rw [List.getElem?_map, hm]; rfl)
    rw [hw] at hu
    cases hu
    exact q w H _ G k S (Ex.refl _) du
/-- return x.f, f the instance's own list -/
theorem eo_fldF {i : Nat} {a C q : Addr} {fs : FS} {f : Str} {ds : List PyData} (hi : G[i]? = some (.obj a C fs)) (c : Cls F.K C) (n : NoAttr F.K C f) (hf : fs.lookup f = some (.own q ds)) (k : α ds (G.set i .any)) : EO F G (tFld F.K (tVar i) f) α := fun σ H S Q hQ => by
  obtain ⟨e, nd1, nd2, dx, ws, ha, hw⟩ := S.objd hi
  obtain ⟨u, hu, rfl, vs, hq, hd⟩ := fsok_look hw hf
  obtain ⟨S1, e1⟩ := S.letGoA hi
  have hin : q ∈ (objS a C fs).as := List.mem_cons_of_mem _ (mem_fads (look_mem hf) List.mem_cons_self)
  have S2 := (S1.ex (delL_del (p := q) hin)).forget i (some (.ref a))
  rw [List.set_set, List.set_set] at S2
  have e3 : σ.set i (some (.ref a)) = σ := by
    have := set_back (c := none) (b := (none : Option V)) e
    rw [List.set_set] at this
    exact this
  rw [e3] at S2
  exact ⟨.ref a, e, a, C, dx, ws, .ref q, rfl, ha, c, n, hu, hQ q vs H ds _ k S2 (e1.trans (low_mono (delL_del hin))) hq (dps_mono (e1.trans (low_mono (delL_del hin))) hd)⟩
end
end DL
namespace DL
open PySem PySem.Spec PyProof.Rows L2 Evl
/-- a join gone through by each branch by itself -/
theorem nx_cutS {F : Fr} {G : List Sl} {D : Ends} {s1 s2 : TS} (h : Nx F G (s1 { D with nx := s2 D })) : Nx F G (C8.tCut s1 s2 D) := fun σ H S => ⟨s2 D, h σ H S, fun _ _ m => m⟩
def tOrI (a b : TI) : TI := fun σ H R => a σ H R ∨ b σ H R
theorem pi_or {X : Cx} {tg iter : Expr} {a b : TI} (h1 : PI X tg iter a) (h2 : PI X tg iter b) : PI X tg iter (tOrI a b) := ⟨fun pins s σ H R I h => h.elim (h1.run pins s σ H R I) (h2.run pins s σ H R I)⟩
theorem eo_lcI1 {F : Fr} {G : List Sl} {α : Kps} {a b : TI} {g : TG} {tt : TT} {te : TE} {vs : List Nat} (h : EO F G (tLc a g tt te vs) α) : EO F G (tLc (tOrI a b) g tt te vs) α := fun σ H S Q q => .inl (h σ H S Q q)
theorem eo_lcI2 {F : Fr} {G : List Sl} {α : Kps} {a b : TI} {g : TG} {tt : TT} {te : TE} {vs : List Nat} (h : EO F G (tLc b g tt te vs) α) : EO F G (tLc (tOrI a b) g tt te vs) α := fun σ H S Q q => .inr (h σ H S Q q)
end DL
namespace DL
open PySem L2 Evl
open Classical in
noncomputable def noz (F : Fr) (H : Hp) : Hp := fun b => if F.Z b then none else H b
theorem noz_in {F : Fr} {H : Hp} {b : Addr} (h : F.Z b) : noz F H b = none := if_pos h
theorem noz_out {F : Fr} {H : Hp} {b : Addr} (h : ¬ F.Z b) : noz F H b = H b := if_neg h
theorem noz_ex {F : Fr} {H : Hp} : Ex (noz F H) H := fun b o e => by
  by_cases h : F.Z b
  · rw [noz_in h] at e; cases e
  · rw [noz_out h] at e; exact e
theorem low_noz {F : Fr} {G : List Sl} {H : Hp} : Ex (low F G H) (noz F H) := fun b o e => by
  obtain ⟨e1, e2, _⟩ := low_some e
  rw [noz_out e2]; exact e1
def EAz (F : Fr) (G : List Sl) (ta : TA) (κ : Kps) : Prop := ∀ σ H, Sat F G σ H → ∀ Q : List V → Hp → Prop,
  (∀ vs H' xs G', κ xs G' → Sat F G' σ H' → Ex (low F G H) (low F G' H') → DqAll F.K (noz F H') vs xs → Q vs H') → ta σ H Q
def flatT : PyData → Bool
  | .tuple xs => xs.all scalD
  | x => scalD x
section
variable {F : Fr} {G : List Sl} {α : Kps} {te : TE} {tr : TA}
theorem eaz_nil (k : α [] G) : EAz F G tNil α := fun σ H S Q q => q [] H [] G k S (Ex.refl _) .nil
theorem eaz_cons (h : EK F G te fun x G1 => EAz F G1 tr fun xs G2 => α (x :: xs) G2) : EAz F G (tCons te tr) α := fun σ H S Q q =>
  h σ H S _ fun v H1 x G1 k1 S1 e1 d1 => k1 σ H1 S1 _ fun vs H2 xs G2 k2 S2 e2 d2 => q (v :: vs) H2 _ G2 k2 S2 (e1.trans e2) (.cons (dp_mono (e2.trans low_noz) d1) d2)
theorem eaz_own {i : Nat} {p : Addr} {ds : List PyData} (hi : G[i]? = some (.own p ds)) (h : EAz F G tr fun xs G2 => ∃ es, G2[i]? = some (.own p es) ∧ α (.list es :: xs) G2) : EAz F G (tCons (tVar i) tr) α := fun σ H S Q q => by
  refine ⟨.ref p, (S.ownd hi).1, h σ H S _ fun vs H2 xs G2 ⟨es, g2, k⟩ S2 e2 d2 => ?_⟩
  obtain ⟨_, ws, hp, hd⟩ := S2.ownd g2
  refine q _ H2 _ G2 k S2 e2 (.cons (.lst ?_ (dps_mono low_noz hd)) d2)
  rw [noz_out (S2.zn p (ads_mem g2 rfl))]
  exact hp
theorem flat_scal {K : PySem.W.Frag} {B B' : Hp} : ∀ {us : List V} {xs : List PyData}, xs.all scalD = true → DqAll K B us xs → DqAll K B' us xs
  | _, [], _, h => by cases h; exact .nil
  | _, x :: xs, e, .cons h t => by
    rw [List.all_cons, Bool.and_eq_true] at e
    exact .cons (scal_any e.1 h) (flat_scal e.2 t)
theorem flat_low {K : PySem.W.Frag} {B B' : Hp} (h : ∀ a us, B a = some (.tup us) → B' a = some (.tup us)) : ∀ {vs : List V} {ys : List PyData}, (∀ y ∈ ys, flatT y = true) → DqAll K B vs ys → DqAll K B' vs ys
  | _, [], _, d => by cases d; exact .nil
  | _, y :: ys, e, .cons d t => by
    refine .cons ?_ (flat_low h (fun z hz => e z (List.mem_cons_of_mem _ hz)) t)
    have ey := e y List.mem_cons_self
    cases d with
    | tup hs ha => exact .tup (h _ _ hs) (flat_scal ey ha)
    | non => exact .non
    | bl b => exact .bl b
    | int i => exact .int i
    | str x => exact .str x
    | lst _ _ => cases ey
    | dct _ _ => cases ey
theorem eo_callPz {T : Trs} {n : Nat} {E : XK} (h : EAz F G tr fun xs G1 => xs.length = n ∧ T xs fun ys => (∀ y ∈ ys, flatT y = true) ∧ α ys G1) : EO F G (tCall (spPO F.K n T) [] E tr) α := fun σ H S Q q =>
  h σ H S _ fun vs H1 xs G1 ⟨hn, k⟩ S1 e1 d1 => by
    show spPO F.K n T (vs ++ []) H1 Q E
    rw [List.append_nil]
    refine ⟨noz F H1, xs, _, noz_ex, d1, hn, k, fun p ws H' ys B' kx g hp d => ?_⟩
    have S2 : Sat F G1 σ (del p H') := S1.ex g.2.1
    refine q p ws H' ys G1 kx.2 S2 (e1.trans (low_mono g.2.1)) hp (flat_low (fun a us ha => ?_) kx.1 d)
    have e2 := g.2.2.1 a _ ha
    rw [low_out (fun z => ?_) fun z => ?_]
    · exact e2
    · obtain ⟨u, hu⟩ := F.zh a z
      have := g.2.2.2 a (noz_in z) ⟨u, S1.zk a u z hu⟩
      rw [ha] at this; cases this
    · obtain ⟨o, ho, nt⟩ := S2.at_nt z
      rw [e2] at ho
      cases ho
      exact nt us rfl
end
end DL
namespace ML
abbrev Seg := Int × Int
/-- a lot all of whose minutes lie behind lo (its first stretch begins behind lo) -/
def Gt : Int → List Seg → Prop
  | _, [] => True
  | lo, s :: r => lo < s.1 ∧ s.1 < s.2 ∧ Gt s.2 r
def IsLot (l : List Seg) : Prop := ∃ lo, Gt lo l
theorem Gt.mono {lo lo' : Int} : ∀ {l : List Seg}, Gt lo l → lo' ≤ lo → Gt lo' l
  | [], _, _ => trivial
  | _ :: _, h, k => ⟨by have := h.1; omega, h.2⟩
def Has (l : List Seg) (m : Int) : Prop := ∃ s ∈ l, s.1 ≤ m ∧ m < s.2
theorem has_nil {m : Int} : ¬ Has [] m := fun ⟨_, h, _⟩ => by cases h
theorem has_cons {s : Seg} {l : List Seg} {m : Int} : Has (s :: l) m ↔ (s.1 ≤ m ∧ m < s.2) ∨ Has l m := by
  constructor
  · rintro ⟨t, ht, h⟩
    rcases List.mem_cons.mp ht with e | e
    · subst e; exact .inl h
    · exact .inr ⟨t, e, h⟩
  · rintro (h | ⟨t, ht, h⟩)
    · exact ⟨s, List.mem_cons_self, h⟩
    · exact ⟨t, List.mem_cons_of_mem _ ht, h⟩
theorem has_append {l k : List Seg} {m : Int} : Has (l ++ k) m ↔ Has l m ∨ Has k m := by
  constructor
  · rintro ⟨t, ht, h⟩
    rcases List.mem_append.mp ht with e | e
    · exact .inl ⟨t, e, h⟩
    · exact .inr ⟨t, e, h⟩
  · rintro (⟨t, ht, h⟩ | ⟨t, ht, h⟩)
    · exact ⟨t, List.mem_append_left _ ht, h⟩
    · exact ⟨t, List.mem_append_right _ ht, h⟩
theorem Gt.has {lo : Int} : ∀ {l : List Seg} {m : Int}, Gt lo l → Has l m → lo < m
  | [], _, _, h => absurd h has_nil
  | s :: r, m, h, k => by
    rcases has_cons.mp k with k | k
    · have := h.1; omega
    · have := Gt.has h.2.2 k
      have := h.1; have := h.2.1; omega
end ML
namespace ML
def size (l : List Seg) : Int := (l.map fun s => s.2 - s.1).sum
end ML
namespace ML
theorem Gt.first {lo : Int} {s : Seg} {r : List Seg} (h : Gt lo (s :: r)) {m : Int} (hm : Has (s :: r) m) : s.1 ≤ m := by
  rcases has_cons.mp hm with q | q
  · exact q.1
  · have := h.2.2.has q
    have := h.2.1
    omega
theorem gt_more : ∀ {pre : List Seg} {lo : Int} {t f : Seg}, Gt lo (pre ++ [t]) → t.2 < f.1 → f.1 < f.2 → Gt lo (pre ++ [t] ++ [f])
  | [], lo, t, f, h, z, y => ⟨h.1, h.2.1, z, y, trivial⟩
  | s :: r, lo, t, f, h, z, y => ⟨h.1, h.2.1, gt_more (pre := r) h.2.2 z y⟩
/-- stretches that rise by their begins, put together -/
structure Joined (done acc : List Seg) : Prop where
  lot : IsLot acc
  has : ∀ m, Has acc m ↔ Has done m
  from_ : ∀ s ∈ acc, ∃ p ∈ done, s.1 = p.1
  len : acc.length ≤ done.length
theorem Joined.more {done pre : List Seg} {t f : Seg} (J : Joined done (pre ++ [t])) (h1 : t.2 < f.1) (h2 : f.1 < f.2) : Joined (done ++ [f]) (pre ++ [t] ++ [f]) where
  lot := let ⟨lo, g⟩ := J.lot; ⟨lo, gt_more g h1 h2⟩
  has m := by rw [has_append, J.has, has_append]
  from_ s hs := by
    rcases List.mem_append.mp hs with q | q
    · obtain ⟨p, hp, e⟩ := J.from_ s q
      exact ⟨p, List.mem_append_left _ hp, e⟩
    · rw [List.mem_singleton] at q
      exact ⟨f, by simp, by rw [q]⟩
  len := by have := J.len; simp only [List.length_append, List.length_cons, List.length_nil] at *; omega
theorem Joined.one {f : Seg} (h2 : f.1 < f.2) : Joined [f] [f] := ⟨⟨f.1 - 1, by omega, h2, trivial⟩, fun _ => Iff.rfl, fun s hs => ⟨s, hs, rfl⟩, Nat.le_refl _⟩
end ML
namespace ML
theorem Joined.start {done : List Seg} {f : Seg} (J : Joined done []) (h2 : f.1 < f.2) : Joined (done ++ [f]) [f] where
  lot := ⟨f.1 - 1, by omega, h2, trivial⟩
  has m := by
    have q := J.has m
    rw [has_append, ← q]
    exact ⟨.inr, fun z => z.elim (fun z => absurd z has_nil) id⟩
  from_ s hs := ⟨f, by simp, by rw [List.mem_singleton] at hs; rw [hs]⟩
  len := by simp only [List.length_append, List.length_cons, List.length_nil]; omega
end ML
namespace LawX
open PySem L2 DL Evl
def clsS : Stmt → Nat → Stmt
  | .ClassDef (body := b) .., j => b.getD j (.Pass ⟨0, 0, 0, 0⟩)
  | s, _ => s
def topS (i : Nat) : Stmt := PySem.Challenge.pw_hourcoin_k10_stretches_gone_through.main.body.getD i (.Pass ⟨0, 0, 0, 0⟩)
abbrev s_Walk__leave : Stmt := clsS (topS 14) 7
theorem sc_Walk__leave : FnScope ["self", "end"] ["self"] (defScope s_Walk__leave) := ⟨rfl, rfl, rfl, by decide +kernel, rfl, by decide +kernel, by decide +kernel⟩
abbrev s_Walk__go : Stmt := clsS (topS 14) 6
theorem sc_Walk__go : FnScope ["self", "minute", "begin"] ["self", "minute"] (defScope s_Walk__go) := ⟨rfl, rfl, rfl, by decide +kernel, rfl, by decide +kernel, by decide +kernel⟩
abbrev s_Walk__come : Stmt := clsS (topS 14) 5
theorem sc_Walk__come : FnScope ["self", "minute"] ["self", "minute"] (defScope s_Walk__come) := ⟨rfl, rfl, rfl, by decide +kernel, rfl, by decide +kernel, by decide +kernel⟩
abbrev s_Walk__guessed_begin : Stmt := clsS (topS 14) 4
theorem sc_Walk__guessed_begin : FnScope ["self", "minute", "shift"] ["self", "minute"] (defScope s_Walk__guessed_begin) := ⟨rfl, rfl, rfl, by decide +kernel, rfl, by decide +kernel, by decide +kernel⟩
abbrev s_Walk__guessed_end : Stmt := clsS (topS 14) 3
theorem sc_Walk__guessed_end : FnScope ["self", "minute", "shift"] ["self", "minute"] (defScope s_Walk__guessed_end) := ⟨rfl, rfl, rfl, by decide +kernel, rfl, by decide +kernel, by decide +kernel⟩
abbrev s_Walk__shift_at : Stmt := clsS (topS 14) 2
theorem sc_Walk__shift_at : FnScope ["self", "minute", "day", "first", "behind"] ["self", "minute"] (defScope s_Walk__shift_at) := ⟨rfl, rfl, rfl, by decide +kernel, rfl, by decide +kernel, by decide +kernel⟩
abbrev s_Walk__shifts_of : Stmt := clsS (topS 14) 1
theorem sc_Walk__shifts_of : FnScope ["self", "day"] ["self", "day"] (defScope s_Walk__shifts_of) := ⟨rfl, rfl, rfl, by decide +kernel, rfl, by decide +kernel, by decide +kernel⟩
abbrev s_Walk__init : Stmt := clsS (topS 14) 0
theorem sc_Walk__init : FnScope ["self", "plan", "most"] ["self", "plan", "most"] (defScope s_Walk__init) := ⟨rfl, rfl, rfl, by decide +kernel, rfl, by decide +kernel, by decide +kernel⟩
abbrev s_rows_to : Stmt := topS 1
theorem sc_rows_to : FnScope ["rows", "number", "low", "high", "middle"] ["rows", "number"] (defScope s_rows_to) := ⟨rfl, rfl, rfl, by decide +kernel, rfl, by decide +kernel, by decide +kernel⟩
abbrev s_has_row : Stmt := topS 2
theorem sc_has_row : FnScope ["rows", "number"] ["rows", "number"] (defScope s_has_row) := ⟨rfl, rfl, rfl, by decide +kernel, rfl, by decide +kernel, by decide +kernel⟩
abbrev s_day_of : Stmt := topS 7
theorem sc_day_of : FnScope ["minute"] ["minute"] (defScope s_day_of) := ⟨rfl, rfl, rfl, by decide +kernel, rfl, by decide +kernel, by decide +kernel⟩
abbrev s_clocks_on : Stmt := topS 9
theorem sc_clocks_on : FnScope ["plan", "day", "standings", "singles", "reached", "shifts", "weekday", "clock", "length"] ["plan", "day"] (defScope s_clocks_on) := ⟨rfl, rfl, rfl, by decide +kernel, rfl, by decide +kernel, by decide +kernel⟩
abbrev s_shifts_on : Stmt := topS 10
theorem sc_shifts_on : FnScope ["plan", "day", "begin", "clock", "length"] ["plan", "day"] (defScope s_shifts_on) := ⟨rfl, rfl, rfl, by decide +kernel, rfl, by decide +kernel, by decide +kernel⟩
abbrev s_turn_of : Stmt := topS 12
theorem sc_turn_of : FnScope ["stamp", "word", "minute"] ["stamp"] (defScope s_turn_of) := ⟨rfl, rfl, rfl, by decide +kernel, rfl, by decide +kernel, by decide +kernel⟩
abbrev s_in_order : Stmt := topS 13
theorem sc_in_order : FnScope ["stamps", "rows", "stamp", "minute", "coming"] ["stamps"] (defScope s_in_order) := ⟨rfl, rfl, rfl, by decide +kernel, rfl, by decide +kernel, by decide +kernel⟩
abbrev s_stretches : Stmt := topS 15
theorem sc_stretches : FnScope ["stamps", "plan", "most", "walk", "word", "minute"] ["stamps", "plan", "most"] (defScope s_stretches) := ⟨rfl, rfl, rfl, by decide +kernel, rfl, by decide +kernel, by decide +kernel⟩
abbrev s__law_feed : Stmt := topS 17
theorem sc__law_feed : FnScope ["script"] ["script"] (defScope s__law_feed) := ⟨rfl, rfl, rfl, by decide +kernel, rfl, by decide +kernel, by decide +kernel⟩
abbrev s__law_draw : Stmt := topS 18
theorem sc__law_draw : FnScope ["feed", "many", "found", "at", "cell", "mixed"] ["feed", "many"] (defScope s__law_draw) := ⟨rfl, rfl, rfl, by decide +kernel, rfl, by decide +kernel, by decide +kernel⟩
abbrev s__law_of : Stmt := topS 19
theorem sc__law_of : FnScope ["feed", "some"] ["feed", "some"] (defScope s__law_of) := ⟨rfl, rfl, rfl, by decide +kernel, rfl, by decide +kernel, by decide +kernel⟩
abbrev s__law_shifts : Stmt := topS 20
theorem sc__law_shifts : FnScope ["feed", "weekly", "found", "turn", "clock", "row"] ["feed", "weekly"] (defScope s__law_shifts) := ⟨rfl, rfl, rfl, by decide +kernel, rfl, by decide +kernel, by decide +kernel⟩
abbrev s__law_plan : Stmt := topS 21
theorem sc__law_plan : FnScope ["feed", "near", "parts", "weekly", "rows", "turn", "day"] ["feed", "near"] (defScope s__law_plan) := ⟨rfl, rfl, rfl, by decide +kernel, rfl, by decide +kernel, by decide +kernel⟩
abbrev s__law_shifts_on : Stmt := topS 22
theorem sc__law_shifts_on : FnScope ["plan", "day", "own", "below", "row", "clock", "long"] ["plan", "day"] (defScope s__law_shifts_on) := ⟨rfl, rfl, rfl, by decide +kernel, rfl, by decide +kernel, by decide +kernel⟩
abbrev s__law_shifts_by : Stmt := topS 23
theorem sc__law_shifts_by : FnScope ["plan", "minute", "found", "day"] ["plan", "minute"] (defScope s__law_shifts_by) := ⟨rfl, rfl, rfl, by decide +kernel, rfl, by decide +kernel, by decide +kernel⟩
abbrev s__law_end : Stmt := topS 24
theorem sc__law_end : FnScope ["plan", "most", "begin", "some", "one"] ["plan", "most", "begin"] (defScope s__law_end) := ⟨rfl, rfl, rfl, by decide +kernel, rfl, by decide +kernel, by decide +kernel⟩
abbrev s__law_begin : Stmt := topS 25
theorem sc__law_begin : FnScope ["plan", "most", "end", "some", "one"] ["plan", "most", "end"] (defScope s__law_begin) := ⟨rfl, rfl, rfl, by decide +kernel, rfl, by decide +kernel, by decide +kernel⟩
abbrev s__law_owed : Stmt := topS 26
theorem sc__law_owed : FnScope ["stamps", "plan", "most", "found", "state", "minute", "least", "begin", "stamp"] ["stamps", "plan", "most"] (defScope s__law_owed) := ⟨rfl, rfl, rfl, by decide +kernel, rfl, by decide +kernel, by decide +kernel⟩
abbrev s__law_stamps : Stmt := topS 27
theorem sc__law_stamps : FnScope ["feed", "plan", "near", "bounds", "day", "one", "here", "found", "turn", "minute"] ["feed", "plan", "near"] (defScope s__law_stamps) := ⟨rfl, rfl, rfl, by decide +kernel, rfl, by decide +kernel, by decide +kernel⟩
abbrev s_law : Stmt := topS 28
theorem sc_law : FnScope ["script", "feed", "near", "plans", "mosts", "stamps", "cut", "fewer", "first", "some", "kept", "rows", "plan", "most", "handed", "told", "turn"] ["script"] (defScope s_law) := ⟨rfl, rfl, rfl, by decide +kernel, rfl, by decide +kernel, by decide +kernel⟩
structure Tx (K : PySem.W.Frag) (mg : Str → Option Value) : Prop where
  f_Walk__leave : ∃ f fd, Fun K "leave" "Walk.leave" s_Walk__leave f fd ∧ (∀ C, mg "Walk" = some (.ref C) → Meth K C "leave" f) ∧ Binds K fd ["self"] []
  f_Walk__go : ∃ f fd, Fun K "go" "Walk.go" s_Walk__go f fd ∧ (∀ C, mg "Walk" = some (.ref C) → Meth K C "go" f) ∧ Binds K fd ["self", "minute"] []
  f_Walk__come : ∃ f fd, Fun K "come" "Walk.come" s_Walk__come f fd ∧ (∀ C, mg "Walk" = some (.ref C) → Meth K C "come" f) ∧ Binds K fd ["self", "minute"] []
  f_Walk__guessed_begin : ∃ f fd, Fun K "guessed_begin" "Walk.guessed_begin" s_Walk__guessed_begin f fd ∧ (∀ C, mg "Walk" = some (.ref C) → Meth K C "guessed_begin" f) ∧ Binds K fd ["self", "minute"] []
  f_Walk__guessed_end : ∃ f fd, Fun K "guessed_end" "Walk.guessed_end" s_Walk__guessed_end f fd ∧ (∀ C, mg "Walk" = some (.ref C) → Meth K C "guessed_end" f) ∧ Binds K fd ["self", "minute"] []
  f_Walk__shift_at : ∃ f fd, Fun K "shift_at" "Walk.shift_at" s_Walk__shift_at f fd ∧ (∀ C, mg "Walk" = some (.ref C) → Meth K C "shift_at" f) ∧ Binds K fd ["self", "minute"] []
  f_Walk__shifts_of : ∃ f fd, Fun K "shifts_of" "Walk.shifts_of" s_Walk__shifts_of f fd ∧ (∀ C, mg "Walk" = some (.ref C) → Meth K C "shifts_of" f) ∧ Binds K fd ["self", "day"] []
  f_rows_to : ∃ f fd, Fun K "rows_to" "rows_to" s_rows_to f fd ∧ mg "rows_to" = some (.ref f) ∧ Binds K fd ["rows", "number"] []
  f_has_row : ∃ f fd, Fun K "has_row" "has_row" s_has_row f fd ∧ mg "has_row" = some (.ref f) ∧ Binds K fd ["rows", "number"] []
  f_day_of : ∃ f fd, Fun K "day_of" "day_of" s_day_of f fd ∧ mg "day_of" = some (.ref f) ∧ Binds K fd ["minute"] []
  f_clocks_on : ∃ f fd, Fun K "clocks_on" "clocks_on" s_clocks_on f fd ∧ mg "clocks_on" = some (.ref f) ∧ Binds K fd ["plan", "day"] []
  f_shifts_on : ∃ f fd, Fun K "shifts_on" "shifts_on" s_shifts_on f fd ∧ mg "shifts_on" = some (.ref f) ∧ Binds K fd ["plan", "day"] []
  f_turn_of : ∃ f fd, Fun K "turn_of" "turn_of" s_turn_of f fd ∧ mg "turn_of" = some (.ref f) ∧ Binds K fd ["stamp"] []
  f_in_order : ∃ f fd, Fun K "in_order" "in_order" s_in_order f fd ∧ mg "in_order" = some (.ref f) ∧ Binds K fd ["stamps"] []
  f_stretches : ∃ f fd, Fun K "stretches" "stretches" s_stretches f fd ∧ mg "stretches" = some (.ref f) ∧ Binds K fd ["stamps", "plan", "most"] []
  f__law_feed : ∃ f fd, Fun K "_law_feed" "_law_feed" s__law_feed f fd ∧ mg "_law_feed" = some (.ref f) ∧ Binds K fd ["script"] []
  f__law_draw : ∃ f fd, Fun K "_law_draw" "_law_draw" s__law_draw f fd ∧ mg "_law_draw" = some (.ref f) ∧ Binds K fd ["feed", "many"] []
  f__law_of : ∃ f fd, Fun K "_law_of" "_law_of" s__law_of f fd ∧ mg "_law_of" = some (.ref f) ∧ Binds K fd ["feed", "some"] []
  f__law_shifts : ∃ f fd, Fun K "_law_shifts" "_law_shifts" s__law_shifts f fd ∧ mg "_law_shifts" = some (.ref f) ∧ Binds K fd ["feed", "weekly"] []
  f__law_plan : ∃ f fd, Fun K "_law_plan" "_law_plan" s__law_plan f fd ∧ mg "_law_plan" = some (.ref f) ∧ Binds K fd ["feed", "near"] []
  f__law_shifts_on : ∃ f fd, Fun K "_law_shifts_on" "_law_shifts_on" s__law_shifts_on f fd ∧ mg "_law_shifts_on" = some (.ref f) ∧ Binds K fd ["plan", "day"] []
  f__law_shifts_by : ∃ f fd, Fun K "_law_shifts_by" "_law_shifts_by" s__law_shifts_by f fd ∧ mg "_law_shifts_by" = some (.ref f) ∧ Binds K fd ["plan", "minute"] []
  f__law_end : ∃ f fd, Fun K "_law_end" "_law_end" s__law_end f fd ∧ mg "_law_end" = some (.ref f) ∧ Binds K fd ["plan", "most", "begin"] []
  f__law_begin : ∃ f fd, Fun K "_law_begin" "_law_begin" s__law_begin f fd ∧ mg "_law_begin" = some (.ref f) ∧ Binds K fd ["plan", "most", "end"] []
  f__law_owed : ∃ f fd, Fun K "_law_owed" "_law_owed" s__law_owed f fd ∧ mg "_law_owed" = some (.ref f) ∧ Binds K fd ["stamps", "plan", "most"] []
  f__law_stamps : ∃ f fd, Fun K "_law_stamps" "_law_stamps" s__law_stamps f fd ∧ mg "_law_stamps" = some (.ref f) ∧ Binds K fd ["feed", "plan", "near"] []
  c_Walk : ∃ C, mg "Walk" = some (.ref C)
  q_Walk : ∀ C, mg "Walk" = some (.ref C) → InsF K C
  n_Walk_found : ∀ C, mg "Walk" = some (.ref C) → NoAttr K C "found"
  n_Walk_inside : ∀ C, mg "Walk" = some (.ref C) → NoAttr K C "inside"
  n_Walk_most : ∀ C, mg "Walk" = some (.ref C) → NoAttr K C "most"
  n_Walk_plan : ∀ C, mg "Walk" = some (.ref C) → NoAttr K C "plan"
  n_Walk_shifts : ∀ C, mg "Walk" = some (.ref C) → NoAttr K C "shifts"
  n_Walk_since : ∀ C, mg "Walk" = some (.ref C) → NoAttr K C "since"
  i_Walk : ∃ C f fd, mg "Walk" = some (.ref C) ∧ Mk K C f ∧ Fun K "__init__" "Walk.__init__" s_Walk__init f fd ∧ Binds K fd ["self", "plan", "most"] []
  b_isinstance : mg "isinstance" = none
  b_len : mg "len" = none
  b_list : mg "list" = none
  b_max : mg "max" = none
  b_min : mg "min" = none
  b_range : mg "range" = none
  b_repr : mg "repr" = none
  b_set : mg "set" = none
  b_sorted : mg "sorted" = none
  b_tuple : mg "tuple" = none
  c_DAY_LONG : ∃ t, mg "DAY_LONG" = some (.int 1440 t)
  c_LAST_DAY : ∃ t, mg "LAST_DAY" = some (.int 694443 t)
  c_WEEK_DAYS : ∃ t, mg "WEEK_DAYS" = some (.int 7 t)
def OkD (P : Program) (w : World) (K : PySem.W.Frag) (mg : Str → Option Value) (base : Heap) (x : Str) (lvl : Nat) (ps : List Str) (sp : Sp) : Prop :=
  ∃ f fd, mg x = some (.ref f) ∧ PySem.W.keepIn K (.ref f) = true ∧ Binds K fd ps [] ∧ FnOk P w K mg base CX0 lvl f fd ps sp
local macro_rules | `(tactic| walk_at "dlrk") => `(tactic| first
  | ((with_reducible refine rk_add ?_); (refine ⟨_, _, rfl, rfl, ?_⟩))
  | ((with_reducible refine rk_sub ?_); (refine ⟨_, _, rfl, rfl, ?_⟩))
  | ((with_reducible refine rk_mul ?_); (refine ⟨_, _, rfl, rfl, ?_, ?_⟩); (focus (first | exact .inl ⟨by omega, by omega⟩ | exact .inr ⟨by omega, by omega⟩)))
  | ((with_reducible refine rk_mod ?_); (refine ⟨_, _, rfl, rfl, ?_, ?_⟩); (focus omega))
  | ((with_reducible refine rk_fdiv ?_); (refine ⟨_, _, rfl, rfl, ?_, ?_, ?_⟩); (focus omega); (focus omega))
  | ((with_reducible refine rk_pow ?_); (refine ⟨_, _, rfl, rfl, ?_, ?_⟩); (focus exact ⟨by decide, by decide, by decide⟩); (try simp only [Int.reduceToNat, Int.reducePow]))
  | ((with_reducible refine rk_lt ?_); (refine ⟨_, _, rfl, rfl, ?_⟩))
  | ((with_reducible refine rk_le ?_); (refine ⟨_, _, rfl, rfl, ?_⟩))
  | ((with_reducible refine rk_gt ?_); (refine ⟨_, _, rfl, rfl, ?_⟩))
  | ((with_reducible refine rk_ge ?_); (refine ⟨_, _, rfl, rfl, ?_⟩))
  | ((with_reducible refine rk_eqI ?_); (refine ⟨_, _, rfl, rfl, ?_⟩))
  | ((with_reducible refine rk_eqTc ?_); (first | refine ⟨_, _, _, rfl, rfl, (show decide _ = true by decide +kernel), ?_⟩ | refine ⟨_, _, _, rfl, rfl, (show decide _ = false by decide +kernel), ?_⟩))
  | ((with_reducible refine rk_eqT ?_); (refine ⟨_, _, rfl, rfl, ?_⟩))
  | ((with_reducible refine rk_neT ?_); (refine ⟨_, _, rfl, rfl, ?_⟩))
  | (with_reducible refine rk_isN rfl ?_)
  | ((with_reducible refine rk_cat ?_); (refine ⟨_, _, rfl, rfl, ?_, ?_⟩); (focus first | exact Nat.le_of_ble_eq_true rfl | omega | (simp only [List.length_map, List.length_append, List.length_cons, List.length_nil]; omega)))
  | ((with_reducible refine rk_ixL ?_); (refine ⟨_, _, _, rfl, rfl, rfl, ?_⟩))
  | ((with_reducible refine rk_ixT ?_); (refine ⟨_, _, _, rfl, rfl, rfl, ?_⟩))
  | ((with_reducible refine rk_catA ?_); (refine ⟨_, _, rfl, rfl, Nat.le_of_ble_eq_true rfl, ?_⟩)))
local macro_rules | `(tactic| walk_at "dlend") => `(tactic| first
  | ((with_reducible refine And.intro (fun (hc : _ = true) => ?_) (fun (hc : _ = false) => ?_)) <;> first | (exfalso; exact absurd hc Bool.false_ne_true) | (exfalso; exact absurd hc.symm Bool.false_ne_true) | (simp only [decide_eq_true_eq, decide_eq_false_iff_not, Bool.not_eq_true', Bool.not_eq_false', Int.not_lt, Int.not_le] at hc) | skip)
  | ((with_reducible refine And.intro (fun (hc : _ = false) => ?_) (fun (hc : _ = true) => ?_)) <;> first | (exfalso; exact absurd hc Bool.false_ne_true) | (exfalso; exact absurd hc.symm Bool.false_ne_true) | (simp only [decide_eq_true_eq, decide_eq_false_iff_not, Bool.not_eq_true', Bool.not_eq_false', Int.not_lt, Int.not_le] at hc) | skip)
  | (refine ⟨(show _ < List.length _ from Nat.le_of_ble_eq_true rfl), ?_⟩; (try with_reducible refine fun (p_ : Addr) => ?_))
  | (refine ⟨_, _, _, (show _ = [_, _, _] from rfl), (show _ < List.length _ from Nat.le_of_ble_eq_true rfl), (show _ < List.length _ from Nat.le_of_ble_eq_true rfl), (show _ < List.length _ from Nat.le_of_ble_eq_true rfl), ?_⟩)
  | (refine ⟨_, _, (show _ = [_, _] from rfl), (show _ < List.length _ from Nat.le_of_ble_eq_true rfl), (show _ < List.length _ from Nat.le_of_ble_eq_true rfl), ?_⟩)
  | (refine ⟨_, (show kitB _ _ = some _ from rfl), ?_⟩)
  | (refine ⟨(show List.length _ ≤ 1000 from Nat.le_of_ble_eq_true rfl), ?_⟩)
  | (refine ⟨(show List.length _ = _ from rfl), ?_⟩)
  | (refine ⟨_, _, (show PyData.int _ = PyData.int _ from rfl), (show PyData.int _ = PyData.int _ from rfl), ?_⟩)
  | ((refine ⟨_, _, (show _ = some (Sl.fd _ _) from rfl), _, (show _ = some (Sl.fd _ _) from rfl), ?_, rfl, ?_⟩); (focus omega))
  | (refine ⟨(show scalD _ = true from rfl), ?_⟩)
  | ((refine ⟨_, (show _ = some (Sl.own _ _) from rfl), ?_⟩))
  | (refine ⟨_, (show PyData.bool _ = PyData.bool _ from rfl), ?_⟩)
  | (refine ⟨_, (show PyData.int _ = PyData.int _ from rfl), (show _ < List.length _ from Nat.le_of_ble_eq_true rfl), ?_⟩)
  | (refine ⟨_, (show PyData.int _ = PyData.int _ from rfl), ?_⟩)
  | (refine ⟨fun (z_ : Str) (e_ : PyData.list _ = PyData.str z_) => PyData.noConfusion e_, ?_⟩)
  | (refine ⟨fun (z_ : Str) (e_ : PyData.tuple _ = PyData.str z_) => PyData.noConfusion e_, ?_⟩)
  | ((refine ⟨_, _, (show _ = some (Sl.own _ _) from rfl), (show _ = some (Sl.own _ _) from rfl), ?_, ?_⟩); (focus first | exact Nat.lt_of_lt_of_le (show List.length _ < 100 from Nat.le_of_ble_eq_true rfl) (by decide) | omega | (simp only [List.length_map, List.length_append, List.length_cons, List.length_nil]; omega)))
  | ((refine ⟨_, _, (show _ = some (Sl.own _ _) from rfl), ?_⟩); (with_reducible show EK _ _ _ _))
  | ((refine ⟨_, _, (show _ = some (Sl.dic _ _) from rfl), ?_⟩); (with_reducible show EK _ _ _ _))
  | ((refine ⟨_, _, (show PyData.list _ = PyData.list _ from rfl), (show _ = some (Sl.own _ _) from rfl), ?_, ?_⟩); (focus first | exact Nat.le_of_ble_eq_true rfl | omega | (simp only [List.length_map, List.length_append, List.length_cons, List.length_nil]; omega)))
  | (refine ⟨_, _, _, (show _ = some (Sl.own _ _) from rfl), rfl, rfl, ?_⟩))
local macro_rules | `(tactic| walk_at "dl") => `(tactic| repeat' (walk_at "dl1"))
local macro_rules | `(tactic| walk_at "dl1") => `(tactic| first
  | (with_reducible refine nx_seq ?_)
  | (with_reducible refine nx_next ?_)
  | (with_reducible refine nx_own ?_)
  | (refine fun (B_ : Hp) (p_ : Addr) (ws_ : List V) (hB_ : Ex _ B_) => ?_)
  | (with_reducible refine nx_ownR ?_)
  | (with_reducible refine nx_ownD ?_)
  | (with_reducible refine nx_dput ?_)
  | (with_reducible refine ed_new ?_)
  | ((with_reducible refine' ek_dget ?h ?_); (case h => exact rfl))
  | (with_reducible refine nx_asg ?_)
  | (with_reducible refine nx_asgG ?_)
  | ((with_reducible refine' nx_app ?h ?_); (case h => exact ⟨_, _, rfl⟩))
  | ((with_reducible refine nx_clear ?_); (refine ⟨_, _, rfl, ?_⟩))
  | (with_reducible refine nx_if ?_)
  | ((with_reducible refine' nx_retOwn ?h ?_); (case h => exact rfl))
  | (with_reducible refine nx_ret ?_)
  | ((with_reducible refine' ek_var ?h ?_); (case h => exact rfl))
  | ((with_reducible refine' gk_name ?h ?_); (case h => exact Nat.le_of_ble_eq_true rfl))
  | ((with_reducible refine gk_tup ?_); (refine ⟨_, rfl, rfl, ?_⟩))
  | (with_reducible refine gks_cons ?_)
  | (with_reducible refine gks_nil ?_)
  | (with_reducible refine ek_int ?_)
  | ((with_reducible refine ck_tupleOf ?_); (refine ⟨_, .inl rfl, ?_⟩))
  | (with_reducible refine ek_bl ?_)
  | (with_reducible refine ek_non ?_)
  | (with_reducible refine ek_str ?_)
  | ((with_reducible refine' ek_ixO ?h ?_); (case h => exact rfl))
  | ((with_reducible refine' ek_neO ?h ?_); (case h => exact rfl))
  | ((with_reducible refine' ek_ixF ?h ?_); (case h => exact rfl); (refine fun (cs_ : List Int) (hcs_ : cs_.length ≤ 63) => ?_))
  | ((with_reducible refine' ek_ninO ?h ?_); (case h => exact ⟨_, _, rfl⟩))
  | (with_reducible refine ek_op ?_)
  | (with_reducible refine ek_neg ?_)
  | (with_reducible refine ek_if ?_)
  | (with_reducible refine ek_chainI ?_)
  | ((with_reducible refine' ek_methV ?hi ?hl ?hm ?_); (case hi => exact rfl); (case hl => exact rfl); (case hm => decide))
  | ((with_reducible refine' ek_isiV ?h ?f ?hk ?hl ?_); (case h => exact rfl); (case f => assumption); (case hk => assumption); (case hl => exact rfl))
  | (refine ek_fld ?_)
  | (refine ek_makeI ?_)
  | ((with_reducible refine ⟨_, _, _, _, (show insD _ _ _ = insD _ _ _ from rfl), rfl, ?c_, ?n_, rfl, ?_⟩); (case c_ => assumption); (case n_ => assumption))
  | (with_reducible refine EO.ek (eo_sortZ ?_))
  | (with_reducible refine eo_sortZ ?_)
  | (with_reducible refine ez_set ?_)
  | (with_reducible refine EO.ek (eo_sortP2 ?_))
  | (with_reducible refine eo_sortP2 ?_)
  | (with_reducible refine EO.ek (eo_sort2 ?_))
  | (with_reducible refine EO.ek (eo_sortN ?_))
  | (with_reducible refine EO.ek (eo_sortIO ?_))
  | (with_reducible refine EO.ek (eo_sortedD ?_))
  | (with_reducible refine eo_sortIO ?_)
  | (with_reducible refine eo_sortedD ?_)
  | (with_reducible refine ek_cb ?_)
  | (with_reducible refine ek_tup ?_)
  | (with_reducible refine ek_callP ?_)
  | (with_reducible refine ek_callF ⟨_, _, rfl⟩ ?_)
  | (with_reducible refine ea_nil ?_)
  | (with_reducible refine ea_cons ?_)
  | (with_reducible refine et_test ?_)
  | (with_reducible refine et_yes ?_)
  | (with_reducible refine et_B ?_)
  | (with_reducible refine et_and ?_)
  | (with_reducible refine et_or ?_)
  | (with_reducible refine et_not ?_)
  | (with_reducible refine ep_none ?_)
  | (with_reducible refine ep_some ?_)
  | (with_reducible refine eo_lst ?_)
  | (with_reducible refine eo_callP ?_)
  | (with_reducible refine eo_callF ⟨_, _, rfl⟩ ?_)
  | ((with_reducible refine eo_listOf ?_))
  | (with_reducible refine ek_slT ?_)
  | ((with_reducible refine' eo_slScr ?h ?_); (case h => exact rfl))
  | (with_reducible refine eo_slLx ?_)
  | (with_reducible refine isLst ?_)
  | (with_reducible refine isTpl ?_)
  | (with_reducible refine EO.ek ?_)
  | (walk_at "dlrk")
  | ((with_reducible refine ck_listOf ?_); (first | refine ⟨_, .inl rfl, ?_⟩ | refine ⟨_, .inr rfl, ?_⟩))
  | ((with_reducible refine ck_max2 ?_); (refine ⟨_, _, rfl, ?_⟩))
  | ((with_reducible refine ck_min2 ?_); (refine ⟨_, _, rfl, ?_⟩))
  | ((with_reducible refine ck_len ?_); (first | refine ⟨_, .inl rfl, ?_⟩ | refine ⟨_, .inr rfl, ?_⟩))
  | (walk_at "dlend")
  | (walk_at "call")
  | fail "dl")
def encP (s : ML.Seg) : PyData := .tuple [.int s.1, .int s.2]
def encL (l : List ML.Seg) : List PyData := l.map encP
theorem encL_len (l : List ML.Seg) : (encL l).length = l.length := List.length_map _
theorem encL_append (l k : List ML.Seg) : encL (l ++ k) = encL l ++ encL k := List.map_append
theorem at_enc {l : List ML.Seg} {i : Nat} (h : i < l.length) : atI (encL l) (i : Int) = some (encP l[i]) := atI_nat (by
  unfold encL
  rw [List.getElem?_map, List.getElem?_eq_getElem h]; rfl)
theorem encL_get {l : List ML.Seg} {i : Nat} {x : PyData} (h : (encL l)[i]? = some x) : ∃ s, l[i]? = some s ∧ x = encP s := by
  unfold encL at h
  rw [List.getElem?_map] at h
  cases e : l[i]? with
  | none => rw [e] at h; cases h
  | some s => rw [e] at h; exact ⟨s, rfl, (Option.some.inj h).symm⟩
theorem rk_ixEnc {F : Fr} {G : List Sl} {κ : Kp} {x y : PyData} (h : ∃ l i, x = .list (encL l) ∧ y = .int i ∧ 0 ≤ i ∧ i < (l.length : Int) ∧ ∀ s, s ∈ l → κ (encP s) G) : RK F (rIxL F.K) x y G κ := by
  obtain ⟨l, i, rfl, rfl, h0, h1, k⟩ := h
  refine rk_ixAny ⟨_, _, rfl, rfl, h0, by rw [encL_len]; exact h1, fun d hd => ?_⟩
  obtain ⟨s, hs, rfl⟩ := List.mem_map.mp hd
  exact k s hs
local macro_rules | `(tactic| walk_at "call") => `(tactic| ((with_reducible refine rk_ixEnc ?_); (refine ⟨_, _, rfl, rfl, ?_, ?_, fun (s_ : ML.Seg) (hs_ : s_ ∈ _) => ?_⟩); (focus omega); (focus first | omega | (simp only [encL_len] at *; omega))))
local macro_rules | `(tactic| walk_at "call") => `(tactic| ((with_reducible refine rk_ixL ?_); (refine ⟨_, _, _, rfl, rfl, at_enc ?_, ?_⟩); (focus omega)))
local macro_rules | `(tactic| walk_at "call") => `(tactic| ((refine ⟨_, _, (show _ = some (Sl.own _ (encL _)) from rfl), (show _ = some (Sl.own _ _) from rfl), ?_, ?_⟩); (focus (rw [encL_len]; omega))))
theorem kit_ll : kitB "list" "list" = some true := by decide +kernel
theorem kit_tt : kitB "tuple" "tuple" = some true := by decide +kernel
local macro_rules | `(tactic| walk_at "call") => `(tactic| (first | (refine ⟨_, kit_ll, ?_⟩) | (refine ⟨_, kit_tt, ?_⟩)))
abbrev Row := Int × List (List Int)
def encRow (r : Row) : PyData := .tuple [.int r.1, .tuple (r.2.map encI)]
def encRows (l : List Row) : List PyData := l.map encRow
structure Plan where
  st : List Row
  sg : List Row
def encPlan (p : Plan) : PyData := .tuple [.tuple (encRows p.st), .tuple (encRows p.sg)]
def ShOk (d : Nat) (s : List Int) : Prop := (d = 2 ∧ ∃ c l, s = [c, l] ∧ 0 ≤ c ∧ c ≤ 1439 ∧ 1 ≤ l ∧ l ≤ 1440) ∨ (d = 3 ∧ ∃ w c l, s = [w, c, l] ∧ 0 ≤ w ∧ w ≤ 6 ∧ 0 ≤ c ∧ c ≤ 1439 ∧ 1 ≤ l ∧ l ≤ 1440)
structure RowOk (d : Nat) (r : Row) : Prop where
  lo : 0 ≤ r.1
  hi : r.1 ≤ 694443
  len : r.2.length ≤ 63
  up : Rising r.2
  ok : ∀ s ∈ r.2, ShOk d s
structure RowsOk (d : Nat) (l : List Row) : Prop where
  up : l.Pairwise fun a b => a.1 < b.1
  len : l.length ≤ 1000
  ok : ∀ r ∈ l, RowOk d r
structure PlanOk (p : Plan) : Prop where
  st : RowsOk 3 p.st
  sg : RowsOk 2 p.sg
theorem encRows_len (l : List Row) : (encRows l).length = l.length := List.length_map _
theorem encRows_get {l : List Row} {i : Nat} {x : PyData} (h : (encRows l)[i]? = some x) : ∃ r, l[i]? = some r ∧ x = encRow r := by
  unfold encRows at h
  rw [List.getElem?_map] at h
  cases e : l[i]? with
  | none => rw [e] at h; cases h
  | some s => rw [e] at h; exact ⟨s, rfl, (Option.some.inj h).symm⟩
theorem at_rows {l : List Row} {i : Nat} (h : i < l.length) : atI (encRows l) (i : Int) = some (encRow l[i]) := atI_nat (by
  unfold encRows
  rw [List.getElem?_map, List.getElem?_eq_getElem h]; rfl)
/-- how many rows have a day that isn't above this one -/
def upTo (l : List Row) (d : Int) : Nat := l.countP fun r => decide (r.1 ≤ d)
theorem upTo_le (l : List Row) (d : Int) : upTo l d ≤ l.length := List.countP_le_length
theorem upTo_none {l : List Row} {d : Int} (h : ∀ r ∈ l, d < r.1) : upTo l d = 0 := by
  unfold upTo
  rw [List.countP_eq_zero]
  intro r hr
  have := h r hr
  simp only [decide_eq_true_eq]
  omega
theorem upTo_iff : ∀ {l : List Row} {d : Int} {i : Nat} {r : Row}, (l.Pairwise fun a b => a.1 < b.1) → l[i]? = some r → (r.1 ≤ d ↔ i < upTo l d)
  | [], _, _, _, _, h => by simp at h
  | a :: t, d, i, r, p, h => by
    rw [List.pairwise_cons] at p
    by_cases ha : a.1 ≤ d
    · have e : upTo (a :: t) d = upTo t d + 1 := List.countP_cons_of_pos (decide_eq_true ha)
      rw [e]
      cases i with
      | zero =>
        have e' : a = r := by simpa using h
        subst e'
        exact ⟨fun _ => Nat.succ_pos _, fun _ => ha⟩
      | succ i =>
        rw [upTo_iff (i := i) p.2 (by simpa using h)]
        omega
    · have e : upTo (a :: t) d = 0 := upTo_none fun r hr => by
        rcases List.mem_cons.mp hr with rfl | hr
        · omega
        · have := p.1 r hr; omega
      rw [e]
      have : a.1 ≤ r.1 := by
        cases i with
        | zero =>
          have e' : a = r := by simpa using h
          rw [e']; exact Int.le_refl _
        | succ i =>
          have := p.1 r (List.mem_of_getElem? (show t[i]? = some r by simpa using h))
          omega
      omega
def hasDay (l : List Row) (d : Int) : Bool := l.any fun r => decide (r.1 = d)
theorem hasDay_iff {l : List Row} {d : Int} (p : l.Pairwise fun a b => a.1 < b.1) : hasDay l d = true ↔ upTo l (d - 1) < upTo l d := by
  unfold hasDay
  rw [List.any_eq_true]
  constructor
  · rintro ⟨r, hr, e⟩
    have e := of_decide_eq_true e
    obtain ⟨i, hi⟩ := List.getElem?_of_mem hr
    have h1 := (upTo_iff (d := d) p hi).mp (by omega)
    have h2 := fun z => (upTo_iff (d := d - 1) p hi).mpr z
    by_cases z : i < upTo l (d - 1)
    · have := h2 z; omega
    · omega
  · intro h
    have hl := upTo_le l d
    have hi : upTo l (d - 1) < l.length := by omega
    refine ⟨l[upTo l (d - 1)], List.getElem_mem hi, ?_⟩
    have h1 := (upTo_iff (d := d) p (List.getElem?_eq_getElem hi)).mpr h
    have h2 := fun z => (upTo_iff (d := d - 1) p (List.getElem?_eq_getElem hi)).mp z
    refine decide_eq_true ?_
    by_cases z : (l[upTo l (d - 1)]).1 ≤ d - 1
    · have := h2 z; omega
    · omega
/-- the row of that very day -/
theorem hasDay_row {l : List Row} {d : Int} (p : l.Pairwise fun a b => a.1 < b.1) (h : hasDay l d = true) : ∃ (hi : upTo l d - 1 < l.length), 1 ≤ upTo l d ∧ (l[upTo l d - 1]'hi).1 = d ∧ l.filter (fun r => decide (r.1 = d)) = [l[upTo l d - 1]'hi] := by
  have h' := (hasDay_iff p).mp h
  have hl := upTo_le l d
  have hi : upTo l d - 1 < l.length := by omega
  obtain ⟨r, hr, e⟩ := List.any_eq_true.mp h
  have e := of_decide_eq_true e
  obtain ⟨i, hi'⟩ := List.getElem?_of_mem hr
  have h1 := (upTo_iff (d := d) p hi').mp (by omega)
  have ei : i = upTo l d - 1 := by
    by_cases z : i = upTo l d - 1
    · exact z
    · have hlt : i < upTo l d - 1 := by omega
      have a := List.pairwise_iff_getElem.mp p i (upTo l d - 1) (List.getElem?_eq_some_iff.mp hi').1 hi hlt
      have b := (upTo_iff (d := d) p (List.getElem?_eq_getElem hi)).mpr (by omega)
      rw [(List.getElem?_eq_some_iff.mp hi').2] at a
      omega
  subst ei
  have er : l[upTo l d - 1] = r := (List.getElem?_eq_some_iff.mp hi').2
  refine ⟨hi, by omega, by rw [er]; exact e, ?_⟩
  have fp : (l.filter fun r => decide (r.1 = d)).Pairwise fun a b => a.1 < b.1 := p.filter _
  have fm : ∀ x ∈ l.filter (fun r => decide (r.1 = d)), x.1 = d := fun x hx => of_decide_eq_true (List.mem_filter.mp hx).2
  have rm : r ∈ l.filter (fun r => decide (r.1 = d)) := List.mem_filter.mpr ⟨hr, decide_eq_true e⟩
  rw [er]
  generalize l.filter (fun r => decide (r.1 = d)) = f at fp fm rm ⊢
  match f, fp, fm, rm with
  | [], _, _, rm => cases rm
  | [x], _, _, rm => rw [List.mem_singleton] at rm; rw [rm]
  | x :: y :: t, fp, fm, _ =>
    have := (List.pairwise_cons.mp fp).1 y List.mem_cons_self
    have := fm x List.mem_cons_self
    have := fm y (List.mem_cons_of_mem _ List.mem_cons_self)
    omega
/-- the last row that isn't above a day -/
theorem upTo_last {l : List Row} {d : Int} (p : l.Pairwise fun a b => a.1 < b.1) : l.filter (fun r => decide (r.1 ≤ d)) = l.take (upTo l d) := by
  induction l with
  | nil => rfl
  | cons a t ih =>
    rw [List.pairwise_cons] at p
    by_cases ha : a.1 ≤ d
    · have e : upTo (a :: t) d = upTo t d + 1 := List.countP_cons_of_pos (decide_eq_true ha)
      rw [e, List.take_succ_cons, List.filter_cons, if_pos (decide_eq_true ha), ih p.2]
    · have e : upTo (a :: t) d = 0 := upTo_none fun r hr => by
        rcases List.mem_cons.mp hr with rfl | hr
        · omega
        · have := p.1 r hr; omega
      rw [e, List.take_zero, List.filter_eq_nil_iff]
      intro r hr
      simp only [decide_eq_true_eq]
      rcases List.mem_cons.mp hr with rfl | hr
      · omega
      · have := p.1 r hr; omega
/-- (clock, length) of a shift of a day -/
def two : List Int → Int × Int
  | [c, l] => (c, l)
  | [_, c, l] => (c, l)
  | _ => (0, 0)
def clocksOf (p : Plan) (day : Int) : List (Int × Int) :=
  if hasDay p.sg day = true then (p.sg[upTo p.sg day - 1]?.map fun r => r.2.map two).getD []
  else if upTo p.st day = 0 then []
  else (p.st[upTo p.st day - 1]?.map fun r => (r.2.filter fun s => decide (s.head? = some (day % 7))).map two).getD []
def shiftsOf (p : Plan) (day : Int) : List (Int × Int) := if day > 694443 then [] else (clocksOf p day).map fun s => (1440 * day + s.1, 1440 * day + s.1 + s.2)
section
def stD (q : Str × Int) : PyData := .tuple [.str q.1, .int q.2]
def turnP (q : Str × Int) : Int × Bool := (q.2, decide (q.1 = ("in" : Str)))
def backP (q : Int × Bool) : Str × Int := (if q.2 = true then "in" else "out", q.1)
/-- the turns of stamps, each once, in their order -/
def Turns (ss : List (Str × Int)) (zs : List (Int × Bool)) : Prop := zs.Pairwise (fun p r => rk2 p < rk2 r) ∧ ∀ q, q ∈ zs ↔ q ∈ ss.map turnP
theorem rising_one {xs ys : List (Int × Bool)} (hx : xs.Pairwise fun p r => rk2 p < rk2 r) (hy : ys.Pairwise fun p r => rk2 p < rk2 r) (h : ∀ q, q ∈ xs ↔ q ∈ ys) : xs = ys := by
  induction xs generalizing ys with
  | nil =>
    cases ys with
    | nil => rfl
    | cons y r => exact absurd ((h y).mpr List.mem_cons_self) (by simp)
  | cons x l ih =>
    cases ys with
    | nil => exact absurd ((h x).mp List.mem_cons_self) (by simp)
    | cons y r =>
      obtain ⟨x1, x2⟩ := List.pairwise_cons.mp hx
      obtain ⟨y1, y2⟩ := List.pairwise_cons.mp hy
      have e : x = y := by
        rcases List.mem_cons.mp ((h x).mp List.mem_cons_self) with e | m
        · exact e
        · rcases List.mem_cons.mp ((h y).mpr List.mem_cons_self) with e | n
          · exact e.symm
          · have := y1 x m
            have := x1 y n
            omega
      subst e
      congr 1
      refine ih x2 y2 fun q => ⟨fun m => ?_, fun m => ?_⟩
      · rcases List.mem_cons.mp ((h q).mp (List.mem_cons_of_mem _ m)) with e | n
        · have := x1 q m
          rw [e] at this
          omega
        · exact n
      · rcases List.mem_cons.mp ((h q).mpr (List.mem_cons_of_mem _ m)) with e | n
        · have := y1 q m
          rw [e] at this
          omega
        · exact n
theorem Turns.one {ss : List (Str × Int)} {xs ys : List (Int × Bool)} (hx : Turns ss xs) (hy : Turns ss ys) : xs = ys := rising_one hx.1 hy.1 fun q => (hx.2 q).trans (hy.2 q).symm
theorem st_get {ss : List (Str × Int)} {i : Nat} {x : PyData} (h : (ss.map stD)[i]? = some x) : ∃ q, ss[i]? = some q ∧ x = stD q := by
  rw [List.getElem?_map] at h
  cases e : ss[i]? with
  | none => rw [e] at h; cases h
  | some q => rw [e] at h; exact ⟨q, rfl, (Option.some.inj h).symm⟩
theorem pr_get {ss : List (Int × Bool)} {i : Nat} {x : PyData} (h : (ss.map prIB)[i]? = some x) : ∃ q, ss[i]? = some q ∧ x = prIB q := by
  rw [List.getElem?_map] at h
  cases e : ss[i]? with
  | none => rw [e] at h; cases h
  | some q => rw [e] at h; exact ⟨q, rfl, (Option.some.inj h).symm⟩
theorem take_on {α β : Type} (f : α → β) {l : List α} {i : Nat} {x : α} (h : l[i]? = some x) : (l.take (i + 1)).map f = (l.take i).map f ++ [f x] := by
  rw [List.take_add_one, h, List.map_append]; rfl
end
section
def shiftAt (p : Plan) (m : Int) : Option (Int × Int) := (shiftsOf p (m / 1440 - 1) ++ shiftsOf p (m / 1440)).find? fun s => decide (s.1 ≤ m) && decide (m < s.2)
def optP : Option (Int × Int) → PyData
  | none => .none
  | some s => .tuple [.int s.1, .int s.2]
def gEnd (p : Plan) (M m : Int) : Int := match shiftAt p m with
  | none => m + M
  | some s => s.2
def gBegin (p : Plan) (M m : Int) : Int := match shiftAt p (m - 1) with
  | none => if 0 > m - M then 0 else m - M
  | some s => s.1
abbrev Wkd := Int × Int × Str
def wdD (s : Wkd) : PyData := .tuple [.int s.1, .int s.2.1, .str s.2.2]
structure WS where
  found : List Wkd
  inside : Bool
  since : Int
def comeW (p : Plan) (M : Int) (w : WS) (m : Int) : WS := ⟨if w.inside then w.found ++ [(w.since, if m < gEnd p M w.since then m else gEnd p M w.since, ("end" : Str))] else w.found, true, m⟩
def leaveW (p : Plan) (M : Int) (w : WS) : WS := if w.inside then ⟨w.found ++ [(w.since, gEnd p M w.since, ("end" : Str))], false, gEnd p M w.since⟩ else w
def begW (p : Plan) (M : Int) (v : WS) (m : Int) : Int := if v.since > gBegin p M m then v.since else gBegin p M m
def goW (p : Plan) (M : Int) (w : WS) (m : Int) : WS :=
  if w.inside = true ∧ m - w.since ≤ 1440 then ⟨w.found ++ [(w.since, m, ("told" : Str))], false, m⟩
  else ⟨if begW p M (leaveW p M w) m < m then (leaveW p M w).found ++ [(begW p M (leaveW p M w) m, m, ("begin" : Str))] else (leaveW p M w).found, false, m⟩
def stepW (p : Plan) (M : Int) (w : WS) (q : Int × Bool) : WS := if q.2 then comeW p M w q.1 else goW p M w q.1
def walkW (p : Plan) (M : Int) (zs : List (Int × Bool)) : WS := zs.foldl (stepW p M) ⟨[], false, 0⟩
def stretchesW (p : Plan) (M : Int) (zs : List (Int × Bool)) : List Wkd := (leaveW p M (walkW p M zs)).found
/-- the plan is asked but once for a day -/
def CacheOk (p : Plan) (kvs : KD) : Prop := ∀ k x, valD kvs k = some x → ∃ d : Int, k = Sum.inl d ∧ x = .list (encL (shiftsOf p d))
def wfs (p : Plan) (M : Int) (r : Addr) (kvs : KD) (q : Addr) (w : WS) : FS := [("plan", .d (encPlan p)), ("most", .d (.int M)), ("shifts", .dic r kvs), ("found", .own q (w.found.map wdD)), ("inside", .d (.bool w.inside)), ("since", .d (.int w.since))]
theorem wfs_app (p : Plan) (M : Int) (r : Addr) (kvs : KD) (q : Addr) (w : WS) (x : Wkd) : putG "found" (.own q (w.found.map wdD ++ [wdD x])) (wfs p M r kvs q w) = wfs p M r kvs q ⟨w.found ++ [x], w.inside, w.since⟩ := by
  unfold wfs
  rw [List.map_append]
  rfl
theorem find_at {α : Type} {f : α → Bool} {s : α} : ∀ {l : List α} {j : Nat}, l[j]? = some s → (∀ x ∈ l.take j, f x = false) → f s = true → l.find? f = some s
  | [], j, h, _, _ => by simp at h
  | a :: l, 0, h, _, hs => by
    have e : a = s := by simpa using h
    subst e
    rw [List.find?_cons, hs]
  | a :: l, j + 1, h, k, hs => by
    have ha : f a = false := k a (by rw [List.take_succ_cons]; exact List.mem_cons_self)
    rw [List.find?_cons, ha]
    exact find_at (by simpa using h) (fun x hx => k x (by rw [List.take_succ_cons]; exact List.mem_cons_of_mem _ hx)) hs
theorem put_new {kvs : KD} {k : Key} (x : PyData) (h : valD kvs k = none) : putD kvs k x = kvs ++ [(k, x)] := by
  unfold putD
  refine if_neg fun z => ?_
  obtain ⟨q, hq, e⟩ := List.any_eq_true.mp z
  unfold valD at h
  rw [Option.map_eq_none_iff, List.find?_eq_none] at h
  exact h q hq e
theorem val_app (kvs : KD) (k j : Key) (x : PyData) : valD (kvs ++ [(k, x)]) j = (valD kvs j).or (if k = j then some x else none) := by
  unfold valD
  rw [List.find?_append]
  cases kvs.find? fun kv => decide (kv.1 = j) with
  | some y => rfl
  | none =>
    rw [List.find?_cons]
    by_cases h : k = j
    · rw [decide_eq_true h, if_pos h]; rfl
    · rw [decide_eq_false h, if_neg h]; rfl
theorem CacheOk.put {p : Plan} {kvs : KD} {d : Int} (h : CacheOk p kvs) (hn : valD kvs (Sum.inl d) = none) : CacheOk p (putD kvs (Sum.inl d) (.list (encL (shiftsOf p d)))) ∧ (putD kvs (Sum.inl d) (.list (encL (shiftsOf p d)))).length ≤ kvs.length + 1 ∧ valD (putD kvs (Sum.inl d) (.list (encL (shiftsOf p d)))) (Sum.inl d) = some (.list (encL (shiftsOf p d))) := by
  rw [put_new _ hn]
  refine ⟨fun k x e => ?_, by rw [List.length_append]; exact Nat.le_refl _, by rw [val_app, hn, if_pos rfl]; rfl⟩
  rw [val_app] at e
  cases q : valD kvs k with
  | some y =>
    rw [q] at e
    cases e
    exact h k _ q
  | none =>
    rw [q] at e
    by_cases z : Sum.inl d = k
    · rw [if_pos z] at e; cases e; exact ⟨d, z.symm, rfl⟩
    · rw [if_neg z] at e; cases e
theorem cache_nil (p : Plan) : CacheOk p [] := fun k x e => nomatch e
theorem comeW_len (p : Plan) (M : Int) (w : WS) (m : Int) : (comeW p M w m).found.length ≤ w.found.length + 1 := by
  unfold comeW
  dsimp only
  split
  · rw [List.length_append]; exact Nat.le_refl _
  · exact Nat.le_succ _
theorem leaveW_len (p : Plan) (M : Int) (w : WS) : (leaveW p M w).found.length ≤ w.found.length + 1 := by
  unfold leaveW
  split
  · show (w.found ++ [_]).length ≤ _
    rw [List.length_append]; exact Nat.le_refl _
  · exact Nat.le_succ _
theorem goW_len (p : Plan) (M : Int) (w : WS) (m : Int) : (goW p M w m).found.length ≤ w.found.length + 2 := by
  have h := leaveW_len p M w
  unfold goW
  split
  · show (w.found ++ [_]).length ≤ _
    rw [List.length_append]; exact Nat.le_succ _
  · dsimp only
    split
    · rw [List.length_append]; show _ + 1 ≤ _; omega
    · omega
end
local macro_rules | `(tactic| walk_at "dl1") => `(tactic| first
  | ((with_reducible refine' ek_fldO ?hi ?c ?n ?hf ?_); (case hi => exact rfl); (case c => assumption); (case n => assumption); (case hf => exact rfl))
  | ((with_reducible refine nx_drop ?_); (with_reducible refine' ek_methS ?hi ?hm ?_); (case hi => exact rfl); (case hm => exact rfl))
  | ((with_reducible refine' ek_methS ?hi ?hm ?_); (case hi => exact rfl); (case hm => exact rfl))
  | ((with_reducible refine' eo_fldF ?hi ?c ?n ?hf ?_); (case hi => exact rfl); (case c => assumption); (case n => assumption); (case hf => exact rfl))
  | (with_reducible refine nx_fldO ?_)
  | (with_reducible refine ek_dninO ?_)
  | (with_reducible refine nx_dputO ?_)
  | ((with_reducible refine' ek_dgetO ?hi ?c ?n ?hf ?_); (case hi => exact rfl); (case c => assumption); (case n => assumption); (case hf => exact rfl))
  | ((with_reducible refine' nx_appO ?hi ?c ?n ?hf ?_); (case hi => exact rfl); (case c => assumption); (case n => assumption); (case hf => exact rfl)))
def encD (rs : List Row) : KD := rs.map fun r => (Sum.inl r.1, .tuple (r.2.map encI))
def putR (rs : List Row) (d : Int) (l : List (List Int)) : List Row := if (rs.any fun r => decide (r.1 = d)) = true then rs.map (fun r => if r.1 = d then (r.1, l) else r) else rs ++ [(d, l)]
theorem encD_len (rs : List Row) : (encD rs).length = rs.length := List.length_map _
theorem encD_keys (rs : List Row) : (encD rs).map (·.1) = (rs.map (·.1)).map Sum.inl := by unfold encD; rw [List.map_map, List.map_map]; rfl
theorem putD_encD (rs : List Row) (d : Int) (l : List (List Int)) : putD (encD rs) (Sum.inl d) (.tuple (l.map encI)) = encD (putR rs d l) := by
  unfold putD putR
  have e : ((encD rs).any fun kv => decide (kv.1 = Sum.inl d)) = (rs.any fun r => decide (r.1 = d)) := by
    unfold encD
    rw [List.any_map]
    congr 1
    funext r
    show decide ((Sum.inl r.1 : Key) = Sum.inl d) = decide (r.1 = d)
    exact decide_eq_decide.mpr ⟨fun z => Sum.inl.inj z, fun z => by rw [z]⟩
  rw [e]
  split
  · unfold encD
    rw [List.map_map, List.map_map]
    refine List.map_congr_left fun r _ => ?_
    show (if (Sum.inl r.1 : Key) = Sum.inl d then ((Sum.inl r.1 : Key), PyData.tuple (l.map encI)) else (Sum.inl r.1, .tuple (r.2.map encI))) = _
    by_cases h : r.1 = d
    · rw [if_pos (by rw [h])]
      simp only [Function.comp, if_pos h]
    · rw [if_neg fun z => h (Sum.inl.inj z)]
      simp only [Function.comp, if_neg h]
  · unfold encD
    rw [List.map_append]; rfl
structure RsOk (P : Row → Prop) (rs : List Row) : Prop where
  nd : (rs.map (·.1)).Nodup
  ok : ∀ r ∈ rs, P r
theorem rs_nil {P : Row → Prop} : RsOk P [] := ⟨List.nodup_nil, fun _ h => nomatch h⟩
theorem putR_len (rs : List Row) (d : Int) (l : List (List Int)) : (putR rs d l).length ≤ rs.length + 1 := by
  unfold putR
  split
  · rw [List.length_map]; omega
  · rw [List.length_append]; simp
theorem rs_put {P : Row → Prop} {rs : List Row} {d : Int} {l : List (List Int)} (h : RsOk P rs) (hp : P (d, l)) : RsOk P (putR rs d l) := by
  unfold putR
  split
  · have em : (rs.map fun r => if r.1 = d then (r.1, l) else r).map (·.1) = rs.map (·.1) := by
      rw [List.map_map]
      refine List.map_congr_left fun r _ => ?_
      show (if r.1 = d then (r.1, l) else r).1 = r.1
      split <;> rfl
    refine ⟨by rw [em]; exact h.nd, fun r hr => ?_⟩
    obtain ⟨q, hq, rfl⟩ := List.mem_map.mp hr
    by_cases e : q.1 = d
    · rw [if_pos e, e]; exact hp
    · rw [if_neg e]; exact h.ok q hq
  · rename_i hn
    refine ⟨?_, fun r hr => ?_⟩
    · rw [List.map_append, List.nodup_append]
      refine ⟨h.nd, by simp, fun a ha b hb => ?_⟩
      simp only [List.map_cons, List.map_nil, List.mem_singleton] at hb
      subst hb
      intro e
      subst e
      obtain ⟨q, hq, e⟩ := List.mem_map.mp ha
      exact hn (List.any_eq_true.mpr ⟨q, hq, decide_eq_true e⟩)
    · rcases List.mem_append.mp hr with z | z
      · exact h.ok r z
      · rw [List.mem_singleton] at z; rw [z]; exact hp
theorem valD_encD {rs : List Row} (nd : (rs.map (·.1)).Nodup) {r : Row} (h : r ∈ rs) : valD (encD rs) (Sum.inl r.1) = some (.tuple (r.2.map encI)) := by
  induction rs with
  | nil => cases h
  | cons a t ih =>
    rw [List.map_cons, List.nodup_cons] at nd
    unfold valD encD
    rw [List.map_cons, List.find?_cons]
    rcases List.mem_cons.mp h with e | e
    · subst e
      rw [decide_eq_true rfl]; rfl
    · have ne : a.1 ≠ r.1 := fun z => nd.1 (by rw [z]; exact List.mem_map_of_mem e)
      rw [decide_eq_false fun z => ne (Sum.inl.inj z)]
      exact ih nd.2 e
def lookR (rs : List Row) (d : Int) : Row := (rs.find? fun r => decide (r.1 = d)).getD (d, [])
theorem lookR_mem {rs : List Row} {d : Int} (h : d ∈ rs.map (·.1)) : lookR rs d ∈ rs ∧ (lookR rs d).1 = d := by
  obtain ⟨r, hr, e⟩ := List.mem_map.mp h
  unfold lookR
  cases q : rs.find? (fun r => decide (r.1 = d)) with
  | none => exact absurd (List.find?_eq_none.mp q r hr) (by simp [e])
  | some x =>
    have h2 := List.find?_some q
    exact ⟨List.mem_of_find?_eq_some q, of_decide_eq_true h2⟩
/-- the rows in the order of their days -/
theorem rows_sorted {P : Row → Prop} {rs : List Row} {ys : List Int} (h : RsOk P rs) (pm : ys.Perm (rs.map (·.1))) (pw : ys.Pairwise (· ≤ ·)) :
    ((ys.map (lookR rs)).Pairwise fun a b => a.1 < b.1) ∧ (ys.map (lookR rs)).length = rs.length ∧ ∀ r ∈ ys.map (lookR rs), P r := by
  have nd : ys.Nodup := (pm.nodup_iff).mpr h.nd
  refine ⟨?_, by rw [List.length_map, pm.length_eq, List.length_map], fun r hr => ?_⟩
  · rw [List.pairwise_map]
    refine (List.Pairwise.and_mem.mp (nd.and pw)).imp fun {a b} ⟨ha, hb, ne, le⟩ => ?_
    rw [(lookR_mem (pm.mem_iff.mp ha)).2, (lookR_mem (pm.mem_iff.mp hb)).2]
    omega
  · obtain ⟨y, hy, rfl⟩ := List.mem_map.mp hr
    exact h.ok _ (lookR_mem (pm.mem_iff.mp hy)).1
abbrev UpR (l : List Row) : Prop := l.Pairwise fun a b => a.1 < b.1
/-- rows of a small plan -/
structure Pk (m : Nat) (p : Plan) : Prop where
  ust : UpR p.st
  usg : UpR p.sg
  lst : p.st.length ≤ m
  lsg : p.sg.length ≤ m
  ost : ∀ r ∈ p.st, RowOk 3 r ∧ r.2.length ≤ 5
  osg : ∀ r ∈ p.sg, RowOk 2 r ∧ r.2.length ≤ 5
section
def lex2 (a b : Int × Int) : Prop := a.1 < b.1 ∨ (a.1 = b.1 ∧ a.2 < b.2)
def InSh (p : Plan) (s : Int × Int) : Prop := ∃ e, s ∈ shiftsOf p e
def AtM (x : Int) (s : Int × Int) : Bool := decide (s.1 ≤ x) && decide (x < s.2)
theorem atM {x : Int} {s : Int × Int} : AtM x s = true ↔ s.1 ≤ x ∧ x < s.2 := by
  unfold AtM
  rw [Bool.and_eq_true, decide_eq_true_eq, decide_eq_true_eq]
theorem lex_two {a b c d : Int} : HT.lexLt [a, b] [c, d] = true ↔ lex2 (a, b) (c, d) := by
  rw [HT.lexLt_cons]
  unfold lex2
  by_cases h : a = c
  · subst h
    rw [if_pos rfl, HT.lexLt_cons]
    by_cases k : b = d
    · subst k
      rw [if_pos rfl]
      constructor
      · intro z; cases z
      · rintro (z | ⟨_, z⟩) <;> (dsimp only at z; omega)
    · rw [if_neg k, decide_eq_true_eq]
      dsimp only
      omega
  · rw [if_neg h, decide_eq_true_eq]
    dsimp only
    omega
/-- a day's shifts, by the rows of the plan -/
theorem shiftsOf_of {p : Plan} (hp : PlanOk p) (e : Int) : ∃ cl : List (Int × Int), shiftsOf p e = cl.map (fun s => (1440 * e + s.1, 1440 * e + s.1 + s.2)) ∧ (∀ s ∈ cl, 0 ≤ s.1 ∧ s.1 ≤ 1439 ∧ 1 ≤ s.2 ∧ s.2 ≤ 1440) ∧ cl.Pairwise lex2 ∧ cl.length ≤ 63 ∧ (cl ≠ [] → 0 ≤ e ∧ e ≤ 694443) := by
  unfold shiftsOf
  by_cases h9 : e > 694443
  · rw [if_pos h9]
    exact ⟨[], rfl, (fun s hs => nomatch hs), .nil, Nat.zero_le _, fun h => absurd rfl h⟩
  rw [if_neg h9]
  unfold clocksOf
  by_cases hday : hasDay p.sg e = true
  · obtain ⟨hi, h1, e1, hf⟩ := hasDay_row hp.sg.up hday
    have ro := hp.sg.ok _ (List.getElem_mem hi)
    rw [if_pos hday, List.getElem?_eq_getElem hi]
    simp only [Option.map_some, Option.getD_some]
    have lo := ro.lo
    rw [e1] at lo
    generalize p.sg[upTo p.sg e - 1] = r at ro
    have pr : ∀ s ∈ r.2, ∃ c l, s = [c, l] ∧ 0 ≤ c ∧ c ≤ 1439 ∧ 1 ≤ l ∧ l ≤ 1440 := fun s hs => by
      rcases ro.ok s hs with ⟨_, c, l, rfl, a⟩ | ⟨z, _⟩
      · exact ⟨c, l, rfl, a⟩
      · cases z
    refine ⟨_, rfl, fun s hs => ?_, ?_, by rw [List.length_map]; exact ro.len, fun _ => ⟨lo, by omega⟩⟩
    · obtain ⟨t, ht, rfl⟩ := List.mem_map.mp hs
      obtain ⟨c, l, rfl, a⟩ := pr t ht
      exact a
    · rw [List.pairwise_map]
      refine (List.Pairwise.and_mem.mp ro.up).imp fun {x y} ⟨hx, hy, q⟩ => ?_
      obtain ⟨c, l, rfl, _⟩ := pr x hx
      obtain ⟨c', l', rfl, _⟩ := pr y hy
      exact lex_two.mp q
  · rw [if_neg hday]
    by_cases hz : upTo p.st e = 0
    · rw [if_pos hz]
      exact ⟨[], rfl, (fun s hs => nomatch hs), .nil, Nat.zero_le _, fun h => absurd rfl h⟩
    · have hle := upTo_le p.st e
      have hi : upTo p.st e - 1 < p.st.length := by omega
      have ro := hp.st.ok _ (List.getElem_mem hi)
      have hu := (upTo_iff (i := upTo p.st e - 1) (d := e) hp.st.up (List.getElem?_eq_getElem hi)).mpr (by omega)
      rw [if_neg hz, List.getElem?_eq_getElem hi]
      simp only [Option.map_some, Option.getD_some]
      have lo := ro.lo
      have lo : 0 ≤ e := Int.le_trans lo hu
      generalize p.st[upTo p.st e - 1] = r at ro
      have pr : ∀ s ∈ r.2, ∃ w c l, s = [w, c, l] ∧ 0 ≤ c ∧ c ≤ 1439 ∧ 1 ≤ l ∧ l ≤ 1440 := fun s hs => by
        rcases ro.ok s hs with ⟨z, _⟩ | ⟨_, w, c, l, rfl, _, _, a⟩
        · cases z
        · exact ⟨w, c, l, rfl, a⟩
      refine ⟨_, rfl, fun s hs => ?_, ?_, by rw [List.length_map]; exact Nat.le_trans (List.length_filter_le _ _) ro.len, fun _ => ⟨lo, by omega⟩⟩
      · obtain ⟨t, ht, rfl⟩ := List.mem_map.mp hs
        obtain ⟨w, c, l, rfl, a⟩ := pr t (List.mem_filter.mp ht).1
        exact a
      · rw [List.pairwise_map]
        refine (List.Pairwise.and_mem.mp (ro.up.filter _)).imp fun {x y} ⟨hx, hy, q⟩ => ?_
        have hx := List.mem_filter.mp hx
        have hy := List.mem_filter.mp hy
        obtain ⟨w, c, l, rfl, _⟩ := pr x hx.1
        obtain ⟨w', c', l', rfl, _⟩ := pr y hy.1
        have e1 := of_decide_eq_true hx.2
        have e2 := of_decide_eq_true hy.2
        simp only [List.head?_cons, Option.some.injEq] at e1 e2
        subst e1
        subst e2
        rw [HT.lexLt_cons, if_pos rfl] at q
        exact lex_two.mp q
theorem sh_in {p : Plan} (hp : PlanOk p) {e : Int} {s : Int × Int} (h : s ∈ shiftsOf p e) : 0 ≤ e ∧ e ≤ 694443 ∧ 1440 * e ≤ s.1 ∧ s.1 ≤ 1440 * e + 1439 ∧ s.1 < s.2 ∧ s.2 ≤ s.1 + 1440 := by
  obtain ⟨cl, h1, h2, _, _, h3⟩ := shiftsOf_of hp e
  rw [h1] at h
  obtain ⟨t, ht, rfl⟩ := List.mem_map.mp h
  obtain ⟨a, b⟩ := h3 (List.ne_nil_of_mem ht)
  obtain ⟨c, d, f, g⟩ := h2 t ht
  exact ⟨a, b, by dsimp only; omega, by dsimp only; omega, by dsimp only; omega, by dsimp only; omega⟩
theorem sh_len {p : Plan} (hp : PlanOk p) (e : Int) : (shiftsOf p e).length ≤ 63 := by
  obtain ⟨cl, h1, _, _, h2, _⟩ := shiftsOf_of hp e
  rw [h1, List.length_map]
  exact h2
theorem sh_up {p : Plan} (hp : PlanOk p) (e : Int) : (shiftsOf p e).Pairwise lex2 := by
  obtain ⟨cl, h1, _, h2, _, _⟩ := shiftsOf_of hp e
  rw [h1, List.pairwise_map]
  refine h2.imp fun {a b} h => ?_
  unfold lex2 at h ⊢
  dsimp only
  omega
theorem near_up {p : Plan} (hp : PlanOk p) (e : Int) : (shiftsOf p (e - 1) ++ shiftsOf p e).Pairwise lex2 := by
  refine List.pairwise_append.mpr ⟨sh_up hp _, sh_up hp _, fun a ha b hb => ?_⟩
  have := sh_in hp ha
  have := sh_in hp hb
  unfold lex2
  omega
theorem find_least {f : Int × Int → Bool} {s : Int × Int} : ∀ {l : List (Int × Int)}, l.Pairwise lex2 → l.find? f = some s → f s = true ∧ s ∈ l ∧ ∀ t ∈ l, f t = true → t = s ∨ lex2 s t
  | [], _, h => by cases h
  | a :: l, hu, h => by
    obtain ⟨u1, u2⟩ := List.pairwise_cons.mp hu
    rw [List.find?_cons] at h
    cases q : f a with
    | true =>
      rw [q] at h
      cases h
      refine ⟨q, List.mem_cons_self, fun t ht _ => ?_⟩
      rcases List.mem_cons.mp ht with rfl | ht
      · exact .inl rfl
      · exact .inr (u1 t ht)
    | false =>
      rw [q] at h
      obtain ⟨a1, a2, a3⟩ := find_least u2 h
      refine ⟨a1, List.mem_cons_of_mem _ a2, fun t ht hf => ?_⟩
      rcases List.mem_cons.mp ht with rfl | ht
      · rw [q] at hf; cases hf
      · exact a3 t ht hf
theorem near_has {p : Plan} (hp : PlanOk p) {x : Int} {t : Int × Int} (h : InSh p t) (c : AtM x t = true) : t ∈ shiftsOf p (x / 1440 - 1) ++ shiftsOf p (x / 1440) := by
  obtain ⟨e, he⟩ := h
  have i := sh_in hp he
  have c := atM.mp c
  have : e = x / 1440 - 1 ∨ e = x / 1440 := by omega
  rcases this with rfl | rfl
  · exact List.mem_append_left _ he
  · exact List.mem_append_right _ he
theorem shiftAt_some {p : Plan} (hp : PlanOk p) {x : Int} {s : Int × Int} (h : shiftAt p x = some s) : InSh p s ∧ AtM x s = true ∧ ∀ t, InSh p t → AtM x t = true → t = s ∨ lex2 s t := by
  obtain ⟨a, b, c⟩ := find_least (near_up hp (x / 1440)) h
  refine ⟨?_, a, fun t ht hc => c t (near_has hp ht hc) hc⟩
  rcases List.mem_append.mp b with b | b
  · exact ⟨_, b⟩
  · exact ⟨_, b⟩
theorem shiftAt_none {p : Plan} (hp : PlanOk p) {x : Int} (h : shiftAt p x = none) {t : Int × Int} (ht : InSh p t) : AtM x t = false := by
  cases q : AtM x t with
  | false => rfl
  | true =>
    have := List.find?_eq_none.mp h t (near_has hp ht q)
    exact absurd q this
theorem lay_shL (l : List (Int × Int)) : SeqAt.shaped (.list (encL l)) = true := (lay_list (n := 2) fun x hx => by
  obtain ⟨s, _, rfl⟩ := List.mem_map.mp hx
  exact lay_pair lay_int lay_int).shaped (by decide)
/-- the least of those that have a minute, told by min(..) -/
theorem least_of {p : Plan} (hp : PlanOk p) {x : Int} {z : Int × Int} {zs : List (Int × Int)} (h1 : ∀ t ∈ z :: zs, InSh p t ∧ AtM x t = true) (h2 : ∀ t, InSh p t → AtM x t = true → t ∈ z :: zs) :
    ∃ s, shiftAt p x = some s ∧ minI [z.1, z.2] (zs.map fun t => [t.1, t.2]) = [s.1, s.2] := by
  cases q : shiftAt p x with
  | none =>
    have := shiftAt_none hp q (h1 z List.mem_cons_self).1
    rw [(h1 z List.mem_cons_self).2] at this
    cases this
  | some s =>
    refine ⟨s, rfl, ?_⟩
    obtain ⟨a, b, c⟩ := shiftAt_some hp q
    have e0 : [z.1, z.2] :: zs.map (fun t : Int × Int => [t.1, t.2]) = (z :: zs).map fun t => [t.1, t.2] := rfl
    have m := minI_mem [z.1, z.2] (zs.map fun t => [t.1, t.2])
    have l := minI_le (d := 2) [z.1, z.2] (zs.map fun t => [t.1, t.2]) (fun m hm => by
      rw [e0] at hm
      obtain ⟨t, _, rfl⟩ := List.mem_map.mp hm
      rfl)
    rw [e0] at m l
    obtain ⟨t, ht, e⟩ := List.mem_map.mp m
    rw [← e] at l ⊢
    have l := l _ (List.mem_map.mpr ⟨s, h2 s a b, rfl⟩)
    obtain ⟨t1, t2⟩ := h1 t ht
    rcases c t t1 t2 with rfl | c
    · rfl
    · have := lex_two (a := s.1) (b := s.2) (c := t.1) (d := t.2) |>.mpr c
      rw [this] at l
      cases l
end
section
theorem nodup_len : ∀ {l m : List Int}, l.Nodup → (∀ x ∈ l, x ∈ m) → l.length ≤ m.length
  | [], _, _, _ => Nat.zero_le _
  | x :: l, m, hn, h => by
    have hx := h x List.mem_cons_self
    obtain ⟨n1, n2⟩ := List.nodup_cons.mp hn
    have ih := nodup_len (l := l) (m := m.erase x) n2 fun y hy => (List.mem_erase_of_ne (fun e => n1 (by rw [← e]; exact hy))).mpr (h y (List.mem_cons_of_mem _ hy))
    rw [List.length_erase_of_mem hx] at ih
    have := List.length_pos_of_mem hx
    rw [List.length_cons]
    omega
theorem zs_get {zs : List Int} {i : Nat} {x : PyData} (h : (zs.map PyData.int)[i]? = some x) : ∃ m, zs[i]? = some m ∧ x = .int m := by
  rw [List.getElem?_map] at h
  cases e : zs[i]? with
  | none => rw [e] at h; cases h
  | some q => rw [e] at h; exact ⟨q, rfl, (Option.some.inj h).symm⟩
def T2 (ss : List (Str × Int)) (m : Int) : List (Int × Bool) := ([false, true].filter fun b => decide (backP (m, b) ∈ ss)).map fun b => (m, b)
theorem eqv_st (a b : Str × Int) : PyData.eqv (stD a) (stD b) = decide (a = b) := by
  obtain ⟨w, m⟩ := a
  obtain ⟨v, n⟩ := b
  unfold stD
  rw [Bool.eq_iff_iff]
  simp [PyData.eqv, PyData.eqvAll]
theorem any_st (ss : List (Str × Int)) (r : Str × Int) : ((ss.map stD).any fun z => PyData.eqv z (stD r)) = decide (r ∈ ss) := by
  rw [List.any_map, Bool.eq_iff_iff, List.any_eq_true, decide_eq_true_eq]
  constructor
  · rintro ⟨x, hx, e⟩
    have e : PyData.eqv (stD x) (stD r) = true := e
    rw [eqv_st, decide_eq_true_eq] at e
    exact e ▸ hx
  · intro h
    exact ⟨r, h, by show PyData.eqv (stD r) (stD r) = true; rw [eqv_st, decide_eq_true rfl]⟩
theorem lay_in {n : Nat} : lay n (.str "in") := ⟨by rw [PyData.canLay0]; decide +kernel, by rw [PyData.depth]; omega⟩
theorem lay_out {n : Nat} : lay n (.str "out") := ⟨by rw [PyData.canLay0]; decide +kernel, by rw [PyData.depth]; omega⟩
theorem lay_st {n : Nat} {q : Str × Int} (h : q.1 = "in" ∨ q.1 = "out") : lay (n + 1) (stD q) := by
  unfold stD
  rcases h with h | h <;> rw [h]
  · exact lay_pair lay_in lay_int
  · exact lay_pair lay_out lay_int
theorem turns_of {ss : List (Str × Int)} (hw : ∀ q ∈ ss, q.1 = "in" ∨ q.1 = "out") {zs : List Int} (h1 : zs.Pairwise (· < ·)) (h2 : ∀ j, j ∈ zs ↔ j ∈ ss.map (·.2)) : Turns ss (zs.flatMap (T2 ss)) := by
  refine ⟨?_, fun q => ?_⟩
  · clear h2
    induction zs with
    | nil => exact List.Pairwise.nil
    | cons m r ih =>
      obtain ⟨a, b⟩ := List.pairwise_cons.mp h1
      rw [List.flatMap_cons, List.pairwise_append]
      refine ⟨?_, ih b, fun x hx y hy => ?_⟩
      · unfold T2
        rw [List.pairwise_map]
        refine List.Pairwise.filter _ ?_
        simp [rk2]
      · obtain ⟨n, hn, hy⟩ := List.mem_flatMap.mp hy
        have := a n hn
        unfold T2 at hx hy
        obtain ⟨c, _, rfl⟩ := List.mem_map.mp hx
        obtain ⟨d, _, rfl⟩ := List.mem_map.mp hy
        unfold rk2
        dsimp only
        split <;> split <;> omega
  · rw [List.mem_flatMap]
    constructor
    · rintro ⟨m, hm, hq⟩
      unfold T2 at hq
      obtain ⟨b, hb, rfl⟩ := List.mem_map.mp hq
      have hb := (List.mem_filter.mp hb).2
      rw [decide_eq_true_eq] at hb
      refine List.mem_map.mpr ⟨_, hb, ?_⟩
      unfold turnP backP
      cases b <;> simp <;> decide
    · intro hq
      obtain ⟨s, hs, rfl⟩ := List.mem_map.mp hq
      refine ⟨s.2, (h2 _).mpr (List.mem_map.mpr ⟨s, hs, rfl⟩), ?_⟩
      unfold T2
      refine List.mem_map.mpr ⟨decide (s.1 = "in"), List.mem_filter.mpr ⟨by cases decide (s.1 = ("in" : Str)) <;> simp, ?_⟩, rfl⟩
      rw [decide_eq_true_eq]
      have e : backP (s.2, decide (s.1 = ("in" : Str))) = s := by
        unfold backP
        rcases hw s hs with h | h
        · rw [h]; exact Prod.ext h.symm rfl
        · rw [h]; exact Prod.ext h.symm rfl
      rw [e]
      exact hs
end
local macro_rules | `(tactic| walk_at "tx") => `(tactic| first
  | (with_reducible assumption)
  | ((with_reducible apply Tt.add); (focus walk_at "tx"); (focus walk_at "tx"))
  | ((with_reducible apply Tt.cut); walk_at "tx")
  | ((with_reducible apply Tt.rev); walk_at "tx")
  | (refine (show Tt 8 _ from ⟨?_, ?_⟩); (focus decide +kernel); (focus decide +kernel))
  | (refine (show Tt 40 _ from ⟨?_, ?_⟩); (focus decide +kernel); (focus decide +kernel)))
local macro_rules | `(tactic| walk_at "shb") => `(tactic| first
  | (with_reducible assumption)
  | ((with_reducible apply sh_int); (first | omega | decide +kernel))
  | ((with_reducible apply sh_str); walk_at "tx")
  | ((with_reducible apply sh_tupleS); walk_at "sub"))
local macro_rules | `(tactic| walk_at "sub") => `(tactic| first
  | (with_reducible assumption)
  | (with_reducible exact su_nil)
  | ((with_reducible apply su_cons); (focus walk_at "shb"); (focus walk_at "sub")))
local macro_rules | `(tactic| walk_at "allb") => `(tactic| first
  | (with_reducible assumption))
local macro_rules | `(tactic| walk_at "sh") => `(tactic| ((apply Sh.mono); (focus walk_at "shb"); (focus first | exact Nat.le_of_ble_eq_true rfl | omega); (focus first | exact Nat.le_of_ble_eq_true rfl | omega)))
local macro_rules | `(tactic| walk_at "all") => `(tactic| ((apply all_mono); (focus walk_at "allb"); (focus first | exact Nat.le_of_ble_eq_true rfl | omega); (focus first | exact Nat.le_of_ble_eq_true rfl | omega)))
local macro_rules | `(tactic| walk_at "lt") => `(tactic| first
  | omega
  | ((refine Int.lt_of_lt_of_le ?_ ?_); (focus assumption); (focus decide +kernel))
  | (simp only [List.length_append, List.length_cons, List.length_nil]; omega))
local macro_rules | `(tactic| walk_at "lt") => `(tactic| (apply Int.lt_of_lt_of_le; (focus assumption); (focus decide +kernel)))
local macro_rules | `(tactic| walk_at "dl1") => `(tactic| first
  | ((with_reducible apply ck_reprX); (focus walk_at "shb"); (focus first | exact Nat.le_of_ble_eq_true rfl | omega); (focus first | exact Nat.le_of_ble_eq_true rfl | omega)))
section
def BdW (x : Wkd) : Prop := 0 ≤ x.1 ∧ x.1 ≤ 2000000000 ∧ 0 ≤ x.2.1 ∧ x.2.1 ≤ 2000000000 ∧ (x.2.2 = "told" ∨ x.2.2 = "end" ∨ x.2.2 = "begin")
structure WB (w : WS) : Prop where
  fd : ∀ x ∈ w.found, BdW x
  s0 : 0 ≤ w.since
  s1 : w.since ≤ 1500000000
  si : w.inside = true → w.since ≤ 999999359
variable {p : Plan} {M : Int}
theorem gEnd_b (hp : PlanOk p) (hM : 1 ≤ M ∧ M ≤ 1440) {m : Int} (m0 : 0 ≤ m) (m1 : m ≤ 999999359) : 0 ≤ gEnd p M m ∧ gEnd p M m ≤ 1500000000 := by
  unfold gEnd
  cases e : shiftAt p m with
  | none => dsimp only; omega
  | some s =>
    obtain ⟨⟨d, hd⟩, _, _⟩ := shiftAt_some hp e
    have := sh_in hp hd
    dsimp only
    omega
theorem gBegin_b (hp : PlanOk p) (hM : 1 ≤ M ∧ M ≤ 1440) {m : Int} (m0 : 0 ≤ m) (m1 : m ≤ 999999359) : 0 ≤ gBegin p M m ∧ gBegin p M m ≤ 1500000000 := by
  unfold gBegin
  cases e : shiftAt p (m - 1) with
  | none => dsimp only; split <;> omega
  | some s =>
    obtain ⟨⟨d, hd⟩, _, _⟩ := shiftAt_some hp e
    have := sh_in hp hd
    dsimp only
    omega
theorem snoc_b {l : List Wkd} {x : Wkd} (h : ∀ y ∈ l, BdW y) (hx : BdW x) : ∀ y ∈ l ++ [x], BdW y := fun y hy => by
  rcases List.mem_append.mp hy with h1 | h1
  · exact h y h1
  · rw [List.mem_singleton.mp h1]; exact hx
theorem comeW_b (hp : PlanOk p) (hM : 1 ≤ M ∧ M ≤ 1440) {w : WS} (h : WB w) {m : Int} (m0 : 0 ≤ m) (m1 : m ≤ 999999359) : WB (comeW p M w m) := by
  unfold comeW
  refine ⟨?_, m0, by dsimp only; omega, fun _ => m1⟩
  dsimp only
  split
  · rename_i hi
    have a := h.s0
    have b := h.si hi
    have c := gEnd_b hp hM a b
    refine snoc_b h.fd ⟨a, by dsimp only; omega, ?_, ?_, .inr (.inl rfl)⟩
    · dsimp only; split <;> omega
    · dsimp only; split <;> omega
  · exact h.fd
theorem leaveW_b (hp : PlanOk p) (hM : 1 ≤ M ∧ M ≤ 1440) {w : WS} (h : WB w) : WB (leaveW p M w) := by
  unfold leaveW
  split
  · rename_i hi
    have a := h.s0
    have b := h.si hi
    have c := gEnd_b hp hM a b
    exact ⟨snoc_b h.fd ⟨a, by dsimp only; omega, by dsimp only; omega, by dsimp only; omega, .inr (.inl rfl)⟩, c.1, c.2, fun z => nomatch z⟩
  · exact h
theorem begW_b (hp : PlanOk p) (hM : 1 ≤ M ∧ M ≤ 1440) {w : WS} (h : WB w) {m : Int} (m0 : 0 ≤ m) (m1 : m ≤ 999999359) : 0 ≤ begW p M w m ∧ begW p M w m ≤ 1500000000 := by
  have a := h.s0
  have b := h.s1
  have c := gBegin_b hp hM m0 m1
  unfold begW
  split <;> omega
theorem goW_b (hp : PlanOk p) (hM : 1 ≤ M ∧ M ≤ 1440) {w : WS} (h : WB w) {m : Int} (m0 : 0 ≤ m) (m1 : m ≤ 999999359) : WB (goW p M w m) := by
  have hl := leaveW_b hp hM h
  have hb := begW_b hp hM hl m0 m1
  have a := h.s0
  have b := h.s1
  unfold goW
  split
  · exact ⟨snoc_b h.fd ⟨a, by dsimp only; omega, m0, by dsimp only; omega, .inl rfl⟩, m0, by dsimp only; omega, fun z => nomatch z⟩
  · refine ⟨?_, m0, by dsimp only; omega, fun z => nomatch z⟩
    dsimp only
    split
    · exact snoc_b hl.fd ⟨hb.1, by dsimp only; omega, m0, by dsimp only; omega, .inr (.inr rfl)⟩
    · exact hl.fd
theorem walkW_b (hp : PlanOk p) (hM : 1 ≤ M ∧ M ≤ 1440) {zs : List (Int × Bool)} (h : ∀ z ∈ zs, 0 ≤ z.1 ∧ z.1 ≤ 999999359) : WB (walkW p M zs) := by
  have go : ∀ (zs : List (Int × Bool)) (w : WS), WB w → (∀ z ∈ zs, 0 ≤ z.1 ∧ z.1 ≤ 999999359) → WB (zs.foldl (stepW p M) w) := by
    intro zs
    induction zs with
    | nil => intro w hw _; exact hw
    | cons z r ih =>
      intro w hw hz
      obtain ⟨a, b⟩ := hz z List.mem_cons_self
      refine ih _ ?_ fun y hy => hz y (List.mem_cons_of_mem _ hy)
      unfold stepW
      split
      · exact comeW_b hp hM hw a b
      · exact goW_b hp hM hw a b
  exact go zs _ ⟨(fun x hx => nomatch hx), Int.le_refl _, by decide, fun z => nomatch z⟩ h
theorem stretches_b (hp : PlanOk p) (hM : 1 ≤ M ∧ M ≤ 1440) {zs : List (Int × Bool)} (h : ∀ z ∈ zs, 0 ≤ z.1 ∧ z.1 ≤ 999999359) : ∀ x ∈ stretchesW p M zs, BdW x := (leaveW_b hp hM (walkW_b hp hM h)).fd
theorem walkW_len (p : Plan) (M : Int) (zs : List (Int × Bool)) : (walkW p M zs).found.length ≤ 2 * zs.length := by
  have go : ∀ (zs : List (Int × Bool)) (w : WS), (zs.foldl (stepW p M) w).found.length ≤ w.found.length + 2 * zs.length := by
    intro zs
    induction zs with
    | nil => intro w; exact Nat.le_refl _
    | cons z r ih =>
      intro w
      have := ih (stepW p M w z)
      have l1 := comeW_len p M w z.1
      have l2 := goW_len p M w z.1
      rw [List.foldl_cons, List.length_cons]
      have : (stepW p M w z).found.length ≤ w.found.length + 2 := by
        unfold stepW
        split <;> omega
      omega
  have := go zs ⟨[], false, 0⟩
  exact Nat.le_trans this (by show 0 + _ ≤ _; omega)
theorem stretches_len (p : Plan) (M : Int) (zs : List (Int × Bool)) : (stretchesW p M zs).length ≤ 2 * zs.length + 1 := Nat.le_trans (leaveW_len p M _) (Nat.succ_le_succ (walkW_len p M zs))
theorem wds_sh {l : List Wkd} (h : ∀ x ∈ l, BdW x) (hl : l.length ≤ 130) : Sh 100000 5 (.list (l.map wdD)) := by
  have one : ∀ x ∈ l.map wdD, Sh 500 1 x := fun x hx => by
    obtain ⟨⟨a, b, z⟩, hq, rfl⟩ := List.mem_map.mp hx
    obtain ⟨a0, a1, b0, b1, hz⟩ := h _ hq
    dsimp only at a0 a1 b0 b1 hz
    have w8 : Tt 8 z := by rcases hz with h | h | h <;> rw [h] <;> exact ⟨by decide +kernel, by decide +kernel⟩
    have ma : a.natAbs < 10 ^ 60 := by omega
    have mb : b.natAbs < 10 ^ 60 := by omega
    unfold wdD
    walk_at "sh"
  exact (sh_list one (m := 130) (by rw [List.length_map]; exact hl)).mono (by decide) (by decide)
theorem wds_flat (l : List Wkd) : ∀ y ∈ l.map wdD, flatT y = true := fun y hy => by
  obtain ⟨x, _, rfl⟩ := List.mem_map.mp hy
  rfl
end
local macro_rules | `(tactic| walk_at "wtb") => `(tactic| first
  | (with_reducible assumption)
  | ((with_reducible apply wt_int13); (first | omega | decide +kernel))
  | assumption)
local macro_rules | `(tactic| walk_at "wsb") => `(tactic| first
  | (with_reducible exact ws_nil)
  | (with_reducible assumption)
  | ((with_reducible apply ws_cons); (focus walk_at "wtb"); (focus walk_at "wsb")))
local macro_rules | `(tactic| walk_at "le") => `(tactic| first | exact Nat.le_of_ble_eq_true rfl | omega)
local macro_rules | `(tactic| walk_at "wt") => `(tactic| ((apply Wt.mono); (focus walk_at "wtb"); (focus walk_at "le"); (focus walk_at "le"); (focus walk_at "le")))
local macro_rules | `(tactic| walk_at "allw") => `(tactic| first
  | (with_reducible assumption))
local macro_rules | `(tactic| walk_at "dl1") => `(tactic| first
  | ((with_reducible apply rk_catW); (focus walk_at "wsb"); (focus walk_at "wsb"); (focus walk_at "le")))
theorem Pk.mono {m n : Nat} {p : Plan} (h : Pk m p) (k : m ≤ n) : Pk n p := ⟨h.ust, h.usg, Nat.le_trans h.lst k, Nat.le_trans h.lsg k, h.ost, h.osg⟩
theorem sm_encI {d : Nat} {s : List Int} (h : ShOk d s) : Sm 123 1 (encI s) := by
  have hl : s.length ≤ 3 := by
    rcases h with ⟨_, c, l, rfl, _⟩ | ⟨_, w, c, l, rfl, _⟩ <;> simp
  refine sm_tuple (n := 40) (d := 0) (m := 3) (fun x hx => ?_) (by rw [List.length_map]; exact hl)
  obtain ⟨i, hi, rfl⟩ := List.mem_map.mp hx
  refine sm_int ?_
  rcases h with ⟨_, c, l, rfl, _⟩ | ⟨_, w, c, l, rfl, _⟩
  · simp only [List.mem_cons, List.not_mem_nil, or_false] at hi; omega
  · simp only [List.mem_cons, List.not_mem_nil, or_false] at hi; omega
theorem sm_row {d : Nat} {r : Row} (h : RowOk d r) (h6 : r.2.length ≤ 6) : Sm 1490 3 (encRow r) := by
  refine sm_tuple (n := 744) (d := 2) (m := 2) (fun x hx => ?_) (Nat.le_refl _)
  simp only [List.mem_cons, List.not_mem_nil, or_false] at hx
  rcases hx with rfl | rfl
  · have := h.lo; have := h.hi
    exact (sm_int (by omega)).mono (by decide) (by decide)
  · refine sm_tuple (n := 123) (d := 1) (m := 6) (fun x hx => ?_) (by rw [List.length_map]; exact h6)
    obtain ⟨s, hs, rfl⟩ := List.mem_map.mp hx
    exact sm_encI (h.ok s hs)
theorem sm_rows {d : Nat} {l : List Row} (h : RowsOk d l) (hl : l.length ≤ 32) (h6 : ∀ r ∈ l, r.2.length ≤ 6) : Sm 47712 4 (.tuple (encRows l)) := by
  refine sm_tuple (n := 1490) (d := 3) (m := 32) (fun x hx => ?_) (by rw [encRows_len]; exact hl)
  obtain ⟨r, hr, rfl⟩ := List.mem_map.mp hx
  exact sm_row (h.ok r hr) (h6 r hr)
theorem sm_plan {p : Plan} (h : PlanOk p) (h1 : p.st.length ≤ 32) (h2 : p.sg.length ≤ 32) (h6 : ∀ r ∈ p.st ++ p.sg, r.2.length ≤ 6) : Sm 95426 5 (encPlan p) := by
  refine sm_tuple (n := 47712) (d := 4) (m := 2) (fun x hx => ?_) (Nat.le_refl _)
  simp only [List.mem_cons, List.not_mem_nil, or_false] at hx
  rcases hx with rfl | rfl
  · exact sm_rows h.st h1 fun r hr => h6 r (List.mem_append_left _ hr)
  · exact sm_rows h.sg h2 fun r hr => h6 r (List.mem_append_right _ hr)
theorem pk_sm {m : Nat} {p : Plan} (h : Pk m p) (hm : m ≤ 30) : Sm 95426 5 (encPlan p) :=
  sm_plan ⟨⟨h.ust, by have := h.lst; omega, fun r hr => (h.ost r hr).1⟩, ⟨h.usg, by have := h.lsg; omega, fun r hr => (h.osg r hr).1⟩⟩ (Nat.le_trans h.lst (by omega)) (Nat.le_trans h.lsg (by omega)) fun r hr => by
    rcases List.mem_append.mp hr with z | z
    · exact Nat.le_succ_of_le (h.ost r z).2
    · exact Nat.le_succ_of_le (h.osg r z).2
section
variable {P : Program} {w : World} {K : PySem.W.Frag} {mg : Str → Option Value} {base : Heap}
def T_day_of : Tr := fun xs κ => ∃ i : Int, xs = [.int i] ∧ κ (.int (i / 1440))
local macro_rules | `(tactic| walk_at "call") => `(tactic| ((with_reducible show T_day_of _ _); refine ⟨_, rfl, ?_⟩))
theorem ok_day_of (T : Tx K mg) : OkD P w K mg base "day_of" 1 ["minute"] (spP K 1 T_day_of) := by
  obtain ⟨_, c_DAY_LONG⟩ := T.c_DAY_LONG
  obtain ⟨f, fd, F, hm, hb⟩ := T.f_day_of
  refine ⟨f, fd, hm, F.kp, hb, F.ok sc_day_of (fun vs H Q E h => spP_len h) (fun cdv A_ outer s H vs Q E hr h => ?_)⟩
  obtain ⟨B, xs, κ, hB, hd, hn, hT, hq⟩ := h
  have RT : ∀ {G x}, κ x → Rt (frP K B H) G x Q := fun k => rtP hB hq k
  have hlim : lim = 1099511627776 := rfl
  obtain ⟨i, rfl, k⟩ := hT
  refine ⟨_, (pss_one (ps_ret (pe_op op_fdivN (pv 0) (pe_glob (v := .int 1440) rfl c_DAY_LONG ⟨_, rfl⟩)))), ?_⟩
  try dsimp only [cxOf, Cx.nox, Cx.wish, Cx.blk]
  refine enterP hB hd (Nat.le_of_ble_eq_true rfl) ?_
  show Nx _ [.d (.int i)] _
  walk_at "dl"
  exact RT k
def T_rows_to : Tr := fun xs κ => ∃ (l : List Row) (d : Int), xs = [.tuple (encRows l), .int d] ∧ (l.Pairwise fun a b => a.1 < b.1) ∧ l.length ≤ 1000 ∧ κ (.int (upTo l d))
local macro_rules | `(tactic| walk_at "call") => `(tactic| ((with_reducible show T_rows_to _ _); refine ⟨_, _, rfl, ?_, ?_, ?_⟩; (focus assumption); (focus omega)))
def rowsW (l : List Row) (d : Int) (m : Nat) (G : List Sl) : Prop := ∃ lo hi : Nat, lo ≤ upTo l d ∧ upTo l d ≤ hi ∧ hi ≤ l.length ∧ m = hi - lo ∧ G = [.d (.tuple (encRows l)), .d (.int d), .d (.int lo), .d (.int hi), .any]
theorem ok_rows_to (T : Tx K mg) : OkD P w K mg base "rows_to" 1 ["rows", "number"] (spP K 2 T_rows_to) := by
  obtain ⟨f, fd, F, hm, hb⟩ := T.f_rows_to
  refine ⟨f, fd, hm, F.kp, hb, F.ok sc_rows_to (fun vs H Q E h => spP_len h) (fun cdv A_ outer s H vs Q E hr h => ?_)⟩
  obtain ⟨B, xs, κ, hB, hd, hn, hT, hq⟩ := h
  have RT : ∀ {G x}, κ x → Rt (frP K B H) G x Q := fun k => rtP hB hq k
  have hlim : lim = 1099511627776 := rfl
  obtain ⟨l, d, rfl, p, hl, k⟩ := hT
  refine ⟨_, (pss_cons (ps_set (i := 2) sc_rows_to.nd rfl (.inl rfl) pe_int)
      (pss_cons (ps_set (i := 3) sc_rows_to.nd rfl (.inl rfl) (pe_callB (id := "len") (len' (K := K) rfl) (by rfl) T.b_len (by decide +kernel) (pa_cons (pv 0) pa_nil)))
      (pss_cons (ps_while PassesOwn.never (pt_cmpR op_lt (pv 2) (pv 3) (nomark _))
      (pss_cons (ps_set (i := 4) sc_rows_to.nd rfl (.inl rfl) (pe_op op_fdivN (pe_op op_add (pv 2) (pv 3)) pe_int))
      (pss_one (ps_if (pt_cmpR op_le (pe_ix (ixt' (K := K) rfl) (pe_ix (ixt' (K := K) rfl) (pv 0) (pv 4) (fun _ _ => rfl)) pe_int (fun _ _ => rfl)) (pv 1) (nomark _))
      (pss_one (ps_set (i := 2) sc_rows_to.nd rfl (.inl rfl) (pe_op op_add (pv 4) pe_int)))
      (pss_one (ps_set (i := 3) sc_rows_to.nd rfl (.inl rfl) (pv 4)))))))
      (pss_one (ps_ret (pv 2)))))), ?_⟩
  try dsimp only [cxOf, Cx.nox, Cx.wish, Cx.blk]
  refine enterP hB hd (Nat.le_of_ble_eq_true rfl) ?_
  show Nx _ [.d (.tuple (encRows l)), .d (.int d), .any, .any, .any] _
  walk_at "dl"
  refine nx_while (rowsW l d) l.length ⟨0, l.length, Nat.zero_le _, upTo_le l d, Nat.le_refl _, rfl, by rw [encRows_len]; rfl⟩ ?_
  rintro m _ ⟨lo, hi, h1, h2, h3, rfl, rfl⟩
  walk_at "dl"
  · rename_i hc
    have e : ((lo : Int) + (hi : Int)) / 2 = (((lo + hi) / 2 : Nat) : Int) := by omega
    have hm : (lo + hi) / 2 < l.length := by omega
    have iff := upTo_iff (d := d) p (List.getElem?_eq_getElem hm)
    refine ⟨fun G2 => ∃ m', m' < hi - lo ∧ rowsW l d m' G2, fun G2 h => h, ?_⟩
    walk_at "dl"
    rw [e]
    refine rk_ixT ⟨_, _, _, rfl, rfl, at_rows hm, ?_⟩
    walk_at "dl"
    · rename_i h
      have := iff.mp h
      refine nx_wipe [4] ?_
      refine nx_inv ⟨_, ?_, (lo + hi) / 2 + 1, hi, by omega, h2, h3, rfl, rfl⟩
      omega
    · rename_i h
      have : ¬ (lo + hi) / 2 < upTo l d := fun z => by have := iff.mpr z; omega
      refine nx_wipe [4] ?_
      refine nx_inv ⟨_, ?_, lo, (lo + hi) / 2, h1, by omega, by omega, rfl, rfl⟩
      omega
  · rename_i hc
    have e : lo = upTo l d := by omega
    rw [e]
    exact RT k
def T_has_day : Tr := fun xs κ => ∃ (l : List Row) (d : Int), xs = [.tuple (encRows l), .int d] ∧ (l.Pairwise fun a b => a.1 < b.1) ∧ l.length ≤ 1000 ∧ κ (.bool (hasDay l d))
local macro_rules | `(tactic| walk_at "call") => `(tactic| ((with_reducible show T_has_day _ _); refine ⟨_, _, rfl, ?_, ?_, ?_⟩; (focus assumption); (focus omega)))
theorem ok_has_row (T : Tx K mg) : OkD P w K mg base "has_row" 2 ["rows", "number"] (spP K 2 T_has_day) := by
  obtain ⟨f_rows_to, fd_rows_to, m_rows_to, k_rows_to, b_rows_to, G_rows_to⟩ := ok_rows_to (P := P) (w := w) (base := base) T
  obtain ⟨f, fd, F, hm, hb⟩ := T.f_has_row
  refine ⟨f, fd, hm, F.kp, hb, F.ok sc_has_row (fun vs H Q E h => spP_len h) (fun cdv A_ outer s H vs Q E hr h => ?_)⟩
  obtain ⟨B, xs, κ, hB, hd, hn, hT, hq⟩ := h
  have RT : ∀ {G x}, κ x → Rt (frP K B H) G x Q := fun k => rtP hB hq k
  have hlim : lim = 1099511627776 := rfl
  obtain ⟨l, d, rfl, p, hl, k⟩ := hT
  refine ⟨_, (pss_one (ps_ret (pe_cmpR op_gt (pe_call G_rows_to (hr.mono (by first | decide | omega | (simp only [Nat.add_eq, Nat.succ_eq_add_one]; omega))) rfl m_rows_to k_rows_to b_rows_to .nil pass0 (pa_cons (pv 0) (pa_cons (pv 1) pa_nil))) (pe_call G_rows_to (hr.mono (by first | decide | omega | (simp only [Nat.add_eq, Nat.succ_eq_add_one]; omega))) rfl m_rows_to k_rows_to b_rows_to .nil pass0 (pa_cons (pv 0) (pa_cons (pe_op op_sub (pv 1) pe_int) pa_nil))) (nomark _)))), ?_⟩
  try dsimp only [cxOf, Cx.nox, Cx.wish, Cx.blk]
  refine enterP hB hd (Nat.le_of_ble_eq_true rfl) ?_
  show Nx _ [.d (.tuple (encRows l)), .d (.int d)] _
  walk_at "dl"
  have e : decide ((upTo l (d - 1) : Int) < (upTo l d : Int)) = hasDay l d := by
    rw [Bool.eq_iff_iff, decide_eq_true_eq, hasDay_iff p]; omega
  rw [e]
  exact RT k
def T_clocks : Trs := fun xs κ => ∃ (p : Plan) (d : Int), xs = [encPlan p, .int d] ∧ PlanOk p ∧ κ (encL (clocksOf p d))
local macro_rules | `(tactic| walk_at "call") => `(tactic| ((with_reducible show T_clocks _ _); refine ⟨_, _, rfl, ?_, ?_⟩; (focus assumption)))
theorem encL_two {l : List (List Int)} (h : ∀ s ∈ l, ShOk 2 s) : encL (l.map two) = l.map encI := by
  unfold encL
  rw [List.map_map]
  refine List.map_congr_left fun s hs => ?_
  rcases h s hs with ⟨_, c, e, rfl, _⟩ | ⟨z, _⟩
  · rfl
  · cases z
theorem ok_clocks_on (T : Tx K mg) : OkD P w K mg base "clocks_on" 3 ["plan", "day"] (spPO K 2 T_clocks) := by
  obtain ⟨f_has_row, fd_has_row, m_has_row, k_has_row, b_has_row, G_has_row⟩ := ok_has_row (P := P) (w := w) (base := base) T
  obtain ⟨f_rows_to, fd_rows_to, m_rows_to, k_rows_to, b_rows_to, G_rows_to⟩ := ok_rows_to (P := P) (w := w) (base := base) T
  obtain ⟨_, c_WEEK_DAYS⟩ := T.c_WEEK_DAYS
  obtain ⟨f, fd, F, hm, hb⟩ := T.f_clocks_on
  refine ⟨f, fd, hm, F.kp, hb, F.ok sc_clocks_on (fun vs H Q E h => spPO_len h) (fun cdv A_ outer s H vs Q E hr h => ?_)⟩
  obtain ⟨B, xs, κ, hB, hd, hn, hT, hq⟩ := h
  have RT : ∀ {G x}, κ x → RtO (frP K B H) G x Q := fun k => rtPO hB hq k
  have hlim : lim = 1099511627776 := rfl
  obtain ⟨p, d, rfl, hp, k⟩ := hT
  have p1 := hp.st.up
  have p2 := hp.sg.up
  have l1 := hp.st.len
  have l2 := hp.sg.len
  refine ⟨_, (pss_cons (ps_asg (pv 0) (gtup' (K := K) (n := 2) rfl rfl (pgs_cons (pg_name (i := 2) sc_clocks_on.nd rfl (.inl rfl)) (pgs_cons (pg_name (i := 3) sc_clocks_on.nd rfl (.inl rfl)) pgs_nil))))
      (pss_cons (ps_if (pt_val (pe_call G_has_row (hr.mono (by first | decide | omega | (simp only [Nat.add_eq, Nat.succ_eq_add_one]; omega))) rfl m_has_row k_has_row b_has_row .nil pass0 (pa_cons (pv 3) (pa_cons (pv 1) pa_nil))))
      (pss_one (ps_own (ps_ret (pe_callTy (T := "list") (lof' (K := K) rfl) (by rfl) T.b_list (by decide +kernel) (pa_cons (pe_ix (ixt' (K := K) rfl) (pe_ix (ixt' (K := K) rfl) (pv 3) (pe_op op_sub (pe_call G_rows_to (hr.mono (by first | decide | omega | (simp only [Nat.add_eq, Nat.succ_eq_add_one]; omega))) rfl m_rows_to k_rows_to b_rows_to .nil pass0 (pa_cons (pv 3) (pa_cons (pv 1) pa_nil))) pe_int) (fun _ _ => rfl)) pe_int (fun _ _ => rfl)) pa_nil)))))
      pss_nil)
      (pss_cons (ps_set (i := 4) sc_clocks_on.nd rfl (.inl rfl) (pe_call G_rows_to (hr.mono (by first | decide | omega | (simp only [Nat.add_eq, Nat.succ_eq_add_one]; omega))) rfl m_rows_to k_rows_to b_rows_to .nil pass0 (pa_cons (pv 2) (pa_cons (pv 1) pa_nil))))
      (pss_cons (ps_if (pt_cmpR op_eq (pv 4) pe_int (nomark _))
      (pss_one (ps_own (ps_ret (pe_lst pa_nil))))
      pss_nil)
      (pss_cons (ps_set (i := 5) sc_clocks_on.nd rfl (.inl rfl) (pe_ix (ixt' (K := K) rfl) (pe_ix (ixt' (K := K) rfl) (pv 2) (pe_op op_sub (pv 4) pe_int) (fun _ _ => rfl)) pe_int (fun _ _ => rfl)))
      (pss_one (ps_own (ps_ret (pe_lc (own := [("weekday", 6), ("clock", 7), ("length", 8)]) rfl sc_clocks_on.nd (ptup' (K := K) rfl (pv 5)) (blkOk_by (own := [("weekday", 6), ("clock", 7), ("length", 8)]) (N := ["plan", "day", "standings", "singles", "reached", "shifts", "weekday", "clock", "length"]) (sc := defScope s_clocks_on) (by decide +kernel)) (fun _ _ _ _ _ => (gtup' (K := K) (n := 3) rfl rfl (pgs_cons (pg_name (i := 6) sc_clocks_on.nd rfl (.inl rfl)) (pgs_cons (pg_name (i := 7) sc_clocks_on.nd rfl (.inl rfl)) (pgs_cons (pg_name (i := 8) sc_clocks_on.nd rfl (.inl rfl)) pgs_nil))))) (fun _ _ _ _ _ => (pts_one (pt_cmpR op_eq (pv 6) (pe_op op_modN (pv 1) (pe_glob (v := .int 7) rfl c_WEEK_DAYS ⟨_, rfl⟩)) (nomark _)))) (fun _ _ _ _ _ => (pe_tup (pa_cons (pv 7) (pa_cons (pv 8) pa_nil))))))))))))), ?_⟩
  try dsimp only [cxOf, Cx.nox, Cx.wish, Cx.blk]
  refine enterP hB hd (Nat.le_of_ble_eq_true rfl) ?_
  show Nx _ [.d (encPlan p), .d (.int d), .any, .any, .any, .any, .any, .any, .any] _
  refine nx_asgG ?_
  refine ek_var rfl ?_
  refine gk_tup ⟨_, rfl, rfl, ?_⟩
  walk_at "dl"
  · rename_i hc
    obtain ⟨hi, h1, e, _⟩ := hasDay_row p2 hc
    rw [show ((upTo p.sg d : Int) - 1) = ((upTo p.sg d - 1 : Nat) : Int) by omega]
    refine rk_ixT ⟨_, _, _, rfl, rfl, at_rows hi, ?_⟩
    walk_at "dl"
    refine ⟨_, .inr rfl, ?_⟩
    unfold clocksOf at k
    rw [if_pos hc, List.getElem?_eq_getElem hi] at k
    simp only [Option.map_some, Option.getD_some] at k
    rw [encL_two (fun s hs => (hp.sg.ok _ (List.getElem_mem hi)).ok s hs)] at k
    exact RT k
  · rename_i hc hz
    unfold clocksOf at k
    rw [if_neg (by rw [hc]; exact Bool.false_ne_true), if_pos (by omega)] at k
    exact RT k
  · rename_i hc hz
    have hle := upTo_le p.st d
    have hi : upTo p.st d - 1 < p.st.length := by omega
    have ro := hp.st.ok _ (List.getElem_mem hi)
    unfold clocksOf at k
    rw [if_neg (by rw [hc]; exact Bool.false_ne_true), if_neg (by omega), List.getElem?_eq_getElem hi] at k
    simp only [Option.map_some, Option.getD_some] at k
    generalize hr : p.st[upTo p.st d - 1] = r at ro k
    have hrl := ro.len
    rw [show ((upTo p.st d : Int) - 1) = ((upTo p.st d - 1 : Nat) : Int) by omega]
    refine rk_ixT ⟨_, _, _, rfl, rfl, at_rows hi, ?_⟩
    rw [hr]
    walk_at "dl"
    refine eo_lcT (fun i acc G => acc = encL (((r.2.take i).filter fun s => decide (s.head? = some (d % 7))).map two) ∧ G = [.d (encPlan p), .d (.int d), .d (.tuple (encRows p.st)), .d (.tuple (encRows p.sg)), .d (.int (upTo p.st d)), .d (.tuple (r.2.map encI)), .any, .any, .any]) ?_
    walk_at "dl"
    refine ⟨_, rfl, by rw [List.length_map]; omega, gw_tup (gws_cons (gw_name (by decide)) (gws_cons (gw_name (by decide)) (gws_cons (gw_name (by decide)) gws_nil))), ⟨rfl, rfl⟩, ?_, ?_⟩
    · rintro i v acc _ hv ⟨rfl, rfl⟩ _ B' D ws hB'
      obtain ⟨s, hs, rfl⟩ : ∃ s, r.2[i]? = some s ∧ v = encI s := by
        rw [List.getElem?_map] at hv
        cases e : r.2[i]? with
        | none => rw [e] at hv; cases hv
        | some s => rw [e] at hv; exact ⟨s, rfl, (Option.some.inj hv).symm⟩
      rcases ro.ok s (List.mem_of_getElem? hs) with ⟨z, _⟩ | ⟨_, w, c, e, rfl, _⟩
      · cases z
      have et : r.2.take (i + 1) = r.2.take i ++ [[w, c, e]] := by rw [List.take_add_one, hs]; rfl
      rw [show encI [w, c, e] = .tuple [.int w, .int c, .int e] from rfl]
      walk_at "dl"
      · rename_i h
        refine ⟨?_, rfl⟩
        rw [et, List.filter_append, List.map_append, encL_append, List.filter_cons, if_pos (by rw [h]; exact decide_eq_true rfl)]
        rfl
      · rename_i h
        refine ⟨?_, rfl⟩
        rw [et, List.filter_append, List.filter_cons, if_neg (by simp only [List.head?_cons, Option.some.injEq, decide_eq_true_eq]; exact h), List.filter_nil, List.append_nil]
    rintro acc _ ⟨rfl, rfl⟩
    rw [List.length_map, List.take_length]
    exact RT k
def T_shifts_on : Trs := fun xs κ => ∃ (p : Plan) (d : Int), xs = [encPlan p, .int d] ∧ PlanOk p ∧ κ (encL (shiftsOf p d))
local macro_rules | `(tactic| walk_at "call") => `(tactic| ((with_reducible show T_shifts_on _ _); refine ⟨_, _, rfl, ?_, ?_⟩; (focus assumption)))
theorem clocks_len {p : Plan} (h : PlanOk p) (d : Int) : (clocksOf p d).length ≤ 63 := by
  unfold clocksOf
  split
  · cases e : p.sg[upTo p.sg d - 1]? with
    | none => exact Nat.zero_le _
    | some r =>
      show (r.2.map two).length ≤ 63
      rw [List.length_map]
      exact (h.sg.ok r (List.mem_of_getElem? e)).len
  · split
    · exact Nat.zero_le _
    · cases e : p.st[upTo p.st d - 1]? with
      | none => exact Nat.zero_le _
      | some r =>
        show ((r.2.filter _).map two).length ≤ 63
        rw [List.length_map]
        exact Nat.le_trans (List.length_filter_le _ _) (h.st.ok r (List.mem_of_getElem? e)).len
theorem ok_shifts_on (T : Tx K mg) : OkD P w K mg base "shifts_on" 4 ["plan", "day"] (spPO K 2 T_shifts_on) := by
  obtain ⟨f_clocks_on, fd_clocks_on, m_clocks_on, k_clocks_on, b_clocks_on, G_clocks_on⟩ := ok_clocks_on (P := P) (w := w) (base := base) T
  obtain ⟨_, c_DAY_LONG⟩ := T.c_DAY_LONG
  obtain ⟨_, c_LAST_DAY⟩ := T.c_LAST_DAY
  obtain ⟨f, fd, F, hm, hb⟩ := T.f_shifts_on
  refine ⟨f, fd, hm, F.kp, hb, F.ok sc_shifts_on (fun vs H Q E h => spPO_len h) (fun cdv A_ outer s H vs Q E hr h => ?_)⟩
  obtain ⟨B, xs, κ, hB, hd, hn, hT, hq⟩ := h
  have RT : ∀ {G x}, κ x → RtO (frP K B H) G x Q := fun k => rtPO hB hq k
  have hlim : lim = 1099511627776 := rfl
  obtain ⟨p, d, rfl, hp, k⟩ := hT
  have hcl := clocks_len hp d
  refine ⟨_, (pss_cons (ps_if (pt_cmpR op_gt (pv 1) (pe_glob (v := .int 694443) rfl c_LAST_DAY ⟨_, rfl⟩) (nomark _))
      (pss_one (ps_own (ps_ret (pe_lst pa_nil))))
      pss_nil)
      (pss_cons (ps_set (i := 2) sc_shifts_on.nd rfl (.inr rfl) (pe_op op_mul (pe_glob (v := .int 1440) rfl c_DAY_LONG ⟨_, rfl⟩) (pv 1)))
      (pss_one (ps_own (ps_ret (pe_lc (own := [("clock", 3), ("length", 4)]) rfl sc_shifts_on.nd (plist' (K := K) rfl (pe_call G_clocks_on (hr.mono (by first | decide | omega | (simp only [Nat.add_eq, Nat.succ_eq_add_one]; omega))) rfl m_clocks_on k_clocks_on b_clocks_on .nil pass0 (pa_cons (pv 0) (pa_cons (pv 1) pa_nil)))) (blkOk_by (own := [("clock", 3), ("length", 4)]) (N := ["plan", "day", "begin", "clock", "length"]) (sc := defScope s_shifts_on) (by decide +kernel)) (fun _ _ _ _ _ => (gtup' (K := K) (n := 2) rfl rfl (pgs_cons (pg_name (i := 3) sc_shifts_on.nd rfl (.inl rfl)) (pgs_cons (pg_name (i := 4) sc_shifts_on.nd rfl (.inl rfl)) pgs_nil)))) (fun _ _ _ _ _ => pts_nil) (fun _ _ _ _ _ => (pe_tup (pa_cons (pe_op op_add (pv 2) (pv 3)) (pa_cons (pe_op op_add (pe_op op_add (pv 2) (pv 3)) (pv 4)) pa_nil)))))))))), ?_⟩
  try dsimp only [cxOf, Cx.nox, Cx.wish, Cx.blk]
  refine enterP hB hd (Nat.le_of_ble_eq_true rfl) ?_
  show Nx _ [.d (encPlan p), .d (.int d), .any, .any, .any] _
  walk_at "dl"
  · rename_i h
    unfold shiftsOf at k
    rw [if_pos h] at k
    exact RT k
  rename_i h
  unfold shiftsOf at k
  rw [if_neg (by omega)] at k
  refine eo_lcL (fun i acc G => acc = encL (((clocksOf p d).take i).map fun s => (1440 * d + s.1, 1440 * d + s.1 + s.2)) ∧ G = [.d (encPlan p), .d (.int d), .d (.int (1440 * d)), .any, .any]) ?_
  refine EO.ek ?_
  walk_at "dl"
  refine ⟨_, rfl, by rw [encL_len]; omega, gw_tup (gws_cons (gw_name (by decide)) (gws_cons (gw_name (by decide)) gws_nil)), ⟨rfl, rfl⟩, ?_, ?_⟩
  · rintro i v acc _ hv ⟨rfl, rfl⟩ _ B' D ws hB'
    obtain ⟨s, hs, rfl⟩ := encL_get hv
    walk_at "dl"
    refine ⟨?_, rfl⟩
    rw [List.take_add_one, hs, List.map_append, encL_append]
    rfl
  rintro acc _ ⟨rfl, rfl⟩
  rw [encL_len, List.take_length]
  exact RT k
def T_wshifts : TrO := fun fs xs κ => ∃ (p : Plan) (M : Int) (r q : Addr) (kvs : KD) (w : WS) (d : Int), fs = wfs p M r kvs q w ∧ xs = [.int d] ∧ PlanOk p ∧ CacheOk p kvs ∧ kvs.length ≤ 900000 ∧ ∀ kvs', CacheOk p kvs' → kvs'.length ≤ kvs.length + 1 → κ (.list (encL (shiftsOf p d))) (wfs p M r kvs' q w)
theorem ok_Walk__shifts_of (T : Tx K mg) {C_Walk : Addr} (c_Walk : mg "Walk" = some (.ref C_Walk)) : ∃ f fd, Meth K C_Walk "shifts_of" f ∧ Binds K fd ["self", "day"] [] ∧ FnOk P w K mg base CX0 5 f fd ["self", "day"] (spS K C_Walk 1 T_wshifts) := by
  have cl_Walk := (T.q_Walk C_Walk c_Walk).cl
  have n_Walk_shifts := T.n_Walk_shifts C_Walk c_Walk
  have n_Walk_plan := T.n_Walk_plan C_Walk c_Walk
  obtain ⟨f_shifts_on, fd_shifts_on, m_shifts_on, k_shifts_on, b_shifts_on, G_shifts_on⟩ := ok_shifts_on (P := P) (w := w) (base := base) T
  obtain ⟨f, fd, F, hm, hb⟩ := T.f_Walk__shifts_of
  refine ⟨f, fd, hm C_Walk c_Walk, hb, F.ok sc_Walk__shifts_of (fun vs H Q E h => spS_len h) (fun cdv A_ outer s H vs Q E hr h => ?_)⟩
  obtain ⟨a0, us, B, fs0, xs, κ, rfl, hB, hnd, hok, hd, hn, hT, hq⟩ := h
  have RT : ∀ {G x fs'}, G[0]? = some (Sl.obj a0 C_Walk fs') → κ x fs' → Rt (frP K B (delL (objS a0 C_Walk fs0).as H)) G x Q := fun hG k => rtS hB hq hG k
  have hlim : lim = 1099511627776 := rfl
  obtain ⟨p, M, r, q, kvs, w, d, rfl, rfl, hp, hc, hl, k⟩ := hT
  refine ⟨_, (C8.pss_cut (ps_if (pt_cmp (pc_dnotin (hu_of hr) (pv 1) (pe_fld' (K := K) rfl (pv 0))))
      (pss_one (ps_dput (hu_of hr) (pe_fld' (K := K) rfl (pv 0)) (pv 1) (pe_call G_shifts_on (hr.mono (by first | decide | omega | (simp only [Nat.add_eq, Nat.succ_eq_add_one]; omega))) rfl m_shifts_on k_shifts_on b_shifts_on .nil pass0 (pa_cons (pe_fld' (K := K) rfl (pv 0)) (pa_cons (pv 1) pa_nil))) rfl))
      pss_nil)
      (pss_one (ps_ret (pe_dget (hu_of hr) (pe_fld' (K := K) rfl (pv 0)) (pv 1) (fun _ _ => rfl))))), ?_⟩
  try dsimp only [cxOf, Cx.nox, Cx.wish, Cx.blk]
  refine enterS hB hnd hok hd (Nat.le_of_ble_eq_true rfl) ?_
  show Nx _ [.obj a0 C_Walk (wfs p M r kvs q w), .d (.int d)] _
  refine nx_cut (fun G => ∃ kvs', CacheOk p kvs' ∧ kvs'.length ≤ kvs.length + 1 ∧ valD kvs' (Sum.inl d) = some (.list (encL (shiftsOf p d))) ∧ G = [.obj a0 C_Walk (wfs p M r kvs' q w), .d (.int d)]) ?_ ?_
  · walk_at "dl"
    refine ⟨a0, C_Walk, _, r, kvs, Sum.inl d, rfl, cl_Walk, n_Walk_shifts, rfl, rfl, ?_⟩
    walk_at "dl"
    · rename_i hn
      have hn : valD kvs (Sum.inl d) = none := by
        cases e : valD kvs (Sum.inl d) with
        | none => rfl
        | some y => rw [e] at hn; cases hn
      obtain ⟨c1, c2, c3⟩ := hc.put hn
      refine ⟨a0, C_Walk, r, _, kvs, rfl, cl_Walk, n_Walk_shifts, rfl, ?_⟩
      walk_at "dl"
      refine ⟨_, kvs, Sum.inl d, rfl, rfl, rfl, by omega, ?_⟩
      exact nx_inv ⟨_, c1, c2, c3, rfl⟩
    · rename_i hs
      obtain ⟨y, hy⟩ := Option.isSome_iff_exists.mp hs
      obtain ⟨d', e1, e2⟩ := hc _ _ hy
      cases e1
      exact nx_inv ⟨kvs, hc, Nat.le_succ _, by rw [hy, e2], rfl⟩
  rintro _ ⟨kvs', h1, h2, h3, rfl⟩
  walk_at "dl"
  refine ⟨_, kvs', Sum.inl d, _, rfl, rfl, rfl, h3, ?_⟩
  exact RT rfl (k kvs' h1 h2)
def T_wat : TrO := fun fs xs κ => ∃ (p : Plan) (M : Int) (r q : Addr) (kvs : KD) (w : WS) (m : Int), fs = wfs p M r kvs q w ∧ xs = [.int m] ∧ PlanOk p ∧ CacheOk p kvs ∧ kvs.length ≤ 800000 ∧ ∀ kvs', CacheOk p kvs' → kvs'.length ≤ kvs.length + 2 → κ (optP (shiftAt p m)) (wfs p M r kvs' q w)
theorem ok_Walk__shift_at (T : Tx K mg) {C_Walk : Addr} (c_Walk : mg "Walk" = some (.ref C_Walk)) : ∃ f fd, Meth K C_Walk "shift_at" f ∧ Binds K fd ["self", "minute"] [] ∧ FnOk P w K mg base CX0 6 f fd ["self", "minute"] (spS K C_Walk 1 T_wat) := by
  have cl_Walk := (T.q_Walk C_Walk c_Walk).cl
  obtain ⟨f_day_of, fd_day_of, m_day_of, k_day_of, b_day_of, G_day_of⟩ := ok_day_of (P := P) (w := w) (base := base) T
  obtain ⟨f_Walk__shifts_of, fd_Walk__shifts_of, mt_Walk__shifts_of, b_Walk__shifts_of, G_Walk__shifts_of⟩ := ok_Walk__shifts_of (P := P) (w := w) (base := base) T c_Walk
  obtain ⟨f, fd, F, hm, hb⟩ := T.f_Walk__shift_at
  refine ⟨f, fd, hm C_Walk c_Walk, hb, F.ok sc_Walk__shift_at (fun vs H Q E h => spS_len h) (fun cdv A_ outer s H vs Q E hr h => ?_)⟩
  obtain ⟨a0, us, B, fs0, xs, κ, rfl, hB, hnd, hok, hd, hn, hT, hq⟩ := h
  have RT : ∀ {G x fs'}, G[0]? = some (Sl.obj a0 C_Walk fs') → κ x fs' → Rt (frP K B (delL (objS a0 C_Walk fs0).as H)) G x Q := fun hG k => rtS hB hq hG k
  have hlim : lim = 1099511627776 := rfl
  obtain ⟨p, M, r, q, kvs, w, m, rfl, rfl, hp, hc, hl, k⟩ := hT
  refine ⟨_, (pss_cons (ps_for PassesOwn.never rfl (ptup' (K := K) rfl (pe_tup (pa_cons (pe_op op_sub (pe_call G_day_of (hr.mono (by first | decide | omega | (simp only [Nat.add_eq, Nat.succ_eq_add_one]; omega))) rfl m_day_of k_day_of b_day_of .nil pass0 (pa_cons (pv 1) pa_nil)) pe_int) (pa_cons (pe_call G_day_of (hr.mono (by first | decide | omega | (simp only [Nat.add_eq, Nat.succ_eq_add_one]; omega))) rfl m_day_of k_day_of b_day_of .nil pass0 (pa_cons (pv 1) pa_nil)) pa_nil)))) (pg_name (i := 2) sc_Walk__shift_at.nd rfl (.inl rfl))
      (pss_one (ps_for PassesOwn.never rfl (plist' (K := K) rfl (pe_meth (pv 0) cl_Walk mt_Walk__shifts_of G_Walk__shifts_of (hr.mono (by first | decide | omega | (simp only [Nat.add_eq, Nat.succ_eq_add_one]; omega))) b_Walk__shifts_of .nil pass0 (pa_cons (pv 2) pa_nil))) (gtup' (K := K) (n := 2) rfl rfl (pgs_cons (pg_name (i := 3) sc_Walk__shift_at.nd rfl (.inl rfl)) (pgs_cons (pg_name (i := 4) sc_Walk__shift_at.nd rfl (.inl rfl)) pgs_nil)))
      (pss_one (ps_if (pt_chain op_le op_lt (pv 3) (pv 1) (pv 4))
      (pss_one (ps_ret (pe_tup (pa_cons (pv 3) (pa_cons (pv 4) pa_nil)))))
      pss_nil)))))
      (pss_one (ps_ret pe_non))), ?_⟩
  try dsimp only [cxOf, Cx.nox, Cx.wish, Cx.blk]
  refine enterS hB hnd hok hd (Nat.le_of_ble_eq_true rfl) ?_
  show Nx _ [.obj a0 C_Walk (wfs p M r kvs q w), .d (.int m), .any, .any, .any] _
  refine nx_seq ?_
  refine nx_forTi ?_
  walk_at "dl"
  refine ⟨_, rfl, fun i G => ∃ kvs', CacheOk p kvs' ∧ kvs'.length ≤ kvs.length + i ∧ (∀ j, j < i → (shiftsOf p ([m / 1440 - 1, m / 1440].getD j 0)).find? (fun s => decide (s.1 ≤ m) && decide (m < s.2)) = none) ∧ G = [.obj a0 C_Walk (wfs p M r kvs' q w), .d (.int m), .any, .any, .any], ⟨kvs, hc, Nat.le_refl _, (fun j hj => absurd hj (Nat.not_lt_zero j)), rfl⟩, ?_, ?_⟩
  · rintro B2 hB2 i x _ hx ⟨kvs', h1, h2, h3, rfl⟩
    obtain ⟨d, hd, rfl, hi⟩ : ∃ d : Int, [m / 1440 - 1, m / 1440][i]? = some d ∧ x = .int d ∧ i < 2 := by
      match i, hx with
      | 0, hx => exact ⟨_, rfl, (Option.some.inj hx).symm, by decide⟩
      | 1, hx => exact ⟨_, rfl, (Option.some.inj hx).symm, by decide⟩
    walk_at "dl"
    refine nx_forLi ?_
    walk_at "dl"
    refine ⟨_, rfl, p, M, r, q, kvs', w, d, rfl, rfl, hp, h1, by omega, fun kvs2 c1 c2 => ?_⟩
    refine ⟨_, rfl, fun j G => (∀ s ∈ (shiftsOf p d).take j, (decide (s.1 ≤ m) && decide (m < s.2)) = false) ∧ G = [.obj a0 C_Walk (wfs p M r kvs2 q w), .d (.int m), .d (.int d), .any, .any], ⟨(fun s hs => by rw [List.take_zero] at hs; cases hs), rfl⟩, ?_, ?_⟩
    · rintro B3 hB3 j x _ hx ⟨ha, rfl⟩
      obtain ⟨s, hs, rfl⟩ := encL_get hx
      have st : (shiftsOf p d).take (j + 1) = (shiftsOf p d).take j ++ [s] := by rw [List.take_add_one, hs]; rfl
      have go : ∀ (hn : (decide (s.1 ≤ m) && decide (m < s.2)) = false), ∀ s' ∈ (shiftsOf p d).take (j + 1), (decide (s'.1 ≤ m) && decide (m < s'.2)) = false := fun hn s' hs' => by
        rw [st] at hs'
        rcases List.mem_append.mp hs' with h | h
        · exact ha s' h
        · rw [List.mem_singleton.mp h]; exact hn
      walk_at "dl"
      · rename_i q1 q2
        have hs1 : (decide (s.1 ≤ m) && decide (m < s.2)) = true := by rw [decide_eq_true q1, decide_eq_true q2]; rfl
        have hf := find_at (f := fun s : Int × Int => decide (s.1 ≤ m) && decide (m < s.2)) hs ha hs1
        have e : shiftAt p m = some s := by
          unfold shiftAt
          rw [List.find?_append]
          match i, hd, hi with
          | 0, hd, _ =>
            obtain rfl := Option.some.inj hd
            rw [hf]; rfl
          | 1, hd, _ =>
            obtain rfl := Option.some.inj hd
            have e0 : (shiftsOf p (m / 1440 - 1)).find? (fun s => decide (s.1 ≤ m) && decide (m < s.2)) = none := h3 0 (by decide)
            rw [e0, hf]; rfl
        have k := k kvs2 c1 (by omega)
        rw [e] at k
        exact Rt.weak hB3 (Rt.weak hB2 (RT rfl k))
      all_goals
        refine nx_wipe [3, 4] ?_
        refine nx_inv ⟨go ?_, rfl⟩
        first
          | (rename_i q1 q2
             rw [decide_eq_false (show ¬ m < s.2 by omega), Bool.and_false])
          | (rename_i q1 _
             rw [decide_eq_false (show ¬ s.1 ≤ m by omega), Bool.false_and])
    rintro _ ⟨ha, rfl⟩
    walk_at "dl"
    refine nx_wipe [2] ?_
    refine nx_inv ⟨kvs2, c1, by omega, fun j hj => ?_, rfl⟩
    by_cases e : j = i
    · subst e
      rw [List.getD_eq_getElem?_getD, hd]
      rw [encL_len, List.take_length] at ha
      exact List.find?_eq_none.mpr fun s hs => by
        show ¬ ((decide (s.1 ≤ m) && decide (m < s.2)) = true)
        rw [ha s hs]; decide
    · exact h3 j (by omega)
  rintro _ ⟨kvs', h1, h2, h3, rfl⟩
  walk_at "dl"
  have e : shiftAt p m = none := by
    have e0 := h3 0 (Nat.le_of_ble_eq_true rfl)
    have e1 := h3 1 (Nat.le_of_ble_eq_true rfl)
    unfold shiftAt
    rw [List.find?_append]
    have e0 : (shiftsOf p (m / 1440 - 1)).find? (fun s => decide (s.1 ≤ m) && decide (m < s.2)) = none := e0
    have e1 : (shiftsOf p (m / 1440)).find? (fun s => decide (s.1 ≤ m) && decide (m < s.2)) = none := e1
    rw [e0, e1]; rfl
  have k := k kvs' h1 h2
  rw [e] at k
  exact RT rfl k
def T_wend : TrO := fun fs xs κ => ∃ (p : Plan) (M : Int) (r q : Addr) (kvs : KD) (w : WS) (m : Int), fs = wfs p M r kvs q w ∧ xs = [.int m] ∧ PlanOk p ∧ CacheOk p kvs ∧ kvs.length ≤ 800000 ∧ ∀ kvs', CacheOk p kvs' → kvs'.length ≤ kvs.length + 2 → κ (.int (gEnd p M m)) (wfs p M r kvs' q w)
theorem ok_Walk__guessed_end (T : Tx K mg) {C_Walk : Addr} (c_Walk : mg "Walk" = some (.ref C_Walk)) : ∃ f fd, Meth K C_Walk "guessed_end" f ∧ Binds K fd ["self", "minute"] [] ∧ FnOk P w K mg base CX0 7 f fd ["self", "minute"] (spS K C_Walk 1 T_wend) := by
  have cl_Walk := (T.q_Walk C_Walk c_Walk).cl
  have n_Walk_most := T.n_Walk_most C_Walk c_Walk
  obtain ⟨f_Walk__shift_at, fd_Walk__shift_at, mt_Walk__shift_at, b_Walk__shift_at, G_Walk__shift_at⟩ := ok_Walk__shift_at (P := P) (w := w) (base := base) T c_Walk
  obtain ⟨f, fd, F, hm, hb⟩ := T.f_Walk__guessed_end
  refine ⟨f, fd, hm C_Walk c_Walk, hb, F.ok sc_Walk__guessed_end (fun vs H Q E h => spS_len h) (fun cdv A_ outer s H vs Q E hr h => ?_)⟩
  obtain ⟨a0, us, B, fs0, xs, κ, rfl, hB, hnd, hok, hd, hn, hT, hq⟩ := h
  have RT : ∀ {G x fs'}, G[0]? = some (Sl.obj a0 C_Walk fs') → κ x fs' → Rt (frP K B (delL (objS a0 C_Walk fs0).as H)) G x Q := fun hG k => rtS hB hq hG k
  have hlim : lim = 1099511627776 := rfl
  obtain ⟨p, M, r, q, kvs, w, m, rfl, rfl, hp, hc, hl, k⟩ := hT
  refine ⟨_, (pss_cons (ps_set (i := 2) sc_Walk__guessed_end.nd rfl (.inl rfl) (pe_meth (pv 0) cl_Walk mt_Walk__shift_at G_Walk__shift_at (hr.mono (by first | decide | omega | (simp only [Nat.add_eq, Nat.succ_eq_add_one]; omega))) b_Walk__shift_at .nil pass0 (pa_cons (pv 1) pa_nil)))
      (pss_one (ps_ret (pe_ifExp (pt_cmpR op_isN (pv 2) pe_non (nomark _)) (pe_op op_add (pv 1) (pe_fld' (K := K) rfl (pv 0))) (pe_ix (ixt' (K := K) rfl) (pv 2) pe_int (fun _ _ => rfl)))))), ?_⟩
  try dsimp only [cxOf, Cx.nox, Cx.wish, Cx.blk]
  refine enterS hB hnd hok hd (Nat.le_of_ble_eq_true rfl) ?_
  show Nx _ [.obj a0 C_Walk (wfs p M r kvs q w), .d (.int m), .any] _
  walk_at "dl"
  refine ⟨_, rfl, p, M, r, q, kvs, w, m, rfl, rfl, hp, hc, hl, fun kvs' c1 c2 => ?_⟩
  have k := k kvs' c1 c2
  unfold gEnd at k
  cases e : shiftAt p m with
  | none =>
    rw [e] at k
    walk_at "dl"
    exact RT rfl k
  | some s =>
    rw [e] at k
    walk_at "dl"
    exact RT rfl k
def T_leave : TrO := fun fs xs κ => ∃ (p : Plan) (M : Int) (r q : Addr) (kvs : KD) (w : WS), fs = wfs p M r kvs q w ∧ xs = [] ∧ PlanOk p ∧ CacheOk p kvs ∧ kvs.length ≤ 700000 ∧ w.found.length ≤ 700000 ∧ ∀ kvs', CacheOk p kvs' → kvs'.length ≤ kvs.length + 2 → κ .none (wfs p M r kvs' q (leaveW p M w))
theorem ok_Walk__leave (T : Tx K mg) {C_Walk : Addr} (c_Walk : mg "Walk" = some (.ref C_Walk)) : ∃ f fd, Meth K C_Walk "leave" f ∧ Binds K fd ["self"] [] ∧ FnOk P w K mg base CX0 8 f fd ["self"] (spS K C_Walk 0 T_leave) := by
  have cl_Walk := (T.q_Walk C_Walk c_Walk).cl
  have n_Walk_inside := T.n_Walk_inside C_Walk c_Walk
  have n_Walk_since := T.n_Walk_since C_Walk c_Walk
  have n_Walk_found := T.n_Walk_found C_Walk c_Walk
  obtain ⟨f_Walk__guessed_end, fd_Walk__guessed_end, mt_Walk__guessed_end, b_Walk__guessed_end, G_Walk__guessed_end⟩ := ok_Walk__guessed_end (P := P) (w := w) (base := base) T c_Walk
  obtain ⟨f, fd, F, hm, hb⟩ := T.f_Walk__leave
  refine ⟨f, fd, hm C_Walk c_Walk, hb, F.ok sc_Walk__leave (fun vs H Q E h => spS_len h) (fun cdv A_ outer s H vs Q E hr h => ?_)⟩
  obtain ⟨a0, us, B, fs0, xs, κ, rfl, hB, hnd, hok, hd, hn, hT, hq⟩ := h
  have RT : ∀ {G x fs'}, G[0]? = some (Sl.obj a0 C_Walk fs') → κ x fs' → Rt (frP K B (delL (objS a0 C_Walk fs0).as H)) G x Q := fun hG k => rtS hB hq hG k
  have hlim : lim = 1099511627776 := rfl
  obtain ⟨p, M, r, q, kvs, w, rfl, rfl, hp, hc, hl, hw, k⟩ := hT
  refine ⟨_, (pss_one (ps_if (pt_val (pe_fld' (K := K) rfl (pv 0)))
      (pss_cons (ps_set (i := 1) sc_Walk__leave.nd rfl (.inl rfl) (pe_meth (pv 0) cl_Walk mt_Walk__guessed_end G_Walk__guessed_end (hr.mono (by first | decide | omega | (simp only [Nat.add_eq, Nat.succ_eq_add_one]; omega))) b_Walk__guessed_end .nil pass0 (pa_cons (pe_fld' (K := K) rfl (pv 0)) pa_nil)))
      (pss_cons (ps_expr (pe_bm PySem.F.plainAttrs_list PySem.F.slot_list_append PySem.F.type_list_append mt_append (pe_fld' (K := K) rfl (pv 0)) (pa_cons (pe_tup (pa_cons (pe_fld' (K := K) rfl (pv 0)) (pa_cons (pv 1) (pa_cons pe_str pa_nil)))) pa_nil)))
      (pss_cons (ps_fld' (K := K) rfl (pv 0) pe_bl)
      (pss_one (ps_fld' (K := K) rfl (pv 0) (pv 1))))))
      pss_nil)), ?_⟩
  try dsimp only [cxOf, Cx.nox, Cx.wish, Cx.blk]
  refine enterS hB hnd hok hd (Nat.le_of_ble_eq_true rfl) ?_
  show Nx _ [.obj a0 C_Walk (wfs p M r kvs q w), .any] _
  walk_at "dl"
  · rename_i hin
    refine ⟨_, rfl, p, M, r, q, kvs, w, w.since, rfl, rfl, hp, hc, by omega, fun kvs' c1 c2 => ?_⟩
    walk_at "dl"
    refine ⟨_, _, rfl, rfl, by rw [List.length_map]; omega, ?_⟩
    refine nx_conv (G' := [.obj a0 C_Walk (wfs p M r kvs' q ⟨w.found ++ [(w.since, gEnd p M w.since, ("end" : Str))], w.inside, w.since⟩), .d (.int (gEnd p M w.since))]) (by rw [← wfs_app]; rfl) ?_
    walk_at "dl"
    refine ⟨a0, C_Walk, _, _, rfl, cl_Walk, n_Walk_inside, Nat.le_of_ble_eq_true rfl, rfl, ?_⟩
    walk_at "dl"
    refine ⟨a0, C_Walk, _, _, rfl, cl_Walk, n_Walk_since, Nat.le_of_ble_eq_true rfl, rfl, ?_⟩
    have k := k kvs' c1 c2
    unfold leaveW at k
    rw [if_pos hin] at k
    exact nx_fall (RT rfl k)
  · rename_i hin
    have k := k kvs hc (by omega)
    unfold leaveW at k
    rw [if_neg (by rw [hin]; decide)] at k
    exact nx_fall (RT rfl k)
def T_wbegin : TrO := fun fs xs κ => ∃ (p : Plan) (M : Int) (r q : Addr) (kvs : KD) (w : WS) (m : Int), fs = wfs p M r kvs q w ∧ xs = [.int m] ∧ PlanOk p ∧ CacheOk p kvs ∧ kvs.length ≤ 800000 ∧ ∀ kvs', CacheOk p kvs' → kvs'.length ≤ kvs.length + 2 → κ (.int (gBegin p M m)) (wfs p M r kvs' q w)
theorem ok_Walk__guessed_begin (T : Tx K mg) {C_Walk : Addr} (c_Walk : mg "Walk" = some (.ref C_Walk)) : ∃ f fd, Meth K C_Walk "guessed_begin" f ∧ Binds K fd ["self", "minute"] [] ∧ FnOk P w K mg base CX0 7 f fd ["self", "minute"] (spS K C_Walk 1 T_wbegin) := by
  have cl_Walk := (T.q_Walk C_Walk c_Walk).cl
  have n_Walk_most := T.n_Walk_most C_Walk c_Walk
  obtain ⟨f_Walk__shift_at, fd_Walk__shift_at, mt_Walk__shift_at, b_Walk__shift_at, G_Walk__shift_at⟩ := ok_Walk__shift_at (P := P) (w := w) (base := base) T c_Walk
  obtain ⟨f, fd, F, hm, hb⟩ := T.f_Walk__guessed_begin
  refine ⟨f, fd, hm C_Walk c_Walk, hb, F.ok sc_Walk__guessed_begin (fun vs H Q E h => spS_len h) (fun cdv A_ outer s H vs Q E hr h => ?_)⟩
  obtain ⟨a0, us, B, fs0, xs, κ, rfl, hB, hnd, hok, hd, hn, hT, hq⟩ := h
  have RT : ∀ {G x fs'}, G[0]? = some (Sl.obj a0 C_Walk fs') → κ x fs' → Rt (frP K B (delL (objS a0 C_Walk fs0).as H)) G x Q := fun hG k => rtS hB hq hG k
  have hlim : lim = 1099511627776 := rfl
  obtain ⟨p, M, r, q, kvs, w, m, rfl, rfl, hp, hc, hl, k⟩ := hT
  refine ⟨_, (pss_cons (ps_set (i := 2) sc_Walk__guessed_begin.nd rfl (.inl rfl) (pe_meth (pv 0) cl_Walk mt_Walk__shift_at G_Walk__shift_at (hr.mono (by first | decide | omega | (simp only [Nat.add_eq, Nat.succ_eq_add_one]; omega))) b_Walk__shift_at .nil pass0 (pa_cons (pe_op op_sub (pv 1) pe_int) pa_nil)))
      (pss_one (ps_ret (pe_ifExp (pt_cmpR op_isN (pv 2) pe_non (nomark _)) (pe_callB (id := "max") (call_max2 rfl) (by rfl) T.b_max (by decide +kernel) (pa_cons (pe_op op_sub (pv 1) (pe_fld' (K := K) rfl (pv 0))) (pa_cons pe_int pa_nil))) (pe_ix (ixt' (K := K) rfl) (pv 2) pe_int (fun _ _ => rfl)))))), ?_⟩
  try dsimp only [cxOf, Cx.nox, Cx.wish, Cx.blk]
  refine enterS hB hnd hok hd (Nat.le_of_ble_eq_true rfl) ?_
  show Nx _ [.obj a0 C_Walk (wfs p M r kvs q w), .d (.int m), .any] _
  walk_at "dl"
  refine ⟨_, rfl, p, M, r, q, kvs, w, (m - 1), rfl, rfl, hp, hc, hl, fun kvs' c1 c2 => ?_⟩
  have k := k kvs' c1 c2
  unfold gBegin at k
  cases e : shiftAt p (m - 1) with
  | none =>
    rw [e] at k
    walk_at "dl"
    exact RT rfl k
  | some s =>
    rw [e] at k
    walk_at "dl"
    exact RT rfl k
def T_go : TrO := fun fs xs κ => ∃ (p : Plan) (M : Int) (r q : Addr) (kvs : KD) (w : WS) (m : Int), fs = wfs p M r kvs q w ∧ xs = [.int m] ∧ PlanOk p ∧ CacheOk p kvs ∧ kvs.length ≤ 600000 ∧ w.found.length ≤ 600000 ∧ ∀ kvs', CacheOk p kvs' → kvs'.length ≤ kvs.length + 4 → κ .none (wfs p M r kvs' q (goW p M w m))
theorem ok_Walk__go (T : Tx K mg) {C_Walk : Addr} (c_Walk : mg "Walk" = some (.ref C_Walk)) : ∃ f fd, Meth K C_Walk "go" f ∧ Binds K fd ["self", "minute"] [] ∧ FnOk P w K mg base CX0 9 f fd ["self", "minute"] (spS K C_Walk 1 T_go) := by
  have cl_Walk := (T.q_Walk C_Walk c_Walk).cl
  have n_Walk_inside := T.n_Walk_inside C_Walk c_Walk
  have n_Walk_since := T.n_Walk_since C_Walk c_Walk
  have n_Walk_found := T.n_Walk_found C_Walk c_Walk
  obtain ⟨f_Walk__leave, fd_Walk__leave, mt_Walk__leave, b_Walk__leave, G_Walk__leave⟩ := ok_Walk__leave (P := P) (w := w) (base := base) T c_Walk
  obtain ⟨f_Walk__guessed_begin, fd_Walk__guessed_begin, mt_Walk__guessed_begin, b_Walk__guessed_begin, G_Walk__guessed_begin⟩ := ok_Walk__guessed_begin (P := P) (w := w) (base := base) T c_Walk
  obtain ⟨_, c_DAY_LONG⟩ := T.c_DAY_LONG
  obtain ⟨f, fd, F, hm, hb⟩ := T.f_Walk__go
  refine ⟨f, fd, hm C_Walk c_Walk, hb, F.ok sc_Walk__go (fun vs H Q E h => spS_len h) (fun cdv A_ outer s H vs Q E hr h => ?_)⟩
  obtain ⟨a0, us, B, fs0, xs, κ, rfl, hB, hnd, hok, hd, hn, hT, hq⟩ := h
  have RT : ∀ {G x fs'}, G[0]? = some (Sl.obj a0 C_Walk fs') → κ x fs' → Rt (frP K B (delL (objS a0 C_Walk fs0).as H)) G x Q := fun hG k => rtS hB hq hG k
  have hlim : lim = 1099511627776 := rfl
  obtain ⟨p, M, r, q, kvs, w, m, rfl, rfl, hp, hc, hl, hw, k⟩ := hT
  refine ⟨_, (C8.pss_cut (ps_if (PW.pt (pw_and (pt_val (pe_fld' (K := K) rfl (pv 0))) (pw_and1 (pt_cmpR op_le (pe_op op_sub (pv 1) (pe_fld' (K := K) rfl (pv 0))) (pe_glob (v := .int 1440) rfl c_DAY_LONG ⟨_, rfl⟩) (nomark _)))))
      (pss_one (ps_expr (pe_bm PySem.F.plainAttrs_list PySem.F.slot_list_append PySem.F.type_list_append mt_append (pe_fld' (K := K) rfl (pv 0)) (pa_cons (pe_tup (pa_cons (pe_fld' (K := K) rfl (pv 0)) (pa_cons (pv 1) (pa_cons pe_str pa_nil)))) pa_nil))))
      (pss_cons (ps_expr (pe_meth0 (pv 0) cl_Walk mt_Walk__leave G_Walk__leave (hr.mono (by first | decide | omega | (simp only [Nat.add_eq, Nat.succ_eq_add_one]; omega))) b_Walk__leave .nil pass0))
      (pss_cons (ps_set (i := 2) sc_Walk__go.nd rfl (.inl rfl) (pe_callB (id := "max") (call_max2 rfl) (by rfl) T.b_max (by decide +kernel) (pa_cons (pe_meth (pv 0) cl_Walk mt_Walk__guessed_begin G_Walk__guessed_begin (hr.mono (by first | decide | omega | (simp only [Nat.add_eq, Nat.succ_eq_add_one]; omega))) b_Walk__guessed_begin .nil pass0 (pa_cons (pv 1) pa_nil)) (pa_cons (pe_fld' (K := K) rfl (pv 0)) pa_nil))))
      (pss_one (ps_if (pt_cmpR op_lt (pv 2) (pv 1) (nomark _))
      (pss_one (ps_expr (pe_bm PySem.F.plainAttrs_list PySem.F.slot_list_append PySem.F.type_list_append mt_append (pe_fld' (K := K) rfl (pv 0)) (pa_cons (pe_tup (pa_cons (pv 2) (pa_cons (pv 1) (pa_cons pe_str pa_nil)))) pa_nil))))
      pss_nil)))))
      (pss_cons (ps_fld' (K := K) rfl (pv 0) pe_bl)
      (pss_one (ps_fld' (K := K) rfl (pv 0) (pv 1))))), ?_⟩
  try dsimp only [cxOf, Cx.nox, Cx.wish, Cx.blk]
  refine enterS hB hnd hok hd (Nat.le_of_ble_eq_true rfl) ?_
  show Nx _ [.obj a0 C_Walk (wfs p M r kvs q w), .d (.int m), .any] _
  refine nx_cut (fun G => ∃ (kvs' : KD) (i : Bool) (s : Int), CacheOk p kvs' ∧ kvs'.length ≤ kvs.length + 4 ∧ G = [.obj a0 C_Walk (wfs p M r kvs' q ⟨(goW p M w m).found, i, s⟩), .d (.int m), .any]) ?_ ?_
  · walk_at "dl"
    · rename_i hin hle
      refine ⟨_, _, rfl, rfl, by rw [List.length_map]; omega, ?_⟩
      refine nx_inv ⟨kvs, w.inside, w.since, hc, by omega, ?_⟩
      have hf : (goW p M w m).found = w.found ++ [(w.since, m, ("told" : Str))] := by unfold goW; rw [if_pos ⟨hin, hle⟩]
      rw [hf, ← wfs_app]
      rfl
    all_goals
      rename_i hin hle
      have hn : ¬ (w.inside = true ∧ m - w.since ≤ 1440) := by
        rintro ⟨z1, z2⟩
        first
          | omega
          | (rw [z1] at hin; cases hin)
      have hlv := leaveW_len p M w
      refine ⟨_, rfl, p, M, r, q, kvs, w, rfl, rfl, hp, hc, by omega, by omega, fun kvs' c1 c2 => ?_⟩
      walk_at "dl"
      refine ⟨_, rfl, p, M, r, q, kvs', leaveW p M w, m, rfl, rfl, hp, c1, by omega, fun kvs2 d1 d2 => ?_⟩
      walk_at "dl"
      · rename_i hb
        refine ⟨_, _, rfl, rfl, by rw [List.length_map]; omega, ?_⟩
        have hf : (goW p M w m).found = (leaveW p M w).found ++ [(begW p M (leaveW p M w) m, m, ("begin" : Str))] := by
          unfold goW
          rw [if_neg hn]
          exact if_pos hb
        refine nx_wipe [2] ?_
        refine nx_inv ⟨kvs2, (leaveW p M w).inside, (leaveW p M w).since, d1, by omega, ?_⟩
        rw [hf, ← wfs_app]
        rfl
      · rename_i hb
        have hf : (goW p M w m).found = (leaveW p M w).found := by
          unfold goW
          rw [if_neg hn]
          exact if_neg (Int.not_lt.mpr hb)
        refine nx_wipe [2] ?_
        refine nx_inv ⟨kvs2, (leaveW p M w).inside, (leaveW p M w).since, d1, by omega, ?_⟩
        rw [hf]
        rfl
  rintro _ ⟨kvs', i, s, c1, c2, rfl⟩
  walk_at "dl"
  refine ⟨a0, C_Walk, _, _, rfl, cl_Walk, n_Walk_inside, Nat.le_of_ble_eq_true rfl, rfl, ?_⟩
  walk_at "dl"
  refine ⟨a0, C_Walk, _, _, rfl, cl_Walk, n_Walk_since, Nat.le_of_ble_eq_true rfl, rfl, ?_⟩
  have e : goW p M w m = ⟨(goW p M w m).found, false, m⟩ := by unfold goW; split <;> rfl
  have k := k kvs' c1 c2
  rw [e] at k
  exact nx_fall (RT rfl k)
def T_come : TrO := fun fs xs κ => ∃ (p : Plan) (M : Int) (r q : Addr) (kvs : KD) (w : WS) (m : Int), fs = wfs p M r kvs q w ∧ xs = [.int m] ∧ PlanOk p ∧ CacheOk p kvs ∧ kvs.length ≤ 700000 ∧ w.found.length ≤ 700000 ∧ ∀ kvs', CacheOk p kvs' → kvs'.length ≤ kvs.length + 2 → κ .none (wfs p M r kvs' q (comeW p M w m))
theorem ok_Walk__come (T : Tx K mg) {C_Walk : Addr} (c_Walk : mg "Walk" = some (.ref C_Walk)) : ∃ f fd, Meth K C_Walk "come" f ∧ Binds K fd ["self", "minute"] [] ∧ FnOk P w K mg base CX0 8 f fd ["self", "minute"] (spS K C_Walk 1 T_come) := by
  have cl_Walk := (T.q_Walk C_Walk c_Walk).cl
  have n_Walk_inside := T.n_Walk_inside C_Walk c_Walk
  have n_Walk_found := T.n_Walk_found C_Walk c_Walk
  have n_Walk_since := T.n_Walk_since C_Walk c_Walk
  obtain ⟨f_Walk__guessed_end, fd_Walk__guessed_end, mt_Walk__guessed_end, b_Walk__guessed_end, G_Walk__guessed_end⟩ := ok_Walk__guessed_end (P := P) (w := w) (base := base) T c_Walk
  obtain ⟨f, fd, F, hm, hb⟩ := T.f_Walk__come
  refine ⟨f, fd, hm C_Walk c_Walk, hb, F.ok sc_Walk__come (fun vs H Q E h => spS_len h) (fun cdv A_ outer s H vs Q E hr h => ?_)⟩
  obtain ⟨a0, us, B, fs0, xs, κ, rfl, hB, hnd, hok, hd, hn, hT, hq⟩ := h
  have RT : ∀ {G x fs'}, G[0]? = some (Sl.obj a0 C_Walk fs') → κ x fs' → Rt (frP K B (delL (objS a0 C_Walk fs0).as H)) G x Q := fun hG k => rtS hB hq hG k
  have hlim : lim = 1099511627776 := rfl
  obtain ⟨p, M, r, q, kvs, w, m, rfl, rfl, hp, hc, hl, hw, k⟩ := hT
  refine ⟨_, (C8.pss_cut (ps_if (pt_val (pe_fld' (K := K) rfl (pv 0)))
      (pss_one (ps_expr (pe_bm PySem.F.plainAttrs_list PySem.F.slot_list_append PySem.F.type_list_append mt_append (pe_fld' (K := K) rfl (pv 0)) (pa_cons (pe_tup (pa_cons (pe_fld' (K := K) rfl (pv 0)) (pa_cons (pe_callB (id := "min") (call_min2 rfl) (by rfl) T.b_min (by decide +kernel) (pa_cons (pe_meth (pv 0) cl_Walk mt_Walk__guessed_end G_Walk__guessed_end (hr.mono (by first | decide | omega | (simp only [Nat.add_eq, Nat.succ_eq_add_one]; omega))) b_Walk__guessed_end .nil pass0 (pa_cons (pe_fld' (K := K) rfl (pv 0)) pa_nil)) (pa_cons (pv 1) pa_nil))) (pa_cons pe_str pa_nil)))) pa_nil))))
      pss_nil)
      (pss_cons (ps_fld' (K := K) rfl (pv 0) pe_bl)
      (pss_one (ps_fld' (K := K) rfl (pv 0) (pv 1))))), ?_⟩
  try dsimp only [cxOf, Cx.nox, Cx.wish, Cx.blk]
  refine enterS hB hnd hok hd (Nat.le_of_ble_eq_true rfl) ?_
  show Nx _ [.obj a0 C_Walk (wfs p M r kvs q w), .d (.int m)] _
  refine nx_cut (fun G => ∃ kvs', CacheOk p kvs' ∧ kvs'.length ≤ kvs.length + 2 ∧ G = [.obj a0 C_Walk (wfs p M r kvs' q ⟨(comeW p M w m).found, w.inside, w.since⟩), .d (.int m)]) ?_ ?_
  · walk_at "dl"
    · rename_i hin
      refine ⟨_, rfl, p, M, r, q, kvs, w, w.since, rfl, rfl, hp, hc, by omega, fun kvs' c1 c2 => ?_⟩
      walk_at "dl"
      refine ⟨_, _, rfl, rfl, by rw [List.length_map]; omega, ?_⟩
      refine nx_inv ⟨kvs', c1, c2, ?_⟩
      have hf : (comeW p M w m).found = w.found ++ [(w.since, if m < gEnd p M w.since then m else gEnd p M w.since, ("end" : Str))] := by unfold comeW; exact if_pos hin
      rw [hf, ← wfs_app]
      rfl
    · rename_i hin
      have hf : (comeW p M w m).found = w.found := by unfold comeW; exact if_neg (by rw [hin]; decide)
      refine nx_inv ⟨kvs, hc, by omega, ?_⟩
      rw [hf]
  rintro _ ⟨kvs', c1, c2, rfl⟩
  walk_at "dl"
  refine ⟨a0, C_Walk, _, _, rfl, cl_Walk, n_Walk_inside, Nat.le_of_ble_eq_true rfl, rfl, ?_⟩
  walk_at "dl"
  refine ⟨a0, C_Walk, _, _, rfl, cl_Walk, n_Walk_since, Nat.le_of_ble_eq_true rfl, rfl, ?_⟩
  exact nx_fall (RT rfl (k kvs' c1 c2))
def T_winit : TrO := fun fs xs κ => ∃ (p : Plan) (M : Int), fs = [] ∧ xs = [encPlan p, .int M] ∧ ∀ r q, κ .none (wfs p M r [] q ⟨[], false, 0⟩)
theorem okI_Walk (T : Tx K mg) : ∃ C f fd, mg "Walk" = some (.ref C) ∧ Mk K C f ∧ Binds K fd ["self", "plan", "most"] [] ∧ FnOk P w K mg base CX0 1 f fd ["self", "plan", "most"] (spS K C 2 T_winit) := by
  obtain ⟨C_Walk, f, fd, c_Walk, M, F, hb⟩ := T.i_Walk
  have cl_Walk := (T.q_Walk C_Walk c_Walk).cl
  have n_Walk_plan := T.n_Walk_plan C_Walk c_Walk
  have n_Walk_most := T.n_Walk_most C_Walk c_Walk
  have n_Walk_shifts := T.n_Walk_shifts C_Walk c_Walk
  have n_Walk_found := T.n_Walk_found C_Walk c_Walk
  have n_Walk_inside := T.n_Walk_inside C_Walk c_Walk
  have n_Walk_since := T.n_Walk_since C_Walk c_Walk
  refine ⟨C_Walk, f, fd, c_Walk, M, hb, F.ok sc_Walk__init (fun vs H Q E h => spS_len h) (fun cdv A_ outer s H vs Q E hr h => ?_)⟩
  obtain ⟨a0, us, B, fs0, xs, κ, rfl, hB, hnd, hok, hd, hn, hT, hq⟩ := h
  have RT : ∀ {G x fs'}, G[0]? = some (Sl.obj a0 C_Walk fs') → κ x fs' → Rt (frP K B (delL (objS a0 C_Walk fs0).as H)) G x Q := fun hG k => rtS hB hq hG k
  have hlim : lim = 1099511627776 := rfl
  obtain ⟨p, M, rfl, rfl, k⟩ := hT
  refine ⟨_, (pss_cons (ps_fld' (K := K) rfl (pv 0) (pv 1))
      (pss_cons (ps_fld' (K := K) rfl (pv 0) (pv 2))
      (pss_cons (ps_fld' (K := K) rfl (pv 0) pe_dnewK)
      (pss_cons (ps_fld' (K := K) rfl (pv 0) (pe_lst pa_nil))
      (pss_cons (ps_fld' (K := K) rfl (pv 0) pe_bl)
      (pss_one (ps_fld' (K := K) rfl (pv 0) pe_int))))))), ?_⟩
  try dsimp only [cxOf, Cx.nox, Cx.wish, Cx.blk]
  refine enterS hB hnd hok hd (Nat.le_of_ble_eq_true rfl) ?_
  show Nx _ [.obj a0 C_Walk [], .d (encPlan p), .d (.int M)] _
  refine nx_seq ?_
  refine nx_fldON ?_
  walk_at "dl"
  refine ⟨a0, C_Walk, _, rfl, cl_Walk, n_Walk_plan, Nat.le_of_ble_eq_true rfl, rfl, ?_⟩
  dsimp only
  refine nx_seq ?_
  refine nx_fldON ?_
  walk_at "dl"
  refine ⟨a0, C_Walk, _, rfl, cl_Walk, n_Walk_most, Nat.le_of_ble_eq_true rfl, rfl, ?_⟩
  dsimp only
  refine nx_seq ?_
  refine nx_fldOD (ed_new ?_)
  refine ⟨a0, C_Walk, _, rfl, cl_Walk, n_Walk_shifts, Nat.le_of_ble_eq_true rfl, rfl, fun r => ?_⟩
  dsimp only
  refine nx_seq ?_
  refine nx_fldOL ?_
  walk_at "dl"
  refine ⟨a0, C_Walk, _, rfl, cl_Walk, n_Walk_found, Nat.le_of_ble_eq_true rfl, rfl, fun q => ?_⟩
  dsimp only
  refine nx_seq ?_
  refine nx_fldON ?_
  walk_at "dl"
  refine ⟨a0, C_Walk, _, rfl, cl_Walk, n_Walk_inside, Nat.le_of_ble_eq_true rfl, rfl, ?_⟩
  dsimp only
  refine nx_fldON ?_
  walk_at "dl"
  refine ⟨a0, C_Walk, _, rfl, cl_Walk, n_Walk_since, Nat.le_of_ble_eq_true rfl, rfl, ?_⟩
  exact nx_fall (RT rfl (k r q))
def T_turn : Tr := fun xs κ => ∃ q : Str × Int, xs = [stD q] ∧ κ (prIB (turnP q))
local macro_rules | `(tactic| walk_at "call") => `(tactic| ((with_reducible show T_turn _ _); refine ⟨_, rfl, ?_⟩))
theorem ok_turn_of (T : Tx K mg) : OkD P w K mg base "turn_of" 1 ["stamp"] (spP K 1 T_turn) := by
  obtain ⟨f, fd, F, hm, hb⟩ := T.f_turn_of
  refine ⟨f, fd, hm, F.kp, hb, F.ok sc_turn_of (fun vs H Q E h => spP_len h) (fun cdv A_ outer s H vs Q E hr h => ?_)⟩
  obtain ⟨B, xs, κ, hB, hd, hn, hT, hq⟩ := h
  have RT : ∀ {G x}, κ x → Rt (frP K B H) G x Q := fun k => rtP hB hq k
  have hlim : lim = 1099511627776 := rfl
  obtain ⟨q, rfl, k⟩ := hT
  refine ⟨_, (pss_cons (ps_asg (pv 0) (gtup' (K := K) (n := 2) rfl rfl (pgs_cons (pg_name (i := 1) sc_turn_of.nd rfl (.inl rfl)) (pgs_cons (pg_name (i := 2) sc_turn_of.nd rfl (.inl rfl)) pgs_nil))))
      (pss_one (ps_ret (pe_tup (pa_cons (pv 2) (pa_cons (pe_cmpR op_eq (pv 1) pe_str (nomark _)) pa_nil)))))), ?_⟩
  try dsimp only [cxOf, Cx.nox, Cx.wish, Cx.blk]
  refine enterP hB hd (Nat.le_of_ble_eq_true rfl) ?_
  show Nx _ [.d (.tuple [.str q.1, .int q.2]), .any, .any] _
  walk_at "dl"
  exact RT k
def T_order : Trs := fun xs κ => ∃ (ss : List (Str × Int)) (U : List (Int × Bool)), xs = [.list (ss.map stD)] ∧ ss.length ≤ 900000 ∧ U.length < 63 ∧ (∀ q ∈ ss, turnP q ∈ U) ∧ ∀ zs, Turns ss zs → zs.length < 64 → κ (zs.map fun q => stD (backP q))
theorem ok_in_order (T : Tx K mg) : OkD P w K mg base "in_order" 2 ["stamps"] (spPO K 1 T_order) := by
  obtain ⟨f_turn_of, fd_turn_of, m_turn_of, k_turn_of, b_turn_of, G_turn_of⟩ := ok_turn_of (P := P) (w := w) (base := base) T
  obtain ⟨f, fd, F, hm, hb⟩ := T.f_in_order
  refine ⟨f, fd, hm, F.kp, hb, F.ok sc_in_order (fun vs H Q E h => spPO_len h) (fun cdv A_ outer s H vs Q E hr h => ?_)⟩
  obtain ⟨B, xs, κ, hB, hd, hn, hT, hq⟩ := h
  have RT : ∀ {G x}, κ x → RtO (frP K B H) G x Q := fun k => rtPO hB hq k
  have hlim : lim = 1099511627776 := rfl
  obtain ⟨ss, U, rfl, hl, hU, sub, k⟩ := hT
  refine ⟨_, (pss_cons (ps_set (i := 1) sc_in_order.nd rfl (.inl rfl) (pe_callB (id := "sorted") (srtP2' (K := K) (w := w) rfl rfl rfl) (by rfl) T.b_sorted (by decide +kernel) (pa_cons (pscT' (K := K) (w := w) (own := [("stamp", 2)]) rfl rfl rfl hr.units sc_in_order.nd (plist' (K := K) rfl (pv 0)) (blkOk_by (own := [("stamp", 2)]) (N := ["stamps", "rows", "stamp", "minute", "coming"]) (sc := defScope s_in_order) (by decide +kernel)) (fun _ _ _ _ _ => (pg_name (i := 2) sc_in_order.nd rfl (.inl rfl))) (fun _ _ _ _ _ => pts_nil) (fun _ _ _ _ _ => (pe_call G_turn_of (hr.mono (by first | decide | omega | (simp only [Nat.add_eq, Nat.succ_eq_add_one]; omega))) rfl m_turn_of k_turn_of b_turn_of .nil pass0 (pa_cons (pv 2) pa_nil)))) pa_nil)))
      (pss_one (ps_own (ps_ret (pe_lc (own := [("minute", 3), ("coming", 4)]) rfl sc_in_order.nd (plist' (K := K) rfl (pv 1)) (blkOk_by (own := [("minute", 3), ("coming", 4)]) (N := ["stamps", "rows", "stamp", "minute", "coming"]) (sc := defScope s_in_order) (by decide +kernel)) (fun _ _ _ _ _ => (gtup' (K := K) (n := 2) rfl rfl (pgs_cons (pg_name (i := 3) sc_in_order.nd rfl (.inl rfl)) (pgs_cons (pg_name (i := 4) sc_in_order.nd rfl (.inl rfl)) pgs_nil)))) (fun _ _ _ _ _ => pts_nil) (fun _ _ _ _ _ => (pe_tup (pa_cons (pe_ifExp (pt_val (pv 4)) pe_str pe_str) (pa_cons (pv 3) pa_nil))))))))), ?_⟩
  try dsimp only [cxOf, Cx.nox, Cx.wish, Cx.blk]
  refine enterP hB hd (Nat.le_of_ble_eq_true rfl) ?_
  show Nx _ [.d (.list (ss.map stD)), .any, .any, .any, .any] _
  walk_at "dl"
  refine ez_compT ?_
  refine wi_list ?_
  walk_at "dl"
  refine ⟨_, rfl, fun i acc G => acc = ((ss.take i).map turnP).map prIB ∧ G = [.d (.list (ss.map stD)), .any, .any, .any, .any], gw_name (by decide), ⟨rfl, rfl⟩, ?_, ?_⟩
  · rintro D i x acc _ hx ⟨rfl, rfl⟩ B o hB
    obtain ⟨q, hq, rfl⟩ := st_get hx
    walk_at "dl"
    refine bk_putT fun B2 o2 hB2 => ?_
    walk_at "dl"
    refine ⟨turnP q, rfl, ⟨U, hU, fun r hr => ?_⟩, ?_, rfl⟩
    · obtain ⟨a, ha, e⟩ := List.mem_map.mp hr
      obtain ⟨b, hb, rfl⟩ := List.mem_map.mp ha
      rw [← prIB_inj e]
      exact sub b (List.mem_of_mem_take hb)
    · rw [take_on turnP hq, List.map_append]; rfl
  intro qs _ ⟨e, eG⟩ zs z1 z2 z3
  subst eG
  rw [List.length_map, List.take_length] at e
  obtain rfl : qs = ss.map turnP := List.map_inj_right (fun _ _ => prIB_inj) |>.mp e
  have k := k zs ⟨z1, z2⟩ z3
  walk_at "dl"
  refine eo_lcL (fun i acc G => acc = (zs.take i).map (fun q => stD (backP q)) ∧ G = [.d (.list (ss.map stD)), .d (.list (zs.map prIB)), .any, .any, .any]) ?_
  walk_at "dl"
  refine ⟨_, rfl, by rw [List.length_map]; omega, gw_tup (gws_cons (gw_name (by decide)) (gws_cons (gw_name (by decide)) gws_nil)), ⟨rfl, rfl⟩, ?_, ?_⟩
  · rintro i v acc _ hv ⟨rfl, rfl⟩ _ B' D ws hB'
    obtain ⟨q, hq, rfl⟩ := pr_get hv
    walk_at "dl"
    all_goals
      refine ⟨?_, rfl⟩
      rw [take_on (fun q => stD (backP q)) hq]
      first
        | (rename_i hc
           have e : backP q = (("in" : Str), q.1) := by unfold backP; rw [if_pos hc]
           rw [e]
           rfl)
        | (rename_i hc
           have e : backP q = (("out" : Str), q.1) := by unfold backP; rw [if_neg (by rw [hc]; decide)]
           rw [e]
           rfl)
  rintro acc _ ⟨rfl, rfl⟩
  rw [List.length_map, List.take_length]
  exact RT k
def T_stretches : Trs := fun xs κ => ∃ (ss : List (Str × Int)) (p : Plan) (M : Int), xs = [.list (ss.map stD), encPlan p, .int M] ∧ ss.length ≤ 60 ∧ PlanOk p ∧ ∀ zs, Turns ss zs → κ ((stretchesW p M zs).map wdD)
theorem ok_stretches (T : Tx K mg) : OkD P w K mg base "stretches" 10 ["stamps", "plan", "most"] (spPO K 3 T_stretches) := by
  obtain ⟨C_Walk, c_Walk⟩ := T.c_Walk
  obtain ⟨C1_Walk, fI_Walk, fdI_Walk, cI_Walk, M_Walk, bI_Walk, GI_Walk⟩ := okI_Walk (P := P) (w := w) (base := base) T
  obtain rfl := mg_uni c_Walk cI_Walk
  have cl_Walk := (T.q_Walk C_Walk c_Walk).cl
  have n_Walk_found := T.n_Walk_found C_Walk c_Walk
  obtain ⟨f_in_order, fd_in_order, m_in_order, k_in_order, b_in_order, G_in_order⟩ := ok_in_order (P := P) (w := w) (base := base) T
  obtain ⟨f_Walk__come, fd_Walk__come, mt_Walk__come, b_Walk__come, G_Walk__come⟩ := ok_Walk__come (P := P) (w := w) (base := base) T c_Walk
  obtain ⟨f_Walk__go, fd_Walk__go, mt_Walk__go, b_Walk__go, G_Walk__go⟩ := ok_Walk__go (P := P) (w := w) (base := base) T c_Walk
  obtain ⟨f_Walk__leave, fd_Walk__leave, mt_Walk__leave, b_Walk__leave, G_Walk__leave⟩ := ok_Walk__leave (P := P) (w := w) (base := base) T c_Walk
  obtain ⟨f, fd, F, hm, hb⟩ := T.f_stretches
  refine ⟨f, fd, hm, F.kp, hb, F.ok sc_stretches (fun vs H Q E h => spPO_len h) (fun cdv A_ outer s H vs Q E hr h => ?_)⟩
  obtain ⟨B, xs, κ, hB, hd, hn, hT, hq⟩ := h
  have RT : ∀ {G x}, κ x → RtO (frP K B H) G x Q := fun k => rtPO hB hq k
  have hlim : lim = 1099511627776 := rfl
  obtain ⟨ss, p, M, rfl, hl, hp, k⟩ := hT
  refine ⟨_, (pss_cons (ps_set (i := 3) sc_stretches.nd rfl (.inl rfl) (pe_make M_Walk GI_Walk (hr.mono (by first | decide | omega)) rfl c_Walk bI_Walk .nil pass0 (pa_cons (pv 1) (pa_cons (pv 2) pa_nil))))
      (pss_cons (ps_for PassesOwn.never rfl (plist' (K := K) rfl (pe_call G_in_order (hr.mono (by first | decide | omega | (simp only [Nat.add_eq, Nat.succ_eq_add_one]; omega))) rfl m_in_order k_in_order b_in_order .nil pass0 (pa_cons (pv 0) pa_nil))) (gtup' (K := K) (n := 2) rfl rfl (pgs_cons (pg_name (i := 4) sc_stretches.nd rfl (.inl rfl)) (pgs_cons (pg_name (i := 5) sc_stretches.nd rfl (.inl rfl)) pgs_nil)))
      (pss_one (ps_if (pt_cmpR op_eq (pv 4) pe_str (nomark _))
      (pss_one (ps_expr (pe_meth (pv 3) cl_Walk mt_Walk__come G_Walk__come (hr.mono (by first | decide | omega | (simp only [Nat.add_eq, Nat.succ_eq_add_one]; omega))) b_Walk__come .nil pass0 (pa_cons (pv 5) pa_nil))))
      (pss_one (ps_expr (pe_meth (pv 3) cl_Walk mt_Walk__go G_Walk__go (hr.mono (by first | decide | omega | (simp only [Nat.add_eq, Nat.succ_eq_add_one]; omega))) b_Walk__go .nil pass0 (pa_cons (pv 5) pa_nil)))))))
      (pss_cons (ps_expr (pe_meth0 (pv 3) cl_Walk mt_Walk__leave G_Walk__leave (hr.mono (by first | decide | omega | (simp only [Nat.add_eq, Nat.succ_eq_add_one]; omega))) b_Walk__leave .nil pass0))
      (pss_one (ps_own (ps_ret (pe_fld' (K := K) rfl (pv 3)))))))), ?_⟩
  try dsimp only [cxOf, Cx.nox, Cx.wish, Cx.blk]
  refine enterP hB hd (Nat.le_of_ble_eq_true rfl) ?_
  show Nx _ [.d (.list (ss.map stD)), .d (encPlan p), .d (.int M), .any, .any, .any] _
  refine nx_seq ?_
  refine nx_makeO ?_
  walk_at "dl"
  refine ⟨p, M, rfl, rfl, fun r q => ⟨rfl, fun a0 => ?_⟩⟩
  dsimp only
  refine nx_seq ?_
  refine nx_forLi ?_
  walk_at "dl"
  refine ⟨ss, ss.map turnP, rfl, by omega, by rw [List.length_map]; omega, fun q hq => List.mem_map.mpr ⟨q, hq, rfl⟩, fun zs hz hz64 => ?_⟩
  refine ⟨_, rfl, fun i G => ∃ kvs, CacheOk p kvs ∧ kvs.length ≤ 4 * i ∧ (walkW p M (zs.take i)).found.length ≤ 2 * i ∧ G = [.d (.list (ss.map stD)), .d (encPlan p), .d (.int M), .obj a0 C_Walk (wfs p M r kvs q (walkW p M (zs.take i))), .any, .any], ⟨[], cache_nil p, Nat.le_refl _, Nat.le_refl _, rfl⟩, ?_, ?_⟩
  · rintro B2 hB2 i x _ hx ⟨kvs, h1, h2, h3, rfl⟩
    obtain ⟨z, hz', rfl⟩ : ∃ z, zs[i]? = some z ∧ x = stD (backP z) := by
      rw [List.getElem?_map] at hx
      cases e : zs[i]? with
      | none => rw [e] at hx; cases hx
      | some z => rw [e] at hx; exact ⟨z, rfl, (Option.some.inj hx).symm⟩
    have hi : i < 64 := Nat.lt_of_lt_of_le (List.getElem?_eq_some_iff.mp hz').1 (Nat.le_of_lt hz64)
    have st : walkW p M (zs.take (i + 1)) = stepW p M (walkW p M (zs.take i)) z := by
      unfold walkW
      rw [List.take_add_one, hz', List.foldl_append]
      rfl
    obtain ⟨m, b⟩ := z
    generalize hw : walkW p M (zs.take i) = w at *
    cases b
    · have l1 := goW_len p M w m
      walk_at "dl"
      refine ⟨_, rfl, p, M, r, q, kvs, w, m, rfl, rfl, hp, h1, by omega, by omega, fun kvs' c1 c2 => ?_⟩
      refine nx_wipe [4, 5] ?_
      refine nx_inv ⟨kvs', c1, by omega, ?_, ?_⟩
      · rw [st]; show (goW p M w m).found.length ≤ _; omega
      · rw [st]; rfl
    · have l1 := comeW_len p M w m
      walk_at "dl"
      refine ⟨_, rfl, p, M, r, q, kvs, w, m, rfl, rfl, hp, h1, by omega, by omega, fun kvs' c1 c2 => ?_⟩
      refine nx_wipe [4, 5] ?_
      refine nx_inv ⟨kvs', c1, by omega, ?_, ?_⟩
      · rw [st]; show (comeW p M w m).found.length ≤ _; omega
      · rw [st]; rfl
  rintro _ ⟨kvs, h1, h2, h3, rfl⟩
  rw [List.length_map] at h2 h3 ⊢
  rw [List.take_length] at h3 ⊢
  walk_at "dl"
  refine ⟨_, rfl, p, M, r, q, kvs, _, rfl, rfl, hp, h1, by omega, by omega, fun kvs' c1 c2 => ?_⟩
  walk_at "dl"
  exact RT (k zs hz)
local macro_rules | `(tactic| walk_at "call") => `(tactic| first
  | (refine ⟨_, Sum.inr _, _, _, (show _ = some (Sl.dic _ (feedL _ _ _ _)) from rfl), rfl, vf_cells, ?_⟩)
  | (refine ⟨_, _, Sum.inr _, _, (show _ = some (Sl.dic _ (feedL _ _ _ _)) from rfl), rfl, vf_cells, ?_⟩)
  | (refine ⟨_, _, Sum.inr _, _, (show _ = some (Sl.dic _ (feedL _ _ _ _)) from rfl), rfl, vf_turn, ?_⟩)
  | (refine ⟨_, _, Sum.inr _, _, (show _ = some (Sl.dic _ (feedL _ _ _ _)) from rfl), rfl, vf_left, ?_⟩)
  | (refine ⟨_, _, Sum.inr _, _, (show _ = some (Sl.dic _ (feedL _ _ _ _)) from rfl), rfl, vf_at, ?_⟩)
  | ((refine ⟨_, Sum.inr _, (show _ = some (Sl.dic _ (feedL _ _ _ _)) from rfl), rfl, Nat.le_of_ble_eq_true rfl, ?_⟩); (first | rw [pf_turn] | rw [pf_left] | rw [pf_at])))
theorem ok__law_feed (T : Tx K mg) : OkD P w K mg base "_law_feed" 1 ["script"] (spMk K ) := by
  obtain ⟨f, fd, F, hm, hb⟩ := T.f__law_feed
  refine ⟨f, fd, hm, F.kp, hb, F.ok sc__law_feed (fun vs H Q E h => spMk_len h) (fun cdv A_ outer s H vs Q E hr h => ?_)⟩
  obtain ⟨a, ns, B, rfl, hB, hS, hns, hq⟩ := h
  have RT : ∀ {G}, RtD (frP K B H) G (feedL ns 0 0 0) Q := rtMk hB hq
  have hlim : lim = 1099511627776 := rfl
  refine ⟨_, (pss_one (ps_own (ps_ret (pe_disp (pps_cons pe_str (pe_callTy (T := "list") (lof' (K := K) rfl) (by rfl) T.b_list (by decide +kernel) (pa_cons (pe_slice (sll' (K := K) rfl) (pv 0) po_none (po_some pe_int)) pa_nil)) (pps_cons pe_str pe_int (pps_cons pe_str pe_int (pps_cons pe_str pe_int pps_nil)))) rfl rfl (by decide) (by decide))))), ?_⟩
  try dsimp only [cxOf, Cx.nox, Cx.wish, Cx.blk]
  refine enterL hB hS (Nat.le_of_ble_eq_true rfl) ?_
  show Nx _ [.scr a ns] _
  refine nx_ownRD ?_
  refine ed_disp fun B2 p2 hB2 => ?_
  refine eps_cons ?_
  walk_at "dl"
  refine ⟨rfl, ?_⟩
  walk_at "dl"
  rw [cutD_63 hns]
  refine ⟨Sum.inr _, rfl, ?_⟩
  refine eps_cons ?_
  walk_at "dl"
  refine ⟨Sum.inr _, rfl, ?_⟩
  refine eps_cons ?_
  walk_at "dl"
  refine ⟨Sum.inr _, rfl, ?_⟩
  refine eps_cons ?_
  walk_at "dl"
  refine ⟨Sum.inr _, rfl, ?_⟩
  refine eps_nil ?_
  refine ⟨Nat.le_of_ble_eq_true rfl, show [(Sum.inr "cells" : Key), Sum.inr "at", Sum.inr "left", Sum.inr "turn"].Nodup by decide, ?_⟩
  exact RT
def T_draw : Tr := fun xs κ => ∃ m : Int, xs = [.int m] ∧ 1 ≤ m ∧ m < 1073741824 ∧ ∀ r : Int, 0 ≤ r → r < m → κ (.int r)
local macro_rules | `(tactic| walk_at "call") => `(tactic| ((with_reducible show T_draw _ _); refine ⟨_, rfl, ?_, ?_, fun (r_ : Int) (h0_ : 0 ≤ r_) (h1_ : r_ < _) => ?_⟩; (focus first | decide | omega | (simp only [List.length_map]; omega)); (focus first | decide | omega | (simp only [List.length_map]; omega)); (try simp only [List.length_map] at h1_)))
theorem ok__law_draw (T : Tx K mg) : OkD P w K mg base "_law_draw" 1 ["feed", "many"] (spF K 1 1 T_draw) := by
  obtain ⟨f, fd, F, hm, hb⟩ := T.f__law_draw
  refine ⟨f, fd, hm, F.kp, hb, F.ok sc__law_draw (fun vs H Q E h => spF_len h) (fun cdv A_ outer s H vs Q E hr h => ?_)⟩
  obtain ⟨f0, us, B, xs, κ, A, rfl, hB, hf, hA, hd, hn, hT, hq⟩ := h
  have RT : ∀ {G x A'}, G[0]? = some (Sl.fd f0 A') → A' ≤ A + _ → κ x → Rt (frF K B H f0) G x Q := fun hG hA k => rtF hB hq hG hA k
  have hlim : lim = 1099511627776 := rfl
  obtain ⟨m, rfl, h1, h2, k⟩ := hT
  refine ⟨_, (pss_cons (ps_dput (hu_of hr) (pv 0) pe_str (pe_op op_add (pe_dget (hu_of hr) (pv 0) pe_str (fun _ _ => rfl)) pe_int) rfl)
      (pss_cons (ps_if (pt_cmpR op_gt (pe_dget (hu_of hr) (pv 0) pe_str (fun _ _ => rfl)) pe_int (nomark _))
      (pss_cons (ps_set (i := 2) sc__law_draw.nd rfl (.inl rfl) (pe_op op_modN (pe_dget (hu_of hr) (pv 0) pe_str (fun _ _ => rfl)) (pv 1)))
      (pss_cons (ps_dput (hu_of hr) (pv 0) pe_str (pe_op op_fdivN (pe_dget (hu_of hr) (pv 0) pe_str (fun _ _ => rfl)) (pv 1)) rfl)
      (pss_one (ps_ret (pv 2)))))
      pss_nil)
      (pss_cons (ps_set (i := 3) sc__law_draw.nd rfl (.inl rfl) (pe_dget (hu_of hr) (pv 0) pe_str (fun _ _ => rfl)))
      (pss_cons (ps_dput (hu_of hr) (pv 0) pe_str (pe_op op_add (pv 3) pe_int) rfl)
      (pss_cons (ps_set (i := 4) sc__law_draw.nd rfl (.inl rfl) pe_int)
      (C8.pss_cut (ps_if (pt_cmpR (ned' (K := K) hr.units rfl) (pe_dget (hu_of hr) (pv 0) pe_str (fun _ _ => rfl)) (pe_lst pa_nil) (nomark _))
      (pss_one (ps_set (i := 4) sc__law_draw.nd rfl (.inl rfl) (pe_ix (ixl' (K := K) rfl) (pe_dget (hu_of hr) (pv 0) pe_str (fun _ _ => rfl)) (pe_op op_modN (pv 3) (pe_callB (id := "len") (len' (K := K) rfl) (by rfl) T.b_len (by decide +kernel) (pa_cons (pe_dget (hu_of hr) (pv 0) pe_str (fun _ _ => rfl)) pa_nil))) (fun _ _ => rfl))))
      pss_nil)
      (pss_cons (ps_if (PW.pt (pw_and (pt_cmpR op_ge (pv 4) (pe_op op_pow pe_int pe_int) (nomark _)) (pw_and1 (pt_cmpR op_lt (pv 3) (pe_callB (id := "len") (len' (K := K) rfl) (by rfl) T.b_len (by decide +kernel) (pa_cons (pe_dget (hu_of hr) (pv 0) pe_str (fun _ _ => rfl)) pa_nil)) (nomark _)))))
      (pss_cons (ps_dput (hu_of hr) (pv 0) pe_str (pe_op op_fdivN (pe_op op_sub (pv 4) (pe_op op_pow pe_int pe_int)) (pv 1)) rfl)
      (pss_one (ps_ret (pe_op op_modN (pe_op op_sub (pv 4) (pe_op op_pow pe_int pe_int)) (pv 1)))))
      pss_nil)
      (pss_cons (ps_set (i := 5) sc__law_draw.nd rfl (.inl rfl) (pe_op op_modN (pe_op op_mul (pe_op op_add (pe_op op_modN (pv 4) pe_int) pe_int) (pe_op op_add pe_int (pe_op op_mul pe_int (pe_dget (hu_of hr) (pv 0) pe_str (fun _ _ => rfl))))) pe_int))
      (pss_cons (ps_set (i := 5) sc__law_draw.nd rfl (.inl rfl) (pe_op op_modN (pe_op op_add (pe_op op_pow (pv 5) pe_int) (pe_op op_mul pe_int (pe_dget (hu_of hr) (pv 0) pe_str (fun _ _ => rfl)))) pe_int))
      (pss_one (ps_ret (pe_op op_modN (pe_op op_fdivN (pe_op op_modN (pe_op op_mul (pv 5) pe_int) pe_int) pe_int) (pv 1))))))))))))), ?_⟩
  try dsimp only [cxOf, Cx.nox, Cx.wish, Cx.blk]
  refine enterF hB hf hd (Nat.le_of_ble_eq_true rfl) ?_
  show Nx _ [.fd f0 A, .d (.int m), .any, .any, .any, .any] _
  refine nx_open (i := 0) rfl fun at_ rest turn ns hns ha0 haA hr0 => ?_
  walk_at "dl"
  · refine rt_close (i := 0) A rfl hns ha0 haA (Int.ediv_nonneg hr0 (by omega)) ?_
    exact RT rfl (by omega) (k _ (Int.emod_nonneg _ (by omega)) (Int.emod_lt_of_pos _ (by omega)))
  refine nx_cut (fun G => ∃ c : Int, G = [.dic f0 (feedL ns (at_ + 1) rest (turn + 1)), .d (.int m), .any, .d (.int at_), .d (.int c), .any]) ?_ ?_
  · walk_at "dl"
    refine rk_neD ((lay_list (n := 0) lay_ints).shaped (by decide)) ((lay_list (n := 0) fun x hx => by cases hx).shaped (by decide)) ?_
    rw [eqv_nil]
    walk_at "dl"
    · have h0 : 0 < ((ns.map PyData.int).length : Int) := by
        cases ns with
        | nil => rename_i hc; exact absurd rfl hc
        | cons x r => rw [List.map_cons, List.length_cons]; omega
      refine rk_mod ⟨_, _, rfl, rfl, h0, ?_⟩
      obtain ⟨c, ec, _⟩ := atI_ints (ns := ns) (i := at_ % ((ns.map PyData.int).length : Int)) (Int.emod_nonneg _ (by omega)) (by
        have := Int.emod_lt_of_pos at_ h0
        rw [List.length_map] at this ⊢; exact this)
      refine rk_ixL ⟨_, _, _, rfl, rfl, ec, ?_⟩
      walk_at "dl"
      exact nx_inv ⟨c, rfl⟩
    · exact nx_inv ⟨_, rfl⟩
  rintro _ ⟨c, rfl⟩
  walk_at "dl"
  · refine rt_close (i := 0) (A + 1) rfl hns (by omega) (by omega) (Int.ediv_nonneg (by omega) (by omega)) ?_
    exact RT rfl (Nat.le_refl _) (k _ (Int.emod_nonneg _ (by omega)) (Int.emod_lt_of_pos _ (by omega)))
  all_goals try refine ⟨fun h => absurd h Bool.false_ne_true, fun _ => ?_⟩
  all_goals
    walk_at "dl"
    refine rk_pow ⟨_, _, rfl, rfl, ⟨by decide, by decide, by omega⟩, ?_⟩
    walk_at "dl"
    refine rt_close (i := 0) (A + 1) rfl hns (by omega) (by omega) hr0 ?_
    exact RT rfl (Nat.le_refl _) (k _ (Int.emod_nonneg _ (by omega)) (Int.emod_lt_of_pos _ (by omega)))
def T_of : Tr := fun xs κ => ∃ ds, xs = [.list ds] ∧ 1 ≤ ds.length ∧ ds.length ≤ 1000 ∧ ∀ d, d ∈ ds → κ d
theorem t_of_ints {ds : List PyData} {κ : PyData → Prop} (e : (intsOf ds).map PyData.int = ds) (h1 : 1 ≤ ds.length) (h2 : ds.length ≤ 1000) (h : ∀ c : Int, c ∈ intsOf ds → κ (.int c)) : T_of [.list ds] κ :=
  ⟨ds, rfl, h1, h2, fun d hd => by rw [← e] at hd; obtain ⟨c, hc, rfl⟩ := List.mem_map.mp hd; exact h c hc⟩
local macro_rules | `(tactic| walk_at "call") => `(tactic| first
  | ((with_reducible refine t_of_ints ?_ ?_ ?_ (fun (c_ : Int) (hc_ : c_ ∈ _) => ?_)); (focus rfl); (focus exact Nat.le_of_ble_eq_true rfl); (focus exact Nat.le_of_ble_eq_true rfl); (simp only [intsOf, List.mem_cons, List.not_mem_nil, or_false] at hc_))
  | ((with_reducible show T_of _ _); refine ⟨_, rfl, ?_, ?_, fun (d_ : PyData) (hd_ : d_ ∈ _) => ?_⟩; (focus first | exact Nat.le_of_ble_eq_true rfl | omega | (simp only [List.length_map]; omega)); (focus first | exact Nat.le_of_ble_eq_true rfl | omega | (simp only [List.length_map]; omega))))
theorem ok__law_of (T : Tx K mg) : OkD P w K mg base "_law_of" 2 ["feed", "some"] (spF K 1 1 T_of) := by
  obtain ⟨f__law_draw, fd__law_draw, m__law_draw, k__law_draw, b__law_draw, G__law_draw⟩ := ok__law_draw (P := P) (w := w) (base := base) T
  obtain ⟨f, fd, F, hm, hb⟩ := T.f__law_of
  refine ⟨f, fd, hm, F.kp, hb, F.ok sc__law_of (fun vs H Q E h => spF_len h) (fun cdv A_ outer s H vs Q E hr h => ?_)⟩
  obtain ⟨f0, us, B, xs, κ, A, rfl, hB, hf, hA, hd, hn, hT, hq⟩ := h
  have RT : ∀ {G x A'}, G[0]? = some (Sl.fd f0 A') → A' ≤ A + _ → κ x → Rt (frF K B H f0) G x Q := fun hG hA k => rtF hB hq hG hA k
  have hlim : lim = 1099511627776 := rfl
  obtain ⟨ds, rfl, h1, h2, k⟩ := hT
  refine ⟨_, (pss_one (ps_ret (pe_ix (ixl' (K := K) rfl) (pv 1) (pe_call G__law_draw (hr.mono (by first | decide | omega | (simp only [Nat.add_eq, Nat.succ_eq_add_one]; omega))) rfl m__law_draw k__law_draw b__law_draw .nil pass0 (pa_cons (pv 0) (pa_cons (pe_callB (id := "len") (len' (K := K) rfl) (by rfl) T.b_len (by decide +kernel) (pa_cons (pv 1) pa_nil)) pa_nil))) (fun _ _ => rfl)))), ?_⟩
  try dsimp only [cxOf, Cx.nox, Cx.wish, Cx.blk]
  refine enterF hB hf hd (Nat.le_of_ble_eq_true rfl) ?_
  show Nx _ [.fd f0 A, .d (.list ds)] _
  walk_at "dl"
  exact rk_ixAny ⟨_, _, rfl, rfl, by omega, by omega, fun d hd => RT rfl (Nat.le_refl _) (k d hd)⟩
def dOf (b : Bool) : Nat := if b then 3 else 2
def T_shifts : Tr := fun xs κ => ∃ b : Bool, xs = [.bool b] ∧ ∀ l : List (List Int), l.length ≤ 4 → Rising l → (∀ s ∈ l, ShOk (dOf b) s) → κ (.tuple (l.map encI))
local macro_rules | `(tactic| walk_at "call") => `(tactic| ((with_reducible show T_shifts _ _); refine ⟨_, rfl, fun (l_ : List (List Int)) (hl_ : l_.length ≤ 4) (hr_ : Rising l_) (ho_ : ∀ s ∈ l_, ShOk _ s) => ?_⟩))
theorem shok_bd {d : Nat} {s : List Int} (h : ShOk d s) : s.length = d ∧ TS.Bd 2000 s := by
  rcases h with ⟨rfl, c, l, rfl, _⟩ | ⟨rfl, w, c, l, rfl, _⟩
  · exact ⟨rfl, fun m hm => by simp only [List.mem_cons, List.not_mem_nil, or_false] at hm; omega⟩
  · exact ⟨rfl, fun m hm => by simp only [List.mem_cons, List.not_mem_nil, or_false] at hm; omega⟩
theorem ok__law_shifts (T : Tx K mg) : OkD P w K mg base "_law_shifts" 3 ["feed", "weekly"] (spF K 1 40 T_shifts) := by
  obtain ⟨f__law_draw, fd__law_draw, m__law_draw, k__law_draw, b__law_draw, G__law_draw⟩ := ok__law_draw (P := P) (w := w) (base := base) T
  obtain ⟨f__law_of, fd__law_of, m__law_of, k__law_of, b__law_of, G__law_of⟩ := ok__law_of (P := P) (w := w) (base := base) T
  obtain ⟨f, fd, F, hm, hb⟩ := T.f__law_shifts
  refine ⟨f, fd, hm, F.kp, hb, F.ok sc__law_shifts (fun vs H Q E h => spF_len h) (fun cdv A_ outer s H vs Q E hr h => ?_)⟩
  obtain ⟨f0, us, B, xs, κ, A, rfl, hB, hf, hA, hd, hn, hT, hq⟩ := h
  have RT : ∀ {G x A'}, G[0]? = some (Sl.fd f0 A') → A' ≤ A + _ → κ x → Rt (frF K B H f0) G x Q := fun hG hA k => rtF hB hq hG hA k
  have hlim : lim = 1099511627776 := rfl
  obtain ⟨b, rfl, k⟩ := hT
  obtain ⟨dd, edd, hdd⟩ : ∃ dd, dd = dOf b ∧ 1 ≤ dd := ⟨_, rfl, by cases b <;> decide⟩
  refine ⟨_, (pss_cons (ps_own (ps_set (i := 2) sc__law_shifts.nd rfl (.inl rfl) (pe_lst pa_nil)))
      (pss_cons (ps_for PassesOwn.never rfl (pi_range1 rfl T.b_range (pa_cons (pe_call G__law_draw (hr.mono (by first | decide | omega | (simp only [Nat.add_eq, Nat.succ_eq_add_one]; omega))) rfl m__law_draw k__law_draw b__law_draw .nil pass0 (pa_cons (pv 0) (pa_cons pe_int pa_nil))) pa_nil)) (pg_name (i := 3) sc__law_shifts.nd rfl (.inl rfl))
      (pss_cons (ps_set (i := 4) sc__law_shifts.nd rfl (.inl rfl) (pe_call G__law_of (hr.mono (by first | decide | omega | (simp only [Nat.add_eq, Nat.succ_eq_add_one]; omega))) rfl m__law_of k__law_of b__law_of .nil pass0 (pa_cons (pv 0) (pa_cons (pe_lst (pa_cons pe_int (pa_cons pe_int (pa_cons pe_int (pa_cons pe_int (pa_cons (pe_call G__law_draw (hr.mono (by first | decide | omega | (simp only [Nat.add_eq, Nat.succ_eq_add_one]; omega))) rfl m__law_draw k__law_draw b__law_draw .nil pass0 (pa_cons (pv 0) (pa_cons pe_int pa_nil))) pa_nil)))))) pa_nil))))
      (pss_cons (ps_set (i := 5) sc__law_shifts.nd rfl (.inl rfl) (pe_tup (pa_cons (pv 4) (pa_cons (pe_call G__law_of (hr.mono (by first | decide | omega | (simp only [Nat.add_eq, Nat.succ_eq_add_one]; omega))) rfl m__law_of k__law_of b__law_of .nil pass0 (pa_cons (pv 0) (pa_cons (pe_lst (pa_cons pe_int (pa_cons pe_int (pa_cons pe_int (pa_cons (pe_op op_add pe_int (pe_call G__law_draw (hr.mono (by first | decide | omega | (simp only [Nat.add_eq, Nat.succ_eq_add_one]; omega))) rfl m__law_draw k__law_draw b__law_draw .nil pass0 (pa_cons (pv 0) (pa_cons pe_int pa_nil)))) pa_nil))))) pa_nil))) pa_nil))))
      (C8.pss_cut (ps_if (pt_val (pv 1))
      (pss_one (ps_set (i := 5) sc__law_shifts.nd rfl (.inl rfl) (pe_op (cata' (K := K) rfl) (pe_tup (pa_cons (pe_call G__law_draw (hr.mono (by first | decide | omega | (simp only [Nat.add_eq, Nat.succ_eq_add_one]; omega))) rfl m__law_draw k__law_draw b__law_draw .nil pass0 (pa_cons (pv 0) (pa_cons pe_int pa_nil))) pa_nil)) (pv 5))))
      pss_nil)
      (pss_one (ps_if (pt_cmpR (nind' (K := K) (room65 hr) rfl) (pv 5) (pv 2) rfl)
      (pss_one (ps_expr (pe_bm PySem.F.plainAttrs_list PySem.F.slot_list_append PySem.F.type_list_append mt_append (pv 2) (pa_cons (pv 5) pa_nil))))
      pss_nil))))))
      (pss_one (ps_ret (pe_callTy (T := "tuple") (tof' (K := K) rfl) (by rfl) T.b_tuple (by decide +kernel) (pa_cons (pe_callB (id := "sorted") (srtT' (K := K) (d := dd) (B := 2000) hdd rfl) (by rfl) T.b_sorted (by decide +kernel) (pa_cons (pv 2) pa_nil)) pa_nil)))))), ?_⟩
  try dsimp only [cxOf, Cx.nox, Cx.wish, Cx.blk]
  refine enterF hB hf hd (Nat.le_of_ble_eq_true rfl) ?_
  show Nx _ [.fd f0 A, .d (.bool b), .any, .any, .any, .any] _
  walk_at "dl"
  rename_i p
  refine nx_forR (fun i G => ∃ (l : List (List Int)) (A' : Nat), l.length ≤ i ∧ l.Nodup ∧ (∀ s ∈ l, ShOk dd s) ∧ A' ≤ A + 1 + 6 * i ∧ G = [.fd f0 A', .d (.bool b), .own p (l.map encI), .any, .any, .any]) ?_
  walk_at "dl"
  refine ⟨_, rfl, by omega, by omega, ⟨[], _, Nat.le_refl _, List.nodup_nil, fun _ h => (nomatch h), by omega, rfl⟩, ?_, ?_⟩
  · rintro i _ hi ⟨l, A', hl, nd, ho, hA', rfl⟩
    walk_at "dl"
    rename_i c hc x1 x2 x3 e he
    refine nx_cut (fun G => ∃ (s : List Int) (A2 : Nat), ShOk dd s ∧ A2 ≤ A' + 6 ∧ G = [.fd f0 A2, .d (.bool b), .own p (l.map encI), .any, .any, .d (encI s)]) ?_ ?_
    · cases b
      · walk_at "dl"
        refine nx_wipe [3, 4] ?_
        exact nx_inv ⟨[c, e], _, .inl ⟨edd, c, e, rfl, by omega, by omega, by omega, by omega⟩, by omega, rfl⟩
      · walk_at "dl"
        rename_i w w0 w1
        refine nx_wipe [3, 4] ?_
        exact nx_inv ⟨[w, c, e], _, .inr ⟨edd, w, c, e, rfl, by omega, by omega, by omega, by omega, by omega, by omega⟩, by omega, rfl⟩
    rintro _ ⟨s, A2, hs, hA2, rfl⟩
    walk_at "dl"
    refine ⟨_, _, rfl, (lay_encI (n := 0) s).shaped (by decide), (lay_list (lay_encIs (n := 0) l)).shaped (by decide), ?_⟩
    rw [any_encI]
    walk_at "dl"
    · rename_i h
      rw [snocE]
      refine nx_wipe [5] ?_
      refine nx_inv ⟨_, _, ?_, ?_, fun t ht => ?_, ?_, rfl⟩
      · rw [List.length_append]; exact Nat.succ_le_succ hl
      · rw [List.nodup_append]
        exact ⟨nd, by simp, fun a ha z hz => by rw [List.mem_singleton] at hz; subst hz; intro e; subst e; exact h ha⟩
      · rcases List.mem_append.mp ht with z | z
        · exact ho t z
        · rw [List.mem_singleton] at z; rw [z]; exact hs
      · omega
    · refine nx_wipe [5] ?_
      exact nx_inv ⟨l, _, by omega, nd, ho, by omega, rfl⟩
  rintro _ ⟨l, A', hl, nd, ho, hA', rfl⟩
  walk_at "dl"
  refine ⟨_, l, rfl, by omega, fun s hs => shok_bd (ho s hs), fun m pm pw => ?_⟩
  walk_at "dl"
  have hm : m.length = l.length := pm.length_eq
  refine RT rfl (by omega) (k m (by omega) (rising_of (fun s hs => (shok_bd (ho s hs)).1) nd pm pw) fun s hs => ?_)
  rw [← edd]
  exact ho s (pm.mem_iff.mp hs)
def SmallRow (d : Nat) (r : Row) : Prop := RowOk d r ∧ r.2.length ≤ 5
def T_plan : Tr := fun xs κ => ∃ n : Int, xs = [.int n] ∧ ∀ p : Plan, Pk 2 p → κ (encPlan p)
local macro_rules | `(tactic| walk_at "call") => `(tactic| ((with_reducible show T_plan _ _); refine ⟨_, rfl, fun (p_ : Plan) (hp_ : Pk 2 p_) => ?_⟩))
def PartOk (j : Nat) (x : PyData) : Prop := ∃ l : List Row, x = .tuple (encRows l) ∧ (l.Pairwise fun a b => a.1 < b.1) ∧ l.length ≤ 2 ∧ ∀ r ∈ l, SmallRow (if j = 0 then 3 else 2) r
theorem ok__law_plan (T : Tx K mg) : OkD P w K mg base "_law_plan" 4 ["feed", "near"] (spF K 1 400 T_plan) := by
  obtain ⟨f__law_draw, fd__law_draw, m__law_draw, k__law_draw, b__law_draw, G__law_draw⟩ := ok__law_draw (P := P) (w := w) (base := base) T
  obtain ⟨f__law_shifts, fd__law_shifts, m__law_shifts, k__law_shifts, b__law_shifts, G__law_shifts⟩ := ok__law_shifts (P := P) (w := w) (base := base) T
  obtain ⟨f, fd, F, hm, hb⟩ := T.f__law_plan
  refine ⟨f, fd, hm, F.kp, hb, F.ok sc__law_plan (fun vs H Q E h => spF_len h) (fun cdv A_ outer s H vs Q E hr h => ?_)⟩
  obtain ⟨f0, us, B, xs, κ, A, rfl, hB, hf, hA, hd, hn, hT, hq⟩ := h
  have RT : ∀ {G x A'}, G[0]? = some (Sl.fd f0 A') → A' ≤ A + _ → κ x → Rt (frF K B H f0) G x Q := fun hG hA k => rtF hB hq hG hA k
  have hlim : lim = 1099511627776 := rfl
  obtain ⟨near, rfl, k⟩ := hT
  refine ⟨_, (pss_cons (ps_own (ps_set (i := 2) sc__law_plan.nd rfl (.inl rfl) (pe_lst pa_nil)))
      (pss_cons (ps_for PassesOwn.never rfl (ptup' (K := K) rfl (pe_tup (pa_cons pe_bl (pa_cons pe_bl pa_nil)))) (pg_name (i := 3) sc__law_plan.nd rfl (.inl rfl))
      (pss_cons (ps_ownD (ps_set (i := 4) sc__law_plan.nd rfl (.inr rfl) pe_dnewK))
      (pss_cons (ps_for PassesOwn.never rfl (pi_range1 rfl T.b_range (pa_cons (pe_call G__law_draw (hr.mono (by first | decide | omega | (simp only [Nat.add_eq, Nat.succ_eq_add_one]; omega))) rfl m__law_draw k__law_draw b__law_draw .nil pass0 (pa_cons (pv 0) (pa_cons pe_int pa_nil))) pa_nil)) (pg_name (i := 5) sc__law_plan.nd rfl (.inl rfl))
      (pss_cons (ps_set (i := 6) sc__law_plan.nd rfl (.inl rfl) (pe_callB (id := "max") (call_max2 rfl) (by rfl) T.b_max (by decide +kernel) (pa_cons pe_int (pa_cons (pe_callB (id := "min") (call_min2 rfl) (by rfl) T.b_min (by decide +kernel) (pa_cons pe_int (pa_cons (pe_op op_sub (pe_op op_add (pv 1) (pe_call G__law_draw (hr.mono (by first | decide | omega | (simp only [Nat.add_eq, Nat.succ_eq_add_one]; omega))) rfl m__law_draw k__law_draw b__law_draw .nil pass0 (pa_cons (pv 0) (pa_cons pe_int pa_nil)))) pe_int) pa_nil))) pa_nil))))
      (pss_one (ps_dput (hu_of hr) (pv 4) (pv 6) (pe_call G__law_shifts (hr.mono (by first | decide | omega | (simp only [Nat.add_eq, Nat.succ_eq_add_one]; omega))) rfl m__law_shifts k__law_shifts b__law_shifts .nil pass0 (pa_cons (pv 0) (pa_cons (pv 3) pa_nil))) rfl))))
      (pss_one (ps_expr (pe_bm PySem.F.plainAttrs_list PySem.F.slot_list_append PySem.F.type_list_append mt_append (pv 2) (pa_cons (pe_callTy (T := "tuple") (tof' (K := K) rfl) (by rfl) T.b_tuple (by decide +kernel) (pa_cons (pe_lc (own := [("day", 6)]) rfl sc__law_plan.nd (plist' (K := K) rfl (pe_callB (id := "sorted") (call_sortedDI rfl) (by rfl) T.b_sorted (by decide +kernel) (pa_cons (pv 4) pa_nil))) (blkOk_by (own := [("day", 6)]) (N := ["feed", "near", "parts", "weekly", "rows", "turn", "day"]) (sc := defScope s__law_plan) (by decide +kernel)) (fun _ _ _ _ _ => (pg_name (i := 6) sc__law_plan.nd rfl (.inl rfl))) (fun _ _ _ _ _ => pts_nil) (fun _ _ _ _ _ => (pe_tup (pa_cons (pv 6) (pa_cons (pe_dget (hu_of hr) (pv 4) (pv 6) (fun _ _ => rfl)) pa_nil))))) pa_nil)) pa_nil)))))))
      (pss_one (ps_ret (pe_tup (pa_cons (pe_ix (ixl' (K := K) rfl) (pv 2) pe_int (fun _ _ => rfl)) (pa_cons (pe_ix (ixl' (K := K) rfl) (pv 2) pe_int (fun _ _ => rfl)) pa_nil))))))), ?_⟩
  try dsimp only [cxOf, Cx.nox, Cx.wish, Cx.blk]
  refine enterF hB hf hd (Nat.le_of_ble_eq_true rfl) ?_
  show Nx _ [.fd f0 A, .d (.int near), .any, .any, .any, .any, .any] _
  walk_at "dl"
  rename_i pp
  refine nx_forT (fun i G => ∃ (ps : List PyData) (A' : Nat), ps.length = i ∧ (∀ j x, ps[j]? = some x → PartOk j x) ∧ A' ≤ A + 180 * i ∧ G = [.fd f0 A', .d (.int near), .own pp ps, .any, .any, .any, .any]) ?_
  walk_at "dl"
  refine ⟨_, rfl, ⟨[], A, rfl, fun _ _ h => by simp at h, by omega, rfl⟩, ?_, ?_⟩
  · rintro B' hB' i x _ hx ⟨ps, A', hpl, hps, hA', rfl⟩
    have hi : i < 2 := (List.getElem?_eq_some_iff.mp hx).1
    obtain ⟨b, rfl, hb⟩ : ∃ b : Bool, x = .bool b ∧ dOf b = (if i = 0 then 3 else 2) := by
      match i, hi, hx with
      | 0, _, hx => exact ⟨true, (by simpa using hx.symm), rfl⟩
      | 1, _, hx => exact ⟨false, (by simpa using hx.symm), rfl⟩
    walk_at "dl"
    rename_i q
    refine nx_forR (fun t G => ∃ (rs : List Row) (A2 : Nat), RsOk (SmallRow (dOf b)) rs ∧ rs.length ≤ t ∧ A2 ≤ A' + 2 + 50 * t ∧ G = [.fd f0 A2, .d (.int near), .own pp ps, .d (.bool b), .dic q (encD rs), .any, .any]) ?_
    walk_at "dl"
    rename_i many m0 m1
    refine ⟨_, rfl, by omega, by omega, ⟨[], _, rs_nil, Nat.le_refl _, by omega, rfl⟩, ?_, ?_⟩
    · rintro t _ ht ⟨rs, A2, hrs, hrl, hA2, rfl⟩
      walk_at "dl"
      rename_i dd d0 d1 l hl hr ho
      obtain ⟨day, hday, e0, e1⟩ : ∃ day : Int, (if (if near + dd - 4 < 694443 then near + dd - 4 else 694443) > 0 then (if near + dd - 4 < 694443 then near + dd - 4 else 694443) else 0) = day ∧ 0 ≤ day ∧ day ≤ 694443 := ⟨_, rfl, by split <;> omega, by (repeat' split) <;> omega⟩
      rw [hday]
      refine ⟨_, Sum.inl day, rfl, rfl, by rw [encD_len]; omega, ?_⟩
      rw [putD_encD]
      have hpl := putR_len rs day l
      refine nx_wipe [5, 6] ?_
      refine nx_inv ⟨_, _, rs_put hrs ⟨⟨e0, e1, by show l.length ≤ 63; omega, hr, ho⟩, by show l.length ≤ 5; omega⟩, ?_, ?_, rfl⟩
      · omega
      · omega
    rintro _ ⟨rs, A2, hrs, hrl, hA2, rfl⟩
    have hm : rs.length ≤ 2 := by omega
    walk_at "dl"
    refine eo_lcLi ?_
    walk_at "dl"
    refine ⟨_, _, rs.map (·.1), rfl, encD_keys rs, by rw [List.length_map]; omega, fun ys pm pw => ?_⟩
    have hyl : ys.length = rs.length := by rw [pm.length_eq, List.length_map]
    refine ⟨_, rfl, by rw [List.length_map]; omega, gw_name (by decide), fun j acc G => acc = (ys.take j).map (fun y => encRow (lookR rs y)) ∧ G = [.fd f0 A2, .d (.int near), .own pp ps, .d (.bool b), .dic q (encD rs), .any, .any], ⟨rfl, rfl⟩, ?_, ?_⟩
    · rintro j v acc _ hv ⟨rfl, rfl⟩ _ B2 D ws hB2
      obtain ⟨y, hy, rfl⟩ : ∃ y, ys[j]? = some y ∧ v = .int y := by
        rw [List.getElem?_map] at hv
        cases e : ys[j]? with
        | none => rw [e] at hv; cases hv
        | some s => rw [e] at hv; exact ⟨s, rfl, (Option.some.inj hv).symm⟩
      have hm := lookR_mem (pm.mem_iff.mp (List.mem_of_getElem? hy))
      have hv := valD_encD hrs.nd hm.1
      rw [hm.2] at hv
      walk_at "dl"
      refine ⟨_, _, Sum.inl y, _, rfl, rfl, hv, ?_⟩
      walk_at "dl"
      refine ⟨?_, rfl⟩
      rw [List.take_add_one, hy, List.map_append]
      show _ = _ ++ [encRow (lookR rs y)]
      unfold encRow
      rw [hm.2]
    rintro acc _ ⟨rfl, rfl⟩
    rw [List.length_map, List.take_length]
    obtain ⟨s1, s2, s3⟩ := rows_sorted hrs pm pw
    have em : (ys.map fun y => encRow (lookR rs y)) = encRows (ys.map (lookR rs)) := by unfold encRows; rw [List.map_map]; rfl
    rw [em]
    walk_at "dl"
    refine nx_wipe [3, 4, 5, 6] ?_
    refine nx_inv ⟨_, A2, by rw [List.length_append, hpl]; rfl, fun j x hx => ?_, by omega, rfl⟩
    by_cases hj : j < i
    · rw [List.getElem?_append_left (by omega)] at hx
      exact hps j x hx
    · rw [List.getElem?_append_right (by omega), hpl] at hx
      have hji : j = i := by
        by_cases z : j - i = 0
        · omega
        · rw [List.getElem?_eq_none (by rw [List.length_singleton]; omega)] at hx; cases hx
      subst hji
      rw [Nat.sub_self] at hx
      cases hx
      exact ⟨_, rfl, s1, by omega, by rw [← hb]; exact s3⟩
  rintro _ ⟨ps, A', hpl, hps, hA', rfl⟩
  obtain ⟨x, y, rfl⟩ : ∃ x y, ps = [x, y] := by
    match ps, hpl with
    | [x, y], _ => exact ⟨x, y, rfl⟩
  obtain ⟨l1, rfl, u1, n1, o1⟩ := hps 0 x rfl
  obtain ⟨l2, rfl, u2, n2, o2⟩ := hps 1 y rfl
  simp only [List.length_cons, List.length_nil] at hA'
  walk_at "dl"
  exact RT rfl (by omega) (k ⟨l1, l2⟩ ⟨u1, u2, n1, n2, o1, o2⟩)
def encT (r : Row) : PyData := .tuple (r.2.map encI)
def moved (b : Int) (s : Int × Int) : Int × Int := (b + s.1, b + s.1 + s.2)
theorem lay_encT (n : Nat) (r : Row) : lay (n + 2) (encT r) := lay_tup (lay_encIs r.2)
theorem encI_get {l : List (List Int)} {i : Nat} {v : PyData} (hv : (l.map encI)[i]? = some v) : ∃ s, l[i]? = some s ∧ v = encI s := by
  rw [List.getElem?_map] at hv
  cases e : l[i]? with
  | none => rw [e] at hv; cases hv
  | some s => rw [e] at hv; exact ⟨s, rfl, (Option.some.inj hv).symm⟩
def T_on : Tr := fun xs κ => ∃ (p : Plan) (d : Int), xs = [encPlan p, .int d] ∧ PlanOk p ∧ 0 ≤ d ∧ d ≤ 694443 ∧ κ (.list (encL (shiftsOf p d)))
theorem ok__law_shifts_on (T : Tx K mg) : OkD P w K mg base "_law_shifts_on" 1 ["plan", "day"] (spP K 2 T_on) := by
  obtain ⟨f, fd, F, hm, hb⟩ := T.f__law_shifts_on
  refine ⟨f, fd, hm, F.kp, hb, F.ok sc__law_shifts_on (fun vs H Q E h => spP_len h) (fun cdv A_ outer s H vs Q E hr h => ?_)⟩
  obtain ⟨B, xs, κ, hB, hd, hn, hT, hq⟩ := h
  have RT : ∀ {G x}, κ x → Rt (frP K B H) G x Q := fun k => rtP hB hq k
  have hlim : lim = 1099511627776 := rfl
  obtain ⟨p, d, rfl, hp, hd0, hd1, k⟩ := hT
  unfold shiftsOf at k
  rw [if_neg (by omega), show (fun s : Int × Int => (1440 * d + s.1, 1440 * d + s.1 + s.2)) = moved (1440 * d) from rfl] at k
  refine ⟨_, (pss_cons (ps_setLc (i := 2) (own := [("row", 4)]) rfl sc__law_shifts_on.nd rfl rfl (sw_true rfl rfl rfl (by decide +kernel)) (ptup' (K := K) rfl (pe_ix (ixt' (K := K) rfl) (pv 0) pe_int (fun _ _ => rfl))) (blkOk_by (own := [("row", 4)]) (N := ["plan", "day", "own", "below", "row", "clock", "long"]) (sc := defScope s__law_shifts_on) (by decide +kernel)) (fun _ _ _ _ _ => (pg_name (i := 4) sc__law_shifts_on.nd rfl (.inl rfl))) (fun _ _ _ _ _ => (pts_one (pt_cmpR op_eq (pe_ix (ixt' (K := K) rfl) (pv 4) pe_int (fun _ _ => rfl)) (pv 1) (nomark _)))) (fun _ _ _ _ _ => (pe_ix (ixt' (K := K) rfl) (pv 4) pe_int (fun _ _ => rfl))))
      (C8.pss_cut (ps_if (pt_cmpR (eqd' (K := K) hr.units rfl) (pv 2) (pe_lst pa_nil) (nomark _))
      (pss_cons (ps_set (i := 3) sc__law_shifts_on.nd rfl (.inl rfl) (pe_op op_cat (pe_lst (pa_cons (pe_tup pa_nil) pa_nil)) (pe_lc (own := [("row", 4)]) rfl sc__law_shifts_on.nd (ptup' (K := K) rfl (pe_ix (ixt' (K := K) rfl) (pv 0) pe_int (fun _ _ => rfl))) (blkOk_by (own := [("row", 4)]) (N := ["plan", "day", "own", "below", "row", "clock", "long"]) (sc := defScope s__law_shifts_on) (by decide +kernel)) (fun _ _ _ _ _ => (pg_name (i := 4) sc__law_shifts_on.nd rfl (.inl rfl))) (fun _ _ _ _ _ => (pts_one (pt_cmpR op_le (pe_ix (ixt' (K := K) rfl) (pv 4) pe_int (fun _ _ => rfl)) (pv 1) (nomark _)))) (fun _ _ _ _ _ => (pe_ix (ixt' (K := K) rfl) (pv 4) pe_int (fun _ _ => rfl))))))
      (pss_one (ps_set (i := 2) sc__law_shifts_on.nd rfl (.inl rfl) (pe_lst (pa_cons (pe_lc (own := [("row", 4)]) rfl sc__law_shifts_on.nd (ptup' (K := K) rfl (pe_ix (ixl' (K := K) rfl) (pv 3) (pe_un un_neg pe_int) (fun _ _ => rfl))) (blkOk_by (own := [("row", 4)]) (N := ["plan", "day", "own", "below", "row", "clock", "long"]) (sc := defScope s__law_shifts_on) (by decide +kernel)) (fun _ _ _ _ _ => (pg_name (i := 4) sc__law_shifts_on.nd rfl (.inl rfl))) (fun _ _ _ _ _ => (pts_one (pt_cmpR op_eq (pe_ix (ixt' (K := K) rfl) (pv 4) pe_int (fun _ _ => rfl)) (pe_op op_modN (pv 1) pe_int) (nomark _)))) (fun _ _ _ _ _ => (pe_slice (slt' (K := K) rfl) (pv 4) (po_some pe_int) po_none))) pa_nil)))))
      pss_nil)
      (pss_one (ps_ret (pe_lc (own := [("clock", 5), ("long", 6)]) rfl sc__law_shifts_on.nd (pi_or (plist' (K := K) rfl (pe_ix (ixl' (K := K) rfl) (pv 2) pe_int (fun _ _ => rfl))) (ptup' (K := K) rfl (pe_ix (ixl' (K := K) rfl) (pv 2) pe_int (fun _ _ => rfl)))) (blkOk_by (own := [("clock", 5), ("long", 6)]) (N := ["plan", "day", "own", "below", "row", "clock", "long"]) (sc := defScope s__law_shifts_on) (by decide +kernel)) (fun _ _ _ _ _ => (gtup' (K := K) (n := 2) rfl rfl (pgs_cons (pg_name (i := 5) sc__law_shifts_on.nd rfl (.inl rfl)) (pgs_cons (pg_name (i := 6) sc__law_shifts_on.nd rfl (.inl rfl)) pgs_nil)))) (fun _ _ _ _ _ => pts_nil) (fun _ _ _ _ _ => (pe_tup (pa_cons (pe_op op_add (pe_op op_mul pe_int (pv 1)) (pv 5)) (pa_cons (pe_op op_add (pe_op op_add (pe_op op_mul pe_int (pv 1)) (pv 5)) (pv 6)) pa_nil))))))))), ?_⟩
  try dsimp only [cxOf, Cx.nox, Cx.wish, Cx.blk]
  refine enterP hB hd (Nat.le_of_ble_eq_true rfl) ?_
  show Nx _ [.d (encPlan p), .d (.int d), .any, .any, .any, .any, .any] _
  walk_at "dl"
  refine eo_lcT (fun i acc G => acc = ((p.sg.take i).filter fun r => decide (r.1 = d)).map encT ∧ G = [.d (encPlan p), .d (.int d), .any, .any, .any, .any, .any]) ?_
  walk_at "dl"
  refine ⟨_, rfl, by rw [encRows_len]; have := hp.sg.len; omega, gw_name (by decide), ⟨rfl, rfl⟩, ?_, ?_⟩
  · rintro i v acc _ hv ⟨rfl, rfl⟩ _ B' D ws hB'
    obtain ⟨r, hr, rfl⟩ := encRows_get hv
    have et : p.sg.take (i + 1) = p.sg.take i ++ [r] := by rw [List.take_add_one, hr]; rfl
    walk_at "dl"
    · rename_i h
      refine ⟨?_, rfl⟩
      rw [et, List.filter_append, List.map_append, List.filter_cons, if_pos (decide_eq_true h)]; rfl
    · rename_i h
      refine ⟨?_, rfl⟩
      rw [et, List.filter_append, List.filter_cons, if_neg (by rw [decide_eq_true_eq]; exact h), List.filter_nil, List.append_nil]
  rintro acc _ ⟨rfl, rfl⟩
  rw [encRows_len, List.take_length]
  refine ⟨Nat.le_of_ble_eq_true rfl, ?_⟩
  refine nx_cut (fun G => ∃ (X : PyData) (cl : List (List Int)), (X = .list (cl.map encI) ∨ X = .tuple (cl.map encI)) ∧ (∀ s ∈ cl, ∃ c l, s = [c, l]) ∧ cl.length ≤ 63 ∧ κ (.list (encL ((cl.map two).map (moved (1440 * d))))) ∧ G = [.d (encPlan p), .d (.int d), .d (.list [X]), .any, .any, .any, .any]) ?_ ?_
  · by_cases hday : hasDay p.sg d = true
    · obtain ⟨hi, h1, e, hf⟩ := hasDay_row hp.sg.up hday
      have ro := hp.sg.ok _ (List.getElem_mem hi)
      unfold clocksOf at k
      rw [if_pos hday, List.getElem?_eq_getElem hi] at k
      simp only [Option.map_some, Option.getD_some] at k
      rw [hf]
      generalize p.sg[upTo p.sg d - 1] = r at ro k
      have hrl := ro.len
      walk_at "dl"
      refine rk_eqD' ((lay_list (n := 2) (by intro x hx; rw [List.mem_singleton.mp hx]; exact lay_encT 0 r)).shaped (by decide)) ((lay_list (n := 2) (fun x hx => by cases hx)).shaped (by decide)) (b := false) (by rw [eqv_nil]; rfl) ?_
      walk_at "dl"
      refine nx_inv ⟨encT r, r.2, .inr rfl, fun s hs => ?_, hrl, k, rfl⟩
      rcases ro.ok s hs with ⟨_, c, l, rfl, _⟩ | ⟨z, _⟩
      · exact ⟨c, l, rfl⟩
      · cases z
    · have hf : p.sg.filter (fun r => decide (r.1 = d)) = [] := by
        rw [List.filter_eq_nil_iff]
        intro r hr
        rw [decide_eq_true_eq]
        intro e
        exact hday (List.any_eq_true.mpr ⟨r, hr, decide_eq_true e⟩)
      rw [hf]
      unfold clocksOf at k
      rw [if_neg hday] at k
      walk_at "dl"
      refine rk_eqD' ((lay_list (n := 2) (fun x hx => by cases hx)).shaped (by decide)) ((lay_list (n := 2) (fun x hx => by cases hx)).shaped (by decide)) (b := true) (by rw [show ([] : List Row).map encT = [] from rfl, eqv_nil]; rfl) ?_
      walk_at "dl"
      refine eo_lcT (fun i acc G => acc = ((p.st.take i).filter fun r => decide (r.1 ≤ d)).map encT ∧ G = [.d (encPlan p), .d (.int d), .d (.list []), .any, .any, .any, .any]) ?_
      walk_at "dl"
      refine ⟨_, rfl, by rw [encRows_len]; have := hp.st.len; omega, gw_name (by decide), ⟨rfl, rfl⟩, ?_, ?_⟩
      · rintro i v acc _ hv ⟨rfl, rfl⟩ _ B' D ws hB'
        obtain ⟨r, hr, rfl⟩ := encRows_get hv
        have et : p.st.take (i + 1) = p.st.take i ++ [r] := by rw [List.take_add_one, hr]; rfl
        walk_at "dl"
        · rename_i h
          refine ⟨?_, rfl⟩
          rw [et, List.filter_append, List.map_append, List.filter_cons, if_pos (decide_eq_true h)]; rfl
        · rename_i h
          refine ⟨?_, rfl⟩
          rw [et, List.filter_append, List.filter_cons, if_neg (by rw [decide_eq_true_eq]; omega), List.filter_nil, List.append_nil]
      rintro acc _ ⟨rfl, rfl⟩
      rw [encRows_len, List.take_length, upTo_last hp.st.up]
      have hle := upTo_le p.st d
      have hsl := hp.st.len
      refine rk_cat ⟨_, _, rfl, rfl, by rw [List.length_map]; have := List.length_take_le (upTo p.st d) p.st; show 1 + _ ≤ _; omega, ?_⟩
      by_cases hz : upTo p.st d = 0
      · rw [if_pos hz] at k
        rw [hz, List.take_zero]
        walk_at "dl"
        refine eo_lcT (fun i acc G => acc = [] ∧ G = [.d (encPlan p), .d (.int d), .d (.list []), .d (.list [.tuple []]), .any, .any, .any]) ?_
        walk_at "dl"
        refine ⟨_, rfl, by decide, gw_name (by decide), ⟨rfl, rfl⟩, ?_, ?_⟩
        · rintro i v acc _ hv ⟨rfl, rfl⟩
          cases hv
        rintro acc _ ⟨rfl, rfl⟩
        walk_at "dl"
        refine nx_wipe [3] ?_
        exact nx_inv ⟨.list [], [], .inl rfl, (fun s hs => nomatch hs), Nat.zero_le _, k, rfl⟩
      · have hi : upTo p.st d - 1 < p.st.length := by omega
        have ro := hp.st.ok _ (List.getElem_mem hi)
        rw [if_neg hz, List.getElem?_eq_getElem hi] at k
        simp only [Option.map_some, Option.getD_some] at k
        have et : p.st.take (upTo p.st d) = p.st.take (upTo p.st d - 1) ++ [p.st[upTo p.st d - 1]] := by
          have := List.take_succ_eq_append_getElem hi
          rw [← this]; congr 1; omega
        rw [et, List.map_append, ← List.append_assoc]
        generalize p.st[upTo p.st d - 1] = r at ro k
        have hrl := ro.len
        generalize [PyData.tuple []] ++ (p.st.take (upTo p.st d - 1)).map encT = pre
        walk_at "dl"
        refine eo_lcT (fun i acc G => acc = ((r.2.take i).filter fun s => decide (s.head? = some (d % 7))).map (fun s => encI s.tail) ∧ G = [.d (encPlan p), .d (.int d), .d (.list []), .d (.list (pre ++ [r].map encT)), .any, .any, .any]) ?_
        walk_at "dl"
        refine rk_ixL ⟨_, _, _, rfl, rfl, atI_last _ _, ?_⟩
        refine ⟨_, (show encT r = .tuple (r.2.map encI) from rfl), by rw [List.length_map]; omega, gw_name (by decide), ⟨rfl, rfl⟩, ?_, ?_⟩
        · rintro i v acc _ hv ⟨rfl, rfl⟩ _ B' D ws hB'
          obtain ⟨s, hs, rfl⟩ := encI_get hv
          rcases ro.ok s (List.mem_of_getElem? hs) with ⟨z, _⟩ | ⟨_, w, c, l, rfl, _⟩
          · cases z
          have et : r.2.take (i + 1) = r.2.take i ++ [[w, c, l]] := by rw [List.take_add_one, hs]; rfl
          rw [show encI [w, c, l] = .tuple [.int w, .int c, .int l] from rfl]
          walk_at "dl"
          · rename_i h
            refine ⟨?_, rfl⟩
            rw [et, List.filter_append, List.filter_cons, if_pos (by rw [h]; exact decide_eq_true rfl), List.map_append]
            rfl
          · rename_i h
            refine ⟨?_, rfl⟩
            rw [et, List.filter_append, List.filter_cons, if_neg (by simp only [List.head?_cons, Option.some.injEq, decide_eq_true_eq]; exact h), List.filter_nil, List.append_nil]
        rintro acc _ ⟨rfl, rfl⟩
        rw [List.length_map, List.take_length]
        walk_at "dl"
        refine nx_wipe [3] ?_
        have ok3 : ∀ s ∈ r.2, ∃ w c l, s = [w, c, l] := fun s hs => by
          rcases ro.ok s hs with ⟨z, _⟩ | ⟨_, w, c, l, rfl, _⟩
          · cases z
          · exact ⟨w, c, l, rfl⟩
        refine nx_inv ⟨.list _, (r.2.filter fun s => decide (s.head? = some (d % 7))).map List.tail, .inl (by rw [List.map_map]; rfl), fun s hs => ?_, by rw [List.length_map]; exact Nat.le_trans (List.length_filter_le _ _) hrl, ?_, rfl⟩
        · obtain ⟨t, ht, rfl⟩ := List.mem_map.mp hs
          obtain ⟨w, c, l, rfl⟩ := ok3 t (List.mem_filter.mp ht).1
          exact ⟨c, l, rfl⟩
        · have e2 : (((r.2.filter fun s => decide (s.head? = some (d % 7))).map List.tail).map two) = (r.2.filter fun s => decide (s.head? = some (d % 7))).map two := by
            rw [List.map_map]
            refine List.map_congr_left fun t ht => ?_
            obtain ⟨w, c, l, rfl⟩ := ok3 t (List.mem_filter.mp ht).1
            rfl
          rw [e2]
          exact k
  rintro _ ⟨X, cl, hX, hcl, hll, k2, rfl⟩
  walk_at "dl"
  have turn : ∀ (i : Nat) (v : PyData), (cl.map encI)[i]? = some v → ∃ c l, cl[i]? = some [c, l] ∧ v = .tuple [.int c, .int l] := fun i v hv => by
    obtain ⟨s, hs, rfl⟩ := encI_get hv
    obtain ⟨c, l, rfl⟩ := hcl s (List.mem_of_getElem? hs)
    exact ⟨c, l, hs, rfl⟩
  rcases hX with rfl | rfl
  · refine eo_lcI1 ?_
    refine eo_lcL (fun i acc G => acc = encL (((cl.take i).map two).map (moved (1440 * d))) ∧ G = [.d (encPlan p), .d (.int d), .d (.list [.list (cl.map encI)]), .any, .any, .any, .any]) ?_
    walk_at "dl"
    refine ⟨_, rfl, by rw [List.length_map]; omega, gw_tup (gws_cons (gw_name (by decide)) (gws_cons (gw_name (by decide)) gws_nil)), ⟨rfl, rfl⟩, ?_, ?_⟩
    · rintro i v acc _ hv ⟨rfl, rfl⟩ _ B' D ws hB'
      obtain ⟨c, l, hs, rfl⟩ := turn i v hv
      walk_at "dl"
      refine ⟨?_, rfl⟩
      rw [List.take_add_one, hs, List.map_append, List.map_append, encL_append]
      rfl
    rintro acc _ ⟨rfl, rfl⟩
    rw [List.length_map, List.take_length]
    exact RT k2
  · refine eo_lcI2 ?_
    refine eo_lcT (fun i acc G => acc = encL (((cl.take i).map two).map (moved (1440 * d))) ∧ G = [.d (encPlan p), .d (.int d), .d (.list [.tuple (cl.map encI)]), .any, .any, .any, .any]) ?_
    walk_at "dl"
    refine ⟨_, rfl, by rw [List.length_map]; omega, gw_tup (gws_cons (gw_name (by decide)) (gws_cons (gw_name (by decide)) gws_nil)), ⟨rfl, rfl⟩, ?_, ?_⟩
    · rintro i v acc _ hv ⟨rfl, rfl⟩ _ B' D ws hB'
      obtain ⟨c, l, hs, rfl⟩ := turn i v hv
      walk_at "dl"
      refine ⟨?_, rfl⟩
      rw [List.take_add_one, hs, List.map_append, List.map_append, encL_append]
      rfl
    rintro acc _ ⟨rfl, rfl⟩
    rw [List.length_map, List.take_length]
    exact RT k2
def T_by : Tr := fun xs κ => ∃ (p : Plan) (m : Int), xs = [encPlan p, .int m] ∧ PlanOk p ∧ 0 ≤ m ∧ m ≤ 999999359 ∧ ∀ L : List (Int × Int), L.length ≤ 300 → (∀ t ∈ L, InSh p t) → (∀ e t, t ∈ shiftsOf p e → m / 1440 - 2 ≤ e → e < m / 1440 + 2 → t ∈ L) → κ (.list (encL L))
theorem ok__law_shifts_by (T : Tx K mg) : OkD P w K mg base "_law_shifts_by" 2 ["plan", "minute"] (spP K 2 T_by) := by
  obtain ⟨f__law_shifts_on, fd__law_shifts_on, m__law_shifts_on, k__law_shifts_on, b__law_shifts_on, G__law_shifts_on⟩ := ok__law_shifts_on (P := P) (w := w) (base := base) T
  obtain ⟨f, fd, F, hm, hb⟩ := T.f__law_shifts_by
  refine ⟨f, fd, hm, F.kp, hb, F.ok sc__law_shifts_by (fun vs H Q E h => spP_len h) (fun cdv A_ outer s H vs Q E hr h => ?_)⟩
  obtain ⟨B, xs, κ, hB, hd, hn, hT, hq⟩ := h
  have RT : ∀ {G x}, κ x → Rt (frP K B H) G x Q := fun k => rtP hB hq k
  have hlim : lim = 1099511627776 := rfl
  obtain ⟨p, m, rfl, hp, m0, m1, k⟩ := hT
  refine ⟨_, (pss_cons (ps_set (i := 2) sc__law_shifts_by.nd rfl (.inl rfl) (pe_lst pa_nil))
      (pss_cons (ps_for PassesOwn.never rfl (pi_range2 rfl T.b_range (pa_cons (pe_callB (id := "max") (call_max2 rfl) (by rfl) T.b_max (by decide +kernel) (pa_cons pe_int (pa_cons (pe_op op_sub (pe_op op_fdivN (pv 1) pe_int) pe_int) pa_nil))) (pa_cons (pe_callB (id := "min") (call_min2 rfl) (by rfl) T.b_min (by decide +kernel) (pa_cons pe_int (pa_cons (pe_op op_add (pe_op op_fdivN (pv 1) pe_int) pe_int) pa_nil))) pa_nil))) (pg_name (i := 3) sc__law_shifts_by.nd rfl (.inl rfl))
      (pss_one (ps_set (i := 2) sc__law_shifts_by.nd rfl (.inl rfl) (pe_op op_cat (pv 2) (pe_call G__law_shifts_on (hr.mono (by first | decide | omega | (simp only [Nat.add_eq, Nat.succ_eq_add_one]; omega))) rfl m__law_shifts_on k__law_shifts_on b__law_shifts_on .nil pass0 (pa_cons (pv 0) (pa_cons (pv 3) pa_nil)))))))
      (pss_one (ps_ret (pv 2))))), ?_⟩
  try dsimp only [cxOf, Cx.nox, Cx.wish, Cx.blk]
  refine enterP hB hd (Nat.le_of_ble_eq_true rfl) ?_
  show Nx _ [.d (encPlan p), .d (.int m), .any, .any] _
  walk_at "dl"
  obtain ⟨lo, hlo⟩ : ∃ lo : Int, (if m / 1440 - 2 > 0 then m / 1440 - 2 else 0) = lo := ⟨_, rfl⟩
  obtain ⟨hi, hhi⟩ : ∃ hi : Int, (if m / 1440 + 2 < 694444 then m / 1440 + 2 else 694444) = hi := ⟨_, rfl⟩
  have l0 : 0 ≤ lo ∧ lo ≤ m / 1440 ∧ m / 1440 - 2 ≤ lo := by rw [← hlo]; split <;> omega
  have h0 : hi ≤ 694444 ∧ hi ≤ m / 1440 + 2 ∧ m / 1440 < hi := by rw [← hhi]; split <;> omega
  refine nx_forR2 (fun i G => ∃ L : List (Int × Int), L.length ≤ 63 * i ∧ (∀ t ∈ L, InSh p t) ∧ (∀ e t, t ∈ shiftsOf p e → lo ≤ e → e < lo + i → t ∈ L) ∧ G = [.d (encPlan p), .d (.int m), .d (.list (encL L)), .any]) ?_
  walk_at "dl"
  rw [hlo, hhi]
  refine ⟨_, _, rfl, ⟨by omega, by omega, by omega, by omega⟩, ⟨[], Nat.le_refl _, (fun t ht => nomatch ht), (fun e t _ h1 h2 => by omega), rfl⟩, ?_, ?_⟩
  · rintro i _ hi' ⟨L, hl, h1, h2, rfl⟩
    walk_at "dl"
    refine ⟨p, lo + i, rfl, hp, by omega, by omega, ?_⟩
    have hs := sh_len hp (lo + i)
    refine rk_cat ⟨_, _, rfl, rfl, by rw [encL_len, encL_len]; omega, ?_⟩
    rw [← encL_append]
    walk_at "dl"
    refine nx_wipe [3] ?_
    refine nx_inv ⟨_, by rw [List.length_append]; omega, fun t ht => ?_, fun e t ht q1 q2 => ?_, rfl⟩
    · rcases List.mem_append.mp ht with ht | ht
      · exact h1 t ht
      · exact ⟨_, ht⟩
    · by_cases z : e = lo + i
      · subst z; exact List.mem_append_right _ ht
      · exact List.mem_append_left _ (h2 e t ht q1 (by omega))
  rintro _ ⟨L, hl, h1, h2, rfl⟩
  walk_at "dl"
  refine RT (k L (by omega) h1 fun e t ht q1 q2 => ?_)
  have hi' := sh_in hp ht
  refine h2 e t ht ?_ ?_
  · rw [← hlo]; split <;> omega
  · have : hi = lo + ((hi - lo).toNat : Int) := by omega
    rw [← this, ← hhi]; split <;> omega
def T_end : Tr := fun xs κ => ∃ (p : Plan) (M m : Int), xs = [encPlan p, .int M, .int m] ∧ PlanOk p ∧ 0 ≤ m ∧ m ≤ 999999359 ∧ κ (.int (gEnd p M m))
theorem ok__law_end (T : Tx K mg) : OkD P w K mg base "_law_end" 3 ["plan", "most", "begin"] (spP K 3 T_end) := by
  obtain ⟨f__law_shifts_by, fd__law_shifts_by, m__law_shifts_by, k__law_shifts_by, b__law_shifts_by, G__law_shifts_by⟩ := ok__law_shifts_by (P := P) (w := w) (base := base) T
  obtain ⟨f, fd, F, hm, hb⟩ := T.f__law_end
  refine ⟨f, fd, hm, F.kp, hb, F.ok sc__law_end (fun vs H Q E h => spP_len h) (fun cdv A_ outer s H vs Q E hr h => ?_)⟩
  obtain ⟨B, xs, κ, hB, hd, hn, hT, hq⟩ := h
  have RT : ∀ {G x}, κ x → Rt (frP K B H) G x Q := fun k => rtP hB hq k
  have hlim : lim = 1099511627776 := rfl
  obtain ⟨p, M, m, rfl, hp, m0, m1, k⟩ := hT
  refine ⟨_, (pss_cons (ps_setLc (i := 3) (own := [("one", 4)]) rfl sc__law_end.nd rfl rfl (sw_true rfl rfl rfl (by decide +kernel)) (plist' (K := K) rfl (pe_call G__law_shifts_by (hr.mono (by first | decide | omega | (simp only [Nat.add_eq, Nat.succ_eq_add_one]; omega))) rfl m__law_shifts_by k__law_shifts_by b__law_shifts_by .nil pass0 (pa_cons (pv 0) (pa_cons (pv 2) pa_nil)))) (blkOk_by (own := [("one", 4)]) (N := ["plan", "most", "begin", "some", "one"]) (sc := defScope s__law_end) (by decide +kernel)) (fun _ _ _ _ _ => (pg_name (i := 4) sc__law_end.nd rfl (.inl rfl))) (fun _ _ _ _ _ => (pts_one (pt_chain op_le op_lt (pe_ix (ixt' (K := K) rfl) (pv 4) pe_int (fun _ _ => rfl)) (pv 2) (pe_ix (ixt' (K := K) rfl) (pv 4) pe_int (fun _ _ => rfl))))) (fun _ _ _ _ _ => (pv 4)))
      (pss_one (ps_ret (pe_ifExp (pt_cmpR (ned' (K := K) hr.units rfl) (pv 3) (pe_lst pa_nil) (nomark _)) (pe_ix (ixt' (K := K) rfl) (pe_callB (id := "min") (minT' (K := K) rfl hr.units rfl) (by rfl) T.b_min (by decide +kernel) (pa_cons (pv 3) pa_nil)) pe_int (fun _ _ => rfl)) (pe_op op_add (pv 2) (pv 1)))))), ?_⟩
  try dsimp only [cxOf, Cx.nox, Cx.wish, Cx.blk]
  refine enterP hB hd (Nat.le_of_ble_eq_true rfl) ?_
  show Nx _ [.d (encPlan p), .d (.int M), .d (.int m), .any, .any] _
  walk_at "dl"
  refine eo_lcLi ?_
  walk_at "dl"
  refine ⟨p, m, rfl, hp, m0, m1, fun L hL h1 h2 => ?_⟩
  refine ⟨_, rfl, by rw [encL_len]; omega, gw_name (by decide), fun i acc G => acc = encL ((L.take i).filter (AtM m)) ∧ G = [.d (encPlan p), .d (.int M), .d (.int m), .any, .any], ⟨rfl, rfl⟩, ?_, ?_⟩
  · rintro i v acc _ hv ⟨rfl, rfl⟩ _ B' D ws hB'
    obtain ⟨s, hs, rfl⟩ := encL_get hv
    have et : L.take (i + 1) = L.take i ++ [s] := by rw [List.take_add_one, hs]; rfl
    walk_at "dl"
    · rename_i q1 q2
      have hc : AtM m s = true := atM.mpr (by constructor <;> omega)
      refine ⟨?_, rfl⟩
      rw [et, List.filter_append, List.filter_cons, if_pos hc, encL_append]
      rfl
    all_goals
      have hc : AtM m s = false := by
        cases q : AtM m s with
        | false => rfl
        | true => have := atM.mp q; omega
      refine ⟨?_, rfl⟩
      rw [et, List.filter_append, List.filter_cons, if_neg (by rw [hc]; decide), List.filter_nil, List.append_nil]
  rintro acc _ ⟨rfl, rfl⟩
  rw [encL_len, List.take_length]
  have z1 : ∀ t ∈ L.filter (AtM m), InSh p t ∧ AtM m t = true := fun t ht => ⟨h1 t (List.mem_filter.mp ht).1, (List.mem_filter.mp ht).2⟩
  have z2 : ∀ t, InSh p t → AtM m t = true → t ∈ L.filter (AtM m) := fun t ⟨e, he⟩ hc => by
    have a := sh_in hp he
    have b := atM.mp hc
    exact List.mem_filter.mpr ⟨h2 e t he (by omega) (by omega), hc⟩
  have zl : (L.filter (AtM m)).length ≤ 300 := Nat.le_trans (List.length_filter_le _ _) hL
  generalize L.filter (AtM m) = Z at z1 z2 zl
  unfold gEnd at k
  cases Z with
  | nil =>
    have e : shiftAt p m = none := by
      cases q : shiftAt p m with
      | none => rfl
      | some s =>
        obtain ⟨a, b, _⟩ := shiftAt_some hp q
        cases z2 s a b
    rw [e] at k
    walk_at "dl"
    refine rk_neD' ((lay_list (n := 2) (fun x hx => by cases hx)).shaped (by decide)) ((lay_list (n := 2) (fun x hx => by cases hx)).shaped (by decide)) (b := true) (by rw [show encL [] = [] from rfl, eqv_nil]; rfl) ?_
    walk_at "dl"
    exact RT k
  | cons z zs =>
    obtain ⟨s, e, em⟩ := least_of hp z1 z2
    rw [e] at k
    walk_at "dl"
    refine rk_neD' (lay_shL (z :: zs)) ((lay_list (n := 2) (fun x hx => by cases hx)).shaped (by decide)) (b := false) (by rw [eqv_nil]; rfl) ?_
    walk_at "dl"
    refine ck_minT ⟨[z.1, z.2], zs.map fun t => [t.1, t.2], by unfold encL; rw [List.map_cons, List.map_cons, List.map_map]; rfl, ?_⟩
    rw [em]
    walk_at "dl"
    exact RT k
def T_begin : Tr := fun xs κ => ∃ (p : Plan) (M m : Int), xs = [encPlan p, .int M, .int m] ∧ PlanOk p ∧ 0 ≤ m ∧ m ≤ 999999359 ∧ 1 ≤ M ∧ κ (.int (gBegin p M m))
theorem ok__law_begin (T : Tx K mg) : OkD P w K mg base "_law_begin" 3 ["plan", "most", "end"] (spP K 3 T_begin) := by
  obtain ⟨f__law_shifts_by, fd__law_shifts_by, m__law_shifts_by, k__law_shifts_by, b__law_shifts_by, G__law_shifts_by⟩ := ok__law_shifts_by (P := P) (w := w) (base := base) T
  obtain ⟨f, fd, F, hm, hb⟩ := T.f__law_begin
  refine ⟨f, fd, hm, F.kp, hb, F.ok sc__law_begin (fun vs H Q E h => spP_len h) (fun cdv A_ outer s H vs Q E hr h => ?_)⟩
  obtain ⟨B, xs, κ, hB, hd, hn, hT, hq⟩ := h
  have RT : ∀ {G x}, κ x → Rt (frP K B H) G x Q := fun k => rtP hB hq k
  have hlim : lim = 1099511627776 := rfl
  obtain ⟨p, M, m, rfl, hp, m0, m1, M1, k⟩ := hT
  refine ⟨_, (pss_cons (ps_setLc (i := 3) (own := [("one", 4)]) rfl sc__law_begin.nd rfl rfl (sw_true rfl rfl rfl (by decide +kernel)) (plist' (K := K) rfl (pe_call G__law_shifts_by (hr.mono (by first | decide | omega | (simp only [Nat.add_eq, Nat.succ_eq_add_one]; omega))) rfl m__law_shifts_by k__law_shifts_by b__law_shifts_by .nil pass0 (pa_cons (pv 0) (pa_cons (pv 2) pa_nil)))) (blkOk_by (own := [("one", 4)]) (N := ["plan", "most", "end", "some", "one"]) (sc := defScope s__law_begin) (by decide +kernel)) (fun _ _ _ _ _ => (pg_name (i := 4) sc__law_begin.nd rfl (.inl rfl))) (fun _ _ _ _ _ => (pts_one (pt_chain op_lt op_le (pe_ix (ixt' (K := K) rfl) (pv 4) pe_int (fun _ _ => rfl)) (pv 2) (pe_ix (ixt' (K := K) rfl) (pv 4) pe_int (fun _ _ => rfl))))) (fun _ _ _ _ _ => (pv 4)))
      (pss_one (ps_ret (pe_ifExp (pt_cmpR (ned' (K := K) hr.units rfl) (pv 3) (pe_lst pa_nil) (nomark _)) (pe_ix (ixt' (K := K) rfl) (pe_callB (id := "min") (minT' (K := K) rfl hr.units rfl) (by rfl) T.b_min (by decide +kernel) (pa_cons (pv 3) pa_nil)) pe_int (fun _ _ => rfl)) (pe_callB (id := "max") (call_max2 rfl) (by rfl) T.b_max (by decide +kernel) (pa_cons pe_int (pa_cons (pe_op op_sub (pv 2) (pv 1)) pa_nil))))))), ?_⟩
  try dsimp only [cxOf, Cx.nox, Cx.wish, Cx.blk]
  refine enterP hB hd (Nat.le_of_ble_eq_true rfl) ?_
  show Nx _ [.d (encPlan p), .d (.int M), .d (.int m), .any, .any] _
  walk_at "dl"
  refine eo_lcLi ?_
  walk_at "dl"
  refine ⟨p, m, rfl, hp, m0, m1, fun L hL h1 h2 => ?_⟩
  refine ⟨_, rfl, by rw [encL_len]; omega, gw_name (by decide), fun i acc G => acc = encL ((L.take i).filter (AtM (m - 1))) ∧ G = [.d (encPlan p), .d (.int M), .d (.int m), .any, .any], ⟨rfl, rfl⟩, ?_, ?_⟩
  · rintro i v acc _ hv ⟨rfl, rfl⟩ _ B' D ws hB'
    obtain ⟨s, hs, rfl⟩ := encL_get hv
    have et : L.take (i + 1) = L.take i ++ [s] := by rw [List.take_add_one, hs]; rfl
    walk_at "dl"
    · rename_i q1 q2
      have hc : AtM (m - 1) s = true := atM.mpr (by constructor <;> omega)
      refine ⟨?_, rfl⟩
      rw [et, List.filter_append, List.filter_cons, if_pos hc, encL_append]
      rfl
    all_goals
      have hc : AtM (m - 1) s = false := by
        cases q : AtM (m - 1) s with
        | false => rfl
        | true => have := atM.mp q; omega
      refine ⟨?_, rfl⟩
      rw [et, List.filter_append, List.filter_cons, if_neg (by rw [hc]; decide), List.filter_nil, List.append_nil]
  rintro acc _ ⟨rfl, rfl⟩
  rw [encL_len, List.take_length]
  have z1 : ∀ t ∈ L.filter (AtM (m - 1)), InSh p t ∧ AtM (m - 1) t = true := fun t ht => ⟨h1 t (List.mem_filter.mp ht).1, (List.mem_filter.mp ht).2⟩
  have z2 : ∀ t, InSh p t → AtM (m - 1) t = true → t ∈ L.filter (AtM (m - 1)) := fun t ⟨e, he⟩ hc => by
    have a := sh_in hp he
    have b := atM.mp hc
    exact List.mem_filter.mpr ⟨h2 e t he (by omega) (by omega), hc⟩
  have zl : (L.filter (AtM (m - 1))).length ≤ 300 := Nat.le_trans (List.length_filter_le _ _) hL
  generalize L.filter (AtM (m - 1)) = Z at z1 z2 zl
  unfold gBegin at k
  cases Z with
  | nil =>
    have e : shiftAt p (m - 1) = none := by
      cases q : shiftAt p (m - 1) with
      | none => rfl
      | some s =>
        obtain ⟨a, b, _⟩ := shiftAt_some hp q
        cases z2 s a b
    rw [e] at k
    walk_at "dl"
    refine rk_neD' ((lay_list (n := 2) (fun x hx => by cases hx)).shaped (by decide)) ((lay_list (n := 2) (fun x hx => by cases hx)).shaped (by decide)) (b := true) (by rw [show encL [] = [] from rfl, eqv_nil]; rfl) ?_
    walk_at "dl"
    have e2 : (if m - M > 0 then m - M else 0) = (if 0 > m - M then 0 else m - M) := by split <;> split <;> omega
    rw [e2]
    exact RT k
  | cons z zs =>
    obtain ⟨s, e, em⟩ := least_of hp z1 z2
    rw [e] at k
    walk_at "dl"
    refine rk_neD' (lay_shL (z :: zs)) ((lay_list (n := 2) (fun x hx => by cases hx)).shaped (by decide)) (b := false) (by rw [eqv_nil]; rfl) ?_
    walk_at "dl"
    refine ck_minT ⟨[z.1, z.2], zs.map fun t => [t.1, t.2], by unfold encL; rw [List.map_cons, List.map_cons, List.map_map]; rfl, ?_⟩
    rw [em]
    walk_at "dl"
    exact RT k
def T_owed : Trs := fun xs κ => ∃ (ss : List (Str × Int)) (p : Plan) (M : Int), xs = [.list (ss.map stD), encPlan p, .int M] ∧ ss.length ≤ 60 ∧ (∀ q ∈ ss, (q.1 = "in" ∨ q.1 = "out") ∧ 0 ≤ q.2 ∧ q.2 ≤ 999999359) ∧ PlanOk p ∧ 1 ≤ M ∧ ∀ zs, Turns ss zs → κ ((stretchesW p M zs).map wdD)
def stW (w : WS) : PyData := .tuple [.str (if w.inside = true then "in" else "out"), .int w.since]
def WsOk (w : WS) : Prop := w.inside = true → 0 ≤ w.since ∧ w.since ≤ 999999359
theorem fold_T2 (p : Plan) (M : Int) (ss : List (Str × Int)) (m : Int) (w : WS) : (T2 ss m).foldl (stepW p M) w = if (("in" : Str), m) ∈ ss then comeW p M (if (("out" : Str), m) ∈ ss then goW p M w m else w) m else (if (("out" : Str), m) ∈ ss then goW p M w m else w) := by
  unfold T2
  have e0 : backP (m, false) = (("out" : Str), m) := rfl
  have e1 : backP (m, true) = (("in" : Str), m) := rfl
  by_cases h0 : (("out" : Str), m) ∈ ss <;> by_cases h1 : (("in" : Str), m) ∈ ss <;> simp [List.filter, e0, e1, h0, h1, stepW]
theorem walkW_app (p : Plan) (M : Int) (a b : List (Int × Bool)) : walkW p M (a ++ b) = b.foldl (stepW p M) (walkW p M a) := by
  unfold walkW
  rw [List.foldl_append]
theorem ok__law_owed (T : Tx K mg) : OkD P w K mg base "_law_owed" 4 ["stamps", "plan", "most"] (spPO K 3 T_owed) := by
  obtain ⟨f__law_end, fd__law_end, m__law_end, k__law_end, b__law_end, G__law_end⟩ := ok__law_end (P := P) (w := w) (base := base) T
  obtain ⟨f__law_begin, fd__law_begin, m__law_begin, k__law_begin, b__law_begin, G__law_begin⟩ := ok__law_begin (P := P) (w := w) (base := base) T
  obtain ⟨f, fd, F, hm, hb⟩ := T.f__law_owed
  refine ⟨f, fd, hm, F.kp, hb, F.ok sc__law_owed (fun vs H Q E h => spPO_len h) (fun cdv A_ outer s H vs Q E hr h => ?_)⟩
  obtain ⟨B, xs, κ, hB, hd, hn, hT, hq⟩ := h
  have RT : ∀ {G x}, κ x → RtO (frP K B H) G x Q := fun k => rtPO hB hq k
  have hlim : lim = 1099511627776 := rfl
  obtain ⟨ss, p, M, rfl, hl, hw, hp, hM, k⟩ := hT
  refine ⟨_, (pss_cons (ps_own (ps_set (i := 3) sc__law_owed.nd rfl (.inl rfl) (pe_lst pa_nil)))
      (pss_cons (ps_set (i := 4) sc__law_owed.nd rfl (.inl rfl) (pe_tup (pa_cons pe_str (pa_cons pe_int pa_nil))))
      (pss_cons (ps_for PassesOwn.never rfl (plist' (K := K) rfl (pe_callB (id := "sorted") (srtZ' (w := w) rfl rfl) (by rfl) T.b_sorted (by decide +kernel) (pa_cons (pe_callTy (T := "set") (setI' (K := K) (w := w) rfl rfl rfl) (by rfl) T.b_set (by decide +kernel) (pa_cons (pe_lc (own := [("stamp", 8)]) rfl sc__law_owed.nd (plist' (K := K) rfl (pv 0)) (blkOk_by (own := [("stamp", 8)]) (N := ["stamps", "plan", "most", "found", "state", "minute", "least", "begin", "stamp"]) (sc := defScope s__law_owed) (by decide +kernel)) (fun _ _ _ _ _ => (pg_name (i := 8) sc__law_owed.nd rfl (.inl rfl))) (fun _ _ _ _ _ => pts_nil) (fun _ _ _ _ _ => (pe_ix (ixt' (K := K) rfl) (pv 8) pe_int (fun _ _ => rfl)))) pa_nil)) pa_nil))) (pg_name (i := 5) sc__law_owed.nd rfl (.inl rfl))
      (C8.pss_cut (ps_if (pt_cmpR (ind' (K := K) (room65 hr) rfl) (pe_tup (pa_cons pe_str (pa_cons (pv 5) pa_nil))) (pv 0) rfl)
      (C8.pss_cut (ps_if (PW.pt (pw_and (pt_cmpR op_eq (pe_ix (ixt' (K := K) rfl) (pv 4) pe_int (fun _ _ => rfl)) pe_str (nomark _)) (pw_and1 (pt_cmpR op_lt (pe_op op_sub (pv 5) (pe_ix (ixt' (K := K) rfl) (pv 4) pe_int (fun _ _ => rfl))) pe_int (nomark _)))))
      (pss_one (ps_expr (pe_bm PySem.F.plainAttrs_list PySem.F.slot_list_append PySem.F.type_list_append mt_append (pv 3) (pa_cons (pe_tup (pa_cons (pe_ix (ixt' (K := K) rfl) (pv 4) pe_int (fun _ _ => rfl)) (pa_cons (pv 5) (pa_cons pe_str pa_nil)))) pa_nil))))
      (pss_cons (ps_set (i := 6) sc__law_owed.nd rfl (.inl rfl) (pe_ix (ixt' (K := K) rfl) (pv 4) pe_int (fun _ _ => rfl)))
      (C8.pss_cut (ps_if (pt_cmpR op_eq (pe_ix (ixt' (K := K) rfl) (pv 4) pe_int (fun _ _ => rfl)) pe_str (nomark _))
      (pss_cons (ps_set (i := 6) sc__law_owed.nd rfl (.inl rfl) (pe_call G__law_end (hr.mono (by first | decide | omega | (simp only [Nat.add_eq, Nat.succ_eq_add_one]; omega))) rfl m__law_end k__law_end b__law_end .nil pass0 (pa_cons (pv 1) (pa_cons (pv 2) (pa_cons (pe_ix (ixt' (K := K) rfl) (pv 4) pe_int (fun _ _ => rfl)) pa_nil)))))
      (pss_one (ps_expr (pe_bm PySem.F.plainAttrs_list PySem.F.slot_list_append PySem.F.type_list_append mt_append (pv 3) (pa_cons (pe_tup (pa_cons (pe_ix (ixt' (K := K) rfl) (pv 4) pe_int (fun _ _ => rfl)) (pa_cons (pv 6) (pa_cons pe_str pa_nil)))) pa_nil)))))
      pss_nil)
      (pss_cons (ps_set (i := 7) sc__law_owed.nd rfl (.inl rfl) (pe_callB (id := "max") (call_max2 rfl) (by rfl) T.b_max (by decide +kernel) (pa_cons (pv 6) (pa_cons (pe_call G__law_begin (hr.mono (by first | decide | omega | (simp only [Nat.add_eq, Nat.succ_eq_add_one]; omega))) rfl m__law_begin k__law_begin b__law_begin .nil pass0 (pa_cons (pv 1) (pa_cons (pv 2) (pa_cons (pv 5) pa_nil)))) pa_nil))))
      (pss_one (ps_if (pt_cmpR op_lt (pv 7) (pv 5) (nomark _))
      (pss_one (ps_expr (pe_bm PySem.F.plainAttrs_list PySem.F.slot_list_append PySem.F.type_list_append mt_append (pv 3) (pa_cons (pe_tup (pa_cons (pv 7) (pa_cons (pv 5) (pa_cons pe_str pa_nil)))) pa_nil))))
      pss_nil))))))
      (pss_one (ps_set (i := 4) sc__law_owed.nd rfl (.inl rfl) (pe_tup (pa_cons pe_str (pa_cons (pv 5) pa_nil))))))
      pss_nil)
      (pss_one (ps_if (pt_cmpR (ind' (K := K) (room65 hr) rfl) (pe_tup (pa_cons pe_str (pa_cons (pv 5) pa_nil))) (pv 0) rfl)
      (C8.pss_cut (ps_if (pt_cmpR op_eq (pe_ix (ixt' (K := K) rfl) (pv 4) pe_int (fun _ _ => rfl)) pe_str (nomark _))
      (pss_one (ps_expr (pe_bm PySem.F.plainAttrs_list PySem.F.slot_list_append PySem.F.type_list_append mt_append (pv 3) (pa_cons (pe_tup (pa_cons (pe_ix (ixt' (K := K) rfl) (pv 4) pe_int (fun _ _ => rfl)) (pa_cons (pe_callB (id := "min") (call_min2 rfl) (by rfl) T.b_min (by decide +kernel) (pa_cons (pv 5) (pa_cons (pe_call G__law_end (hr.mono (by first | decide | omega | (simp only [Nat.add_eq, Nat.succ_eq_add_one]; omega))) rfl m__law_end k__law_end b__law_end .nil pass0 (pa_cons (pv 1) (pa_cons (pv 2) (pa_cons (pe_ix (ixt' (K := K) rfl) (pv 4) pe_int (fun _ _ => rfl)) pa_nil)))) pa_nil))) (pa_cons pe_str pa_nil)))) pa_nil))))
      pss_nil)
      (pss_one (ps_set (i := 4) sc__law_owed.nd rfl (.inl rfl) (pe_tup (pa_cons pe_str (pa_cons (pv 5) pa_nil))))))
      pss_nil))))
      (C8.pss_cut (ps_if (pt_cmpR op_eq (pe_ix (ixt' (K := K) rfl) (pv 4) pe_int (fun _ _ => rfl)) pe_str (nomark _))
      (pss_one (ps_expr (pe_bm PySem.F.plainAttrs_list PySem.F.slot_list_append PySem.F.type_list_append mt_append (pv 3) (pa_cons (pe_tup (pa_cons (pe_ix (ixt' (K := K) rfl) (pv 4) pe_int (fun _ _ => rfl)) (pa_cons (pe_call G__law_end (hr.mono (by first | decide | omega | (simp only [Nat.add_eq, Nat.succ_eq_add_one]; omega))) rfl m__law_end k__law_end b__law_end .nil pass0 (pa_cons (pv 1) (pa_cons (pv 2) (pa_cons (pe_ix (ixt' (K := K) rfl) (pv 4) pe_int (fun _ _ => rfl)) pa_nil)))) (pa_cons pe_str pa_nil)))) pa_nil))))
      pss_nil)
      (pss_one (ps_ret (pv 3))))))), ?_⟩
  try dsimp only [cxOf, Cx.nox, Cx.wish, Cx.blk]
  refine enterP hB hd (Nat.le_of_ble_eq_true rfl) ?_
  show Nx _ [.d (.list (ss.map stD)), .d (encPlan p), .d (.int M), .any, .any, .any, .any, .any, .any] _
  walk_at "dl"
  rename_i pf
  refine nx_forLi ?_
  walk_at "dl"
  refine eo_lcL (fun i acc G => acc = ((ss.take i).map (·.2)).map PyData.int ∧ G = [.d (.list (ss.map stD)), .d (encPlan p), .d (.int M), .own pf [], .d (.tuple [.str "out", .int 0]), .any, .any, .any, .any]) ?_
  walk_at "dl"
  refine ⟨_, rfl, by rw [List.length_map]; omega, gw_name (by decide), ⟨rfl, rfl⟩, ?_, ?_⟩
  · rintro i v acc _ hv ⟨rfl, rfl⟩ _ B' D ws hB'
    obtain ⟨q, hq, rfl⟩ := st_get hv
    walk_at "dl"
    exact ⟨by rw [take_on (fun q : Str × Int => q.2) hq, List.map_append]; rfl, rfl⟩
  rintro acc _ ⟨rfl, rfl⟩
  rw [List.length_map, List.take_length]
  refine ⟨ss.map (·.2), rfl, by rw [List.length_map]; omega, ?_⟩
  refine ⟨by rw [List.length_map]; omega, fun ms z1 z2 => ?_⟩
  have zl : ms.length ≤ 60 := by
    have z := nodup_len (z1.imp (fun h => Int.ne_of_lt h)) fun j hj => (z2 j).mp hj
    rw [List.length_map] at z
    omega
  have k := k _ (turns_of (fun q hq => (hw q hq).1) z1 z2)
  refine ⟨_, rfl, fun i G => ∃ w, w = walkW p M ((ms.take i).flatMap (T2 ss)) ∧ WsOk w ∧ w.found.length ≤ 3 * i ∧ G = [.d (.list (ss.map stD)), .d (encPlan p), .d (.int M), .own pf (w.found.map wdD), .d (stW w), .any, .any, .any, .any], ⟨_, rfl, (fun h => nomatch h), Nat.le_refl _, rfl⟩, ?_, ?_⟩
  · rintro B' hB' i x _ hx ⟨w, ew, hok, hwl, rfl⟩
    obtain ⟨m, hm, rfl⟩ := zs_get hx
    obtain ⟨q, hq, em⟩ := List.mem_map.mp ((z2 m).mp (List.mem_of_getElem? hm))
    obtain ⟨m0, m1⟩ := (hw q hq).2
    rw [em] at m0 m1
    have hi := (List.getElem?_eq_some_iff.mp hm).1
    have et : (ms.take (i + 1)).flatMap (T2 ss) = (ms.take i).flatMap (T2 ss) ++ T2 ss m := by
      rw [List.take_add_one, hm, List.flatMap_append]
      show _ ++ ([m].flatMap (T2 ss)) = _
      rw [List.flatMap_cons, List.flatMap_nil, List.append_nil]
    have shp : ∀ z : Str, (z = "in" ∨ z = "out") → SeqAt.shaped (PyData.tuple [.str z, .int m]) = true := fun z hz => (lay_st (n := 0) (q := (z, m)) hz).shaped (by decide)
    have shl : SeqAt.shaped (PyData.list (ss.map stD)) = true := (lay_list (n := 1) fun x hx => by
      obtain ⟨s, hs, rfl⟩ := List.mem_map.mp hx
      exact lay_st (hw s hs).1).shaped (by decide)
    have lg := goW_len p M w m
    have lv := leaveW_len p M w
    walk_at "dl1"
    refine nx_cut (fun G => ∃ w1, w1 = (if (("out" : Str), m) ∈ ss then goW p M w m else w) ∧ WsOk w1 ∧ w1.found.length ≤ 3 * i + 2 ∧ G = [.d (.list (ss.map stD)), .d (encPlan p), .d (.int M), .own pf (w1.found.map wdD), .d (stW w1), .d (.int m), .any, .any, .any]) ?_ ?_
    · obtain ⟨fd, ins, si⟩ := w
      dsimp only at hwl
      cases ins with
      | true =>
        obtain ⟨s0, s1⟩ := hok rfl
        dsimp only at s0 s1
        rw [show stW ⟨fd, true, si⟩ = .tuple [.str "in", .int si] from rfl]
        walk_at "dl"
        refine rk_inDD ⟨_, rfl, shp "out" (.inr rfl), shl, ?_⟩
        rw [show PyData.tuple [.str "out", .int m] = stD ("out", m) from rfl, any_st]
        walk_at "dl"
        · rename_i ho
          refine nx_cutS ?_
          walk_at "dl"
          · rename_i q1 q2
            have eg : goW p M ⟨fd, true, si⟩ m = ⟨fd ++ [(si, m, ("told" : Str))], false, m⟩ := by unfold goW; exact if_pos ⟨rfl, by dsimp only; omega⟩
            exact nx_inv ⟨⟨fd ++ [(si, m, ("told" : Str))], false, m⟩, by rw [if_pos ho, eg], (fun h => nomatch h), by dsimp only; simp only [List.length_append, List.length_cons, List.length_nil]; omega, by rw [List.map_append]; rfl⟩
          rename_i q1 q2
          refine nx_cutS ?_
          walk_at "dl"
          refine ⟨p, M, si, rfl, hp, s0, s1, ?_⟩
          walk_at "dl"
          refine ⟨p, M, m, rfl, hp, m0, m1, hM, ?_⟩
          have eg : goW p M ⟨fd, true, si⟩ m = ⟨if (if gBegin p M m > gEnd p M si then gBegin p M m else gEnd p M si) < m then (fd ++ [(si, gEnd p M si, ("end" : Str))]) ++ [(if gBegin p M m > gEnd p M si then gBegin p M m else gEnd p M si, m, ("begin" : Str))] else fd ++ [(si, gEnd p M si, ("end" : Str))], false, m⟩ := by
            have el : leaveW p M ⟨fd, true, si⟩ = ⟨fd ++ [(si, gEnd p M si, ("end" : Str))], false, gEnd p M si⟩ := if_pos rfl
            have eb : begW p M ⟨fd ++ [(si, gEnd p M si, ("end" : Str))], false, gEnd p M si⟩ m = (if gBegin p M m > gEnd p M si then gBegin p M m else gEnd p M si) := by
              unfold begW
              dsimp only
              split <;> split <;> omega
            unfold goW
            rw [if_neg (fun h => by have := h.2; dsimp only at this; omega), el, eb]
          generalize gEnd p M si = E at *
          generalize gBegin p M m = Bg at *
          walk_at "dl"
          · rename_i hb
            refine nx_wipe [6, 7] ?_
            refine nx_inv ⟨⟨(fd ++ [(si, E, ("end" : Str))]) ++ [(if Bg > E then Bg else E, m, ("begin" : Str))], false, m⟩, ?_, (fun h => nomatch h), by dsimp only; simp only [List.length_append, List.length_cons, List.length_nil]; omega, by rw [List.map_append, List.map_append]; rfl⟩
            rw [if_pos ho, eg]
            congr 1
            exact (if_pos hb).symm
          · rename_i hb
            refine nx_wipe [6, 7] ?_
            refine nx_inv ⟨⟨(fd ++ [(si, E, ("end" : Str))]), false, m⟩, ?_, (fun h => nomatch h), by dsimp only; (try simp only [List.length_append, List.length_cons, List.length_nil]); omega, by (try rw [List.map_append]); rfl⟩
            rw [if_pos ho, eg]
            congr 1
            exact (if_neg (Int.not_lt.mpr hb)).symm
        · rename_i ho
          exact nx_inv ⟨_, (if_neg ho).symm, fun _ => ⟨s0, s1⟩, by dsimp only; omega, rfl⟩
      | false =>
        rw [show stW ⟨fd, false, si⟩ = .tuple [.str "out", .int si] from rfl]
        walk_at "dl"
        refine rk_inDD ⟨_, rfl, shp "out" (.inr rfl), shl, ?_⟩
        rw [show PyData.tuple [.str "out", .int m] = stD ("out", m) from rfl, any_st]
        walk_at "dl"
        · rename_i ho
          refine nx_cutS ?_
          walk_at "dl"
          rename_i q1 q2
          refine nx_cutS ?_
          walk_at "dl"
          refine ⟨p, M, m, rfl, hp, m0, m1, hM, ?_⟩
          have eg : goW p M ⟨fd, false, si⟩ m = ⟨if (if gBegin p M m > si then gBegin p M m else si) < m then fd ++ [(if gBegin p M m > si then gBegin p M m else si, m, ("begin" : Str))] else fd, false, m⟩ := by
            have el : leaveW p M ⟨fd, false, si⟩ = ⟨fd, false, si⟩ := rfl
            have eb : begW p M ⟨fd, false, si⟩ m = (if gBegin p M m > si then gBegin p M m else si) := by
              unfold begW
              dsimp only
              split <;> split <;> omega
            unfold goW
            rw [if_neg (fun h => nomatch h.1), el, eb]
          generalize gBegin p M m = Bg at *
          walk_at "dl"
          · rename_i hb
            refine nx_wipe [6, 7] ?_
            refine nx_inv ⟨⟨fd ++ [(if Bg > si then Bg else si, m, ("begin" : Str))], false, m⟩, ?_, (fun h => nomatch h), by dsimp only; simp only [List.length_append, List.length_cons, List.length_nil]; omega, by rw [List.map_append]; rfl⟩
            rw [if_pos ho, eg]
            congr 1
            exact (if_pos hb).symm
          · rename_i hb
            refine nx_wipe [6, 7] ?_
            refine nx_inv ⟨⟨fd, false, m⟩, ?_, (fun h => nomatch h), by dsimp only; (try simp only [List.length_append, List.length_cons, List.length_nil]); omega, by (try rw [List.map_append]); rfl⟩
            rw [if_pos ho, eg]
            congr 1
            exact (if_neg (Int.not_lt.mpr hb)).symm
        · rename_i ho
          exact nx_inv ⟨_, (if_neg ho).symm, (fun h => nomatch h), by dsimp only; omega, rfl⟩
    rintro _ ⟨w1, ew1, hok1, hwl1, rfl⟩
    have cl1 := comeW_len p M w1 m
    walk_at "dl"
    refine rk_inDD ⟨_, rfl, shp "in" (.inl rfl), shl, ?_⟩
    rw [show PyData.tuple [.str "in", .int m] = stD ("in", m) from rfl, any_st]
    walk_at "dl"
    · rename_i hin
      have e2 : ∀ fd ins si, w1 = ⟨fd, ins, si⟩ → comeW p M ⟨fd, ins, si⟩ m = walkW p M ((ms.take (i + 1)).flatMap (T2 ss)) := fun fd ins si ez => by
        rw [et, walkW_app, ← ew, fold_T2, if_pos hin, ← ew1, ez]
      obtain ⟨fd, ins, si⟩ := w1
      have e2 := e2 fd ins si rfl
      dsimp only at hwl1
      cases ins with
      | true =>
        obtain ⟨s0, s1⟩ := hok1 rfl
        dsimp only at s0 s1
        rw [show stW ⟨fd, true, si⟩ = .tuple [.str "in", .int si] from rfl]
        refine nx_cutS ?_
        walk_at "dl"
        refine ⟨p, M, si, rfl, hp, s0, s1, ?_⟩
        walk_at "dl"
        refine nx_wipe [5] ?_
        have eg : comeW p M ⟨fd, true, si⟩ m = ⟨fd ++ [(si, if gEnd p M si < m then gEnd p M si else m, ("end" : Str))], true, m⟩ := by
          unfold comeW
          rw [if_pos rfl]
          dsimp only
          have : (if m < gEnd p M si then m else gEnd p M si) = (if gEnd p M si < m then gEnd p M si else m) := by split <;> split <;> omega
          rw [this]
        exact nx_inv ⟨⟨fd ++ [(si, if gEnd p M si < m then gEnd p M si else m, ("end" : Str))], true, m⟩, eg.symm.trans e2, fun _ => ⟨m0, m1⟩, by dsimp only; simp only [List.length_append, List.length_cons, List.length_nil]; omega, by rw [List.map_append]; rfl⟩
      | false =>
        rw [show stW ⟨fd, false, si⟩ = .tuple [.str "out", .int si] from rfl]
        refine nx_cutS ?_
        walk_at "dl"
        refine nx_wipe [5] ?_
        exact nx_inv ⟨⟨fd, true, m⟩, e2, fun _ => ⟨m0, m1⟩, by dsimp only; omega, rfl⟩
    · rename_i hin
      refine nx_wipe [5] ?_
      exact nx_inv ⟨w1, by rw [et, walkW_app, ← ew, fold_T2, if_neg hin, ← ew1], hok1, by omega, rfl⟩
  rintro _ ⟨w, ew, hok, hwl, rfl⟩
  rw [List.length_map, List.take_length] at ew
  rw [List.length_map] at hwl
  unfold stretchesW at k
  rw [← ew] at k
  obtain ⟨fd, ins, si⟩ := w
  dsimp only at hwl
  cases ins with
  | true =>
    obtain ⟨s0, s1⟩ := hok rfl
    dsimp only at s0 s1
    rw [show stW ⟨fd, true, si⟩ = .tuple [.str "in", .int si] from rfl]
    refine nx_cutS ?_
    walk_at "dl"
    refine ⟨p, M, si, rfl, hp, s0, s1, ?_⟩
    walk_at "dl"
    have e : (leaveW p M ⟨fd, true, si⟩).found.map wdD = fd.map wdD ++ [wdD (si, gEnd p M si, ("end" : Str))] := by
      rw [show leaveW p M ⟨fd, true, si⟩ = ⟨fd ++ [(si, gEnd p M si, ("end" : Str))], false, gEnd p M si⟩ from if_pos rfl]
      exact List.map_append
    rw [e] at k
    exact RT k
  | false =>
    rw [show stW ⟨fd, false, si⟩ = .tuple [.str "out", .int si] from rfl]
    refine nx_cutS ?_
    walk_at "dl"
    exact RT k
def StOk (q : Str × Int) : Prop := (q.1 = "in" ∨ q.1 = "out") ∧ 0 ≤ q.2 ∧ q.2 ≤ 999999359
theorem snocSt (ss : List (Str × Int)) (q : Str × Int) : ss.map stD ++ [stD q] = (ss ++ [q]).map stD := by rw [List.map_append]; rfl
def T_stamps : Trs := fun xs κ => ∃ (p : Plan) (n : Int), xs = [encPlan p, .int n] ∧ PlanOk p ∧ 0 ≤ n ∧ n ≤ 694443 ∧ ∀ ss : List (Str × Int), ss.length ≤ 48 → (∀ q ∈ ss, StOk q) → κ (ss.map stD)
theorem ok__law_stamps (T : Tx K mg) : OkD P w K mg base "_law_stamps" 3 ["feed", "plan", "near"] (spFO K 2 300 T_stamps) := by
  obtain ⟨f__law_shifts_on, fd__law_shifts_on, m__law_shifts_on, k__law_shifts_on, b__law_shifts_on, G__law_shifts_on⟩ := ok__law_shifts_on (P := P) (w := w) (base := base) T
  obtain ⟨f__law_draw, fd__law_draw, m__law_draw, k__law_draw, b__law_draw, G__law_draw⟩ := ok__law_draw (P := P) (w := w) (base := base) T
  obtain ⟨f__law_of, fd__law_of, m__law_of, k__law_of, b__law_of, G__law_of⟩ := ok__law_of (P := P) (w := w) (base := base) T
  obtain ⟨f, fd, F, hm, hb⟩ := T.f__law_stamps
  refine ⟨f, fd, hm, F.kp, hb, F.ok sc__law_stamps (fun vs H Q E h => spFO_len h) (fun cdv A_ outer s H vs Q E hr h => ?_)⟩
  obtain ⟨f0, us, B, xs, κ, A, rfl, hB, hf, hA, hd, hn, hT, hq⟩ := h
  have RT : ∀ {G x A'}, G[0]? = some (Sl.fd f0 A') → A' ≤ A + _ → κ x → RtO (frF K B H f0) G x Q := fun hG hA k => rtFO hB hq hG hA k
  have hlim : lim = 1099511627776 := rfl
  obtain ⟨p, n, rfl, hp, n0, n1, k⟩ := hT
  refine ⟨_, (pss_cons (ps_set (i := 3) sc__law_stamps.nd rfl (.inl rfl) (pe_lst pa_nil))
      (pss_cons (ps_for PassesOwn.never rfl (pi_range2 rfl T.b_range (pa_cons (pe_callB (id := "max") (call_max2 rfl) (by rfl) T.b_max (by decide +kernel) (pa_cons pe_int (pa_cons (pe_op op_sub (pv 2) pe_int) pa_nil))) (pa_cons (pe_callB (id := "min") (call_min2 rfl) (by rfl) T.b_min (by decide +kernel) (pa_cons pe_int (pa_cons (pe_op op_add (pv 2) pe_int) pa_nil))) pa_nil))) (pg_name (i := 4) sc__law_stamps.nd rfl (.inl rfl))
      (pss_one (ps_for PassesOwn.never rfl (plist' (K := K) rfl (pe_call G__law_shifts_on (hr.mono (by first | decide | omega | (simp only [Nat.add_eq, Nat.succ_eq_add_one]; omega))) rfl m__law_shifts_on k__law_shifts_on b__law_shifts_on .nil pass0 (pa_cons (pv 1) (pa_cons (pv 4) pa_nil)))) (pg_name (i := 5) sc__law_stamps.nd rfl (.inl rfl))
      (pss_one (ps_set (i := 3) sc__law_stamps.nd rfl (.inl rfl) (pe_op op_cat (pv 3) (pe_lst (pa_cons (pe_ix (ixt' (K := K) rfl) (pv 5) pe_int (fun _ _ => rfl)) (pa_cons (pe_ix (ixt' (K := K) rfl) (pv 5) pe_int (fun _ _ => rfl)) pa_nil)))))))))
      (pss_cons (ps_set (i := 6) sc__law_stamps.nd rfl (.inl rfl) (pe_op op_add (pe_op op_mul pe_int (pv 2)) (pe_call G__law_draw (hr.mono (by first | decide | omega | (simp only [Nat.add_eq, Nat.succ_eq_add_one]; omega))) rfl m__law_draw k__law_draw b__law_draw .nil pass0 (pa_cons (pv 0) (pa_cons pe_int pa_nil)))))
      (pss_cons (ps_own (ps_set (i := 7) sc__law_stamps.nd rfl (.inl rfl) (pe_lst pa_nil)))
      (pss_cons (ps_for PassesOwn.never rfl (pi_range1 rfl T.b_range (pa_cons (pe_call G__law_draw (hr.mono (by first | decide | omega | (simp only [Nat.add_eq, Nat.succ_eq_add_one]; omega))) rfl m__law_draw k__law_draw b__law_draw .nil pass0 (pa_cons (pv 0) (pa_cons pe_int pa_nil))) pa_nil)) (pg_name (i := 8) sc__law_stamps.nd rfl (.inl rfl))
      (pss_cons (ps_set (i := 6) sc__law_stamps.nd rfl (.inl rfl) (pe_op op_add (pv 6) (pe_call G__law_of (hr.mono (by first | decide | omega | (simp only [Nat.add_eq, Nat.succ_eq_add_one]; omega))) rfl m__law_of k__law_of b__law_of .nil pass0 (pa_cons (pv 0) (pa_cons (pe_lst (pa_cons pe_int (pa_cons pe_int (pa_cons pe_int (pa_cons pe_int (pa_cons pe_int (pa_cons pe_int (pa_cons pe_int (pa_cons (pe_op op_add pe_int (pe_call G__law_draw (hr.mono (by first | decide | omega | (simp only [Nat.add_eq, Nat.succ_eq_add_one]; omega))) rfl m__law_draw k__law_draw b__law_draw .nil pass0 (pa_cons (pv 0) (pa_cons pe_int pa_nil)))) pa_nil))))))))) pa_nil)))))
      (pss_cons (ps_set (i := 9) sc__law_stamps.nd rfl (.inl rfl) (pv 6))
      (C8.pss_cut (ps_if (PW.pt (pw_and (pt_cmpR (ned' (K := K) hr.units rfl) (pv 3) (pe_lst pa_nil) (nomark _)) (pw_and1 (pt_cmpR op_eq (pe_call G__law_draw (hr.mono (by first | decide | omega | (simp only [Nat.add_eq, Nat.succ_eq_add_one]; omega))) rfl m__law_draw k__law_draw b__law_draw .nil pass0 (pa_cons (pv 0) (pa_cons pe_int pa_nil))) pe_int (nomark _)))))
      (pss_one (ps_set (i := 9) sc__law_stamps.nd rfl (.inl rfl) (pe_op op_add (pe_call G__law_of (hr.mono (by first | decide | omega | (simp only [Nat.add_eq, Nat.succ_eq_add_one]; omega))) rfl m__law_of k__law_of b__law_of .nil pass0 (pa_cons (pv 0) (pa_cons (pv 3) pa_nil))) (pe_call G__law_of (hr.mono (by first | decide | omega | (simp only [Nat.add_eq, Nat.succ_eq_add_one]; omega))) rfl m__law_of k__law_of b__law_of .nil pass0 (pa_cons (pv 0) (pa_cons (pe_lst (pa_cons pe_int (pa_cons pe_int (pa_cons pe_int (pa_cons (pe_un un_neg pe_int) pa_nil))))) pa_nil))))))
      pss_nil)
      (pss_cons (ps_set (i := 9) sc__law_stamps.nd rfl (.inl rfl) (pe_callB (id := "max") (call_max2 rfl) (by rfl) T.b_max (by decide +kernel) (pa_cons pe_int (pa_cons (pe_callB (id := "min") (call_min2 rfl) (by rfl) T.b_min (by decide +kernel) (pa_cons pe_int (pa_cons (pv 9) pa_nil))) pa_nil))))
      (pss_cons (ps_expr (pe_bm PySem.F.plainAttrs_list PySem.F.slot_list_append PySem.F.type_list_append mt_append (pv 7) (pa_cons (pe_tup (pa_cons (pe_call G__law_of (hr.mono (by first | decide | omega | (simp only [Nat.add_eq, Nat.succ_eq_add_one]; omega))) rfl m__law_of k__law_of b__law_of .nil pass0 (pa_cons (pv 0) (pa_cons (pe_lst (pa_cons pe_str (pa_cons pe_str pa_nil))) pa_nil))) (pa_cons (pv 9) pa_nil))) pa_nil)))
      (pss_one (ps_if (pt_cmpR op_eq (pe_call G__law_draw (hr.mono (by first | decide | omega | (simp only [Nat.add_eq, Nat.succ_eq_add_one]; omega))) rfl m__law_draw k__law_draw b__law_draw .nil pass0 (pa_cons (pv 0) (pa_cons pe_int pa_nil))) pe_int (nomark _))
      (pss_one (ps_expr (pe_bm PySem.F.plainAttrs_list PySem.F.slot_list_append PySem.F.type_list_append mt_append (pv 7) (pa_cons (pe_tup (pa_cons (pe_call G__law_of (hr.mono (by first | decide | omega | (simp only [Nat.add_eq, Nat.succ_eq_add_one]; omega))) rfl m__law_of k__law_of b__law_of .nil pass0 (pa_cons (pv 0) (pa_cons (pe_lst (pa_cons pe_str (pa_cons pe_str pa_nil))) pa_nil))) (pa_cons (pv 9) pa_nil))) pa_nil))))
      pss_nil))))))))
      (pss_one (ps_ret (pv 7)))))))), ?_⟩
  try dsimp only [cxOf, Cx.nox, Cx.wish, Cx.blk]
  refine enterF hB hf hd (Nat.le_of_ble_eq_true rfl) ?_
  show Nx _ [.fd f0 A, .d (encPlan p), .d (.int n), .any, .any, .any, .any, .any, .any, .any] _
  walk_at "dl"
  obtain ⟨lo, hlo⟩ : ∃ lo : Int, (if n - 3 > 0 then n - 3 else 0) = lo := ⟨_, rfl⟩
  obtain ⟨hi, hhi⟩ : ∃ hi : Int, (if n + 4 < 694444 then n + 4 else 694444) = hi := ⟨_, rfl⟩
  have l0 : 0 ≤ lo ∧ n - 3 ≤ lo := by rw [← hlo]; split <;> omega
  have h0 : hi ≤ 694444 ∧ hi ≤ n + 4 := by rw [← hhi]; split <;> omega
  refine nx_forR2 (fun i G => ∃ bs : List Int, bs.length ≤ 126 * i ∧ (∀ b ∈ bs, 0 ≤ b ∧ b ≤ 1000010000) ∧ G = [.fd f0 A, .d (encPlan p), .d (.int n), .d (.list (bs.map .int)), .any, .any, .any, .any, .any, .any]) ?_
  walk_at "dl"
  rw [hlo, hhi]
  refine ⟨_, _, rfl, ⟨by omega, by omega, by omega, by omega⟩, ⟨[], Nat.le_refl _, (fun t ht => nomatch ht), rfl⟩, ?_, ?_⟩
  · rintro i _ hi' ⟨bs, hl, hb, rfl⟩
    walk_at "dl"
    refine nx_forLi ?_
    walk_at "dl"
    refine ⟨p, lo + i, rfl, hp, by omega, by omega, ?_⟩
    have hs := sh_len hp (lo + i)
    refine ⟨_, rfl, fun j G => ∃ bs2 : List Int, bs2.length ≤ 126 * i + 2 * j ∧ (∀ b ∈ bs2, 0 ≤ b ∧ b ≤ 1000010000) ∧ G = [.fd f0 A, .d (encPlan p), .d (.int n), .d (.list (bs2.map .int)), .d (.int (lo + i)), .any, .any, .any, .any, .any], ⟨bs, by omega, hb, rfl⟩, ?_, ?_⟩
    · rintro B3 hB3 j x _ hx ⟨bs2, hl2, hb2, rfl⟩
      obtain ⟨s, hs', rfl⟩ := encL_get hx
      have hj := (List.getElem?_eq_some_iff.mp hs').1
      have a := sh_in hp (List.mem_of_getElem? hs')
      walk_at "dl"
      rw [show [PyData.int s.1, .int s.2] = [s.1, s.2].map PyData.int from rfl, ← List.map_append]
      refine nx_wipe [5] ?_
      refine nx_inv ⟨bs2 ++ [s.1, s.2], by rw [List.length_append]; show _ + 2 ≤ _; omega, fun b hb' => ?_, rfl⟩
      rcases List.mem_append.mp hb' with h | h
      · exact hb2 b h
      · simp only [List.mem_cons, List.not_mem_nil, or_false] at h
        rcases h with rfl | rfl <;> omega
    rintro _ ⟨bs2, hl2, hb2, rfl⟩
    rw [encL_len] at hl2
    walk_at "dl"
    refine nx_wipe [4] ?_
    exact nx_inv ⟨bs2, by omega, hb2, rfl⟩
  rintro _ ⟨bs, hl, hb, rfl⟩
  have hl7 : bs.length ≤ 900 := by omega
  walk_at "dl"
  rename_i h0r hr0 hr1 pf
  refine nx_forR (fun i G => ∃ (here : Int) (A' : Nat) (ss : List (Str × Int)), 0 ≤ here ∧ here ≤ 1000001440 + 3001 * i ∧ A' ≤ A + 2 + 12 * i ∧ ss.length ≤ 2 * i ∧ (∀ q ∈ ss, StOk q) ∧ G = [.fd f0 A', .d (encPlan p), .d (.int n), .d (.list (bs.map .int)), .any, .any, .d (.int here), .own pf (ss.map stD), .any, .any]) ?_
  walk_at "dl"
  rename_i r r0 r1
  refine ⟨_, rfl, by omega, by omega, ⟨_, _, [], by omega, by omega, by omega, Nat.le_refl _, (fun q hq => nomatch hq), rfl⟩, ?_, ?_⟩
  · rintro i _ hi' ⟨here, A', ss, he0, he1, hA', hsl, hok, rfl⟩
    walk_at "dl"
    rename_i d d0 d1 c hc
    have hc' : 0 ≤ c ∧ c ≤ 3001 := by omega
    clear hc
    refine nx_cut (fun G => ∃ (x : Int) (A2 : Nat), A2 ≤ A' + 6 ∧ G = [.fd f0 A2, .d (encPlan p), .d (.int n), .d (.list (bs.map .int)), .any, .any, .d (.int (here + c)), .own pf (ss.map stD), .d (.int i), .d (.int x)]) ?_ ?_
    · walk_at "dl"
      refine rk_neD ((lay_list (n := 0) lay_ints).shaped (by decide)) ((lay_list (n := 0) fun x hx => by cases hx).shaped (by decide)) ?_
      rw [eqv_nil]
      walk_at "dl1"
      refine ⟨fun hc => ?_, fun hc => ?_⟩
      · have h0 : 1 ≤ (bs.map PyData.int).length := by
          cases bs with
          | nil => exact absurd hc (by simp)
          | cons x r => rw [List.map_cons, List.length_cons]; omega
        walk_at "dl"
        · rename_i d hd c2 hc2
          obtain ⟨b, hb', rfl⟩ := List.mem_map.mp hd
          walk_at "dl"
          exact nx_inv ⟨_, _, by omega, rfl⟩
        all_goals exact nx_inv ⟨_, _, by omega, rfl⟩
      · walk_at "dl"
        all_goals exact nx_inv ⟨_, _, by omega, rfl⟩
    rintro _ ⟨x, A2, hA2, rfl⟩
    walk_at "dl"
    all_goals
      have wd : ∀ d : PyData, d ∈ [PyData.str "in", .str "out"] → ∃ z : Str, d = .str z ∧ (z = "in" ∨ z = "out") := fun d hd => by
        simp only [List.mem_cons, List.not_mem_nil, or_false] at hd
        rcases hd with rfl | rfl
        · exact ⟨_, rfl, .inl rfl⟩
        · exact ⟨_, rfl, .inr rfl⟩
      obtain ⟨y, hy⟩ : ∃ y : Int, (if (if x < 999999359 then x else 999999359) > 0 then (if x < 999999359 then x else 999999359) else 0) = y := ⟨_, rfl⟩
      have y0 : 0 ≤ y ∧ y ≤ 999999359 := by rw [← hy]; (repeat' split) <;> omega
      rw [hy]
    · rename_i d1 hd1 r r0 r1 hc d2 hd2
      obtain ⟨z1, rfl, hz1⟩ := wd d1 hd1
      obtain ⟨z2, rfl, hz2⟩ := wd d2 hd2
      rw [show (ss.map stD ++ [PyData.tuple [.str z1, .int y]]) ++ [PyData.tuple [.str z2, .int y]] = (ss ++ [(z1, y), (z2, y)]).map stD from by rw [List.map_append, List.append_assoc]; rfl]
      refine nx_wipe [8, 9] ?_
      refine nx_inv ⟨_, _, ss ++ [(z1, y), (z2, y)], by omega, by omega, by omega, by rw [List.length_append]; show _ + 2 ≤ _; omega, fun q hq => ?_, rfl⟩
      rcases List.mem_append.mp hq with h | h
      · exact hok q h
      · simp only [List.mem_cons, List.not_mem_nil, or_false] at h
        rcases h with rfl | rfl
        · exact ⟨hz1, y0⟩
        · exact ⟨hz2, y0⟩
    · rename_i d1 hd1 r r0 r1 hc
      obtain ⟨z1, rfl, hz1⟩ := wd d1 hd1
      rw [show ss.map stD ++ [PyData.tuple [.str z1, .int y]] = (ss ++ [(z1, y)]).map stD from snocSt ss (z1, y)]
      refine nx_wipe [8, 9] ?_
      refine nx_inv ⟨_, _, ss ++ [(z1, y)], by omega, by omega, by omega, by rw [List.length_append]; show _ + 1 ≤ _; omega, fun q hq => ?_, rfl⟩
      rcases List.mem_append.mp hq with h | h
      · exact hok q h
      · rw [List.mem_singleton.mp h]; exact ⟨hz1, y0⟩
  rintro _ ⟨here, A', ss, he0, he1, hA', hsl, hok, rfl⟩
  walk_at "dl"
  exact RT rfl (by omega) (k ss (by omega) hok)
local macro_rules | `(tactic| walk_at "dl1") => `(tactic| first
  | ((with_reducible refine ek_reprO (n := 100000) (d := 5) (by decide) (by decide) ?_); (refine ⟨_, _, (show _ = some (Sl.own _ _) from rfl), ?_, ?_⟩))
  | ((with_reducible refine ek_isiO ?_); (refine ⟨_, _, (show _ = some (Sl.own _ _) from rfl), _, (show kitB _ _ = some _ from rfl), ?_⟩))
  | ((with_reducible refine eo_callPz ?_); (with_reducible refine' eaz_own ?h ?_); (case h => exact rfl))
  | (with_reducible refine eaz_cons ?_)
  | (with_reducible refine eaz_nil ?_))
theorem cutD_hi' (ds : List PyData) (a : Nat) : cutD ds (some (a : Int)) none = ds.drop a := by
  unfold cutD
  have e1 : HT.sIx ds.length ds.length none = ds.length := rfl
  have e2 : HT.sIx ds.length 0 (some (a : Int)) = min a ds.length := HT.sIx_nat _ _ a
  rw [e1, e2, List.take_of_length_le (by rw [List.length_drop]; omega)]
  rcases Nat.le_total a ds.length with h | h
  · rw [Nat.min_eq_left h]
  · rw [Nat.min_eq_right h, List.drop_of_length_le (Nat.le_refl _), List.drop_of_length_le h]
theorem cutD_lo' (ds : List PyData) (a : Nat) : cutD ds none (some (a : Int)) = ds.take a := by
  unfold cutD
  have e1 : HT.sIx ds.length 0 none = 0 := rfl
  have e2 : HT.sIx ds.length ds.length (some (a : Int)) = min a ds.length := HT.sIx_nat _ _ a
  rw [e1, e2, List.drop_zero, Nat.sub_zero]
  rcases Nat.le_total a ds.length with h | h
  · rw [Nat.min_eq_left h]
  · rw [Nat.min_eq_right h, List.take_of_length_le (Nat.le_refl _), List.take_of_length_le h]
theorem pk_ok {m : Nat} {p : Plan} (h : Pk m p) (hm : m ≤ 30) : PlanOk p := ⟨⟨h.ust, by have := h.lst; omega, fun r hr => (h.ost r hr).1⟩, ⟨h.usg, by have := h.lsg; omega, fun r hr => (h.osg r hr).1⟩⟩
theorem lay_sts {n : Nat} {ss : List (Str × Int)} (h : ∀ q ∈ ss, StOk q) : lay (n + 2) (.list (ss.map stD)) := lay_list fun x hx => by
  obtain ⟨s, hs, rfl⟩ := List.mem_map.mp hx
  exact lay_st (h s hs).1
theorem ok_law (T : Tx K mg) {f : Addr} {fd : FuncData} (F : Fun K "law" "law" s_law f fd) : FnG P w K mg base CX0 11 f fd ["script"] (spLaw K ) := by
  obtain ⟨f__law_feed, fd__law_feed, m__law_feed, k__law_feed, b__law_feed, G__law_feed⟩ := ok__law_feed (P := P) (w := w) (base := base) T
  obtain ⟨f__law_of, fd__law_of, m__law_of, k__law_of, b__law_of, G__law_of⟩ := ok__law_of (P := P) (w := w) (base := base) T
  obtain ⟨f__law_draw, fd__law_draw, m__law_draw, k__law_draw, b__law_draw, G__law_draw⟩ := ok__law_draw (P := P) (w := w) (base := base) T
  obtain ⟨f__law_plan, fd__law_plan, m__law_plan, k__law_plan, b__law_plan, G__law_plan⟩ := ok__law_plan (P := P) (w := w) (base := base) T
  obtain ⟨f__law_stamps, fd__law_stamps, m__law_stamps, k__law_stamps, b__law_stamps, G__law_stamps⟩ := ok__law_stamps (P := P) (w := w) (base := base) T
  obtain ⟨f_stretches, fd_stretches, m_stretches, k_stretches, b_stretches, G_stretches⟩ := ok_stretches (P := P) (w := w) (base := base) T
  obtain ⟨f__law_owed, fd__law_owed, m__law_owed, k__law_owed, b__law_owed, G__law_owed⟩ := ok__law_owed (P := P) (w := w) (base := base) T
  refine okG F sc_law (fun vs H Q E h => spLaw_len h) (fun cdv A_ outer s H vs Q E hr hgu h => ?_)
  obtain ⟨a, ns, rfl, hS, hns, hq⟩ := h
  have RT : ∀ {G}, Rt (frP K H H) G (.bool true) Q := rtLaw hq
  have hlim : lim = 1099511627776 := rfl
  refine ⟨_, (pss_cons (ps_own (ps_set (i := 1) sc_law.nd rfl (.inr rfl) (pe_call G__law_feed (hr.mono (by first | decide | omega | (simp only [Nat.add_eq, Nat.succ_eq_add_one]; omega))) rfl m__law_feed k__law_feed b__law_feed .nil pass0 (pa_cons (pv 0) pa_nil))))
      (pss_cons (ps_set (i := 2) sc_law.nd rfl (.inl rfl) (pe_call G__law_of (hr.mono (by first | decide | omega | (simp only [Nat.add_eq, Nat.succ_eq_add_one]; omega))) rfl m__law_of k__law_of b__law_of .nil pass0 (pa_cons (pv 1) (pa_cons (pe_lst (pa_cons pe_int (pa_cons pe_int (pa_cons (pe_call G__law_draw (hr.mono (by first | decide | omega | (simp only [Nat.add_eq, Nat.succ_eq_add_one]; omega))) rfl m__law_draw k__law_draw b__law_draw .nil pass0 (pa_cons (pv 1) (pa_cons pe_int pa_nil))) (pa_cons (pe_call G__law_draw (hr.mono (by first | decide | omega | (simp only [Nat.add_eq, Nat.succ_eq_add_one]; omega))) rfl m__law_draw k__law_draw b__law_draw .nil pass0 (pa_cons (pv 1) (pa_cons pe_int pa_nil))) pa_nil))))) pa_nil))))
      (pss_cons (ps_set (i := 3) sc_law.nd rfl (.inl rfl) (pe_lst (pa_cons (pe_call G__law_plan (hr.mono (by first | decide | omega | (simp only [Nat.add_eq, Nat.succ_eq_add_one]; omega))) rfl m__law_plan k__law_plan b__law_plan .nil pass0 (pa_cons (pv 1) (pa_cons (pv 2) pa_nil))) (pa_cons (pe_call G__law_plan (hr.mono (by first | decide | omega | (simp only [Nat.add_eq, Nat.succ_eq_add_one]; omega))) rfl m__law_plan k__law_plan b__law_plan .nil pass0 (pa_cons (pv 1) (pa_cons (pv 2) pa_nil))) pa_nil))))
      (pss_cons (ps_setLc (i := 4) (own := [("turn", 16)]) rfl sc_law.nd rfl rfl (sw_true rfl rfl rfl (by decide +kernel)) (pi_range1 rfl T.b_range (pa_cons pe_int pa_nil)) (blkOk_by (own := [("turn", 16)]) (N := ["script", "feed", "near", "plans", "mosts", "stamps", "cut", "fewer", "first", "some", "kept", "rows", "plan", "most", "handed", "told", "turn"]) (sc := defScope s_law) (by decide +kernel)) (fun _ _ _ _ _ => (pg_name (i := 16) sc_law.nd rfl (.inl rfl))) (fun _ _ _ _ _ => pts_nil) (fun _ _ _ _ _ => (pe_call G__law_of (hr.mono (by first | decide | omega | (simp only [Nat.add_eq, Nat.succ_eq_add_one]; omega))) rfl m__law_of k__law_of b__law_of .nil pass0 (pa_cons (pv 1) (pa_cons (pe_lst (pa_cons pe_int (pa_cons pe_int (pa_cons pe_int (pa_cons (pe_op op_add pe_int (pe_call G__law_draw (hr.mono (by first | decide | omega | (simp only [Nat.add_eq, Nat.succ_eq_add_one]; omega))) rfl m__law_draw k__law_draw b__law_draw .nil pass0 (pa_cons (pv 1) (pa_cons pe_int pa_nil)))) pa_nil))))) pa_nil)))))
      (pss_cons (ps_set (i := 5) sc_law.nd rfl (.inl rfl) (pe_call G__law_stamps (hr.mono (by first | decide | omega | (simp only [Nat.add_eq, Nat.succ_eq_add_one]; omega))) rfl m__law_stamps k__law_stamps b__law_stamps .nil pass0 (pa_cons (pv 1) (pa_cons (pe_ix (ixl' (K := K) rfl) (pv 3) pe_int (fun _ _ => rfl)) (pa_cons (pv 2) pa_nil)))))
      (pss_cons (ps_set (i := 6) sc_law.nd rfl (.inl rfl) (pe_call G__law_draw (hr.mono (by first | decide | omega | (simp only [Nat.add_eq, Nat.succ_eq_add_one]; omega))) rfl m__law_draw k__law_draw b__law_draw .nil pass0 (pa_cons (pv 1) (pa_cons (pe_op op_add (pe_callB (id := "len") (len' (K := K) rfl) (by rfl) T.b_len (by decide +kernel) (pa_cons (pv 5) pa_nil)) pe_int) pa_nil))))
      (pss_cons (ps_set (i := 7) sc_law.nd rfl (.inl rfl) (pe_op op_cat (pe_slice (sll' (K := K) rfl) (pv 5) po_none (po_some (pv 6))) (pe_slice (sll' (K := K) rfl) (pv 5) (po_some (pe_op op_add (pv 6) pe_int)) po_none)))
      (pss_cons (ps_set (i := 8) sc_law.nd rfl (.inl rfl) (pe_tup (pa_cons (pv 5) (pa_cons (pe_ix (ixl' (K := K) rfl) (pv 3) pe_int (fun _ _ => rfl)) (pa_cons (pe_ix (ixl' (K := K) rfl) (pv 4) pe_int (fun _ _ => rfl)) pa_nil)))))
      (pss_cons (ps_set (i := 9) sc_law.nd rfl (.inl rfl) (pe_lst (pa_cons (pv 8) (pa_cons (pe_tup (pa_cons (pv 5) (pa_cons (pe_ix (ixl' (K := K) rfl) (pv 3) pe_int (fun _ _ => rfl)) (pa_cons (pe_ix (ixl' (K := K) rfl) (pv 4) pe_int (fun _ _ => rfl)) pa_nil)))) (pa_cons (pe_tup (pa_cons (pv 5) (pa_cons (pe_ix (ixl' (K := K) rfl) (pv 3) pe_int (fun _ _ => rfl)) (pa_cons (pe_ix (ixl' (K := K) rfl) (pv 4) pe_int (fun _ _ => rfl)) pa_nil)))) (pa_cons (pe_tup (pa_cons (pv 7) (pa_cons (pe_ix (ixl' (K := K) rfl) (pv 3) pe_int (fun _ _ => rfl)) (pa_cons (pe_ix (ixl' (K := K) rfl) (pv 4) pe_int (fun _ _ => rfl)) pa_nil)))) (pa_cons (pv 8) pa_nil)))))))
      (pss_cons (ps_set (i := 10) sc_law.nd rfl (.inl rfl) (pe_callB (id := "repr") (callR' (K := K) rfl hgu hr.units) (by rfl) T.b_repr (by decide +kernel) (pa_cons (pv 3) pa_nil)))
      (pss_cons (ps_for PassesOwn.never rfl (plist' (K := K) rfl (pv 9)) (gtup' (K := K) (n := 3) rfl rfl (pgs_cons (pg_name (i := 11) sc_law.nd rfl (.inl rfl)) (pgs_cons (pg_name (i := 12) sc_law.nd rfl (.inl rfl)) (pgs_cons (pg_name (i := 13) sc_law.nd rfl (.inl rfl)) pgs_nil))))
      (pss_cons (ps_own (ps_set (i := 14) sc_law.nd rfl (.inl rfl) (pe_callTy (T := "list") (lof' (K := K) rfl) (by rfl) T.b_list (by decide +kernel) (pa_cons (pv 11) pa_nil))))
      (pss_cons (ps_own (ps_set (i := 15) sc_law.nd rfl (.inl rfl) (pe_call G_stretches (hr.mono (by first | decide | omega | (simp only [Nat.add_eq, Nat.succ_eq_add_one]; omega))) rfl m_stretches k_stretches b_stretches .nil pass0 (pa_cons (pv 14) (pa_cons (pv 12) (pa_cons (pv 13) pa_nil))))))
      (pss_cons (ps_if (PW.pt (pw_or (pt_not (pt_val (pe_callB (id := "isinstance") (isi' (K := K) rfl) (by rfl) T.b_isinstance (by decide +kernel) (pa_cons (pv 15) (pa_cons (pe_bltn (v := .ty "list") (u := .type "list") (by rfl) T.b_list (by decide +kernel) rfl) pa_nil))))) (pw_or (pt_cmpR op_ne (pe_callB (id := "repr") (callR' (K := K) rfl hgu hr.units) (by rfl) T.b_repr (by decide +kernel) (pa_cons (pv 15) pa_nil)) (pe_callB (id := "repr") (callR' (K := K) rfl hgu hr.units) (by rfl) T.b_repr (by decide +kernel) (pa_cons (pe_call G__law_owed (hr.mono (by first | decide | omega | (simp only [Nat.add_eq, Nat.succ_eq_add_one]; omega))) rfl m__law_owed k__law_owed b__law_owed .nil pass0 (pa_cons (pv 11) (pa_cons (pv 12) (pa_cons (pv 13) pa_nil)))) pa_nil)) (nomark _)) (pw_or1 (pt_cmpR (ned' (K := K) hr.units rfl) (pv 14) (pv 11) (nomark _))))))
      (pss_one (ps_ret pe_bl))
      pss_nil)
      (pss_cons (ps_expr (pe_bm0 PySem.F.plainAttrs_list PySem.F.slot_list_clear PySem.F.type_list_clear mt_clear (pv 15)))
      (pss_one (ps_expr (pe_bm0 PySem.F.plainAttrs_list PySem.F.slot_list_clear PySem.F.type_list_clear mt_clear (pv 14)))))))))
      (pss_one (ps_ret (pe_cmpR op_eq (pe_callB (id := "repr") (callR' (K := K) rfl hgu hr.units) (by rfl) T.b_repr (by decide +kernel) (pa_cons (pv 3) pa_nil)) (pv 10) (nomark _))))))))))))))), ?_⟩
  try dsimp only [cxOf, Cx.nox, Cx.wish, Cx.blk]
  refine enterL (Ex.refl _) hS (Nat.le_of_ble_eq_true rfl) ?_
  show Nx _ [.scr a ns, .any, .any, .any, .any, .any, .any, .any, .any, .any, .any, .any, .any, .any, .any, .any, .any] _
  refine nx_seq ?_
  refine nx_callMk rfl hns (Nat.le_of_ble_eq_true rfl) fun p_ => ?_
  dsimp only
  walk_at "dl"
  rename_i u u0 u1 v v0 v1 near hnear pl1 pk1 pl2 pk2
  have near0 : 0 ≤ near ∧ near ≤ 694443 := by omega
  clear hnear
  refine eo_lcR (fun i acc G => ∃ (ms : List Int) (A' : Nat), ms.length = i ∧ (∀ M ∈ ms, 1 ≤ M ∧ M ≤ 1440) ∧ A' ≤ 900 + 2 * i ∧ acc = ms.map .int ∧ G = [.scr a ns, .fd p_ A', .d (.int near), .d (.list [encPlan pl1, encPlan pl2]), .any, .any, .any, .any, .any, .any, .any, .any, .any, .any, .any, .any, .any]) ?_
  walk_at "dl"
  refine ⟨_, rfl, by decide, by decide, gw_name (by decide), ⟨[], _, rfl, (fun _ h => nomatch h), by omega, rfl, rfl⟩, ?_, ?_⟩
  · rintro i acc _ hi ⟨ms, A', hl, hm, hA', rfl, rfl⟩ _ B' D ws hB'
    walk_at "dl"
    rename_i r r0 r1 c hc
    refine ⟨ms ++ [c], _, by rw [List.length_append, hl]; rfl, fun d h => ?_, by omega, by rw [List.map_append]; rfl, rfl⟩
    rcases List.mem_append.mp h with z | z
    · exact hm d z
    · rw [List.mem_singleton] at z; omega
  rintro acc _ ⟨ms, A', hl, hm, hA', rfl, rfl⟩
  obtain ⟨M1, M2, rfl⟩ : ∃ M1 M2, ms = [M1, M2] := by
    match ms, hl with
    | [a, b], _ => exact ⟨a, b, rfl⟩
  have hM1 := hm M1 List.mem_cons_self
  have hM2 := hm M2 (List.mem_cons_of_mem _ List.mem_cons_self)
  have hA2 : A' ≤ 904 := hA'
  clear hA' hm hl
  have ok1 := pk_ok pk1 (by decide)
  have ok2 := pk_ok pk2 (by decide)
  walk_at "dl"
  refine ⟨pl1, near, rfl, ok1, near0.1, near0.2, fun ss hsl hok => ?_⟩
  walk_at "dl"
  rename_i c c0 c1
  obtain ⟨c, rfl⟩ : ∃ n : Nat, c = n := ⟨c.toNat, by omega⟩
  rw [show ((c : Int) + 1) = ((c + 1 : Nat) : Int) from rfl, cutD_hi', cutD_lo', ← List.map_take, ← List.map_drop]
  refine rk_cat ⟨_, _, rfl, rfl, by rw [List.length_map, List.length_map, List.length_drop, List.length_take]; omega, ?_⟩
  rw [← List.map_append]
  obtain ⟨fw, hfw, fwl, fwo⟩ : ∃ fw : List (Str × Int), ss.take c ++ ss.drop (c + 1) = fw ∧ fw.length ≤ 48 ∧ ∀ q ∈ fw, StOk q := ⟨_, rfl, by rw [List.length_append, List.length_take, List.length_drop]; omega, fun q hq => by
    rcases List.mem_append.mp hq with h | h
    · exact hok q (List.mem_of_mem_take h)
    · exact hok q (List.mem_of_mem_drop h)⟩
  rw [hfw]
  walk_at "dl"
  have s1 := pk_sm pk1 (by decide)
  have s2 := pk_sm pk2 (by decide)
  have sp : Sm 200000 6 (.list [encPlan pl1, encPlan pl2]) := (sm_list (n := 95426) (d := 5) (m := 2) (by
    intro x hx
    simp only [List.mem_cons, List.not_mem_nil, or_false] at hx
    rcases hx with rfl | rfl
    · exact s1
    · exact s2) (Nat.le_refl _)).mono (by decide) (by decide)
  generalize hsh : PyData.shown (.list [encPlan pl1, encPlan pl2]) = kept
  refine ck_reprS (n := 200000) (d := 6) (by decide) (by decide) ⟨_, rfl, sp, ?_⟩
  rw [hsh]
  walk_at "dl"
  refine nx_wipe [4, 5, 6, 7, 8] ?_
  refine nx_forLi ?_
  refine ek_var (x := .list [.tuple [.list (ss.map stD), encPlan pl1, .int M1], .tuple [.list (ss.map stD), encPlan pl1, .int M2], .tuple [.list (ss.map stD), encPlan pl2, .int M1], .tuple [.list (fw.map stD), encPlan pl1, .int M1], .tuple [.list (ss.map stD), encPlan pl1, .int M1]]) rfl ?_
  refine ⟨_, rfl, fun j G => G = [.scr a ns, .fd p_ (A' + 300 + 1), .d (.int near), .d (.list [encPlan pl1, encPlan pl2]), .any, .any, .any, .any, .any, .d (.list [.tuple [.list (ss.map stD), encPlan pl1, .int M1], .tuple [.list (ss.map stD), encPlan pl1, .int M2], .tuple [.list (ss.map stD), encPlan pl2, .int M1], .tuple [.list (fw.map stD), encPlan pl1, .int M1], .tuple [.list (ss.map stD), encPlan pl1, .int M1]]), .d (.str kept), .any, .any, .any, .any, .any, .any], rfl, ?_, ?_⟩
  · rintro B2 hB2 j x _ hx rfl
    obtain ⟨vs, q, M, rfl, vl, vo, ok, hM⟩ : ∃ (vs : List (Str × Int)) (q : Plan) (M : Int), x = .tuple [.list (vs.map stD), encPlan q, .int M] ∧ vs.length ≤ 48 ∧ (∀ q ∈ vs, StOk q) ∧ PlanOk q ∧ 1 ≤ M ∧ M ≤ 1440 := by
      have hx := List.mem_of_getElem? hx
      simp only [List.mem_cons, List.not_mem_nil, or_false] at hx
      rcases hx with rfl | rfl | rfl | rfl | rfl
      · exact ⟨_, _, _, rfl, hsl, hok, ok1, hM1⟩
      · exact ⟨_, _, _, rfl, hsl, hok, ok1, hM2⟩
      · exact ⟨_, _, _, rfl, hsl, hok, ok2, hM1⟩
      · exact ⟨_, _, _, rfl, fwl, fwo, ok1, hM1⟩
      · exact ⟨_, _, _, rfl, hsl, hok, ok1, hM1⟩
    walk_at "dl"
    refine ⟨_, .inl rfl, ?_⟩
    walk_at "dl"
    refine ⟨vs, q, M, rfl, by omega, ok, fun zs hz => ⟨wds_flat _, ?_⟩⟩
    have zi : ∀ z ∈ zs, 0 ≤ z.1 ∧ z.1 ≤ 999999359 := fun z hz' => by
      obtain ⟨s, hs, rfl⟩ := List.mem_map.mp ((hz.2 z).mp hz')
      exact (vo s hs).2
    have zl : zs.length ≤ 48 := by
      have nd : (zs.map kk2).Nodup := by
        refine List.pairwise_map.mpr (hz.1.imp fun {p r} h e => ?_)
        rw [kk2_inj e] at h
        omega
      have z := nodup_le (m := (vs.map turnP).map kk2) nd fun x hx => by
        obtain ⟨q, hq, rfl⟩ := List.mem_map.mp hx
        exact List.mem_map.mpr ⟨q, (hz.2 q).mp hq, rfl⟩
      rw [List.length_map, List.length_map, List.length_map] at z
      omega
    have sh := wds_sh (stretches_b ok hM zi) (by have := stretches_len q M zs; omega)
    walk_at "dl"
    · exact sh
    refine ⟨vs, q, M, rfl, by omega, vo, ok, hM.1, fun zs2 hz2 => ?_⟩
    obtain rfl := hz2.one hz
    walk_at "dl"
    · have ly := lay_sts (n := 0) vo
      refine ⟨ly.shaped (by decide), ly.shaped (by decide), ?_⟩
      rw [SeqAt.eqv_refl _ ly.1]
      walk_at "dl"
      refine nx_wipe [11, 12, 13, 14, 15] ?_
      exact nx_inv rfl
    · rename_i h _
      exact absurd trivial h
  rintro _ rfl
  walk_at "dl"
  refine ck_reprS (n := 200000) (d := 6) (by decide) (by decide) ⟨_, rfl, sp, ?_⟩
  rw [hsh]
  walk_at "dl"
  rw [decide_eq_true rfl]
  exact RT
end
theorem mkF {K : PySem.W.Frag} {h : Heap} {mg : Str → Option Value} (X : K.In h) (G : h.Ns mainGlobals mg) {x : Str} {st : Stmt} {ps : List Str} {f1 : Addr} {od1 an1 : Option Addr} {sl1 : Array (Option Value)} {oc1 kV1 dc1 pm1 cd1 ct1 : Value}
    (hb : ∀ (kV doc pm : Value) (an : Option Addr) (cdv ct : Value) (us : List Value), us.length = ps.length → bindArgs (PySem.W.fnOf x x (defArgs st) (defBody st) (defScope st) .none kV doc pm an cdv ct) ⟨us, []⟩ = pure (ps.zip us))
    (a1 : PySem.W.nsIn K mainGlobals x = some (some (.ref f1))) (l1 : K.lookup f1 = some ⟨oc1, od1, .func (PySem.W.fnOf x x (defArgs st) (defBody st) (defScope st) .none kV1 dc1 pm1 an1 cd1 ct1), sl1⟩) (c1 : PySem.W.codeIn K cd1 x = true) (k1 : PySem.W.keepIn K (.ref f1) = true) :
    ∃ f fd, Fun K x x st f fd ∧ mg x = some (.ref f) ∧ Binds K fd ps [] :=
  ⟨f1, _, fun_mk (st := st) l1 c1 k1, PySem.W.mg_of X G a1, (fun_mk (st := st) l1 c1 k1).binds hb⟩
theorem law_end {P : Program} {w : World} {K : PySem.W.Frag} {mg : Str → Option Value} {fa : Addr} {h : Heap} (X : K.In h) (G : h.Ns mainGlobals mg) (hmg : mg "law" = some (.ref fa)) (T : Tx K mg)
    {f1 : Addr} {od1 an1 : Option Addr} {sl1 : Array (Option Value)} {oc1 kV1 dc1 pm1 cd1 ct1 : Value}
    (a1 : PySem.W.nsIn K mainGlobals "law" = some (some (.ref f1))) (l1 : K.lookup f1 = some ⟨oc1, od1, .func (PySem.W.fnOf "law" "law" (defArgs s_law) (defBody s_law) (defScope s_law) .none kV1 dc1 pm1 an1 cd1 ct1), sl1⟩) (c1 : PySem.W.codeIn K cd1 "law" = true) (k1 : PySem.W.keepIn K (.ref f1) = true) :
    ∃ fd : FuncData, (∀ (s : Shared) (v : Value), BindsTo s fd ⟨[v], []⟩ [("script", v)]) ∧ ∀ base : Heap, K.In base → base.Ns mainGlobals mg → FnG P w K mg base CX0 11 fa fd ["script"] (spLaw K) := by
  have e := hmg.symm.trans (PySem.W.mg_of X G a1)
  cases e
  exact ⟨_, fun s v => .of_eq rfl, fun base _ _ => ok_law T (fun_mk (st := s_law) l1 c1 k1)⟩
theorem all_mk {P : Program} {w : World} {K : PySem.W.Frag} {mg : Str → Option Value} {fa : Addr} {h : Heap} (X : K.In h) (G : h.Ns mainGlobals mg) (hmg : mg "law" = some (.ref fa))
    {C_Walk : Addr} (a_Walk : PySem.W.nsIn K mainGlobals "Walk" = some (some (.ref C_Walk)))
    {f0 : Addr} {od0 an0 : Option Addr} {sl0 : Array (Option Value)} {oc0 kV0 dc0 pm0 cd0 ct0 : Value}
    (a0 : PySem.W.findIn K (.ref C_Walk) "leave" = some (some (.ref f0))) (i0 : PySem.W.isFn K (.ref f0) = true) (l0 : K.lookup f0 = some ⟨oc0, od0, .func (PySem.W.fnOf "leave" "Walk.leave" (defArgs s_Walk__leave) (defBody s_Walk__leave) (defScope s_Walk__leave) .none kV0 dc0 pm0 an0 cd0 ct0), sl0⟩) (c0 : PySem.W.codeIn K cd0 "Walk.leave" = true) (k0 : PySem.W.keepIn K (.ref f0) = true)
    {f1 : Addr} {od1 an1 : Option Addr} {sl1 : Array (Option Value)} {oc1 kV1 dc1 pm1 cd1 ct1 : Value}
    (a1 : PySem.W.findIn K (.ref C_Walk) "go" = some (some (.ref f1))) (i1 : PySem.W.isFn K (.ref f1) = true) (l1 : K.lookup f1 = some ⟨oc1, od1, .func (PySem.W.fnOf "go" "Walk.go" (defArgs s_Walk__go) (defBody s_Walk__go) (defScope s_Walk__go) .none kV1 dc1 pm1 an1 cd1 ct1), sl1⟩) (c1 : PySem.W.codeIn K cd1 "Walk.go" = true) (k1 : PySem.W.keepIn K (.ref f1) = true)
    {f2 : Addr} {od2 an2 : Option Addr} {sl2 : Array (Option Value)} {oc2 kV2 dc2 pm2 cd2 ct2 : Value}
    (a2 : PySem.W.findIn K (.ref C_Walk) "come" = some (some (.ref f2))) (i2 : PySem.W.isFn K (.ref f2) = true) (l2 : K.lookup f2 = some ⟨oc2, od2, .func (PySem.W.fnOf "come" "Walk.come" (defArgs s_Walk__come) (defBody s_Walk__come) (defScope s_Walk__come) .none kV2 dc2 pm2 an2 cd2 ct2), sl2⟩) (c2 : PySem.W.codeIn K cd2 "Walk.come" = true) (k2 : PySem.W.keepIn K (.ref f2) = true)
    {f3 : Addr} {od3 an3 : Option Addr} {sl3 : Array (Option Value)} {oc3 kV3 dc3 pm3 cd3 ct3 : Value}
    (a3 : PySem.W.findIn K (.ref C_Walk) "guessed_begin" = some (some (.ref f3))) (i3 : PySem.W.isFn K (.ref f3) = true) (l3 : K.lookup f3 = some ⟨oc3, od3, .func (PySem.W.fnOf "guessed_begin" "Walk.guessed_begin" (defArgs s_Walk__guessed_begin) (defBody s_Walk__guessed_begin) (defScope s_Walk__guessed_begin) .none kV3 dc3 pm3 an3 cd3 ct3), sl3⟩) (c3 : PySem.W.codeIn K cd3 "Walk.guessed_begin" = true) (k3 : PySem.W.keepIn K (.ref f3) = true)
    {f4 : Addr} {od4 an4 : Option Addr} {sl4 : Array (Option Value)} {oc4 kV4 dc4 pm4 cd4 ct4 : Value}
    (a4 : PySem.W.findIn K (.ref C_Walk) "guessed_end" = some (some (.ref f4))) (i4 : PySem.W.isFn K (.ref f4) = true) (l4 : K.lookup f4 = some ⟨oc4, od4, .func (PySem.W.fnOf "guessed_end" "Walk.guessed_end" (defArgs s_Walk__guessed_end) (defBody s_Walk__guessed_end) (defScope s_Walk__guessed_end) .none kV4 dc4 pm4 an4 cd4 ct4), sl4⟩) (c4 : PySem.W.codeIn K cd4 "Walk.guessed_end" = true) (k4 : PySem.W.keepIn K (.ref f4) = true)
    {f5 : Addr} {od5 an5 : Option Addr} {sl5 : Array (Option Value)} {oc5 kV5 dc5 pm5 cd5 ct5 : Value}
    (a5 : PySem.W.findIn K (.ref C_Walk) "shift_at" = some (some (.ref f5))) (i5 : PySem.W.isFn K (.ref f5) = true) (l5 : K.lookup f5 = some ⟨oc5, od5, .func (PySem.W.fnOf "shift_at" "Walk.shift_at" (defArgs s_Walk__shift_at) (defBody s_Walk__shift_at) (defScope s_Walk__shift_at) .none kV5 dc5 pm5 an5 cd5 ct5), sl5⟩) (c5 : PySem.W.codeIn K cd5 "Walk.shift_at" = true) (k5 : PySem.W.keepIn K (.ref f5) = true)
    {f6 : Addr} {od6 an6 : Option Addr} {sl6 : Array (Option Value)} {oc6 kV6 dc6 pm6 cd6 ct6 : Value}
    (a6 : PySem.W.findIn K (.ref C_Walk) "shifts_of" = some (some (.ref f6))) (i6 : PySem.W.isFn K (.ref f6) = true) (l6 : K.lookup f6 = some ⟨oc6, od6, .func (PySem.W.fnOf "shifts_of" "Walk.shifts_of" (defArgs s_Walk__shifts_of) (defBody s_Walk__shifts_of) (defScope s_Walk__shifts_of) .none kV6 dc6 pm6 an6 cd6 ct6), sl6⟩) (c6 : PySem.W.codeIn K cd6 "Walk.shifts_of" = true) (k6 : PySem.W.keepIn K (.ref f6) = true)
    {f8 : Addr} {od8 an8 : Option Addr} {sl8 : Array (Option Value)} {oc8 kV8 dc8 pm8 cd8 ct8 : Value}
    (a8 : PySem.W.nsIn K mainGlobals "rows_to" = some (some (.ref f8))) (l8 : K.lookup f8 = some ⟨oc8, od8, .func (PySem.W.fnOf "rows_to" "rows_to" (defArgs s_rows_to) (defBody s_rows_to) (defScope s_rows_to) .none kV8 dc8 pm8 an8 cd8 ct8), sl8⟩) (c8 : PySem.W.codeIn K cd8 "rows_to" = true) (k8 : PySem.W.keepIn K (.ref f8) = true)
    {f9 : Addr} {od9 an9 : Option Addr} {sl9 : Array (Option Value)} {oc9 kV9 dc9 pm9 cd9 ct9 : Value}
    (a9 : PySem.W.nsIn K mainGlobals "has_row" = some (some (.ref f9))) (l9 : K.lookup f9 = some ⟨oc9, od9, .func (PySem.W.fnOf "has_row" "has_row" (defArgs s_has_row) (defBody s_has_row) (defScope s_has_row) .none kV9 dc9 pm9 an9 cd9 ct9), sl9⟩) (c9 : PySem.W.codeIn K cd9 "has_row" = true) (k9 : PySem.W.keepIn K (.ref f9) = true)
    {f10 : Addr} {od10 an10 : Option Addr} {sl10 : Array (Option Value)} {oc10 kV10 dc10 pm10 cd10 ct10 : Value}
    (a10 : PySem.W.nsIn K mainGlobals "day_of" = some (some (.ref f10))) (l10 : K.lookup f10 = some ⟨oc10, od10, .func (PySem.W.fnOf "day_of" "day_of" (defArgs s_day_of) (defBody s_day_of) (defScope s_day_of) .none kV10 dc10 pm10 an10 cd10 ct10), sl10⟩) (c10 : PySem.W.codeIn K cd10 "day_of" = true) (k10 : PySem.W.keepIn K (.ref f10) = true)
    {f11 : Addr} {od11 an11 : Option Addr} {sl11 : Array (Option Value)} {oc11 kV11 dc11 pm11 cd11 ct11 : Value}
    (a11 : PySem.W.nsIn K mainGlobals "clocks_on" = some (some (.ref f11))) (l11 : K.lookup f11 = some ⟨oc11, od11, .func (PySem.W.fnOf "clocks_on" "clocks_on" (defArgs s_clocks_on) (defBody s_clocks_on) (defScope s_clocks_on) .none kV11 dc11 pm11 an11 cd11 ct11), sl11⟩) (c11 : PySem.W.codeIn K cd11 "clocks_on" = true) (k11 : PySem.W.keepIn K (.ref f11) = true)
    {f12 : Addr} {od12 an12 : Option Addr} {sl12 : Array (Option Value)} {oc12 kV12 dc12 pm12 cd12 ct12 : Value}
    (a12 : PySem.W.nsIn K mainGlobals "shifts_on" = some (some (.ref f12))) (l12 : K.lookup f12 = some ⟨oc12, od12, .func (PySem.W.fnOf "shifts_on" "shifts_on" (defArgs s_shifts_on) (defBody s_shifts_on) (defScope s_shifts_on) .none kV12 dc12 pm12 an12 cd12 ct12), sl12⟩) (c12 : PySem.W.codeIn K cd12 "shifts_on" = true) (k12 : PySem.W.keepIn K (.ref f12) = true)
    {f13 : Addr} {od13 an13 : Option Addr} {sl13 : Array (Option Value)} {oc13 kV13 dc13 pm13 cd13 ct13 : Value}
    (a13 : PySem.W.nsIn K mainGlobals "turn_of" = some (some (.ref f13))) (l13 : K.lookup f13 = some ⟨oc13, od13, .func (PySem.W.fnOf "turn_of" "turn_of" (defArgs s_turn_of) (defBody s_turn_of) (defScope s_turn_of) .none kV13 dc13 pm13 an13 cd13 ct13), sl13⟩) (c13 : PySem.W.codeIn K cd13 "turn_of" = true) (k13 : PySem.W.keepIn K (.ref f13) = true)
    {f14 : Addr} {od14 an14 : Option Addr} {sl14 : Array (Option Value)} {oc14 kV14 dc14 pm14 cd14 ct14 : Value}
    (a14 : PySem.W.nsIn K mainGlobals "in_order" = some (some (.ref f14))) (l14 : K.lookup f14 = some ⟨oc14, od14, .func (PySem.W.fnOf "in_order" "in_order" (defArgs s_in_order) (defBody s_in_order) (defScope s_in_order) .none kV14 dc14 pm14 an14 cd14 ct14), sl14⟩) (c14 : PySem.W.codeIn K cd14 "in_order" = true) (k14 : PySem.W.keepIn K (.ref f14) = true)
    {f15 : Addr} {od15 an15 : Option Addr} {sl15 : Array (Option Value)} {oc15 kV15 dc15 pm15 cd15 ct15 : Value}
    (a15 : PySem.W.nsIn K mainGlobals "stretches" = some (some (.ref f15))) (l15 : K.lookup f15 = some ⟨oc15, od15, .func (PySem.W.fnOf "stretches" "stretches" (defArgs s_stretches) (defBody s_stretches) (defScope s_stretches) .none kV15 dc15 pm15 an15 cd15 ct15), sl15⟩) (c15 : PySem.W.codeIn K cd15 "stretches" = true) (k15 : PySem.W.keepIn K (.ref f15) = true)
    {f16 : Addr} {od16 an16 : Option Addr} {sl16 : Array (Option Value)} {oc16 kV16 dc16 pm16 cd16 ct16 : Value}
    (a16 : PySem.W.nsIn K mainGlobals "_law_feed" = some (some (.ref f16))) (l16 : K.lookup f16 = some ⟨oc16, od16, .func (PySem.W.fnOf "_law_feed" "_law_feed" (defArgs s__law_feed) (defBody s__law_feed) (defScope s__law_feed) .none kV16 dc16 pm16 an16 cd16 ct16), sl16⟩) (c16 : PySem.W.codeIn K cd16 "_law_feed" = true) (k16 : PySem.W.keepIn K (.ref f16) = true)
    {f17 : Addr} {od17 an17 : Option Addr} {sl17 : Array (Option Value)} {oc17 kV17 dc17 pm17 cd17 ct17 : Value}
    (a17 : PySem.W.nsIn K mainGlobals "_law_draw" = some (some (.ref f17))) (l17 : K.lookup f17 = some ⟨oc17, od17, .func (PySem.W.fnOf "_law_draw" "_law_draw" (defArgs s__law_draw) (defBody s__law_draw) (defScope s__law_draw) .none kV17 dc17 pm17 an17 cd17 ct17), sl17⟩) (c17 : PySem.W.codeIn K cd17 "_law_draw" = true) (k17 : PySem.W.keepIn K (.ref f17) = true)
    {f18 : Addr} {od18 an18 : Option Addr} {sl18 : Array (Option Value)} {oc18 kV18 dc18 pm18 cd18 ct18 : Value}
    (a18 : PySem.W.nsIn K mainGlobals "_law_of" = some (some (.ref f18))) (l18 : K.lookup f18 = some ⟨oc18, od18, .func (PySem.W.fnOf "_law_of" "_law_of" (defArgs s__law_of) (defBody s__law_of) (defScope s__law_of) .none kV18 dc18 pm18 an18 cd18 ct18), sl18⟩) (c18 : PySem.W.codeIn K cd18 "_law_of" = true) (k18 : PySem.W.keepIn K (.ref f18) = true)
    {f19 : Addr} {od19 an19 : Option Addr} {sl19 : Array (Option Value)} {oc19 kV19 dc19 pm19 cd19 ct19 : Value}
    (a19 : PySem.W.nsIn K mainGlobals "_law_shifts" = some (some (.ref f19))) (l19 : K.lookup f19 = some ⟨oc19, od19, .func (PySem.W.fnOf "_law_shifts" "_law_shifts" (defArgs s__law_shifts) (defBody s__law_shifts) (defScope s__law_shifts) .none kV19 dc19 pm19 an19 cd19 ct19), sl19⟩) (c19 : PySem.W.codeIn K cd19 "_law_shifts" = true) (k19 : PySem.W.keepIn K (.ref f19) = true)
    {f20 : Addr} {od20 an20 : Option Addr} {sl20 : Array (Option Value)} {oc20 kV20 dc20 pm20 cd20 ct20 : Value}
    (a20 : PySem.W.nsIn K mainGlobals "_law_plan" = some (some (.ref f20))) (l20 : K.lookup f20 = some ⟨oc20, od20, .func (PySem.W.fnOf "_law_plan" "_law_plan" (defArgs s__law_plan) (defBody s__law_plan) (defScope s__law_plan) .none kV20 dc20 pm20 an20 cd20 ct20), sl20⟩) (c20 : PySem.W.codeIn K cd20 "_law_plan" = true) (k20 : PySem.W.keepIn K (.ref f20) = true)
    {f21 : Addr} {od21 an21 : Option Addr} {sl21 : Array (Option Value)} {oc21 kV21 dc21 pm21 cd21 ct21 : Value}
    (a21 : PySem.W.nsIn K mainGlobals "_law_shifts_on" = some (some (.ref f21))) (l21 : K.lookup f21 = some ⟨oc21, od21, .func (PySem.W.fnOf "_law_shifts_on" "_law_shifts_on" (defArgs s__law_shifts_on) (defBody s__law_shifts_on) (defScope s__law_shifts_on) .none kV21 dc21 pm21 an21 cd21 ct21), sl21⟩) (c21 : PySem.W.codeIn K cd21 "_law_shifts_on" = true) (k21 : PySem.W.keepIn K (.ref f21) = true)
    {f22 : Addr} {od22 an22 : Option Addr} {sl22 : Array (Option Value)} {oc22 kV22 dc22 pm22 cd22 ct22 : Value}
    (a22 : PySem.W.nsIn K mainGlobals "_law_shifts_by" = some (some (.ref f22))) (l22 : K.lookup f22 = some ⟨oc22, od22, .func (PySem.W.fnOf "_law_shifts_by" "_law_shifts_by" (defArgs s__law_shifts_by) (defBody s__law_shifts_by) (defScope s__law_shifts_by) .none kV22 dc22 pm22 an22 cd22 ct22), sl22⟩) (c22 : PySem.W.codeIn K cd22 "_law_shifts_by" = true) (k22 : PySem.W.keepIn K (.ref f22) = true)
    {f23 : Addr} {od23 an23 : Option Addr} {sl23 : Array (Option Value)} {oc23 kV23 dc23 pm23 cd23 ct23 : Value}
    (a23 : PySem.W.nsIn K mainGlobals "_law_end" = some (some (.ref f23))) (l23 : K.lookup f23 = some ⟨oc23, od23, .func (PySem.W.fnOf "_law_end" "_law_end" (defArgs s__law_end) (defBody s__law_end) (defScope s__law_end) .none kV23 dc23 pm23 an23 cd23 ct23), sl23⟩) (c23 : PySem.W.codeIn K cd23 "_law_end" = true) (k23 : PySem.W.keepIn K (.ref f23) = true)
    {f24 : Addr} {od24 an24 : Option Addr} {sl24 : Array (Option Value)} {oc24 kV24 dc24 pm24 cd24 ct24 : Value}
    (a24 : PySem.W.nsIn K mainGlobals "_law_begin" = some (some (.ref f24))) (l24 : K.lookup f24 = some ⟨oc24, od24, .func (PySem.W.fnOf "_law_begin" "_law_begin" (defArgs s__law_begin) (defBody s__law_begin) (defScope s__law_begin) .none kV24 dc24 pm24 an24 cd24 ct24), sl24⟩) (c24 : PySem.W.codeIn K cd24 "_law_begin" = true) (k24 : PySem.W.keepIn K (.ref f24) = true)
    {f25 : Addr} {od25 an25 : Option Addr} {sl25 : Array (Option Value)} {oc25 kV25 dc25 pm25 cd25 ct25 : Value}
    (a25 : PySem.W.nsIn K mainGlobals "_law_owed" = some (some (.ref f25))) (l25 : K.lookup f25 = some ⟨oc25, od25, .func (PySem.W.fnOf "_law_owed" "_law_owed" (defArgs s__law_owed) (defBody s__law_owed) (defScope s__law_owed) .none kV25 dc25 pm25 an25 cd25 ct25), sl25⟩) (c25 : PySem.W.codeIn K cd25 "_law_owed" = true) (k25 : PySem.W.keepIn K (.ref f25) = true)
    {f26 : Addr} {od26 an26 : Option Addr} {sl26 : Array (Option Value)} {oc26 kV26 dc26 pm26 cd26 ct26 : Value}
    (a26 : PySem.W.nsIn K mainGlobals "_law_stamps" = some (some (.ref f26))) (l26 : K.lookup f26 = some ⟨oc26, od26, .func (PySem.W.fnOf "_law_stamps" "_law_stamps" (defArgs s__law_stamps) (defBody s__law_stamps) (defScope s__law_stamps) .none kV26 dc26 pm26 an26 cd26 ct26), sl26⟩) (c26 : PySem.W.codeIn K cd26 "_law_stamps" = true) (k26 : PySem.W.keepIn K (.ref f26) = true)
    {f27 : Addr} {od27 an27 : Option Addr} {sl27 : Array (Option Value)} {oc27 kV27 dc27 pm27 cd27 ct27 : Value}
    (a27 : PySem.W.nsIn K mainGlobals "law" = some (some (.ref f27))) (l27 : K.lookup f27 = some ⟨oc27, od27, .func (PySem.W.fnOf "law" "law" (defArgs s_law) (defBody s_law) (defScope s_law) .none kV27 dc27 pm27 an27 cd27 ct27), sl27⟩) (c27 : PySem.W.codeIn K cd27 "law" = true) (k27 : PySem.W.keepIn K (.ref f27) = true)
    (pg_Walk : PySem.W.plainGet K C_Walk Str.empty = true)
    (hd_Walk : PySem.W.hasDictIn K C_Walk = true)
    (po_Walk : PySem.W.plainOver K C_Walk = true)
    (sa_Walk : PySem.W.findIn K (.ref C_Walk) "__setattr__" = some (some (.builtin "object.__setattr__")))
    (cl_Walk : PySem.W.findIn K (.ref C_Walk) "__class__" = some (some (.builtin "object.__class__")))
    (mo_Walk : PySem.W.mroIn K C_Walk (.type "object") = some true)
    (nf_Walk_found : PySem.W.findIn K (.ref C_Walk) "found" = some none)
    (nf_Walk_inside : PySem.W.findIn K (.ref C_Walk) "inside" = some none)
    (nf_Walk_most : PySem.W.findIn K (.ref C_Walk) "most" = some none)
    (nf_Walk_plan : PySem.W.findIn K (.ref C_Walk) "plan" = some none)
    (nf_Walk_shifts : PySem.W.findIn K (.ref C_Walk) "shifts" = some none)
    (nf_Walk_since : PySem.W.findIn K (.ref C_Walk) "since" = some none)
    {fj_Walk : Addr} {odj_Walk anj_Walk : Option Addr} {slj_Walk : Array (Option Value)} {ocj_Walk kVj_Walk dcj_Walk pmj_Walk cdj_Walk ctj_Walk : Value}
    (mk_Walk : PySem.W.makesIn K C_Walk = true)
    (fj0_Walk : PySem.W.findIn K (.ref C_Walk) "__init__" = some (some (.ref fj_Walk)))
    (ij_Walk : PySem.W.isFn K (.ref fj_Walk) = true)
    (kc_Walk : PySem.W.keepIn K (.ref C_Walk) = true)
    (lj_Walk : K.lookup fj_Walk = some ⟨ocj_Walk, odj_Walk, .func (PySem.W.fnOf "__init__" "Walk.__init__" (defArgs s_Walk__init) (defBody s_Walk__init) (defScope s_Walk__init) .none kVj_Walk dcj_Walk pmj_Walk anj_Walk cdj_Walk ctj_Walk), slj_Walk⟩)
    (cj_Walk : PySem.W.codeIn K cdj_Walk "Walk.__init__" = true)
    (kj_Walk : PySem.W.keepIn K (.ref fj_Walk) = true)
    (sg_0 : PySem.W.specialIn K (.builtin "object.__class__") "__get__" = some (some (.builtin "getset_descriptor.__get__")))
    (tk_0 : PySem.W.takesIn K (.builtin "object.__class__") = some true)
    (z_isinstance : PySem.W.nsIn K mainGlobals "isinstance" = some none)
    (z_len : PySem.W.nsIn K mainGlobals "len" = some none)
    (z_list : PySem.W.nsIn K mainGlobals "list" = some none)
    (z_max : PySem.W.nsIn K mainGlobals "max" = some none)
    (z_min : PySem.W.nsIn K mainGlobals "min" = some none)
    (z_range : PySem.W.nsIn K mainGlobals "range" = some none)
    (z_repr : PySem.W.nsIn K mainGlobals "repr" = some none)
    (z_set : PySem.W.nsIn K mainGlobals "set" = some none)
    (z_sorted : PySem.W.nsIn K mainGlobals "sorted" = some none)
    (z_tuple : PySem.W.nsIn K mainGlobals "tuple" = some none)
    {t_DAY_LONG : Tok} (g_DAY_LONG : PySem.W.nsIn K mainGlobals "DAY_LONG" = some (some (.int 1440 t_DAY_LONG)))
    {t_LAST_DAY : Tok} (g_LAST_DAY : PySem.W.nsIn K mainGlobals "LAST_DAY" = some (some (.int 694443 t_LAST_DAY)))
    {t_WEEK_DAYS : Tok} (g_WEEK_DAYS : PySem.W.nsIn K mainGlobals "WEEK_DAYS" = some (some (.int 7 t_WEEK_DAYS))) :
    ∃ fd : FuncData, (∀ (s : Shared) (v : Value), BindsTo s fd ⟨[v], []⟩ [("script", v)]) ∧ ∀ base : Heap, K.In base → base.Ns mainGlobals mg → FnG P w K mg base CX0 11 fa fd ["script"] (spLaw K) :=
  law_end X G hmg ⟨⟨f0, _, (fun_mk (st := s_Walk__leave) l0 c0 k0), (fun C h => by obtain rfl := mg_uni h (PySem.W.mg_of X G a_Walk); exact ⟨a0, i0, k0⟩), (fun_mk (st := s_Walk__leave) l0 c0 k0).binds (fun _ _ _ _ _ _ us hl => match us, hl with | [_], _ => rfl)⟩, ⟨f1, _, (fun_mk (st := s_Walk__go) l1 c1 k1), (fun C h => by obtain rfl := mg_uni h (PySem.W.mg_of X G a_Walk); exact ⟨a1, i1, k1⟩), (fun_mk (st := s_Walk__go) l1 c1 k1).binds (fun _ _ _ _ _ _ us hl => match us, hl with | [_, _], _ => rfl)⟩, ⟨f2, _, (fun_mk (st := s_Walk__come) l2 c2 k2), (fun C h => by obtain rfl := mg_uni h (PySem.W.mg_of X G a_Walk); exact ⟨a2, i2, k2⟩), (fun_mk (st := s_Walk__come) l2 c2 k2).binds (fun _ _ _ _ _ _ us hl => match us, hl with | [_, _], _ => rfl)⟩, ⟨f3, _, (fun_mk (st := s_Walk__guessed_begin) l3 c3 k3), (fun C h => by obtain rfl := mg_uni h (PySem.W.mg_of X G a_Walk); exact ⟨a3, i3, k3⟩), (fun_mk (st := s_Walk__guessed_begin) l3 c3 k3).binds (fun _ _ _ _ _ _ us hl => match us, hl with | [_, _], _ => rfl)⟩, ⟨f4, _, (fun_mk (st := s_Walk__guessed_end) l4 c4 k4), (fun C h => by obtain rfl := mg_uni h (PySem.W.mg_of X G a_Walk); exact ⟨a4, i4, k4⟩), (fun_mk (st := s_Walk__guessed_end) l4 c4 k4).binds (fun _ _ _ _ _ _ us hl => match us, hl with | [_, _], _ => rfl)⟩, ⟨f5, _, (fun_mk (st := s_Walk__shift_at) l5 c5 k5), (fun C h => by obtain rfl := mg_uni h (PySem.W.mg_of X G a_Walk); exact ⟨a5, i5, k5⟩), (fun_mk (st := s_Walk__shift_at) l5 c5 k5).binds (fun _ _ _ _ _ _ us hl => match us, hl with | [_, _], _ => rfl)⟩, ⟨f6, _, (fun_mk (st := s_Walk__shifts_of) l6 c6 k6), (fun C h => by obtain rfl := mg_uni h (PySem.W.mg_of X G a_Walk); exact ⟨a6, i6, k6⟩), (fun_mk (st := s_Walk__shifts_of) l6 c6 k6).binds (fun _ _ _ _ _ _ us hl => match us, hl with | [_, _], _ => rfl)⟩, mkF (st := s_rows_to) X G (fun _ _ _ _ _ _ us hl => match us, hl with | [_, _], _ => rfl) a8 l8 c8 k8, mkF (st := s_has_row) X G (fun _ _ _ _ _ _ us hl => match us, hl with | [_, _], _ => rfl) a9 l9 c9 k9, mkF (st := s_day_of) X G (fun _ _ _ _ _ _ us hl => match us, hl with | [_], _ => rfl) a10 l10 c10 k10, mkF (st := s_clocks_on) X G (fun _ _ _ _ _ _ us hl => match us, hl with | [_, _], _ => rfl) a11 l11 c11 k11, mkF (st := s_shifts_on) X G (fun _ _ _ _ _ _ us hl => match us, hl with | [_, _], _ => rfl) a12 l12 c12 k12, mkF (st := s_turn_of) X G (fun _ _ _ _ _ _ us hl => match us, hl with | [_], _ => rfl) a13 l13 c13 k13, mkF (st := s_in_order) X G (fun _ _ _ _ _ _ us hl => match us, hl with | [_], _ => rfl) a14 l14 c14 k14, mkF (st := s_stretches) X G (fun _ _ _ _ _ _ us hl => match us, hl with | [_, _, _], _ => rfl) a15 l15 c15 k15, mkF (st := s__law_feed) X G (fun _ _ _ _ _ _ us hl => match us, hl with | [_], _ => rfl) a16 l16 c16 k16, mkF (st := s__law_draw) X G (fun _ _ _ _ _ _ us hl => match us, hl with | [_, _], _ => rfl) a17 l17 c17 k17, mkF (st := s__law_of) X G (fun _ _ _ _ _ _ us hl => match us, hl with | [_, _], _ => rfl) a18 l18 c18 k18, mkF (st := s__law_shifts) X G (fun _ _ _ _ _ _ us hl => match us, hl with | [_, _], _ => rfl) a19 l19 c19 k19, mkF (st := s__law_plan) X G (fun _ _ _ _ _ _ us hl => match us, hl with | [_, _], _ => rfl) a20 l20 c20 k20, mkF (st := s__law_shifts_on) X G (fun _ _ _ _ _ _ us hl => match us, hl with | [_, _], _ => rfl) a21 l21 c21 k21, mkF (st := s__law_shifts_by) X G (fun _ _ _ _ _ _ us hl => match us, hl with | [_, _], _ => rfl) a22 l22 c22 k22, mkF (st := s__law_end) X G (fun _ _ _ _ _ _ us hl => match us, hl with | [_, _, _], _ => rfl) a23 l23 c23 k23, mkF (st := s__law_begin) X G (fun _ _ _ _ _ _ us hl => match us, hl with | [_, _, _], _ => rfl) a24 l24 c24 k24, mkF (st := s__law_owed) X G (fun _ _ _ _ _ _ us hl => match us, hl with | [_, _, _], _ => rfl) a25 l25 c25 k25, mkF (st := s__law_stamps) X G (fun _ _ _ _ _ _ us hl => match us, hl with | [_, _, _], _ => rfl) a26 l26 c26 k26, ⟨_, PySem.W.mg_of X G a_Walk⟩, (fun C h => by obtain rfl := mg_uni h (PySem.W.mg_of X G a_Walk); exact ⟨⟨pg_Walk, hd_Walk, po_Walk, sa_Walk⟩, cl_Walk, sg_0, tk_0, mo_Walk⟩), (fun C h => by obtain rfl := mg_uni h (PySem.W.mg_of X G a_Walk); exact nf_Walk_found), (fun C h => by obtain rfl := mg_uni h (PySem.W.mg_of X G a_Walk); exact nf_Walk_inside), (fun C h => by obtain rfl := mg_uni h (PySem.W.mg_of X G a_Walk); exact nf_Walk_most), (fun C h => by obtain rfl := mg_uni h (PySem.W.mg_of X G a_Walk); exact nf_Walk_plan), (fun C h => by obtain rfl := mg_uni h (PySem.W.mg_of X G a_Walk); exact nf_Walk_shifts), (fun C h => by obtain rfl := mg_uni h (PySem.W.mg_of X G a_Walk); exact nf_Walk_since), ⟨_, _, _, PySem.W.mg_of X G a_Walk, ⟨mk_Walk, fj0_Walk, ij_Walk, kc_Walk⟩, fun_mk (st := s_Walk__init) lj_Walk cj_Walk kj_Walk, (fun_mk (st := s_Walk__init) lj_Walk cj_Walk kj_Walk).binds (fun _ _ _ _ _ _ us hl => match us, hl with | [_, _, _], _ => rfl)⟩, PySem.W.mg_none_of X G z_isinstance, PySem.W.mg_none_of X G z_len, PySem.W.mg_none_of X G z_list, PySem.W.mg_none_of X G z_max, PySem.W.mg_none_of X G z_min, PySem.W.mg_none_of X G z_range, PySem.W.mg_none_of X G z_repr, PySem.W.mg_none_of X G z_set, PySem.W.mg_none_of X G z_sorted, PySem.W.mg_none_of X G z_tuple, ⟨_, PySem.W.mg_of X G g_DAY_LONG⟩, ⟨_, PySem.W.mg_of X G g_LAST_DAY⟩, ⟨_, PySem.W.mg_of X G g_WEEK_DAYS⟩⟩ a27 l27 c27 k27
end LawX
open PySem PySem.W PyProof.Rows
set_option maxHeartbeats 0 in
theorem PySem.Challenge.cw_hourcoin_k10_stretches_gone_through_holds : PySem.Challenge.rw_hourcoin_k10_stretches_gone_through.Holds := by
  w_on; o_law; k_head; (case hw => w_witness2)
  k_fill
  refine DL.walk_ofG (l := PySem.Challenge.rw_hourcoin_k10_stretches_gone_through) (n := 63) (k := 11) (x := "script") (CX := fun _ => L2.CX0) (sp := fun w => DL.spLaw _) rfl (by decide) rfl ⟨rfl, by decide, by decide⟩ (fun w h Y => PySem.W.kIn_of Y) ?F (fun _ _ a ns hl hS => ⟨a, ns, rfl, hS, hl, fun _ => rfl⟩) (fun _ _ _ _ _ h => h)
  case F =>
    intro w mg fa h KX G hmg
    refine' LawX.all_mk KX G hmg ?a_Walk ?a0 ?i0 ?l0 ?c0 ?k0 ?a1 ?i1 ?l1 ?c1 ?k1 ?a2 ?i2 ?l2 ?c2 ?k2 ?a3 ?i3 ?l3 ?c3 ?k3 ?a4 ?i4 ?l4 ?c4 ?k4 ?a5 ?i5 ?l5 ?c5 ?k5 ?a6 ?i6 ?l6 ?c6 ?k6 ?a8 ?l8 ?c8 ?k8 ?a9 ?l9 ?c9 ?k9 ?a10 ?l10 ?c10 ?k10 ?a11 ?l11 ?c11 ?k11 ?a12 ?l12 ?c12 ?k12 ?a13 ?l13 ?c13 ?k13 ?a14 ?l14 ?c14 ?k14 ?a15 ?l15 ?c15 ?k15 ?a16 ?l16 ?c16 ?k16 ?a17 ?l17 ?c17 ?k17 ?a18 ?l18 ?c18 ?k18 ?a19 ?l19 ?c19 ?k19 ?a20 ?l20 ?c20 ?k20 ?a21 ?l21 ?c21 ?k21 ?a22 ?l22 ?c22 ?k22 ?a23 ?l23 ?c23 ?k23 ?a24 ?l24 ?c24 ?k24 ?a25 ?l25 ?c25 ?k25 ?a26 ?l26 ?c26 ?k26 ?a27 ?l27 ?c27 ?k27 ?pg_Walk ?hd_Walk ?po_Walk ?sa_Walk ?cl_Walk ?mo_Walk ?nf_Walk_found ?nf_Walk_inside ?nf_Walk_most ?nf_Walk_plan ?nf_Walk_shifts ?nf_Walk_since ?mk_Walk ?fj0_Walk ?ij_Walk ?kc_Walk ?lj_Walk ?cj_Walk ?kj_Walk ?sg_0 ?tk_0 ?z_isinstance ?z_len ?z_list ?z_max ?z_min ?z_range ?z_repr ?z_set ?z_sorted ?z_tuple ?g_DAY_LONG ?g_LAST_DAY ?g_WEEK_DAYS
    (case a_Walk => k_is); (case a0 => k_is); (case i0 => k_is); (case l0 => k_is); (case c0 => k_is); (case k0 => k_is); (case a1 => k_is); (case i1 => k_is); (case l1 => k_is); (case c1 => k_is); (case k1 => k_is); (case a2 => k_is); (case i2 => k_is); (case l2 => k_is); (case c2 => k_is); (case k2 => k_is); (case a3 => k_is); (case i3 => k_is); (case l3 => k_is); (case c3 => k_is); (case k3 => k_is); (case a4 => k_is); (case i4 => k_is); (case l4 => k_is); (case c4 => k_is); (case k4 => k_is); (case a5 => k_is); (case i5 => k_is); (case l5 => k_is); (case c5 => k_is); (case k5 => k_is); (case a6 => k_is); (case i6 => k_is); (case l6 => k_is); (case c6 => k_is); (case k6 => k_is); (case a8 => k_is); (case l8 => k_is); (case c8 => k_is); (case k8 => k_is); (case a9 => k_is); (case l9 => k_is); (case c9 => k_is); (case k9 => k_is); (case a10 => k_is); (case l10 => k_is); (case c10 => k_is); (case k10 => k_is); (case a11 => k_is); (case l11 => k_is); (case c11 => k_is); (case k11 => k_is); (case a12 => k_is); (case l12 => k_is); (case c12 => k_is); (case k12 => k_is); (case a13 => k_is); (case l13 => k_is); (case c13 => k_is); (case k13 => k_is); (case a14 => k_is); (case l14 => k_is); (case c14 => k_is); (case k14 => k_is); (case a15 => k_is); (case l15 => k_is); (case c15 => k_is); (case k15 => k_is); (case a16 => k_is); (case l16 => k_is); (case c16 => k_is); (case k16 => k_is); (case a17 => k_is); (case l17 => k_is); (case c17 => k_is); (case k17 => k_is); (case a18 => k_is); (case l18 => k_is); (case c18 => k_is); (case k18 => k_is); (case a19 => k_is); (case l19 => k_is); (case c19 => k_is); (case k19 => k_is); (case a20 => k_is); (case l20 => k_is); (case c20 => k_is); (case k20 => k_is); (case a21 => k_is); (case l21 => k_is); (case c21 => k_is); (case k21 => k_is); (case a22 => k_is); (case l22 => k_is); (case c22 => k_is); (case k22 => k_is); (case a23 => k_is); (case l23 => k_is); (case c23 => k_is); (case k23 => k_is); (case a24 => k_is); (case l24 => k_is); (case c24 => k_is); (case k24 => k_is); (case a25 => k_is); (case l25 => k_is); (case c25 => k_is); (case k25 => k_is); (case a26 => k_is); (case l26 => k_is); (case c26 => k_is); (case k26 => k_is); (case a27 => k_is); (case l27 => k_is); (case c27 => k_is); (case k27 => k_is); (case pg_Walk => k_is); (case hd_Walk => k_is); (case po_Walk => k_is); (case sa_Walk => k_is); (case cl_Walk => k_is); (case mo_Walk => k_is); (case nf_Walk_found => k_is); (case nf_Walk_inside => k_is); (case nf_Walk_most => k_is); (case nf_Walk_plan => k_is); (case nf_Walk_shifts => k_is); (case nf_Walk_since => k_is); (case mk_Walk => k_is); (case fj0_Walk => k_is); (case ij_Walk => k_is); (case kc_Walk => k_is); (case lj_Walk => k_is); (case cj_Walk => k_is); (case kj_Walk => k_is); (case sg_0 => k_is); (case tk_0 => k_is); (case z_isinstance => k_is); (case z_len => k_is); (case z_list => k_is); (case z_max => k_is); (case z_min => k_is); (case z_range => k_is); (case z_repr => k_is); (case z_set => k_is); (case z_sorted => k_is); (case z_tuple => k_is); (case g_DAY_LONG => k_is); (case g_LAST_DAY => k_is); (case g_WEEK_DAYS => k_is)
