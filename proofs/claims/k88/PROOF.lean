import PyProof.Rows.All
import Wide.All
import OpenK.AllK
import Wide.FinOn
import HandS.ForMost
import HandS.Codes
import HandS.IsInst
import HandS.StrMore
import HandS.Records
import HandS.SetKeys
import HandS.TupAny
import HandS.Conv
import PyProof.ReprRoads
import KE.GoesMore
import HandS.Ends
import HandS.DictComp
import HandS.ExcInit
import HandS.ExcField
import HandS.TryMany
import HandS.Strs
import HandS.SetFor
import PyProof.TupleOfSeq
import PyProof.Rows.SortShellAny
import PyProof.Rows.StrMeet
import HandS.FStr
import HandS.ExcIs
import HandS.TupMul
import PyProof.StrBlock2
import HandS.Wide
import HandS.Flt
import HandS.Zip
import HandS.RaiseMore
import HandS.SortRule
import KE.KMathGC
import HandS.Gcd
import HandS.Style
import HandS.Lambda
import KE.KDflt
import PyProof.Rules3
import KE.KExcIs
import HandS.EndBits
import KE.KRevSl
import HandS.SetBool
import HandS.OwnEq
import KE.KDictZip
import KE.KTurns
import HandS.RevTup
import PySem.Challenge.RW_towerline_k88_whole_texts_there_and_back
import PyProof.Rows.ReprOcc
import KE.KxText
import PyProof.Rows.StrCut
import KE.KIntText
set_option Elab.async false
set_option linter.all false
set_option maxRecDepth 100000
set_option maxHeartbeats 4000000
/-! HW: readings without a heap. D: data; Dv: a value bears a datum; W: what is known of the heap; tE, tB, tS: readings by a word over data alone -/
namespace HW
open PySem L2

abbrev D := PyData
/-- keys as data -/
def kD : Key → D
  | .inl i => .int i
  | .inr x => .str x

/-- a list, a tuple of the written part -/
def KLs (K : PySem.W.Frag) (a : Addr) (vs : List V) : Prop := ∃ (o : Obj) (its : Array Value) (n : Nat), K.lookup a = some o ∧ o.cls = .type "list" ∧ o.dict = none ∧ o.data = .seq its n ∧ its.size ≤ sizeLine ∧ Vals vs its.toList
def KTp (K : PySem.W.Frag) (a : Addr) (vs : List V) : Prop := ∃ (o : Obj) (its : Array Value) (n : Nat), K.lookup a = some o ∧ o.cls = .type "tuple" ∧ o.data = .seq its n ∧ its.size ≤ sizeLine ∧ Vals vs its.toList
def PLs (K : PySem.W.Frag) (P : Addr → Prop) (H : Hp) (a : Addr) (vs : List V) : Prop := (P a ∧ Rd H a (.lst vs)) ∨ KLs K a vs
def PTu (K : PySem.W.Frag) (P : Addr → Prop) (H : Hp) (a : Addr) (vs : List V) : Prop := (P a ∧ Rd H a (.tup vs)) ∨ KTp K a vs
theorem PLs.sq {K : PySem.W.Frag} {P : Addr → Prop} {H : Hp} {a : Addr} {vs : List V} (h : PLs K P H a vs) : SqL K H a vs := h.elim (fun z => .inl z.2) .inr
theorem PTu.sq {K : PySem.W.Frag} {P : Addr → Prop} {H : Hp} {a : Addr} {vs : List V} (h : PTu K P H a vs) : SqT K H a vs := h.elim (fun z => .inl z.2) .inr
theorem rd_up {H H' : Hp} {a : Addr} {u : HO} (h : Rd H a u) (k : ∀ o, H a = some o → H' a = some o) : Rd H' a u := by
  rcases h with h | ⟨o, h⟩
  · exact .inl (k _ h)
  · exact .inr ⟨o, k _ h⟩
theorem PLs.up {K : PySem.W.Frag} {P P' : Addr → Prop} {H H' : Hp} {a : Addr} {vs : List V} (h : PLs K P H a vs) (hp : P a → P' a) (k : ∀ o, P a → H a = some o → H' a = some o) : PLs K P' H' a vs := h.imp (fun z => ⟨hp z.1, rd_up z.2 fun o => k o z.1⟩) fun z => z
theorem PTu.up {K : PySem.W.Frag} {P P' : Addr → Prop} {H H' : Hp} {a : Addr} {vs : List V} (h : PTu K P H a vs) (hp : P a → P' a) (k : ∀ o, P a → H a = some o → H' a = some o) : PTu K P' H' a vs := h.imp (fun z => ⟨hp z.1, rd_up z.2 fun o => k o z.1⟩) fun z => z

mutual
/-- the value v bears the datum d, all its objects lying in P -/
inductive Dv (K : PySem.W.Frag) (P : Addr → Prop) (H : Hp) : V → D → Prop
  | non : Dv K P H .non .none
  | bl (b : Bool) : Dv K P H (.bl b) (.bool b)
  | int (i : Int) : Dv K P H (.int i) (.int i)
  | str (x : Str) : Dv K P H (.str x) (.str x)
  | lst {a : Addr} {vs : List V} {ds : List D} : PLs K P H a vs → DvA K P H vs ds → Dv K P H (.ref a) (.list ds)
  | tup {a : Addr} {vs : List V} {ds : List D} : PTu K P H a vs → DvA K P H vs ds → Dv K P H (.ref a) (.tuple ds)
  | dic {a : Addr} {kvs : List (Key × V)} {ds : List (D × D)} : P a → Rd H a (.dK kvs) → DvK K P H kvs ds → Dv K P H (.ref a) (.dict ds)
inductive DvA (K : PySem.W.Frag) (P : Addr → Prop) (H : Hp) : List V → List D → Prop
  | nil : DvA K P H [] []
  | cons {v : V} {vs : List V} {d : D} {ds : List D} : Dv K P H v d → DvA K P H vs ds → DvA K P H (v :: vs) (d :: ds)
inductive DvK (K : PySem.W.Frag) (P : Addr → Prop) (H : Hp) : List (Key × V) → List (D × D) → Prop
  | nil : DvK K P H [] []
  | cons {k : Key} {v : V} {r : List (Key × V)} {d : D} {s : List (D × D)} : Dv K P H v d → DvK K P H r s → DvK K P H ((k, v) :: r) ((kD k, d) :: s)
end

section
variable {K : PySem.W.Frag} {P P' : Addr → Prop} {H H' : Hp}
mutual
theorem Dv.up (hp : ∀ a, P a → P' a) (k : ∀ a o, P a → H a = some o → H' a = some o) : ∀ {v : V} {d : D}, Dv K P H v d → Dv K P' H' v d
  | _, _, .non => .non
  | _, _, .bl b => .bl b
  | _, _, .int i => .int i
  | _, _, .str x => .str x
  | _, _, .lst h2 h3 => .lst (h2.up (hp _) fun o => k _ o) (DvA.up hp k h3)
  | _, _, .tup h2 h3 => .tup (h2.up (hp _) fun o => k _ o) (DvA.up hp k h3)
  | _, _, .dic h1 h2 h3 => .dic (hp _ h1) (rd_up h2 fun o => k _ o h1) (DvK.up hp k h3)
theorem DvA.up (hp : ∀ a, P a → P' a) (k : ∀ a o, P a → H a = some o → H' a = some o) : ∀ {vs : List V} {ds : List D}, DvA K P H vs ds → DvA K P' H' vs ds
  | _, _, .nil => .nil
  | _, _, .cons h1 h2 => .cons (Dv.up hp k h1) (DvA.up hp k h2)
theorem DvK.up (hp : ∀ a, P a → P' a) (k : ∀ a o, P a → H a = some o → H' a = some o) : ∀ {vs : List (Key × V)} {ds : List (D × D)}, DvK K P H vs ds → DvK K P' H' vs ds
  | _, _, .nil => .nil
  | _, _, .cons h1 h2 => .cons (Dv.up hp k h1) (DvK.up hp k h2)
end
theorem DvA.length : ∀ {vs : List V} {ds : List D}, DvA K P H vs ds → vs.length = ds.length
  | _, _, .nil => rfl
  | _, _, .cons _ h => congrArg (· + 1) h.length
theorem DvA.get : ∀ {vs : List V} {ds : List D} {i : Nat} {d : D}, DvA K P H vs ds → ds[i]? = some d → ∃ v, vs[i]? = some v ∧ Dv K P H v d
  | _, _, _, _, .nil, e => by simp at e
  | _, _, 0, _, .cons h _, e => by simp at e; subst e; exact ⟨_, rfl, h⟩
  | _, _, i + 1, d, .cons _ h, e => by
    obtain ⟨v, h1, h2⟩ := DvA.get (i := i) (d := d) h (by simpa using e)
    exact ⟨v, by simpa using h1, h2⟩
theorem DvA.get' : ∀ {vs : List V} {ds : List D} {i : Nat} {v : V}, DvA K P H vs ds → vs[i]? = some v → ∃ d, ds[i]? = some d ∧ Dv K P H v d
  | _, _, _, _, .nil, e => by simp at e
  | _, _, 0, _, .cons h _, e => by simp at e; subst e; exact ⟨_, rfl, h⟩
  | _, _, i + 1, v, .cons _ h, e => by
    obtain ⟨d, h1, h2⟩ := DvA.get' (i := i) (v := v) h (by simpa using e)
    exact ⟨d, by simpa using h1, h2⟩
theorem DvA.app : ∀ {vs ws : List V} {ds es : List D}, DvA K P H vs ds → DvA K P H ws es → DvA K P H (vs ++ ws) (ds ++ es)
  | _, _, _, _, .nil, h => h
  | _, _, _, _, .cons h1 h2, h => .cons h1 (h2.app h)
theorem DvA.set {v : V} {d : D} (hv : Dv K P H v d) : ∀ {vs : List V} {ds : List D} (i : Nat), DvA K P H vs ds → DvA K P H (vs.set i v) (ds.set i d)
  | _, _, _, .nil => .nil
  | _, _, 0, .cons _ t => .cons hv t
  | _, _, i + 1, .cons q t => .cons q (DvA.set hv i t)
theorem DvA.take : ∀ {vs : List V} {ds : List D} (n : Nat), DvA K P H vs ds → DvA K P H (vs.take n) (ds.take n)
  | _, _, 0, _ => .nil
  | _, _, _ + 1, .nil => .nil
  | _, _, n + 1, .cons r t => .cons r (DvA.take n t)
theorem DvA.drop : ∀ {vs : List V} {ds : List D} (n : Nat), DvA K P H vs ds → DvA K P H (vs.drop n) (ds.drop n)
  | _, _, 0, r => r
  | _, _, _ + 1, .nil => .nil
  | _, _, n + 1, .cons _ t => DvA.drop n t
/-- lists of texts, of ints, of bools -/
theorem DvA.strs : ∀ {vs : List V} {xs : List Str}, DvA K P H vs (xs.map PyData.str) → vs = xs.map V.str
  | _, [], .nil => rfl
  | _, _ :: _, .cons (.str _) h => congrArg _ h.strs
theorem DvA.ints : ∀ {vs : List V} {xs : List Int}, DvA K P H vs (xs.map PyData.int) → vs = xs.map V.int
  | _, [], .nil => rfl
  | _, _ :: _, .cons (.int _) h => congrArg _ h.ints
theorem DvA.bls : ∀ {vs : List V} {xs : List Bool}, DvA K P H vs (xs.map PyData.bool) → vs = xs.map V.bl
  | _, [], .nil => rfl
  | _, _ :: _, .cons (.bl _) h => congrArg _ h.bls
theorem DvA.of_strs : ∀ (xs : List Str), DvA K P H (xs.map V.str) (xs.map PyData.str)
  | [] => .nil
  | x :: r => .cons (.str x) (DvA.of_strs r)
theorem DvA.of_ints : ∀ (xs : List Int), DvA K P H (xs.map V.int) (xs.map PyData.int)
  | [] => .nil
  | x :: r => .cons (.int x) (DvA.of_ints r)
end

/-! ### what is known of the heap -/
/-- F: the objects that never change again; R: the draws' own objects; c: how many draws there were; mo: where the draws stand -/
structure W where
  F : Addr → Prop
  R : List Addr
  H : Hp
  c : Nat
  mo : Option Addr
/-- the draws' invariant, by the objects that it looks at -/
structure MI where
  I : Hp → Addr → Nat → List Addr → Prop
  st : ∀ {H H' : Hp} {a : Addr} {c : Nat} {R : List Addr}, I H a c R → (∀ b ∈ R, H' b = H b) → I H' a c R
  /-- whether the draws have begun for good -/
  must : Prop
structure Gd (M : MI) (w : W) : Prop where
  mi : ∀ a, w.mo = some a → M.I w.H a w.c w.R
  r0 : w.mo = none → w.R = []
  nz : M.must → w.mo ≠ none
  tr : ∀ b ∈ w.R, w.H b ≠ none ∧ ¬ w.F b
  tf : ∀ a, w.F a → w.H a ≠ none
/-- one world leads to another one: what is tracked stays, but the draws' own -/
structure Stp (w w' : W) : Prop where
  f1 : ∀ a, w.F a → w'.F a
  f2 : ∀ a, w'.F a → w.F a ∨ w.H a = none
  k : ∀ a o, w.H a = some o → a ∉ w.R → w'.H a = some o
  t : ∀ a, w.H a ≠ none → w'.H a ≠ none
  r : ∀ a ∈ w'.R, a ∈ w.R ∨ w.H a = none
  m : ∀ a, w.mo = some a → w'.mo = some a
theorem Stp.refl (w : W) : Stp w w := ⟨fun _ h => h, fun _ h => .inl h, fun _ _ h _ => h, fun _ h => h, fun _ h => .inl h, fun _ h => h⟩
theorem nn {w w' : W} (s : Stp w w') {a : Addr} (h : w'.H a = none) : w.H a = none := by
  cases e : w.H a with
  | none => rfl
  | some o => exact absurd h (s.t a (by rw [e]; simp))
theorem Stp.trans {w w1 w2 : W} (a : Stp w w1) (b : Stp w1 w2) : Stp w w2 where
  f1 := fun x h => b.f1 x (a.f1 x h)
  f2 := fun x h => (b.f2 x h).elim (a.f2 x) fun n => .inr (nn a n)
  k := fun x o h hr => b.k x o (a.k x o h hr) fun z => (a.r x z).elim hr fun n => by rw [h] at n; cases n
  t := fun x h => b.t x (a.t x h)
  r := fun x h => (b.r x h).elim (a.r x) fun n => .inr (nn a n)
  m := fun x h => b.m x (a.m x h)
/-- what stays, across statements -/
structure Fk (w w' : W) : Prop where
  f1 : ∀ a, w.F a → w'.F a
  k : ∀ a o, w.F a → w.H a = some o → w'.H a = some o
  m : ∀ a, w.mo = some a → w'.mo = some a
theorem Fk.refl (w : W) : Fk w w := ⟨fun _ h => h, fun _ _ _ h => h, fun _ h => h⟩
theorem Fk.trans {w w1 w2 : W} (a : Fk w w1) (b : Fk w1 w2) : Fk w w2 := ⟨fun x h => b.f1 x (a.f1 x h), fun x o f h => b.k x o (a.f1 x f) (a.k x o f h), fun x h => b.m x (a.m x h)⟩
section
variable {K : PySem.W.Frag} {M : MI} {w w' : W}
theorem Stp.fk (s : Stp w w') (g : Gd M w) : Fk w w' := ⟨s.f1, fun a o f h => s.k a o h fun z => (g.tr a z).2 f, s.m⟩
theorem Dv.fk {v : V} {d : D} (s : Fk w w') (h : Dv K w.F w.H v d) : Dv K w'.F w'.H v d := h.up s.f1 s.k
theorem DvA.fk {v : List V} {d : List D} (s : Fk w w') (h : DvA K w.F w.H v d) : DvA K w'.F w'.H v d := h.up s.f1 s.k
theorem DvK.fk {v : List (Key × V)} {d : List (D × D)} (s : Fk w w') (h : DvK K w.F w.H v d) : DvK K w'.F w'.H v d := h.up s.f1 s.k
/-- a datum that may be looked at: its root may be an object that still changes -/
inductive DvB (K : PySem.W.Frag) (w : W) : V → D → Prop
  | of {v : V} {d : D} : Dv K w.F w.H v d → DvB K w v d
  | lst {a : Addr} {vs : List V} {ds : List D} : w.H a = some (.lst vs) → a ∉ w.R → DvA K w.F w.H vs ds → DvB K w (.ref a) (.list ds)
  | dic {a : Addr} {kvs : List (Key × V)} {ds : List (D × D)} : w.H a = some (.dK kvs) → a ∉ w.R → DvK K w.F w.H kvs ds → DvB K w (.ref a) (.dict ds)
theorem r_up (s : Stp w w') {a : Addr} {o : HO} (h : w.H a = some o) (n : a ∉ w.R) : a ∉ w'.R := fun z => (s.r a z).elim n fun e => by rw [h] at e; cases e
theorem DvB.stp {v : V} {d : D} (s : Stp w w') (g : Gd M w) : DvB K w v d → DvB K w' v d
  | .of h => .of (h.fk (s.fk g))
  | .lst h n e => .lst (s.k _ _ h n) (r_up s h n) (e.fk (s.fk g))
  | .dic h n e => .dic (s.k _ _ h n) (r_up s h n) (e.fk (s.fk g))
theorem DvB.seqL {v : V} {ds : List D} (h : DvB K w v (.list ds)) : ∃ a vs, v = .ref a ∧ SqL K w.H a vs ∧ DvA K w.F w.H vs ds := by
  cases h with
  | of h => cases h with | lst h2 h3 => exact ⟨_, _, rfl, h2.sq, h3⟩
  | lst h _ e => exact ⟨_, _, rfl, .of h, e⟩
theorem DvB.seqT {v : V} {ds : List D} (h : DvB K w v (.tuple ds)) : ∃ a vs, v = .ref a ∧ SqT K w.H a vs ∧ DvA K w.F w.H vs ds := by
  cases h with
  | of h => cases h with | tup h2 h3 => exact ⟨_, _, rfl, h2.sq, h3⟩
theorem DvB.dict {v : V} {ds : List (D × D)} (h : DvB K w v (.dict ds)) : ∃ a kvs, v = .ref a ∧ Rd w.H a (.dK kvs) ∧ DvK K w.F w.H kvs ds := by
  cases h with
  | of h => cases h with | dic _ h2 h3 => exact ⟨_, _, rfl, h2, h3⟩
  | dic h _ e => exact ⟨_, _, rfl, .inl h, e⟩
theorem DvB.str {v : V} {x : Str} (h : DvB K w v (.str x)) : v = .str x := by
  cases h with
  | of h => cases h; rfl
theorem DvB.int {v : V} {x : Int} (h : DvB K w v (.int x)) : v = .int x := by
  cases h with
  | of h => cases h; rfl
theorem DvB.bl {v : V} {x : Bool} (h : DvB K w v (.bool x)) : v = .bl x := by
  cases h with
  | of h => cases h; rfl
theorem DvB.non {v : V} (h : DvB K w v .none) : v = .non := by
  cases h with
  | of h => cases h; rfl
end
/-- a new object, never to change again -/
def W.new (w : W) (p : Addr) (o : HO) : W := { w with F := fun a => w.F a ∨ a = p, H := upd w.H p o }
/-- a new object -/
def W.own (w : W) (p : Addr) (o : HO) : W := { w with H := upd w.H p o }
section
variable {M : MI} {w : W} {p : Addr} {o : HO}
theorem r_free (g : Gd M w) (h : w.H p = none) : p ∉ w.R := fun z => (g.tr p z).1 h
theorem upd_some {H : Hp} {p a : Addr} {o : HO} (h : H a ≠ none) : upd H p o a ≠ none := by
  by_cases z : a = p
  · rw [z, upd_same]; simp
  · rw [upd_ne z]; exact h
theorem gd_own (g : Gd M w) (h : w.H p = none) : Gd M (w.own p o) :=
  ⟨fun a e => M.st (g.mi a e) fun b hb => upd_ne fun z => r_free g h (z ▸ hb), g.r0, g.nz, fun b hb => ⟨upd_some (g.tr b hb).1, (g.tr b hb).2⟩, fun a f => upd_some (g.tf a f)⟩
theorem stp_own (h : w.H p = none) : Stp w (w.own p o) :=
  ⟨fun _ f => f, fun _ f => .inl f, fun a u e _ => by show upd w.H p o a = _; rw [upd_ne (ne_of_none e h)]; exact e,
   fun a e => upd_some e, fun _ f => .inl f, fun _ f => f⟩
theorem gd_new (g : Gd M w) (h : w.H p = none) : Gd M (w.new p o) := by
  have q := gd_own (o := o) g h
  exact ⟨q.mi, q.r0, q.nz, fun b hb => ⟨(q.tr b hb).1, fun z => z.elim (q.tr b hb).2 fun e => r_free g h (e ▸ hb)⟩, fun a f => f.elim (q.tf a) fun e => by rw [e]; show upd w.H p o p ≠ none; rw [upd_same]; simp⟩
theorem stp_new (h : w.H p = none) : Stp w (w.new p o) := by
  have q := stp_own (o := o) h
  exact ⟨fun _ f => .inl f, fun a f => f.elim .inl fun e => .inr (e ▸ h), q.k, q.t, fun _ f => .inl f, fun _ f => f⟩
theorem new_at : (w.new p o).H p = some o := upd_same
theorem own_at : (w.own p o).H p = some o := upd_same
theorem new_F : (w.new p o).F p := .inr rfl
end
end HW

namespace HW
open PySem L2
/-- what a slot bears: unknown; a datum; a list, a dict of the def's own, which may still change; the draws -/
inductive En where
  | un
  | im (d : D)
  | ls (ds : List D)
  | dc (ds : List (D × D))
  | dl (ds : List (D × List D))
  | dt (ds : List (List Key × D))
  | st
def En.mut : En → Bool
  | .ls _ => true
  | .dc _ => true
  | .dl _ => true
  | .dt _ => true
  | _ => false
def En.look : En → Option D
  | .im d => some d
  | .ls ds => some (.list ds)
  | .dc ds => some (.dict ds)
  | _ => none
/-- the lists of a dict of one's own lists -/
inductive DlOk (K : PySem.W.Frag) (w : W) : List (Key × V) → List (D × List D) → Prop
  | nil : DlOk K w [] []
  | cons {k : Key} {b : Addr} {us : List V} {es : List D} {r : List (Key × V)} {s : List (D × List D)} : w.H b = some (.lst us) → ¬ w.F b → b ∉ w.R → DvA K w.F w.H us es → (∀ k', (k', V.ref b) ∉ r) → DlOk K w r s → DlOk K w ((k, .ref b) :: r) ((kD k, es) :: s)
section
variable (K : PySem.W.Frag) (w : W)
def EnOk (s : Option (Option V)) : En → Prop
  | .un => True
  | .im d => ∃ v, s = some (some v) ∧ Dv K w.F w.H v d
  | .ls ds => ∃ a vs, s = some (some (.ref a)) ∧ w.H a = some (.lst vs) ∧ ¬ w.F a ∧ a ∉ w.R ∧ DvA K w.F w.H vs ds
  | .dc ds => ∃ a kvs, s = some (some (.ref a)) ∧ w.H a = some (.dK kvs) ∧ ¬ w.F a ∧ a ∉ w.R ∧ DvK K w.F w.H kvs ds
  | .dt ds => ∃ a kvs, s = some (some (.ref a)) ∧ w.H a = some (.dT kvs) ∧ ¬ w.F a ∧ a ∉ w.R ∧ (kvs.map Prod.fst = ds.map Prod.fst ∧ DvA K w.F w.H (kvs.map Prod.snd) (ds.map Prod.snd))
  | .dl ds => ∃ a kvs, s = some (some (.ref a)) ∧ w.H a = some (.dK kvs) ∧ ¬ w.F a ∧ a ∉ w.R ∧ DlOk K w kvs ds
  | .st => ∃ a, s = some (some (.ref a)) ∧ w.mo = some a
/-- the objects that hang on what stands in a slot -/
def Sub (e : En) (p a : Addr) : Prop := a = p ∨ ∃ ds kvs k, e = .dl ds ∧ w.H p = some (.dK kvs) ∧ (k, V.ref a) ∈ kvs
def Own (σ : L2.St) (ρ : List En) (i : Nat) (a : Addr) : Prop := ∃ p e, σ[i]? = some (some (.ref p)) ∧ ρ[i]? = some e ∧ e.mut = true ∧ Sub w e p a
structure EnvOk (σ : L2.St) (ρ : List En) : Prop where
  len : σ.length = ρ.length
  ok : ∀ (i : Nat) (e : En), ρ[i]? = some e → EnOk K w σ[i]? e
  ap : ∀ (i j : Nat) (a : Addr), Own w σ ρ i a → Own w σ ρ j a → i = j
end
section
variable {K : PySem.W.Frag} {M : MI} {w w' : W} {σ : L2.St} {ρ : List En}
theorem DlOk.stp (st : Stp w w') (g : Gd M w) : ∀ {kvs : List (Key × V)} {ds : List (D × List D)}, DlOk K w kvs ds → DlOk K w' kvs ds
  | _, _, .nil => .nil
  | _, _, .cons h1 h2 h3 h4 h5 h6 => .cons (st.k _ _ h1 h3) (fun z => (st.f2 _ z).elim h2 fun n => (by rw [h1] at n; cases n)) (r_up st h1 h3) (h4.fk (st.fk g)) h5 (h6.stp st g)
theorem DlOk.dvk (hf : ∀ a, w.F a → w.H a ≠ none) (w2 : W) (e : w2.H = w.H) (f : ∀ a, w.F a → w2.F a) : ∀ {kvs : List (Key × V)} {ds : List (D × List D)}, DlOk K w kvs ds → (∀ k b, (k, V.ref b) ∈ kvs → w2.F b) → DvK K w2.F w2.H kvs (ds.map fun p => (p.1, PyData.list p.2))
  | _, _, .nil, _ => .nil
  | _, _, .cons h1 h2 h3 h4 h5 h6, h => .cons (.lst (.inl ⟨h _ _ List.mem_cons_self, by rw [e]; exact .of h1⟩) (h4.up f fun a o _ q => by rw [e]; exact q)) (DlOk.dvk hf w2 e f h6 fun k b m => h k b (List.mem_cons_of_mem _ m))
theorem EnOk.stp {s : Option (Option V)} {e : En} (st : Stp w w') (g : Gd M w) (h : EnOk K w s e) : EnOk K w' s e := by
  cases e with
  | un => exact True.intro
  | im d => obtain ⟨v, h1, h2⟩ := h; exact ⟨v, h1, h2.fk (st.fk g)⟩
  | ls ds =>
    obtain ⟨a, vs, h1, h2, h3, h4, h5⟩ := h
    exact ⟨a, vs, h1, st.k _ _ h2 h4, (fun z => (st.f2 a z).elim h3 fun n => (by rw [h2] at n; cases n)), r_up st h2 h4, h5.fk (st.fk g)⟩
  | dc ds =>
    obtain ⟨a, vs, h1, h2, h3, h4, h5⟩ := h
    exact ⟨a, vs, h1, st.k _ _ h2 h4, (fun z => (st.f2 a z).elim h3 fun n => (by rw [h2] at n; cases n)), r_up st h2 h4, h5.fk (st.fk g)⟩
  | dl ds =>
    obtain ⟨a, vs, h1, h2, h3, h4, h5⟩ := h
    exact ⟨a, vs, h1, st.k _ _ h2 h4, (fun z => (st.f2 a z).elim h3 fun n => (by rw [h2] at n; cases n)), r_up st h2 h4, h5.stp st g⟩
  | dt ds =>
    obtain ⟨a, vs, h1, h2, h3, h4, h5, h6⟩ := h
    exact ⟨a, vs, h1, st.k _ _ h2 h4, (fun z => (st.f2 a z).elim h3 fun n => (by rw [h2] at n; cases n)), r_up st h2 h4, h5, h6.fk (st.fk g)⟩
  | st => obtain ⟨a, h1, h2⟩ := h; exact ⟨a, h1, st.m a h2⟩
/-- what hangs on a slot does so in a later world -/
theorem Own.back (h : ∀ (i : Nat) (e : En), ρ[i]? = some e → EnOk K w σ[i]? e) (st : Stp w w') {i : Nat} {a : Addr} (o : Own w' σ ρ i a) : Own w σ ρ i a := by
  obtain ⟨p, e, h1, h2, h3, h4⟩ := o
  refine ⟨p, e, h1, h2, h3, ?_⟩
  rcases h4 with h4 | ⟨ds, kvs, k, rfl, h5, h6⟩
  · exact .inl h4
  · obtain ⟨q, kv, e1, e2, _, e4, _⟩ := h i _ h2
    rw [h1] at e1
    cases e1
    have e5 := st.k _ _ e2 e4
    rw [h5] at e5
    cases e5
    exact .inr ⟨ds, kvs, k, rfl, e2, h6⟩
theorem EnvOk.stp (st : Stp w w') (g : Gd M w) (h : EnvOk K w σ ρ) : EnvOk K w' σ ρ := ⟨h.len, fun i e q => (h.ok i e q).stp st g, fun i j a o1 o2 => h.ap i j a (Own.back h.ok st o1) (Own.back h.ok st o2)⟩
theorem EnvOk.look {i : Nat} {e : En} {d : D} (h : EnvOk K w σ ρ) (q : ρ[i]? = some e) (l : e.look = some d) : ∃ v, σ[i]? = some (some v) ∧ DvB K w v d := by
  have z := h.ok i e q
  cases e with
  | un => cases l
  | im d' => cases l; obtain ⟨v, h1, h2⟩ := z; exact ⟨v, h1, .of h2⟩
  | ls ds => cases l; obtain ⟨a, vs, h1, h2, h3, h4, h5⟩ := z; exact ⟨_, h1, .lst h2 h4 h5⟩
  | dc ds => cases l; obtain ⟨a, vs, h1, h2, h3, h4, h5⟩ := z; exact ⟨_, h1, .dic h2 h4 h5⟩
  | dl ds => cases l
  | dt ds => cases l
  | st => cases l
end

/-! ### readings by words over data -/
abbrev WE := List En → Nat → (D → Nat → Prop) → Prop
abbrev WT := List En → Nat → (Bool → Nat → Prop) → Prop
abbrev WA := List En → Nat → (List D → Nat → Prop) → Prop
section
variable (M : MI) (K : PySem.W.Frag)
def tE (we : WE) : TE := fun σ H Q => ∃ (w : W) (ρ : List En) (Qd : D → Nat → Prop), w.H = H ∧ EnvOk K w σ ρ ∧ Gd M w ∧ we ρ w.c Qd ∧
  ∀ (w' : W) (v : V) (d : D), Stp w w' → Gd M w' → Dv K w'.F w'.H v d → Qd d w'.c → Q v w'.H
def tB (we : WE) : TE := fun σ H Q => ∃ (w : W) (ρ : List En) (Qd : D → Nat → Prop), w.H = H ∧ EnvOk K w σ ρ ∧ Gd M w ∧ we ρ w.c Qd ∧
  ∀ (w' : W) (v : V) (d : D), Stp w w' → Gd M w' → DvB K w' v d → Qd d w'.c → Q v w'.H
def tT (wt : WT) : TT := fun σ H Q => ∃ (w : W) (ρ : List En) (Qd : Bool → Nat → Prop), w.H = H ∧ EnvOk K w σ ρ ∧ Gd M w ∧ wt ρ w.c Qd ∧
  ∀ (w' : W) (b : Bool), Stp w w' → Gd M w' → Qd b w'.c → Q b w'.H
def tAs (wa : WA) : TA := fun σ H Q => ∃ (w : W) (ρ : List En) (Qd : List D → Nat → Prop), w.H = H ∧ EnvOk K w σ ρ ∧ Gd M w ∧ wa ρ w.c Qd ∧
  ∀ (w' : W) (vs : List V) (ds : List D), Stp w w' → Gd M w' → DvA K w'.F w'.H vs ds → Qd ds w'.c → Q vs w'.H
end
theorem PE.imp {X : Cx} {e : Expr} {t t' : TE} (h : PE X e t) (i : ∀ σ H Q, t' σ H Q → t σ H Q) : PE X e t' := ⟨fun p s σ H Q I q => h.run p s σ H Q I (i σ H Q q)⟩
theorem PT.imp {X : Cx} {e : Expr} {t t' : TT} (h : PT X e t) (i : ∀ σ H Q, t' σ H Q → t σ H Q) : PT X e t' := ⟨fun p s σ H Q I q => h.run p s σ H Q I (i σ H Q q)⟩
theorem PW.imp {X : Cx} {e : Expr} {t t' : TT} (h : PW X e t) (i : ∀ σ H Q, t' σ H Q → t σ H Q) : PW X e t' := ⟨fun wh p s σ H Q I q => h.run wh p s σ H Q I (i σ H Q q)⟩
theorem PA.imp {X : Cx} {e : List Expr} {t t' : TA} (h : PA X e t) (i : ∀ σ H Q, t' σ H Q → t σ H Q) : PA X e t' := ⟨fun po p s σ H Q I q => h.run po p s σ H Q I (i σ H Q q)⟩
theorem PS.imp {X : Cx} {e : Stmt} {t t' : TS} (h : PS X e t) (i : ∀ D σ H, t' D σ H → t D σ H) : PS X e t' := ⟨fun p s σ H Q I q => h.run p s σ H Q I (i Q σ H q)⟩
theorem PSs.imp {X : Cx} {e : List Stmt} {t t' : TS} (h : PSs X e t) (i : ∀ D σ H, t' D σ H → t D σ H) : PSs X e t' := ⟨fun p s σ H Q I q => h.run p s σ H Q I (i Q σ H q)⟩
theorem PI.imp {X : Cx} {tg e : Expr} {t t' : TI} (h : PI X tg e t) (i : ∀ σ H R, t' σ H R → t σ H R) : PI X tg e t' := ⟨fun p s σ H R I q => h.run p s σ H R I (i σ H R q)⟩

section
variable {X : Cx} {M : MI} {e a b : Expr} {we wa wb : WE} {pos : Pos}
/-! ### names and constants -/
def wVar (i : Nat) : WE := fun ρ c Q => ∃ d, ρ[i]? = some (.im d) ∧ Q d c
def wLook (i : Nat) : WE := fun ρ c Q => ∃ e d, ρ[i]? = some e ∧ e.look = some d ∧ Q d c
def wC (d : D) : WE := fun _ c Q => Q d c
theorem e_var {x : Str} {i : Nat} (h : PE X (.Name x pos) (tVar i)) : PE X (.Name x pos) (tE M X.K (wVar i)) := PE.imp h fun σ H Q ⟨w, ρ, Qd, eh, ev, g, ⟨d, q, qd⟩, k⟩ => by
  obtain ⟨v, h1, h2⟩ := ev.ok i _ q
  subst eh
  exact ⟨v, h1, k w v d (Stp.refl w) g h2 qd⟩
theorem b_var {x : Str} {i : Nat} (h : PE X (.Name x pos) (tVar i)) : PE X (.Name x pos) (tB M X.K (wLook i)) := PE.imp h fun σ H Q ⟨w, ρ, Qd, eh, ev, g, ⟨en, d, q, l, qd⟩, k⟩ => by
  obtain ⟨v, h1, h2⟩ := ev.look q l
  subst eh
  exact ⟨v, h1, k w v d (Stp.refl w) g h2 qd⟩
theorem toB (h : PE X e (tE M X.K we)) : PE X e (tB M X.K we) := PE.imp h fun σ H Q ⟨w, ρ, Qd, eh, ev, g, hw, k⟩ => ⟨w, ρ, Qd, eh, ev, g, hw, fun w' v d s g' dv qd => k w' v d s g' (.of dv) qd⟩
theorem e_c {v : V} {d : D} (h : PE X e (tC v)) (hd : ∀ P H, Dv X.K P H v d) : PE X e (tE M X.K (wC d)) := PE.imp h fun σ H Q ⟨w, ρ, Qd, eh, ev, g, qd, k⟩ => by
  subst eh
  exact k w v d (Stp.refl w) g (hd _ _) qd
theorem e_int {i j} : PE X (.Constant (.int i) j pos) (tE M X.K (wC (.int i))) := e_c pe_int fun _ _ => .int i
theorem e_bl {i j} : PE X (.Constant (.bool i) j pos) (tE M X.K (wC (.bool i))) := e_c pe_bl fun _ _ => .bl i
theorem e_non {j} : PE X (.Constant .none j pos) (tE M X.K (wC .none)) := e_c pe_non fun _ _ => .non
theorem e_str {x j} : PE X (.Constant (.str x) j pos) (tE M X.K (wC (.str x))) := e_c pe_str fun _ _ => .str x
theorem e_gint {x : Str} {i : Int} (hg : Gl X x) (hm : ∃ t, X.mg x = some (.int i t)) (hd : (x == ("__debug__" : Str)) = false := by decide) : PE X (.Name x pos) (tE M X.K (wC (.int i))) := by
  obtain ⟨t, hm⟩ := hm
  exact e_c (pe_glob hg hm (v := .int i) ⟨t, rfl⟩ hd) fun _ _ => .int i
theorem e_gstr {x : Str} {i : Str} (hg : Gl X x) (hm : ∃ t, X.mg x = some (.str i t)) (hd : (x == ("__debug__" : Str)) = false := by decide) : PE X (.Name x pos) (tE M X.K (wC (.str i))) := by
  obtain ⟨t, hm⟩ := hm
  exact e_c (pe_glob hg hm (v := .str i) ⟨t, rfl⟩ hd) fun _ _ => .str i

/-! ### operators of two values -/
def wOp (f : D → D → Option D) (wa wb : WE) : WE := fun ρ c Q => wa ρ c fun x c1 => wb ρ c1 fun y c2 => ∃ z, f x y = some z ∧ Q z c2
/-- r serves f -/
def OpD (M : MI) (K : PySem.W.Frag) (r : R2) (f : D → D → Option D) : Prop := ∀ (w : W) (x y : V) (dx dy z : D) (Q : VK), Gd M w → DvB K w x dx → DvB K w y dy → f dx dy = some z →
  (∀ (w' : W) (v : V), Stp w w' → Gd M w' → Dv K w'.F w'.H v z → w'.c = w.c → Q v w'.H) → r x y w.H Q
theorem r_op {r : R2} {f : D → D → Option D} (hf : OpD M X.K r f) : ∀ (σ : L2.St) (H : Hp) (Q : VK), tE M X.K (wOp f wa wb) σ H Q → tOp r (tB M X.K wa) (tB M X.K wb) σ H Q := by
  rintro σ H Q ⟨w, ρ, Qd, eh, ev, g, hw, k⟩
  refine ⟨w, ρ, _, eh, ev, g, hw, fun w1 x dx s1 g1 bx q1 => ?_⟩
  refine ⟨w1, ρ, _, rfl, ev.stp s1 g, g1, q1, fun w2 y dy s2 g2 by' q2 => ?_⟩
  obtain ⟨z, ez, qz⟩ := q2
  refine hf w2 x y dx dy z Q g2 (bx.stp s2 g1) by' ez fun w3 v s3 g3 dv ec => ?_
  exact k w3 v z ((s1.trans s2).trans s3) g3 dv (by rw [ec]; exact qz)
theorem e_op {op : Operator} {r : R2} {f : D → D → Option D} (ho : OpR X (binaryOp op) r) (hf : OpD M X.K r f) (ha : PE X a (tB M X.K wa)) (hb : PE X b (tB M X.K wb)) : PE X (.BinOp a op b pos) (tE M X.K (wOp f wa wb)) :=
  PE.imp (pe_op ho ha hb) (r_op hf)
theorem e_cmp {op : CmpOp} {r : R2} {f : D → D → Option D} (ho : OpR X (compareOp op) r) (hf : OpD M X.K r f) (hm : behindInMarks op b = false) (ha : PE X a (tB M X.K wa)) (hb : PE X b (tB M X.K wb)) : PE X (.Compare a [op] [b] pos) (tE M X.K (wOp f wa wb)) :=
  PE.imp (pe_cmpR ho ha hb hm) (r_op hf)
def wTst (we : WE) : WT := fun ρ c Q => we ρ c fun d c1 => ∃ b, d = .bool b ∧ Q b c1
theorem t_cmp {op : CmpOp} {r : R2} {f : D → D → Option D} (ho : OpR X (compareOp op) r) (hf : OpD M X.K r f) (hm : behindInMarks op b = false) (ha : PE X a (tB M X.K wa)) (hb : PE X b (tB M X.K wb)) : PT X (.Compare a [op] [b] pos) (tT M X.K (wTst (wOp f wa wb))) := by
  refine PT.imp (pt_cmpR ho ha hb hm) ?_
  rintro σ H Q ⟨w, ρ, Qd, eh, ev, g, hw, k⟩
  have z := r_op (X := X) (wa := wa) (wb := wb) hf σ H (fun x H1 => ∃ c, x = .bl c ∧ Q c H1) ⟨w, ρ, _, eh, ev, g, hw, fun w' v d s g' dv ⟨b, ed, qd⟩ => by subst ed; cases dv; exact ⟨b, rfl, k w' b s g' qd⟩⟩
  exact z
/-- a subscript -/
theorem e_ix {r : R2} {f : D → D → Option D} (hr : IxR X r) (hf : OpD M X.K r f) (ha : PE X a (tB M X.K wa)) (hb : PE X b (tB M X.K wb)) (hs : PlainIx b) : PE X (.Subscript a b pos) (tE M X.K (wOp f wa wb)) :=
  PE.imp (pe_ix hr ha hb hs) (r_op hf)
theorem opR_or {f : Value → Value → Sem Value} {r r' : R2} (h : OpR X f r) (h' : OpR X f r') : OpR X f (fun x y H Q => r x y H Q ∨ r' x y H Q) := fun p s σ H x y v u Q I rx ry q => q.elim (h p s σ H x y v u Q I rx ry) (h' p s σ H x y v u Q I rx ry)
theorem ixR_or {r r' : R2} (h : IxR X r) (h' : IxR X r') : IxR X (fun x y H Q => r x y H Q ∨ r' x y H Q) := fun va sl p s σ H x y v u Q I rx ry q e => q.elim (fun q => h va sl p s σ H x y v u Q I rx ry q e) (fun q => h' va sl p s σ H x y v u Q I rx ry q e)
end
end HW

namespace HW
open PySem L2
/-! ### operators over data -/
abbrev LIM : Nat := 16777216
theorem lim_size {n : Nat} (h : n ≤ LIM) : n ≤ sizeLine := by rw [sizeLine_eq]; exact h
section
variable {K : PySem.W.Frag} {M : MI}
/-- a value without a new object -/
theorem keepQ {w : W} {z : D} {v : V} {Q : VK} (g : Gd M w) (hv : Dv K w.F w.H v z) (k : ∀ (w' : W) (v : V), Stp w w' → Gd M w' → Dv K w'.F w'.H v z → w'.c = w.c → Q v w'.H) : Q v w.H := k w v (Stp.refl w) g hv rfl
/-- a new object -/
theorem newQ {w : W} {z : D} {p : Addr} {o : HO} {Q : VK} (g : Gd M w) (hp : w.H p = none) (hv : Dv K (w.new p o).F (w.new p o).H (.ref p) z) (k : ∀ (w' : W) (v : V), Stp w w' → Gd M w' → Dv K w'.F w'.H v z → w'.c = w.c → Q v w'.H) : Q (.ref p) (upd w.H p o) :=
  k (w.new p o) (.ref p) (stp_new hp) (gd_new g hp) hv rfl
theorem new_lst {w : W} {p : Addr} {vs : List V} {ds : List D} (g : Gd M w) (hp : w.H p = none) (h : DvA K w.F w.H vs ds) : Dv K (w.new p (.lst vs)).F (w.new p (.lst vs)).H (.ref p) (.list ds) :=
  .lst (.inl ⟨new_F, .of new_at⟩) (h.fk ((stp_new hp).fk g))
theorem new_tup {w : W} {p : Addr} {vs : List V} {ds : List D} (g : Gd M w) (hp : w.H p = none) (h : DvA K w.F w.H vs ds) : Dv K (w.new p (.tup vs)).F (w.new p (.tup vs)).H (.ref p) (.tuple ds) :=
  .tup (.inl ⟨new_F, .of new_at⟩) (h.fk ((stp_new hp).fk g))

/-! + -/
def addD : D → D → Option D
  | .int i, .int j => some (.int (i + j))
  | .str a, .str b => if a.length + b.length ≤ LIM then some (.str (a ++ b)) else none
  | _, _ => none
def rAdd : R2 := fun x y H Q => rI0 (fun i j => .int (i + j)) x y H Q ∨ ∃ i j, x = .str i ∧ y = .str j ∧ i.length + j.length ≤ sizeLine ∧ Q (.str (i ++ j)) H
theorem o_add {X : Cx} : OpR X (binaryOp .Add) rAdd := opR_or op_add op_add_str
theorem d_add : OpD M K rAdd addD := fun w x y dx dy z Q g hx hy e k => by
  cases dx <;> cases dy <;> simp only [addD, reduceCtorEq] at e
  · cases e; cases hx.int; cases hy.int
    exact .inl ⟨_, _, rfl, rfl, keepQ g (.int _) k⟩
  · split at e
    · cases e; cases hx.str; cases hy.str
      exact .inr ⟨_, _, rfl, rfl, lim_size (by assumption), keepQ g (.str _) k⟩
    · cases e
/-- lists -/
def catD : D → D → Option D
  | .list a, .list b => if a.length + b.length ≤ LIM then some (.list (a ++ b)) else none
  | _, _ => none
theorem d_cat : OpD M K (fun x y H Q => ∃ l b xs zs, x = .ref l ∧ y = .ref b ∧ SqL K H l xs ∧ SqL K H b zs ∧ xs.length + zs.length ≤ sizeLine ∧ ∀ p, H p = none → Q (.ref p) (upd H p (.lst (xs ++ zs)))) catD := fun w x y dx dy z Q g hx hy e k => by
  cases dx <;> cases dy <;> simp only [catD, reduceCtorEq] at e
  split at e
  · cases e
    obtain ⟨a, vs, rfl, h1, h2⟩ := hx.seqL
    obtain ⟨b, us, rfl, h3, h4⟩ := hy.seqL
    refine ⟨a, b, vs, us, rfl, rfl, h1, h3, lim_size (by rw [h2.length, h4.length]; assumption), fun p hp => newQ g hp (new_lst g hp (h2.app h4)) k⟩
  · cases e

/-! - * % // ** -/
def subD : D → D → Option D
  | .int i, .int j => some (.int (i - j))
  | _, _ => none
theorem d_sub : OpD M K (rI0 fun i j => .int (i - j)) subD := fun w x y dx dy z Q g hx hy e k => by
  cases dx <;> cases dy <;> simp only [subD, reduceCtorEq] at e
  cases e; cases hx.int; cases hy.int
  exact ⟨_, _, rfl, rfl, keepQ g (.int _) k⟩
def mulD : D → D → Option D
  | .int i, .int j => if (-(2 ^ 64) < i ∧ i < 2 ^ 64) ∨ (-(2 ^ 64) < j ∧ j < 2 ^ 64) then some (.int (i * j)) else none
  | _, _ => none
theorem d_mul : OpD M K (rI CMul fun i j => .int (i * j)) mulD := fun w x y dx dy z Q g hx hy e k => by
  cases dx <;> cases dy <;> simp only [mulD, reduceCtorEq] at e
  split at e
  · cases e; cases hx.int; cases hy.int
    exact ⟨_, _, rfl, rfl, by assumption, keepQ g (.int _) k⟩
  · cases e
def modD : D → D → Option D
  | .int i, .int j => if 0 < j then some (.int (i % j)) else none
  | _, _ => none
theorem d_mod : OpD M K (rI (fun _ j => 0 < j) fun i j => .int (i % j)) modD := fun w x y dx dy z Q g hx hy e k => by
  cases dx <;> cases dy <;> simp only [modD, reduceCtorEq] at e
  split at e
  · cases e; cases hx.int; cases hy.int
    exact ⟨_, _, rfl, rfl, by assumption, keepQ g (.int _) k⟩
  · cases e
def powD : D → D → Option D
  | .int i, .int j => if 0 ≤ j ∧ j ≤ 1000000 ∧ i.natAbs < 2 ^ 64 then some (.int (i ^ j.toNat)) else none
  | _, _ => none
theorem d_pow : OpD M K (rI CPow fun i j => .int (i ^ j.toNat)) powD := fun w x y dx dy z Q g hx hy e k => by
  cases dx <;> cases dy <;> simp only [powD, reduceCtorEq] at e
  split at e
  · cases e; cases hx.int; cases hy.int
    exact ⟨_, _, rfl, rfl, by assumption, keepQ g (.int _) k⟩
  · cases e

/-! < <= > >= -/
def ltD : D → D → Option D
  | .int i, .int j => some (.bool (decide (i < j)))
  | .str a, .str b => some (.bool (decide (a.cps.toList < b.cps.toList)))
  | _, _ => none
def leD : D → D → Option D
  | .int i, .int j => some (.bool (decide (i ≤ j)))
  | _, _ => none
def gtD : D → D → Option D
  | .int i, .int j => some (.bool (decide (j < i)))
  | _, _ => none
def geD : D → D → Option D
  | .int i, .int j => some (.bool (decide (j ≤ i)))
  | _, _ => none
def rLt : R2 := fun x y H Q => rI0 (fun i j => .bl (decide (i < j))) x y H Q ∨ ∃ i j, x = .str i ∧ y = .str j ∧ Q (.bl (decide (i.cps.toList < j.cps.toList))) H
theorem o_lt {X : Cx} : OpR X (compareOp .Lt) rLt := opR_or op_lt op_lt_str
theorem d_lt : OpD M K rLt ltD := fun w x y dx dy z Q g hx hy e k => by
  cases dx <;> cases dy <;> simp only [ltD, reduceCtorEq] at e
  · cases e; cases hx.int; cases hy.int
    exact .inl ⟨_, _, rfl, rfl, keepQ g (.bl _) k⟩
  · cases e; cases hx.str; cases hy.str
    exact .inr ⟨_, _, rfl, rfl, keepQ g (.bl _) k⟩
theorem d_le : OpD M K (rI0 fun i j => .bl (decide (i ≤ j))) leD := fun w x y dx dy z Q g hx hy e k => by
  cases dx <;> cases dy <;> simp only [leD, reduceCtorEq] at e
  cases e; cases hx.int; cases hy.int
  exact ⟨_, _, rfl, rfl, keepQ g (.bl _) k⟩
theorem d_gt : OpD M K (rI0 fun i j => .bl (decide (j < i))) gtD := fun w x y dx dy z Q g hx hy e k => by
  cases dx <;> cases dy <;> simp only [gtD, reduceCtorEq] at e
  cases e; cases hx.int; cases hy.int
  exact ⟨_, _, rfl, rfl, keepQ g (.bl _) k⟩
theorem d_ge : OpD M K (rI0 fun i j => .bl (decide (j ≤ i))) geD := fun w x y dx dy z Q g hx hy e k => by
  cases dx <;> cases dy <;> simp only [geD, reduceCtorEq] at e
  cases e; cases hx.int; cases hy.int
  exact ⟨_, _, rfl, rfl, keepQ g (.bl _) k⟩

/-! == != -/
mutual
/-- without a dict -/
def flt : D → Bool
  | .list xs => fltA xs
  | .tuple xs => fltA xs
  | .dict _ => false
  | _ => true
def fltA : List D → Bool
  | [] => true
  | d :: r => flt d && fltA r
end
mutual
theorem Dv.dp {P : Addr → Prop} {H : Hp} : ∀ {v : V} {d : D}, Dv K P H v d → flt d = true → Dp K H v d
  | _, _, .non, _ => .non
  | _, _, .bl b, _ => .bl b
  | _, _, .int b, _ => .int b
  | _, _, .str b, _ => .str b
  | _, _, .lst h2 h3, h => .lst h2.sq (DvA.dp h3 (by simpa only [flt] using h))
  | _, _, .tup h2 h3, h => .tup h2.sq (DvA.dp h3 (by simpa only [flt] using h))
  | _, _, .dic _ _ _, h => by simp only [flt, Bool.false_eq_true] at h
theorem DvA.dp {P : Addr → Prop} {H : Hp} : ∀ {v : List V} {d : List D}, DvA K P H v d → fltA d = true → DpAll K H v d
  | _, _, .nil, _ => .nil
  | _, _, .cons h1 h2, h => by
    simp only [fltA, Bool.and_eq_true] at h
    exact .cons (Dv.dp h1 h.1) (DvA.dp h2 h.2)
end
theorem DvB.dp {w : W} {v : V} {d : D} (h : DvB K w v d) (f : flt d = true) : Dp K w.H v d := by
  cases h with
  | of h => exact h.dp f
  | lst h1 _ h3 => exact .lst (.of h1) (h3.dp (by simpa only [flt] using f))
  | dic _ _ _ => simp only [flt, Bool.false_eq_true] at f
def eqD (x y : D) : Option D := if flt x = true ∧ flt y = true ∧ SeqAt.shaped x = true ∧ SeqAt.shaped y = true then some (.bool (PyData.eqv x y)) else none
def neD (x y : D) : Option D := if flt x = true ∧ flt y = true ∧ SeqAt.shaped x = true ∧ SeqAt.shaped y = true then some (.bool (!PyData.eqv x y)) else none
theorem d_eq : OpD M K (rEqD K) eqD := fun w x y dx dy z Q g hx hy e k => by
  unfold eqD at e
  split at e
  · rename_i h
    cases e
    exact ⟨dx, dy, hx.dp h.1, hy.dp h.2.1, h.2.2.1, h.2.2.2, keepQ g (.bl _) k⟩
  · cases e
theorem d_ne : OpD M K (rNeD K) neD := fun w x y dx dy z Q g hx hy e k => by
  unfold neD at e
  split at e
  · rename_i h
    cases e
    exact ⟨dx, dy, hx.dp h.1, hy.dp h.2.1, h.2.2.1, h.2.2.2, keepQ g (.bl _) k⟩
  · cases e
/-! is None -/
def isNn : D → Bool
  | .none => true
  | _ => false
theorem Dv.non_iff {P : Addr → Prop} {H : Hp} {v : V} {d : D} (h : Dv K P H v d) : decide (v = V.non) = isNn d := by
  cases h <;> rfl
theorem DvB.non_iff {w : W} {v : V} {d : D} (h : DvB K w v d) : decide (v = V.non) = isNn d := by
  cases h with
  | of h => exact h.non_iff
  | lst _ _ _ => rfl
  | dic _ _ _ => rfl
def isD (neg : Bool) (x y : D) : Option D := if isNn y = true then some (.bool (if neg then !isNn x else isNn x)) else none
theorem d_is : OpD M K (fun x y H Q => y = .non ∧ Q (.bl (decide (x = .non))) H) (isD false) := fun w x y dx dy z Q g hx hy e k => by
  unfold isD at e
  split at e
  · rename_i h
    cases e
    have h2 : y = .non := by have := hy.non_iff; rw [h] at this; exact of_decide_eq_true this
    refine ⟨h2, ?_⟩
    rw [hx.non_iff]
    exact keepQ g (.bl _) k
  · cases e
theorem d_isn : OpD M K (fun x y H Q => y = .non ∧ Q (.bl (!decide (x = .non))) H) (isD true) := fun w x y dx dy z Q g hx hy e k => by
  unfold isD at e
  split at e
  · rename_i h
    cases e
    have h2 : y = .non := by have := hy.non_iff; rw [h] at this; exact of_decide_eq_true this
    refine ⟨h2, ?_⟩
    rw [hx.non_iff]
    exact keepQ g (.bl _) k
  · cases e
/-! in -/
def inS (a b : Str) : Bool := !(Builtin.Str.occurrences b a 0 b.length 1).isEmpty
theorem inS_one (c : Nat) (z : Str) : inS ⟨#[c]⟩ z = decide (c ∈ z.cps.toList) := (PySem.StrLaws.found_one z c)
def strsOf : List D → Option (List Str)
  | [] => some []
  | .str x :: r => (strsOf r).map (x :: ·)
  | _ :: _ => none
def intsOf : List D → Option (List Int)
  | [] => some []
  | .int x :: r => (intsOf r).map (x :: ·)
  | _ :: _ => none
theorem strsOf_some : ∀ {ds : List D} {xs : List Str}, strsOf ds = some xs → ds = xs.map PyData.str
  | [], xs, h => by cases h; rfl
  | d :: r, xs, h => by
    cases d <;> simp only [strsOf, reduceCtorEq] at h
    obtain ⟨ys, h1, h2⟩ := Option.map_eq_some_iff.mp h
    subst h2
    rw [strsOf_some h1]
    rfl
theorem intsOf_some : ∀ {ds : List D} {xs : List Int}, intsOf ds = some xs → ds = xs.map PyData.int
  | [], xs, h => by cases h; rfl
  | d :: r, xs, h => by
    cases d <;> simp only [intsOf, reduceCtorEq] at h
    obtain ⟨ys, h1, h2⟩ := Option.map_eq_some_iff.mp h
    subst h2
    rw [intsOf_some h1]
    rfl
theorem strsOf_map : ∀ (xs : List Str), strsOf (xs.map PyData.str) = some xs
  | [] => rfl
  | x :: r => by show (strsOf (r.map PyData.str)).map (x :: ·) = _; rw [strsOf_map r]; rfl
theorem intsOf_map : ∀ (xs : List Int), intsOf (xs.map PyData.int) = some xs
  | [] => rfl
  | x :: r => by show (intsOf (r.map PyData.int)).map (x :: ·) = _; rw [intsOf_map r]; rfl
theorem inV_str (a : Str) : ∀ xs : List Str, inV (.str a) (xs.map V.str) = decide (a ∈ xs)
  | [] => by simp [inV]
  | x :: r => by
    have h := inV_str a r
    unfold inV at h ⊢
    rw [List.map_cons, List.any_cons, h]
    by_cases e : x = a
    · subst e; simp [eqV]
    · have e' : ¬ a = x := fun z => e z.symm
      simp [eqV, e, e']
theorem inV_int (a : Int) : ∀ xs : List Int, inV (.int a) (xs.map V.int) = decide (a ∈ xs)
  | [] => by simp [inV]
  | x :: r => by
    have h := inV_int a r
    unfold inV at h ⊢
    rw [List.map_cons, List.any_cons, h]
    by_cases e : x = a
    · subst e; simp [eqV]
    · have e' : ¬ a = x := fun z => e z.symm
      simp [eqV, e, e']
theorem flat_strs (xs : List Str) : (xs.map V.str).all flatV = true := by simp [flatV]
theorem flat_ints (xs : List Int) : (xs.map V.int).all flatV = true := by simp [flatV]
def seqD : D → Option (List D)
  | .list xs => some xs
  | .tuple xs => some xs
  | _ => none
theorem DvB.seq {w : W} {v : V} {d : D} {ds : List D} (h : DvB K w v d) (e : seqD d = some ds) : ∃ a vs, v = .ref a ∧ (SqL K w.H a vs ∨ SqT K w.H a vs) ∧ DvA K w.F w.H vs ds := by
  cases d <;> simp only [seqD, reduceCtorEq] at e
  · cases e; obtain ⟨a, vs, h1, h2, h3⟩ := h.seqL; exact ⟨a, vs, h1, .inl h2, h3⟩
  · cases e; obtain ⟨a, vs, h1, h2, h3⟩ := h.seqT; exact ⟨a, vs, h1, .inr h2, h3⟩
/-- x in xs: a text among texts, an int among ints; a text in a text -/
def inB : D → D → Option Bool
  | .str a, .str b => some (inS a b)
  | .str a, y => (seqD y).bind fun ds => (strsOf ds).map fun xs => decide (a ∈ xs)
  | .int a, y => (seqD y).bind fun ds => (intsOf ds).map fun xs => decide (a ∈ xs)
  | _, _ => none
def inD (neg : Bool) (x y : D) : Option D := (inB x y).map fun b => .bool (if neg then !b else b)
def rInA (K : PySem.W.Frag) (neg : Bool) : R2 := fun x y H Q => rIn K neg x y H Q ∨ ∃ i j, x = .str i ∧ y = .str j ∧ Q (.bl (if neg then !inS i j else inS i j)) H
theorem o_in {X : Cx} : OpR X (compareOp .In) (rInA X.K false) := opR_or op_in_seq op_in_str
theorem o_nin {X : Cx} : OpR X (compareOp .NotIn) (rInA X.K true) := opR_or op_notIn_seq L2.op_notin_str
theorem d_in {neg : Bool} : OpD M K (rInA K neg) (inD neg) := fun w x y dx dy z Q g hx hy e k => by
  obtain ⟨b, e1, rfl⟩ := Option.map_eq_some_iff.mp e
  have seqS : ∀ (a : Str) (ds : List D) (xs : List Str), dx = .str a → seqD dy = some ds → strsOf ds = some xs → b = decide (a ∈ xs) → rInA K neg x y w.H Q := fun a ds xs e2 e3 e4 e5 => by
    subst e2
    cases hx.str
    obtain ⟨p, vs, rfl, h1, h2⟩ := hy.seq e3
    rw [strsOf_some e4] at h2
    have h3 := h2.strs
    subst h3
    refine .inl ⟨p, _, rfl, h1, rfl, flat_strs xs, ?_⟩
    rw [inV_str, ← e5]
    exact keepQ g (.bl _) k
  have seqI : ∀ (a : Int) (ds : List D) (xs : List Int), dx = .int a → seqD dy = some ds → intsOf ds = some xs → b = decide (a ∈ xs) → rInA K neg x y w.H Q := fun a ds xs e2 e3 e4 e5 => by
    subst e2
    cases hx.int
    obtain ⟨p, vs, rfl, h1, h2⟩ := hy.seq e3
    rw [intsOf_some e4] at h2
    have h3 := h2.ints
    subst h3
    refine .inl ⟨p, _, rfl, h1, rfl, flat_ints xs, ?_⟩
    rw [inV_int, ← e5]
    exact keepQ g (.bl _) k
  cases dx with
  | str a =>
    cases dy with
    | str b' =>
      cases e1; cases hx.str; cases hy.str
      exact .inr ⟨_, _, rfl, rfl, keepQ g (.bl _) k⟩
    | list ds =>
      obtain ⟨xs, h1, h2⟩ := Option.map_eq_some_iff.mp (show (strsOf ds).map _ = some b from e1)
      exact seqS a ds xs rfl rfl h1 h2.symm
    | tuple ds =>
      obtain ⟨xs, h1, h2⟩ := Option.map_eq_some_iff.mp (show (strsOf ds).map _ = some b from e1)
      exact seqS a ds xs rfl rfl h1 h2.symm
    | _ => simp [inB, seqD] at e1
  | int a =>
    cases dy with
    | list ds =>
      obtain ⟨xs, h1, h2⟩ := Option.map_eq_some_iff.mp (show (intsOf ds).map _ = some b from e1)
      exact seqI a ds xs rfl rfl h1 h2.symm
    | tuple ds =>
      obtain ⟨xs, h1, h2⟩ := Option.map_eq_some_iff.mp (show (intsOf ds).map _ = some b from e1)
      exact seqI a ds xs rfl rfl h1 h2.symm
    | _ => simp [inB, seqD] at e1
  | _ => simp [inB] at e1

/-! subscripts -/
def ixD : D → D → Option D
  | .list xs, .int i => atI xs i
  | .tuple xs, .int i => atI xs i
  | .str z, .int i => if z.length ≤ LIM then (atI z.cps.toList i).map fun c => .str ⟨#[c]⟩ else none
  | _, _ => none
def rIx (K : PySem.W.Frag) : R2 := fun x y H Q => rIxL K x y H Q ∨ (rIxT K x y H Q ∨ rIxS x y H Q)
theorem o_ix {X : Cx} : IxR X (rIx X.K) := ixR_or ix_list (ixR_or ix_tup ix_str)
theorem atI_dv {w : W} {vs : List V} {ds : List D} {i : Int} {z : D} (h : DvA K w.F w.H vs ds) (e : atI ds i = some z) : ∃ v, atI vs i = some v ∧ Dv K w.F w.H v z := by
  unfold atI at e ⊢
  obtain ⟨j, e1, e2⟩ := Option.bind_eq_some_iff.mp e
  obtain ⟨v, h1, h2⟩ := h.get e2
  exact ⟨v, by rw [h.length, e1]; exact h1, h2⟩
theorem d_ix : OpD M K (rIx K) ixD := fun w x y dx dy z Q g hx hy e k => by
  cases dy with
  | int i =>
    cases hy.int
    cases dx with
    | list xs =>
      obtain ⟨a, vs, rfl, h1, h2⟩ := hx.seqL
      obtain ⟨v, h3, h4⟩ := atI_dv h2 (show atI xs i = some z from e)
      exact .inl ⟨a, vs, i, v, rfl, rfl, h1, h3, keepQ g h4 k⟩
    | tuple xs =>
      obtain ⟨a, vs, rfl, h1, h2⟩ := hx.seqT
      obtain ⟨v, h3, h4⟩ := atI_dv h2 (show atI xs i = some z from e)
      exact .inr (.inl ⟨a, vs, i, v, rfl, rfl, h1, h3, keepQ g h4 k⟩)
    | str s =>
      cases hx.str
      simp only [ixD] at e
      split at e
      · obtain ⟨c, e1, e2⟩ := Option.map_eq_some_iff.mp e
        subst e2
        exact .inr (.inr ⟨s, i, c, rfl, rfl, lim_size (by assumption), e1, keepQ g (.str _) k⟩)
      · cases e
    | _ => simp [ixD] at e
  | _ => cases dx <;> simp [ixD] at e
end
end HW

namespace HW
open PySem L2
/-! ### tests, and, or, not -/
section
variable {X : Cx} {M : MI} {e a b c : Expr} {rest : List Expr} {we wa wb wc : WE} {wt wu : WT} {pos : Pos}
def truD : D → Option Bool
  | .none => some false
  | .bool b => some b
  | .int i => some (i != 0)
  | .str x => if x.length ≤ LIM then some ((x.length : Int) != 0) else none
  | .list xs => some (!xs.isEmpty)
  | .tuple xs => some (!xs.isEmpty)
  | .dict kvs => some (!kvs.isEmpty)
theorem DvA.emp {K : PySem.W.Frag} {P : Addr → Prop} {H : Hp} {vs : List V} {ds : List D} (h : DvA K P H vs ds) : (!ds.isEmpty) = !vs.isEmpty := by cases h <;> rfl
theorem DvK.emp {K : PySem.W.Frag} {P : Addr → Prop} {H : Hp} {vs : List (Key × V)} {ds : List (D × D)} (h : DvK K P H vs ds) : (!ds.isEmpty) = !vs.isEmpty := by cases h <;> rfl
def rTru (K : PySem.W.Frag) : V → Hp → (Bool → Hp → Prop) → Prop := fun x H Q => (∃ k, TruV K x H k ∧ Q k H) ∨ ∃ a kvs, x = .ref a ∧ Rd H a (.dK kvs) ∧ Q (!kvs.isEmpty) H
theorem tru_rd {X : Cx} : TruR X (rTru X.K) := fun pins s σ H x v Q I rx h => by
  rcases h with h | ⟨a, kvs, rfl, hd, q⟩
  · exact tru_ok pins s σ H x v Q I rx h
  · obtain rfl : v = Value.ref a := rx
    exact d_truth I hd fun s' I' => ⟨H, I', q⟩
theorem DvB.tru {K : PySem.W.Frag} {w : W} {v : V} {d : D} {k : Bool} (h : DvB K w v d) (e : truD d = some k) : TruV K v w.H k ∨ ∃ a kvs, v = .ref a ∧ Rd w.H a (.dK kvs) ∧ k = !kvs.isEmpty := by
  cases d with
  | none => cases h.non; cases e; exact .inl rfl
  | bool b => cases h.bl; cases e; exact .inl rfl
  | int i => cases h.int; cases e; exact .inl rfl
  | str x =>
    cases h.str
    simp only [truD] at e
    split at e
    · cases e; exact .inl ⟨lim_size (by assumption), rfl⟩
    · cases e
  | list xs => obtain ⟨a, vs, rfl, h1, h2⟩ := h.seqL; cases e; exact .inl (.inl ⟨vs, h1, h2.emp⟩)
  | tuple xs => obtain ⟨a, vs, rfl, h1, h2⟩ := h.seqT; cases e; exact .inl (.inr (.inl ⟨vs, h1, h2.emp⟩))
  | dict xs => obtain ⟨a, vs, rfl, h1, h2⟩ := h.dict; cases e; exact .inr ⟨a, vs, rfl, h1, h2.emp⟩
def wTru (we : WE) : WT := fun ρ c Q => we ρ c fun d c1 => ∃ b, truD d = some b ∧ Q b c1
theorem t_tru (h : PE X e (tB M X.K we)) (he : ∀ whole, isTrue e X.env whole = (do let v ← whole; standAt e.pos; holding [v] (truthy v)) := by intro _; rfl) : PT X e (tT M X.K (wTru we)) := by
  refine PT.imp (pt_truthR h tru_rd he) ?_
  rintro σ H Q ⟨w, ρ, Qd, eh, ev, g, hw, k⟩
  refine ⟨w, ρ, _, eh, ev, g, hw, fun w1 v d s1 g1 dv q1 => ?_⟩
  obtain ⟨b, e1, q1⟩ := q1
  rcases dv.tru e1 with z | ⟨a, kvs, ea, hd, eb⟩
  · exact .inl ⟨b, z, k w1 b s1 g1 q1⟩
  · exact .inr ⟨a, kvs, ea, hd, by rw [← eb]; exact k w1 b s1 g1 q1⟩
def wAnd (wt wu : WT) : WT := fun ρ c Q => wt ρ c fun b c1 => if b = true then wu ρ c1 Q else Q false c1
def wOr (wt wu : WT) : WT := fun ρ c Q => wt ρ c fun b c1 => if b = true then Q true c1 else wu ρ c1 Q
def wNot (wt : WT) : WT := fun ρ c Q => wt ρ c fun b c1 => Q (!b) c1
theorem t_and1 {pos : Pos} (h : PT X a (tT M X.K wt)) : PW X (.BoolOp .And [a] pos) (tT M X.K wt) := pw_and1 h
theorem t_or1 (h : PT X a (tT M X.K wt)) : PW X (.BoolOp .Or [a] pos) (tT M X.K wt) := pw_or1 h
theorem t_and (h : PT X a (tT M X.K wt)) (h' : PW X (.BoolOp .And (b :: rest) pos) (tT M X.K wu)) : PW X (.BoolOp .And (a :: b :: rest) pos) (tT M X.K (wAnd wt wu)) := by
  refine PW.imp (pw_and h h') ?_
  rintro σ H Q ⟨w, ρ, Qd, eh, ev, g, hw, k⟩
  refine ⟨w, ρ, _, eh, ev, g, hw, fun w1 b s1 g1 q1 => ?_⟩
  cases b with
  | true => exact iteT ⟨w1, ρ, Qd, rfl, ev.stp s1 g, g1, q1, fun w2 b2 s2 g2 q2 => k w2 b2 (s1.trans s2) g2 q2⟩
  | false => exact iteF (k w1 false s1 g1 q1)
theorem t_or (h : PT X a (tT M X.K wt)) (h' : PW X (.BoolOp .Or (b :: rest) pos) (tT M X.K wu)) : PW X (.BoolOp .Or (a :: b :: rest) pos) (tT M X.K (wOr wt wu)) := by
  refine PW.imp (pw_or h h') ?_
  rintro σ H Q ⟨w, ρ, Qd, eh, ev, g, hw, k⟩
  refine ⟨w, ρ, _, eh, ev, g, hw, fun w1 b s1 g1 q1 => ?_⟩
  cases b with
  | true => exact iteT (k w1 true s1 g1 q1)
  | false => exact iteF ⟨w1, ρ, Qd, rfl, ev.stp s1 g, g1, q1, fun w2 b2 s2 g2 q2 => k w2 b2 (s1.trans s2) g2 q2⟩
theorem t_not (h : PT X a (tT M X.K wt)) : PT X (.UnaryOp .Not a pos) (tT M X.K (wNot wt)) := by
  refine PT.imp (pt_not h) ?_
  rintro σ H Q ⟨w, ρ, Qd, eh, ev, g, hw, k⟩
  exact ⟨w, ρ, _, eh, ev, g, hw, fun w1 b s1 g1 q1 => k w1 _ s1 g1 q1⟩
/-- as values -/
theorem e_one {op} (h : PE X a (tE M X.K we)) : PE X (.BoolOp op [a] pos) (tE M X.K we) := pe_one h
def wAndV (wa wb : WE) : WE := fun ρ c Q => wa ρ c fun d c1 => ∃ k, d = .bool k ∧ if k = true then wb ρ c1 Q else Q (.bool false) c1
def wOrV (wa wb : WE) : WE := fun ρ c Q => wa ρ c fun d c1 => ∃ k, d = .bool k ∧ if k = true then Q (.bool true) c1 else wb ρ c1 Q
def wNotV (wa : WE) : WE := fun ρ c Q => wa ρ c fun d c1 => ∃ k, d = .bool k ∧ Q (.bool (!k)) c1
theorem e_and (ha : PE X a (tB M X.K wa)) (hb : PE X (.BoolOp .And (b :: rest) pos) (tE M X.K wb)) : PE X (.BoolOp .And (a :: b :: rest) pos) (tE M X.K (wAndV wa wb)) := by
  refine PE.imp (pe_and ha hb) ?_
  rintro σ H Q ⟨w, ρ, Qd, eh, ev, g, hw, k⟩
  refine ⟨w, ρ, _, eh, ev, g, hw, fun w1 v d s1 g1 dv q1 => ?_⟩
  obtain ⟨b, rfl, q1⟩ := q1
  cases dv.bl
  refine ⟨b, rfl, ?_⟩
  cases b with
  | true => exact iteT ⟨w1, ρ, Qd, rfl, ev.stp s1 g, g1, q1, fun w2 v d s2 g2 dv q2 => k w2 v d (s1.trans s2) g2 dv q2⟩
  | false => exact iteF (k w1 _ _ s1 g1 (.bl false) q1)
theorem e_or (ha : PE X a (tB M X.K wa)) (hb : PE X (.BoolOp .Or (b :: rest) pos) (tE M X.K wb)) : PE X (.BoolOp .Or (a :: b :: rest) pos) (tE M X.K (wOrV wa wb)) := by
  refine PE.imp (pe_or ha hb) ?_
  rintro σ H Q ⟨w, ρ, Qd, eh, ev, g, hw, k⟩
  refine ⟨w, ρ, _, eh, ev, g, hw, fun w1 v d s1 g1 dv q1 => ?_⟩
  obtain ⟨b, rfl, q1⟩ := q1
  cases dv.bl
  refine ⟨b, rfl, ?_⟩
  cases b with
  | true => exact iteT (k w1 _ _ s1 g1 (.bl true) q1)
  | false => exact iteF ⟨w1, ρ, Qd, rfl, ev.stp s1 g, g1, q1, fun w2 v d s2 g2 dv q2 => k w2 v d (s1.trans s2) g2 dv q2⟩
theorem e_not (ha : PE X a (tB M X.K wa)) : PE X (.UnaryOp .Not a pos) (tE M X.K (wNotV wa)) := by
  refine PE.imp (pe_not ha) ?_
  rintro σ H Q ⟨w, ρ, Qd, eh, ev, g, hw, k⟩
  refine ⟨w, ρ, _, eh, ev, g, hw, fun w1 v d s1 g1 dv q1 => ?_⟩
  obtain ⟨b, rfl, q1⟩ := q1
  cases dv.bl
  exact ⟨b, rfl, k w1 _ _ s1 g1 (.bl _) q1⟩
def wIfE (wt : WT) (wa wb : WE) : WE := fun ρ c Q => wt ρ c fun k c1 => if k = true then wa ρ c1 Q else wb ρ c1 Q
theorem e_if (hc : PT X c (tT M X.K wt)) (ha : PE X a (tE M X.K wa)) (hb : PE X b (tE M X.K wb)) : PE X (.IfExp c a b pos) (tE M X.K (wIfE wt wa wb)) := by
  refine PE.imp (pe_ifExp hc ha hb) ?_
  rintro σ H Q ⟨w, ρ, Qd, eh, ev, g, hw, k⟩
  refine ⟨w, ρ, _, eh, ev, g, hw, fun w1 b s1 g1 q1 => ?_⟩
  cases b with
  | true => exact iteT ⟨w1, ρ, Qd, rfl, ev.stp s1 g, g1, q1, fun w2 v d s2 g2 dv q2 => k w2 v d (s1.trans s2) g2 dv q2⟩
  | false => exact iteF ⟨w1, ρ, Qd, rfl, ev.stp s1 g, g1, q1, fun w2 v d s2 g2 dv q2 => k w2 v d (s1.trans s2) g2 dv q2⟩
/-- a < b < c -/
def wChain (f f' : D → D → Option D) (wa wb wc : WE) : WE := fun ρ c Q => wa ρ c fun x c1 => wb ρ c1 fun y c2 => ∃ k, f x y = some (.bool k) ∧ if k = true then wc ρ c2 (fun z c3 => ∃ r, f' y z = some r ∧ Q r c3) else Q (.bool false) c2
theorem r_chain {r r' : R2} {f f' : D → D → Option D} (hf : OpD M X.K r f) (hf' : OpD M X.K r' f') : ∀ (σ : L2.St) (H : Hp) (Q : VK), tE M X.K (wChain f f' wa wb wc) σ H Q → tChain r r' (tB M X.K wa) (tB M X.K wb) (tB M X.K wc) σ H Q := by
  rintro σ H Q ⟨w, ρ, Qd, eh, ev, g, hw, k⟩
  refine ⟨w, ρ, _, eh, ev, g, hw, fun w1 x dx s1 g1 bx q1 => ?_⟩
  refine ⟨w1, ρ, _, rfl, ev.stp s1 g, g1, q1, fun w2 y dy s2 g2 by' q2 => ?_⟩
  obtain ⟨b, eb, q2⟩ := q2
  refine hf w2 x y dx dy (.bool b) _ g2 (bx.stp s2 g1) by' eb fun w3 v s3 g3 dv ec => ?_
  cases dv
  refine ⟨b, rfl, ?_⟩
  cases b with
  | true =>
    refine iteT ⟨w3, ρ, _, rfl, ((ev.stp s1 g).stp s2 g1).stp s3 g2, g3, (by rw [ec]; exact q2), fun w4 z dz s4 g4 bz q4 => ?_⟩
    obtain ⟨r0, er, q4⟩ := q4
    exact hf' w4 y z dy dz r0 Q g4 ((by'.stp s3 g2).stp s4 g3) bz er fun w5 v5 s5 g5 dv5 e5 => k w5 v5 r0 ((((s1.trans s2).trans s3).trans s4).trans s5) g5 dv5 (by rw [e5]; exact q4)
  | false => exact iteF (k w3 _ _ ((s1.trans s2).trans s3) g3 (.bl false) (by rw [ec]; exact q2))
theorem e_chain {op op' : CmpOp} {r r' : R2} {f f' : D → D → Option D} (ho : OpR X (compareOp op) r) (ho' : OpR X (compareOp op') r') (hf : OpD M X.K r f) (hf' : OpD M X.K r' f') (ha : PE X a (tB M X.K wa)) (hb : PE X b (tB M X.K wb)) (hc : PE X c (tB M X.K wc))
    (hm : lastMarks [op, op'] [b, c] = false := by with_unfolding_all rfl) : PE X (.Compare a [op, op'] [b, c] pos) (tE M X.K (wChain f f' wa wb wc)) := PE.imp (pe_chain ho ho' ha hb hc hm) (r_chain hf hf')
theorem t_chain {op op' : CmpOp} {r r' : R2} {f f' : D → D → Option D} (ho : OpR X (compareOp op) r) (ho' : OpR X (compareOp op') r') (hf : OpD M X.K r f) (hf' : OpD M X.K r' f') (ha : PE X a (tB M X.K wa)) (hb : PE X b (tB M X.K wb)) (hc : PE X c (tB M X.K wc))
    (hm : lastMarks [op, op'] [b, c] = false := by with_unfolding_all rfl) : PT X (.Compare a [op, op'] [b, c] pos) (tT M X.K (wTst (wChain f f' wa wb wc))) := by
  refine PT.imp (pt_chain ho ho' ha hb hc hm) ?_
  rintro σ H Q ⟨w, ρ, Qd, eh, ev, g, hw, k⟩
  exact r_chain (X := X) (wa := wa) (wb := wb) (wc := wc) hf hf' σ H (fun x H1 => ∃ c, x = .bl c ∧ Q c H1) ⟨w, ρ, _, eh, ev, g, hw, fun w' v d s g' dv ⟨b, ed, qd⟩ => by subst ed; cases dv; exact ⟨b, rfl, k w' b s g' qd⟩⟩
end

/-! ### displays -/
section
variable {X : Cx} {M : MI} {e : Expr} {es : List Expr} {we : WE} {wa : WA} {pos : Pos}
def wNil : WA := fun _ c Q => Q [] c
def wCons (we : WE) (wa : WA) : WA := fun ρ c Q => we ρ c fun d c1 => wa ρ c1 fun ds c2 => Q (d :: ds) c2
theorem a_nil : PA X [] (tAs M X.K wNil) := PA.imp pa_nil fun σ H Q ⟨w, ρ, Qd, eh, ev, g, hw, k⟩ => by
  subst eh
  exact k w [] [] (Stp.refl w) g .nil hw
theorem a_cons (he : PE X e (tE M X.K we)) (ha : PA X es (tAs M X.K wa)) (hs : starEach (e :: es) X.env = (false, eval e X.env) :: starEach es X.env := by rfl) : PA X (e :: es) (tAs M X.K (wCons we wa)) := by
  refine PA.imp (pa_cons he ha hs) ?_
  rintro σ H Q ⟨w, ρ, Qd, eh, ev, g, hw, k⟩
  refine ⟨w, ρ, _, eh, ev, g, hw, fun w1 v d s1 g1 dv q1 => ?_⟩
  exact ⟨w1, ρ, _, rfl, ev.stp s1 g, g1, q1, fun w2 vs ds s2 g2 dvs q2 => k w2 (v :: vs) (d :: ds) (s1.trans s2) g2 (.cons (dv.fk (s2.fk g1)) dvs) q2⟩
def wTup (wa : WA) : WE := fun ρ c Q => wa ρ c fun ds c1 => ds.length ≤ LIM ∧ Q (.tuple ds) c1
def wLst (wa : WA) : WE := fun ρ c Q => wa ρ c fun ds c1 => ds.length ≤ LIM ∧ Q (.list ds) c1
theorem e_tup {x1} (ha : PA X es (tAs M X.K wa)) : PE X (.Tuple es x1 pos) (tE M X.K (wTup wa)) := by
  refine PE.imp (pe_tup ha) ?_
  rintro σ H Q ⟨w, ρ, Qd, eh, ev, g, hw, k⟩
  refine ⟨w, ρ, _, eh, ev, g, hw, fun w1 vs ds s1 g1 dvs q1 => ⟨lim_size (by rw [dvs.length]; exact q1.1), fun p hp => ?_⟩⟩
  exact k (w1.new p (.tup vs)) _ _ (s1.trans (stp_new hp)) (gd_new g1 hp) (new_tup g1 hp dvs) q1.2
theorem e_lst (ha : PA X es (tAs M X.K wa)) : PE X (.List es pos) (tE M X.K (wLst wa)) := by
  refine PE.imp (pe_lst ha) ?_
  rintro σ H Q ⟨w, ρ, Qd, eh, ev, g, hw, k⟩
  refine ⟨w, ρ, _, eh, ev, g, hw, fun w1 vs ds s1 g1 dvs q1 => ⟨lim_size (by rw [dvs.length]; exact q1.1), fun p hp => ?_⟩⟩
  exact k (w1.new p (.lst vs)) _ _ (s1.trans (stp_new hp)) (gd_new g1 hp) (new_lst g1 hp dvs) q1.2
end

/-! ### built-in functions of one datum, of two -/
section
variable {X : Cx} {M : MI} {e e2 o : Expr} {we we2 wo : WE} {p pos apos : Pos} {x : Str} {id T : String}
def wF (f : D → Option D) (we : WE) : WE := fun ρ c Q => we ρ c fun x c1 => ∃ z, f x = some z ∧ Q z c1
/-- r serves f: one argument -/
def FnD (M : MI) (K : PySem.W.Frag) (r : List V → Hp → VK → Prop) (f : D → Option D) : Prop := ∀ (w : W) (x : V) (dx z : D) (Q : VK), Gd M w → DvB K w x dx → f dx = some z →
  (∀ (w' : W) (v : V), Stp w w' → Gd M w' → Dv K w'.F w'.H v z → w'.c = w.c → Q v w'.H) → r [x] w.H Q
def FnD2 (M : MI) (K : PySem.W.Frag) (r : List V → Hp → VK → Prop) (f : D → D → Option D) : Prop := ∀ (w : W) (x y : V) (dx dy z : D) (Q : VK), Gd M w → DvB K w x dx → DvB K w y dy → f dx dy = some z →
  (∀ (w' : W) (v : V), Stp w w' → Gd M w' → Dv K w'.F w'.H v z → w'.c = w.c → Q v w'.H) → r [x, y] w.H Q
theorem r_fn {r : List V → Hp → VK → Prop} {f : D → Option D} (hf : FnD M X.K r f) : ∀ (σ : L2.St) (H : Hp) (Q : VK), tE M X.K (wF f we) σ H Q → tCB r (tCons (tB M X.K we) tNil) σ H Q := by
  rintro σ H Q ⟨w, ρ, Qd, eh, ev, g, hw, k⟩
  refine ⟨w, ρ, _, eh, ev, g, hw, fun w1 x dx s1 g1 bx q1 => ?_⟩
  obtain ⟨z, ez, qz⟩ := q1
  exact hf w1 x dx z Q g1 bx ez fun w3 v s3 g3 dv ec => k w3 v z (s1.trans s3) g3 dv (by rw [ec]; exact qz)
theorem r_fn2 {r : List V → Hp → VK → Prop} {f : D → D → Option D} (hf : FnD2 M X.K r f) : ∀ (σ : L2.St) (H : Hp) (Q : VK), tE M X.K (wOp f we we2) σ H Q → tCB r (tCons (tB M X.K we) (tCons (tB M X.K we2) tNil)) σ H Q := by
  rintro σ H Q ⟨w, ρ, Qd, eh, ev, g, hw, k⟩
  refine ⟨w, ρ, _, eh, ev, g, hw, fun w1 x dx s1 g1 bx q1 => ?_⟩
  refine ⟨w1, ρ, _, rfl, ev.stp s1 g, g1, q1, fun w2 y dy s2 g2 by' q2 => ?_⟩
  obtain ⟨z, ez, qz⟩ := q2
  exact hf w2 x y dx dy z Q g2 (bx.stp s2 g1) by' ez fun w3 v s3 g3 dv ec => k w3 v z ((s1.trans s2).trans s3) g3 dv (by rw [ec]; exact qz)
theorem e_fn {r : List V → Hp → VK → Prop} {f : D → Option D} (hr : CallR X (.builtin id) r) (hf : FnD M X.K r f) (hg : Gl X x) (hm : X.mg x = none) (hv : bootBuiltins x = some (.builtin id)) (he : PE X e (tB M X.K we)) (hn : x ≠ "__name__" := by decide) (hdb : (x == ("__debug__" : Str)) = false := by decide)
    (hs : starEach [e] X.env = (false, eval e X.env) :: starEach [] X.env := by rfl) : PE X (.Call (.Name x p) [e] [] pos) (tE M X.K (wF f we)) := PE.imp (pe_callB hr hg hm hv (pa_cons he pa_nil hs) hn hdb hs (by rfl)) (r_fn hf)
theorem e_fnT {r : List V → Hp → VK → Prop} {f : D → Option D} (hr : CallR X (.type T) r) (hf : FnD M X.K r f) (hg : Gl X x) (hm : X.mg x = none) (hv : bootBuiltins x = some (.type T)) (he : PE X e (tB M X.K we)) (hn : x ≠ "__name__" := by decide) (hdb : (x == ("__debug__" : Str)) = false := by decide)
    (hs : starEach [e] X.env = (false, eval e X.env) :: starEach [] X.env := by rfl) : PE X (.Call (.Name x p) [e] [] pos) (tE M X.K (wF f we)) := PE.imp (pe_callTy hr hg hm hv (pa_cons he pa_nil hs) hn hdb hs (by rfl)) (r_fn hf)
theorem e_fn2 {r : List V → Hp → VK → Prop} {f : D → D → Option D} (hr : CallR X (.builtin id) r) (hf : FnD2 M X.K r f) (hg : Gl X x) (hm : X.mg x = none) (hv : bootBuiltins x = some (.builtin id)) (he : PE X e (tB M X.K we)) (he2 : PE X e2 (tB M X.K we2)) (hn : x ≠ "__name__" := by decide) (hdb : (x == ("__debug__" : Str)) = false := by decide)
    (hs : starEach [e, e2] X.env = (false, eval e X.env) :: starEach [e2] X.env := by rfl) (hs2 : starEach [e2] X.env = (false, eval e2 X.env) :: starEach [] X.env := by rfl) (hpl : (backTo pos (starEach [e2] X.env)).any (·.1) = false := by rfl) : PE X (.Call (.Name x p) [e, e2] [] pos) (tE M X.K (wOp f we we2)) :=
  PE.imp (pe_callB hr hg hm hv (pa_cons he (pa_cons he2 pa_nil hs2) hs) hn hdb hs hpl) (r_fn2 hf)
/-! isinstance(x, T), T a built-in class -/
def tyName : D → String
  | .none => "NoneType"
  | .bool _ => "bool"
  | .int _ => "int"
  | .str _ => "str"
  | .list _ => "list"
  | .tuple _ => "tuple"
  | .dict _ => "dict"
theorem DvB.tyx {K : PySem.W.Frag} {w : W} {v : V} {d : D} (h : DvB K w v d) : TyX K w.H v (.type (tyName d)) := by
  have lst : ∀ {a : Addr} {vs : List V}, SqL K w.H a vs → TyX K w.H (.ref a) (.type "list") := fun {a vs} h => by
    rcases h with (h | ⟨o, h⟩) | ⟨o, its, n, h1, h2, _⟩
    · exact .base (.lst h)
    · exact .base (.frz h)
    · exact .kList h1 h2
  have tup : ∀ {a : Addr} {vs : List V}, SqT K w.H a vs → TyX K w.H (.ref a) (.type "tuple") := fun {a vs} h => by
    rcases h with (h | ⟨o, h⟩) | ⟨o, its, n, h1, h2, _⟩
    · exact .base (.tup h)
    · exact .fTuple h
    · exact .kTuple h1 h2
  cases d with
  | none => cases h.non; exact .base .non
  | bool b => cases h.bl; exact .base (.bl b)
  | int i => cases h.int; exact .base (.int i)
  | str x => cases h.str; exact .base (.str x)
  | list xs => obtain ⟨a, vs, rfl, h1, h2⟩ := h.seqL; exact lst h1
  | tuple xs => obtain ⟨a, vs, rfl, h1, h2⟩ := h.seqT; exact tup h1
  | dict xs => obtain ⟨a, vs, rfl, h1, h2⟩ := h.dict; exact h1.elim (fun z => .base (.dK z)) fun ⟨o, z⟩ => .fDict z
def isiD (T : String) (d : D) : Option D := (kitB (tyName d) T).map .bool
theorem e_isi {T : String} {y : Str} {q : Pos} (hg : Gl X "isinstance") (hm : X.mg "isinstance" = none) (hg2 : Gl X y) (hm2 : X.mg y = none) (hv2 : bootBuiltins y = some (.type T)) (he : PE X e (tB M X.K we)) (hn : y ≠ "__name__" := by decide) (hdb : (y == ("__debug__" : Str)) = false := by decide)
    (hs : starEach [e, .Name y q] X.env = (false, eval e X.env) :: starEach [.Name y q] X.env := by rfl) : PE X (.Call (.Name "isinstance" p) [e, .Name y q] [] pos) (tE M X.K (wF (isiD T) we)) := by
  refine PE.imp (pe_callB call_isi hg hm (by decide +kernel) (pa_cons he (pa_cons (pe_bltn hg2 hm2 hv2 (v := .ty T) rfl hn hdb) pa_nil (by rfl)) hs) (by decide) (by decide) hs (by rfl)) ?_
  rintro σ H Q ⟨w, ρ, Qd, eh, ev, g, hw, k⟩
  refine ⟨w, ρ, _, eh, ev, g, hw, fun w1 v d s1 g1 bv q1 => ?_⟩
  obtain ⟨z, ez, qz⟩ := q1
  obtain ⟨b, e1, e2⟩ := Option.map_eq_some_iff.mp ez
  subst e2
  exact ⟨v, .ty T, _, _, b, rfl, .ty T, bv.tyx, kit_ty e1, k w1 _ _ s1 g1 (.bl b) qz⟩
/-! len, list, tuple, all, any, int, sorted -/
def lenD : D → Option D
  | .list xs => some (.int xs.length)
  | .tuple xs => some (.int xs.length)
  | .str x => if x.length ≤ LIM then some (.int x.length) else none
  | .dict kvs => some (.int kvs.length)
  | _ => none
theorem DvK.length {K : PySem.W.Frag} {P : Addr → Prop} {H : Hp} : ∀ {vs : List (Key × V)} {ds : List (D × D)}, DvK K P H vs ds → vs.length = ds.length
  | _, _, .nil => rfl
  | _, _, .cons _ h => congrArg (· + 1) h.length
theorem callR_or {f : Value} {r r' : List V → Hp → VK → Prop} (h : CallR X f r) (h' : CallR X f r') : CallR X f (fun x H Q => r x H Q ∨ r' x H Q) := fun p s σ H xs us Q I rx q => q.elim (h p s σ H xs us Q I rx) (h' p s σ H xs us Q I rx)
def rLen (K : PySem.W.Frag) : List V → Hp → VK → Prop := fun xs H Q => (∃ p ys, xs = [.ref p] ∧ (SqL K H p ys ∨ SqT K H p ys) ∧ Q (.int ys.length) H) ∨ ((∃ z, xs = [.str z] ∧ z.length ≤ sizeLine ∧ Q (.int z.length) H) ∨ ∃ a kvs, xs = [V.ref a] ∧ Rd H a (.dK kvs) ∧ Q (.int kvs.length) H)
theorem len_rd {X : Cx} : CallR X (.builtin "len") (fun xs H Q => ∃ a kvs, xs = [V.ref a] ∧ Rd H a (.dK kvs) ∧ Q (.int kvs.length) H) := fun pins s σ H xs us Q I r h => by
  obtain ⟨a, kvs, rfl, ha, q⟩ := h
  obtain ⟨u, rfl, ru⟩ := vals1 r
  cases ru
  exact L2.d_len I ha fun t s' I' => ⟨.int kvs.length, H, I', ⟨t, rfl⟩, q⟩
theorem d_len : FnD M X.K (rLen X.K) lenD := fun w x dx z Q g hx e k => by
  cases dx with
  | list xs => obtain ⟨a, vs, rfl, h1, h2⟩ := hx.seqL; cases e; refine .inl ⟨a, vs, rfl, .inl h1, ?_⟩; rw [h2.length]; exact keepQ g (.int _) k
  | tuple xs => obtain ⟨a, vs, rfl, h1, h2⟩ := hx.seqT; cases e; refine .inl ⟨a, vs, rfl, .inr h1, ?_⟩; rw [h2.length]; exact keepQ g (.int _) k
  | str s =>
    cases hx.str
    simp only [lenD] at e
    split at e
    · cases e; exact .inr (.inl ⟨s, rfl, lim_size (by assumption), keepQ g (.int _) k⟩)
    · cases e
  | dict xs => obtain ⟨a, vs, rfl, h1, h2⟩ := hx.dict; cases e; refine .inr (.inr ⟨a, vs, rfl, h1, ?_⟩); rw [h2.length]; exact keepQ g (.int _) k
  | _ => simp [lenD] at e
def tupD (d : D) : Option D := (seqD d).map .tuple
def lstD (d : D) : Option D := (seqD d).map .list
theorem d_tup : FnD M X.K (fun xs H Q => ∃ p ys, xs = [.ref p] ∧ ((SqL X.K H p ys ∧ ∀ l, H l = none → Q (.ref l) (upd H l (.tup ys))) ∨ (SqT X.K H p ys ∧ Q (.ref p) H))) tupD := fun w x dx z Q g hx e k => by
  cases dx with
  | list xs => obtain ⟨a, vs, rfl, h1, h2⟩ := hx.seqL; cases e; exact ⟨a, vs, rfl, .inl ⟨h1, fun p hp => newQ g hp (new_tup g hp h2) k⟩⟩
  | tuple xs =>
    cases e
    cases hx with
    | of h =>
      cases h with
      | tup h2 h3 => exact ⟨_, _, rfl, .inr ⟨h2.sq, keepQ g (.tup h2 h3) k⟩⟩
  | _ => simp [tupD, seqD] at e
theorem d_lst : FnD M X.K (fun xs H Q => ∃ p ys, xs = [.ref p] ∧ (SqL X.K H p ys ∨ SqT X.K H p ys) ∧ ∀ l, H l = none → Q (.ref l) (upd H l (.lst ys))) lstD := fun w x dx z Q g hx e k => by
  obtain ⟨ds, e1, e2⟩ := Option.map_eq_some_iff.mp e
  subst e2
  obtain ⟨a, vs, rfl, h1, h2⟩ := hx.seq e1
  exact ⟨a, vs, rfl, h1, fun p hp => newQ g hp (new_lst g hp h2) k⟩
def blsOf : List D → Option (List Bool)
  | [] => some []
  | .bool x :: r => (blsOf r).map (x :: ·)
  | _ :: _ => none
theorem blsOf_some : ∀ {ds : List D} {xs : List Bool}, blsOf ds = some xs → ds = xs.map PyData.bool
  | [], xs, h => by cases h; rfl
  | d :: r, xs, h => by
    cases d <;> simp only [blsOf, reduceCtorEq] at h
    obtain ⟨ys, h1, h2⟩ := Option.map_eq_some_iff.mp h
    subst h2
    rw [blsOf_some h1]
    rfl
theorem blsOf_map : ∀ (xs : List Bool), blsOf (xs.map PyData.bool) = some xs
  | [] => rfl
  | x :: r => by show (blsOf (r.map PyData.bool)).map (x :: ·) = _; rw [blsOf_map r]; rfl
def lsD : D → Option (List D)
  | .list xs => some xs
  | _ => none
def allD (d : D) : Option D := ((lsD d).bind blsOf).map fun bs => .bool (bs.all _root_.id)
def anyD (d : D) : Option D := ((lsD d).bind blsOf).map fun bs => .bool (bs.any _root_.id)
theorem bls_get {K : PySem.W.Frag} {w : W} {x : V} {dx : D} {bs : List Bool} (hx : DvB K w x dx) (e : (lsD dx).bind blsOf = some bs) : ∃ a, x = .ref a ∧ SqL K w.H a (bs.map V.bl) := by
  obtain ⟨ds, e1, e2⟩ := Option.bind_eq_some_iff.mp e
  cases dx <;> simp only [lsD, reduceCtorEq] at e1
  cases e1
  obtain ⟨a, vs, rfl, h1, h2⟩ := hx.seqL
  rw [blsOf_some e2] at h2
  have h3 := h2.bls
  subst h3
  exact ⟨a, rfl, h1⟩
theorem d_all : FnD M X.K (rAll X.K) allD := fun w x dx z Q g hx e k => by
  obtain ⟨bs, e1, e2⟩ := Option.map_eq_some_iff.mp e
  subst e2
  obtain ⟨a, rfl, h⟩ := bls_get hx e1
  exact ⟨a, bs, rfl, h, keepQ g (.bl _) k⟩
theorem d_any : FnD M X.K (rAny X.K) anyD := fun w x dx z Q g hx e k => by
  obtain ⟨bs, e1, e2⟩ := Option.map_eq_some_iff.mp e
  subst e2
  obtain ⟨a, rfl, h⟩ := bls_get hx e1
  exact ⟨a, bs, rfl, h, keepQ g (.bl _) k⟩
def intD : D → Option D
  | .int i => some (.int i)
  | .bool b => some (.int (if b then 1 else 0))
  | _ => none
theorem d_int : FnD M X.K (fun xs H Q => (∃ i, xs = [.int i] ∧ Q (.int i) H) ∨ ∃ k, xs = [.bl k] ∧ Q (.int (if k then 1 else 0)) H) intD := fun w x dx z Q g hx e k => by
  cases dx <;> simp only [intD, reduceCtorEq] at e
  · cases e; cases hx.bl; exact .inr ⟨_, rfl, keepQ g (.int _) k⟩
  · cases e; cases hx.int; exact .inl ⟨_, rfl, keepQ g (.int _) k⟩
def minD : D → D → Option D
  | .int i, .int j => some (.int (if j < i then j else i))
  | _, _ => none
theorem d_min2 : FnD2 M X.K (fun xs H Q => ∃ i j, xs = [.int i, .int j] ∧ Q (.int (if j < i then j else i)) H) minD := fun w x y dx dy z Q g hx hy e k => by
  cases dx <;> cases dy <;> simp only [minD, reduceCtorEq] at e
  cases e; cases hx.int; cases hy.int
  exact ⟨_, _, rfl, keepQ g (.int _) k⟩
def maxD : D → D → Option D
  | .int i, .int j => some (.int (if j > i then j else i))
  | _, _ => none
/-- sorted of few texts: some arrangement that is in order -/
def wSortS (we : WE) : WE := fun ρ c Q => we ρ c fun x c1 => ∃ ds xs, lsD x = some ds ∧ strsOf ds = some xs ∧ xs.length < 64 ∧ ∀ ys : List Str, ys.Perm xs → PyProof.Rows.sortedS ys = true → Q (.list (ys.map .str)) c1
theorem e_sortS (hg : Gl X "sorted") (hm : X.mg "sorted" = none) (he : PE X e (tB M X.K we)) (hs : starEach [e] X.env = (false, eval e X.env) :: starEach [] X.env := by rfl) : PE X (.Call (.Name "sorted" p) [e] [] pos) (tE M X.K (wSortS we)) := by
  refine PE.imp (pe_callB cr_sortedS hg hm (by decide +kernel) (pa_cons he pa_nil hs) (by decide) (by decide) hs (by rfl)) ?_
  rintro σ H Q ⟨w, ρ, Qd, eh, ev, g, hw, k⟩
  refine ⟨w, ρ, _, eh, ev, g, hw, fun w1 v d s1 g1 bv q1 => ?_⟩
  obtain ⟨ds, xs, e1, e2, hl, q1⟩ := q1
  cases d <;> simp only [lsD, reduceCtorEq] at e1
  cases e1
  obtain ⟨a, vs, rfl, h1, h2⟩ := bv.seqL
  rw [strsOf_some e2] at h2
  have h3 := h2.strs
  subst h3
  refine ⟨a, xs, rfl, h1, hl, fun ys p hp hso hn => ?_⟩
  exact k (w1.new p (.lst (ys.map V.str))) _ _ (s1.trans (stp_new hn)) (gd_new g1 hn) (new_lst g1 hn (DvA.of_strs ys)) (q1 ys hp hso)
/-! methods of texts -/
def FnM (M : MI) (K : PySem.W.Frag) (r : V → List V → Hp → VK → Prop) (f : D → D → Option D) : Prop := ∀ (w : W) (x : Str) (y : V) (dy z : D) (Q : VK), Gd M w → DvB K w y dy → f (.str x) dy = some z →
  (∀ (w' : W) (v : V), Stp w w' → Gd M w' → Dv K w'.F w'.H v z → w'.c = w.c → Q v w'.H) → r (.str x) [y] w.H Q
/-- s.m(e), s a text -/
def wMS (f : D → D → Option D) (wo we : WE) : WE := fun ρ c Q => wo ρ c fun x c1 => (∃ s, x = .str s) ∧ we ρ c1 fun y c2 => ∃ z, f x y = some z ∧ Q z c2
theorem r_ms {r : V → List V → Hp → VK → Prop} {f : D → D → Option D} (hf : FnM M X.K r f) : ∀ (σ : L2.St) (H : Hp) (Q : VK), tE M X.K (wMS f wo we) σ H Q → tM1 r (tB M X.K wo) (tB M X.K we) σ H Q := by
  rintro σ H Q ⟨w, ρ, Qd, eh, ev, g, hw, k⟩
  refine ⟨w, ρ, _, eh, ev, g, hw, fun w1 x dx s1 g1 bx q1 => ?_⟩
  obtain ⟨⟨s, rfl⟩, q1⟩ := q1
  cases bx.str
  refine ⟨⟨s, rfl⟩, w1, ρ, _, rfl, ev.stp s1 g, g1, q1, fun w2 y dy s2 g2 by' q2 => ?_⟩
  obtain ⟨z, ez, qz⟩ := q2
  exact hf w2 s y dy z Q g2 by' ez fun w3 v s3 g3 dv ec => k w3 v z ((s1.trans s2).trans s3) g3 dv (by rw [ec]; exact qz)
theorem e_ms {id : String} {name : Str} {r : V → List V → Hp → VK → Prop} {f : D → D → Option D} (slot : Slot "str" name id) (ty : typeOf (.builtin id) = pure (.type "method_descriptor")) (rule : MtR X id r) (hf : FnM M X.K r f) (ho : PE X o (tB M X.K wo)) (he : PE X e (tB M X.K we))
    (hs : starEach [e] X.env = [(false, eval e X.env)] := by rfl) (hbase : attributeBase o name X.env (eval o X.env) = eval o X.env := by rfl) (hline : (apos.endLine == pos.line) = true := by rfl) : PE X (.Call (.Attribute o name apos) [e] [] pos) (tE M X.K (wMS f wo we)) :=
  PE.imp (pe_m1 slot ty rule ho he hs hbase hline) (r_ms hf)
def rpD : D → D → Option D
  | .str a, .str b => if a.length ≤ LIM then some (.str (Txt.removeprefix a b)) else none
  | _, _ => none
def rsD : D → D → Option D
  | .str a, .str b => if a.length ≤ LIM then some (.str (Txt.removesuffix a b)) else none
  | _, _ => none
theorem d_rp : FnM M X.K (fun x xs H Q => ∃ a b, x = .str a ∧ xs = [.str b] ∧ a.length ≤ sizeLine ∧ Q (.str (Txt.removeprefix a b)) H) rpD := fun w x y dy z Q g hy e k => by
  cases dy <;> simp only [rpD, reduceCtorEq] at e
  split at e
  · cases e; cases hy.str; exact ⟨x, _, rfl, rfl, lim_size (by assumption), keepQ g (.str _) k⟩
  · cases e
theorem d_rs : FnM M X.K (fun x xs H Q => ∃ a b, x = .str a ∧ xs = [.str b] ∧ a.length ≤ sizeLine ∧ Q (.str (Txt.removesuffix a b)) H) rsD := fun w x y dy z Q g hy e k => by
  cases dy <;> simp only [rsD, reduceCtorEq] at e
  split at e
  · cases e; cases hy.str; exact ⟨x, _, rfl, rfl, lim_size (by assumption), keepQ g (.str _) k⟩
  · cases e
def joinD : D → D → Option D
  | .str a, y => ((seqD y).bind strsOf).bind fun ys => if (ys.map (·.length)).sum + ys.length * a.length ≤ 16777216 then some (.str (Txt.join a ys)) else none
  | _, _ => none
theorem d_join : FnM M X.K (fun x xs H Q => ∃ a p, ∃ ys : List Str, x = .str a ∧ xs = [.ref p] ∧ (SqL X.K H p (ys.map V.str) ∨ SqT X.K H p (ys.map V.str)) ∧ (ys.map (·.length)).sum + ys.length * a.length ≤ 16777216 ∧ Q (.str (Txt.join a ys)) H) joinD := fun w x y dy z Q g hy e k => by
  obtain ⟨ys, e1, e2⟩ := Option.bind_eq_some_iff.mp e
  obtain ⟨ds, e3, e4⟩ := Option.bind_eq_some_iff.mp e1
  obtain ⟨a, vs, rfl, h1, h2⟩ := hy.seq e3
  rw [strsOf_some e4] at h2
  have h3 := h2.strs
  subst h3
  split at e2
  · cases e2; exact ⟨x, a, ys, rfl, rfl, h1, by assumption, keepQ g (.str _) k⟩
  · cases e2
/-! slices -/
abbrev WO := List En → Nat → (Option Int → Nat → Prop) → Prop
def tO (M : MI) (K : PySem.W.Frag) (wo : WO) : TO := fun σ H Q => ∃ (w : W) (ρ : List En) (Qd : Option Int → Nat → Prop), w.H = H ∧ EnvOk K w σ ρ ∧ Gd M w ∧ wo ρ w.c Qd ∧
  ∀ (w' : W) (o : Option Int), Stp w w' → Gd M w' → Qd o w'.c → Q o w'.H
def wNo : WO := fun _ c Q => Q none c
def wSo (we : WE) : WO := fun ρ c Q => we ρ c fun d c1 => ∃ i, d = .int i ∧ Q (some i) c1
theorem PO.imp {e : Option Expr} {t t' : TO} (h : PO X e t) (i : ∀ σ H Q, t' σ H Q → t σ H Q) : PO X e t' := ⟨fun p s σ H Q I q => h.run p s σ H Q I (i σ H Q q)⟩
theorem o_no : PO X none (tO M X.K wNo) := PO.imp po_none fun σ H Q ⟨w, ρ, Qd, eh, ev, g, hw, k⟩ => by subst eh; exact k w none (Stp.refl w) g hw
theorem o_so (h : PE X e (tB M X.K we)) : PO X (some e) (tO M X.K (wSo we)) := PO.imp (po_some h) fun σ H Q ⟨w, ρ, Qd, eh, ev, g, hw, k⟩ =>
  ⟨w, ρ, _, eh, ev, g, hw, fun w1 v d s1 g1 bv ⟨i, ed, q⟩ => by subst ed; cases bv.int; exact ⟨i, rfl, k w1 _ s1 g1 q⟩⟩
/-- a part of a list -/
def cutL {α : Type} (xs : List α) (lo hi : Option Int) : List α := (xs.drop (HT.sIx xs.length 0 lo)).take (HT.sIx xs.length xs.length hi - HT.sIx xs.length 0 lo)
def slD : D → Option Int → Option Int → Option D
  | .list xs, lo, hi => some (.list (cutL xs lo hi))
  | .str x, lo, hi => if x.length ≤ LIM then some (.str (cutS x lo hi)) else none
  | _, _, _ => none
theorem slR_or {r r' : V → Option Int → Option Int → Hp → VK → Prop} (h : SlR X r) (h' : SlR X r') : SlR X (fun x l u H Q => r x l u H Q ∨ r' x l u H Q) := by
  intro pins s σ H x v vl vu lo hi sl Q I rx hs pl pu q
  exact q.elim (h pins s σ H x v vl vu lo hi sl Q I rx hs pl pu) (h' pins s σ H x v vl vu lo hi sl Q I rx hs pl pu)
theorem DvA.cut {K : PySem.W.Frag} {P : Addr → Prop} {H : Hp} {vs : List V} {ds : List D} (h : DvA K P H vs ds) (lo hi : Option Int) : DvA K P H (cutV vs lo hi) (cutL ds lo hi) := by
  unfold cutV cutL
  rw [h.length]
  exact (h.drop _).take _
def wSl (we : WE) (wl wu : WO) : WE := fun ρ c Q => we ρ c fun x c1 => wl ρ c1 fun l c2 => wu ρ c2 fun u c3 => ∃ z, slD x l u = some z ∧ Q z c3
theorem e_sl {lo hi : Option Expr} {wl wu : WO} {p2 : Pos} (he : PE X e (tB M X.K we)) (hl : PO X lo (tO M X.K wl)) (hu : PO X hi (tO M X.K wu)) : PE X (.Subscript e (.Slice lo hi none p2) pos) (tE M X.K (wSl we wl wu)) := by
  refine PE.imp (pe_slice (slR_or sl_list sl_str) he hl hu) ?_
  rintro σ H Q ⟨w, ρ, Qd, eh, ev, g, hw, k⟩
  refine ⟨w, ρ, _, eh, ev, g, hw, fun w1 x dx s1 g1 bx q1 => ?_⟩
  refine ⟨w1, ρ, _, rfl, ev.stp s1 g, g1, q1, fun w2 l s2 g2 q2 => ?_⟩
  refine ⟨w2, ρ, _, rfl, (ev.stp s1 g).stp s2 g1, g2, q2, fun w3 u s3 g3 q3 => ?_⟩
  obtain ⟨z, ez, qz⟩ := q3
  have bx3 := (bx.stp s2 g1).stp s3 g2
  have s03 := (s1.trans s2).trans s3
  cases dx with
  | list xs =>
    cases ez
    obtain ⟨a, vs, rfl, h1, h2⟩ := bx3.seqL
    exact .inl ⟨a, vs, rfl, h1, fun p hp => k (w3.new p _) _ _ (s03.trans (stp_new hp)) (gd_new g3 hp) (new_lst g3 hp (h2.cut l u)) qz⟩
  | str s =>
    cases bx3.str
    simp only [slD] at ez
    split at ez
    · cases ez; exact .inr ⟨s, rfl, lim_size (by assumption), k w3 _ _ s03 g3 (.str _) qz⟩
    · cases ez
  | _ => simp [slD] at ez
end
end HW

namespace HW
open PySem L2
/-! ### slots stored, forgotten -/
section
variable {K : PySem.W.Frag} {M : MI} {w w' : W} {σ : L2.St} {ρ : List En}
theorem own_set {i : Nat} {u : Option V} {en : En} (hm : en.mut = false) {j : Nat} {a : Addr} (o : Own w (σ.set i u) (ρ.set i en) j a) : Own w σ ρ j a := by
  obtain ⟨p, e, h1, h2, h3, h4⟩ := o
  by_cases ij : i = j
  · subst ij
    rw [List.getElem?_set] at h2
    simp at h2
    obtain ⟨_, rfl⟩ := h2
    rw [hm] at h3
    cases h3
  · rw [List.getElem?_set_ne ij] at h1 h2
    exact ⟨p, e, h1, h2, h3, h4⟩
theorem EnvOk.setE {i : Nat} {u : Option V} {en : En} (h : EnvOk K w σ ρ) (hm : en.mut = false) (hv : EnOk K w (some u) en) : EnvOk K w (σ.set i u) (ρ.set i en) := by
  refine ⟨by rw [List.length_set, List.length_set]; exact h.len, fun j e q => ?_, fun j k a o1 o2 => h.ap j k a (own_set hm o1) (own_set hm o2)⟩
  by_cases ij : i = j
  · subst ij
    have hi : i < ρ.length := by
      by_cases hi : i < ρ.length
      · exact hi
      · rw [List.getElem?_eq_none (by simpa using hi)] at q; cases q
    rw [List.getElem?_set_self hi] at q
    cases q
    rw [List.getElem?_set_self (by rw [h.len]; exact hi)]
    exact hv
  · rw [List.getElem?_set_ne ij] at q ⊢
    exact h.ok j e q
theorem EnvOk.setIm {i : Nat} {v : V} {d : D} (h : EnvOk K w σ ρ) (hv : Dv K w.F w.H v d) : EnvOk K w (σ.set i (some v)) (ρ.set i (.im d)) := h.setE rfl ⟨v, rfl, hv⟩
theorem EnvOk.setUn {i : Nat} {u : Option V} (h : EnvOk K w σ ρ) : EnvOk K w (σ.set i u) (ρ.set i .un) := h.setE rfl True.intro
def wipeE (ρ : List En) : List Nat → List En
  | [] => ρ
  | v :: vs => (wipeE ρ vs).set v .un
theorem EnvOk.wipe (h : EnvOk K w σ ρ) : ∀ vs : List Nat, EnvOk K w (L2.wipe σ vs) (wipeE ρ vs)
  | [] => h
  | v :: vs => (EnvOk.wipe h vs).setUn
theorem wipe_at : ∀ {vs : List Nat} {σ : L2.St} {j : Nat}, j ∈ vs → j < σ.length → (L2.wipe σ vs)[j]? = some none
  | v :: vs, σ, j, h, hl => by
    unfold L2.wipe
    by_cases e : v = j
    · subst e
      exact List.getElem?_set_self (by rw [wipe_length]; exact hl)
    · rw [List.getElem?_set_ne e]
      exact wipe_at ((List.mem_cons.mp h).resolve_left fun z => e z.symm) hl
theorem wipe_wipe : ∀ {vs : List Nat} {σ τ : L2.St}, σ.length = τ.length → (∀ i, i ∉ vs → σ[i]? = τ[i]?) → L2.wipe σ vs = L2.wipe τ vs := fun {vs σ τ} hl h => by
  apply List.ext_getElem?
  intro i
  by_cases hi : i ∈ vs
  · by_cases hz : i < σ.length
    · rw [wipe_at hi hz, wipe_at hi (hl ▸ hz)]
    · rw [List.getElem?_eq_none (by rw [wipe_length]; omega), List.getElem?_eq_none (by rw [wipe_length]; omega)]
  · have go : ∀ (vs : List Nat) (σ : L2.St), i ∉ vs → (L2.wipe σ vs)[i]? = σ[i]? := by
      intro vs
      induction vs with
      | nil => intro σ _; rfl
      | cons v vs ih =>
        intro σ hn
        unfold L2.wipe
        rw [List.getElem?_set_ne (fun z => hn (List.mem_cons.mpr (.inl z.symm)))]
        exact ih σ fun z => hn (List.mem_cons.mpr (.inr z))
    rw [go vs σ hi, go vs τ hi]
    exact h i hi
theorem wipe_no : ∀ {vs : List Nat} {σ : L2.St} {i : Nat}, i ∉ vs → (L2.wipe σ vs)[i]? = σ[i]?
  | [], _, _, _ => rfl
  | v :: vs, σ, i, hn => by
    unfold L2.wipe
    rw [List.getElem?_set_ne (fun z => hn (List.mem_cons.mpr (.inl z.symm)))]
    exact wipe_no fun z => hn (List.mem_cons.mpr (.inr z))
theorem wipe_set {vs : List Nat} {σ : L2.St} {j : Nat} {x : Option V} (h : j ∈ vs) : L2.wipe ((L2.wipe σ vs).set j x) vs = L2.wipe σ vs := by
  refine wipe_wipe (by rw [List.length_set, wipe_length]) fun i hi => ?_
  have hji : j ≠ i := fun z => hi (z ▸ h)
  rw [List.getElem?_set_ne hji, wipe_no hi]
end
/-! ### an object of one's own changes, or changes no more -/
def W.frz (w : W) (p : Addr) : W := { w with F := fun a => w.F a ∨ a = p }
section
variable {K : PySem.W.Frag} {M : MI} {w w0 : W} {p : Addr} {o : HO}
theorem gd_put (g : Gd M w) (h : w.H p ≠ none) (n : p ∉ w.R) : Gd M (w.own p o) := by
  exact ⟨fun a e => M.st (g.mi a e) fun b hb => upd_ne fun z => n (z ▸ hb), g.r0, g.nz, fun b hb => ⟨upd_some (g.tr b hb).1, (g.tr b hb).2⟩, fun a f => upd_some (g.tf a f)⟩
theorem fk_put (f : ¬ w.F p) : Fk w (w.own p o) := ⟨fun _ h => h, fun a u fa e => by
  have ne : a ≠ p := fun z => f (z ▸ fa)
  show upd w.H p o a = _
  rw [upd_ne ne]; exact e, fun _ h => h⟩
theorem stp_put (s : Stp w0 w) (h0 : w0.H p = none) : Stp w0 (w.own p o) :=
  ⟨s.f1, s.f2, fun a u e r => by
    show upd w.H p o a = _
    rw [upd_ne (ne_of_none e h0)]; exact s.k a u e r, fun a e => upd_some (s.t a e), s.r, s.m⟩
theorem gd_frz (g : Gd M w) (h : w.H p ≠ none) (n : p ∉ w.R) : Gd M (w.frz p) := ⟨g.mi, g.r0, g.nz, fun b hb => ⟨(g.tr b hb).1, fun z => z.elim (g.tr b hb).2 fun e => n (e ▸ hb)⟩, fun a f => f.elim (g.tf a) fun e => e ▸ h⟩
theorem stp_frz (s : Stp w0 w) (h0 : w0.H p = none) : Stp w0 (w.frz p) := ⟨fun a h => .inl (s.f1 a h), fun a h => h.elim (s.f2 a) fun e => .inr (e ▸ h0), s.k, s.t, s.r, s.m⟩
theorem fk_frz : Fk w (w.frz p) := ⟨fun _ h => .inl h, fun _ _ _ h => h, fun _ h => h⟩
end

/-! ### what is walked -/
abbrev WI := List En → Nat → (List D → Nat → Prop) → Prop
structure Jok (M : MI) (K : PySem.W.Frag) (Rel : W → W → Prop) (w1 : W) (J : It) (ds : List D) : Prop where
  go : ∀ (w' : W) (i : Nat) (d : D), Rel w1 w' → Gd M w' → ds[i]? = some d → J.go i w'.H ∧ ∀ x H', J.yld i w'.H x H' → ∃ w'' : W, w''.H = H' ∧ w''.c = w'.c ∧ Stp w' w'' ∧ Gd M w'' ∧ Dv K w''.F w''.H x d
  stop : ∀ (w' : W) (i : Nat), Rel w1 w' → Gd M w' → ds.length ≤ i → J.stop i w'.H
def tI (M : MI) (K : PySem.W.Frag) (Rel : W → W → Prop) (wi : WI) : TI := fun σ H R => ∃ (w : W) (ρ : List En) (Qd : List D → Nat → Prop), w.H = H ∧ EnvOk K w σ ρ ∧ Gd M w ∧ wi ρ w.c Qd ∧
  ∀ (w1 : W) (J : It) (ds : List D), Stp w w1 → Gd M w1 → Jok M K Rel w1 J ds → Qd ds w1.c → R J w1.H
section
variable {K : PySem.W.Frag} {M : MI} {Rel : W → W → Prop} {w1 : W}
theorem jok_list {a : Addr} {vs : List V} {ds : List D} (h : ∀ w', Rel w1 w' → SqL K w'.H a vs ∧ DvA K w'.F w'.H vs ds) : Jok M K Rel w1 (Itl K a) ds where
  go := fun w' i d r g e => by
    obtain ⟨h1, h2⟩ := h w' r
    obtain ⟨v, e1, e2⟩ := h2.get e
    refine ⟨⟨vs, v, h1, e1⟩, fun x H' y => ?_⟩
    obtain ⟨rfl, y⟩ := y
    have e3 := y vs h1
    rw [e1] at e3
    cases e3
    exact ⟨w', rfl, rfl, Stp.refl w', g, e2⟩
  stop := fun w' i r g hi => by
    obtain ⟨h1, h2⟩ := h w' r
    exact ⟨vs, h1, by rw [h2.length]; exact hi⟩
theorem jok_tup {a : Addr} {vs : List V} {ds : List D} (h : ∀ w', Rel w1 w' → SqT K w'.H a vs ∧ DvA K w'.F w'.H vs ds) : Jok M K Rel w1 (Itt K a) ds where
  go := fun w' i d r g e => by
    obtain ⟨h1, h2⟩ := h w' r
    obtain ⟨v, e1, e2⟩ := h2.get e
    refine ⟨⟨vs, v, h1, e1⟩, fun x H' y => ?_⟩
    obtain ⟨rfl, y⟩ := y
    have e3 := y vs h1
    rw [e1] at e3
    cases e3
    exact ⟨w', rfl, rfl, Stp.refl w', g, e2⟩
  stop := fun w' i r g hi => by
    obtain ⟨h1, h2⟩ := h w' r
    exact ⟨vs, h1, by rw [h2.length]; exact hi⟩
/-- the signs of a text -/
def signs (x : Str) : List D := x.cps.toList.map fun c => .str ⟨#[c]⟩
theorem jok_str {x : Str} : Jok M K Rel w1 (Its x) (signs x) where
  go := fun w' i d r g e => by
    unfold signs at e
    rw [List.getElem?_map] at e
    obtain ⟨c, e1, e2⟩ := Option.map_eq_some_iff.mp e
    subst e2
    have e1' : x.cps[i]? = some c := by simpa using e1
    have hi : i < x.cps.size := (Array.getElem?_eq_some_iff.mp e1').1
    refine ⟨hi, fun v H' y => ?_⟩
    obtain ⟨rfl, c', e3, rfl⟩ := y
    rw [e1'] at e3
    cases e3
    exact ⟨w', rfl, rfl, Stp.refl w', g, .str _⟩
  stop := fun w' i r g hi => by
    unfold signs at hi
    show x.cps.size ≤ i
    simpa using hi
def rngD (lo : Int) (n : Nat) : List D := (List.range n).map fun i => .int (lo + (i : Nat))
theorem rngD_get {lo : Int} {n i : Nat} {d : D} (e : (rngD lo n)[i]? = some d) : i < n ∧ d = .int (lo + (i : Nat)) := by
  unfold rngD at e
  rw [List.getElem?_map] at e
  obtain ⟨c, e1, e2⟩ := Option.map_eq_some_iff.mp e
  obtain ⟨h1, h2⟩ := List.getElem?_eq_some_iff.mp e1
  rw [List.length_range] at h1
  rw [List.getElem_range] at h2
  subst h2
  exact ⟨h1, e2.symm⟩
theorem jok_rng {lo : Int} {n : Nat} : Jok M K Rel w1 (Itr lo n) (rngD lo n) where
  go := fun w' i d r g e => by
    obtain ⟨hi, rfl⟩ := rngD_get e
    refine ⟨hi, fun v H' y => ?_⟩
    obtain ⟨rfl, rfl⟩ := y
    exact ⟨w', rfl, rfl, Stp.refl w', g, .int _⟩
  stop := fun w' i r g hi => by
    unfold rngD at hi
    show n ≤ i
    simpa using hi
end
section
variable {X : Cx} {M : MI} {tg e e2 : Expr} {we we2 : WE} {p pos : Pos}
def wItL (we : WE) : WI := fun ρ c Q => we ρ c fun d c1 => ∃ ds, d = .list ds ∧ Q ds c1
def wItT (we : WE) : WI := fun ρ c Q => we ρ c fun d c1 => ∃ ds, d = .tuple ds ∧ Q ds c1
def wItS (we : WE) : WI := fun ρ c Q => we ρ c fun d c1 => ∃ x, d = .str x ∧ Q (signs x) c1
def wRng (we : WE) : WI := fun ρ c Q => we ρ c fun d c1 => ∃ n : Int, d = .int n ∧ -(2 ^ 62) ≤ n ∧ n < 2 ^ 62 ∧ Q (rngD 0 n.toNat) c1
def wRng2 (we we2 : WE) : WI := fun ρ c Q => we ρ c fun d c1 => we2 ρ c1 fun d2 c2 => ∃ i n : Int, d = .int i ∧ d2 = .int n ∧ (-(2 ^ 62) ≤ i ∧ i < 2 ^ 62 ∧ -(2 ^ 62) ≤ n ∧ n < 2 ^ 62) ∧ Q (rngD i (n - i).toNat) c2
/-- for a loop: what is walked changes no more -/
theorem i_listF (he : PE X e (tE M X.K we)) : PI X tg e (tI M X.K Fk (wItL we)) := by
  refine PI.imp (pi_list he) ?_
  rintro σ H R ⟨w, ρ, Qd, eh, ev, g, hw, k⟩
  refine ⟨w, ρ, _, eh, ev, g, hw, fun w1 v d s1 g1 dv q1 => ?_⟩
  obtain ⟨ds, rfl, q1⟩ := q1
  cases dv with
  | @lst a vs _ h2 h3 => exact ⟨a, rfl, ⟨vs, h2.sq⟩, k w1 _ ds s1 g1 (jok_list fun w' r => ⟨(h2.up (r.f1 a) fun o f => r.k a o f).sq, h3.fk r⟩) q1⟩
theorem i_tupF (he : PE X e (tE M X.K we)) : PI X tg e (tI M X.K Fk (wItT we)) := by
  refine PI.imp (pi_tup he) ?_
  rintro σ H R ⟨w, ρ, Qd, eh, ev, g, hw, k⟩
  refine ⟨w, ρ, _, eh, ev, g, hw, fun w1 v d s1 g1 dv q1 => ?_⟩
  obtain ⟨ds, rfl, q1⟩ := q1
  cases dv with
  | @tup a vs _ h2 h3 => exact ⟨a, rfl, ⟨vs, h2.sq⟩, k w1 _ ds s1 g1 (jok_tup fun w' r => ⟨(h2.up (r.f1 a) fun o f => r.k a o f).sq, h3.fk r⟩) q1⟩
theorem i_str {Rel : W → W → Prop} (he : PE X e (tB M X.K we)) : PI X tg e (tI M X.K Rel (wItS we)) := by
  refine PI.imp (pi_str he) ?_
  rintro σ H R ⟨w, ρ, Qd, eh, ev, g, hw, k⟩
  refine ⟨w, ρ, _, eh, ev, g, hw, fun w1 v d s1 g1 dv q1 => ?_⟩
  obtain ⟨x, rfl, q1⟩ := q1
  cases dv.str
  exact ⟨x, rfl, k w1 _ _ s1 g1 jok_str q1⟩
theorem i_rng {Rel : W → W → Prop} (hg : Gl X "range") (hm : X.mg "range" = none) (he : PE X e (tB M X.K we)) (hs : starEach [e] X.env = [(false, eval e X.env)] := by rfl) : PI X tg (.Call (.Name "range" p) [e] [] pos) (tI M X.K Rel (wRng we)) := by
  refine PI.imp (pi_range1 hg hm (pa_cons he pa_nil hs) hs) ?_
  rintro σ H R ⟨w, ρ, Qd, eh, ev, g, hw, k⟩
  refine ⟨w, ρ, _, eh, ev, g, hw, fun w1 v d s1 g1 dv q1 => ?_⟩
  obtain ⟨n, rfl, h1, h2, q1⟩ := q1
  cases dv.int
  exact ⟨n, rfl, h1, h2, k w1 _ _ s1 g1 jok_rng q1⟩
theorem i_rng2 {Rel : W → W → Prop} (hg : Gl X "range") (hm : X.mg "range" = none) (he : PE X e (tB M X.K we)) (he2 : PE X e2 (tB M X.K we2)) (hs : starEach [e, e2] X.env = [(false, eval e X.env), (false, eval e2 X.env)] := by rfl) (hs2 : starEach [e2] X.env = [(false, eval e2 X.env)] := by rfl) : PI X tg (.Call (.Name "range" p) [e, e2] [] pos) (tI M X.K Rel (wRng2 we we2)) := by
  refine PI.imp (pi_range2 hg hm (pa_cons he (pa_cons he2 pa_nil hs2) (by rw [hs, hs2])) hs hs2) ?_
  rintro σ H R ⟨w, ρ, Qd, eh, ev, g, hw, k⟩
  refine ⟨w, ρ, _, eh, ev, g, hw, fun w1 v d s1 g1 dv q1 => ?_⟩
  refine ⟨w1, ρ, _, rfl, ev.stp s1 g, g1, q1, fun w2 v2 d2 s2 g2 dv2 q2 => ?_⟩
  obtain ⟨i, n, rfl, rfl, hb, q2⟩ := q2
  cases (dv.stp s2 g1).int
  cases dv2.int
  exact ⟨i, n, rfl, hb, k w2 _ _ (s1.trans s2) g2 jok_rng q2⟩
/-- for a comprehension -/
theorem i_S {wi : WI} (h : PI X tg e (tI M X.K Fk wi)) : PI X tg e (tI M X.K Stp wi) := PI.imp h fun σ H R ⟨w, ρ, Qd, eh, ev, g, hw, k⟩ =>
  ⟨w, ρ, Qd, eh, ev, g, hw, fun w1 J ds s1 g1 jk q1 => k w1 J ds s1 g1 ⟨fun w' i d r g' e => jk.go w' i d (r.fk g1) g' e, fun w' i r g' hi => jk.stop w' i (r.fk g1) g' hi⟩ q1⟩
theorem i_listS (he : PE X e (tB M X.K we)) : PI X tg e (tI M X.K Stp (wItL we)) := by
  refine PI.imp (pi_list he) ?_
  rintro σ H R ⟨w, ρ, Qd, eh, ev, g, hw, k⟩
  refine ⟨w, ρ, _, eh, ev, g, hw, fun w1 v d s1 g1 dv q1 => ?_⟩
  obtain ⟨ds, rfl, q1⟩ := q1
  cases dv with
  | of dv =>
    cases dv with
    | @lst a vs _ h2 h3 => exact ⟨a, rfl, ⟨vs, h2.sq⟩, k w1 _ ds s1 g1 (jok_list fun w' r => ⟨(h2.up ((r.fk g1).f1 a) fun o f => (r.fk g1).k a o f).sq, h3.fk (r.fk g1)⟩) q1⟩
  | @lst a vs _ h n h3 => exact ⟨a, rfl, ⟨vs, .of h⟩, k w1 _ ds s1 g1 (jok_list fun w' r => ⟨.of (r.k a _ h n), h3.fk (r.fk g1)⟩) q1⟩
end

/-! ### list comprehensions -/
def lcGo (wt : WT) (we : WE) (ρ : List En) (j : Nat) : List D → List D → Nat → (D → Nat → Prop) → Prop
  | [], acc, c, Q => Q (.list acc) c
  | d :: r, acc, c, Q => wt (ρ.set j (.im d)) c fun b c1 => if b = true then we (ρ.set j (.im d)) c1 (fun y c2 => lcGo wt we ρ j r (acc ++ [y]) c2 Q) else lcGo wt we ρ j r acc c1 Q
def wYes : WT := fun _ c Q => Q true c
def wLc (wi : WI) (wt : WT) (we : WE) (j : Nat) (vs : List Nat) : WE := fun ρ c Q => wi ρ c fun ds c1 => ds.length ≤ 16000000 ∧ lcGo wt we (wipeE ρ vs) j ds [] c1 Q
section
variable {X : Cx} {M : MI}
theorem PTs.imp {ifs : List Expr} {t t' : TT} (h : PTs X ifs t) (i : ∀ σ H Q, t' σ H Q → t σ H Q) : PTs X ifs t' := ⟨fun p s σ H Q I q => h.run p s σ H Q I (i σ H Q q)⟩
theorem ts_nil : PTs X [] (tT M X.K wYes) := PTs.imp pts_nil fun σ H Q ⟨w, ρ, Qd, eh, ev, g, hw, k⟩ => by subst eh; exact k w true (Stp.refl w) g hw
theorem ts_one {c : Expr} {wt : WT} (h : PT X c (tT M X.K wt)) : PTs X [c] (tT M X.K wt) := pts_one h
/-- the reading of a comprehension -/
theorem r_lc {wi : WI} {wt : WT} {we : WE} {j : Nat} {vs : List Nat} (hj : j ∈ vs) : ∀ (σ : L2.St) (H : Hp) (Q : VK), tE M X.K (wLc wi wt we j vs) σ H Q → tLc (tI M X.K Stp wi) (gName j) (tT M X.K wt) (tE M X.K we) vs σ H Q := by
  rintro σ H Q ⟨w, ρ, Qd, eh, ev, g, hw, k⟩
  refine ⟨w, ρ, _, eh, ev, g, hw, fun w1 J ds s1 g1 jk q1 Dl hD => ?_⟩
  obtain ⟨hl, q1⟩ := q1
  have nF : ¬ w1.F Dl := fun f => g1.tf Dl f hD
  have nR : Dl ∉ w1.R := r_free g1 hD
  refine ⟨fun i m H' => ∃ (w' : W) (acc : List D) (us : List V), w'.H = H' ∧ m = ds.length - i ∧ i ≤ ds.length ∧ Stp w1 w' ∧ Gd M w' ∧ w'.H Dl = some (.lst us) ∧ ¬ w'.F Dl ∧ Dl ∉ w'.R ∧ DvA X.K w'.F w'.H us acc ∧ acc.length ≤ i ∧ lcGo wt we (wipeE ρ vs) j (ds.drop i) acc w'.c Qd,
    ⟨ds.length, w1.own Dl (.lst []), [], [], rfl, by simp, Nat.zero_le _, stp_own hD, gd_own g1 hD, upd_same, nF, nR, .nil, Nat.le_refl _, q1⟩, ?_⟩
  rintro i m H' ⟨w', acc, us, rfl, rfl, hi, s', g', hDl, nf, nr, da, hal, q⟩
  have ev' := (ev.stp s1 g).stp s' g1
  by_cases hlt : i < ds.length
  · have ed : ds[i]? = some ds[i] := by simp [hlt]
    obtain ⟨jg, jy⟩ := jk.go w' i _ s' g' ed
    refine .inr ⟨jg, fun H2 => ∃ (w2 : W) (acc : List D) (us : List V), w2.H = H2 ∧ Stp w1 w2 ∧ Gd M w2 ∧ w2.H Dl = some (.lst us) ∧ ¬ w2.F Dl ∧ Dl ∉ w2.R ∧ DvA X.K w2.F w2.H us acc ∧ acc.length ≤ i + 1 ∧ lcGo wt we (wipeE ρ vs) j (ds.drop (i + 1)) acc w2.c Qd, ?_, fun x H2 y => ?_⟩
    · rintro H2 ⟨w2, acc2, us2, h⟩
      exact ⟨ds.length - (i + 1), by omega, w2, acc2, us2, h.1, rfl, hlt, h.2⟩
    · obtain ⟨w2, rfl, ec, s2, g2, dx⟩ := jy x H2 y
      have q2 : lcGo wt we (wipeE ρ vs) j (ds[i] :: ds.drop (i + 1)) acc w2.c Qd := by
        rw [ec, ← List.drop_eq_getElem_cons hlt]; exact q
      have keepD : ∀ {w3 : W}, Stp w2 w3 → w3.H Dl = some (.lst us) ∧ ¬ w3.F Dl ∧ Dl ∉ w3.R := fun {w3} s3 => by
        have h2 := s2.k _ _ hDl nr
        have n2 := r_up s2 hDl nr
        have f2 : ¬ w2.F Dl := fun z => (s2.f2 Dl z).elim nf fun e => by rw [hDl] at e; cases e
        exact ⟨s3.k _ _ h2 n2, (fun z => (s3.f2 Dl z).elim f2 fun e => (by rw [h2] at e; cases e)), r_up s3 h2 n2⟩
      refine ⟨wipe_set hj, w2, _, _, rfl, ((ev'.stp s2 g').wipe vs).setIm dx, g2, q2, fun w3 b s3 g3 q3 => ?_⟩
      have s13 := (s'.trans s2).trans s3
      have da3 := da.fk ((s2.trans s3).fk g')
      obtain ⟨h3, f3, n3⟩ := keepD s3
      cases b with
      | true =>
        refine iteT ⟨w3, _, _, rfl, (((ev'.stp s2 g').wipe vs).setIm dx).stp s3 g2, g3, q3, fun w4 v d s4 g4 dv q4 => ?_⟩
        obtain ⟨h4, f4, n4⟩ := keepD (s3.trans s4)
        have da4 := da3.fk (s4.fk g3)
        have z : w4.H Dl ≠ none := by rw [h4]; simp
        refine ⟨us, h4, (by rw [sizeLine_eq, da4.length]; omega), ?_⟩
        exact ⟨w4.own Dl (.lst (us ++ [v])), acc ++ [d], us ++ [v], rfl, stp_put (s13.trans s4) hD, gd_put g4 z n4, upd_same, f4, n4,
          (da4.app (.cons dv .nil)).fk (fk_put f4), by rw [List.length_append]; show acc.length + 1 ≤ i + 1; omega, q4⟩
      | false => exact iteF ⟨w3, acc, us, rfl, s13, g3, h3, f3, n3, da3, by omega, q3⟩
  · have e : i = ds.length := by omega
    subst e
    refine .inl ⟨jk.stop w' _ s' g' (Nat.le_refl _), ?_⟩
    rw [List.drop_length] at q
    have hDw : w.H Dl = none := nn s1 hD
    exact k (w'.frz Dl) _ _ (stp_frz (s1.trans s') hDw) (gd_frz g' (by rw [hDl]; simp) nr) (.lst (.inl ⟨.inr rfl, .of hDl⟩) (da.fk fk_frz)) q
/-- [elt for target in iter if ..] -/
theorem e_lc {elt tg iter : Expr} {ifs : List Expr} {scope : Scope} {own : List (Str × Nat)} {pos : Pos} {wi : WI} {wt : WT} {we : WE} {j : Nat} (hj : j ∈ own.map (·.2)) (hc : X.calm = true) (hN : X.N.Nodup) (hi : PI X tg iter (tI M X.K Stp wi)) (ok : BlkOk X.N X.env.scope scope own)
    (hg : ∀ (s : Shared) (H : Hp) (C : Addr) (cl : List (Str × Addr)) (fp : List Addr), PG (X.blk s H scope (compEnvC scope cl C X.env) fp) tg (gName j)) (ht : ∀ (s : Shared) (H : Hp) (C : Addr) (cl : List (Str × Addr)) (fp : List Addr), PTs (X.blk s H scope (compEnvC scope cl C X.env) fp) ifs (tT M X.K wt))
    (he : ∀ (s : Shared) (H : Hp) (C : Addr) (cl : List (Str × Addr)) (fp : List Addr), PE (X.blk s H scope (compEnvC scope cl C X.env) fp) elt (tE M X.K we)) (hs : ∀ x, foldedSetIterable iter X.env x = pure x := by intro _; rfl) :
    PE X (.ListComp elt [⟨tg, iter, ifs, 0⟩] scope pos) (tE M X.K (wLc wi wt we j (own.map (·.2)))) := PE.imp (pe_lc hc hN hi ok hg ht he hs) (r_lc hj)
end
end HW

namespace HW
open PySem L2
/-! ### defs that are called where nothing is being shown (repr) -/
structure FnG (P : Program) (w : World) (K : PySem.W.Frag) (mg : Str → Option Value) (base : Heap) (CX : CXT) (k : Nat) (f : Addr) (fd : FuncData) (ps : List Str) (sp : Sp) : Prop where
  len : ∀ vs H Q E, sp vs H Q E → vs.length = ps.length
  run : ∀ (A : Around) (outer : List Env) (s : Shared) (H : Hp) (args : Args) (us : List Value) (vs : List V) (Q : VK) (E : XK), A.guards = some [] → Room k A → Env0 P w K mg base A outer s H → BindsTo s fd args (ps.zip us) → Vals vs us →
    sp vs H Q E → codeAny (model P w) A (.call (.ref f) args) (CR CX outer P w H s Q E) s
section
variable {P : Program} {w : World} {K : PySem.W.Frag} {mg : Str → Option Value} {base : Heap} {CX : CXT} {k : Nat} {f : Addr} {fd : FuncData} {ps : List Str} {sp sp' : Sp}
theorem FnG.of (F : FnOk P w K mg base CX k f fd ps sp) : FnG P w K mg base CX k f fd ps sp := ⟨F.len, fun A outer s H args us vs Q E _ => F.run A outer s H args us vs Q E⟩
theorem FnG.imp (F : FnG P w K mg base CX k f fd ps sp) (h : ∀ vs H Q E, sp' vs H Q E → sp vs H Q E) : FnG P w K mg base CX k f fd ps sp' :=
  ⟨fun vs H Q E q => F.len vs H Q E (h _ _ _ _ q), fun A outer s H args us vs Q E hg hr he hb hv hs => F.run A outer s H args us vs Q E hg hr he hb hv (h _ _ _ _ hs)⟩
/-- a def by its body -/
theorem fnG {x qual : Str} {st : Stmt} {N : List Str} (F : L2.Fun K x qual st f fd) (S : FnScope N ps (defScope st)) (len : ∀ vs H Q E, sp vs H Q E → vs.length = ps.length)
    (hbody : ∀ (cdv : Value) (A : Around) (outer : List Env) (s : Shared) (H : Hp) (vs : List V) (Q : VK) (E : XK), (A.deeper (PyProof.Rows.envOfC qual (defScope st) s.heap.objs.size f cdv)).guards = some [] → Room k (A.deeper (PyProof.Rows.envOfC qual (defScope st) s.heap.objs.size f cdv)) → sp vs H Q E →
      ∃ t, PSs (cxOf CX P w K mg base N qual (defScope st) f cdv A outer s H E) (defBody st) t ∧ t { nx := fun _ H' => Q .non H', rt := Q } (L2.start N vs) H) : FnG P w K mg base CX (k + 1) f fd ps sp := by
  obtain ⟨oc, od, kV, doc, pm, an, cdv, ct, osl, rfl, look, code⟩ := F.ex
  refine ⟨len, fun A outer s0 H0 args us vs Q E gds room e0 bnd rel want => ?_⟩
  have inK : K.In s0.heap := e0.mod.kin.keeps fun a o h => (e0.bs a o h).1
  have kinds : ∀ q ∈ ps.zip us, (defScope st).names.lookup q.1 = some .local ∨ ((defScope st).names.lookup q.1 = some .cell ∧
      ((cellsFrom (s0.heap.objs.size + 1) (defScope st).names []).lookup q.1).isSome = true) := fun q hq =>
    (S.par q.1 (List.of_mem_zip (show (q.1, q.2) ∈ ps.zip us from hq)).1).imp (fun z => z) fun z => ⟨z, PySem.W.cellsFrom_some _ _ _ (.inl z)⟩
  refine codeAny_call_function room.depth (inK _ _ look) rfl S.co S.gen rfl
    (PySem.W.codeRec_of inK code) (bnd _ _ _ _ (wpAny_newFunctionEnv_cells S.kind kinds fun env henv s1 made => ?_))
  subst henv
  have lim : s0.heap.NoLimit := e0.mod.nolimit.keeps fun a o h => (e0.bs a o h).1
  refine ⟨lim.keeps made.toInCall.keep, codeAny_func ?_⟩
  obtain ⟨t, run, q0⟩ := hbody cdv A outer s0 H0 vs Q E gds (room.deeper _) want
  have I0 := inv_start (CX := CX) (P := P) (w := w) (K := K) (mg := mg) (base := base) (E := E)
    S room.hd e0 (len _ _ _ _ want) rel made
  refine wpAny_mono (run.run [] s1 _ H0 _ I0 q0) (fun fl s2 h2 => ?_) fun _ _ h2 => h2
  cases fl with
  | ret u => exact let ⟨v, _, H2, J, rv, q⟩ := h2; ⟨v, H2, J.os, J.bare, J.base, J.hok, rv, q⟩
  | next => exact let ⟨_, H2, J, q⟩ := h2; ⟨V.non, H2, J.os, J.bare, J.base, J.hok, rfl, q⟩
  | brk => exact let ⟨_, _, _, q⟩ := h2; q.elim
  | cont => exact let ⟨_, _, _, q⟩ := h2; q.elim
end
/-- a def of the module that may be called by its name -/
structure CalG (P : Program) (w : World) (K : PySem.W.Frag) (mg : Str → Option Value) (base : Heap) (k : Nat) (x : Str) (sp : Sp) : Prop where
  ex : ∃ (f : Addr) (fd : FuncData) (ps : List Str), FnG P w K mg base CX0 k f fd ps sp ∧ mg x = some (.ref f) ∧ PySem.W.keepIn K (.ref f) = true ∧ Binds K fd ps []
theorem CalG.imp {P : Program} {w : World} {K : PySem.W.Frag} {mg : Str → Option Value} {base : Heap} {k : Nat} {x : Str} {sp sp' : Sp} (C : CalG P w K mg base k x sp) (h : ∀ vs H Q E, sp' vs H Q E → sp vs H Q E) : CalG P w K mg base k x sp' := by
  obtain ⟨f, fd, ps, F, h1, h2, h3⟩ := C.ex
  exact ⟨f, fd, ps, F.imp h, h1, h2, h3⟩
section
variable {X : Cx} {k j : Nat} {x : Str} {sp : Sp} {p pos : Pos} {e : Expr} {es : List Expr} {t : TA}
theorem pe_g (C : CalG X.prog X.w X.K X.mg X.base k x sp) (hr : Room j X.A) (hk : k ≤ j) (gds : X.A.guards = some []) (hg : Gl X x) (ha : PA X (e :: es) t)
    (hdb : (x == ("__debug__" : Str)) = false := by decide) (he : starEach (e :: es) X.env = (false, eval e X.env) :: starEach es X.env := by rfl) (hpl : (backTo pos (starEach es X.env)).any (·.1) = false := by rfl) :
    PE X (.Call (.Name x p) (e :: es) [] pos) (tCall sp [] E0 t) := by
  obtain ⟨f, fd, ps, F, hm, kp, b⟩ := C.ex
  refine ⟨fun pins s σ H Q I h => wpAny_Call_Name_kw (ld_glob I hg hm ?_ hdb)⟩
  refine PySem.W.callWith_K (h₀ := X.base) I.ok.mod.kin kp (thn (ha.run pos pins s σ H _ I h) fun us s1 hh => ?_) he hpl
  obtain ⟨vs, H1, I1, r, q⟩ := hh
  rw [List.append_nil] at q
  have hl : (us ++ []).length = ps.length := by rw [List.append_nil, ← r.length]; exact F.len _ _ _ _ q
  have bd := b s1 us I1.kIn hl
  rw [List.append_nil] at bd
  refine ⟨I1.kIn, wpAny_call (codeAny_mono (F.run X.A X.stack s1 H1 ⟨us, []⟩ us vs Q E0 gds (hr.mono hk) I1.env0 bd r q) fun r2 s2 h2 => ?_)⟩
  cases r2 with
  | error er => exact False.elim h2
  | ok fl =>
    cases fl with
    | ret u => exact I1.after h2
    | next => exact False.elim h2
    | brk => exact False.elim h2
    | cont => exact False.elim h2
end

/-! ### what is handed to a def of one's own: data, the draws -/
inductive ArgsOk (K : PySem.W.Frag) (w : W) : List V → List En → Prop
  | nil : ArgsOk K w [] []
  | im {v : V} {vs : List V} {d : D} {es : List En} : Dv K w.F w.H v d → ArgsOk K w vs es → ArgsOk K w (v :: vs) (.im d :: es)
  | st {a : Addr} {vs : List V} {es : List En} : w.mo = some a → ArgsOk K w vs es → ArgsOk K w (.ref a :: vs) (.st :: es)
theorem ArgsOk.length {K : PySem.W.Frag} {w : W} : ∀ {vs : List V} {es : List En}, ArgsOk K w vs es → vs.length = es.length
  | _, _, .nil => rfl
  | _, _, .im _ h => congrArg (· + 1) h.length
  | _, _, .st _ h => congrArg (· + 1) h.length
abbrev WG := List En → Nat → (List En → Nat → Prop) → Prop
abbrev FW := List En → Nat → (D → Nat → Prop) → Prop
def tG (M : MI) (K : PySem.W.Frag) (wg : WG) : TA := fun σ H Q => ∃ (w : W) (ρ : List En) (Qd : List En → Nat → Prop), w.H = H ∧ EnvOk K w σ ρ ∧ Gd M w ∧ wg ρ w.c Qd ∧
  ∀ (w' : W) (vs : List V) (es : List En), Stp w w' → Gd M w' → ArgsOk K w' vs es → Qd es w'.c → Q vs w'.H
def fnSp (M : MI) (K : PySem.W.Frag) (f : FW) : Sp := fun vs H Q _ => ∃ (w : W) (es : List En) (Qd : D → Nat → Prop), w.H = H ∧ Gd M w ∧ ArgsOk K w vs es ∧ f es w.c Qd ∧
  ∀ (w' : W) (v : V) (d : D), Stp w w' → Gd M w' → Dv K w'.F w'.H v d → Qd d w'.c → Q v w'.H
theorem fnSp_imp {M : MI} {K : PySem.W.Frag} {f f' : FW} (h : ∀ es c Q, f' es c Q → f es c Q) : ∀ vs H Q E, fnSp M K f' vs H Q E → fnSp M K f vs H Q E :=
  fun vs H Q E ⟨w, es, Qd, eh, g, a, hf, k⟩ => ⟨w, es, Qd, eh, g, a, h _ _ _ hf, k⟩
section
variable {X : Cx} {M : MI} {e : Expr} {es : List Expr} {we : WE} {wg : WG} {x : Str} {p pos : Pos}
def gNil : WG := fun _ c Q => Q [] c
def gIm (we : WE) (wg : WG) : WG := fun ρ c Q => we ρ c fun d c1 => wg ρ c1 fun es c2 => Q (.im d :: es) c2
def gSt (i : Nat) (wg : WG) : WG := fun ρ c Q => ρ[i]? = some .st ∧ wg ρ c fun es c2 => Q (.st :: es) c2
theorem g_nil : PA X [] (tG M X.K gNil) := PA.imp pa_nil fun σ H Q ⟨w, ρ, Qd, eh, ev, g, hw, k⟩ => by
  subst eh
  exact k w [] [] (Stp.refl w) g .nil hw
theorem ArgsOk.up {K : PySem.W.Frag} {w w' : W} (s : Fk w w') : ∀ {vs : List V} {es : List En}, ArgsOk K w vs es → ArgsOk K w' vs es
  | _, _, .nil => .nil
  | _, _, .im d h => .im (d.fk s) (h.up s)
  | _, _, .st d h => .st (s.m _ d) (h.up s)
theorem g_im (he : PE X e (tE M X.K we)) (ha : PA X es (tG M X.K wg)) (hs : starEach (e :: es) X.env = (false, eval e X.env) :: starEach es X.env := by rfl) : PA X (e :: es) (tG M X.K (gIm we wg)) := by
  refine PA.imp (pa_cons he ha hs) ?_
  rintro σ H Q ⟨w, ρ, Qd, eh, ev, g, hw, k⟩
  refine ⟨w, ρ, _, eh, ev, g, hw, fun w1 v d s1 g1 dv q1 => ?_⟩
  exact ⟨w1, ρ, _, rfl, ev.stp s1 g, g1, q1, fun w2 vs ds s2 g2 dvs q2 => k w2 (v :: vs) _ (s1.trans s2) g2 (.im (dv.fk (s2.fk g1)) dvs) q2⟩
theorem g_st {i : Nat} (h : PE X (.Name x pos) (tVar i)) (ha : PA X es (tG M X.K wg)) (hs : starEach (.Name x pos :: es) X.env = (false, eval (.Name x pos) X.env) :: starEach es X.env := by rfl) : PA X (.Name x pos :: es) (tG M X.K (gSt i wg)) := by
  refine PA.imp (pa_cons h ha hs) ?_
  rintro σ H Q ⟨w, ρ, Qd, eh, ev, g, ⟨q, hw⟩, k⟩
  obtain ⟨a, h1, h2⟩ := ev.ok i _ q
  subst eh
  exact ⟨_, h1, w, ρ, _, rfl, ev, g, hw, fun w2 vs ds s2 g2 dvs q2 => k w2 _ _ s2 g2 (.st (s2.m a h2) dvs) q2⟩
def wCall (f : FW) (wg : WG) : WE := fun ρ c Q => wg ρ c fun es c1 => f es c1 Q
theorem e_call {f : FW} {k j : Nat} (C : CalG X.prog X.w X.K X.mg X.base k x (fnSp M X.K f)) (hr : Room j X.A) (hk : k ≤ j) (gds : X.A.guards = some []) (hg : Gl X x) (ha : PA X (e :: es) (tG M X.K wg))
    (hdb : (x == ("__debug__" : Str)) = false := by decide) (he : starEach (e :: es) X.env = (false, eval e X.env) :: starEach es X.env := by rfl) (hpl : (backTo pos (starEach es X.env)).any (·.1) = false := by rfl) :
    PE X (.Call (.Name x p) (e :: es) [] pos) (tE M X.K (wCall f wg)) := by
  refine PE.imp (pe_g C hr hk gds hg ha hdb he hpl) ?_
  rintro σ H Q ⟨w, ρ, Qd, eh, ev, g, hw, k⟩
  refine ⟨w, ρ, _, eh, ev, g, hw, fun w1 vs es s1 g1 ok q1 => ?_⟩
  show fnSp M X.K f (vs ++ []) w1.H Q E0
  rw [List.append_nil]
  exact ⟨w1, es, Qd, rfl, g1, ok, q1, fun w2 v d s2 g2 dv q2 => k w2 v d (s1.trans s2) g2 dv q2⟩
end

/-! ### statements -/
structure Dd where
  nx : List En → Nat → Prop
  rt : D → Nat → Prop
  bk : List En → Nat → Prop := fun _ _ => False
  ct : List En → Nat → Prop := fun _ _ => False
abbrev WS := Dd → List En → Nat → Prop
structure SOk (M : MI) (K : PySem.W.Frag) (w0 w : W) (σ : L2.St) (ρ : List En) : Prop where
  ev : EnvOk K w σ ρ
  gd : Gd M w
  st : Stp w0 w
  ow : ∀ i a, Own w σ ρ i a → w0.H a = none
structure Cont (M : MI) (K : PySem.W.Frag) (w0 w : W) (dd : Dd) (D : Ends) : Prop where
  nx : ∀ (w' : W) (σ' : L2.St) (ρ' : List En), Fk w w' → SOk M K w0 w' σ' ρ' → dd.nx ρ' w'.c → D.nx σ' w'.H
  rt : ∀ (w' : W) (v : V) (d : HW.D), Stp w0 w' → Gd M w' → Dv K w'.F w'.H v d → dd.rt d w'.c → D.rt v w'.H
  bk : ∀ (w' : W) (σ' : L2.St) (ρ' : List En), Fk w w' → SOk M K w0 w' σ' ρ' → dd.bk ρ' w'.c → D.bk σ' w'.H
  ct : ∀ (w' : W) (σ' : L2.St) (ρ' : List En), Fk w w' → SOk M K w0 w' σ' ρ' → dd.ct ρ' w'.c → D.ct σ' w'.H
theorem Cont.mono {M : MI} {K : PySem.W.Frag} {w0 w w1 : W} {dd : Dd} {D : Ends} (h : Cont M K w0 w dd D) (f : Fk w w1) : Cont M K w0 w1 dd D :=
  ⟨fun w' σ' ρ' g => h.nx w' σ' ρ' (f.trans g), h.rt, fun w' σ' ρ' g => h.bk w' σ' ρ' (f.trans g), fun w' σ' ρ' g => h.ct w' σ' ρ' (f.trans g)⟩
def tS (M : MI) (K : PySem.W.Frag) (w0 : W) (ws : WS) : TS := fun D σ H => ∃ (w : W) (ρ : List En) (dd : Dd), w.H = H ∧ SOk M K w0 w σ ρ ∧ ws dd ρ w.c ∧ Cont M K w0 w dd D
theorem SOk.stp {M : MI} {K : PySem.W.Frag} {w0 w w' : W} {σ : L2.St} {ρ : List En} (h : SOk M K w0 w σ ρ) (s : Stp w w') (g : Gd M w') : SOk M K w0 w' σ ρ := ⟨h.ev.stp s h.gd, g, h.st.trans s, fun i a o => h.ow i a (Own.back h.ev.ok s o)⟩
theorem SOk.setIm {M : MI} {K : PySem.W.Frag} {w0 w : W} {σ : L2.St} {ρ : List En} {i : Nat} {v : V} {d : D} (h : SOk M K w0 w σ ρ) (hv : Dv K w.F w.H v d) : SOk M K w0 w (σ.set i (some v)) (ρ.set i (.im d)) :=
  ⟨h.ev.setIm hv, h.gd, h.st, fun j a o => h.ow j a (own_set rfl o)⟩
section
variable {X : Cx} {M : MI} {w0 : W} {e : Expr} {st : Stmt} {rest sts : List Stmt} {ws wr : WS} {we : WE} {wt : WT} {pos : Pos}
def wSeq (ws wr : WS) : WS := fun dd ρ c => ws { dd with nx := fun ρ' c' => wr dd ρ' c' } ρ c
def wNext : WS := fun dd ρ c => dd.nx ρ c
theorem s_nil : PSs X [] (tS M X.K w0 wNext) := PSs.imp pss_nil fun D σ H ⟨w, ρ, dd, eh, so, hw, k⟩ => by subst eh; exact k.nx w σ ρ (Fk.refl w) so hw
theorem s_one (h : PS X st (tS M X.K w0 ws)) : PSs X [st] (tS M X.K w0 ws) := pss_one h
theorem s_cons (h : PS X st (tS M X.K w0 ws)) (h' : PSs X rest (tS M X.K w0 wr)) : PSs X (st :: rest) (tS M X.K w0 (wSeq ws wr)) := by
  refine PSs.imp (pss_cons h h') ?_
  rintro D σ H ⟨w, ρ, dd, eh, so, hw, k⟩
  exact ⟨w, ρ, _, eh, so, hw, fun w' σ' ρ' f so' q => ⟨w', ρ', dd, rfl, so', q, k.mono f⟩, k.rt, k.bk, k.ct⟩
def wRet (we : WE) : WS := fun dd ρ c => we ρ c dd.rt
theorem s_ret (h : PE X e (tE M X.K we)) : PS X (.Return (some e) pos) (tS M X.K w0 (wRet we)) := by
  refine PS.imp (ps_ret h) ?_
  rintro D σ H ⟨w, ρ, dd, eh, so, hw, k⟩
  exact ⟨w, ρ, _, eh, so.ev, so.gd, hw, fun w' v d s g dv q => k.rt w' v d (so.st.trans s) g dv q⟩
def wRetN : WS := fun dd _ c => dd.rt .none c
theorem s_retN : PS X (.Return none pos) (tS M X.K w0 wRetN) := PS.imp ps_retN fun D σ H ⟨w, ρ, dd, eh, so, hw, k⟩ => by subst eh; exact k.rt w .non .none so.st so.gd .non hw
/-- a list, a dict of one's own handed back -/
def wRetO (i : Nat) : WS := fun dd ρ c => ∃ en d, ρ[i]? = some en ∧ en.look = some d ∧ dd.rt d c
theorem s_retO {x : Str} {i : Nat} {p : Pos} (h : PE X (.Name x p) (tVar i)) : PS X (.Return (some (.Name x p)) pos) (tS M X.K w0 (wRetO i)) := by
  refine PS.imp (ps_ret h) ?_
  rintro D σ H ⟨w, ρ, dd, eh, so, ⟨en, d, q, l, hw⟩, k⟩
  subst eh
  have z := so.ev.ok i _ q
  cases en with
  | un => cases l
  | st => cases l
  | dl ds => cases l
  | dt ds => cases l
  | im d' => cases l; obtain ⟨v, h1, h2⟩ := z; exact ⟨v, h1, k.rt w v _ so.st so.gd h2 hw⟩
  | ls ds =>
    cases l
    obtain ⟨a, vs, h1, h2, h3, h4, h5⟩ := z
    have h0 := so.ow i a ⟨a, _, h1, q, rfl, .inl rfl⟩
    exact ⟨_, h1, k.rt (w.frz a) _ _ (stp_frz so.st h0) (gd_frz so.gd (by rw [h2]; simp) h4) (.lst (.inl ⟨.inr rfl, .of h2⟩) (h5.fk fk_frz)) hw⟩
  | dc ds =>
    cases l
    obtain ⟨a, vs, h1, h2, h3, h4, h5⟩ := z
    have h0 := so.ow i a ⟨a, _, h1, q, rfl, .inl rfl⟩
    exact ⟨_, h1, k.rt (w.frz a) _ _ (stp_frz so.st h0) (gd_frz so.gd (by rw [h2]; simp) h4) (.dic (.inr rfl) (.inl h2) (h5.fk fk_frz)) hw⟩
def wDrop (we : WE) : WS := fun dd ρ c => we ρ c fun _ c1 => dd.nx ρ c1
theorem s_expr (h : PE X e (tE M X.K we)) (hs : swapsWith e none pos.line X.env = pure false := by rfl) : PS X (.Expr e pos) (tS M X.K w0 (wDrop we)) := by
  refine PS.imp (ps_expr h hs) ?_
  rintro D σ H ⟨w, ρ, dd, eh, so, hw, k⟩
  exact ⟨w, ρ, _, eh, so.ev, so.gd, hw, fun w' v d s g dv q => k.nx w' σ ρ (s.fk so.gd) (so.stp s g) q⟩
def wSet (i : Nat) (we : WE) : WS := fun dd ρ c => we ρ c fun d c1 => dd.nx (ρ.set i (.im d)) c1
theorem r_set {i : Nat} : ∀ (D : Ends) (σ : L2.St) (H : Hp), tS M X.K w0 (wSet i we) D σ H → tAsg (tE M X.K we) (gName i) D σ H := by
  rintro D σ H ⟨w, ρ, dd, eh, so, hw, k⟩
  exact ⟨w, ρ, _, eh, so.ev, so.gd, hw, fun w' v d s g dv q => k.nx w' _ _ (s.fk so.gd) ((so.stp s g).setIm dv) q⟩
theorem s_set {i : Nat} {x : Str} {pos' : Pos} (hN : X.N.Nodup) (hi : X.N[i]? = some x) (hx : Loc X.env.scope x) (he : PE X e (tE M X.K we)) (hs : swapsWith e (some (.Name x pos')) pos.line X.env = pure false := by rfl) (hf : X.fn x = true ∨ X.env.scope.names.lookup x = some .local := by first | exact .inl rfl | exact .inr rfl | assumption) :
    PS X (.Assign [.Name x pos'] e pos) (tS M X.K w0 (wSet i we)) := PS.imp (ps_set hN hi hx he hs hf) r_set
def wIf (wt : WT) (ws wr : WS) : WS := fun dd ρ c => wt ρ c fun b c1 => if b = true then ws dd ρ c1 else wr dd ρ c1
theorem s_if {c : Expr} {a b : List Stmt} (hc : L2.PT X c (tT M X.K wt)) (ha : PSs X a (tS M X.K w0 ws)) (hb : PSs X b (tS M X.K w0 wr)) : PS X (.If c a b pos) (tS M X.K w0 (wIf wt ws wr)) := by
  refine PS.imp (ps_if hc ha hb) ?_
  rintro D σ H ⟨w, ρ, dd, eh, so, hw, k⟩
  refine ⟨w, ρ, _, eh, so.ev, so.gd, hw, fun w' b s g q => ?_⟩
  cases b with
  | true => exact iteT ⟨w', ρ, dd, rfl, so.stp s g, q, k.mono (s.fk so.gd)⟩
  | false => exact iteF ⟨w', ρ, dd, rfl, so.stp s g, q, k.mono (s.fk so.gd)⟩
def wPass : WS := fun dd ρ c => dd.nx ρ c
def wBrk : WS := fun dd ρ c => dd.bk ρ c
def wCnt : WS := fun dd ρ c => dd.ct ρ c
def wNev : WS := fun _ _ _ => False
theorem s_pass : PS X (.Pass pos) (tS M X.K w0 wPass) := PS.imp ps_pass fun D σ H ⟨w, ρ, dd, eh, so, hw, k⟩ => by subst eh; exact k.nx w σ ρ (Fk.refl w) so hw
theorem s_brk : PS X (.Break pos) (tS M X.K w0 wBrk) := PS.imp ps_break fun D σ H ⟨w, ρ, dd, eh, so, hw, k⟩ => by subst eh; exact k.bk w σ ρ (Fk.refl w) so hw
theorem s_cnt : PS X (.Continue pos) (tS M X.K w0 wCnt) := PS.imp ps_continue fun D σ H ⟨w, ρ, dd, eh, so, hw, k⟩ => by subst eh; exact k.ct w σ ρ (Fk.refl w) so hw
/-- never reached -/
theorem s_nev : PS X st (tS M X.K w0 wNev) := PS.imp ps_never fun D σ H ⟨w, ρ, dd, eh, so, hw, k⟩ => hw
/-! for -/
def forGo (tg : D → List En → (List En → Prop) → Prop) (ws : WS) : List D → Dd → List En → Nat → Prop
  | [], dd, ρ, c => dd.nx ρ c
  | d :: r, dd, ρ, c => tg d ρ fun ρ' => ws { dd with nx := fun ρ2 c2 => forGo tg ws r dd ρ2 c2, ct := fun ρ2 c2 => forGo tg ws r dd ρ2 c2, bk := dd.nx } ρ' c
/-- a target: what it makes of the slots -/
abbrev WGt := D → List En → (List En → Prop) → Prop
def TgOk (M : MI) (K : PySem.W.Frag) (w0 : W) (g : TG) (tg : WGt) : Prop := ∀ (w : W) (σ : L2.St) (ρ : List En) (v : V) (d : D) (Qd : List En → Prop) (Q : L2.St → Hp → Prop), SOk M K w0 w σ ρ → Dv K w.F w.H v d → tg d ρ Qd →
  (∀ σ' ρ', SOk M K w0 w σ' ρ' → Qd ρ' → Q σ' w.H) → g v σ w.H Q
def gN (i : Nat) : WGt := fun d ρ Q => Q (ρ.set i (.im d))
theorem tg_name {K : PySem.W.Frag} {i : Nat} : TgOk M K w0 (gName i) (gN i) := fun w σ ρ v d Qd Q so dv hq k => k _ _ (so.setIm dv) hq
/-- a, b, .. = a tuple -/
def gTs : List Nat → List D → List En → (List En → Prop) → Prop
  | [], [], ρ, Q => Q ρ
  | i :: is, d :: ds, ρ, Q => gTs is ds (ρ.set i (.im d)) Q
  | _, _, _, _ => False
def gT (is : List Nat) : WGt := fun d ρ Q => ∃ ds, d = .tuple ds ∧ gTs is ds ρ Q
def gNames : List Nat → TGs
  | [] => L2.gNil
  | i :: is => gCons (gName i) (gNames is)
theorem gTs_len : ∀ {is : List Nat} {ds : List D} {ρ : List En} {Q : List En → Prop}, gTs is ds ρ Q → ds.length = is.length
  | [], [], _, _, _ => rfl
  | _ :: _, _ :: _, _, _, h => congrArg (· + 1) (gTs_len (by simpa only [gTs] using h))
  | [], _ :: _, _, _, h => by simp only [gTs] at h
  | _ :: _, [], _, _, h => by simp only [gTs] at h
theorem tg_tup {K : PySem.W.Frag} {is : List Nat} : TgOk M K w0 (gTup K is.length (gNames is)) (gT is) := fun w σ ρ v d Qd Q so dv hq k => by
  obtain ⟨ds, rfl, hq⟩ := hq
  cases dv with
  | @tup a vs _ h1 h2 =>
    refine ⟨a, vs, rfl, h1.sq, by rw [h2.length, gTs_len hq], ?_⟩
    clear h1
    induction is generalizing vs ds σ ρ with
    | nil =>
      cases h2 with
      | nil => exact ⟨rfl, k σ ρ so (by simpa only [gTs] using hq)⟩
      | cons _ _ => simp only [gTs] at hq
    | cons i is ih =>
      cases h2 with
      | nil => simp only [gTs] at hq
      | cons hv hr => exact ⟨_, _, rfl, ih _ _ (so.setIm hv) _ (by simpa only [gTs] using hq) hr⟩
def wFor (wi : WI) (tg : WGt) (ws : WS) : WS := fun dd ρ c => wi ρ c fun ds c1 => forGo tg ws ds dd ρ c1
theorem s_for {iter tgt : Expr} {body : List Stmt} {wi : WI} {g : TG} {tg : WGt} (hp : PassesOwn (model X.prog X.w) X.A X.env X.xe) (hc : X.calm = true) (hi : PI X tgt iter (tI M X.K Fk wi)) (hg : PG X tgt g) (ht : TgOk M X.K w0 g tg) (hb : PSs X body (tS M X.K w0 ws))
    (hs : ∀ x, foldedSetIterable iter X.env x = pure x := by intro _; rfl) : PS X (.For tgt iter body [] pos) (tS M X.K w0 (wFor wi tg ws)) := by
  refine PS.imp (ps_for hp hc hi hg hb hs) ?_
  rintro D σ H ⟨w, ρ, dd, eh, so, hw, k⟩
  refine ⟨w, ρ, _, eh, so.ev, so.gd, hw, fun w1 J ds s1 g1 jk q1 => ?_⟩
  refine ⟨fun i m σ' H' => ∃ (w' : W) (ρ' : List En), w'.H = H' ∧ m = ds.length - i ∧ i ≤ ds.length ∧ Fk w1 w' ∧ SOk M X.K w0 w' σ' ρ' ∧ forGo tg ws (ds.drop i) dd ρ' w'.c,
    ⟨ds.length, w1, ρ, rfl, by simp, Nat.zero_le _, Fk.refl w1, so.stp s1 g1, q1⟩, ?_⟩
  rintro i m σ' H' ⟨w', ρ', rfl, rfl, hi, f', so', q⟩
  have fw := (s1.fk so.gd).trans f'
  by_cases hlt : i < ds.length
  · have ed : ds[i]? = some ds[i] := by simp [hlt]
    obtain ⟨jg, jy⟩ := jk.go w' i _ f' so'.gd ed
    refine .inr ⟨jg, fun σ2 H2 => ∃ (w2 : W) (ρ2 : List En), w2.H = H2 ∧ Fk w1 w2 ∧ SOk M X.K w0 w2 σ2 ρ2 ∧ forGo tg ws (ds.drop (i + 1)) dd ρ2 w2.c, ?_, fun x H2 y => ?_⟩
    · rintro σ2 H2 ⟨w2, ρ2, h⟩
      exact ⟨ds.length - (i + 1), by omega, w2, ρ2, h.1, rfl, hlt, h.2⟩
    · obtain ⟨w2, rfl, ec, s2, g2, dx⟩ := jy x H2 y
      have q2 : forGo tg ws (ds[i] :: ds.drop (i + 1)) dd ρ' w2.c := by
        rw [ec, ← List.drop_eq_getElem_cons hlt]; exact q
      have f2 := f'.trans (s2.fk so'.gd)
      refine ht w2 σ' ρ' x _ _ _ (so'.stp s2 g2) dx q2 fun σ3 ρ3 so3 q3 => ?_
      exact ⟨w2, ρ3, _, rfl, so3, q3, fun w4 σ4 ρ4 f4 so4 q4 => ⟨w4, ρ4, rfl, f2.trans f4, so4, q4⟩, k.rt, fun w4 σ4 ρ4 f4 so4 q4 => k.nx w4 σ4 ρ4 ((s1.fk so.gd).trans (f2.trans f4)) so4 q4,
        fun w4 σ4 ρ4 f4 so4 q4 => ⟨w4, ρ4, rfl, f2.trans f4, so4, q4⟩⟩
  · have e : i = ds.length := by omega
    subst e
    rw [List.drop_length] at q
    exact .inl ⟨jk.stop w' _ f' so'.gd (Nat.le_refl _), k.nx w' σ' ρ' fw so' q⟩
/-- a target, assigned -/
def wAsg (we : WE) (tg : WGt) : WS := fun dd ρ c => we ρ c fun d c1 => tg d ρ fun ρ' => dd.nx ρ' c1
theorem s_asg {tgt : Expr} {g : TG} {tg : WGt} (he : PE X e (tE M X.K we)) (hg : PG X tgt g) (ht : TgOk M X.K w0 g tg) (hs : swapsWithSole [tgt] e pos.line X.env = pure false := by rfl) (hw : swappedStores [tgt] e X.env = pure none := by rfl)
    (h1 : (assignEach [tgt] X.env).map (·.2) = [assign tgt X.env] := by rfl) : PS X (.Assign [tgt] e pos) (tS M X.K w0 (wAsg we tg)) := by
  refine PS.imp (ps_asg he hg hs hw h1) ?_
  rintro D σ H ⟨w, ρ, dd, eh, so, hw, k⟩
  exact ⟨w, ρ, _, eh, so.ev, so.gd, hw, fun w' v d s g dv q => ht w' σ ρ v d _ _ (so.stp s g) dv q fun σ' ρ' so' q' => k.nx w' σ' ρ' (s.fk so.gd) so' q'⟩
end

/-! ### a def of one's own by its body's word -/
def startE (N : List Str) (es : List En) : List En := es ++ List.replicate (N.length - es.length) .un
def wDef (N : List Str) (ws : WS) : FW := fun es c Q => ws { nx := fun _ c' => Q .none c', rt := Q } (startE N es) c
theorem args_env {K : PySem.W.Frag} {w : W} : ∀ {vs : List V} {es : List En}, ArgsOk K w vs es → ∀ (i : Nat) (e : En), es[i]? = some e → EnOk K w ((vs.map some)[i]?) e ∧ e.mut = false
  | _, _, .nil, i, e, h => by simp at h
  | _, _, .im d h, 0, e, q => by simp at q; subst q; exact ⟨⟨_, rfl, d⟩, rfl⟩
  | _, _, .st d h, 0, e, q => by simp at q; subst q; exact ⟨⟨_, rfl, d⟩, rfl⟩
  | _, _, .im d h, i + 1, e, q => by simpa using args_env h i e (by simpa using q)
  | _, _, .st d h, i + 1, e, q => by simpa using args_env h i e (by simpa using q)
theorem start_ok {K : PySem.W.Frag} {M : MI} {w : W} {N : List Str} {vs : List V} {es : List En} (g : Gd M w) (a : ArgsOk K w vs es) : SOk M K w w (L2.start N vs) (startE N es) := by
  have hl := a.length
  have no : ∀ i b, ¬ Own w (L2.start N vs) (startE N es) i b := fun i b ⟨p, e, _, o, hm, _⟩ => by
    unfold startE at o
    by_cases hi : i < es.length
    · rw [List.getElem?_append_left hi] at o
      rw [(args_env a i _ o).2] at hm
      cases hm
    · rw [List.getElem?_append_right (by omega), List.getElem?_replicate] at o
      split at o
      · cases o; cases hm
      · cases o
  refine ⟨⟨?_, fun i e q => ?_, fun i j b o => (no i b o).elim⟩, g, Stp.refl w, fun i b o => (no i b o).elim⟩
  · unfold L2.start startE
    rw [List.length_append, List.length_append, List.length_map, List.length_replicate, List.length_replicate, hl]
  · unfold startE at q
    unfold L2.start
    by_cases hi : i < es.length
    · rw [List.getElem?_append_left hi] at q
      rw [List.getElem?_append_left (by rw [List.length_map, hl]; exact hi)]
      exact (args_env a i e q).1
    · rw [List.getElem?_append_right (by omega), List.getElem?_replicate] at q
      split at q
      · cases q; exact True.intro
      · cases q
theorem def_g {P : Program} {w : World} {K : PySem.W.Frag} {mg : Str → Option Value} {base : Heap} {k : Nat} {f : Addr} {fd : FuncData} {x qual : Str} {st : Stmt} {N ps : List Str} {M : MI} {ws : WS} {fw : FW} (F : L2.Fun K x qual st f fd) (S : FnScope N ps (defScope st))
    (hb : ∀ (cdv : Value) (A : Around) (outer : List Env) (s : Shared) (H : Hp) (E : XK) (w0 : W), (A.deeper (PyProof.Rows.envOfC qual (defScope st) s.heap.objs.size f cdv)).guards = some [] → Room k (A.deeper (PyProof.Rows.envOfC qual (defScope st) s.heap.objs.size f cdv)) →
      PSs (cxOf CX0 P w K mg base N qual (defScope st) f cdv A outer s H E).nox (defBody st) (tS M K w0 ws))
    (hf : ∀ es c Q, fw es c Q → es.length = ps.length ∧ wDef N ws es c Q) : FnG P w K mg base CX0 (k + 1) f fd ps (fnSp M K fw) := by
  refine fnG F S (fun vs H Q E h => ?_) fun cdv A outer s H vs Q E gds room h => ?_
  · obtain ⟨w, es, Qd, eh, g, a, hw, k⟩ := h
    rw [a.length]; exact (hf _ _ _ hw).1
  · obtain ⟨w1, es, Qd, eh, g, a, hw, k⟩ := h
    refine ⟨tS M K w1 ws, (hb cdv A outer s H E w1 gds room).nox, w1, startE N es, _, eh, start_ok g a, (hf _ _ _ hw).2, ?_⟩
    exact ⟨fun w' σ' ρ' _ so q => k w' .non .none so.st so.gd .non q, fun w' v d s g dv q => k w' v d s g dv q, fun _ _ _ _ _ q => q, fun _ _ _ _ _ q => q⟩
end HW

namespace HW
open PySem L2
/-! ### objects of one's own -/
section
variable {K : PySem.W.Frag} {M : MI} {w w' w0 : W} {σ : L2.St} {ρ : List En}
theorem EnOk.tracked {p a : Addr} {e : En} (h : EnOk K w (some (some (.ref p))) e) (hm : e.mut = true) (s : Sub w e p a) : w.H a ≠ none ∧ ¬ w.F a ∧ a ∉ w.R := by
  have dl : ∀ {kvs : List (Key × V)} {ds : List (D × List D)}, DlOk K w kvs ds → ∀ k b, (k, V.ref b) ∈ kvs → w.H b ≠ none ∧ ¬ w.F b ∧ b ∉ w.R := by
    intro kvs ds h
    induction h with
    | nil => intro k b m; simp at m
    | @cons k0 b0 us es r s h1 h2 h3 h4 h5 h6 ih =>
      intro k b m
      rcases List.mem_cons.mp m with z | z
      · cases z; exact ⟨by rw [h1]; simp, h2, h3⟩
      · exact ih k b z
  cases e with
  | un => cases hm
  | im d => cases hm
  | st => cases hm
  | ls ds =>
    obtain ⟨q, vs, h1, h2, h3, h4, h5⟩ := h
    cases h1
    rcases s with rfl | ⟨_, _, _, z, _⟩
    · exact ⟨by rw [h2]; simp, h3, h4⟩
    · cases z
  | dc ds =>
    obtain ⟨q, vs, h1, h2, h3, h4, h5⟩ := h
    cases h1
    rcases s with rfl | ⟨_, _, _, z, _⟩
    · exact ⟨by rw [h2]; simp, h3, h4⟩
    · cases z
  | dt ds =>
    obtain ⟨q, vs, h1, h2, h3, h4, h5⟩ := h
    cases h1
    rcases s with rfl | ⟨_, _, _, z, _⟩
    · exact ⟨by rw [h2]; simp, h3, h4⟩
    · cases z
  | dl ds =>
    obtain ⟨q, vs, h1, h2, h3, h4, h5⟩ := h
    cases h1
    rcases s with rfl | ⟨_, kvs, k, z, h6, h7⟩
    · exact ⟨by rw [h2]; simp, h3, h4⟩
    · cases z
      rw [h2] at h6
      cases h6
      exact dl h5 k a h7
theorem EnvOk.tracked {i : Nat} {a : Addr} (h : EnvOk K w σ ρ) (o : Own w σ ρ i a) : w.H a ≠ none ∧ ¬ w.F a ∧ a ∉ w.R := by
  obtain ⟨p, e, h1, h2, h3, h4⟩ := o
  have z := h.ok i e h2
  rw [h1] at z
  exact z.tracked h3 h4
/-- a new object of one's own is stored -/
theorem SOk.setOwn {i : Nat} {p : Addr} {en : En} (h : SOk M K w0 w σ ρ) (hm : en.mut = true) (he : EnOk K w (some (some (.ref p))) en) (h0 : ∀ a, Sub w en p a → w0.H a = none ∧ ∀ j, ¬ Own w σ ρ j a) : SOk M K w0 w (σ.set i (some (.ref p))) (ρ.set i en) := by
  have old : ∀ {j : Nat} {a : Addr}, i ≠ j → Own w (σ.set i (some (.ref p))) (ρ.set i en) j a → Own w σ ρ j a := fun {j a} ij o => by
    obtain ⟨q, e, h1, h2, h3, h4⟩ := o
    rw [List.getElem?_set_ne ij] at h1 h2
    exact ⟨q, e, h1, h2, h3, h4⟩
  have new : ∀ {a : Addr}, Own w (σ.set i (some (.ref p))) (ρ.set i en) i a → Sub w en p a := fun {a} o => by
    obtain ⟨q, e, h1, h2, h3, h4⟩ := o
    rw [List.getElem?_set] at h1 h2
    simp at h1 h2
    obtain ⟨_, rfl⟩ := h1
    obtain ⟨_, rfl⟩ := h2
    exact h4
  refine ⟨⟨by rw [List.length_set, List.length_set]; exact h.ev.len, fun j e q => ?_, fun j k a o1 o2 => ?_⟩, h.gd, h.st, fun j a o => ?_⟩
  · by_cases ij : i = j
    · subst ij
      have hi : i < ρ.length := by
        by_cases hi : i < ρ.length
        · exact hi
        · rw [List.getElem?_eq_none (by simpa using hi)] at q; cases q
      rw [List.getElem?_set_self hi] at q
      cases q
      rw [List.getElem?_set_self (by rw [h.ev.len]; exact hi)]
      exact he
    · rw [List.getElem?_set_ne ij] at q ⊢
      exact h.ev.ok j e q
  · by_cases ij : i = j
    · subst ij
      by_cases ik : i = k
      · exact ik
      · exact absurd (old ik o2) ((h0 a (new o1)).2 k)
    · by_cases ik : i = k
      · subst ik
        exact absurd (old ij o1) ((h0 a (new o2)).2 j)
      · exact h.ev.ap j k a (old ij o1) (old ik o2)
  · by_cases ij : i = j
    · subst ij
      exact (h0 a (new o)).1
    · exact h.ow j a (old ij o)
theorem DlOk.put {a : Addr} {o : HO} (f : ¬ w.F a) : ∀ {kvs : List (Key × V)} {ds : List (D × List D)}, DlOk K w kvs ds → (∀ k, (k, V.ref a) ∉ kvs) → DlOk K (w.own a o) kvs ds
  | _, _, .nil, _ => .nil
  | _, _, .cons (b := b) h1 h2 h3 h4 h5 h6, n => by
    have ne : b ≠ a := fun z => n _ (by rw [z]; exact List.mem_cons_self)
    exact .cons ((upd_ne ne).trans h1) h2 h3 (h4.fk (fk_put f)) h5 (DlOk.put f h6 fun k m => n k (List.mem_cons_of_mem _ m))
/-- another slot, where the object at a changes -/
theorem EnOk.put {s : Option (Option V)} {e : En} {a : Addr} {o : HO} (f : ¬ w.F a) (h : EnOk K w s e) (n : ∀ p, s = some (some (.ref p)) → e.mut = true → ¬ Sub w e p a) : EnOk K (w.own a o) s e := by
  cases e with
  | un => exact True.intro
  | im d => obtain ⟨v, h1, h2⟩ := h; exact ⟨v, h1, h2.fk (fk_put f)⟩
  | st => exact h
  | ls ds =>
    obtain ⟨p, vs, h1, h2, h3, h4, h5⟩ := h
    have ne : p ≠ a := fun z => n p h1 rfl (.inl z.symm)
    exact ⟨p, vs, h1, (upd_ne ne).trans h2, h3, h4, h5.fk (fk_put f)⟩
  | dc ds =>
    obtain ⟨p, vs, h1, h2, h3, h4, h5⟩ := h
    have ne : p ≠ a := fun z => n p h1 rfl (.inl z.symm)
    exact ⟨p, vs, h1, (upd_ne ne).trans h2, h3, h4, h5.fk (fk_put f)⟩
  | dt ds =>
    obtain ⟨p, vs, h1, h2, h3, h4, h5, h6⟩ := h
    have ne : p ≠ a := fun z => n p h1 rfl (.inl z.symm)
    exact ⟨p, vs, h1, (upd_ne ne).trans h2, h3, h4, h5, h6.fk (fk_put f)⟩
  | dl ds =>
    obtain ⟨p, vs, h1, h2, h3, h4, h5⟩ := h
    have ne : p ≠ a := fun z => n p h1 rfl (.inl z.symm)
    exact ⟨p, vs, h1, (upd_ne ne).trans h2, h3, h4, h5.put f fun k m => n p h1 rfl (.inr ⟨ds, vs, k, rfl, h2, m⟩)⟩
/-- the object at a, which hangs on slot i alone, changes; slot i then bears en -/
theorem SOk.put {i : Nat} {a p : Addr} {o : HO} {en en' : En} (h : SOk M K w0 w σ ρ) (hs : σ[i]? = some (some (.ref p))) (hr : ρ[i]? = some en) (hm : en.mut = true) (sa : Sub w en p a) (hm' : en'.mut = true) (he : EnOk K (w.own a o) (some (some (.ref p))) en')
    (sub : ∀ b, Sub (w.own a o) en' p b → Sub w en p b) : SOk M K w0 (w.own a o) σ (ρ.set i en') := by
  have oa : Own w σ ρ i a := ⟨p, en, hs, hr, hm, sa⟩
  obtain ⟨t1, t2, t3⟩ := h.ev.tracked oa
  have hi : i < ρ.length := (List.getElem?_eq_some_iff.mp hr).1
  have back : ∀ {j : Nat} {b : Addr}, Own (w.own a o) σ (ρ.set i en') j b → Own w σ ρ j b := fun {j b} ob => by
    obtain ⟨q, e, h1, h2, h3, h4⟩ := ob
    by_cases ij : i = j
    · subst ij
      rw [List.getElem?_set_self hi] at h2
      cases h2
      rw [hs] at h1
      cases h1
      exact ⟨p, en, hs, hr, hm, sub b h4⟩
    · rw [List.getElem?_set_ne ij] at h2
      refine ⟨q, e, h1, h2, h3, ?_⟩
      rcases h4 with h4 | ⟨ds, kvs, k, rfl, h5, h6⟩
      · exact .inl h4
      · have ne : q ≠ a := fun z => ij (h.ev.ap i j a oa ⟨q, _, h1, h2, h3, .inl z.symm⟩)
        exact .inr ⟨ds, kvs, k, rfl, (upd_ne ne).symm.trans h5, h6⟩
  refine ⟨⟨by rw [List.length_set]; exact h.ev.len, fun j e q => ?_, fun j k b o1 o2 => h.ev.ap j k b (back o1) (back o2)⟩, gd_put h.gd t1 t3, stp_put h.st (h.ow i a oa), fun j b ob => h.ow j b (back ob)⟩
  by_cases ij : i = j
  · subst ij
    rw [List.getElem?_set_self hi] at q
    cases q
    rw [hs]
    exact he
  · rw [List.getElem?_set_ne ij] at q
    exact (h.ev.ok j e q).put t2 fun q' h1 h2 h3 => ij (h.ev.ap i j a oa ⟨q', e, h1, q, h2, h3⟩)
end
abbrev WN := List En → Nat → (En → Nat → Prop) → Prop
def tN (M : MI) (K : PySem.W.Frag) (wn : WN) : TE := fun σ H Q => ∃ (w : W) (ρ : List En) (Qd : En → Nat → Prop), w.H = H ∧ EnvOk K w σ ρ ∧ Gd M w ∧ wn ρ w.c Qd ∧
  ∀ (w' : W) (p : Addr) (en : En), Stp w w' → Gd M w' → en.mut = true → EnOk K w' (some (some (.ref p))) en → (∀ a, Sub w' en p a → w.H a = none) → Qd en w'.c → Q (.ref p) w'.H
section
variable {X : Cx} {M : MI} {w0 : W} {e k o a b : Expr} {es : List Expr} {we wk wd : WE} {wa : WA} {wn : WN} {pos : Pos}
theorem SOk.setNew {K : PySem.W.Frag} {w w' : W} {σ : L2.St} {ρ : List En} {i : Nat} {p : Addr} {en : En} (so : SOk M K w0 w σ ρ) (s : Stp w w') (g : Gd M w') (hm : en.mut = true) (he : EnOk K w' (some (some (.ref p))) en) (fr : ∀ a, Sub w' en p a → w.H a = none) : SOk M K w0 w' (σ.set i (some (.ref p))) (ρ.set i en) :=
  (so.stp s g).setOwn hm he fun a sa => ⟨nn so.st (fr a sa), fun j oj => (so.ev.tracked (Own.back so.ev.ok s oj)).1 (fr a sa)⟩
def wOwn (i : Nat) (wn : WN) : WS := fun dd ρ c => wn ρ c fun en c1 => dd.nx (ρ.set i en) c1
/-- name = a new list, dict of one's own -/
theorem s_own {i : Nat} {x : Str} {pos' : Pos} (hN : X.N.Nodup) (hi : X.N[i]? = some x) (hx : Loc X.env.scope x) (he : PE X e (tN M X.K wn)) (hs : swapsWith e (some (.Name x pos')) pos.line X.env = pure false := by rfl) (hf : X.fn x = true ∨ X.env.scope.names.lookup x = some .local := by first | exact .inl rfl | exact .inr rfl | assumption) :
    PS X (.Assign [.Name x pos'] e pos) (tS M X.K w0 (wOwn i wn)) := by
  refine PS.imp (ps_set hN hi hx he hs hf) ?_
  rintro D σ H ⟨w, ρ, dd, eh, so, hw, k⟩
  exact ⟨w, ρ, _, eh, so.ev, so.gd, hw, fun w' p en s g hm he fr q => k.nx w' _ _ (s.fk so.gd) (so.setNew s g hm he fr) q⟩
/-- a, b = e, a new object: two local names -/
def wParN (i j : Nat) (we : WE) (wn : WN) : WS := fun dd ρ c => we ρ c fun d c1 => wn ρ c1 fun en c2 => dd.nx ((ρ.set i (.im d)).set j en) c2
theorem s_parN {i j : Nat} {x y : Str} {px py pt : Pos} {kt k2 pt2} (hc : X.calm = true) (hN : X.N.Nodup) (hi : X.N[i]? = some x) (hj : X.N[j]? = some y) (hij : i ≠ j) (hx : X.env.scope.names.lookup x = some .local) (hy : X.env.scope.names.lookup y = some .local) (ha : PE X a (tE M X.K we)) (hb : PE X b (tN M X.K wn))
    (hw : swappedStores [.Tuple [.Name x px, .Name y py] kt pt] (.Tuple [a, b] k2 pt2) X.env = pure (some [x, y]) := by rfl) (h1 : starEach [a, b] X.env = (false, eval a X.env) :: starEach [b] X.env := by rfl) (h2 : starEach [b] X.env = (false, eval b X.env) :: starEach [] X.env := by rfl) (hs : swapsWithSole [.Tuple [.Name x px, .Name y py] kt pt] (.Tuple [a, b] k2 pt2) pos.line X.env = pure false := by rfl) :
    PS X (.Assign [.Tuple [.Name x px, .Name y py] kt pt] (.Tuple [a, b] k2 pt2) pos) (tS M X.K w0 (wParN i j we wn)) := by
  refine PS.imp (ps_par hc hN hi hj hij hx hy (pa_cons ha (pa_cons hb pa_nil h2) h1) hw hs) ?_
  rintro D σ H ⟨w, ρ, dd, eh, so, hw, k⟩
  refine ⟨w, ρ, _, eh, so.ev, so.gd, hw, fun w1 v d s1 g1 dv q1 => ?_⟩
  refine ⟨w1, ρ, _, rfl, so.ev.stp s1 so.gd, g1, q1, fun w2 p en s2 g2 hm he fr q2 => ?_⟩
  refine ⟨v, .ref p, rfl, ?_⟩
  have so1 := ((so.stp s1 g1).stp s2 g2).setIm (i := i) (dv.fk (s2.fk g1))
  refine k.nx w2 _ _ ((s1.trans s2).fk so.gd) (so1.setOwn hm he fun a sa => ⟨nn (so.st.trans s1) (fr a sa), fun j' oj => ?_⟩) q2
  have o1 : Own w2 σ ρ j' a := own_set rfl oj
  have so2 := so.stp s1 g1
  exact (so2.ev.tracked (Own.back so2.ev.ok s2 o1)).1 (fr a sa)
/-- a, b = e, f: two local names -/
def wPar (i j : Nat) (we wk : WE) : WS := fun dd ρ c => we ρ c fun d c1 => wk ρ c1 fun d2 c2 => dd.nx ((ρ.set i (.im d)).set j (.im d2)) c2
theorem s_par {i j : Nat} {x y : Str} {px py pt : Pos} {kt k2 pt2} (hc : X.calm = true) (hN : X.N.Nodup) (hi : X.N[i]? = some x) (hj : X.N[j]? = some y) (hij : i ≠ j) (hx : X.env.scope.names.lookup x = some .local) (hy : X.env.scope.names.lookup y = some .local) (ha : PE X a (tE M X.K we)) (hb : PE X b (tE M X.K wk))
    (hw : swappedStores [.Tuple [.Name x px, .Name y py] kt pt] (.Tuple [a, b] k2 pt2) X.env = pure (some [x, y]) := by rfl) (h1 : starEach [a, b] X.env = (false, eval a X.env) :: starEach [b] X.env := by rfl) (h2 : starEach [b] X.env = (false, eval b X.env) :: starEach [] X.env := by rfl) (hs : swapsWithSole [.Tuple [.Name x px, .Name y py] kt pt] (.Tuple [a, b] k2 pt2) pos.line X.env = pure false := by rfl) :
    PS X (.Assign [.Tuple [.Name x px, .Name y py] kt pt] (.Tuple [a, b] k2 pt2) pos) (tS M X.K w0 (wPar i j we wk)) := by
  refine PS.imp (ps_par hc hN hi hj hij hx hy (pa_cons ha (pa_cons hb pa_nil h2) h1) hw hs) ?_
  rintro D σ H ⟨w, ρ, dd, eh, so, hw, k⟩
  refine ⟨w, ρ, _, eh, so.ev, so.gd, hw, fun w1 v d s1 g1 dv q1 => ?_⟩
  refine ⟨w1, ρ, _, rfl, so.ev.stp s1 so.gd, g1, q1, fun w2 v2 d2 s2 g2 dv2 q2 => ?_⟩
  exact ⟨v, v2, rfl, k.nx w2 _ _ ((s1.trans s2).fk so.gd) ((((so.stp s1 g1).stp s2 g2).setIm (i := i) (dv.fk (s2.fk g1))).setIm dv2) q2⟩
/-! what makes one -/
def nLst (wa : WA) : WN := fun ρ c Q => wa ρ c fun ds c1 => ds.length ≤ LIM ∧ Q (.ls ds) c1
theorem new_ls {K : PySem.W.Frag} {w w1 : W} {vs : List V} {ds : List D} {p : Addr} (s : Stp w w1) (g : Gd M w1) (hp : w1.H p = none) (dv : DvA K w1.F w1.H vs ds) : Stp w (w1.own p (.lst vs)) ∧ Gd M (w1.own p (.lst vs)) ∧ EnOk K (w1.own p (.lst vs)) (some (some (.ref p))) (.ls ds) ∧ ∀ a, Sub (w1.own p (.lst vs)) (.ls ds) p a → w.H a = none :=
  have nR : p ∉ w1.R := r_free g hp
  ⟨s.trans (stp_own hp), gd_own g hp, ⟨p, vs, rfl, upd_same, fun f => g.tf p f hp, nR, dv.fk ((stp_own hp).fk g)⟩, fun a sa => by
    rcases sa with rfl | ⟨_, _, _, z, _⟩
    · exact nn s hp
    · cases z⟩
theorem n_lst (ha : PA X es (tAs M X.K wa)) : PE X (.List es pos) (tN M X.K (nLst wa)) := by
  refine PE.imp (pe_lst ha) ?_
  rintro σ H Q ⟨w, ρ, Qd, eh, ev, g, hw, k⟩
  refine ⟨w, ρ, _, eh, ev, g, hw, fun w1 vs ds s1 g1 dvs q1 => ⟨lim_size (by rw [dvs.length]; exact q1.1), fun p hp => ?_⟩⟩
  obtain ⟨h1, h2, h3, h4⟩ := new_ls s1 g1 hp dvs
  exact k _ p _ h1 h2 rfl h3 h4 q1.2
end
end HW

namespace HW
open PySem L2
section
variable {X : Cx} {M : MI} {w0 : W} {e k o a b c : Expr} {es : List Expr} {we wk wd wa wb : WE} {wn : WN} {p pos apos : Pos}
/-! list(s), list(xs) -/
theorem sign_vals {x : Str} {acc : Array Value} (h : ItemsOf (SignAt x) acc x.cps.size) : Vals (x.cps.toList.map fun c => V.str ⟨#[c]⟩) acc.toList := by
  obtain ⟨h1, h2⟩ := h
  have go : ∀ (l : List Nat) (vs : List Value), l.length = vs.length → (∀ (j : Nat) (v : Value), vs[j]? = some v → ∃ (c : Nat) (u : Tok), l[j]? = some c ∧ v = Value.str ⟨#[c]⟩ u) → Vals (l.map fun c => V.str ⟨#[c]⟩) vs := by
    intro l
    induction l with
    | nil =>
      intro vs hl _
      cases vs with
      | nil => exact .nil
      | cons _ _ => simp at hl
    | cons c l ih =>
      intro vs hl hv
      cases vs with
      | nil => simp at hl
      | cons v vs =>
        obtain ⟨c', u, e1, e2⟩ := hv 0 v rfl
        cases e1
        exact .cons ⟨u, e2⟩ (ih vs (by simpa using hl) fun j v hj => by simpa using hv (j + 1) v (by simpa using hj))
  refine go _ _ (by rw [Array.length_toList, Array.length_toList, h1]) fun j v hj => ?_
  obtain ⟨c', u, e1, e2⟩ := h2 j v (by simpa using hj)
  exact ⟨c', u, by simpa using e1, e2⟩
theorem call_listS (hc : X.calm = true) : CallR X (.type "list") (fun xs H Q => ∃ x : Str, xs = [.str x] ∧ x.length ≤ sizeLine ∧ ∀ l, H l = none → Q (.ref l) (upd H l (.lst (x.cps.toList.map fun c => V.str ⟨#[c]⟩)))) := by
  intro pins s σ H xs us Q I r h
  obtain ⟨x, rfl, hz, q⟩ := h
  cases r with
  | cons r1 r2 =>
    cases r2
    obtain ⟨t, rfl⟩ := r1
    refine call_list_str (I.ok.hd hc) x t (fun h' tk acc n kp ho it => ?_) hz
    have hn := I.hok.fresh (Nat.le_refl s.heap.objs.size)
    refine ⟨.ref s.heap.objs.size, _, I.laid (a := s.heap.objs.size) (t' := tk) kp (Nat.le_refl _) ?_, rfl, q _ hn⟩
    have v := sign_vals it
    exact ⟨by rw [List.length_map, Array.length_toList]; exact hz, acc.toList, n, v, by simpa using ho⟩
theorem DvA.signs {K : PySem.W.Frag} {P : Addr → Prop} {H : Hp} (x : Str) : DvA K P H (x.cps.toList.map fun c => V.str ⟨#[c]⟩) (signs x) := by
  unfold HW.signs
  induction x.cps.toList with
  | nil => exact .nil
  | cons c l ih => exact .cons (.str _) ih
def itD : D → Option (List D)
  | .list xs => some xs
  | .tuple xs => some xs
  | .str x => if x.length ≤ LIM then some (signs x) else none
  | .dict kvs => some (kvs.map (·.1))
  | _ => none
def rListA (K : PySem.W.Frag) : List V → Hp → VK → Prop := fun xs H Q => (∃ p ys, xs = [.ref p] ∧ (SqL K H p ys ∨ SqT K H p ys) ∧ ∀ l, H l = none → Q (.ref l) (upd H l (.lst ys))) ∨
  ((∃ x : Str, xs = [.str x] ∧ x.length ≤ sizeLine ∧ ∀ l, H l = none → Q (.ref l) (upd H l (.lst (x.cps.toList.map fun c => V.str ⟨#[c]⟩)))) ∨
    ∃ (a : Addr) (kvs : List (Key × V)), xs = [.ref a] ∧ Rd H a (.dK kvs) ∧ ∀ p, H p = none → Q (.ref p) (upd H p (.lst (kvs.map fun kv => kV kv.1))))
theorem DvK.keys {K : PySem.W.Frag} {P : Addr → Prop} {H : Hp} : ∀ {kvs : List (Key × V)} {ds : List (D × D)}, DvK K P H kvs ds → DvA K P H (kvs.map fun kv => kV kv.1) (ds.map (·.1))
  | _, _, .nil => .nil
  | _, _, .cons (k := k) _ h => .cons (by cases k <;> constructor) h.keys
theorem r_listA {K : PySem.W.Frag} {w1 : W} {v : V} {d : D} {ds : List D} {Q : VK} (bv : DvB K w1 v d) (e : itD d = some ds) (q : ∀ us p, DvA K w1.F w1.H us ds → w1.H p = none → Q (.ref p) (upd w1.H p (.lst us))) : rListA K [v] w1.H Q := by
  cases d with
  | list xs => cases e; obtain ⟨a, vs, rfl, h1, h2⟩ := bv.seqL; exact .inl ⟨a, vs, rfl, .inl h1, fun p hp => q vs p h2 hp⟩
  | tuple xs => cases e; obtain ⟨a, vs, rfl, h1, h2⟩ := bv.seqT; exact .inl ⟨a, vs, rfl, .inr h1, fun p hp => q vs p h2 hp⟩
  | str x =>
    cases bv.str
    simp only [itD] at e
    split at e
    · cases e; exact .inr (.inl ⟨x, rfl, lim_size (by assumption), fun p hp => q _ p (DvA.signs x) hp⟩)
    · cases e
  | dict kvs => cases e; obtain ⟨a, vs, rfl, h1, h2⟩ := bv.dict; exact .inr (.inr ⟨a, vs, rfl, h1, fun p hp => q _ p h2.keys hp⟩)
  | _ => simp [itD] at e
theorem list_rd (hc : X.calm = true) : CallR X (.type "list") (fun xs H Q => ∃ p kvs, xs = [.ref p] ∧ Rd H p (.dK kvs) ∧ ∀ q, H q = none → Q (.ref q) (upd H q (.lst (kvs.map fun kv => kV kv.1)))) := by
  intro pins s σ H xs us Q I r h
  obtain ⟨p, kvs, rfl, hk, q⟩ := h
  obtain ⟨u, rfl, rx⟩ := vals1 r
  obtain rfl : u = Value.ref p := rx
  have ob : ObjOk X.prog X.w H s.heap p (.dK kvs) := rd_of I.hok hk
  obtain ⟨z, lo, vs, rk, hd⟩ := ob
  obtain ⟨ep, hat⟩ := hd.dictAt
  have ln : kvs.length = vs.length := Paired.length rk
  refine PySem.W.kdl_call (PySem.W.kdl_dict (knd := mixKind X.prog X.w) (kvs := vs) (ep := ep) lo) (I.ok.hd hc) hat (by rw [← ln]; exact z) fun h' tk as n keep new its => ?_
  have keys : (kvs.map fun kv => kV kv.1) = (kvs.map (·.1)).map kV := by rw [List.map_map]; rfl
  have ok : ObjOk X.prog X.w (upd H s.heap.objs.size (.lst (kvs.map fun kv => kV kv.1))) h' s.heap.objs.size (.lst (kvs.map fun kv => kV kv.1)) := by
    refine ⟨by rw [List.length_map]; exact z, as.toList, n, ?_, ?_⟩
    · refine vals_of_at (by rw [List.length_map, ln, ← its.1]; exact (Array.length_toList).symm) fun j x v g1 g2 => ?_
      obtain ⟨k, y, hky, hi⟩ := its.2 j v (by rw [← Array.getElem?_toList]; exact g2)
      have e1 : (kvs.map (·.1))[j]? = some k := by rw [KV.keys rk, List.getElem?_map, hky]; rfl
      rw [keys, List.getElem?_map, e1] at g1
      cases g1
      exact keyIs_rel hi
    · rw [Array.toArray_toList]; exact new
  exact ⟨.ref s.heap.objs.size, _, I.laid keep (Nat.le_refl _) ok, rfl, q _ (I.hok.fresh (Nat.le_refl _))⟩
theorem o_listA (hc : X.calm = true) : CallR X (.type "list") (rListA X.K) := callR_or call_list_of (callR_or (call_listS hc) (list_rd hc))
def wList (we : WE) : WE := fun ρ c Q => we ρ c fun d c1 => ∃ ds, itD d = some ds ∧ Q (.list ds) c1
def nList (we : WE) : WN := fun ρ c Q => we ρ c fun d c1 => ∃ ds, itD d = some ds ∧ Q (.ls ds) c1
theorem bt_list : bootBuiltins "list" = some (.type "list") := by decide +kernel
theorem e_list (hc : X.calm = true) (hg : Gl X "list") (hm : X.mg "list" = none) (he : PE X e (tB M X.K we)) (hs : starEach [e] X.env = (false, eval e X.env) :: starEach [] X.env := by rfl) : PE X (.Call (.Name "list" p) [e] [] pos) (tE M X.K (wList we)) := by
  refine PE.imp (pe_callTy (o_listA hc) hg hm bt_list (pa_cons he pa_nil hs) (by decide) (by decide) hs (by rfl)) ?_
  rintro σ H Q ⟨w, ρ, Qd, eh, ev, g, hw, k⟩
  refine ⟨w, ρ, _, eh, ev, g, hw, fun w1 v d s1 g1 bv q1 => ?_⟩
  obtain ⟨ds, e1, q1⟩ := q1
  exact r_listA bv e1 fun us p h hp => k (w1.new p (.lst us)) _ _ (s1.trans (stp_new hp)) (gd_new g1 hp) (new_lst g1 hp h) q1
theorem n_list (hc : X.calm = true) (hg : Gl X "list") (hm : X.mg "list" = none) (he : PE X e (tB M X.K we)) (hs : starEach [e] X.env = (false, eval e X.env) :: starEach [] X.env := by rfl) : PE X (.Call (.Name "list" p) [e] [] pos) (tN M X.K (nList we)) := by
  refine PE.imp (pe_callTy (o_listA hc) hg hm bt_list (pa_cons he pa_nil hs) (by decide) (by decide) hs (by rfl)) ?_
  rintro σ H Q ⟨w, ρ, Qd, eh, ev, g, hw, k⟩
  refine ⟨w, ρ, _, eh, ev, g, hw, fun w1 v d s1 g1 bv q1 => ?_⟩
  obtain ⟨ds, e1, q1⟩ := q1
  refine r_listA bv e1 fun us p h hp => ?_
  obtain ⟨h1, h2, h3, h4⟩ := new_ls s1 g1 hp h
  exact k _ p _ h1 h2 rfl h3 h4 q1
/-! {} -/
def nDc : WN := fun _ c Q => Q (.dc []) c
def nDl : WN := fun _ c Q => Q (.dl []) c
theorem n_dict {en : En} (hm : en = .dc [] ∨ en = .dl []) : PE X (.Dict [] [] pos) (tN M X.K (fun _ c Q => Q en c)) := by
  refine PE.imp pe_dnewK ?_
  rintro σ H Q ⟨w, ρ, Qd, eh, ev, g, hw, k⟩
  subst eh
  intro p hp
  have nR : p ∉ w.R := r_free g hp
  have nF : ¬ w.F p := fun f => g.tf p f hp
  refine k (w.own p (.dK [])) p en (stp_own hp) (gd_own g hp) (by rcases hm with rfl | rfl <;> rfl) ?_ (fun a sa => ?_) hw
  · rcases hm with rfl | rfl
    · exact ⟨p, [], rfl, upd_same, nF, nR, .nil⟩
    · exact ⟨p, [], rfl, upd_same, nF, nR, .nil⟩
  · rcases sa with rfl | ⟨ds, kvs, k', _, h5, h6⟩
    · exact hp
    · rw [show (w.own p (HO.dK [])).H p = some (.dK []) from upd_same] at h5
      cases h5
      cases h6
/-! xs.append(e), xs[i] = e -/
def wApp (i : Nat) (we : WE) : WS := fun dd ρ c => we ρ c fun d c1 => ∃ ds, ρ[i]? = some (.ls ds) ∧ ds.length < LIM ∧ dd.nx (ρ.set i (.ls (ds ++ [d]))) c1
theorem tyL {K : PySem.W.Frag} {H : Hp} {a : Addr} {vs : List V} (h : H a = some (.lst vs)) : tyV K "list" (.ref a) H := .inl ⟨rfl, vs, .of h⟩
theorem ls_same {w : W} {a b : Addr} {o : HO} {ds : List D} (s : Sub (w.own a o) (.ls ds) a b) {e : En} : Sub w e a b := by
  rcases s with rfl | ⟨_, _, _, z, _⟩
  · exact .inl rfl
  · cases z
theorem s_app {x : Str} {i : Nat} {nm p1 p2 : Pos} (hx : PE X (.Name x p1) (tVar i)) (he : PE X e (tE M X.K we)) (hbase : attributeBase (.Name x p1) "append" X.env (eval (.Name x p1) X.env) = eval (.Name x p1) X.env := by rfl)
    (hfew : ((backTo p2 (starEach [e] X.env)).all (fun x => !x.1) && (backToKw p2 (keywordEach [] X.env)).all (fun x => x.1.isSome) && decide (([e] : List Expr).length + ([] : List Keyword).length + (if ([] : List Keyword).isEmpty then 0 else 1) < 30)) = true := by rfl)
    (hline : (nm.endLine == p2.line) = true := by rfl) (hs : starEach [e] X.env = (false, eval e X.env) :: starEach [] X.env := by rfl) (hsw : swapsWith (.Call (.Attribute (.Name x p1) "append" nm) [e] [] p2) none pos.line X.env = pure false := by rfl) :
    PS X (.Expr (.Call (.Attribute (.Name x p1) "append" nm) [e] [] p2) pos) (tS M X.K w0 (fun dd ρ c => (∃ ds, ρ[i]? = some (.ls ds)) ∧ wApp i we dd ρ c)) := by
  refine PS.imp (ps_expr (pe_bm PySem.F.plainAttrs_list PySem.F.slot_list_append PySem.F.type_list_append mt_append hx (pa_cons he pa_nil hs) hbase hfew hline hs (by rfl)) hsw) ?_
  rintro D σ H ⟨w, ρ, dd, eh, so, ⟨⟨ds0, r0⟩, hw⟩, k⟩
  obtain ⟨p0, vs0, e1, e2, _⟩ := so.ev.ok i _ r0
  subst eh
  refine ⟨_, e1, tyL e2, w, ρ, _, rfl, so.ev, so.gd, hw, fun w1 v d s1 g1 dv q1 => ?_⟩
  obtain ⟨ds, r1, hl, q1⟩ := q1
  have so1 := so.stp s1 g1
  obtain ⟨p, vs, e3, e4, e5, e6, e7⟩ := so1.ev.ok i _ r1
  rw [e1] at e3
  cases e3
  refine ⟨p0, vs, v, rfl, rfl, e4, (by rw [sizeLine_eq, e7.length]; exact hl), ?_⟩
  exact k.nx (w1.own p0 (.lst (vs ++ [v]))) σ _ ((s1.fk so.gd).trans (fk_put e5)) (so1.put (en' := .ls _) e1 r1 rfl (.inl rfl) rfl ⟨p0, vs ++ [v], rfl, upd_same, e5, e6, (e7.app (.cons dv .nil)).fk (fk_put e5)⟩ fun b sb => ls_same sb) q1
def wSetIx (i : Nat) (we wk : WE) : WS := fun dd ρ c => we ρ c fun d c1 => (∃ ds, ρ[i]? = some (.ls ds)) ∧ wk ρ c1 fun y c2 => ∃ ds z j, ρ[i]? = some (.ls ds) ∧ y = .int z ∧ ixN ds.length z = some j ∧ dd.nx (ρ.set i (.ls (ds.set j d))) c2
theorem s_setix {x : Str} {i : Nat} {p1 p2 : Pos} (hx : PE X (.Name x p1) (tVar i)) (hk : PE X k (tB M X.K wk)) (he : PE X e (tE M X.K we)) (ha : ∀ v, assign (.Subscript (.Name x p1) k p2) X.env v = (do
      let ov ← holding [v] (eval (.Name x p1) X.env)
      let iv ← holding [v, ov] (eval k X.env)
      standAt p2
      holding [v, ov, iv] (setItem ov iv v)
      release [v, ov, iv] []) := by intro _; rfl) (hs : swapsWithSole [.Subscript (.Name x p1) k p2] e pos.line X.env = pure false := by rfl) (hw : swappedStores [.Subscript (.Name x p1) k p2] e X.env = pure none := by rfl)
    (h1 : (assignEach [.Subscript (.Name x p1) k p2] X.env).map (·.2) = [assign (.Subscript (.Name x p1) k p2) X.env] := by rfl) : PS X (.Assign [.Subscript (.Name x p1) k p2] e pos) (tS M X.K w0 (wSetIx i we wk)) := by
  refine PS.imp (ps_asg he (pg_sub hx hk set_list ha) hs hw h1) ?_
  rintro D σ H ⟨w, ρ, dd, eh, so, hw, k⟩
  refine ⟨w, ρ, _, eh, so.ev, so.gd, hw, fun w1 v d s1 g1 dv q1 => ?_⟩
  obtain ⟨⟨ds0, r0⟩, q1⟩ := q1
  have so1 := so.stp s1 g1
  obtain ⟨p0, vs0, e1, e2, _⟩ := so1.ev.ok i _ r0
  refine ⟨_, e1, w1, ρ, _, rfl, so1.ev, g1, q1, fun w2 y dy s2 g2 by' q2 => ?_⟩
  obtain ⟨ds, z, j, r1, rfl, ej, q2⟩ := q2
  cases by'.int
  have so2 := so1.stp s2 g2
  obtain ⟨p, vs, e3, e4, e5, e6, e7⟩ := so2.ev.ok i _ r1
  rw [e1] at e3
  cases e3
  refine ⟨p0, vs, z, j, rfl, rfl, e4, by rw [e7.length]; exact ej, ?_⟩
  exact k.nx (w2.own p0 (.lst (vs.set j v))) σ _ (((s1.trans s2).fk so.gd).trans (fk_put e5)) (so2.put (en' := .ls _) e1 r1 rfl (.inl rfl) rfl ⟨p0, _, rfl, upd_same, e5, e6, ((e7.set (dv.fk (s2.fk g1)) j)).fk (fk_put e5)⟩ fun b sb => ls_same sb) q2
/-! dicts with keys that are ints and texts -/
def keyOf : D → Option Key
  | .int i => some (.inl i)
  | .str x => some (.inr x)
  | _ => none
theorem keyOf_kD (k : Key) : keyOf (kD k) = some k := by cases k <;> rfl
theorem kV_of {K : PySem.W.Frag} {w : W} {v : V} {d : D} {k : Key} (h : DvB K w v d) (e : keyOf d = some k) : v = kV k := by
  cases d <;> simp only [keyOf, reduceCtorEq] at e
  · cases e; exact h.int
  · cases e; exact h.str
def lookK {α : Type} : List (D × α) → Key → Option α
  | [], _ => none
  | (d, x) :: r, k => if keyOf d = some k then some x else lookK r k
def putD {α : Type} : List (D × α) → Key → α → List (D × α)
  | [], k, v => [(kD k, v)]
  | (d, x) :: r, k, v => if keyOf d = some k then (d, v) :: r else (d, x) :: putD r k v
theorem DvK.look {K : PySem.W.Frag} {P : Addr → Prop} {H : Hp} {k : Key} : ∀ {kvs : List (Key × V)} {ds : List (D × D)}, DvK K P H kvs ds → (lookK ds k = none ∧ valV kvs k = none) ∨ ∃ v d, lookK ds k = some d ∧ valV kvs k = some v ∧ Dv K P H v d
  | _, _, .nil => .inl ⟨rfl, rfl⟩
  | _, _, .cons (k := k0) (v := v) (d := d) h1 h2 => by
    by_cases e : k0 = k
    · subst e
      exact .inr ⟨v, d, (if_pos (keyOf_kD k0)), valV_pos (p := (k0, v)) rfl, h1⟩
    · have ne : ¬ keyOf (kD k0) = some k := fun z => e (by rw [keyOf_kD] at z; exact Option.some.inj z)
      rw [valV_neg (p := (k0, v)) e]
      rcases h2.look (k := k) with ⟨z1, z2⟩ | ⟨v', d', z1, z2, z3⟩
      · exact .inl ⟨(if_neg ne).trans z1, z2⟩
      · exact .inr ⟨v', d', (if_neg ne).trans z1, z2, z3⟩
theorem dget_rd {H : Hp} {a : Addr} {kvs : List (Key × V)} {k : Key} (e : Rd H a (.dK kvs)) : DGet H a (kV k) (valV kvs k) := .inl ⟨kvs, k, e, rfl, rfl⟩
def wGet2 (wd wk wx : WE) : WE := fun ρ c Q => wd ρ c fun d c1 => (∃ kvs, d = .dict kvs) ∧ wk ρ c1 fun y c2 => wx ρ c2 fun z c3 => ∃ kvs k, d = .dict kvs ∧ keyOf y = some k ∧ Q ((lookK kvs k).getD z) c3
theorem e_get2 {f : Expr} {wx : WE} {cpos : Pos} (hu : X.A.units + 1 < cLine) (ho : PE X o (tB M X.K wd)) (he : PE X e (tB M X.K wk)) (hf : PE X f (tE M X.K wx)) (m : M2 X o "get" apos e f cpos) : PE X (.Call (.Attribute o "get" apos) [e, f] [] cpos) (tE M X.K (wGet2 wd wk wx)) := by
  refine PE.imp (pe_dget2 hu ho he hf m) ?_
  rintro σ H Q ⟨w, ρ, Qd, eh, ev, g, hw, kk⟩
  refine ⟨w, ρ, _, eh, ev, g, hw, fun w1 v d s1 g1 bv q1 => ?_⟩
  obtain ⟨⟨kvs, rfl⟩, q1⟩ := q1
  obtain ⟨a, ks, rfl, h1, h2⟩ := bv.dict
  refine ⟨a, rfl, .inl ⟨ks, h1⟩, w1, ρ, _, rfl, ev.stp s1 g, g1, q1, fun w2 y dy s2 g2 by' q2 => ?_⟩
  refine ⟨w2, ρ, _, rfl, (ev.stp s1 g).stp s2 g1, g2, q2, fun w3 z dz s3 g3 dvz q3 => ?_⟩
  obtain ⟨kvs', key, e1, e2, q3⟩ := q3
  cases e1
  obtain ⟨a', ks', ea, h3, h4⟩ := ((bv.stp s2 g1).stp s3 g2).dict
  cases ea
  refine ⟨valV ks' key, ?_, ?_⟩
  · rw [kV_of (by'.stp s3 g2) e2]
    exact dget_rd h3
  · rcases h4.look (k := key) with ⟨z1, z2⟩ | ⟨v', d', z1, z2, z3⟩
    · rw [z2]; rw [z1] at q3
      exact kk w3 z dz ((s1.trans s2).trans s3) g3 dvz q3
    · rw [z2]; rw [z1] at q3
      exact kk w3 v' d' ((s1.trans s2).trans s3) g3 z3 q3
/-- k in d -/
def wInK (neg : Bool) (wk wd : WE) : WE := fun ρ c Q => wk ρ c fun y c1 => wd ρ c1 fun d c2 => ∃ kvs k, d = .dict kvs ∧ keyOf y = some k ∧ Q (.bool (if neg then !(lookK kvs k).isSome else (lookK kvs k).isSome)) c2
theorem look_some {K : PySem.W.Frag} {P : Addr → Prop} {H : Hp} {k : Key} {kvs : List (Key × V)} {ds : List (D × D)} (h : DvK K P H kvs ds) : (valV kvs k).isSome = (lookK ds k).isSome := by
  rcases h.look (k := k) with ⟨z1, z2⟩ | ⟨v', d', z1, z2, z3⟩ <;> rw [z1, z2] <;> rfl
theorem e_inK (hu : X.A.units + 1 < cLine) (hk : PE X k (tB M X.K wk)) (hd : PE X o (tB M X.K wd)) (h1 : behindInMarks .In o = false := by rfl) : PE X (.Compare k [.In] [o] pos) (tE M X.K (wInK false wk wd)) := by
  refine PE.imp (pe_cmp (pc_din hu hk hd) h1) ?_
  rintro σ H Q ⟨w, ρ, Qd, eh, ev, g, hw, kk⟩
  refine ⟨w, ρ, _, eh, ev, g, hw, fun w1 y dy s1 g1 by' q1 => ?_⟩
  refine ⟨w1, ρ, _, rfl, ev.stp s1 g, g1, q1, fun w2 v d s2 g2 bv q2 => ?_⟩
  obtain ⟨kvs, key, rfl, e2, q2⟩ := q2
  obtain ⟨a, ks, rfl, h3, h4⟩ := bv.dict
  refine ⟨a, valV ks key, rfl, by rw [kV_of (by'.stp s2 g1) e2]; exact dget_rd h3, ?_⟩
  rw [look_some h4]
  exact kk w2 _ _ (s1.trans s2) g2 (.bl _) q2
theorem e_ninK (hu : X.A.units + 1 < cLine) (hk : PE X k (tB M X.K wk)) (hd : PE X o (tB M X.K wd)) (h1 : behindInMarks .NotIn o = false := by rfl) : PE X (.Compare k [.NotIn] [o] pos) (tE M X.K (wInK true wk wd)) := by
  refine PE.imp (pe_cmp (pc_dnotin hu hk hd) h1) ?_
  rintro σ H Q ⟨w, ρ, Qd, eh, ev, g, hw, kk⟩
  refine ⟨w, ρ, _, eh, ev, g, hw, fun w1 y dy s1 g1 by' q1 => ?_⟩
  refine ⟨w1, ρ, _, rfl, ev.stp s1 g, g1, q1, fun w2 v d s2 g2 bv q2 => ?_⟩
  obtain ⟨kvs, key, rfl, e2, q2⟩ := q2
  obtain ⟨a, ks, rfl, h3, h4⟩ := bv.dict
  refine ⟨a, valV ks key, rfl, by rw [kV_of (by'.stp s2 g1) e2]; exact dget_rd h3, ?_⟩
  rw [look_some h4]
  exact kk w2 _ _ (s1.trans s2) g2 (.bl _) q2
theorem t_inK (hu : X.A.units + 1 < cLine) (hk : PE X k (tB M X.K wk)) (hd : PE X o (tB M X.K wd)) (h1 : behindInMarks .In o = false := by rfl) : L2.PT X (.Compare k [.In] [o] pos) (tT M X.K (wTst (wInK false wk wd))) := by
  refine PT.imp (pt_cmp (pc_din hu hk hd) h1) ?_
  rintro σ H Q ⟨w, ρ, Qd, eh, ev, g, hw, kk⟩
  refine ⟨w, ρ, _, eh, ev, g, hw, fun w1 y dy s1 g1 by' q1 => ?_⟩
  refine ⟨w1, ρ, _, rfl, ev.stp s1 g, g1, q1, fun w2 v d s2 g2 bv q2 => ?_⟩
  obtain ⟨kvs, key, rfl, e2, b, eb, q2⟩ := q2
  obtain ⟨a, ks, rfl, h3, h4⟩ := bv.dict
  cases eb
  refine ⟨a, valV ks key, rfl, (by rw [kV_of (by'.stp s2 g1) e2]; exact dget_rd h3), _, rfl, ?_⟩
  rw [look_some h4]
  exact kk w2 _ (s1.trans s2) g2 q2
theorem t_ninK (hu : X.A.units + 1 < cLine) (hk : PE X k (tB M X.K wk)) (hd : PE X o (tB M X.K wd)) (h1 : behindInMarks .NotIn o = false := by rfl) : L2.PT X (.Compare k [.NotIn] [o] pos) (tT M X.K (wTst (wInK true wk wd))) := by
  refine PT.imp (pt_cmp (pc_dnotin hu hk hd) h1) ?_
  rintro σ H Q ⟨w, ρ, Qd, eh, ev, g, hw, kk⟩
  refine ⟨w, ρ, _, eh, ev, g, hw, fun w1 y dy s1 g1 by' q1 => ?_⟩
  refine ⟨w1, ρ, _, rfl, ev.stp s1 g, g1, q1, fun w2 v d s2 g2 bv q2 => ?_⟩
  obtain ⟨kvs, key, rfl, e2, b, eb, q2⟩ := q2
  obtain ⟨a, ks, rfl, h3, h4⟩ := bv.dict
  cases eb
  refine ⟨a, valV ks key, rfl, (by rw [kV_of (by'.stp s2 g1) e2]; exact dget_rd h3), _, rfl, ?_⟩
  rw [look_some h4]
  exact kk w2 _ (s1.trans s2) g2 q2
end
end HW

namespace HW
open PySem L2
section
variable {X : Cx} {M : MI} {w0 : W} {e k o a b c : Expr} {es : List Expr} {we wk wd wa wb wv : WE} {wn : WN} {p pos apos : Pos}
/-! -a -/
def negD : D → Option D
  | .int i => some (.int (-i))
  | _ => none
theorem e_neg (h : PE X e (tB M X.K we)) : PE X (.UnaryOp .USub e pos) (tE M X.K (wF negD we)) := by
  refine PE.imp (pe_un un_neg h) ?_
  rintro σ H Q ⟨w, ρ, Qd, eh, ev, g, hw, k⟩
  refine ⟨w, ρ, _, eh, ev, g, hw, fun w1 v d s1 g1 bv q1 => ?_⟩
  obtain ⟨z, ez, qz⟩ := q1
  cases d <;> simp only [negD, reduceCtorEq] at ez
  cases ez; cases bv.int
  exact ⟨_, rfl, k w1 _ _ s1 g1 (.int _) qz⟩
/-! tuples joined -/
def catTD : D → D → Option D
  | .tuple a, .tuple b => if a.length + b.length ≤ LIM then some (.tuple (a ++ b)) else none
  | _, _ => none
theorem emp_of {K : PySem.W.Frag} {P : Addr → Prop} {H : Hp} {ds : List D} (h : DvA K P H [] ds) : ds = [] := by cases h; rfl
theorem DvB.tup1 {K : PySem.W.Frag} {w : W} {v : V} {ds : List D} (h : DvB K w v (.tuple ds)) : Dv K w.F w.H v (.tuple ds) := by
  cases h with
  | of h => exact h
theorem d_catT {K : PySem.W.Frag} : OpD M K (rCatA K) catTD := fun w x y dx dy z Q g hx hy e k => by
  cases dx <;> cases dy <;> simp only [catTD, reduceCtorEq] at e
  split at e
  · cases e
    have hx1 := hx.tup1
    have hy1 := hy.tup1
    obtain ⟨a, vs, rfl, h1, h2⟩ := hx.seqT
    obtain ⟨b, us, rfl, h3, h4⟩ := hy.seqT
    refine ⟨a, b, vs, us, rfl, rfl, h1, h3, lim_size (by rw [h2.length, h4.length]; assumption), fun ev => ?_, fun _ eu => ?_, fun _ _ p hp => newQ g hp (new_tup g hp (h2.app h4)) k⟩
    · subst ev
      have := emp_of h2
      subst this
      exact keepQ g hy1 k
    · subst eu
      have := emp_of h4
      subst this
      refine keepQ g ?_ k
      rw [List.append_nil]
      exact hx1
  · cases e
/-! d[k] = v, d of one's own -/
def putD' (ds : List (D × D)) (k : Key) (v : D) : List (D × D) := if (ds.any fun p => decide (keyOf p.1 = some k)) = true then ds.map (fun p => if keyOf p.1 = some k then (p.1, v) else p) else ds ++ [(kD k, v)]
theorem DvK.any {K : PySem.W.Frag} {P : Addr → Prop} {H : Hp} {k : Key} : ∀ {kvs : List (Key × V)} {ds : List (D × D)}, DvK K P H kvs ds → (kvs.any fun kv => decide (kv.1 = k)) = ds.any fun p => decide (keyOf p.1 = some k)
  | _, _, .nil => rfl
  | _, _, .cons (k := k0) _ h => by
    rw [List.any_cons, List.any_cons, h.any]
    congr 1
    show decide (k0 = k) = decide (keyOf (kD k0) = some k)
    rw [keyOf_kD]
    simp
theorem DvK.map {K : PySem.W.Frag} {P : Addr → Prop} {H : Hp} {k : Key} {v : V} {d : D} (hv : Dv K P H v d) : ∀ {kvs : List (Key × V)} {ds : List (D × D)}, DvK K P H kvs ds → DvK K P H (kvs.map fun kv => if kv.1 = k then (kv.1, v) else kv) (ds.map fun p => if keyOf p.1 = some k then (p.1, d) else p)
  | _, _, .nil => .nil
  | _, _, .cons (k := k0) h1 h => by
    rw [List.map_cons, List.map_cons]
    by_cases e : k0 = k
    · subst e
      rw [if_pos rfl, if_pos (keyOf_kD _)]
      exact .cons hv (h.map hv)
    · have ne : ¬ keyOf (kD k0) = some k := fun z => e (by rw [keyOf_kD] at z; exact Option.some.inj z)
      rw [if_neg e, if_neg ne]
      exact .cons h1 (h.map hv)
theorem DvK.app {K : PySem.W.Frag} {P : Addr → Prop} {H : Hp} {k : Key} {v : V} {d : D} (hv : Dv K P H v d) : ∀ {kvs : List (Key × V)} {ds : List (D × D)}, DvK K P H kvs ds → DvK K P H (kvs ++ [(k, v)]) (ds ++ [(kD k, d)])
  | _, _, .nil => .cons hv .nil
  | _, _, .cons h1 h => .cons h1 (h.app hv)
theorem DvK.put {K : PySem.W.Frag} {P : Addr → Prop} {H : Hp} {k : Key} {v : V} {d : D} (hv : Dv K P H v d) {kvs : List (Key × V)} {ds : List (D × D)} (h : DvK K P H kvs ds) : DvK K P H (putK kvs k v) (putD' ds k d) := by
  unfold putK putD'
  rw [h.any]
  split
  · exact h.map hv
  · exact h.app hv
theorem dc_same {w : W} {a b : Addr} {o : HO} {ds : List (D × D)} (s : Sub (w.own a o) (.dc ds) a b) {e : En} : Sub w e a b := by
  rcases s with rfl | ⟨_, _, _, z, _⟩
  · exact .inl rfl
  · cases z
def wDput (i : Nat) (we wk : WE) : WS := fun dd ρ c => we ρ c fun d c1 => (∃ kvs, ρ[i]? = some (.dc kvs)) ∧ wk ρ c1 fun y c2 => ∃ kvs k, ρ[i]? = some (.dc kvs) ∧ keyOf y = some k ∧ kvs.length < LIM ∧ dd.nx (ρ.set i (.dc (putD' kvs k d))) c2
theorem s_dput {x : Str} {i : Nat} {p1 p2 : Pos} (hu : X.A.units + 1 < cLine) (hx : PE X (.Name x p1) (tVar i)) (hk : PE X k (tB M X.K wk)) (he : PE X e (tE M X.K we)) (hs : swapsWith e (some (.Subscript (.Name x p1) k p2)) pos.line X.env = pure false := by rfl) :
    PS X (.Assign [.Subscript (.Name x p1) k p2] e pos) (tS M X.K w0 (wDput i we wk)) := by
  refine PS.imp (ps_dput hu hx hk he hs) ?_
  rintro D σ H ⟨w, ρ, dd, eh, so, hw, k⟩
  refine ⟨w, ρ, _, eh, so.ev, so.gd, hw, fun w1 v d s1 g1 dv q1 => ?_⟩
  obtain ⟨⟨kvs0, r0⟩, q1⟩ := q1
  have so1 := so.stp s1 g1
  obtain ⟨p0, ks0, e1, e2, _⟩ := so1.ev.ok i _ r0
  refine ⟨_, e1, w1, ρ, _, rfl, so1.ev, g1, q1, fun w2 y dy s2 g2 by' q2 => ?_⟩
  obtain ⟨kvs, key, r1, ek, hl, q2⟩ := q2
  have so2 := so1.stp s2 g2
  obtain ⟨p, ks, e3, e4, e5, e6, e7⟩ := so2.ev.ok i _ r1
  rw [e1] at e3
  cases e3
  refine ⟨p0, _, rfl, (by rw [kV_of by' ek]; exact .k e4 (by rw [sizeLine_eq, e7.length]; exact hl)), ?_⟩
  exact k.nx (w2.own p0 (.dK (putK ks key v))) σ _ (((s1.trans s2).fk so.gd).trans (fk_put e5)) (so2.put (en' := .dc _) e1 r1 rfl (.inl rfl) rfl ⟨p0, _, rfl, upd_same, e5, e6, (e7.put (dv.fk (s2.fk g1))).fk (fk_put e5)⟩ fun b sb => dc_same sb) q2
/-! xs.setdefault(k, []).append(v), xs a dict of one's own lists -/
def insL (ds : List (D × List D)) (k : Key) : List (D × List D) := if (lookK ds k).isSome = true then ds else ds ++ [(kD k, [])]
def appL : List (D × List D) → Key → D → List (D × List D)
  | [], _, _ => []
  | (x, l) :: r, k, d => if keyOf x = some k then (x, l ++ [d]) :: r else (x, l) :: appL r k d
theorem DlOk.look {K : PySem.W.Frag} {w : W} {k : Key} : ∀ {kvs : List (Key × V)} {ds : List (D × List D)}, DlOk K w kvs ds → (lookK ds k = none ∧ valV kvs k = none) ∨ ∃ b us l, lookK ds k = some l ∧ valV kvs k = some (.ref b) ∧ (k, V.ref b) ∈ kvs ∧ w.H b = some (.lst us) ∧ DvA K w.F w.H us l
  | _, _, .nil => .inl ⟨rfl, rfl⟩
  | _, _, .cons (k := k0) (b := b0) (us := us) (es := es) h1 h2 h3 h4 h5 h6 => by
    by_cases e : k0 = k
    · subst e
      exact .inr ⟨b0, us, es, (if_pos (keyOf_kD k0)), valV_pos (p := (k0, V.ref b0)) rfl, List.mem_cons_self, h1, h4⟩
    · have ne : ¬ keyOf (kD k0) = some k := fun z => e (by rw [keyOf_kD] at z; exact Option.some.inj z)
      rw [valV_neg (p := (k0, V.ref b0)) e]
      rcases h6.look (k := k) with ⟨z1, z2⟩ | ⟨b, us, l, z1, z2, z3, z4⟩
      · exact .inl ⟨(if_neg ne).trans z1, z2⟩
      · exact .inr ⟨b, us, l, (if_neg ne).trans z1, z2, List.mem_cons_of_mem _ z3, z4⟩
theorem DlOk.snoc {K : PySem.W.Frag} {w : W} {k : Key} {b : Addr} {us : List V} {l : List D} (h1 : w.H b = some (.lst us)) (h2 : ¬ w.F b) (h3 : b ∉ w.R) (h4 : DvA K w.F w.H us l) : ∀ {kvs : List (Key × V)} {ds : List (D × List D)}, DlOk K w kvs ds → (∀ k', (k', V.ref b) ∉ kvs) → DlOk K w (kvs ++ [(k, .ref b)]) (ds ++ [(kD k, l)])
  | _, _, .nil, _ => .cons h1 h2 h3 h4 (by simp) .nil
  | _, _, .cons (b := b0) g1 g2 g3 g4 g5 g6, n => .cons g1 g2 g3 g4 (fun k' m => by
      rcases List.mem_append.mp m with m | m
      · exact g5 k' m
      · have z := List.mem_singleton.mp m
        cases z
        exact n _ List.mem_cons_self) (DlOk.snoc h1 h2 h3 h4 g6 fun k' m => n k' (List.mem_cons_of_mem _ m))
theorem DlOk.app {K : PySem.W.Frag} {w : W} {k : Key} {b : Addr} {us : List V} {v : V} {d : D} (f : ¬ w.F b) (hb : w.H b = some (.lst us)) (hv : Dv K w.F w.H v d) : ∀ {kvs : List (Key × V)} {ds : List (D × List D)}, DlOk K w kvs ds → valV kvs k = some (.ref b) → DlOk K (w.own b (.lst (us ++ [v]))) kvs (appL ds k d)
  | _, _, .nil, e => by cases e
  | _, _, .cons (k := k0) (b := b0) (us := us0) (r := r0) h1 h2 h3 h4 h5 h6, e => by
    by_cases ek : k0 = k
    · subst ek
      rw [valV_pos (p := (k0, V.ref b0)) rfl] at e
      cases e
      rw [h1] at hb
      cases hb
      show DlOk K _ _ (if keyOf (kD k0) = some k0 then _ else _)
      rw [if_pos (keyOf_kD k0)]
      exact .cons upd_same h2 h3 ((h4.app (.cons hv .nil)).fk (fk_put f)) h5 (h6.put f h5)
    · have ne : ¬ keyOf (kD k0) = some k := fun z => ek (by rw [keyOf_kD] at z; exact Option.some.inj z)
      rw [valV_neg (p := (k0, V.ref b0)) ek] at e
      have mem : ∃ k' : Key, (k', V.ref b) ∈ r0 := by
        rcases h6.look (k := k) with ⟨z1, z2⟩ | ⟨b', us', l, z1, z2, z3, z4⟩
        · rw [z2] at e; cases e
        · rw [z2] at e; cases e; exact ⟨_, z3⟩
      obtain ⟨k', mem⟩ := mem
      have nb : b0 ≠ b := fun z => h5 k' (z ▸ mem)
      show DlOk K _ _ (if keyOf (kD k0) = some k then _ else _)
      rw [if_neg ne]
      exact .cons ((upd_ne nb).trans h1) h2 h3 (h4.fk (fk_put f)) h5 (DlOk.app f hb hv h6 e)
theorem DlOk.lsts {K : PySem.W.Frag} {w : W} {k : Key} {a : Addr} : ∀ {kvs : List (Key × V)} {ds : List (D × List D)}, DlOk K w kvs ds → (k, V.ref a) ∈ kvs → ∃ us, w.H a = some (.lst us)
  | _, _, .nil, m => by cases m
  | _, _, .cons h1 _ _ _ _ h6, m => by
    rcases List.mem_cons.mp m with z | z
    · cases z; exact ⟨_, h1⟩
    · exact h6.lsts z
/-- .. where a new object comes to hang on the slot -/
theorem SOk.put2 {K : PySem.W.Frag} {w0 w : W} {σ : L2.St} {ρ : List En} {i : Nat} {p : Addr} {o : HO} {en en' : En} (h : SOk M K w0 w σ ρ) (hs : σ[i]? = some (some (.ref p))) (hr : ρ[i]? = some en) (hm : en.mut = true) (hm' : en'.mut = true) (he : EnOk K (w.own p o) (some (some (.ref p))) en')
    (sub : ∀ b, Sub (w.own p o) en' p b → Sub w en p b ∨ (w0.H b = none ∧ ∀ j, ¬ Own w σ ρ j b)) : SOk M K w0 (w.own p o) σ (ρ.set i en') := by
  have oa : Own w σ ρ i p := ⟨p, en, hs, hr, hm, .inl rfl⟩
  obtain ⟨t1, t2, t3⟩ := h.ev.tracked oa
  have hi : i < ρ.length := (List.getElem?_eq_some_iff.mp hr).1
  have back : ∀ {j : Nat} {b : Addr}, Own (w.own p o) σ (ρ.set i en') j b → Own w σ ρ j b ∨ (j = i ∧ w0.H b = none ∧ ∀ j, ¬ Own w σ ρ j b) := fun {j b} ob => by
    obtain ⟨q, e, h1, h2, h3, h4⟩ := ob
    by_cases ij : i = j
    · subst ij
      rw [List.getElem?_set_self hi] at h2
      cases h2
      rw [hs] at h1
      cases h1
      rcases sub b h4 with z | z
      · exact .inl ⟨p, en, hs, hr, hm, z⟩
      · exact .inr ⟨rfl, z⟩
    · rw [List.getElem?_set_ne ij] at h2
      refine .inl ⟨q, e, h1, h2, h3, ?_⟩
      rcases h4 with h4 | ⟨ds, kvs, k, rfl, h5, h6⟩
      · exact .inl h4
      · have ne : q ≠ p := fun z => ij (h.ev.ap i j p oa ⟨q, _, h1, h2, h3, .inl z.symm⟩)
        exact .inr ⟨ds, kvs, k, rfl, (upd_ne ne).symm.trans h5, h6⟩
  refine ⟨⟨by rw [List.length_set]; exact h.ev.len, fun j e q => ?_, fun j k b o1 o2 => ?_⟩, gd_put h.gd t1 t3, stp_put h.st (h.ow i p oa), fun j b ob => ?_⟩
  · by_cases ij : i = j
    · subst ij
      rw [List.getElem?_set_self hi] at q
      cases q
      rw [hs]
      exact he
    · rw [List.getElem?_set_ne ij] at q
      exact (h.ev.ok j e q).put t2 fun q' h1 h2 h3 => ij (h.ev.ap i j p oa ⟨q', e, h1, q, h2, h3⟩)
  · rcases back o1 with z1 | ⟨z1, _, z3⟩
    · rcases back o2 with y1 | ⟨y1, _, y3⟩
      · exact h.ev.ap j k b z1 y1
      · exact absurd z1 (y3 j)
    · rcases back o2 with y1 | ⟨y1, _, y3⟩
      · exact absurd y1 (z3 k)
      · rw [z1, y1]
  · rcases back ob with z | ⟨_, z, _⟩
    · exact h.ow j b z
    · exact z
theorem DlOk.len {K : PySem.W.Frag} {w : W} : ∀ {kvs : List (Key × V)} {ds : List (D × List D)}, DlOk K w kvs ds → kvs.length = ds.length
  | _, _, .nil => rfl
  | _, _, .cons _ _ _ _ _ h => congrArg (· + 1) h.len
def wSdApp (i : Nat) (wk wv : WE) : WS := fun dd ρ c => (∃ ds, ρ[i]? = some (.dl ds)) ∧ wk ρ c fun y c1 => ∃ ds k, ρ[i]? = some (.dl ds) ∧ keyOf y = some k ∧ ds.length < LIM ∧
  wv (ρ.set i (.dl (insL ds k))) c1 fun d c2 => (∀ l, lookK (insL ds k) k = some l → l.length < LIM) ∧ dd.nx (ρ.set i (.dl (appL (insL ds k) k d))) c2
theorem s_sdapp {x : Str} {i : Nat} {v : Expr} {p1 p3 nm ap cp p2 : Pos} (hx : PE X (.Name x p1) (tVar i)) (hk : PE X k (tB M X.K wk)) (hv : PE X v (tE M X.K wv)) (m : M2 X (.Name x p1) "setdefault" ap k (.List [] p3) cp)
    (hbase : attributeBase (.Call (.Attribute (.Name x p1) "setdefault" ap) [k, .List [] p3] [] cp) "append" X.env (eval (.Call (.Attribute (.Name x p1) "setdefault" ap) [k, .List [] p3] [] cp) X.env) = eval (.Call (.Attribute (.Name x p1) "setdefault" ap) [k, .List [] p3] [] cp) X.env := by rfl)
    (hfew : ((backTo p2 (starEach [v] X.env)).all (fun x => !x.1) && (backToKw p2 (keywordEach [] X.env)).all (fun x => x.1.isSome) && decide (([v] : List Expr).length + ([] : List Keyword).length + (if ([] : List Keyword).isEmpty then 0 else 1) < 30)) = true := by rfl)
    (hline : (nm.endLine == p2.line) = true := by rfl) (hs : starEach [v] X.env = (false, eval v X.env) :: starEach [] X.env := by rfl) (hsw : swapsWith (.Call (.Attribute (.Call (.Attribute (.Name x p1) "setdefault" ap) [k, .List [] p3] [] cp) "append" nm) [v] [] p2) none pos.line X.env = pure false := by rfl) :
    PS X (.Expr (.Call (.Attribute (.Call (.Attribute (.Name x p1) "setdefault" ap) [k, .List [] p3] [] cp) "append" nm) [v] [] p2) pos) (tS M X.K w0 (wSdApp i wk wv)) := by
  refine PS.imp (ps_expr (pe_bm PySem.F.plainAttrs_list PySem.F.slot_list_append PySem.F.type_list_append mt_append (pe_dsetd hx hk (pe_lst pa_nil) m) (pa_cons hv pa_nil hs) hbase hfew hline hs (by rfl)) hsw) ?_
  rintro D σ H ⟨w, ρ, dd, eh, so, ⟨⟨ds0, r0⟩, hw⟩, kk⟩
  obtain ⟨p0, ks0, e1, e2, _⟩ := so.ev.ok i _ r0
  subst eh
  refine ⟨_, e1, p0, rfl, .inl ⟨ks0, .inl e2⟩, w, ρ, _, rfl, so.ev, so.gd, hw, fun w1 y dy s1 g1 by' q1 => ?_⟩
  obtain ⟨ds, key, r1, ek, hl, q1⟩ := q1
  have so1 := so.stp s1 g1
  obtain ⟨p, ks, e3, e4, e5, e6, e7⟩ := so1.ev.ok i _ r1
  rw [e1] at e3
  cases e3
  have ne0 : w1.H p0 ≠ none := by rw [e4]; simp
  refine ⟨(by show 0 ≤ sizeLine; exact Nat.zero_le _), fun b hb => ?_⟩
  have nb : p0 ≠ b := fun z => ne0 (z ▸ hb)
  have h0b : (w1.own b (.lst [])).H p0 = some (.dK ks) := (upd_ne nb).trans e4
  have sw : Stp w1 (w1.own b (.lst [])) := stp_own hb
  have gw : Gd M (w1.own b (.lst [])) := gd_own g1 hb
  have so2 := so1.stp sw gw
  have nbR : b ∉ w1.R := r_free g1 hb
  have nbF : ¬ w1.F b := fun f => g1.tf b f hb
  -- behind the key's place is made sure, the value is looked at, then appended
  have tail : ∀ (w2 : W) (ks2 : List (Key × V)) (b2 : Addr) (us2 : List V), Fk w1 w2 → SOk M X.K w0 w2 σ (ρ.set i (.dl (insL ds key))) → w2.c = w1.c → w2.H p0 = some (.dK ks2) → valV ks2 key = some (.ref b2) → w2.H b2 = some (.lst us2) → (key, V.ref b2) ∈ ks2 →
      tyV X.K "list" (.ref b2) w2.H ∧ (tE M X.K wv σ w2.H fun y H1 => rAppend (.ref b2) [y] H1 fun _ H2 => D.nx σ H2) := by
    intro w2 ks2 b2 us2 fk2 so3 ec h2 hval hb2 hmem
    have hi : i < ρ.length := (List.getElem?_eq_some_iff.mp r1).1
    have rs : (ρ.set i (.dl (insL ds key)))[i]? = some (.dl (insL ds key)) := List.getElem?_set_self hi
    refine ⟨tyL hb2, w2, _, _, rfl, so3.ev, so3.gd, by rw [ec]; exact q1, fun w3 v3 d3 s3 g3 dv3 q3 => ?_⟩
    obtain ⟨hlen, q3⟩ := q3
    have so4 := so3.stp s3 g3
    obtain ⟨p4, ks4, f1, f2, f3, f4, f5⟩ := so4.ev.ok i _ rs
    rw [e1] at f1
    cases f1
    have hR2 : p0 ∉ w2.R := by
      obtain ⟨_, _, y1, _, _, y4, _⟩ := so3.ev.ok i _ rs
      rw [e1] at y1; cases y1
      exact y4
    have eks : ks4 = ks2 := by
      have := s3.k _ _ h2 hR2
      rw [f2] at this
      cases this
      rfl
    subst eks
    rcases f5.look (k := key) with ⟨z1, z2⟩ | ⟨b4, us4, l4, z1, z2, z3, z4, z5⟩
    · rw [z2] at hval; cases hval
    · rw [z2] at hval
      cases hval
      have own4 : Sub w3 (.dl (insL ds key)) p0 b2 := .inr ⟨_, _, _, rfl, f2, z3⟩
      obtain ⟨t1, t2, t3⟩ := so4.ev.tracked ⟨p0, _, e1, rs, rfl, own4⟩
      refine ⟨b2, us4, v3, rfl, rfl, z4, (by rw [sizeLine_eq, z5.length]; exact hlen l4 z1), ?_⟩
      have np : p0 ≠ b2 := fun z => by rw [z, z4] at f2; cases f2
      have fin := so4.put (i := i) (a := b2) (o := .lst (us4 ++ [v3])) (en' := .dl (appL (insL ds key) key d3)) e1 rs rfl own4 rfl ⟨p0, ks4, rfl, (upd_ne np).trans f2, f3, f4, f5.app t2 z4 dv3 z2⟩ (fun b5 sb => by
        rcases sb with rfl | ⟨ds', kvs', k', z6, z7, z8⟩
        · exact .inl rfl
        · rw [show (w3.own b2 (HO.lst (us4 ++ [v3]))).H p0 = some (.dK ks4) from (upd_ne np).trans f2] at z7
          cases z7
          exact .inr ⟨_, _, k', rfl, f2, z8⟩)
      rw [List.set_set] at fin
      exact kk.nx _ σ _ ((s1.fk so.gd).trans (fk2.trans ((s3.fk so3.gd).trans (fk_put t2)))) fin q3
  refine ⟨ks, key, h0b, kV_of by' ek, by rw [sizeLine_eq, e7.len]; exact hl, fun v' hv' => ?_, fun hno => ?_⟩
  · -- the key is there
    rcases e7.look (k := key) with ⟨z1, z2⟩ | ⟨b4, us4, l4, z1, z2, z3, z4, z5⟩
    · rw [z2] at hv'; cases hv'
    · rw [z2] at hv'
      cases hv'
      have ei : insL ds key = ds := by unfold insL; rw [z1]; rfl
      have es : ρ.set i (.dl (insL ds key)) = ρ := by
        rw [ei]
        apply List.ext_getElem?
        intro j
        by_cases ij : i = j
        · subst ij; rw [List.getElem?_set_self (List.getElem?_eq_some_iff.mp r1).1, r1]
        · rw [List.getElem?_set_ne ij]
      have nb4 : b4 ≠ b := fun z => by rw [z, hb] at z4; cases z4
      exact tail (w1.own b (.lst [])) ks b4 us4 (sw.fk g1) (by rw [es]; exact so2) rfl h0b z2 ((upd_ne nb4).trans z4) z3
  · -- it is not: the new list comes in
    have hlk : lookK ds key = none := by
      rcases e7.look (k := key) with ⟨z1, z2⟩ | ⟨b4, us4, l4, z1, z2, z3, z4, z5⟩
      · exact z1
      · rw [z2] at hno; cases hno
    have ei : insL ds key = ds ++ [(kD key, [])] := by unfold insL; rw [hlk]; rfl
    have nmem : ∀ k', (k', V.ref b) ∉ ks := fun k' m => by
      obtain ⟨us, z⟩ := e7.lsts m
      rw [hb] at z
      cases z
    have pmem : ∀ k', (k', V.ref p0) ∉ ks := fun k' m => by
      obtain ⟨us, z⟩ := e7.lsts m
      rw [e4] at z
      cases z
    have nO : ∀ j, ¬ Own (w1.own b (.lst [])) σ ρ j b := fun j oj => (so1.ev.tracked (Own.back so1.ev.ok sw oj)).1 hb
    have put : putK ks key (V.ref b) = ks ++ [(key, .ref b)] := putK_new _ hno
    have hd2 : ((w1.own b (.lst [])).own p0 (.dK (putK ks key (.ref b)))).H b = some (.lst []) := (upd_ne (Ne.symm nb)).trans upd_same
    have e8 := (e7.stp sw g1).put (a := p0) (o := .dK (putK ks key (.ref b))) (show ¬ (w1.own b (.lst [])).F p0 from e5) pmem
    have e9 : EnOk X.K ((w1.own b (.lst [])).own p0 (.dK (putK ks key (.ref b)))) (some (some (.ref p0))) (.dl (insL ds key)) := by
      refine ⟨p0, _, rfl, upd_same, e5, e6, ?_⟩
      rw [put, ei]
      rw [put] at e8 hd2
      exact e8.snoc hd2 nbF nbR .nil nmem
    have so3 := so2.put2 (i := i) (p := p0) (o := .dK (putK ks key (.ref b))) (en' := .dl (insL ds key)) e1 r1 rfl rfl e9 fun b5 sb => by
      rcases sb with rfl | ⟨ds', kvs', k', z6, z7, z8⟩
      · exact .inl (.inl rfl)
      · rw [show ((w1.own b (.lst [])).own p0 (.dK (putK ks key (.ref b)))).H p0 = some (.dK (putK ks key (.ref b))) from upd_same] at z7
        cases z7
        rw [put] at z8
        rcases List.mem_append.mp z8 with m | m
        · exact .inl (.inr ⟨_, ks, k', rfl, h0b, m⟩)
        · have z := List.mem_singleton.mp m
          cases z
          exact .inr ⟨nn so1.st hb, nO⟩
    refine tail _ (putK ks key (.ref b)) b [] ((sw.fk g1).trans (fk_put e5)) so3 rfl upd_same ?_ hd2 ?_
    · rw [valV_put, if_pos rfl]
    · rw [put]
      exact List.mem_append_right _ (List.mem_singleton.mpr rfl)
/-- a dict of one's own lists handed back -/
def wRetDl (i : Nat) : WS := fun dd ρ c => ∃ ds, ρ[i]? = some (.dl ds) ∧ dd.rt (.dict (ds.map fun p => (p.1, .list p.2))) c
theorem s_retDl {x : Str} {i : Nat} {p : Pos} (h : PE X (.Name x p) (tVar i)) : PS X (.Return (some (.Name x p)) pos) (tS M X.K w0 (wRetDl i)) := by
  refine PS.imp (ps_ret h) ?_
  rintro D σ H ⟨w, ρ, dd, eh, so, ⟨ds, q, hw⟩, k⟩
  subst eh
  obtain ⟨a, kvs, h1, h2, h3, h4, h5⟩ := so.ev.ok i _ q
  have tr : ∀ b, Sub w (.dl ds) a b → (w.H b ≠ none ∧ ¬ w.F b ∧ b ∉ w.R) ∧ w0.H b = none := fun b sb => ⟨so.ev.tracked ⟨a, _, h1, q, rfl, sb⟩, so.ow i b ⟨a, _, h1, q, rfl, sb⟩⟩
  refine ⟨_, h1, k.rt { w with F := fun b => w.F b ∨ Sub w (.dl ds) a b } _ _ ?_ ?_ (.dic (.inr (.inl rfl)) (.inl h2) (h5.dvk so.gd.tf { w with F := fun b => w.F b ∨ Sub w (.dl ds) a b } rfl (fun _ f => .inl f) fun k' b m => .inr (.inr ⟨ds, kvs, k', rfl, h2, m⟩))) hw⟩
  · exact ⟨fun b f => .inl (so.st.f1 b f), fun b f => f.elim (so.st.f2 b) fun sb => .inr (tr b sb).2, so.st.k, so.st.t, so.st.r, so.st.m⟩
  · exact ⟨so.gd.mi, so.gd.r0, so.gd.nz, fun b hb => ⟨(so.gd.tr b hb).1, fun f => f.elim (so.gd.tr b hb).2 fun sb => (tr b sb).1.2.2 hb⟩, fun b f => f.elim (so.gd.tf b) fun sb => (tr b sb).1.1⟩
/-! repr of a list, of a tuple -/
def isRef : D → Bool
  | .list _ => true
  | .tuple _ => true
  | _ => false
def reprD (d : D) : Option D := if isRef d = true ∧ flt d = true ∧ d.showable = true ∧ d.hasDict = false ∧ d.depth ≤ 60 ∧ d.shown.length ≤ LIM then some (.str d.shown) else none
theorem e_repr {j : Nat} (hr : Room j X.A) (gds : X.A.guards = some []) (hg : Gl X "repr") (hm : X.mg "repr" = none) (he : PE X e (tB M X.K we)) (hs : starEach [e] X.env = (false, eval e X.env) :: starEach [] X.env := by rfl) : PE X (.Call (.Name "repr" p) [e] [] pos) (tE M X.K (wF reprD we)) := by
  have call : CallR X (.builtin "repr") (fun xs H Q => ∃ v d, xs = [v] ∧ isRef d = true ∧ Dp X.K H v d ∧ d.showable = true ∧ d.hasDict = false ∧ d.depth ≤ 60 ∧ d.shown.length ≤ sizeLine ∧ Q (.str d.shown) H) := by
    intro pins s σ H xs us Q I r h
    obtain ⟨v, d, rfl, hd, dp, h1, h2, h3, h4, q⟩ := h
    cases r with
    | cons r1 r2 =>
      rename_i u us
      cases r2
      obtain ⟨as, rd⟩ := Dp.reads I d v u dp r1
      have hu := hr.units
      have key : ∀ a, u = Value.ref a → wpAny (model X.prog X.w) X.A (call (.builtin "repr") [u]) (EP X pins σ Q) X.xe s := fun a ea => by
        subst ea
        exact PySem.repr_of_reads' rd h1 (PyData.noDict_hsm h2) gds (by omega) (fun _ _ z => z) (fun h' t tk kp => ⟨.str d.shown, H, I.kept (t' := tk) kp, ⟨t, rfl⟩, q⟩) h4
      cases rd with
      | list _ _ _ _ => exact key _ rfl
      | tuple _ _ _ _ => exact key _ rfl
      | _ => cases hd
  refine PE.imp (pe_callB call hg hm PyProof.Rows.boot_repr (pa_cons he pa_nil hs) (by decide) (by decide) hs (by rfl)) ?_
  rintro σ H Q ⟨w, ρ, Qd, eh, ev, g, hw, k⟩
  refine ⟨w, ρ, _, eh, ev, g, hw, fun w1 v d s1 g1 bv q1 => ?_⟩
  obtain ⟨z, ez, qz⟩ := q1
  unfold reprD at ez
  split at ez
  · rename_i h
    cases ez
    exact ⟨v, d, rfl, h.1, bv.dp h.2.1, h.2.2.1, h.2.2.2.1, h.2.2.2.2.1, lim_size h.2.2.2.2.2, k w1 _ _ s1 g1 (.str _) qz⟩
  · cases ez
end
end HW

/-! lists joined; enumerate over a tuple -/
namespace HW
open PySem L2 PySem.Spec PyProof.Rows
section
variable {prog : Program} {w : World} {A : Around} {E : Value → Shared → Prop} {s : Shared}
theorem list_addG (l b : Addr) (xs ys : Array Value) (n m : Nat) (sl sl2 : Array (Option Value)) (hc0 : xs.size + ys.size ≤ sizeLine) :
    Meets (Builtin.«list.__add__» ⟨[.ref l, .ref b], []⟩) (fun _ R s => s.heap.get? l = some { cls := .type "list", dict := none, data := .seq xs n, slots := sl } ∧ s.heap.get? b = some { cls := .type "list", dict := none, data := .seq ys m, slots := sl2 } ∧
      R (.ok (.ret (Value.ref s.heap.objs.size))) { s with heap := s.heap.push { cls := Value.type "list", data := Data.seq (xs ++ ys) } }) :=
  .of_wp fun prog w A R s h => by
    obtain ⟨hp, g, d, k0, os⟩ := s
    obtain ⟨hl, hb, h⟩ := h
    have g1 := AutoSeq1.idx_int
    have g3 := AutoSeq1.sub_list_list
    wp_walk using AutoSeq1.wpAny_loadPart' hl, AutoSeq1.wpAny_loadPart' hb
    exact ⟨_, rfl, h⟩
theorem add_plain {Q : Value → Shared → Prop} {l b : Addr} {xs ys : Array Value} (hl : PlainL s.heap l xs) (hb : PlainL s.heap b ys) (hz : xs.size + ys.size ≤ sizeLine)
    (h : Q (.ref s.heap.objs.size) { s with heap := s.heap.push { cls := .type "list", data := .seq (xs ++ ys) } }) : wpAny (model prog w) A (binaryOp .Add (.ref l) (.ref b)) Q E s := by
  obtain ⟨⟨c1, d1, t1, sl⟩, n, ho, hc, hd, ht⟩ := hl
  obtain ⟨⟨c2, d2, t2, sl2⟩, m, ho2, hc2, hd2, ht2⟩ := hb
  simp only at hc hd ht hc2 hd2 ht2
  subst hc hd ht hc2 hd2 ht2
  exact concat_meets ⟨_, ho, rfl⟩ ⟨_, ho2, rfl⟩ noFill_list_add seq_list_add F.slot_list_add F.entry_list_add (F.args_list_add_2 _ _) (list_addG l b xs ys n m sl sl2 hz) ⟨ho, ho2, h⟩
end
section
variable {X : Cx}
theorem o_cat : OpR X (binaryOp .Add) (fun x y H Q => ∃ l b xs zs, x = .ref l ∧ y = .ref b ∧ SqL X.K H l xs ∧ SqL X.K H b zs ∧ xs.length + zs.length ≤ sizeLine ∧ ∀ p, H p = none → Q (.ref p) (upd H p (.lst (xs ++ zs)))) := by
  intro pins s σ H x y v u Q I rx ry h
  obtain ⟨l, b, xs, zs, rfl, rfl, hH, hB, hz, q⟩ := h
  cases rx
  cases ry
  obtain ⟨its, r, p1, _⟩ := I.list hH
  obtain ⟨its2, r2, p2, _⟩ := I.list hB
  refine add_plain p1 p2 (by rw [List.size_toArray, List.size_toArray, ← r.length, ← r2.length]; exact hz) ?_
  have ea : its.toArray ++ its2.toArray = (its ++ its2).toArray := by simp
  rw [ea]
  exact ⟨.ref _, _, I.lnew (t' := s.toks) (r.append r2) (by rw [List.length_append]; omega), rfl, q _ I.fresh⟩
end

/-! ### enumerate(tuple) -/
theorem new_enumT (l : Addr) (xs : Array Value) (n : Nat) (dct : Option Addr) (sl : Array (Option Value)) :
    Meets (Builtin.«enumerate.__new__» ⟨[.type "enumerate", .ref l], []⟩) (fun _ R s => s.heap.get? l = some { cls := .type "tuple", dict := dct, data := .seq xs n, slots := sl } ∧
      R (.ok (.ret (.ref (s.heap.push { cls := .type "tuple_iterator", data := .fields #[.ref l, .int 0 0] }).objs.size)))
        { s with heap := (s.heap.push { cls := .type "tuple_iterator", data := .fields #[.ref l, .int 0 0] }).push { cls := .type "enumerate", data := .fields #[.none, .bool false, .ref s.heap.objs.size, rawInt 0, .none, .none] } }) :=
  .of_wp fun prog w A R s h => by
    obtain ⟨hp, g, d, k0, os⟩ := s
    obtain ⟨hl, h⟩ := h
    have g1 := sub_enumerate
    have hT : Heap.IsTuple (Shared.heap ⟨hp, g, d, k0, os⟩) l xs := ⟨_, hl, rfl, n, rfl⟩
    wp_walk using AutoSeq1.wpAny_loadPart' hl
    refine wpAny_stack_any fun st => wpAny_pure ?_
    split
    · rename_i c _ _ _ _ _
      cases (c == Value.type "enumerate")
      · wp_walk using AutoSeq1.wpAny_loadPart' hl, wpAny_pyIter_tuple hT
        exact ⟨_, rfl, h⟩
      · wp_walk using AutoSeq1.wpAny_loadPart' hl, wpAny_pyIter_tuple hT
        exact ⟨_, rfl, h⟩
    · wp_walk using AutoSeq1.wpAny_loadPart' hl, wpAny_pyIter_tuple hT
      exact ⟨_, rfl, h⟩
theorem call_enumT {prog : Program} {w : World} {A : Around} {E : Value → Shared → Prop} {s : Shared} {l : Addr} {xs : Array Value} {Q : Value → Shared → Prop} (hL : s.heap.IsTuple l xs)
    (h : ∀ h', IsEnum h' (s.heap.objs.size + 1) s.heap.objs.size 0 .none → h'.IsTupleIter s.heap.objs.size l 0 → h'.objs.size = s.heap.objs.size + 2 →
      (∀ b o, s.heap.get? b = some o → h'.get? b = some o) → Q (.ref (s.heap.objs.size + 1)) { s with heap := h' }) :
    wpAny (model prog w) A (call (.type "enumerate") [.ref l]) Q E s := by
  obtain ⟨⟨c, dct, dt, sl⟩, hl, hc, n, hd⟩ := hL
  simp only at hc hd
  subst hc hd
  refine callType_new F.called_enumerate (by decide) (F.typeCall_enumerate_1 _) (F.newCall_enumerate_1 _) (fun obj => F.args_object_init_2 obj _) F.entry_enumerate_new
    (new_enumT l xs n dct sl) ⟨hl, ?_⟩
  generalize hg : s.heap.push { cls := .type "tuple_iterator", data := .fields #[.ref l, .int 0 0] } = g1
  have hz : g1.objs.size = s.heap.objs.size + 1 := by rw [← hg]; exact Heap.size_push ..
  have e0 : g1.get? s.heap.objs.size = some { cls := .type "tuple_iterator", data := .fields #[.ref l, .int 0 0] } := by rw [← hg]; exact Heap.get?_push_size _ rfl
  have up : ∀ b o, s.heap.get? b = some o → g1.get? b = some o := fun b o x => by rw [← hg]; exact Heap.get?_push_of_some _ x
  show _ ∧ _
  rw [hz]
  have he : IsEnum (g1.push { cls := .type "enumerate", data := .fields #[.none, .bool false, .ref s.heap.objs.size, rawInt 0, .none, .none] }) (s.heap.objs.size + 1) s.heap.objs.size 0 .none := by
    have z := Heap.get?_push_size g1 (o := { cls := .type "enumerate", data := .fields #[.none, .bool false, .ref s.heap.objs.size, rawInt 0, .none, .none] }) rfl
    rw [hz] at z; exact z
  exact ⟨⟨_, he, rfl⟩, h _ he ⟨_, Heap.get?_push_of_some _ e0, rfl, rfl⟩ (by rw [Heap.size_push, hz]) fun b o x => Heap.get?_push_of_some _ (up b o x)⟩
/-- the tuple at a as it stands at each turn, each item in a new pair -/
def IteT (K : PySem.W.Frag) (a : Addr) : It :=
  ⟨fun i H => ∃ (xs : List V) (x : V), SqT K H a xs ∧ xs[i]? = some x, fun i H v H' => ∃ T x, v = .ref T ∧ H T = none ∧ H' = upd H T (.tup [.int (i : Nat), x]) ∧ ∀ xs, SqT K H a xs → xs[i]? = some x, fun i H => ∃ xs : List V, SqT K H a xs ∧ xs.length ≤ i⟩
theorem turn_enumT {P : Program} {w : World} {K : PySem.W.Frag} {elts : List Expr} {kk : Nat} {tpos : Pos} (a e it : Addr) :
    Turn P w K (.Tuple elts kk tpos) (IteT K a) [e, it] e (fun i h => (∃ old, IsEnum h e it ((i : Nat) : Int) old) ∧ h.IsTupleIter it a i ∧ e ≠ it) where
  mem := by simp
  obj := fun i h st b hb => by
    obtain ⟨⟨old, he⟩, ⟨o, ho, hc, hd⟩, _⟩ := st
    rcases (show b = e ∨ b = it by simpa using hb) with z | z
    · rw [z]; exact ⟨_, he, fun v q => nomatch q⟩
    · rw [z]; exact ⟨o, ho, fun v q => by rw [hd] at q; cases q⟩
  keep := fun i h h' st k => let ⟨⟨old, he⟩, hi, hne⟩ := st; ⟨⟨old, k e (by simp) _ he⟩, hi.at fun o q => k it (by simp) o q, hne⟩
  item := by
    intro X hP hw hK hc i pins s σ H E I hf st hg
    subst hP hw hK
    obtain ⟨⟨old, he⟩, hit, hne⟩ := st
    obtain ⟨xs, x, hq, hx⟩ := hg
    obtain ⟨its, rv, p, hz⟩ := I.tuple hq
    obtain ⟨u, hu, ru⟩ := rv.get hx
    have p' : s.heap.IsTuple a its.toArray := p
    have hel : e < s.heap.objs.size := Heap.lt_size he
    have hil : it < s.heap.objs.size := by obtain ⟨_, q, _⟩ := hit; exact Heap.lt_size q
    have hea : e ≠ a := fun z => by
      obtain ⟨o, ho, hcl, _⟩ := p'
      rw [← z] at ho
      have := he.symm.trans ho
      cases this
      simp at hcl
    have hta : a ≠ it := fun z => by
      obtain ⟨o, ho, hcl, _⟩ := p'
      obtain ⟨o2, ho2, hcl2, _⟩ := hit
      rw [z, ho2] at ho
      cases ho
      rw [hcl] at hcl2
      simp at hcl2
    have hlt : i < its.toArray.size := by
      have := (List.getElem?_eq_some_iff.mp hu).1
      simpa using this
    refine wpAny_pyNext_enum_itemD (Draws.tuple (A := X.A.in1) (I.ok.hd hc) it a hta its.toArray) he ⟨hit, p'⟩ hlt hne (by simp [hne, hea]) fun u' h' tk pu ho hst' hT hsz hk => ?_
    have eu : u' = u := by
      have z : its[i]? = some u' := by simpa using pu
      rw [hu] at z
      cases z
      rfl
    subst eu
    refine ⟨_, rfl, wpAny_letOwnedTupleGo_enum (s := { s with heap := h', toks := tk + 1 }) ho fun h'' he' sb => ?_⟩
    have hT2 : h''.get? s.heap.objs.size = some { cls := .type "tuple", data := .seq #[.int i tk, u'] } := (sb.2 _ (Nat.ne_of_gt hel)).trans hT
    have new : ObjOk X.prog X.w (upd H s.heap.objs.size (.tup [.int (i : Nat), x])) h'' s.heap.objs.size (.tup [.int (i : Nat), x]) :=
      ⟨by show 2 ≤ sizeLine; decide, [.int i tk, u'], .cons ⟨_, rfl⟩ (.cons ru .nil), ⟨_, hT2, rfl, _, rfl⟩⟩
    have I1 : Inv X pins σ (upd H s.heap.objs.size (.tup [.int (i : Nat), x])) { s with heap := h'', toks := tk + 1 } :=
      I.turnedNew (ch := [e, it]) (fun b ob hb q => (sb.2 b (fun z => hb (by simp [z]))).trans (hk b ob (fun z => hb (by simp [z])) (fun z => hb (by simp [z])) q)) hf (Nat.le_refl _) new
    refine ⟨.ref s.heap.objs.size, _, I1, rfl, ⟨_, x, rfl, I.hok.fresh (Nat.le_refl _), rfl, fun ys hy => by rw [I.tuple_inj hy hq]; exact hx⟩, ⟨⟨u', ?_⟩, hst'.1.at fun o q => (sb.2 it (Ne.symm hne)).trans q, hne⟩, fun b hb => ?_⟩
    · rw [show ((i + 1 : Nat) : Int) = (i : Int) + 1 by omega]; exact he'
    · have hb' : b < s.heap.objs.size := by
        rcases (show b = e ∨ b = it by simpa using hb) with z | z
        · rw [z]; exact hel
        · rw [z]; exact hil
      rw [upd_ne (Nat.ne_of_lt hb')]
      exact (hf b hb).1
  done := by
    intro X hP hw hK hc i pins s σ H E I hf st hg
    subst hP hw hK
    obtain ⟨⟨old, he⟩, hit, hne⟩ := st
    obtain ⟨xs, hq, hx⟩ := hg
    obtain ⟨its, rv, p, hz⟩ := I.tuple hq
    have p' : s.heap.IsTuple a its.toArray := p
    obtain ⟨f0, f1, f2, f3, f4, f5⟩ := hf it (by simp)
    have hl := rv.length
    have hta : a ≠ it := fun z => by
      obtain ⟨o, ho, hcl, _⟩ := p'
      obtain ⟨o2, ho2, hcl2, _⟩ := hit
      rw [z, ho2] at ho
      cases ho
      rw [hcl] at hcl2
      simp at hcl2
    have D : Draws X.prog X.w X.A.in1 it [it, a] i (fun j v => False) (fun j h => h.IsTupleIter it a i ∧ h.IsTuple a its.toArray ∧ i ≤ j) :=
      { live := fun j h q => let ⟨o, ho, _⟩ := q.1; ⟨o, ho⟩
        frame := fun j h h' q k => ⟨q.1.at fun o e => k it (by simp) o e, q.2.1.at fun o e => k a (by simp) o e, q.2.2⟩
        item := fun j s Q E hj q _ => absurd q.2.2 (by omega)
        done := fun s Q E q hE => wpAny_nextOf_tuple_end (I.ok.hd hc) q.1 q.2.1 (by simp; omega) hE }
    exact wpAny_pyNext_enum_endD D he ⟨hit, p', Nat.le_refl _⟩ fun h' eb => ⟨rfl, I.turned (t' := s.toks) (fun b o hb q => eb b o hb q) f0 f1 f3 f4 f5⟩
  self := fun A i s Q E st h => let ⟨⟨_, he⟩, _⟩ := st; wpAny_pyIter_enum he h
def iEnumT (K : PySem.W.Frag) (ta : TA) : TI := fun σ H R => ta σ H fun vs H1 => ∃ a xs, vs = [.ref a] ∧ SqT K H1 a xs ∧ R (IteT K a) H1
theorem pi_enumT {X : Cx} {e : Expr} {ta : TA} {p pos tpos : Pos} {elts : List Expr} {kk : Nat} (hg : Gl X "enumerate") (hm : X.mg "enumerate" = none) (ha : PA X [e] ta) (hs : starEach [e] X.env = [(false, eval e X.env)] := by rfl) :
    PI X (.Tuple elts kk tpos) (.Call (.Name "enumerate" p) [e] [] pos) (iEnumT X.K ta) := by
  refine ⟨fun pins s σ H R I h => ?_⟩
  refine Call_ (ld_blt I hg hm boot_enumerate (PyProof.Rows.callWith_type1 (thn (ha.run pos pins s σ H _ I h) fun us s1 ⟨vs, H1, I1, r1, q1⟩ => ?_) hs rfl))
  obtain ⟨a, xs, ex, hq, q⟩ := q1
  subst ex
  cases r1 with
  | cons r rr =>
    cases rr
    cases r
    obtain ⟨its, rv, p', hz⟩ := I1.tuple hq
    have p' : s1.heap.IsTuple a its.toArray := p'
    refine call_enumT p' fun h' he hit hsz hk => wpAny_pyIter_enum he ?_
    have I2 : Inv X pins σ H1 { s1 with heap := h' } := I1.kept (t' := s1.toks) hk
    refine ⟨s1.heap.objs.size + 1, [s1.heap.objs.size + 1, s1.heap.objs.size], _, _, H1, rfl, I2, turn_enumT a (s1.heap.objs.size + 1) s1.heap.objs.size, ⟨⟨.none, he⟩, hit, Nat.succ_ne_self _⟩, fun b hb => ?_, q⟩
    have hle : s1.heap.objs.size ≤ b := by
      rcases (show b = s1.heap.objs.size + 1 ∨ b = s1.heap.objs.size by simpa using hb) with z | z
      · rw [z]; exact Nat.le_add_right _ _
      · rw [z]; exact Nat.le_refl _
    exact I1.fpOk hle (I1.hok.fresh hle)
def enumD (ds : List D) : List D := ds.mapIdx fun i d => .tuple [.int (i : Nat), d]
section
variable {X : Cx} {M : MI} {e : Expr} {we : WE} {p pos tpos : Pos} {elts : List Expr} {kk : Nat}
def wEnT (we : WE) : WI := fun ρ c Q => we ρ c fun d c1 => ∃ ds, d = .tuple ds ∧ Q (enumD ds) c1
theorem i_enumT (hg : Gl X "enumerate") (hm : X.mg "enumerate" = none) (he : PE X e (tE M X.K we)) (hs : starEach [e] X.env = [(false, eval e X.env)] := by rfl) : PI X (.Tuple elts kk tpos) (.Call (.Name "enumerate" p) [e] [] pos) (tI M X.K Fk (wEnT we)) := by
  refine PI.imp (pi_enumT hg hm (pa_cons he pa_nil hs) hs) ?_
  rintro σ H R ⟨w, ρ, Qd, eh, ev, g, hw, k⟩
  refine ⟨w, ρ, _, eh, ev, g, hw, fun w1 v d s1 g1 dv q1 => ?_⟩
  obtain ⟨ds, rfl, q1⟩ := q1
  cases dv with
  | @tup a vs _ h2 h3 =>
    refine ⟨a, vs, rfl, h2.sq, k w1 _ (enumD ds) s1 g1 ⟨fun w' i d r g' e => ?_, fun w' i r g' hi => ?_⟩ q1⟩
    · unfold enumD at e
      rw [List.getElem?_mapIdx] at e
      obtain ⟨d0, e1, e2⟩ := Option.map_eq_some_iff.mp e
      subst e2
      have hq := (h2.up (r.f1 a) fun o f => r.k a o f).sq
      obtain ⟨v0, ev0, dv0⟩ := (h3.fk r).get e1
      refine ⟨⟨vs, v0, hq, ev0⟩, fun x H' y => ?_⟩
      obtain ⟨T, v1, rfl, hT, rfl, hv⟩ := y
      have := hv vs hq
      rw [ev0] at this
      cases this
      exact ⟨w'.new T _, rfl, rfl, stp_new hT, gd_new g' hT, new_tup g' hT (.cons (.int _) (.cons dv0 .nil))⟩
    · unfold enumD at hi
      rw [List.length_mapIdx] at hi
      exact ⟨vs, (h2.up (r.f1 a) fun o f => r.k a o f).sq, by rw [h3.length]; exact hi⟩
end
end HW

/-! comprehensions assigned; comprehensions of two clauses; calls that look at an object of one's own -/
namespace HW
open PySem L2
section
variable {X : Cx} {M : MI} {w0 : W}
/-- name = [elt for target in iter if ..] -/
theorem s_setLc {elt tg iter : Expr} {ifs : List Expr} {scope : Scope} {own : List (Str × Nat)} {pos spos py : Pos} {wi : WI} {wt : WT} {we : WE} {i j : Nat} {y : Str} (hj : j ∈ own.map (·.2)) (hc : X.calm = true) (hN : X.N.Nodup) (hy : X.N[i]? = some y) (hyl : X.env.scope.names.lookup y = some .local)
    (hi : PI X tg iter (tI M X.K Stp wi)) (ok : BlkOk X.N X.env.scope scope own)
    (hg : ∀ (s : Shared) (H : Hp) (C : Addr) (cl : List (Str × Addr)) (fp : List Addr), PG (X.blk s H scope (compEnvC scope cl C X.env) fp) tg (gName j)) (ht : ∀ (s : Shared) (H : Hp) (C : Addr) (cl : List (Str × Addr)) (fp : List Addr), PTs (X.blk s H scope (compEnvC scope cl C X.env) fp) ifs (tT M X.K wt))
    (he : ∀ (s : Shared) (H : Hp) (C : Addr) (cl : List (Str × Addr)) (fp : List Addr), PE (X.blk s H scope (compEnvC scope cl C X.env) fp) elt (tE M X.K we)) (hsw : swapsWith (.ListComp elt [⟨tg, iter, ifs, 0⟩] scope pos) (some (.Name y py)) spos.line X.env = pure true := by rfl) (hs : ∀ x, foldedSetIterable iter X.env x = pure x := by intro _; rfl) :
    PS X (.Assign [.Name y py] (.ListComp elt [⟨tg, iter, ifs, 0⟩] scope pos) spos) (tS M X.K w0 (wSet i (wLc wi wt we j (own.map (·.2))))) := by
  refine PS.imp (ps_setLc hc hN hy hyl hsw hi ok hg ht he hs) ?_
  intro D σ H h
  have z := r_set D σ H h
  exact r_lc hj σ H _ z
/-! two clauses -/
def lcIn (wt : WT) (we : WE) (ρ : List En) (j : Nat) : List D → List D → Nat → (List D → Nat → Prop) → Prop
  | [], acc, c, Q => Q acc c
  | d :: r, acc, c, Q => wt (ρ.set j (.im d)) c fun b c1 => if b = true then we (ρ.set j (.im d)) c1 (fun y c2 => lcIn wt we ρ j r (acc ++ [y]) c2 Q) else lcIn wt we ρ j r acc c1 Q
def lcGo2 (wt : WT) (wi1 : WI) (wt1 : WT) (we : WE) (ρ : List En) (j j1 : Nat) : List D → List D → Nat → (D → Nat → Prop) → Prop
  | [], acc, c, Q => Q (.list acc) c
  | d :: r, acc, c, Q => wt (ρ.set j (.im d)) c fun b c1 => if b = true then wi1 (ρ.set j (.im d)) c1 (fun ds c2 => acc.length + ds.length ≤ 16000000 ∧ lcIn wt1 we (wipeE (ρ.set j (.im d)) [j1]) j1 ds acc c2 fun acc' c3 => lcGo2 wt wi1 wt1 we ρ j j1 r acc' c3 Q) else lcGo2 wt wi1 wt1 we ρ j j1 r acc c1 Q
def wLc2 (wi : WI) (wt : WT) (wi1 : WI) (wt1 : WT) (we : WE) (j j1 : Nat) (vs : List Nat) : WE := fun ρ c Q => wi ρ c fun ds c1 => lcGo2 wt wi1 wt1 we (wipeE ρ vs) j j1 ds [] c1 Q
theorem r_lc2 {wi wi1 : WI} {wt wt1 : WT} {we : WE} {j j1 : Nat} {vs : List Nat} (hj : j ∈ vs) : ∀ (σ : L2.St) (H : Hp) (Q : VK), tE M X.K (wLc2 wi wt wi1 wt1 we j j1 vs) σ H Q →
    tLc2 (tI M X.K Stp wi) (gName j) (tT M X.K wt) (tI M X.K Fk wi1) (gName j1) (tT M X.K wt1) (tE M X.K we) vs [j1] σ H Q := by
  rintro σ H Q ⟨w, ρ, Qd, eh, ev, g, hw, k⟩
  refine ⟨w, ρ, _, eh, ev, g, hw, fun w1 J ds s1 g1 jk q1 Dl hD => ?_⟩
  have nF : ¬ w1.F Dl := fun f => g1.tf Dl f hD
  have nR : Dl ∉ w1.R := r_free g1 hD
  refine ⟨fun i m H' => ∃ (w' : W) (acc : List D) (us : List V), w'.H = H' ∧ m = ds.length - i ∧ i ≤ ds.length ∧ Stp w1 w' ∧ Gd M w' ∧ w'.H Dl = some (.lst us) ∧ ¬ w'.F Dl ∧ Dl ∉ w'.R ∧ DvA X.K w'.F w'.H us acc ∧ lcGo2 wt wi1 wt1 we (wipeE ρ vs) j j1 (ds.drop i) acc w'.c Qd,
    ⟨ds.length, w1.own Dl (.lst []), [], [], rfl, by simp, Nat.zero_le _, stp_own hD, gd_own g1 hD, upd_same, nF, nR, .nil, q1⟩, ?_⟩
  rintro i m H' ⟨w', acc, us, rfl, rfl, hi, s', g', hDl, nf, nr, da, q⟩
  have ev1 := ev.stp s1 g
  have ev' := ev1.stp s' g1
  by_cases hlt : i < ds.length
  · have ed : ds[i]? = some ds[i] := by simp [hlt]
    obtain ⟨jg, jy⟩ := jk.go w' i _ s' g' ed
    refine .inr ⟨jg, fun H2 => ∃ (w2 : W) (acc : List D) (us : List V), w2.H = H2 ∧ Stp w1 w2 ∧ Gd M w2 ∧ w2.H Dl = some (.lst us) ∧ ¬ w2.F Dl ∧ Dl ∉ w2.R ∧ DvA X.K w2.F w2.H us acc ∧ lcGo2 wt wi1 wt1 we (wipeE ρ vs) j j1 (ds.drop (i + 1)) acc w2.c Qd, ?_, fun x H2 y => ?_⟩
    · rintro H2 ⟨w2, acc2, us2, h⟩
      exact ⟨ds.length - (i + 1), by omega, w2, acc2, us2, h.1, rfl, hlt, h.2⟩
    · obtain ⟨w2, rfl, ec, s2, g2, dx⟩ := jy x H2 y
      have q2 : lcGo2 wt wi1 wt1 we (wipeE ρ vs) j j1 (ds[i] :: ds.drop (i + 1)) acc w2.c Qd := by
        rw [ec, ← List.drop_eq_getElem_cons hlt]; exact q
      have keepD : ∀ {wa wb : W} {us : List V}, Stp wa wb → wa.H Dl = some (.lst us) → ¬ wa.F Dl → Dl ∉ wa.R → wb.H Dl = some (.lst us) ∧ ¬ wb.F Dl ∧ Dl ∉ wb.R := fun {wa wb us} s3 h2 f2 n2 =>
        ⟨s3.k _ _ h2 n2, (fun z => (s3.f2 Dl z).elim f2 fun e => (by rw [h2] at e; cases e)), r_up s3 h2 n2⟩
      obtain ⟨hD2, nf2, nr2⟩ := keepD s2 hDl nf nr
      have ev2 := ((ev'.stp s2 g').wipe vs).setIm (i := j) dx
      refine ⟨wipe_set hj, w2, _, _, rfl, ev2, g2, q2, fun w3 b s3 g3 q3 => ?_⟩
      have s13 := (s'.trans s2).trans s3
      obtain ⟨hD3, nf3, nr3⟩ := keepD s3 hD2 nf2 nr2
      have da3 := da.fk ((s2.trans s3).fk g')
      cases b with
      | false => exact iteF ⟨w3, acc, us, rfl, s13, g3, hD3, nf3, nr3, da3, q3⟩
      | true =>
        refine iteT ⟨w3, _, _, rfl, ev2.stp s3 g2, g3, q3, fun w4 J1 es s4 g4 jk1 q4 => ?_⟩
        obtain ⟨hsz, q4⟩ := q4
        obtain ⟨hD4, nf4, nr4⟩ := keepD s4 hD3 nf3 nr3
        have s14 := s13.trans s4
        have da4 := da3.fk (s4.fk g3)
        have dx4 := dx.fk ((s3.trans s4).fk g2)
        refine ⟨fun a m H' => ∃ (w5 : W) (acc5 : List D) (us : List V), w5.H = H' ∧ m = es.length - a ∧ a ≤ es.length ∧ Stp w1 w5 ∧ Fk w4 w5 ∧ Gd M w5 ∧ w5.H Dl = some (.lst us) ∧ ¬ w5.F Dl ∧ Dl ∉ w5.R ∧ DvA X.K w5.F w5.H us acc5 ∧ acc5.length ≤ acc.length + a ∧
            lcIn wt1 we (wipeE ((wipeE ρ vs).set j (.im ds[i])) [j1]) j1 (es.drop a) acc5 w5.c fun acc' c3 => lcGo2 wt wi1 wt1 we (wipeE ρ vs) j j1 (ds.drop (i + 1)) acc' c3 Qd,
          ⟨es.length, w4, acc, us, rfl, by simp, Nat.zero_le _, s14, Fk.refl _, g4, hD4, nf4, nr4, da4, Nat.le_refl _, q4⟩, ?_⟩
        rintro a m H5 ⟨w5, acc5, us5, rfl, rfl, ha, s5, f5, g5, hD5, nf5, nr5, da5, hal, q5⟩
        by_cases hlt1 : a < es.length
        · have ed1 : es[a]? = some es[a] := by simp [hlt1]
          obtain ⟨jg1, jy1⟩ := jk1.go w5 a _ f5 g5 ed1
          refine .inr ⟨jg1, fun H6 => ∃ (w6 : W) (acc6 : List D) (us : List V), w6.H = H6 ∧ Stp w1 w6 ∧ Fk w4 w6 ∧ Gd M w6 ∧ w6.H Dl = some (.lst us) ∧ ¬ w6.F Dl ∧ Dl ∉ w6.R ∧ DvA X.K w6.F w6.H us acc6 ∧ acc6.length ≤ acc.length + (a + 1) ∧
            lcIn wt1 we (wipeE ((wipeE ρ vs).set j (.im ds[i])) [j1]) j1 (es.drop (a + 1)) acc6 w6.c fun acc' c3 => lcGo2 wt wi1 wt1 we (wipeE ρ vs) j j1 (ds.drop (i + 1)) acc' c3 Qd, ?_, fun x1 H6 y1 => ?_⟩
          · rintro H6 ⟨w6, acc6, us6, h⟩
            exact ⟨es.length - (a + 1), by omega, w6, acc6, us6, h.1, rfl, hlt1, h.2⟩
          · obtain ⟨w6, rfl, ec6, s6, g6, dx6⟩ := jy1 x1 H6 y1
            have q6 : lcIn wt1 we (wipeE ((wipeE ρ vs).set j (.im ds[i])) [j1]) j1 (es[a] :: es.drop (a + 1)) acc5 w6.c fun acc' c3 => lcGo2 wt wi1 wt1 we (wipeE ρ vs) j j1 (ds.drop (i + 1)) acc' c3 Qd := by
              rw [ec6, ← List.drop_eq_getElem_cons hlt1]; exact q5
            obtain ⟨hD6, nf6, nr6⟩ := keepD s6 hD5 nf5 nr5
            have s16 := s5.trans s6
            have f46 := f5.trans (s6.fk g5)
            have ev6 := (((((ev1.stp s16 g1).wipe vs).setIm (i := j) (dx4.fk f46))).wipe [j1]).setIm (i := j1) dx6
            refine ⟨wipe_set (List.mem_singleton.mpr rfl), w6, _, _, rfl, ev6, g6, q6, fun w7 b7 s7 g7 q7 => ?_⟩
            obtain ⟨hD7, nf7, nr7⟩ := keepD s7 hD6 nf6 nr6
            have s17 := s16.trans s7
            have f47 := f46.trans (s7.fk g6)
            have da7 := da5.fk ((s6.trans s7).fk g5)
            cases b7 with
            | false => exact iteF ⟨w7, acc5, us5, rfl, s17, f47, g7, hD7, nf7, nr7, da7, by omega, q7⟩
            | true =>
              refine iteT ⟨w7, _, _, rfl, ev6.stp s7 g6, g7, q7, fun w8 v d s8 g8 dv q8 => ?_⟩
              obtain ⟨hD8, nf8, nr8⟩ := keepD s8 hD7 nf7 nr7
              have da8 := da7.fk (s8.fk g7)
              have z : w8.H Dl ≠ none := by rw [hD8]; simp
              refine ⟨us5, hD8, (by rw [sizeLine_eq, da8.length]; omega), ?_⟩
              exact ⟨w8.own Dl (.lst (us5 ++ [v])), acc5 ++ [d], us5 ++ [v], rfl, stp_put (s17.trans s8) hD, (f47.trans (s8.fk g7)).trans (fk_put nf8), gd_put g8 z nr8, upd_same, nf8, nr8,
                (da8.app (.cons dv .nil)).fk (fk_put nf8), by rw [List.length_append]; show acc5.length + 1 ≤ _; omega, q8⟩
        · have e : a = es.length := by omega
          subst e
          rw [List.drop_length] at q5
          exact .inl ⟨jk1.stop w5 _ f5 g5 (Nat.le_refl _), w5, acc5, us5, rfl, s5, g5, hD5, nf5, nr5, da5, q5⟩
  · have e : i = ds.length := by omega
    subst e
    refine .inl ⟨jk.stop w' _ s' g' (Nat.le_refl _), ?_⟩
    rw [List.drop_length] at q
    have hDw : w.H Dl = none := nn s1 hD
    exact k (w'.frz Dl) _ _ (stp_frz (s1.trans s') hDw) (gd_frz g' (by rw [hDl]; simp) nr) (.lst (.inl ⟨.inr rfl, .of hDl⟩) (da.fk fk_frz)) q
section
variable {elt tg iter tg1 iter1 : Expr} {ifs ifs1 : List Expr} {scope : Scope} {own : List (Str × Nat)} {pos : Pos} {wi wi1 : WI} {wt wt1 : WT} {we : WE} {j j1 : Nat}
theorem e_lc2 (hj : j ∈ own.map (·.2)) (hj1 : j1 ∈ own.map (·.2)) (hc : X.calm = true) (hN : X.N.Nodup) (hi : PI X tg iter (tI M X.K Stp wi)) (ok : BlkOk X.N X.env.scope scope own)
    (hg : ∀ (s : Shared) (H : Hp) (C : Addr) (cl : List (Str × Addr)) (fp : List Addr), PG (X.blk s H scope (compEnvC scope cl C X.env) fp) tg (gName j)) (ht : ∀ (s : Shared) (H : Hp) (C : Addr) (cl : List (Str × Addr)) (fp : List Addr), PTs (X.blk s H scope (compEnvC scope cl C X.env) fp) ifs (tT M X.K wt))
    (hi1 : ∀ (s : Shared) (H : Hp) (C : Addr) (cl : List (Str × Addr)) (fp : List Addr), PI (X.blk s H scope (compEnvC scope cl C X.env) fp) tg1 iter1 (tI M X.K Fk wi1))
    (hg1 : ∀ (s : Shared) (H : Hp) (C : Addr) (cl : List (Str × Addr)) (fp : List Addr), PG (X.blk s H scope (compEnvC scope cl C X.env) fp) tg1 (gName j1)) (ht1 : ∀ (s : Shared) (H : Hp) (C : Addr) (cl : List (Str × Addr)) (fp : List Addr), PTs (X.blk s H scope (compEnvC scope cl C X.env) fp) ifs1 (tT M X.K wt1))
    (he : ∀ (s : Shared) (H : Hp) (C : Addr) (cl : List (Str × Addr)) (fp : List Addr), PE (X.blk s H scope (compEnvC scope cl C X.env) fp) elt (tE M X.K we)) (hs : ∀ x, foldedSetIterable iter X.env x = pure x := by intro _; rfl) (hs1 : ∀ env x, foldedSetIterable iter1 env x = pure x := by intro _ _; rfl) :
    PE X (.ListComp elt [⟨tg, iter, ifs, 0⟩, ⟨tg1, iter1, ifs1, 0⟩] scope pos) (tE M X.K (wLc2 wi wt wi1 wt1 we j j1 (own.map (·.2)))) :=
  PE.imp (pe_lc2 (vs1 := [j1]) hc hN hi ok (fun i h => by rw [List.mem_singleton.mp h]; exact hj1) hg ht hi1 hg1 ht1 he hs hs1) (r_lc2 hj)
theorem s_setLc2 {i : Nat} {y : Str} {py spos : Pos} (hj : j ∈ own.map (·.2)) (hj1 : j1 ∈ own.map (·.2)) (hc : X.calm = true) (hN : X.N.Nodup) (hy : X.N[i]? = some y) (hyl : X.env.scope.names.lookup y = some .local) (hi : PI X tg iter (tI M X.K Stp wi)) (ok : BlkOk X.N X.env.scope scope own)
    (hg : ∀ (s : Shared) (H : Hp) (C : Addr) (cl : List (Str × Addr)) (fp : List Addr), PG (X.blk s H scope (compEnvC scope cl C X.env) fp) tg (gName j)) (ht : ∀ (s : Shared) (H : Hp) (C : Addr) (cl : List (Str × Addr)) (fp : List Addr), PTs (X.blk s H scope (compEnvC scope cl C X.env) fp) ifs (tT M X.K wt))
    (hi1 : ∀ (s : Shared) (H : Hp) (C : Addr) (cl : List (Str × Addr)) (fp : List Addr), PI (X.blk s H scope (compEnvC scope cl C X.env) fp) tg1 iter1 (tI M X.K Fk wi1))
    (hg1 : ∀ (s : Shared) (H : Hp) (C : Addr) (cl : List (Str × Addr)) (fp : List Addr), PG (X.blk s H scope (compEnvC scope cl C X.env) fp) tg1 (gName j1)) (ht1 : ∀ (s : Shared) (H : Hp) (C : Addr) (cl : List (Str × Addr)) (fp : List Addr), PTs (X.blk s H scope (compEnvC scope cl C X.env) fp) ifs1 (tT M X.K wt1))
    (he : ∀ (s : Shared) (H : Hp) (C : Addr) (cl : List (Str × Addr)) (fp : List Addr), PE (X.blk s H scope (compEnvC scope cl C X.env) fp) elt (tE M X.K we)) (hsw : swapsWith (.ListComp elt [⟨tg, iter, ifs, 0⟩, ⟨tg1, iter1, ifs1, 0⟩] scope pos) (some (.Name y py)) spos.line X.env = pure true := by rfl) (hs : ∀ x, foldedSetIterable iter X.env x = pure x := by intro _; rfl) (hs1 : ∀ env x, foldedSetIterable iter1 env x = pure x := by intro _ _; rfl) :
    PS X (.Assign [.Name y py] (.ListComp elt [⟨tg, iter, ifs, 0⟩, ⟨tg1, iter1, ifs1, 0⟩] scope pos) spos) (tS M X.K w0 (wSet i (wLc2 wi wt wi1 wt1 we j j1 (own.map (·.2))))) := by
  refine PS.imp (ps_setLc2 (vs1 := [j1]) hc hN hy hyl hsw hi ok (fun i h => by rw [List.mem_singleton.mp h]; exact hj1) hg ht hi1 hg1 ht1 he hs hs1) ?_
  intro D σ H h
  exact r_lc2 hj σ H _ (r_set D σ H h)
end
end
/-! ### calls that look at an object of one's own; what comes back is flat -/
def flatD : D → Bool
  | .none => true
  | .bool _ => true
  | .int _ => true
  | .str _ => true
  | _ => false
theorem flat_any {K : PySem.W.Frag} {P P' : Addr → Prop} {H H' : Hp} {v : V} {d : D} (h : Dv K P H v d) (f : flatD d = true) : Dv K P' H' v d := by
  cases h with
  | non => exact .non
  | bl b => exact .bl b
  | int i => exact .int i
  | str x => exact .str x
  | _ => simp [flatD] at f
/-- with the objects S lent -/
def W.lend (w : W) (S : Addr → Prop) : W := { w with F := fun a => w.F a ∨ S a }
abbrev Lent (w : W) (S : Addr → Prop) : Prop := ∀ a, S a → w.H a ≠ none ∧ ¬ w.F a ∧ a ∉ w.R
def tL (M : MI) (K : PySem.W.Frag) (wg : WG) : TA := fun σ H Q => ∃ (w : W) (ρ : List En) (Qd : List En → Nat → Prop), w.H = H ∧ EnvOk K w σ ρ ∧ Gd M w ∧ wg ρ w.c Qd ∧
  ∀ (w' : W) (vs : List V) (es : List En) (S : Addr → Prop), Stp w w' → Gd M w' → Lent w' S → ArgsOk K (w'.lend S) vs es → Qd es w'.c → Q vs w'.H
section
variable {X : Cx} {M : MI} {e : Expr} {es : List Expr} {we : WE} {wg : WG} {x : Str} {p pos : Pos}
theorem fk_lend {w w' : W} {S : Addr → Prop} (s : Fk w w') : Fk w (w'.lend S) := ⟨fun a f => .inl (s.f1 a f), s.k, s.m⟩
theorem l_nil : PA X [] (tL M X.K gNil) := PA.imp pa_nil fun σ H Q ⟨w, ρ, Qd, eh, ev, g, hw, k⟩ => by
  subst eh
  exact k w [] [] (fun _ => False) (Stp.refl w) g (fun _ h => h.elim) .nil hw
theorem l_im (he : PE X e (tE M X.K we)) (ha : PA X es (tL M X.K wg)) (hs : starEach (e :: es) X.env = (false, eval e X.env) :: starEach es X.env := by rfl) : PA X (e :: es) (tL M X.K (gIm we wg)) := by
  refine PA.imp (pa_cons he ha hs) ?_
  rintro σ H Q ⟨w, ρ, Qd, eh, ev, g, hw, k⟩
  refine ⟨w, ρ, _, eh, ev, g, hw, fun w1 v d s1 g1 dv q1 => ?_⟩
  exact ⟨w1, ρ, _, rfl, ev.stp s1 g, g1, q1, fun w2 vs ds S s2 g2 le dvs q2 => k w2 (v :: vs) _ S (s1.trans s2) g2 le (.im (dv.fk (fk_lend (s2.fk g1))) dvs) q2⟩
theorem l_st {i : Nat} (h : PE X (.Name x pos) (tVar i)) (ha : PA X es (tL M X.K wg)) (hs : starEach (.Name x pos :: es) X.env = (false, eval (.Name x pos) X.env) :: starEach es X.env := by rfl) : PA X (.Name x pos :: es) (tL M X.K (gSt i wg)) := by
  refine PA.imp (pa_cons h ha hs) ?_
  rintro σ H Q ⟨w, ρ, Qd, eh, ev, g, ⟨q, hw⟩, k⟩
  obtain ⟨a, h1, h2⟩ := ev.ok i _ q
  subst eh
  exact ⟨_, h1, w, ρ, _, rfl, ev, g, hw, fun w2 vs ds S s2 g2 le dvs q2 => k w2 _ _ S s2 g2 le (.st (s2.m a h2) dvs) q2⟩
/-- a list of one's own, looked at -/
def gLs (i : Nat) (wg : WG) : WG := fun ρ c Q => ∃ ds, ρ[i]? = some (.ls ds) ∧ wg ρ c fun es c2 => Q (.im (.list ds) :: es) c2
theorem ArgsOk.lend {K : PySem.W.Frag} {w : W} {S S' : Addr → Prop} (h : ∀ a, S a → S' a) : ∀ {vs : List V} {es : List En}, ArgsOk K (w.lend S) vs es → ArgsOk K (w.lend S') vs es
  | _, _, .nil => .nil
  | _, _, .im d r => .im (d.up (fun a f => f.elim .inl fun z => .inr (h a z)) fun _ _ _ e => e) (r.lend h)
  | _, _, .st d r => .st d (r.lend h)
theorem l_ls {i : Nat} (h : PE X (.Name x pos) (tVar i)) (ha : PA X es (tL M X.K wg)) (hs : starEach (.Name x pos :: es) X.env = (false, eval (.Name x pos) X.env) :: starEach es X.env := by rfl) : PA X (.Name x pos :: es) (tL M X.K (gLs i wg)) := by
  refine PA.imp (pa_cons h ha hs) ?_
  rintro σ H Q ⟨w, ρ, Qd, eh, ev, g, ⟨ds, q, hw⟩, k⟩
  obtain ⟨a, us, h1, h2, h3, h4, h5⟩ := ev.ok i _ q
  subst eh
  refine ⟨_, h1, w, ρ, _, rfl, ev, g, hw, fun w2 vs es S s2 g2 le dvs q2 => ?_⟩
  have e2 := s2.k _ _ h2 h4
  refine k w2 _ _ (fun b => S b ∨ b = a) s2 g2 (fun b sb => sb.elim (le b) fun z => ?_) (.im (.lst (.inl ⟨.inr (.inr rfl), .of e2⟩) (h5.fk (fk_lend (s2.fk g)))) (dvs.lend fun b sb => .inl sb)) q2
  subst z
  exact ⟨by rw [e2]; simp, (fun z => (s2.f2 _ z).elim h3 fun n => (by rw [h2] at n; cases n)), r_up s2 h2 h4⟩
def wCallF (f : FW) (wg : WG) : WE := fun ρ c Q => wg ρ c fun es c1 => f es c1 fun d c2 => flatD d = true ∧ Q d c2
theorem e_callF {f : FW} {k j : Nat} (C : CalG X.prog X.w X.K X.mg X.base k x (fnSp M X.K f)) (hr : Room j X.A) (hk : k ≤ j) (gds : X.A.guards = some []) (hg : Gl X x) (ha : PA X (e :: es) (tL M X.K wg))
    (hdb : (x == ("__debug__" : Str)) = false := by decide) (he : starEach (e :: es) X.env = (false, eval e X.env) :: starEach es X.env := by rfl) (hpl : (backTo pos (starEach es X.env)).any (·.1) = false := by rfl) :
    PE X (.Call (.Name x p) (e :: es) [] pos) (tE M X.K (wCallF f wg)) := by
  refine PE.imp (pe_g C hr hk gds hg ha hdb he hpl) ?_
  rintro σ H Q ⟨w, ρ, Qd, eh, ev, g, hw, k⟩
  refine ⟨w, ρ, _, eh, ev, g, hw, fun w1 vs es S s1 g1 le ok q1 => ?_⟩
  show fnSp M X.K f (vs ++ []) w1.H Q E0
  rw [List.append_nil]
  have g1' : Gd M (w1.lend S) := ⟨g1.mi, g1.r0, g1.nz, fun b hb => ⟨(g1.tr b hb).1, fun z => z.elim (g1.tr b hb).2 fun sb => (le b sb).2.2 hb⟩, fun a f => f.elim (g1.tf a) fun sb => (le a sb).1⟩
  refine ⟨w1.lend S, es, _, rfl, g1', ok, q1, fun w2 v d s2 g2 dv q2 => ?_⟩
  refine k { w2 with F := fun a => w2.F a ∧ ¬ S a } v d (s1.trans ?_) ?_ (flat_any dv q2.1) q2.2
  · exact ⟨fun a f => ⟨s2.f1 a (.inl f), fun sa => (le a sa).2.1 f⟩, fun a f => (s2.f2 a f.1).elim (fun z => z.elim .inl fun sa => absurd sa f.2) .inr, s2.k, s2.t, s2.r, s2.m⟩
  · exact ⟨g2.mi, g2.r0, g2.nz, fun b hb => ⟨(g2.tr b hb).1, fun z => (g2.tr b hb).2 z.1⟩, fun a f => g2.tf a f.1⟩
end
end HW

/-! d[k], i // j; new lists of one's own by a slice, by a comprehension -/
namespace HW
open PySem L2
section
variable {X : Cx} {M : MI} {o e i : Expr} {wd wk we : WE} {pos : Pos}
/-- d[k], k in d -/
def wDix (wd wk : WE) : WE := fun ρ c Q => wd ρ c fun d c1 => wk ρ c1 fun y c2 => ∃ kvs k z, d = .dict kvs ∧ keyOf y = some k ∧ lookK kvs k = some z ∧ Q z c2
theorem e_dix (hu : X.A.units + 1 < cLine) (ho : PE X o (tB M X.K wd)) (hi : PE X i (tB M X.K wk)) (hs : NoSl i) : PE X (.Subscript o i pos) (tE M X.K (wDix wd wk)) := by
  refine PE.imp (pe_dget hu ho hi hs) ?_
  rintro σ H Q ⟨w, ρ, Qd, eh, ev, g, hw, kk⟩
  refine ⟨w, ρ, _, eh, ev, g, hw, fun w1 v d s1 g1 bv q1 => ?_⟩
  refine ⟨w1, ρ, _, rfl, ev.stp s1 g, g1, q1, fun w2 y dy s2 g2 by' q2 => ?_⟩
  obtain ⟨kvs, key, z, rfl, e2, e3, q2⟩ := q2
  obtain ⟨a, ks, rfl, h3, h4⟩ := (bv.stp s2 g1).dict
  rcases h4.look (k := key) with ⟨z1, _⟩ | ⟨v', d', z1, z2, z3⟩
  · rw [e3] at z1; cases z1
  · rw [e3] at z1
    cases z1
    refine ⟨a, v', rfl, ?_, kk w2 v' z (s1.trans s2) g2 z3 q2⟩
    rw [kV_of by' e2, ← z2]
    exact dget_rd h3
def fdvD : D → D → Option D
  | .int i, .int j => if 0 < j ∧ j < 1073741824 then some (.int (i / j)) else none
  | _, _ => none
theorem d_fdv {K : PySem.W.Frag} : OpD M K (rI CDiv fun i j => .int (i / j)) fdvD := fun w x y dx dy z Q g hx hy e k => by
  cases dx <;> cases dy <;> simp only [fdvD, reduceCtorEq] at e
  split at e
  · cases e; cases hx.int; cases hy.int
    exact ⟨_, _, rfl, rfl, by assumption, keepQ g (.int _) k⟩
  · cases e
def nSl (we : WE) (wl wu : WO) : WN := fun ρ c Q => we ρ c fun x c1 => wl ρ c1 fun l c2 => wu ρ c2 fun u c3 => ∃ xs, x = .list xs ∧ Q (.ls (cutL xs l u)) c3
theorem n_sl {lo hi : Option Expr} {wl wu : WO} {p2 : Pos} (he : PE X e (tB M X.K we)) (hl : PO X lo (tO M X.K wl)) (hu : PO X hi (tO M X.K wu)) : PE X (.Subscript e (.Slice lo hi none p2) pos) (tN M X.K (nSl we wl wu)) := by
  refine PE.imp (pe_slice sl_list he hl hu) ?_
  rintro σ H Q ⟨w, ρ, Qd, eh, ev, g, hw, k⟩
  refine ⟨w, ρ, _, eh, ev, g, hw, fun w1 x dx s1 g1 bx q1 => ?_⟩
  refine ⟨w1, ρ, _, rfl, ev.stp s1 g, g1, q1, fun w2 l s2 g2 q2 => ?_⟩
  refine ⟨w2, ρ, _, rfl, (ev.stp s1 g).stp s2 g1, g2, q2, fun w3 u s3 g3 q3 => ?_⟩
  obtain ⟨xs, rfl, qz⟩ := q3
  obtain ⟨a, vs, rfl, h1, h2⟩ := ((bx.stp s2 g1).stp s3 g2).seqL
  refine ⟨a, vs, rfl, h1, fun p hp => ?_⟩
  obtain ⟨y1, y2, y3, y4⟩ := new_ls ((s1.trans s2).trans s3) g3 hp (h2.cut l u)
  exact k _ p _ y1 y2 rfl y3 y4 qz
/-- the reading of a comprehension that makes a list of one's own -/
def lcGoN (wt : WT) (we : WE) (ρ : List En) (j : Nat) : List D → List D → Nat → (En → Nat → Prop) → Prop
  | [], acc, c, Q => Q (.ls acc) c
  | d :: r, acc, c, Q => wt (ρ.set j (.im d)) c fun b c1 => if b = true then we (ρ.set j (.im d)) c1 (fun y c2 => lcGoN wt we ρ j r (acc ++ [y]) c2 Q) else lcGoN wt we ρ j r acc c1 Q
def nLc (wi : WI) (wt : WT) (we : WE) (j : Nat) (vs : List Nat) : WN := fun ρ c Q => wi ρ c fun ds c1 => ds.length ≤ 16000000 ∧ lcGoN wt we (wipeE ρ vs) j ds [] c1 Q
theorem r_lcN {wi : WI} {wt : WT} {j : Nat} {vs : List Nat} (hj : j ∈ vs) : ∀ (σ : L2.St) (H : Hp) (Q : VK), tN M X.K (nLc wi wt we j vs) σ H Q → tLc (tI M X.K Stp wi) (gName j) (tT M X.K wt) (tE M X.K we) vs σ H Q := by
  rintro σ H Q ⟨w, ρ, Qd, eh, ev, g, hw, k⟩
  refine ⟨w, ρ, _, eh, ev, g, hw, fun w1 J ds s1 g1 jk q1 Dl hD => ?_⟩
  obtain ⟨hl, q1⟩ := q1
  have nF : ¬ w1.F Dl := fun f => g1.tf Dl f hD
  have nR : Dl ∉ w1.R := r_free g1 hD
  refine ⟨fun i m H' => ∃ (w' : W) (acc : List D) (us : List V), w'.H = H' ∧ m = ds.length - i ∧ i ≤ ds.length ∧ Stp w1 w' ∧ Gd M w' ∧ w'.H Dl = some (.lst us) ∧ ¬ w'.F Dl ∧ Dl ∉ w'.R ∧ DvA X.K w'.F w'.H us acc ∧ acc.length ≤ i ∧ lcGoN wt we (wipeE ρ vs) j (ds.drop i) acc w'.c Qd,
    ⟨ds.length, w1.own Dl (.lst []), [], [], rfl, by simp, Nat.zero_le _, stp_own hD, gd_own g1 hD, upd_same, nF, nR, .nil, Nat.le_refl _, q1⟩, ?_⟩
  rintro i m H' ⟨w', acc, us, rfl, rfl, hi, s', g', hDl, nf, nr, da, hal, q⟩
  have ev' := (ev.stp s1 g).stp s' g1
  by_cases hlt : i < ds.length
  · have ed : ds[i]? = some ds[i] := by simp [hlt]
    obtain ⟨jg, jy⟩ := jk.go w' i _ s' g' ed
    refine .inr ⟨jg, fun H2 => ∃ (w2 : W) (acc : List D) (us : List V), w2.H = H2 ∧ Stp w1 w2 ∧ Gd M w2 ∧ w2.H Dl = some (.lst us) ∧ ¬ w2.F Dl ∧ Dl ∉ w2.R ∧ DvA X.K w2.F w2.H us acc ∧ acc.length ≤ i + 1 ∧ lcGoN wt we (wipeE ρ vs) j (ds.drop (i + 1)) acc w2.c Qd, ?_, fun x H2 y => ?_⟩
    · rintro H2 ⟨w2, acc2, us2, h⟩
      exact ⟨ds.length - (i + 1), by omega, w2, acc2, us2, h.1, rfl, hlt, h.2⟩
    · obtain ⟨w2, rfl, ec, s2, g2, dx⟩ := jy x H2 y
      have q2 : lcGoN wt we (wipeE ρ vs) j (ds[i] :: ds.drop (i + 1)) acc w2.c Qd := by
        rw [ec, ← List.drop_eq_getElem_cons hlt]; exact q
      have keepD : ∀ {w3 : W}, Stp w2 w3 → w3.H Dl = some (.lst us) ∧ ¬ w3.F Dl ∧ Dl ∉ w3.R := fun {w3} s3 => by
        have h2 := s2.k _ _ hDl nr
        have n2 := r_up s2 hDl nr
        have f2 : ¬ w2.F Dl := fun z => (s2.f2 Dl z).elim nf fun e => by rw [hDl] at e; cases e
        exact ⟨s3.k _ _ h2 n2, (fun z => (s3.f2 Dl z).elim f2 fun e => (by rw [h2] at e; cases e)), r_up s3 h2 n2⟩
      refine ⟨wipe_set hj, w2, _, _, rfl, ((ev'.stp s2 g').wipe vs).setIm dx, g2, q2, fun w3 b s3 g3 q3 => ?_⟩
      have s13 := (s'.trans s2).trans s3
      have da3 := da.fk ((s2.trans s3).fk g')
      obtain ⟨h3, f3, n3⟩ := keepD s3
      cases b with
      | true =>
        refine iteT ⟨w3, _, _, rfl, (((ev'.stp s2 g').wipe vs).setIm dx).stp s3 g2, g3, q3, fun w4 v d s4 g4 dv q4 => ?_⟩
        obtain ⟨h4, f4, n4⟩ := keepD (s3.trans s4)
        have da4 := da3.fk (s4.fk g3)
        have z : w4.H Dl ≠ none := by rw [h4]; simp
        refine ⟨us, h4, (by rw [sizeLine_eq, da4.length]; omega), ?_⟩
        exact ⟨w4.own Dl (.lst (us ++ [v])), acc ++ [d], us ++ [v], rfl, stp_put (s13.trans s4) hD, gd_put g4 z n4, upd_same, f4, n4,
          (da4.app (.cons dv .nil)).fk (fk_put f4), by rw [List.length_append]; show acc.length + 1 ≤ i + 1; omega, q4⟩
      | false => exact iteF ⟨w3, acc, us, rfl, s13, g3, h3, f3, n3, da3, by omega, q3⟩
  · have e : i = ds.length := by omega
    subst e
    refine .inl ⟨jk.stop w' _ s' g' (Nat.le_refl _), ?_⟩
    rw [List.drop_length] at q
    have hDw : w.H Dl = none := nn s1 hD
    exact k w' Dl (.ls acc) (s1.trans s') g' rfl ⟨Dl, us, rfl, hDl, nf, nr, da⟩ (fun a sa => sa.elim (fun z => z ▸ hDw) fun ⟨_, _, _, z, _⟩ => by cases z) q
theorem n_lc {elt tg iter : Expr} {ifs : List Expr} {scope : Scope} {own : List (Str × Nat)} {wi : WI} {wt : WT} {j : Nat} (hj : j ∈ own.map (·.2)) (hc : X.calm = true) (hN : X.N.Nodup) (hi : PI X tg iter (tI M X.K Stp wi)) (ok : BlkOk X.N X.env.scope scope own)
    (hg : ∀ (s : Shared) (H : Hp) (C : Addr) (cl : List (Str × Addr)) (fp : List Addr), PG (X.blk s H scope (compEnvC scope cl C X.env) fp) tg (gName j)) (ht : ∀ (s : Shared) (H : Hp) (C : Addr) (cl : List (Str × Addr)) (fp : List Addr), PTs (X.blk s H scope (compEnvC scope cl C X.env) fp) ifs (tT M X.K wt))
    (he : ∀ (s : Shared) (H : Hp) (C : Addr) (cl : List (Str × Addr)) (fp : List Addr), PE (X.blk s H scope (compEnvC scope cl C X.env) fp) elt (tE M X.K we)) (hs : ∀ x, foldedSetIterable iter X.env x = pure x := by intro _; rfl) :
    PE X (.ListComp elt [⟨tg, iter, ifs, 0⟩] scope pos) (tN M X.K (nLc wi wt we j (own.map (·.2)))) := PE.imp (pe_lc hc hN hi ok hg ht he hs) (r_lcN hj)
end
end HW

/-! the draws -/
namespace HW
open PySem L2
def dI (xs : List Int) : List D := xs.map .int
/-- the draws' state: its cells, what is left, the count -/
structure Sv (H : Hp) (a c1 l : Addr) (cs ls : List Int) (k : Nat) (sm : Int) : Prop where
  hm : H a = some (.dK [(.inr "cells", .ref c1), (.inr "great", .ref l), (.inr "turn", .int k), (.inr "sum", .int sm)])
  hc : H c1 = some (.lst (cs.map V.int))
  hl : H l = some (.lst (ls.map V.int))
  hn : c1 ≠ l
theorem Sv.up {H H' : Hp} {a c1 l : Addr} {cs ls : List Int} {k : Nat} {sm : Int} (h : Sv H a c1 l cs ls k sm) (u : ∀ b ∈ [a, c1, l], H' b = H b) : Sv H' a c1 l cs ls k sm :=
  ⟨(u _ (by simp)).trans h.hm, (u _ (by simp)).trans h.hc, (u _ (by simp)).trans h.hl, h.hn⟩
theorem Sv.ac {H : Hp} {a c1 l : Addr} {cs ls : List Int} {k : Nat} {sm : Int} (h : Sv H a c1 l cs ls k sm) : a ≠ c1 := fun z => by have := h.hm; rw [z, h.hc] at this; cases this
theorem Sv.al {H : Hp} {a c1 l : Addr} {cs ls : List Int} {k : Nat} {sm : Int} (h : Sv H a c1 l cs ls k sm) : a ≠ l := fun z => by have := h.hm; rw [z, h.hl] at this; cases this
def MD : MI := ⟨fun H a c R => ∃ c1 l cs ls k sm, R = [a, c1, l] ∧ Sv H a c1 l cs ls k sm ∧ k ≤ c ∧ 0 < cs.length, fun {H H' a c R} ⟨c1, l, cs, ls, k, sm, e, s, h⟩ u => ⟨c1, l, cs, ls, k, sm, e, s.up fun b hb => u b (by rw [e]; exact hb), h⟩, False⟩
def M0 : MI := ⟨fun _ _ _ _ => True, fun _ _ => True.intro, False⟩
def stD (cs ls : List Int) (k : Nat) (sm : Int) : D := .dict [(.str "cells", .list (dI cs)), (.str "great", .list (dI ls)), (.str "turn", .int k), (.str "sum", .int sm)]
/-- within the def: where its state stands, and its slots -/
structure At (K : PySem.W.Frag) (w0 : W) (a c1 : Addr) (σ : L2.St) (H : Hp) (ρ : List En) (l : Addr) (cs ls : List Int) (k : Nat) (sm : Int) : Prop where
  sv : Sv H a c1 l cs ls k sm
  len : σ.length = ρ.length
  s0 : σ[0]? = some (some (.ref a))
  r0 : ρ[0]? = some .un
  sl : ∀ (i : Nat) (e : En), ρ[i]? = some e → e = .un ∨ ∃ (d : D) (v : V), e = .im d ∧ flatD d = true ∧ σ[i]? = some (some v) ∧ ∀ P H, Dv K P H v d
  keep : ∀ b o, w0.H b = some o → b ∉ w0.R → H b = some o
  live : ∀ b, w0.H b ≠ none → H b ≠ none
  l0 : l ∈ w0.R ∨ w0.H l = none
  ra : a ∈ w0.R
section
variable {K : PySem.W.Frag} {w0 : W} {a c1 l : Addr} {σ : L2.St} {H H' : Hp} {ρ : List En} {cs ls : List Int} {k : Nat} {sm : Int}
theorem At.up (h : At K w0 a c1 σ H ρ l cs ls k sm) (u : ∀ b o, H b = some o → H' b = some o) : At K w0 a c1 σ H' ρ l cs ls k sm where
  sv := ⟨u _ _ h.sv.hm, u _ _ h.sv.hc, u _ _ h.sv.hl, h.sv.hn⟩
  len := h.len
  s0 := h.s0
  r0 := h.r0
  sl := h.sl
  keep := fun b o e r => u _ _ (h.keep b o e r)
  live := fun b e => by
    cases q : H b with
    | none => exact absurd q (h.live b e)
    | some o => rw [u _ _ q]; simp
  l0 := h.l0
  ra := h.ra
/-- the state lent -/
def wl (a c1 l : Addr) (H : Hp) : W := ⟨fun b => b = a ∨ b = c1 ∨ b = l, [], H, 0, none⟩
theorem dvk_st (h : Sv H a c1 l cs ls k sm) : Dv K (wl a c1 l H).F H (.ref a) (stD cs ls k sm) := by
  have li : ∀ (b : Addr) (xs : List Int), (wl a c1 l H).F b → H b = some (.lst (xs.map V.int)) → Dv K (wl a c1 l H).F H (.ref b) (.list (dI xs)) := fun b xs f e => .lst (.inl ⟨f, .of e⟩) (DvA.of_ints xs)
  exact .dic (.inl rfl) (.inl h.hm) (.cons (k := .inr "cells") (li _ _ (.inr (.inl rfl)) h.hc) (.cons (k := .inr "great") (li _ _ (.inr (.inr rfl)) h.hl) (.cons (k := .inr "turn") (.int _) (.cons (k := .inr "sum") (.int _) .nil))))
theorem At.env (h : At K w0 a c1 σ H ρ l cs ls k sm) : EnvOk K (wl a c1 l H) σ (ρ.set 0 (.im (stD cs ls k sm))) := by
  have at' : ∀ i e, (ρ.set 0 (.im (stD cs ls k sm)))[i]? = some e → (i = 0 ∧ e = .im (stD cs ls k sm)) ∨ ρ[i]? = some e := fun i e q => by
    by_cases z : 0 = i
    · subst z
      rw [List.getElem?_set] at q
      simp at q
      exact .inl ⟨rfl, q.2.symm⟩
    · rw [List.getElem?_set_ne z] at q
      exact .inr q
  refine ⟨by rw [List.length_set]; exact h.len, fun i e q => ?_, fun i j b o1 _ => ?_⟩
  · rcases at' i e q with ⟨rfl, rfl⟩ | q
    · exact ⟨_, h.s0, dvk_st h.sv⟩
    · rcases h.sl i e q with rfl | ⟨d, v, rfl, _, e1, e2⟩
      · exact True.intro
      · exact ⟨v, e1, e2 _ _⟩
  · obtain ⟨p, e, _, q, hm, _⟩ := o1
    rcases at' i e q with ⟨rfl, rfl⟩ | q
    · cases hm
    · rcases h.sl i e q with rfl | ⟨d, v, rfl, _⟩ <;> cases hm
theorem At.gd (h : At K w0 a c1 σ H ρ l cs ls k sm) : Gd M0 (wl a c1 l H) := by
  refine ⟨fun _ e => True.intro, fun _ => rfl, fun z => z.elim, fun b hb => ?_, fun b f => ?_⟩
  · exact absurd (show b ∈ ([] : List Addr) from hb) (by simp)
  · rcases (show b = a ∨ b = c1 ∨ b = l from f) with rfl | rfl | rfl
    · show H _ ≠ none; rw [h.sv.hm]; simp
    · show H _ ≠ none; rw [h.sv.hc]; simp
    · show H _ ≠ none; rw [h.sv.hl]; simp
theorem At.next (h : At K w0 a c1 σ H ρ l cs ls k sm) {w' : W} (s : Stp (wl a c1 l H) w') : At K w0 a c1 σ w'.H ρ l cs ls k sm := h.up fun b o e => s.k b o e fun z => absurd (show b ∈ ([] : List Addr) from z) (by simp)
theorem At.E {we : WE} {Q : VK} {Qd : D → Nat → Prop} (h : At K w0 a c1 σ H ρ l cs ls k sm) (q : we (ρ.set 0 (.im (stD cs ls k sm))) 0 Qd)
    (kk : ∀ H' v d c, At K w0 a c1 σ H' ρ l cs ls k sm → (flatD d = true → ∀ P H2, Dv K P H2 v d) → Qd d c → Q v H') : tE M0 K we σ H Q :=
  ⟨wl a c1 l H, _, Qd, rfl, h.env, h.gd, q, fun w' v d s g dv qd => kk _ v d _ (h.next s) (fun f P H2 => flat_any dv f) qd⟩
theorem At.T {wt : WT} {Q : Bool → Hp → Prop} {Qd : Bool → Nat → Prop} (h : At K w0 a c1 σ H ρ l cs ls k sm) (q : wt (ρ.set 0 (.im (stD cs ls k sm))) 0 Qd)
    (kk : ∀ H' b c, At K w0 a c1 σ H' ρ l cs ls k sm → Qd b c → Q b H') : tT M0 K wt σ H Q :=
  ⟨wl a c1 l H, _, Qd, rfl, h.env, h.gd, q, fun w' b s g qd => kk _ b _ (h.next s) qd⟩
theorem At.N {wn : WN} {Q : VK} {xs : List Int} (h : At K w0 a c1 σ H ρ l cs ls k sm) (q : wn (ρ.set 0 (.im (stD cs ls k sm))) 0 fun en _ => en = .ls (dI xs))
    (kk : ∀ H' p, At K w0 a c1 σ H' ρ l cs ls k sm → H p = none → H' p = some (.lst (xs.map V.int)) → Q (.ref p) H') : tN M0 K wn σ H Q :=
  ⟨wl a c1 l H, _, _, rfl, h.env, h.gd, q, fun w' p en s g hm he fr qd => by
    subst qd
    obtain ⟨p', vs, e1, e2, _, _, e5⟩ := he
    cases e1
    have e6 := e5.ints
    subst e6
    exact kk _ _ (h.next s) (fr _ (.inl rfl)) e2⟩
theorem At.set {i : Nat} {d : D} {v : V} (h : At K w0 a c1 σ H ρ l cs ls k sm) (hi : i ≠ 0) (f : flatD d = true) (hv : ∀ P H, Dv K P H v d) : At K w0 a c1 (σ.set i (some v)) H (ρ.set i (.im d)) l cs ls k sm where
  sv := h.sv
  len := by rw [List.length_set, List.length_set]; exact h.len
  s0 := by rw [List.getElem?_set_ne hi]; exact h.s0
  r0 := by rw [List.getElem?_set_ne hi]; exact h.r0
  sl := fun j e q => by
    by_cases z : i = j
    · subst z
      rw [List.getElem?_set] at q
      simp at q
      obtain ⟨q1, q2⟩ := q
      exact .inr ⟨d, v, q2.symm, f, by rw [List.getElem?_set_self (by rw [h.len]; exact q1)], hv⟩
    · rw [List.getElem?_set_ne z] at q ⊢
      exact h.sl j e q
  keep := h.keep
  live := h.live
  l0 := h.l0
  ra := h.ra
end
/-- n is drawn -/
def nextW : FW := fun es c Q => ∃ t : Int, es = [.st, .im (.int t)] ∧ 0 < t ∧ t < 2 ^ 200 ∧ c < 2 ^ 60 ∧ ∀ n : Int, 0 ≤ n → n < t → Q (.int n) (c + 1)
theorem o_len {X : Cx} : CallR X (.builtin "len") (rLen X.K) := callR_or call_len_seq (callR_or call_len_str len_rd)
theorem fltA_dI : ∀ xs : List Int, fltA (dI xs) = true
  | [] => rfl
  | x :: r => by show (flt (.int x) && fltA (dI r)) = true; rw [fltA_dI r]; rfl
theorem layA_dI : ∀ xs : List Int, PyData.canLayAll0 (dI xs) = true
  | [] => rfl
  | x :: r => by show (PyData.canLay0 (.int x) && PyData.canLayAll0 (dI r)) = true; rw [layA_dI r]; rfl
theorem depA_dI : ∀ xs : List Int, PyData.depthAll (dI xs) = 0
  | [] => rfl
  | x :: r => by show max (PyData.depth (.int x)) (PyData.depthAll (dI r)) = 0; rw [depA_dI r]; rfl
theorem shaped_dI (xs : List Int) : SeqAt.shaped (.list (dI xs)) = true := by
  show (PyData.canLayAll0 (dI xs) && decide (PyData.depthAll (dI xs) + 1 ≤ 64)) = true
  rw [layA_dI, depA_dI]
  rfl
theorem ne_nilD (xs : List Int) : neD (.list (dI xs)) (.list []) = some (.bool (!xs.isEmpty)) := by
  unfold neD
  rw [if_pos ⟨fltA_dI xs, rfl, shaped_dI xs, rfl⟩]
  cases xs <;> rfl
theorem eq_intD (i j : Int) : eqD (.int i) (.int j) = some (.bool (i == j)) := by
  unfold eqD
  rw [if_pos ⟨rfl, rfl, rfl, rfl⟩]
  rfl
theorem Sv.put {H : Hp} {a c1 l p : Addr} {cs ls xs : List Int} {k : Nat} {sm : Int} (h : Sv H a c1 l cs ls k sm) (hp : H p = some (.lst (xs.map V.int))) (hc : c1 ≠ p) : Sv (upd H a (.dK (putK [(.inr "cells", .ref c1), (.inr "great", .ref l), (.inr "turn", .int k), (.inr "sum", .int sm)] (.inr "great") (.ref p)))) a c1 p cs xs k sm where
  hm := by rw [upd_same]; rfl
  hc := by rw [upd_ne (Ne.symm h.ac)]; exact h.hc
  hl := by
    rw [upd_ne]
    · exact hp
    · intro z
      have := h.hm
      rw [← z, hp] at this
      cases this
  hn := hc
theorem Sv.at' {H : Hp} {a c1 l : Addr} {cs ls : List Int} {k : Nat} {sm : Int} (h : Sv H a c1 l cs ls k sm) : Sv (upd H a (.dK (putK [(.inr "cells", .ref c1), (.inr "great", .ref l), (.inr "turn", .int k), (.inr "sum", .int sm)] (.inr "turn") (.int ((k + 1 : Nat) : Int))))) a c1 l cs ls (k + 1) sm where
  hm := by rw [upd_same]; rfl
  hc := by rw [upd_ne (Ne.symm h.ac)]; exact h.hc
  hl := by rw [upd_ne (Ne.symm h.al)]; exact h.hl
  hn := h.hn
theorem Sv.sum' {H : Hp} {a c1 l : Addr} {cs ls : List Int} {k : Nat} {sm z : Int} (h : Sv H a c1 l cs ls k sm) : Sv (upd H a (.dK (putK [(.inr "cells", .ref c1), (.inr "great", .ref l), (.inr "turn", .int k), (.inr "sum", .int sm)] (.inr "sum") (.int z)))) a c1 l cs ls k z where
  hm := by rw [upd_same]; rfl
  hc := by rw [upd_ne (Ne.symm h.ac)]; exact h.hc
  hl := by rw [upd_ne (Ne.symm h.al)]; exact h.hl
  hn := h.hn
theorem Sv.first {H : Hp} {a c1 l : Addr} {cs r : List Int} {x y : Int} {k : Nat} {sm : Int} (h : Sv H a c1 l cs (x :: r) k sm) : Sv (upd H l (.lst ((.int y :: r.map V.int)))) a c1 l cs (y :: r) k sm where
  hm := by rw [upd_ne h.al]; exact h.hm
  hc := by rw [upd_ne h.hn]; exact h.hc
  hl := by rw [upd_same]; rfl
  hn := h.hn
theorem w_key {ρ : List En} {cs ls : List Int} {k : Nat} {sm : Int} {x : Str} {z : D} {c : Nat} {Q : D → Nat → Prop} (hr : ρ[0]? = some .un) (hl : lookK [(PyData.str "cells", PyData.list (dI cs)), (.str "great", .list (dI ls)), (.str "turn", .int k), (.str "sum", .int sm)] (.inr x) = some z) (q : Q z c) : wDix (wLook 0) (wC (.str x)) (ρ.set 0 (.im (stD cs ls k sm))) c Q :=
  ⟨.im (stD cs ls k sm), _, List.getElem?_set_self (List.getElem?_eq_some_iff.mp hr).1, rfl, _, .inr x, z, rfl, rfl, hl, q⟩
theorem w_left {ρ : List En} {cs ls : List Int} {k c : Nat} {sm : Int} {Q : D → Nat → Prop} (hr : ρ[0]? = some .un) (q : Q (.list (dI ls)) c) : wDix (wLook 0) (wC (.str "great")) (ρ.set 0 (.im (stD cs ls k sm))) c Q := w_key hr rfl q
theorem w_cells {ρ : List En} {cs ls : List Int} {k c : Nat} {sm : Int} {Q : D → Nat → Prop} (hr : ρ[0]? = some .un) (q : Q (.list (dI cs)) c) : wDix (wLook 0) (wC (.str "cells")) (ρ.set 0 (.im (stD cs ls k sm))) c Q := w_key hr rfl q
theorem w_sum {ρ : List En} {cs ls : List Int} {k c : Nat} {sm : Int} {Q : D → Nat → Prop} (hr : ρ[0]? = some .un) (q : Q (.int sm) c) : wDix (wLook 0) (wC (.str "sum")) (ρ.set 0 (.im (stD cs ls k sm))) c Q := w_key hr rfl q
theorem w_at {ρ : List En} {cs ls : List Int} {k c : Nat} {sm : Int} {Q : D → Nat → Prop} (hr : ρ[0]? = some .un) (q : Q (.int k) c) : wDix (wLook 0) (wC (.str "turn")) (ρ.set 0 (.im (stD cs ls k sm))) c Q := w_key hr rfl q
section
variable {K : PySem.W.Frag} {w0 : W} {a c1 l : Addr} {σ : L2.St} {H H' : Hp} {ρ : List En} {cs ls : List Int} {k : Nat} {sm : Int}
theorem At.change {o : HO} {b l' : Addr} {ls' : List Int} {k' : Nat} {sm' : Int} (h : At K w0 a c1 σ H ρ l cs ls k sm) (hb : b ∈ w0.R ∨ w0.H b = none) (hl : l' ∈ w0.R ∨ w0.H l' = none) (sv : Sv (upd H b o) a c1 l' cs ls' k' sm') : At K w0 a c1 σ (upd H b o) ρ l' cs ls' k' sm' where
  sv := sv
  len := h.len
  s0 := h.s0
  r0 := h.r0
  sl := h.sl
  keep := fun d u e r => by
    have ne : d ≠ b := fun z => by
      rcases hb with y | y
      · exact r (z ▸ y)
      · rw [z, y] at e; cases e
    rw [upd_ne ne]
    exact h.keep d u e r
  live := fun d e => upd_some (h.live d e)
  l0 := hl
  ra := h.ra
theorem At.putL {p : Addr} {xs : List Int} (h : At K w0 a c1 σ H' ρ l cs ls k sm) (h0 : w0.H p = none) (hp : H' p = some (.lst (xs.map V.int))) (hn : c1 ≠ p) : At K w0 a c1 σ (upd H' a (.dK (putK [(.inr "cells", .ref c1), (.inr "great", .ref l), (.inr "turn", .int k), (.inr "sum", .int sm)] (.inr "great") (.ref p)))) ρ p cs xs k sm :=
  h.change (.inl h.ra) (.inr h0) (h.sv.put hp hn)
theorem At.putAt (h : At K w0 a c1 σ H ρ l cs ls k sm) : At K w0 a c1 σ (upd H a (.dK (putK [(.inr "cells", .ref c1), (.inr "great", .ref l), (.inr "turn", .int k), (.inr "sum", .int sm)] (.inr "turn") (.int ((k + 1 : Nat) : Int))))) ρ l cs ls (k + 1) sm :=
  h.change (.inl h.ra) h.l0 h.sv.at'
theorem At.putSum {z : Int} (h : At K w0 a c1 σ H ρ l cs ls k sm) : At K w0 a c1 σ (upd H a (.dK (putK [(.inr "cells", .ref c1), (.inr "great", .ref l), (.inr "turn", .int k), (.inr "sum", .int sm)] (.inr "sum") (.int z)))) ρ l cs ls k z :=
  h.change (.inl h.ra) h.l0 h.sv.sum'
theorem At.put0 {x y : Int} {r : List Int} (h : At K w0 a c1 σ H ρ l cs (x :: r) k sm) : At K w0 a c1 σ (upd H l (.lst (.int y :: r.map V.int))) ρ l cs (y :: r) k sm :=
  h.change h.l0 h.l0 h.sv.first
end
theorem ix0 (x : Int) (r : List Int) : ixD (.list (dI (x :: r))) (.int 0) = some (.int x) := by
  show (ixN (dI (x :: r)).length 0).bind (fun j => (dI (x :: r))[j]?) = _
  unfold ixN
  rw [if_pos (by omega), if_pos (by show (0 : Int) < ((dI (x :: r)).length : Nat); simp [dI])]
  rfl
theorem ix_any (xs : List Int) {i : Int} (h0 : 0 ≤ i) (h1 : i < xs.length) : ∃ y, ixD (.list (dI xs)) (.int i) = some (.int y) := by
  have hl : (dI xs).length = xs.length := by simp [dI]
  show ∃ y, (ixN (dI xs).length i).bind (fun j => (dI xs)[j]?) = _
  unfold ixN
  rw [if_pos h0, if_pos (by rw [hl]; exact h1)]
  have h2 : i.toNat < xs.length := by omega
  exact ⟨xs[i.toNat], by simp [dI, h2]⟩
theorem cut1 (ls : List Int) (h : ls ≠ []) : cutL (dI ls) (some 1) none = dI (ls.drop 1) := by
  cases ls with
  | nil => exact absurd rfl h
  | cons x r =>
    unfold cutL HT.sIx
    simp [dI]
    exact List.take_of_length_le (by simp)
theorem mod_i {i j : Int} (h : 0 < j) : modD (.int i) (.int j) = some (.int (i % j)) := if_pos h
theorem fdv_i {i j : Int} (h : 0 < j) (h1 : j < 1073741824) : fdvD (.int i) (.int j) = some (.int (i / j)) := if_pos ⟨h, h1⟩
theorem mul_l {i j : Int} (h : -(2 ^ 64) < i ∧ i < 2 ^ 64) : mulD (.int i) (.int j) = some (.int (i * j)) := if_pos (.inl h)
theorem mul_r {i j : Int} (h : -(2 ^ 64) < j ∧ j < 2 ^ 64) : mulD (.int i) (.int j) = some (.int (i * j)) := if_pos (.inr h)
theorem ixN0 {n : Nat} (h : 0 < n) : ixN n 0 = some 0 := by
  unfold ixN
  rw [if_pos (by omega), if_pos (by omega)]
  rfl
theorem pow_i {i j : Int} (h : 0 ≤ j ∧ j ≤ 1000000 ∧ i.natAbs < 2 ^ 64) : powD (.int i) (.int j) = some (.int (i ^ j.toNat)) := if_pos h
end HW

/-! the law's own call, where nothing is being shown -/
namespace HW
open PySem L2 PySem.Spec PyProof.Rows
theorem law_callG {P : Program} {w : World} {K : PySem.W.Frag} {mg mb : Str → Option Value} {k : Nat} {fa a : Addr} {fd : FuncData} {x : Str} {sp : Sp} {t : Shared} {us : List Value} {ns : List Int}
    (inK : K.In t.heap) (nsM : t.heap.Ns mainGlobals mg) (nsB : t.heap.Ns builtinsNs mb) (boot : ∀ x : Str, x ≠ "__name__" → mb x = bootBuiltins x) (noLim : t.heap.NoLimit) (noGen : t.gens = #[])
    (at_a : t.heap.get? a = some { cls := .type "list", data := .seq us.toArray }) (intsA : IntsAre us ns) (len : ns.length ≤ sizeLine) (room : Room k callerA)
    (F : ∀ base : Heap, K.In base → base.Ns mainGlobals mg → FnG P w K mg base CX0 k fa fd [x] sp) (bind : ∀ (s : Shared) (u : Value), BindsTo s fd ⟨[u], []⟩ [(x, u)])
    (want : ∀ T : Hp, Only T → SqL K T a (ns.map V.int) → sp [.ref a] T (fun v _ => v = .bl true) fun _ _ _ => False) :
    codeAny (model P w) callerA (.call (.ref fa) ⟨[.ref a], []⟩) (fun r s' => r = .ok (.ret (.bool true)) ∧ OldK t.heap s'.heap ∧ s'.os = t.os ∧ AllBare s'.gens) t := by
  have vi := vals_ints intsA
  have li := intsA.length
  have go : ∀ T : Hp, Only T → SqL K T a (ns.map V.int) → HOk P w T t.heap → (∀ b, T b ≠ none → b = a) → (T a ≠ none → K.lookup a = none) →
      codeAny (model P w) callerA (.call (.ref fa) ⟨[.ref a], []⟩) (fun r s' => r = .ok (.ret (.bool true)) ∧ OldK t.heap s'.heap ∧ s'.os = t.os ∧ AllBare s'.gens) t := by
    intro T only sq hok one free
    have stays : ∀ {b : Addr} {o : Obj}, t.heap.get? b = some o → T b = none → (hidT t.heap T).get? b = some o := fun e n => hidT_get e n
    have dicts : ∀ {b : Addr} {o : Obj} {es : Array DictEntry} {ep : Nat}, t.heap.get? b = some o → o.data = .dict es ep → T b = none := by
      intro b o es ep e d
      by_cases q : T b = none
      · exact q
      · have eb := one b q
        subst eb
        rw [at_a] at e
        cases e
        exact absurd d (by intro z; cases z)
    have nss : ∀ {b : Addr} {m : Str → Option Value}, t.heap.Ns b m → (hidT t.heap T).Ns b m := by
      rintro b m ⟨o, es, ep, e, d, r⟩
      exact ⟨o, es, ep, stays e (dicts e d), d, r⟩
    have kIn : K.In (hidT t.heap T) := by
      intro b o e
      refine stays (inK b o e) ?_
      by_cases q : T b = none
      · exact q
      · have eb := one b q
        subst eb
        rw [free q] at e
        cases e
    obtain ⟨mc, l1, l2⟩ := noLim
    have md : Mod K mg (hidT t.heap T) := ⟨kIn, nss nsM, ⟨mb, nss nsB, boot⟩, mc, nss l1, l2⟩
    have env : Env0 P w K mg (hidT t.heap T) callerA [] t T :=
      ⟨rfl, md, fun b o e => of_hidT e, Nat.le_of_eq (hidT_size _ _), trivial, fun b hb => absurd (show b ∈ ([] : List Addr) from hb) (by simp), hok, .of_eq noGen⟩
    have run := (F _ kIn (nss nsM)).run callerA [] t T ⟨[.ref a], []⟩ [.ref a] [.ref a] _ _ rfl room env (bind t (.ref a)) (.cons rfl .nil) (want T only sq)
    refine codeAny_mono run fun r s' h => ?_
    cases r with
    | error e => exact False.elim h
    | ok fl =>
      cases fl with
      | ret u =>
        obtain ⟨v, T', os, bare, un, hok', rv, q⟩ := h
        obtain rfl : v = .bl true := q
        obtain rfl : u = Value.bool true := rv
        refine ⟨rfl, OldK.of_keep fun b o e => ?_, os, bare⟩
        by_cases q : T b = none
        · exact un.keep b o e q (fun z => absurd (show b ∈ ([] : List Addr) from z) (by simp)) (by simp)
        · rcases only b with z | ⟨ob, xs, z⟩
          · exact absurd z q
          · obtain ⟨e1, _⟩ := hok b _ z
            obtain ⟨e2, _⟩ := hok' b _ (un.frzs b ob _ z)
            rw [e] at e1
            cases e1
            exact e2
      | next => exact False.elim h
      | brk => exact False.elim h
      | cont => exact False.elim h
  by_cases hk : K.lookup a = none
  · refine go (fun b => if b = a then some (.frz { cls := .type "list", data := .seq us.toArray } (.lst (ns.map V.int))) else none) (fun b => ?_) (.inl (.inr ⟨_, if_pos rfl⟩)) (fun b u z => ?_) (fun b z => ?_) fun _ => hk
    · by_cases q : b = a
      · exact .inr ⟨_, _, if_pos q⟩
      · exact .inl (if_neg q)
    · by_cases q : b = a
      · have y := (if_pos q).symm.trans z
        cases y
        subst q
        exact ⟨at_a, (by rw [List.length_map]; exact len), us, _, vi, at_a⟩
      · have y := (if_neg q).symm.trans z
        cases y
    · by_cases q : b = a
      · exact q
      · exact absurd (if_neg q) z
  · obtain ⟨o, hk⟩ := Option.ne_none_iff_exists'.mp hk
    have e := inK a o hk
    rw [at_a] at e
    cases e
    exact go (fun _ => none) (fun _ => .inl rfl) (.inr ⟨_, us.toArray, _, hk, rfl, rfl, rfl, (by rw [List.size_toArray, li]; exact len), (by simpa using vi)⟩) (fun b u z => by cases z) (fun b z => absurd rfl z) fun z => absurd rfl z
theorem walkG {l : PySem.W.OpenLaw} {n k : Nat} {q : Program} {loose : List Str} {XP : (Str → Option Value) → Heap → Prop} {YP : World → Heap → Prop} {d : DefRec} {K : Params → PySem.W.Frag} {sp : PySem.W.Frag → Sp} {x : Str}
    (hn : l.most = some n) (small : n ≤ sizeLine) (nodf : d.params.defaults = []) (room : Room k callerA) (isIn : ∀ (w : World) (h : Heap), YP w h → (K w.params).In h)
    (F : ∀ (w : World) (mg : Str → Option Value) (fa : Addr) (h : Heap), (K w.params).In h → h.Ns mainGlobals mg → mg d.name = some (.ref fa) → ∃ fd : FuncData, (∀ (s : Shared) (u : Value), BindsTo s fd ⟨[u], []⟩ [(x, u)]) ∧
      ∀ base : Heap, (K w.params).In base → base.Ns mainGlobals mg → FnG l.prog w (K w.params) mg base CX0 k fa fd [x] (sp (K w.params)))
    (want : ∀ (K : PySem.W.Frag) (T : Hp) (a : Addr) (ns : List Int), ns.length ≤ n → Only T → SqL K T a (ns.map V.int) → sp K [.ref a] T (fun v _ => v = .bl true) fun _ _ _ => False) :
    PySem.W.WalkO q loose XP YP l.row.toRowW d [] (fun f vs => PySem.call f vs) := by
  refine Att.attach_call hn nodf fun w s₀ t mg mb fa o pm cd doc a us ns G Y _ _ _ hm at_a intsA len noGen => ?_
  have inK := isIn w _ Y
  obtain ⟨fd, hb, hF⟩ := F w mg fa _ inK G.T.g hm
  exact law_callG inK G.T.g G.T.b G.T.builtins G.T.nolimit noGen at_a intsA (Nat.le_trans len small) room hF hb fun T hO hS => want _ T a ns len hO hS
/-- the law's promise -/
def lawSp (K : PySem.W.Frag) : Sp := fun vs H Q _ => ∃ (v : V) (ns : List Int) (w : W), vs = [v] ∧ w.H = H ∧ w.mo = none ∧ w.c = 0 ∧ Gd MD w ∧ Dv K w.F w.H v (.list (dI ns)) ∧ ns.length ≤ 63 ∧ ∀ H', Q (.bl true) H'
theorem law_start {K : PySem.W.Frag} {T : Hp} {a : Addr} {ns : List Int} (h : ns.length ≤ 63) (sq : SqL K T a (ns.map V.int)) : lawSp K [.ref a] T (fun v _ => v = .bl true) fun _ _ _ => False := by
  refine ⟨.ref a, ns, ⟨fun b => T b ≠ none, [], T, 0, none⟩, rfl, rfl, rfl, rfl, ⟨fun b e => (by cases e), fun _ => rfl, fun z => z.elim, fun b hb => ?_, fun b f => f⟩, ?_, h, fun _ => rfl⟩
  · exact absurd (show b ∈ ([] : List Addr) from hb) (by simp)
  · refine .lst ?_ (DvA.of_ints ns)
    rcases sq with z | z
    · refine .inl ⟨?_, z⟩
      show T a ≠ none
      rcases z with z | ⟨o, z⟩ <;> rw [z] <;> simp
    · exact .inr z
/-- the draws begin -/
def begSp (K : PySem.W.Frag) : Sp := fun vs H Q _ => ∃ (w : W) (v : V) (xs : List Int), vs = [v] ∧ w.H = H ∧ w.mo = none ∧ Gd MD w ∧ Dv K w.F w.H v (.list (dI xs)) ∧ xs.length ≤ 1000 ∧
  ∀ (w' : W) (a : Addr), Stp w w' → Gd MD w' → w'.mo = some a → w'.c = w.c → Q (.ref a) w'.H
theorem PSs.ex {X : Cx} {sts : List Stmt} {α : Type} {t : α → TS} (h : ∀ a, PSs X sts (t a)) : PSs X sts (fun D σ H => ∃ a, t a D σ H) := ⟨fun p s σ H Q I ⟨a, q⟩ => (h a).run p s σ H Q I q⟩
/-- m = the draws' begin, then the rest by its word -/
def tLaw (K : PySem.W.Frag) (ws : WS) : TS := tSeq (tAsg (tCall (begSp K) [] E0 (tCons (tVar 0) tNil)) (gName 1)) (fun D σ H => ∃ w0, tS MD K w0 ws D σ H)
theorem law_run {K : PySem.W.Frag} {N : List Str} {ws : WS} {H : Hp} {vs : List V} {Q : VK} {E : XK} (hN : 2 ≤ N.length) (h : lawSp K vs H Q E)
    (math : ∀ ns : List Int, ns.length ≤ 63 → ws { nx := fun _ _ => False, rt := fun d _ => d = .bool true } ((startE N [.im (.list (dI ns))]).set 1 .st) 0) : tLaw K ws { nx := fun _ H' => Q .non H', rt := Q } (L2.start N vs) H := by
  obtain ⟨v, ns, w, rfl, rfl, mo, c0, g, dv, hl, k⟩ := h
  have a0 : ArgsOk K w [v] [.im (.list (dI ns))] := .im dv .nil
  have so := start_ok (N := N) g a0
  refine ⟨v, rfl, w, v, ns, rfl, rfl, mo, g, dv, by omega, fun w' a s' g' mo' c' => ?_⟩
  have so' := so.stp s' g'
  refine ⟨w, w', (startE N [.im (.list (dI ns))]).set 1 .st, _, rfl, ⟨so'.ev.setE rfl ⟨a, rfl, mo'⟩, g', s', fun i b o => so'.ow i b (own_set rfl o)⟩, (by rw [c', c0]; exact math ns hl), ?_⟩
  exact ⟨fun _ _ _ _ _ q => q.elim, fun w2 v2 d2 _ _ dv2 q => (by
    obtain rfl : d2 = .bool true := q
    cases dv2
    exact k _), fun _ _ _ _ _ q => q.elim, fun _ _ _ _ _ q => q.elim⟩
end HW

/-! {key: value for name in iter if ..} -/
namespace HW
open PySem L2
def dcGo (wt : WT) (wk we : WE) (ρ : List En) (j : Nat) : List D → List (D × D) → Nat → (List (D × D) → Nat → Prop) → Prop
  | [], acc, c, Q => Q acc c
  | d :: r, acc, c, Q => wt (ρ.set j (.im d)) c fun b c1 => if b = true then wk (ρ.set j (.im d)) c1 (fun y c2 => we (ρ.set j (.im d)) c2 fun z c3 => ∃ k, HW.keyOf y = some k ∧ dcGo wt wk we ρ j r (putD' acc k z) c3 Q) else dcGo wt wk we ρ j r acc c1 Q
theorem putD'_len (ds : List (D × D)) (k : Key) (v : D) : (putD' ds k v).length ≤ ds.length + 1 := by
  unfold putD'
  split
  · rw [List.length_map]; omega
  · rw [List.length_append]; exact Nat.le_refl _
section
variable {X : Cx} {M : MI}
theorem r_dcG {wi : WI} {wt : WT} {wk we : WE} {j : Nat} {vs : List Nat} (hj : j ∈ vs) {σ : L2.St} {Q : VK} {w : W} {ρ : List En} {Qd : List (D × D) → Nat → Prop} (ev : EnvOk X.K w σ ρ) (g : Gd M w)
    (hw : wi ρ w.c fun ds c1 => ds.length ≤ 16000000 ∧ dcGo wt wk we (wipeE ρ vs) j ds [] c1 Qd)
    (k : ∀ (w' : W) (Dl : Addr) (kvs : List (Key × V)) (acc : List (D × D)), Stp w w' → Gd M w' → w'.H Dl = some (.dK kvs) → ¬ w'.F Dl → Dl ∉ w'.R → DvK X.K w'.F w'.H kvs acc → w.H Dl = none → Qd acc w'.c → Q (.ref Dl) w'.H) :
    tDc (tI M X.K Stp wi) (gName j) (tT M X.K wt) (tB M X.K wk) (tE M X.K we) vs σ w.H Q := by
  refine ⟨w, ρ, _, rfl, ev, g, hw, fun w1 J ds s1 g1 jk q1 Dl hD => ?_⟩
  obtain ⟨hl, q1⟩ := q1
  have nF : ¬ w1.F Dl := fun f => g1.tf Dl f hD
  have nR : Dl ∉ w1.R := r_free g1 hD
  have hDw : w.H Dl = none := nn s1 hD
  refine ⟨fun i m H' => ∃ (w' : W) (acc : List (D × D)) (us : List (Key × V)), w'.H = H' ∧ m = ds.length - i ∧ i ≤ ds.length ∧ Stp w1 w' ∧ Gd M w' ∧ w'.H Dl = some (.dK us) ∧ ¬ w'.F Dl ∧ Dl ∉ w'.R ∧ DvK X.K w'.F w'.H us acc ∧ acc.length ≤ i ∧ dcGo wt wk we (wipeE ρ vs) j (ds.drop i) acc w'.c Qd,
    ⟨ds.length, w1.own Dl (.dK []), [], [], rfl, by simp, Nat.zero_le _, stp_own hD, gd_own g1 hD, upd_same, nF, nR, .nil, Nat.le_refl _, q1⟩, ?_⟩
  rintro i m H' ⟨w', acc, us, rfl, rfl, hi, s', g', hDl, nf, nr, da, hal, q⟩
  have ev' := (ev.stp s1 g).stp s' g1
  by_cases hlt : i < ds.length
  · have ed : ds[i]? = some ds[i] := by simp [hlt]
    obtain ⟨jg, jy⟩ := jk.go w' i _ s' g' ed
    refine .inr ⟨jg, fun H2 => ∃ (w2 : W) (acc : List (D × D)) (us : List (Key × V)), w2.H = H2 ∧ Stp w1 w2 ∧ Gd M w2 ∧ w2.H Dl = some (.dK us) ∧ ¬ w2.F Dl ∧ Dl ∉ w2.R ∧ DvK X.K w2.F w2.H us acc ∧ acc.length ≤ i + 1 ∧ dcGo wt wk we (wipeE ρ vs) j (ds.drop (i + 1)) acc w2.c Qd, ?_, fun x H2 y => ?_⟩
    · rintro H2 ⟨w2, acc2, us2, h⟩
      exact ⟨ds.length - (i + 1), by omega, w2, acc2, us2, h.1, rfl, hlt, h.2⟩
    · obtain ⟨w2, rfl, ec, s2, g2, dx⟩ := jy x H2 y
      have q2 : dcGo wt wk we (wipeE ρ vs) j (ds[i] :: ds.drop (i + 1)) acc w2.c Qd := by
        rw [ec, ← List.drop_eq_getElem_cons hlt]; exact q
      have keepD : ∀ {w3 : W}, Stp w2 w3 → w3.H Dl = some (.dK us) ∧ ¬ w3.F Dl ∧ Dl ∉ w3.R := fun {w3} s3 => by
        have h2 := s2.k _ _ hDl nr
        have n2 := r_up s2 hDl nr
        have f2 : ¬ w2.F Dl := fun z => (s2.f2 Dl z).elim nf fun e => by rw [hDl] at e; cases e
        exact ⟨s3.k _ _ h2 n2, (fun z => (s3.f2 Dl z).elim f2 fun e => (by rw [h2] at e; cases e)), r_up s3 h2 n2⟩
      have ev2 := ((ev'.stp s2 g').wipe vs).setIm (i := j) dx
      refine ⟨wipe_set hj, w2, _, _, rfl, ev2, g2, q2, fun w3 b s3 g3 q3 => ?_⟩
      have s13 := (s'.trans s2).trans s3
      have da3 := da.fk ((s2.trans s3).fk g')
      obtain ⟨h3, f3, n3⟩ := keepD s3
      have ev3 := ev2.stp s3 g2
      cases b with
      | false => exact iteF ⟨w3, acc, us, rfl, s13, g3, h3, f3, n3, da3, by omega, q3⟩
      | true =>
        refine iteT ⟨w3, _, _, rfl, ev3, g3, q3, fun w4 y dy s4 g4 by' q4 => ?_⟩
        refine ⟨w4, _, _, rfl, ev3.stp s4 g3, g4, q4, fun w5 z dz s5 g5 dvz q5 => ?_⟩
        obtain ⟨kk, ek, q5⟩ := q5
        obtain ⟨h5, f5, n5⟩ := keepD ((s3.trans s4).trans s5)
        have da5 := da3.fk ((s4.trans s5).fk g3)
        have zz : w5.H Dl ≠ none := by rw [h5]; simp
        refine ⟨us, kk, kV_of by' ek, h5, (by rw [sizeLine_eq, da5.length]; omega), ?_⟩
        exact ⟨w5.own Dl (.dK (putK us kk z)), putD' acc kk dz, putK us kk z, rfl, stp_put ((s13.trans s4).trans s5) hD, gd_put g5 zz n5, upd_same, f5, n5,
          (DvK.put dvz da5).fk (fk_put f5), by have := putD'_len acc kk dz; omega, q5⟩
  · have e : i = ds.length := by omega
    subst e
    refine .inl ⟨jk.stop w' _ s' g' (Nat.le_refl _), ?_⟩
    rw [List.drop_length] at q
    exact k w' Dl us acc (s1.trans s') g' hDl nf nr da hDw q
section
variable {kx vx tg iter : Expr} {ifs : List Expr} {scope : Scope} {own : List (Str × Nat)} {pos : Pos} {wi : WI} {wt : WT} {wk we : WE} {j : Nat}
def wDc (wi : WI) (wt : WT) (wk we : WE) (j : Nat) (vs : List Nat) : WE := fun ρ c Q => wi ρ c fun ds c1 => ds.length ≤ 16000000 ∧ dcGo wt wk we (wipeE ρ vs) j ds [] c1 fun acc c2 => Q (.dict acc) c2
def nDcC (wi : WI) (wt : WT) (wk we : WE) (j : Nat) (vs : List Nat) : WN := fun ρ c Q => wi ρ c fun ds c1 => ds.length ≤ 16000000 ∧ dcGo wt wk we (wipeE ρ vs) j ds [] c1 fun acc c2 => Q (.dc acc) c2
theorem e_dc (hj : j ∈ own.map (·.2)) (hc : X.calm = true) (hN : X.N.Nodup) (hi : PI X tg iter (tI M X.K Stp wi)) (ok : BlkOk X.N X.env.scope scope own)
    (hg : ∀ (s : Shared) (H : Hp) (C : Addr) (cl : List (Str × Addr)) (fp : List Addr), PG (X.blk s H scope (compEnvC scope cl C X.env) fp) tg (gName j)) (ht : ∀ (s : Shared) (H : Hp) (C : Addr) (cl : List (Str × Addr)) (fp : List Addr), PTs (X.blk s H scope (compEnvC scope cl C X.env) fp) ifs (tT M X.K wt))
    (hk : ∀ (s : Shared) (H : Hp) (C : Addr) (cl : List (Str × Addr)) (fp : List Addr), PE (X.blk s H scope (compEnvC scope cl C X.env) fp) kx (tB M X.K wk))
    (he : ∀ (s : Shared) (H : Hp) (C : Addr) (cl : List (Str × Addr)) (fp : List Addr), PE (X.blk s H scope (compEnvC scope cl C X.env) fp) vx (tE M X.K we)) (hs : ∀ x, foldedSetIterable iter X.env x = pure x := by intro _; rfl) :
    PE X (.DictComp kx vx [⟨tg, iter, ifs, 0⟩] scope pos) (tE M X.K (wDc wi wt wk we j (own.map (·.2)))) := by
  refine PE.imp (pe_dc hc hN hi ok hg ht hk he hs) ?_
  rintro σ H Q ⟨w, ρ, Qd, rfl, ev, g, hw, k⟩
  exact r_dcG hj ev g hw fun w' Dl kvs acc s g' hD nf nr da hn q => k (w'.frz Dl) _ _ (stp_frz s hn) (gd_frz g' (by rw [hD]; simp) nr) (.dic (.inr rfl) (.inl hD) (da.fk fk_frz)) q
theorem n_dc (hj : j ∈ own.map (·.2)) (hc : X.calm = true) (hN : X.N.Nodup) (hi : PI X tg iter (tI M X.K Stp wi)) (ok : BlkOk X.N X.env.scope scope own)
    (hg : ∀ (s : Shared) (H : Hp) (C : Addr) (cl : List (Str × Addr)) (fp : List Addr), PG (X.blk s H scope (compEnvC scope cl C X.env) fp) tg (gName j)) (ht : ∀ (s : Shared) (H : Hp) (C : Addr) (cl : List (Str × Addr)) (fp : List Addr), PTs (X.blk s H scope (compEnvC scope cl C X.env) fp) ifs (tT M X.K wt))
    (hk : ∀ (s : Shared) (H : Hp) (C : Addr) (cl : List (Str × Addr)) (fp : List Addr), PE (X.blk s H scope (compEnvC scope cl C X.env) fp) kx (tB M X.K wk))
    (he : ∀ (s : Shared) (H : Hp) (C : Addr) (cl : List (Str × Addr)) (fp : List Addr), PE (X.blk s H scope (compEnvC scope cl C X.env) fp) vx (tE M X.K we)) (hs : ∀ x, foldedSetIterable iter X.env x = pure x := by intro _; rfl) :
    PE X (.DictComp kx vx [⟨tg, iter, ifs, 0⟩] scope pos) (tN M X.K (nDcC wi wt wk we j (own.map (·.2)))) := by
  refine PE.imp (pe_dc hc hN hi ok hg ht hk he hs) ?_
  rintro σ H Q ⟨w, ρ, Qd, rfl, ev, g, hw, k⟩
  exact r_dcG hj ev g hw fun w' Dl kvs acc s g' hD nf nr da hn q => k w' Dl (.dc acc) s g' rfl ⟨Dl, kvs, rfl, hD, nf, nr, da⟩ (fun a sa => sa.elim (fun z => z ▸ hn) fun ⟨_, _, _, z, _⟩ => by cases z) q
end
end
end HW

/-! while; texts stripped -/
namespace HW
open PySem L2
section
variable {X : Cx} {M : MI} {w0 : W} {wt : WT} {ws : WS}
def wWhile (wt : WT) (ws : WS) : WS := fun dd ρ c => ∃ I : Nat → List En → Nat → Prop, (∃ n, I n ρ c) ∧ ∀ (n : Nat) (ρ : List En) (c : Nat), I n ρ c → wt ρ c fun b c1 =>
  if b = true then ws { dd with nx := fun ρ' c' => ∃ m, m < n ∧ I m ρ' c', ct := fun ρ' c' => ∃ m, m < n ∧ I m ρ' c', bk := dd.nx } ρ c1 else dd.nx ρ c1
theorem s_while {c : Expr} {body : List Stmt} {pos : Pos} (hp : PassesOwn (model X.prog X.w) X.A X.env X.xe) (hc : L2.PT X c (tT M X.K wt)) (hb : PSs X body (tS M X.K w0 ws)) : PS X (.While c body [] pos) (tS M X.K w0 (wWhile wt ws)) := by
  refine PS.imp (ps_while hp hc hb) ?_
  rintro D σ H ⟨w, ρ, dd, rfl, so, ⟨I, ⟨n0, i0⟩, st⟩, k⟩
  refine ⟨fun m σ' H' => ∃ (w' : W) (ρ' : List En), w'.H = H' ∧ Fk w w' ∧ SOk M X.K w0 w' σ' ρ' ∧ I m ρ' w'.c, ⟨n0, w, ρ, rfl, Fk.refl w, so, i0⟩, ?_⟩
  rintro m σ' H' ⟨w', ρ', rfl, f', so', i'⟩
  refine ⟨w', ρ', _, rfl, so'.ev, so'.gd, st m ρ' w'.c i', fun w1 b s1 g1 q1 => ?_⟩
  have so1 := so'.stp s1 g1
  have f1 := f'.trans (s1.fk so'.gd)
  cases b with
  | true =>
    refine iteT ⟨fun σ2 H2 => ∃ (w2 : W) (ρ2 : List En), w2.H = H2 ∧ Fk w w2 ∧ SOk M X.K w0 w2 σ2 ρ2 ∧ ∃ m2, m2 < m ∧ I m2 ρ2 w2.c, ?_, ?_⟩
    · rintro σ2 H2 ⟨w2, ρ2, e, f2, so2, m2, hm, i2⟩
      exact ⟨m2, hm, w2, ρ2, e, f2, so2, i2⟩
    · refine ⟨w1, ρ', _, rfl, so1, q1, fun w2 σ2 ρ2 f2 so2 q2 => ?_, k.rt, fun w2 σ2 ρ2 f2 so2 q2 => k.nx w2 σ2 ρ2 (f1.trans f2) so2 q2, fun w2 σ2 ρ2 f2 so2 q2 => ?_⟩
      · obtain ⟨m2, hm, i2⟩ := q2
        exact ⟨w2, ρ2, rfl, f1.trans f2, so2, m2, hm, i2⟩
      · obtain ⟨m2, hm, i2⟩ := q2
        exact ⟨w2, ρ2, rfl, f1.trans f2, so2, m2, hm, i2⟩
  | false => exact iteF (k.nx w1 σ' ρ' f1 so1 q1)
/-! texts stripped -/
def lscD : D → D → Option D
  | .str a, .str b => if a.length ≤ LIM then some (.str (Txt.lstripChars a b)) else none
  | _, _ => none
def rscD : D → D → Option D
  | .str a, .str b => if a.length ≤ LIM then some (.str (Txt.rstripChars a b)) else none
  | _, _ => none
def scD : D → D → Option D
  | .str a, .str b => if a.length ≤ LIM then some (.str (Txt.stripChars a b)) else none
  | _, _ => none
theorem d_lsc : FnM M X.K (fun x xs H Q => ∃ a b, x = .str a ∧ xs = [.str b] ∧ a.length ≤ sizeLine ∧ Q (.str (Txt.lstripChars a b)) H) lscD := fun w x y dy z Q g hy e k => by
  cases dy <;> simp only [lscD, reduceCtorEq] at e
  split at e
  · cases e; cases hy.str; exact ⟨x, _, rfl, rfl, lim_size (by assumption), keepQ g (.str _) k⟩
  · cases e
theorem d_rsc : FnM M X.K (fun x xs H Q => ∃ a b, x = .str a ∧ xs = [.str b] ∧ a.length ≤ sizeLine ∧ Q (.str (Txt.rstripChars a b)) H) rscD := fun w x y dy z Q g hy e k => by
  cases dy <;> simp only [rscD, reduceCtorEq] at e
  split at e
  · cases e; cases hy.str; exact ⟨x, _, rfl, rfl, lim_size (by assumption), keepQ g (.str _) k⟩
  · cases e
theorem d_sc : FnM M X.K (fun x xs H Q => ∃ a b, x = .str a ∧ xs = [.str b] ∧ a.length ≤ sizeLine ∧ Q (.str (Txt.stripChars a b)) H) scD := fun w x y dy z Q g hy e k => by
  cases dy <;> simp only [scD, reduceCtorEq] at e
  split at e
  · cases e; cases hy.str; exact ⟨x, _, rfl, rfl, lim_size (by assumption), keepQ g (.str _) k⟩
  · cases e
/-! y = xs.pop(), xs a list of one's own -/
theorem DvA.snoc {K : PySem.W.Frag} {P : Addr → Prop} {H : Hp} {d : D} : ∀ {vs : List V} {ds : List D}, DvA K P H vs (ds ++ [d]) → ∃ us v, vs = us ++ [v] ∧ DvA K P H us ds ∧ Dv K P H v d
  | _, [], .cons h .nil => ⟨[], _, rfl, .nil, h⟩
  | _, _ :: _, .cons h r => by
    obtain ⟨us, v, rfl, h1, h2⟩ := DvA.snoc r
    exact ⟨_ :: us, v, rfl, .cons h h1, h2⟩
def wPop (i k : Nat) : WS := fun dd ρ c => i ≠ k ∧ ∃ ds d, ρ[i]? = some (.ls (ds ++ [d])) ∧ dd.nx ((ρ.set i (.ls ds)).set k (.im d)) c
theorem s_pop {x y : Str} {i k : Nat} {p1 py ap cp pos : Pos} (hN : X.N.Nodup) (hk : X.N[k]? = some y) (hy : Loc X.env.scope y) (hx : PE X (.Name x p1) (tVar i)) (hbase : attributeBase (.Name x p1) "pop" X.env (eval (.Name x p1) X.env) = eval (.Name x p1) X.env := by rfl)
    (hline : (ap.endLine == cp.line) = true := by rfl) (hs : swapsWith (.Call (.Attribute (.Name x p1) "pop" ap) [] [] cp) (some (.Name y py)) pos.line X.env = pure false := by rfl) (hf : X.fn y = true ∨ X.env.scope.names.lookup y = some .local := by first | exact .inl rfl | exact .inr rfl | assumption) :
    PS X (.Assign [.Name y py] (.Call (.Attribute (.Name x p1) "pop" ap) [] [] cp) pos) (tS M X.K w0 (wPop i k)) := by
  refine PS.imp (ps_set hN hk hy (pe_bm0 PySem.F.plainAttrs_list PySem.F.slot_list_pop PySem.F.type_list_pop mt_pop hx hbase hline) hs hf) ?_
  rintro D σ H ⟨w, ρ, dd, rfl, so, ⟨ne, ds, d, r, q⟩, kk⟩
  obtain ⟨a, vs, e1, e2, e3, e4, e5⟩ := so.ev.ok i _ r
  obtain ⟨us, v, rfl, h1, h2⟩ := e5.snoc
  refine ⟨_, e1, tyL e2, a, us ++ [v], v, rfl, rfl, e2, by simp, ?_⟩
  rw [List.dropLast_concat]
  have so1 := so.put (i := i) (a := a) (o := .lst us) (en' := .ls ds) e1 r rfl (.inl rfl) rfl ⟨a, us, rfl, upd_same, e3, e4, h1.fk (fk_put e3)⟩ fun b sb => ls_same sb
  exact kk.nx (w.own a (.lst us)) _ _ (fk_put e3) (so1.setIm (h2.fk (fk_put e3))) q
end
end HW

/-! [elt for a, b in iter if ..] -/
namespace HW
open PySem L2
theorem wipe_put {vs : List Nat} {σ : L2.St} {j : Nat} {x : Option V} (h : j ∈ vs) : L2.wipe (σ.set j x) vs = L2.wipe σ vs := by
  refine wipe_wipe (by rw [List.length_set]) fun i hi => ?_
  have ne : j ≠ i := fun z => hi (by rw [← z]; exact h)
  rw [List.getElem?_set_ne ne]
theorem wipe_twice {vs : List Nat} {σ : L2.St} : L2.wipe (L2.wipe σ vs) vs = L2.wipe σ vs := wipe_wipe (by rw [wipe_length]) fun i hi => wipe_no hi
section
variable {K : PySem.W.Frag} {w : W}
/-- a tuple's items stored in names -/
theorem env_tup : ∀ {js : List Nat} {ds : List D} {xs : List V} {σ : L2.St} {ρ : List En} {vs : List Nat} {Qd : List En → Prop} {Q : L2.St → Hp → Prop}, EnvOk K w σ ρ → DvA K w.F w.H xs ds → (∀ j ∈ js, j ∈ vs) → gTs js ds ρ Qd →
    (∀ σ' ρ', EnvOk K w σ' ρ' → L2.wipe σ' vs = L2.wipe σ vs → Qd ρ' → Q σ' w.H) → gNames js xs σ w.H Q
  | [], [], _, σ, ρ, vs, Qd, Q, ev, .nil, _, h, k => ⟨rfl, k σ ρ ev rfl (by simpa only [gTs] using h)⟩
  | j :: js, d :: ds, _, σ, ρ, vs, Qd, Q, ev, .cons hv hr, hj, h, k => by
    refine ⟨_, _, rfl, ?_⟩
    exact env_tup (ev.setIm (i := j) hv) hr (fun i hi => hj i (List.mem_cons_of_mem _ hi)) (by simpa only [gTs] using h) fun σ' ρ' e1 e2 q => k σ' ρ' e1 (e2.trans (wipe_put (hj j List.mem_cons_self))) q
  | [], _ :: _, _, _, _, _, _, _, _, _, _, h, _ => by simp only [gTs] at h
  | _ :: _, [], _, _, _, _, _, _, _, _, _, h, _ => by simp only [gTs] at h
end
def lcGoT (wt : WT) (we : WE) (ρ : List En) (js : List Nat) : List D → List D → Nat → (D → Nat → Prop) → Prop
  | [], acc, c, Q => Q (.list acc) c
  | d :: r, acc, c, Q => ∃ ds, d = .tuple ds ∧ gTs js ds ρ fun ρ' => wt ρ' c fun b c1 => if b = true then we ρ' c1 (fun y c2 => lcGoT wt we ρ js r (acc ++ [y]) c2 Q) else lcGoT wt we ρ js r acc c1 Q
def wLcT (wi : WI) (wt : WT) (we : WE) (js vs : List Nat) : WE := fun ρ c Q => wi ρ c fun ds c1 => ds.length ≤ 16000000 ∧ lcGoT wt we (wipeE ρ vs) js ds [] c1 Q
section
variable {X : Cx} {M : MI}
theorem r_lcT {wi : WI} {wt : WT} {we : WE} {js vs : List Nat} (hj : ∀ j ∈ js, j ∈ vs) : ∀ (σ : L2.St) (H : Hp) (Q : VK), tE M X.K (wLcT wi wt we js vs) σ H Q → tLc (tI M X.K Stp wi) (gTup X.K js.length (gNames js)) (tT M X.K wt) (tE M X.K we) vs σ H Q := by
  rintro σ H Q ⟨w, ρ, Qd, eh, ev, g, hw, k⟩
  refine ⟨w, ρ, _, eh, ev, g, hw, fun w1 J ds s1 g1 jk q1 Dl hD => ?_⟩
  obtain ⟨hl, q1⟩ := q1
  have nF : ¬ w1.F Dl := fun f => g1.tf Dl f hD
  have nR : Dl ∉ w1.R := r_free g1 hD
  refine ⟨fun i m H' => ∃ (w' : W) (acc : List D) (us : List V), w'.H = H' ∧ m = ds.length - i ∧ i ≤ ds.length ∧ Stp w1 w' ∧ Gd M w' ∧ w'.H Dl = some (.lst us) ∧ ¬ w'.F Dl ∧ Dl ∉ w'.R ∧ DvA X.K w'.F w'.H us acc ∧ acc.length ≤ i ∧ lcGoT wt we (wipeE ρ vs) js (ds.drop i) acc w'.c Qd,
    ⟨ds.length, w1.own Dl (.lst []), [], [], rfl, by simp, Nat.zero_le _, stp_own hD, gd_own g1 hD, upd_same, nF, nR, .nil, Nat.le_refl _, q1⟩, ?_⟩
  rintro i m H' ⟨w', acc, us, rfl, rfl, hi, s', g', hDl, nf, nr, da, hal, q⟩
  have ev' := (ev.stp s1 g).stp s' g1
  by_cases hlt : i < ds.length
  · have ed : ds[i]? = some ds[i] := by simp [hlt]
    obtain ⟨jg, jy⟩ := jk.go w' i _ s' g' ed
    refine .inr ⟨jg, fun H2 => ∃ (w2 : W) (acc : List D) (us : List V), w2.H = H2 ∧ Stp w1 w2 ∧ Gd M w2 ∧ w2.H Dl = some (.lst us) ∧ ¬ w2.F Dl ∧ Dl ∉ w2.R ∧ DvA X.K w2.F w2.H us acc ∧ acc.length ≤ i + 1 ∧ lcGoT wt we (wipeE ρ vs) js (ds.drop (i + 1)) acc w2.c Qd, ?_, fun x H2 y => ?_⟩
    · rintro H2 ⟨w2, acc2, us2, h⟩
      exact ⟨ds.length - (i + 1), by omega, w2, acc2, us2, h.1, rfl, hlt, h.2⟩
    · obtain ⟨w2, rfl, ec, s2, g2, dx⟩ := jy x H2 y
      have q2 : lcGoT wt we (wipeE ρ vs) js (ds[i] :: ds.drop (i + 1)) acc w2.c Qd := by
        rw [ec, ← List.drop_eq_getElem_cons hlt]; exact q
      obtain ⟨es, ee, q2⟩ := q2
      rw [ee] at dx
      have keepD : ∀ {w3 : W}, Stp w2 w3 → w3.H Dl = some (.lst us) ∧ ¬ w3.F Dl ∧ Dl ∉ w3.R := fun {w3} s3 => by
        have h2 := s2.k _ _ hDl nr
        have n2 := r_up s2 hDl nr
        have f2 : ¬ w2.F Dl := fun z => (s2.f2 Dl z).elim nf fun e => by rw [hDl] at e; cases e
        exact ⟨s3.k _ _ h2 n2, (fun z => (s3.f2 Dl z).elim f2 fun e => (by rw [h2] at e; cases e)), r_up s3 h2 n2⟩
      cases dx with
      | @tup a xs _ p1 p2 =>
        refine ⟨a, xs, rfl, p1.sq, by rw [p2.length, gTs_len q2], ?_⟩
        refine env_tup ((ev'.stp s2 g').wipe vs) p2 hj q2 fun σ2 ρ2 ev2 ew q2 => ?_
        refine ⟨ew.trans wipe_twice, w2, ρ2, _, rfl, ev2, g2, q2, fun w3 b s3 g3 q3 => ?_⟩
        have s13 := (s'.trans s2).trans s3
        have da3 := da.fk ((s2.trans s3).fk g')
        obtain ⟨h3, f3, n3⟩ := keepD s3
        cases b with
        | true =>
          refine iteT ⟨w3, ρ2, _, rfl, ev2.stp s3 g2, g3, q3, fun w4 v d s4 g4 dv q4 => ?_⟩
          obtain ⟨h4, f4, n4⟩ := keepD (s3.trans s4)
          have da4 := da3.fk (s4.fk g3)
          have z : w4.H Dl ≠ none := by rw [h4]; simp
          refine ⟨us, h4, (by rw [sizeLine_eq, da4.length]; omega), ?_⟩
          exact ⟨w4.own Dl (.lst (us ++ [v])), acc ++ [d], us ++ [v], rfl, stp_put (s13.trans s4) hD, gd_put g4 z n4, upd_same, f4, n4,
            (da4.app (.cons dv .nil)).fk (fk_put f4), by rw [List.length_append]; show acc.length + 1 ≤ i + 1; omega, q4⟩
        | false => exact iteF ⟨w3, acc, us, rfl, s13, g3, h3, f3, n3, da3, by omega, q3⟩
  · have e : i = ds.length := by omega
    subst e
    refine .inl ⟨jk.stop w' _ s' g' (Nat.le_refl _), ?_⟩
    rw [List.drop_length] at q
    have hDw : w.H Dl = none := nn s1 hD
    exact k (w'.frz Dl) _ _ (stp_frz (s1.trans s') hDw) (gd_frz g' (by rw [hDl]; simp) nr) (.lst (.inl ⟨.inr rfl, .of hDl⟩) (da.fk fk_frz)) q
section
variable {elt tg iter : Expr} {ifs : List Expr} {scope : Scope} {own : List (Str × Nat)} {pos : Pos} {wi : WI} {wt : WT} {we : WE} {js : List Nat} {w0 : W}
theorem e_lcT (hj : ∀ j ∈ js, j ∈ own.map (·.2)) (hc : X.calm = true) (hN : X.N.Nodup) (hi : PI X tg iter (tI M X.K Stp wi)) (ok : BlkOk X.N X.env.scope scope own)
    (hg : ∀ (s : Shared) (H : Hp) (C : Addr) (cl : List (Str × Addr)) (fp : List Addr), PG (X.blk s H scope (compEnvC scope cl C X.env) fp) tg (gTup X.K js.length (gNames js))) (ht : ∀ (s : Shared) (H : Hp) (C : Addr) (cl : List (Str × Addr)) (fp : List Addr), PTs (X.blk s H scope (compEnvC scope cl C X.env) fp) ifs (tT M X.K wt))
    (he : ∀ (s : Shared) (H : Hp) (C : Addr) (cl : List (Str × Addr)) (fp : List Addr), PE (X.blk s H scope (compEnvC scope cl C X.env) fp) elt (tE M X.K we)) (hs : ∀ x, foldedSetIterable iter X.env x = pure x := by intro _; rfl) :
    PE X (.ListComp elt [⟨tg, iter, ifs, 0⟩] scope pos) (tE M X.K (wLcT wi wt we js (own.map (·.2)))) := PE.imp (pe_lc hc hN hi ok hg ht he hs) (r_lcT hj)
theorem s_setLcT {i : Nat} {y : Str} {py spos : Pos} (hj : ∀ j ∈ js, j ∈ own.map (·.2)) (hc : X.calm = true) (hN : X.N.Nodup) (hy : X.N[i]? = some y) (hyl : X.env.scope.names.lookup y = some .local) (hi : PI X tg iter (tI M X.K Stp wi)) (ok : BlkOk X.N X.env.scope scope own)
    (hg : ∀ (s : Shared) (H : Hp) (C : Addr) (cl : List (Str × Addr)) (fp : List Addr), PG (X.blk s H scope (compEnvC scope cl C X.env) fp) tg (gTup X.K js.length (gNames js))) (ht : ∀ (s : Shared) (H : Hp) (C : Addr) (cl : List (Str × Addr)) (fp : List Addr), PTs (X.blk s H scope (compEnvC scope cl C X.env) fp) ifs (tT M X.K wt))
    (he : ∀ (s : Shared) (H : Hp) (C : Addr) (cl : List (Str × Addr)) (fp : List Addr), PE (X.blk s H scope (compEnvC scope cl C X.env) fp) elt (tE M X.K we)) (hsw : swapsWith (.ListComp elt [⟨tg, iter, ifs, 0⟩] scope pos) (some (.Name y py)) spos.line X.env = pure true := by rfl) (hs : ∀ x, foldedSetIterable iter X.env x = pure x := by intro _; rfl) :
    PS X (.Assign [.Name y py] (.ListComp elt [⟨tg, iter, ifs, 0⟩] scope pos) spos) (tS M X.K w0 (wSet i (wLcT wi wt we js (own.map (·.2))))) :=
  PS.imp (ps_setLc hc hN hy hyl hsw hi ok hg ht he hs) fun D σ H h => r_lcT hj σ H _ (r_set D σ H h)
end
end
end HW

/-! x += e, x -= e, ints -/
namespace HW
open PySem L2
section
variable {X : Cx} {M : MI} {w0 : W} {e : Expr} {we : WE}
def wAug (f : Int → Int → Int) (i : Nat) (we : WE) : WS := fun dd ρ c => ∃ a : Int, ρ[i]? = some (.im (.int a)) ∧ we ρ c fun d c1 => ∃ b : Int, d = .int b ∧ dd.nx (ρ.set i (.im (.int (f a b)))) c1
theorem s_aug {f : Int → Int → Int} {i : Nat} {x : Str} {op : Operator} {pos pos' : Pos} (ho : PIp X op (ipI f)) (hN : X.N.Nodup) (hi : X.N[i]? = some x) (hx : Loc X.env.scope x) (he : PE X e (tE M X.K we)) (hf : X.fn x = true ∨ X.env.scope.names.lookup x = some .local := by first | exact .inl rfl | exact .inr rfl | assumption) :
    PS X (.AugAssign (.Name x pos') op e pos) (tS M X.K w0 (wAug f i we)) := by
  refine PS.imp (ps_aug hN hi hx he ho hf) ?_
  rintro D σ H ⟨w, ρ, dd, rfl, so, ⟨a, r, hw⟩, k⟩
  obtain ⟨v, e1, dv⟩ := so.ev.ok i _ r
  cases dv
  refine ⟨_, e1, w, ρ, _, rfl, so.ev, so.gd, hw, fun w1 v1 d1 s1 g1 dv1 q1 => ?_⟩
  obtain ⟨b, rfl, q1⟩ := q1
  cases dv1
  exact ⟨a, b, rfl, rfl, k.nx w1 _ _ (s1.fk so.gd) ((so.stp s1 g1).setIm (.int _)) q1⟩
end
end HW

/-! HW19: defs that may raise: the call's promise, what is raised as data, raising calls in statements -/
namespace HW
open PySem L2 PySem.Spec PyProof.Rows
/-- a def of the module that may be called by its name and may raise -/
structure CalX (P : Program) (w : World) (K : PySem.W.Frag) (mg : Str → Option Value) (base : Heap) (k : Nat) (x : Str) (sp : Sp) : Prop where
  ex : ∃ (f : Addr) (fd : FuncData) (ps : List Str), FnG P w K mg base (L2.CX P w) k f fd ps sp ∧ mg x = some (.ref f) ∧ PySem.W.keepIn K (.ref f) = true ∧ Binds K fd ps []
/-- where it raises nothing it may be called as one that never does -/
theorem CalX.calm {P : Program} {w : World} {K : PySem.W.Frag} {mg : Str → Option Value} {base : Heap} {k : Nat} {x : Str} {sp sp' : Sp} (C : CalX P w K mg base k x sp) (h : ∀ vs H Q E, sp' vs H Q E → sp vs H Q fun _ _ _ => False) : CalG P w K mg base k x sp' := by
  obtain ⟨f, fd, ps, F, h1, h2, h3⟩ := C.ex
  refine ⟨f, fd, ps, ⟨fun vs H Q E q => F.len vs H Q _ (h _ _ _ _ q), fun A outer s H args us vs Q E hg hr he hb hv hs => ?_⟩, h1, h2, h3⟩
  refine codeAny_mono (F.run A outer s H args us vs Q _ hg hr he hb hv (h _ _ _ _ hs)) fun r s' hq => ?_
  cases r with
  | ok fl => cases fl <;> exact hq
  | error e =>
    obtain ⟨a, B, H', cls, d, _, _, _, _, _, _, _, no⟩ := hq
    exact no.elim
section
variable {X : Cx} {k j : Nat} {x : Str} {sp : Sp} {p pos : Pos} {e : Expr} {es : List Expr} {t : TA} {E : L2.St → XK}
theorem pe_gX (C : CalX X.prog X.w X.K X.mg X.base k x sp) (hr : Room j X.A) (hk : k ≤ j) (gds : X.A.guards = some []) (hx : ∀ σ, PassesAt (L2.CX X.prog X.w) X σ (E σ)) (hg : Gl X x) (ha : PA X (e :: es) t)
    (hdb : (x == ("__debug__" : Str)) = false := by decide) (he : starEach (e :: es) X.env = (false, eval e X.env) :: starEach es X.env := by rfl) (hpl : (backTo pos (starEach es X.env)).any (·.1) = false := by rfl) :
    PE X (.Call (.Name x p) (e :: es) [] pos) (tCallS sp E t) := by
  obtain ⟨f, fd, ps, F, hm, kp, b⟩ := C.ex
  refine ⟨fun pins s σ H Q I h => wpAny_Call_Name_kw (ld_glob I hg hm ?_ hdb)⟩
  refine PySem.W.callWith_K (h₀ := X.base) I.ok.mod.kin kp (thn (ha.run pos pins s σ H _ I h) fun us s1 hh => ?_) he hpl
  obtain ⟨vs, H1, I1, r, q⟩ := hh
  have hl : (us ++ []).length = ps.length := by rw [List.append_nil, ← r.length]; exact F.len _ _ _ _ q
  have bd := b s1 us I1.kIn hl
  rw [List.append_nil] at bd
  refine ⟨I1.kIn, wpAny_call (codeAny_mono (F.run X.A X.stack s1 H1 ⟨us, []⟩ us vs Q (E σ) gds (hr.mono hk) I1.env0 bd r q) fun r2 s2 h2 => ?_)⟩
  cases r2 with
  | error er => exact hx σ pins H1 s1 er s2 I1 h2
  | ok fl =>
    cases fl with
    | ret u => exact I1.after h2
    | next => exact False.elim h2
    | brk => exact False.elim h2
    | cont => exact False.elim h2
end
/-- what is raised: the class's name, the error's own attributes -/
structure Xd where
  C : Str
  fs : List (Str × D)
abbrev XR := Xd → Nat → Prop
inductive FsOk (K : PySem.W.Frag) (w : W) : List (Str × V) → List (Str × D) → Prop
  | nil : FsOk K w [] []
  | cons {n : Str} {v : V} {d : D} {fs : List (Str × V)} {ds : List (Str × D)} : Dv K w.F w.H v d → FsOk K w fs ds → FsOk K w ((n, v) :: fs) ((n, d) :: ds)
theorem FsOk.fk {K : PySem.W.Frag} {w w' : W} (s : Fk w w') : ∀ {fs : List (Str × V)} {ds : List (Str × D)}, FsOk K w fs ds → FsOk K w' fs ds
  | _, _, .nil => .nil
  | _, _, .cons h r => .cons (h.fk s) (r.fk s)
theorem FsOk.get {K : PySem.W.Frag} {w : W} {n : Str} {d : D} : ∀ {fs : List (Str × V)} {ds : List (Str × D)}, FsOk K w fs ds → ds.lookup n = some d → ∃ v, fs.lookup n = some v ∧ Dv K w.F w.H v d
  | _, _, .nil, e => by cases e
  | _, _, .cons (n := m) (v := v) h r, e => by
    by_cases z : (n == m) = true
    · simp only [List.lookup_cons, z] at e ⊢
      cases e
      exact ⟨v, rfl, h⟩
    · have z' : (n == m) = false := by simpa using z
      simp only [List.lookup_cons, z'] at e ⊢
      exact r.get e
/-- the error of class cls with its own dict d bears x -/
def XOk (K : PySem.W.Frag) (mg : Str → Option Value) (w : W) (cls : Value) (d : Option Addr) (x : Xd) : Prop :=
  mg x.C = some cls ∧ ((d = none ∧ x.fs = []) ∨ ∃ dd fvs, d = some dd ∧ w.H dd = some (.xd fvs) ∧ dd ∉ w.R ∧ FsOk K w fvs x.fs)
theorem XOk.stp {K : PySem.W.Frag} {M : MI} {mg : Str → Option Value} {w w' : W} {cls : Value} {d : Option Addr} {x : Xd} (s : Stp w w') (g : Gd M w) : XOk K mg w cls d x → XOk K mg w' cls d x
  | ⟨h, .inl e⟩ => ⟨h, .inl e⟩
  | ⟨h, .inr ⟨dd, fvs, e, ed, nr, f⟩⟩ => ⟨h, .inr ⟨dd, fvs, e, s.k _ _ ed nr, r_up s ed nr, f.fk (s.fk g)⟩⟩
/-- the promise of a def that may raise -/
def fnSpX (M : MI) (K : PySem.W.Frag) (mg : Str → Option Value) (f : XR → FW) : Sp := fun vs H Q E => ∃ (w : W) (es : List En) (Qd : D → Nat → Prop) (R : XR), w.H = H ∧ Gd M w ∧ ArgsOk K w vs es ∧ f R es w.c Qd ∧
  (∀ (w' : W) (v : V) (d : D), Stp w w' → Gd M w' → Dv K w'.F w'.H v d → Qd d w'.c → Q v w'.H) ∧
  (∀ (w' : W) (cls : Value) (dd : Option Addr) (x : Xd), Stp w w' → Gd M w' → XOk K mg w' cls dd x → R x w'.c → E cls dd w'.H)
def noX : XR := fun _ _ => False
theorem fnSpX_calm {M : MI} {K : PySem.W.Frag} {mg : Str → Option Value} {f : XR → FW} : ∀ vs H Q E, fnSp M K (f noX) vs H Q E → fnSpX M K mg f vs H Q fun _ _ _ => False :=
  fun _ _ _ _ ⟨w, es, Qd, eh, g, a, hf, k⟩ => ⟨w, es, Qd, noX, eh, g, a, hf, k, fun _ _ _ _ _ _ _ z => z⟩
/-- what is raised in the frame's context is taken by R -/
def TkR (X : Cx) (M : MI) (w0 : W) (R : Xd → List En → Nat → Prop) : Prop := Takes X fun cls d σ H => ∃ (w' : W) (ρ' : List En) (x : Xd), w'.H = H ∧ SOk M X.K w0 w' σ ρ' ∧ XOk X.K X.mg w' cls d x ∧ R x ρ' w'.c
theorem def_gX {P : Program} {w : World} {K : PySem.W.Frag} {mg : Str → Option Value} {base : Heap} {k : Nat} {f : Addr} {fd : FuncData} {x qual : Str} {st : Stmt} {N ps : List Str} {M : MI} {ws : XR → WS} {fw : XR → FW} (F : L2.Fun K x qual st f fd) (S : FnScope N ps (defScope st))
    (hb : ∀ (cdv : Value) (A : Around) (outer : List Env) (s : Shared) (H : Hp) (E : XK) (w0 : W) (R : XR), (A.deeper (PyProof.Rows.envOfC qual (defScope st) s.heap.objs.size f cdv)).guards = some [] → Room k (A.deeper (PyProof.Rows.envOfC qual (defScope st) s.heap.objs.size f cdv)) →
      TkR (cxOf (L2.CX P w) P w K mg base N qual (defScope st) f cdv A outer s H E) M w0 (fun x _ c => R x c) →
      PSs (cxOf (L2.CX P w) P w K mg base N qual (defScope st) f cdv A outer s H E) (defBody st) (tS M K w0 (ws R)))
    (hf : ∀ R es c Q, fw R es c Q → es.length = ps.length ∧ wDef N (ws R) es c Q) : FnG P w K mg base (L2.CX P w) (k + 1) f fd ps (fnSpX M K mg fw) := by
  refine fnG F S (fun vs H Q E h => ?_) fun cdv A outer s H vs Q E gds room h => ?_
  · obtain ⟨w, es, Qd, R, eh, g, a, hw, _⟩ := h
    rw [a.length]; exact (hf _ _ _ _ hw).1
  · obtain ⟨w1, es, Qd, R, eh, g, a, hw, k1, k2⟩ := h
    have tk0 : Takes (cxOf (L2.CX P w) P w K mg base N qual (defScope st) f cdv A outer s H E) (fun cls d _ H' => E cls d H') := takes_of rfl rfl rfl rfl
    refine ⟨tS M K w1 (ws R), hb cdv A outer s H E w1 R gds room (tk0.imp fun c d σ H' ⟨w', ρ', x, e, so, xo, r⟩ => e ▸ k2 w' c d x so.st so.gd xo r), w1, startE N es, _, eh, start_ok g a, (hf _ _ _ _ hw).2, ?_⟩
    exact ⟨fun w' σ' ρ' _ so q => k1 w' .non .none so.st so.gd .non q, fun w' v d s g dv q => k1 w' v d s g dv q, fun _ _ _ _ _ q => q, fun _ _ _ _ _ q => q⟩
/-! ### expressions that may raise, in a statement -/
def tEX (M : MI) (K : PySem.W.Frag) (w0 : W) (we : WE) : TE := fun σ H Q => ∃ (w : W) (ρ : List En) (Qd : D → Nat → Prop), w.H = H ∧ SOk M K w0 w σ ρ ∧ we ρ w.c Qd ∧
  ∀ (w' : W) (v : V) (d : D), Stp w w' → Gd M w' → Dv K w'.F w'.H v d → Qd d w'.c → Q v w'.H
section
variable {X : Cx} {M : MI} {w0 : W} {e a b : Expr} {es : List Expr} {we wa wb : WE} {wt : WT} {wg : WG} {x : Str} {p pos : Pos}
theorem toX (h : PE X e (tE M X.K we)) : PE X e (tEX M X.K w0 we) := PE.imp h fun σ H Q ⟨w, ρ, Qd, eh, so, hw, k⟩ => ⟨w, ρ, Qd, eh, so.ev, so.gd, hw, k⟩
def wCallX (f : XR → FW) (R : Xd → List En → Nat → Prop) (wg : WG) : WE := fun ρ c Q => wg ρ c fun es c1 => f (fun x c2 => R x ρ c2) es c1 Q
theorem x_call {f : XR → FW} {R : Xd → List En → Nat → Prop} {k j : Nat} (C : CalX X.prog X.w X.K X.mg X.base k x (fnSpX M X.K X.mg f)) (tk : TkR X M w0 R) (hr : Room j X.A) (hk : k ≤ j) (gds : X.A.guards = some []) (hg : Gl X x) (ha : PA X (e :: es) (tG M X.K wg))
    (hdb : (x == ("__debug__" : Str)) = false := by decide) (he : starEach (e :: es) X.env = (false, eval e X.env) :: starEach es X.env := by rfl) (hpl : (backTo pos (starEach es X.env)).any (·.1) = false := by rfl) :
    PE X (.Call (.Name x p) (e :: es) [] pos) (tEX M X.K w0 (wCallX f R wg)) := by
  refine PE.imp (pe_gX C hr hk gds (fun σ => passAt tk σ) hg ha hdb he hpl) ?_
  rintro σ H Q ⟨w, ρ, Qd, eh, so, hw, k⟩
  exact ⟨w, ρ, _, eh, so.ev, so.gd, hw, fun w1 vs es s1 g1 ok q1 => ⟨w1, es, Qd, fun x c2 => R x ρ c2, rfl, g1, ok, q1, fun w2 v d s2 g2 dv q2 => k w2 v d (s1.trans s2) g2 dv q2,
    fun w2 cls dd x s2 g2 xo r => ⟨w2, ρ, x, rfl, so.stp (s1.trans s2) g2, xo, r⟩⟩⟩
theorem s_exprX (h : PE X e (tEX M X.K w0 we)) (hs : swapsWith e none pos.line X.env = pure false := by rfl) : PS X (.Expr e pos) (tS M X.K w0 (wDrop we)) := by
  refine PS.imp (ps_expr h hs) ?_
  rintro D σ H ⟨w, ρ, dd, eh, so, hw, k⟩
  exact ⟨w, ρ, _, eh, so, hw, fun w' v d s g dv q => k.nx w' σ ρ (s.fk so.gd) (so.stp s g) q⟩
theorem s_retX (h : PE X e (tEX M X.K w0 we)) : PS X (.Return (some e) pos) (tS M X.K w0 (wRet we)) := by
  refine PS.imp (ps_ret h) ?_
  rintro D σ H ⟨w, ρ, dd, eh, so, hw, k⟩
  exact ⟨w, ρ, _, eh, so, hw, fun w' v d s g dv q => k.rt w' v d (so.st.trans s) g dv q⟩
end
end HW

/-! HW20: own errors over ValueError, raised; try with several clauses, each with or without a name -/
namespace HW
open PySem L2 PySem.Spec PyProof.Rows
/-! ### what __init__ does -/
/-- ValueError.__init__(self, v); self.f = v -/
def spI1 (K : PySem.W.Frag) (C : Addr) (f : Str) : Sp := fun vs H Q _ => ∃ (a : Addr) (v : V), vs = [.ref a, v] ∧ H a = some (exo a C none) ∧ OexC K C ∧ PySem.W.findIn K (.ref C) f = some none ∧ ∀ dx, H dx = none → dx ≠ a → Q .non (upd (upd H dx (exd dx [(f, v)])) a (exo a C (some dx)))
/-- ValueError.__init__(self, v) -/
def spI0 (K : PySem.W.Frag) (C : Addr) : Sp := fun vs H Q _ => ∃ (a : Addr) (v : V), vs = [.ref a, v] ∧ H a = some (exo a C none) ∧ OexC K C ∧ Q .non H
def tI1 (K : PySem.W.Frag) (f : Str) : TS := tSeq (tDrop (tVeI K (tCons (tVar 0) (tCons (tVar 1) tNil)))) (tOst K f (tVar 0) (tVar 1))
def tI0 (K : PySem.W.Frag) : TS := tDrop (tVeI K (tCons (tVar 0) (tCons (tVar 1) tNil)))
theorem run_I1 {K : PySem.W.Frag} {C : Addr} {f x y : Str} {vs : List V} {H : Hp} {Q : VK} {E : XK} (h : spI1 K C f vs H Q E) : tI1 K f { nx := fun _ H' => Q .non H', rt := Q } (L2.start [x, y] vs) H := by
  obtain ⟨a, v, rfl, e, T, nf, q⟩ := h
  exact ⟨_, rfl, _, rfl, a, C, _, rfl, by simp, T, e, _, rfl, _, rfl, a, C, rfl, T, nf, .inl ⟨e, fun dx n ne => q dx n ne⟩⟩
theorem run_I0 {K : PySem.W.Frag} {C : Addr} {x y : Str} {vs : List V} {H : Hp} {Q : VK} {E : XK} (h : spI0 K C vs H Q E) : tI0 K { nx := fun _ H' => Q .non H', rt := Q } (L2.start [x, y] vs) H := by
  obtain ⟨a, v, rfl, e, T, q⟩ := h
  exact ⟨_, rfl, _, rfl, a, C, _, rfl, by simp, T, e, q⟩
/-- what is known of an own error class over ValueError: its name, its own attribute or none -/
structure XcOk (P : Program) (w : World) (K : PySem.W.Frag) (mg : Str → Option Value) (base : Heap) (k : Nat) (n : Str) (f : Option Str) : Prop where
  ex : ∃ (C fI : Addr) (fd : FuncData) (ps : List Str), mg n = some (.ref C) ∧ OexC K C ∧ PySem.W.findIn K (.ref C) "__init__" = some (some (.ref fI)) ∧ PySem.W.typeIn K (.ref fI) = some (.type "function") ∧ Binds K fd ps [] ∧
    (∀ g, f = some g → PySem.W.findIn K (.ref C) g = some none ∧ XfC K C) ∧ FnOk P w K mg base CX0 k fI fd ps (match f with | some g => spI1 K C g | none => spI0 K C)
section
variable {X : Cx} {M : MI} {w0 : W} {e : Expr} {we : WE} {n f : Str} {p pos pos2 : Pos} {k j : Nat} {R : Xd → List En → Nat → Prop}
def wRaise (n : Str) (f : Option Str) (we : WE) (R : Xd → List En → Nat → Prop) : WS := fun _ ρ c => we ρ c fun d c1 => R ⟨n, match f with | some g => [(g, d)] | none => []⟩ ρ c1
theorem s_raise1 (T : XcOk X.prog X.w X.K X.mg X.base k n (some f)) (tk : TkR X M w0 R) (hr : Room j X.A) (hk : k + 1 ≤ j) (hc : X.calm = true) (hg : Gl X n) (he : PE X e (tE M X.K we))
    (hdb : (n == ("__debug__" : Str)) = false := by decide) (hs : starEach (e :: []) X.env = (false, eval e X.env) :: starEach [] X.env := by rfl) (hpl : (backTo pos (starEach [] X.env)).any (·.1) = false := by rfl) :
    PS X (.Raise (some (.Call (.Name n p) [e] [] pos)) none pos2) (tS M X.K w0 (wRaise n (some f) we R)) := by
  obtain ⟨C, fI, fd, ps, gC, T1, iC, tI, b, nf, F1⟩ := T.ex
  refine PS.imp (ps_raise hc tk (pmk_oex (sp := spI1 X.K C f) T1 iC tI F1 (hr.mono hk) b .nil pass0 hg gC (pa_cons he pa_nil hs) hdb hs hpl)) ?_
  rintro D σ H ⟨w, ρ, dd, eh, so, hw, k⟩
  refine ⟨w, ρ, _, eh, so.ev, so.gd, hw, fun w1 v d s1 g1 dv r => ?_⟩
  refine ⟨by simp, fun a ha => ⟨a, v, rfl, upd_same, T1, (nf f rfl).1, fun dx hd ne => ?_⟩⟩
  have hd1 : w1.H dx = none := by rw [upd_ne ne] at hd; exact hd
  refine ⟨rfl, dx, [(f, v)], upd_same, ?_, hd1, ?_⟩
  · rw [upd_ne ne, upd_same]
  · have eH : upd (del (upd (upd (upd w1.H a (exo a C none)) dx (exd dx [(f, v)])) a (exo a C (some dx))) a) dx (.xd [(f, v)]) = (w1.own dx (.xd [(f, v)])).H := by
      funext b
      show _ = upd w1.H dx (.xd [(f, v)]) b
      by_cases h1 : b = dx
      · rw [h1, upd_same, upd_same]
      · rw [upd_ne h1, upd_ne h1]
        by_cases h2 : b = a
        · rw [h2, del_same, ha]
        · rw [del_ne h2, upd_ne h2, upd_ne h1, upd_ne h2]
    have sx := stp_own (o := .xd [(f, v)]) hd1
    have gx := gd_own (o := .xd [(f, v)]) g1 hd1
    exact ⟨w1.own dx (.xd [(f, v)]), ρ, ⟨n, [(f, d)]⟩, eH.symm, (so.stp s1 g1).stp sx gx, ⟨gC, .inr ⟨dx, _, rfl, own_at, (show dx ∉ w1.R from r_free g1 hd1), .cons (dv.fk (sx.fk g1)) .nil⟩⟩, r⟩
end
/-! ### C(e), C's __init__ setting nothing -/
def tMkN (C : Addr) (sp : Sp) (ta : TA) : L2.St → Hp → XK → Prop := fun σ H Q => ta σ H fun vs H1 => vs.length ≤ 1000 ∧ ∀ a, H1 a = none → sp (.ref a :: vs) (upd H1 a (exo a C none))
  (fun v H2 => v = .non ∧ H2 a = some (exo a C none) ∧ Q (.ref C) none (del H2 a)) (fun _ _ _ => False)
section
variable {X : Cx} {e : Expr} {es : List Expr} {ta : TA} {p pos : Pos}
theorem mkN_end {pins : List (Addr × Obj)} {σ : L2.St} {Ha Hb : Hp} {q1 q2 q3 : Heap} {y1 y2 : Array GenState} {z1 z2 : Drawn} {k1 k2 : Nat} {o1 o2 : OsState} {a C : Addr} (I1 : Inv X pins σ Ha ⟨q1, y1, z1, k1, o1⟩)
    (ha : q1.objs.size ≤ a) (k : ∀ b o, q1.get? b = some o → q2.get? b = some o) (un : Un (frs X.stack) [] (upd Ha a (exo a C none)) Hb q2 q3) (hok : HOk X.prog X.w Hb q3) (ho : o2 = o1) (hb : AllBare y2) (ea : Hb a = some (exo a C none)) :
    ∃ (t : Addr) (G : Heap), Inv X pins σ (del Hb a) ⟨G, y2, z2, k2, o2⟩ ∧ (∀ b o, G.get? b = some o → q3.get? b = some o) ∧ G.get? a = none ∧
      q3.get? a = some ({ cls := .ref C, dict := none, data := .fields #[.ref t, .none, .none, .none, .bool false, .none] } : Obj) ∧ (del Hb a) a = none := by
  obtain ⟨t, hoe⟩ := exo_at hok ea
  have hn : Ha a = none := I1.hok.fresh ha
  obtain ⟨G, gk', ge'⟩ := restrict q3 fun b => decide (b ≠ a)
  have gk : ∀ {b}, b ≠ a → G.get? b = q3.get? b := fun {b} z => gk' b (decide_eq_true z)
  have ge : G.get? a = none := ge' a (by simp)
  have far : ∀ {b : Addr} {o : Obj}, q1.get? b = some o → b ≠ a := fun {b o} z => by
    exact Nat.ne_of_lt (Nat.lt_of_lt_of_le (Heap.lt_size z) ha)
  have up0 : ∀ {b : Addr}, b ≠ a → upd Ha a (exo a C none) b = Ha b := fun {b} z => upd_ne z
  have U : Un (frs X.stack) [] Ha (del Hb a) q1 G := by
    constructor
    · intro b o z nb f1 f2
      exact (gk (far z)).trans (un.keep b o (k b o z) ((up0 (far z)).trans nb) f1 f2)
    · intro b o z nb f1 f2
      obtain ⟨sl, y⟩ := un.slot b o (k b o z) ((up0 (far z)).trans nb) f1 f2
      exact ⟨sl, (gk (far z)).trans y⟩
    · intro b o z nb f2
      exact (del_ne (far z)).trans (un.free b o (k b o z) ((up0 (far z)).trans nb) f2)
    · intro b o z f2
      obtain ⟨o', y⟩ := un.there b o (k b o z) f2
      exact ⟨o', (gk (far z)).trans y⟩
    · intro b xs z
      have nb : b ≠ a := ne_of_none z hn
      exact (del_ne nb).trans (un.tups b xs ((up0 nb).trans z))
    · intro b o u z
      have nb : b ≠ a := ne_of_none z hn
      exact (del_ne nb).trans (un.frzs b o u ((up0 nb).trans z))
    · intro b qs z
      have nb : b ≠ a := ne_of_none z hn
      obtain ⟨more, y⟩ := un.tbls b qs ((up0 nb).trans z)
      exact ⟨more, (del_ne nb).trans y⟩
  have hok3 : HOk X.prog X.w (del Hb a) G := by
    intro b o z
    have nb : b ≠ a := fun y => by
      rw [y, del_same] at z
      cases z
    rw [del_ne nb] at z
    have noa : ∀ {c : Addr}, Hb c = some (.own b) → c ≠ a := fun {c} hc => at_ne ea hc exo_own
    refine (hok b o z).stay (fun c v hc y => ?_) (fun c hc => (del_ne (noa hc)).trans hc) (fun c xs hc => (del_ne (at_ne ea hc exo_tup)).trans hc)
    have nc : c ≠ a := hc.elim (fun q => q ▸ nb) noa
    exact (gk nc).trans y
  refine ⟨t, G, I1.call' (ch := []) ho U hok3 hb (fun b z => absurd z (by simp)), fun b o z => ?_, ge, hoe, del_same⟩
  by_cases nb : b = a
  · rw [nb, ge] at z
    cases z
  · exact (gk nb).symm.trans z
theorem pmkN {x : Str} {C fI : Addr} {k : Nat} {fd : FuncData} {ps : List Str} {sp : Sp} (T : OexC X.K C) (iC : PySem.W.findIn X.K (.ref C) "__init__" = some (some (.ref fI))) (tI : PySem.W.typeIn X.K (.ref fI) = some (.type "function"))
    (F1 : FnOk X.prog X.w X.K X.mg X.base CX0 k fI fd ps sp) (hr : Room (k + 1) X.A) (hb : Binds X.K fd ps []) (hg : Gl X x) (hm : X.mg x = some (.ref C)) (ha : PA X (e :: es) ta)
    (hdb : (x == ("__debug__" : Str)) = false := by decide) (he : starEach (e :: es) X.env = (false, eval e X.env) :: starEach es X.env := by rfl) (hpl : (backTo pos (starEach es X.env)).any (·.1) = false := by rfl) :
    PMk X (.Call (.Name x p) (e :: es) [] pos) (tMkN C sp ta) := by
  intro pins s σ H Q I h
  obtain ⟨nm, q, N, bs, bm, sn, sub, ab, col, dd, k0, k1, k2, k3, k5, hC, hbm⟩ := T.cls
  refine wpAny_Call_Name_kw (ld_glob I hg hm ?_ hdb)
  refine PySem.W.callWith_K (h₀ := X.base) I.ok.mod.kin T.kC (thn (ha.run pos pins s σ H _ I h) ?_) he hpl
  rintro us s1 ⟨vs, Ha, I1, r1, hz, q1⟩
  refine ⟨I1.kIn, ?_⟩
  show wpAny _ _ (call (.ref C) us) _ _ _
  obtain ⟨h1, g1, dr, tk, os⟩ := s1
  have hsz : h1.objs.size ≤ h1.objs.size + 1 := Nat.le_succ _
  have hn : Ha (h1.objs.size + 1) = none := I1.hok.fresh hsz
  have hq := q1 (h1.objs.size + 1) hn
  have kk : ∀ b o, h1.get? b = some o → ((h1.push (PySem.W.kdv_tup us)).push (PySem.HandSPX.excO C h1.objs.size)).get? b = some o := fun b o z => Heap.get?_push_of_some _ (Heap.get?_push_of_some _ z)
  have hget : ((h1.push (PySem.W.kdv_tup us)).push (PySem.HandSPX.excO C h1.objs.size)).get? (h1.objs.size + 1) = some (PySem.HandSPX.excO C h1.objs.size) := by heap_get
  have I2 := I1.laid (t' := tk) (a := h1.objs.size + 1) (o := exo (h1.objs.size + 1) C none) (h' := (h1.push (PySem.W.kdv_tup us)).push (PySem.HandSPX.excO C h1.objs.size)) kk hsz (exo_ok hget)
  have r2 : Vals (V.ref (h1.objs.size + 1) :: vs) (Value.ref (h1.objs.size + 1) :: us) := .cons rfl r1
  have hl : (Value.ref (h1.objs.size + 1) :: us ++ []).length = ps.length := by
    rw [List.append_nil, ← r2.length]
    exact F1.len _ _ _ _ hq
  have bd := hb _ (Value.ref (h1.objs.size + 1) :: us) I2.kIn hl
  rw [List.append_nil] at bd
  have hus : us.length ≤ sizeLine := by
    rw [← Paired.length r1, sizeLine_eq]
    omega
  refine wpAny_call (PySem.HandSPX.call_own F.excBase_ValueError (fun Y => PySem.HandSPX.refsVE_contains Y bm hbm) (I1.kIn _ _ hC) (PySem.W.looks_findIn I1.kIn iC) (fun self => PySem.W.bind_fn I1.kIn self tI) hus ?_)
  refine codeAny_mono (F1.run _ X.stack _ _ ⟨Value.ref (h1.objs.size + 1) :: us, []⟩ _ _ _ (fun _ _ _ => False) (hr.make C us []) (I2.env0.make C us []) bd r2 hq) fun r s' hq' => ?_
  cases r with
  | error er => exact hq'.elim
  | ok fl =>
    cases fl with
    | ret u =>
      obtain ⟨v, Hb, os2, bare2, un2, hok2, rv, ev, ea, q2⟩ := hq'
      subst ev
      obtain ⟨h2, g2, d2, t2, os'⟩ := s'
      obtain ⟨t0, G, J, kG, ge, hoe, na⟩ := mkN_end (z2 := d2) (k2 := t2) I1 hsz kk un2 hok2 os2 bare2 ea
      exact ⟨rv, _, _, _, ⟨G, g2, d2, t2, os'⟩, _, .ref C, none, rfl, J, kG, ge, hoe, ⟨rfl, rfl⟩, rfl, rfl, na, rfl, bare2, raises_own T.exC T.tyC, q2⟩
    | next => exact False.elim hq'
    | brk => exact False.elim hq'
    | cont => exact False.elim hq'
end
section
variable {X : Cx} {M : MI} {w0 : W} {e : Expr} {we : WE} {n : Str} {p pos pos2 : Pos} {k j : Nat} {R : Xd → List En → Nat → Prop}
theorem s_raise0 (T : XcOk X.prog X.w X.K X.mg X.base k n none) (tk : TkR X M w0 R) (hr : Room j X.A) (hk : k + 1 ≤ j) (hc : X.calm = true) (hg : Gl X n) (he : PE X e (tE M X.K we))
    (hdb : (n == ("__debug__" : Str)) = false := by decide) (hs : starEach (e :: []) X.env = (false, eval e X.env) :: starEach [] X.env := by rfl) (hpl : (backTo pos (starEach [] X.env)).any (·.1) = false := by rfl) :
    PS X (.Raise (some (.Call (.Name n p) [e] [] pos)) none pos2) (tS M X.K w0 (wRaise n none we R)) := by
  obtain ⟨C, fI, fd, ps, gC, T1, iC, tI, b, nf, F1⟩ := T.ex
  refine PS.imp (ps_raise hc tk (pmkN (sp := spI0 X.K C) T1 iC tI F1 (hr.mono hk) b hg gC (pa_cons he pa_nil hs) hdb hs hpl)) ?_
  rintro D σ H ⟨w, ρ, dd, eh, so, hw, k⟩
  refine ⟨w, ρ, _, eh, so.ev, so.gd, hw, fun w1 v d s1 g1 dv r => ?_⟩
  refine ⟨by simp, fun a ha => ⟨a, v, rfl, upd_same, T1, rfl, upd_same, ?_⟩⟩
  have eH : del (upd w1.H a (exo a C none)) a = w1.H := by
    funext b
    by_cases h2 : b = a
    · rw [h2, del_same, ha]
    · rw [del_ne h2, upd_ne h2]
  exact ⟨w1, ρ, ⟨n, []⟩, eH.symm, so.stp s1 g1, ⟨gC, .inl ⟨rfl, rfl⟩⟩, r⟩
end
end HW

/-! HW21: try with several clauses, each with or without a name -/
namespace HW
open PySem L2 PySem.Spec PyProof.Rows
/-- a clause: its class, the slot of its name, its suite's reading -/
abbrev Cl := Value × Option Nat × (Addr → Value → Option Addr → TS)
/-- the ends behind a suite: its name is gone -/
def gone (D : Ends) : Option Nat → Ends
  | none => D
  | some i => { nx := fun σ H => D.nx (σ.set i none) H, rt := D.rt, bk := fun σ H => D.bk (σ.set i none) H, ct := fun σ H => D.ct (σ.set i none) H }
def held (a : Addr) (σ : L2.St) : Option Nat → L2.St
  | none => σ
  | some i => σ.set i (some (.ref a))
def wCls (K : PySem.W.Frag) (Wo : WX) (D : Ends) : List Cl → WX
  | [] => Wo
  | (c, i, ts) :: r => fun cls d σ H => ∃ b, PySem.W.exmOne K cls c = some b ∧ (b = true → ∀ a, H a = none → ts a cls d (gone D i) (held a σ i) H) ∧ (b = false → wCls K Wo D r cls d σ H)
inductive ClsOk (X : Cx) : List ExceptHandler → List Cl → Prop
  | nil : ClsOk X [] []
  | one {x : Str} {c : Value} {ts : Addr → Value → Option Addr → TS} {b₀ : Stmt} {su : List Stmt} {q1 q2 : Pos} {hds : List ExceptHandler} {l : List Cl} (hc : Names X x c)
      (hsu : ∀ (a : Addr) (oe : Obj) (cls : Value) (d : Option Addr) (pn : List (Addr × Obj)), Zc cls d oe → (∃ vs, oe.data = .fields vs) → PSs (X.suite a ((a, oe) :: pn)) (b₀ :: su) (ts a cls d)) (r : ClsOk X hds l) :
      ClsOk X (.ExceptHandler (some (.Name x q1)) none (b₀ :: su) q2 :: hds) ((c, none, ts) :: l)
  | as {x n : Str} {i : Nat} {c : Value} {ts : Addr → Value → Option Addr → TS} {b₀ : Stmt} {su : List Stmt} {q1 q2 : Pos} {hds : List ExceptHandler} {l : List Cl} (hc : Names X x c) (hi : X.N[i]? = some n) (hl : X.env.kindOf n = some .local)
      (hsu : ∀ (a : Addr) (oe : Obj) (cls : Value) (d : Option Addr) (pn : List (Addr × Obj)), Zc cls d oe → (∃ vs, oe.data = .fields vs) → PSs (X.suite a ((a, oe) :: pn)) (b₀ :: su) (ts a cls d)) (r : ClsOk X hds l) :
      ClsOk X (.ExceptHandler (some (.Name x q1)) (some n) (b₀ :: su) q2 :: hds) ((c, some i, ts) :: l)
section
variable {X : Cx} {body : List Stmt} {c0 : ExceptHandler} {cs : List ExceptHandler} {l : List Cl} {pos : Pos} {tb : WX → TS} {Wo : WX}
/-- what a suite or a body ended in, seen from outside -/
theorem sp_out {Y : Cx} {pn pins : List (Addr × Obj)} {D : Ends} {f : Flow} {s : Shared} (out : ∀ {σ H}, Inv Y pn σ H s → Inv X pins σ H s) (h : SP Y pn D f s) : SP X pins D f s := by
  cases f
  case ret u => obtain ⟨v, σ, H, J, r, q⟩ := h; exact ⟨v, σ, H, out J, r, q⟩
  all_goals (obtain ⟨σ, H, J, q⟩ := h; exact ⟨σ, H, out J, q⟩)
theorem ps_tryN (hs : X.stack = X.env :: X.outer) (hf : X.env.frame = some X.env.locals) (hN : X.N.Nodup) (tk : Takes X Wo)
    (hb : ∀ (W : WX) (pn : List (Addr × Obj)) (xe : Value → Shared → Prop), Takes (X.tr pn xe) W → PassesOwn (model X.prog X.w) X.A X.env xe → PSs (X.tr pn xe) body (tb W))
    (hh : ClsOk X (c0 :: cs) l) : PS X (.Try body (c0 :: cs) [] [] pos) (fun D σ H => tb (wCls X.K Wo D l) D σ H) := by
  refine ⟨fun pins s σ H D I h => ?_⟩
  have ok := I.ok
  have frm : X.A.frames = some (X.env :: X.outer) := ok.frames.trans (congrArg some hs)
  refine wpAny_Try_except (wpAny_mono ((hb (wCls X.K Wo D l) (X.pn ++ pins) (fun e u1 => wpAny (model X.prog X.w) X.A (noteFrame e X.env) (fun _ u2 => wpAny (model X.prog X.w) X.A (setFlight e none) (fun _ u3 =>
    wpAny (model X.prog X.w) X.A (handleBy e X.env (c0 :: cs)) (SP X pins D) X.xe u3) X.xe u2) X.xe u1) (fun u s' air => ?_) PassesOwn.looking).run [] s σ H D (I.toTry _) h) (fun f s1 ends => ?_) (fun e s1 z => z))
  · obtain ⟨a, B, sI, ps', τ, T, cls, d, rfl, Jt, nb, up, sky, na, os, ag, wish⟩ := air
    have J : Inv X pins τ T sI := Jt.ofTry ok
    rw [show (X.tr (X.pn ++ pins) _).stack = X.env :: X.outer from hs] at sky
    show wpAny (model X.prog X.w) X.A (noteFrame (.ref a) X.env) _ _ _
    refine Sky.land Zc.steady frm hf sky fun h3 fl up3 => ?_
    have J3 : Inv X pins τ T { s' with heap := h3 } := J.landed nb fl.1 (up.trans up3) os ag
    obtain ⟨ob, fv, e3, z3, d3⟩ := fl.there
    have out : a ∉ frs (X.env :: X.outer) := fun hm => by
      obtain ⟨_, o', e', no⟩ := fl.2.2.1.mem hm
      rw [e3] at e'
      cases e'
      exact no _ d3
    have nL : a ≠ X.env.locals := fun z => out (List.mem_filterMap.mpr ⟨_, List.mem_cons_self, hf.trans (congrArg some z.symm)⟩)
    have nF : a ∉ X.fs := fun hm => by
      obtain ⟨y, hy, q⟩ := List.mem_filterMap.mp hm
      exact out (List.mem_filterMap.mpr ⟨y, List.mem_cons_of_mem _ hy, q⟩)
    have S3 := J3.suite e3 d3 na nL nF
    have look : PySem.W.Looks (model X.prog X.w) h3 (typeOf (.ref a)) cls := fun A Q E u kp q => wpAny_typeOf_ref (kp _ _ e3) (z3.1 ▸ q)
    have name : ∀ {x : Str} {c : Value} {q1 : Pos} {Q E : Value → Shared → Prop}, Names X x c → Q c { s' with heap := h3 } → wpAny (model X.prog X.w) (X.A.mark (some (.ref a))) (eval (.Name x q1) X.env) Q E { s' with heap := h3 } := by
      rintro x c q1 Q E ⟨g, gd, m | ⟨m, v, nn⟩⟩ q
      · exact ld_glob (X := X.suite a ((a, ob) :: (X.pn ++ pins))) S3 g m q gd
      · exact ld_blt (X := X.suite a ((a, ob) :: (X.pn ++ pins))) S3 g m v q nn gd
    have land : ∀ {Q : Unit → Shared → Prop} {E : Value → Shared → Prop}, (∀ h4 ob4, Inv X pins τ T { s' with heap := h4 } → Zc cls d ob4 → (∃ fv, ob4.data = .fields fv) → Inv (X.suite a ((a, ob4) :: (X.pn ++ pins))) [] τ T { s' with heap := h4 } → Q () { s' with heap := h4 }) →
        wpAny (model X.prog X.w) (X.A.mark (some (.ref a))) (setFlight (.ref a) none) Q E { s' with heap := h3 } := fun {Q E} q => HandSPX.lands_againZ fl fun h4 fl4 up4 => by
      have J4 : Inv X pins τ T { s' with heap := h4 } := J.landed nb fl4.1 ((up.trans up3).trans up4) os ag
      obtain ⟨o4, f4, e4, z4, d4⟩ := fl4.there
      exact q h4 o4 J4 z4 ⟨_, d4⟩ (J4.suite e4 d4 na nL nF)
    have go : ∀ {hds : List ExceptHandler} {l' : List Cl}, ClsOk X hds l' → wCls X.K Wo D l' cls d τ T → wpAny (model X.prog X.w) X.A (handleBy (.ref a) X.env hds) (SP X pins D) X.xe { s' with heap := h3 } := by
      intro hds l' hk
      induction hk with
      | nil =>
        intro w
        refine wpAny_handleBy_nil ?_
        obtain ⟨_, _, _, oe, vs, tb', _, _, he, _, hd, h1, _⟩ := id fl
        unfold PySem.passOn
        refine wpAny_bind (wpAny_field he hd h1 ?_)
        rw [if_neg (show ¬ ((Value.ref tb' == Value.none) = true) from by simp)]
        have fin : wpAny (model X.prog X.w) X.A (setFlight (.ref a) X.env.frame) (fun _ u4 => wpAny (model X.prog X.w) X.A (throw (.ref a) : Sem Flow) (SP X pins D) X.xe u4) X.xe { s' with heap := h3 } := by
          rw [hf]
          exact HandSPX.setFlight_upZ fl fun h4 hh4 up4 => wpAny_throw (tk _ _ ⟨a, B, sI, pins, τ, T, cls, d, rfl, J, nb, (up.trans up3).trans up4, .inr (.inr (by rw [hs]; exact hh4)), na, os, ag, w⟩)
        first
          | exact wpAny_bind (wpAny_pure (wpAny_bind fin))
          | exact wpAny_bind fin
      | @one x c ts b₀ su q1 q2 hds2 l2 hc hsu r ih =>
        rintro ⟨b, hb1, yes, no⟩
        refine wpAny_handleBy_cons (codeAny_handlers_test (name hc ((PySem.W.exm_one (M := model X.prog X.w) J3.kIn look hb1).here ?_))) nofun
        cases b with
        | false => exact ih (no rfl)
        | true =>
          refine codeAny_handlers_suite (land fun h4 o4 J4 z4 d4 S4 => ?_)
          exact wpAny_mono ((hsu a o4 cls d (X.pn ++ pins) z4 d4).run [] _ _ T _ S4 (yes rfl a na)) (fun f u6 q => sp_out (fun S => S.unsuite ok) q) fun _ _ z => False.elim z
      | @as x n i c ts b₀ su q1 q2 hds2 l2 hc hi hl hsu r ih =>
        rintro ⟨b, hb1, yes, no⟩
        refine wpAny_handleBy_cons (codeAny_handlers_test (name hc ((PySem.W.exm_one (M := model X.prog X.w) J3.kIn look hb1).here ?_))) nofun
        cases b with
        | false => exact ih (no rfl)
        | true =>
          refine codeAny_handlers_suite_as (land fun h4 o4 J4 z4 d4 S4 => ?_)
          refine store_ok (X := X.suite a ((a, o4) :: (X.pn ++ pins))) (v := .ref a) S4 hN hi (.inl hl) rfl (fun u5 S5 => ?_) (.inr hl)
          refine wpAny_mono ((hsu a o4 cls d (X.pn ++ pins) z4 d4).run [] u5 _ T _ S5 (yes rfl a na)) (fun f u6 q => ?_) fun _ _ z => False.elim z
          have bye : ∀ {τ6 : L2.St} {T6 : Hp} {Q : Shared → Prop}, Inv (X.suite a ((a, o4) :: (X.pn ++ pins))) [] τ6 T6 u6 → (∀ u7, Inv X pins (τ6.set i none) T6 u7 → Q u7) → wpAny (model X.prog X.w) X.A (do bindName X.env n .none; unbindBehindTheSuite X.env n q2) (fun _ u7 => Q u7) X.xe u6 :=
            fun S6 q6 => gone_ok (S6.unsuite ok) hN hi hl q6
          cases f
          case ret u => obtain ⟨v6, τ6, T6, S6, r6, q6⟩ := q; exact bye S6 fun u7 J7 => ⟨_, _, _, J7, r6, q6⟩
          all_goals (obtain ⟨τ6, T6, S6, q6⟩ := q; exact bye S6 fun u7 J7 => ⟨_, _, J7, q6⟩)
    exact go hh wish
  · have q := sp_out (fun S => Inv.ofTry S ok) ends
    cases f with
    | next => exact wpAny_execs_nil q
    | brk => exact q
    | cont => exact q
    | ret u => exact q
end
end HW

/-! HW22: try by words -/
namespace HW
open PySem L2 PySem.Spec PyProof.Rows
/-- own error classes, none below another one -/
structure ExT (K : PySem.W.Frag) (mg : Str → Option Value) (ns : List Str) : Prop where
  cl : ∀ n ∈ ns, ∃ C : Addr, mg n = some (.ref C)
  ex : ∀ n ∈ ns, ∀ n' ∈ ns, ∀ c c' : Value, mg n = some c → mg n' = some c' → PySem.W.exmOne K c c' = some (decide (n = n'))
/-- an except suite: slot i holds the error at a, which bears x -/
def tSu (M : MI) (K : PySem.W.Frag) (mg : Str → Option Value) (w0 : W) (a : Addr) (cls : Value) (d : Option Addr) (x : Xd) (i : Option Nat) (ws : WS) : TS := fun D σ H =>
  (∀ j, i = some j → j < σ.length → σ[j]? = some (some (.ref a))) ∧ ∃ (w : W) (ρ : List En) (dd : Dd), w.H = H ∧ SOk M K w0 w σ ρ ∧ XOk K mg w cls d x ∧ ws dd ρ w.c ∧ Cont M K w0 w dd D
def goneD (dd : Dd) : Option Nat → Dd
  | none => dd
  | some i => { nx := fun ρ c => dd.nx (ρ.set i .un) c, rt := dd.rt, bk := fun ρ c => dd.bk (ρ.set i .un) c, ct := fun ρ c => dd.ct (ρ.set i .un) c }
def heldE (ρ : List En) : Option Nat → List En
  | none => ρ
  | some i => ρ.set i .un
abbrev WCl := Str × Option Nat × (Xd → WS)
def wHd (x : Xd) (dd : Dd) (ρ : List En) (c : Nat) (rest : Prop) : List WCl → Prop
  | [] => rest
  | (n, i, ws) :: r => if x.C = n then ws x (goneD dd i) (heldE ρ i) c else wHd x dd ρ c rest r
def wTry (ns : List Str) (wb : (Xd → List En → Nat → Prop) → WS) (cl : List WCl) (R : Xd → List En → Nat → Prop) : WS := fun dd ρ c =>
  (∀ e ∈ ρ, En.mut e = false) ∧ wb (fun x ρ' c' => x.C ∈ ns ∧ wHd x dd ρ' c' (R x ρ' c') cl) dd ρ c
theorem EnvOk.setUn' {K : PySem.W.Frag} {w : W} {σ : L2.St} {ρ : List En} {s : Option V} (i : Nat) (h : EnvOk K w σ ρ) : EnvOk K w (σ.set i s) (ρ.set i .un) := by
  have back : ∀ {j : Nat} {b : Addr}, Own w (σ.set i s) (ρ.set i .un) j b → Own w σ ρ j b := by
    rintro j b ⟨p, e, h1, h2, h3, h4⟩
    by_cases z : i = j
    · subst z
      by_cases hl : i < ρ.length
      · rw [List.getElem?_set_self hl] at h2
        cases h2
        cases h3
      · rw [List.getElem?_eq_none (by simpa using hl)] at h2
        cases h2
    · rw [List.getElem?_set_ne z] at h1 h2
      exact ⟨p, e, h1, h2, h3, h4⟩
  refine ⟨by simpa using h.len, fun j e q => ?_, fun j1 j2 b o1 o2 => h.ap j1 j2 b (back o1) (back o2)⟩
  by_cases z : i = j
  · subst z
    by_cases hl : i < ρ.length
    · rw [List.getElem?_set_self hl] at q
      cases q
      exact True.intro
    · rw [List.getElem?_eq_none (by simpa using hl)] at q
      cases q
  · rw [List.getElem?_set_ne z] at q ⊢
    exact h.ok j e q
theorem own_un {w : W} {σ : L2.St} {ρ : List En} {s : Option V} {i j : Nat} {b : Addr} (o : Own w (σ.set i s) (ρ.set i .un) j b) : Own w σ ρ j b := by
  obtain ⟨p, e, h1, h2, h3, h4⟩ := o
  by_cases z : i = j
  · subst z
    by_cases hl : i < ρ.length
    · rw [List.getElem?_set_self hl] at h2
      cases h2
      cases h3
    · rw [List.getElem?_eq_none (by simpa using hl)] at h2
      cases h2
  · rw [List.getElem?_set_ne z] at h1 h2
    exact ⟨p, e, h1, h2, h3, h4⟩
theorem SOk.setUn {M : MI} {K : PySem.W.Frag} {w0 w : W} {σ : L2.St} {ρ : List En} {s : Option V} (i : Nat) (h : SOk M K w0 w σ ρ) : SOk M K w0 w (σ.set i s) (ρ.set i .un) :=
  ⟨h.ev.setUn' i, h.gd, h.st, fun j b o => h.ow j b (own_un o)⟩
theorem SOk.held {M : MI} {K : PySem.W.Frag} {w0 w : W} {σ : L2.St} {ρ : List En} (a : Addr) (i : Option Nat) (h : SOk M K w0 w σ ρ) : SOk M K w0 w (HW.held a σ i) (heldE ρ i) := by
  cases i with
  | none => exact h
  | some i => exact h.setUn i
theorem Cont.gone {M : MI} {K : PySem.W.Frag} {w0 w : W} {dd : Dd} {D : Ends} (i : Option Nat) (h : Cont M K w0 w dd D) : Cont M K w0 w (goneD dd i) (HW.gone D i) := by
  cases i with
  | none => exact h
  | some i => exact ⟨fun w' σ' ρ' f so q => h.nx w' _ _ f (so.setUn i) q, h.rt, fun w' σ' ρ' f so q => h.bk w' _ _ f (so.setUn i) q, fun w' σ' ρ' f so q => h.ct w' _ _ f (so.setUn i) q⟩
section
variable {X : Cx} {M : MI} {w0 : W} {ns : List Str}
/-- the clauses by their words -/
inductive HdOk (X : Cx) (M : MI) (w0 : W) (ns : List Str) : List ExceptHandler → List WCl → Prop
  | nil : HdOk X M w0 ns [] []
  | one {n : Str} {ws : Xd → WS} {b₀ : Stmt} {su : List Stmt} {q1 q2 : Pos} {hds : List ExceptHandler} {l : List WCl} (hn : n ∈ ns) (hg : Gl X n) (hd : (n == ("__debug__" : Str)) = false)
      (hsu : ∀ (a : Addr) (oe : Obj) (cls : Value) (d : Option Addr) (x : Xd) (pn : List (Addr × Obj)), Zc cls d oe → (∃ vs, oe.data = .fields vs) → x.C = n → PSs (X.suite a ((a, oe) :: pn)) (b₀ :: su) (tSu M X.K X.mg w0 a cls d x none (ws x))) (r : HdOk X M w0 ns hds l) :
      HdOk X M w0 ns (.ExceptHandler (some (.Name n q1)) none (b₀ :: su) q2 :: hds) ((n, none, ws) :: l)
  | as {n y : Str} {i : Nat} {ws : Xd → WS} {b₀ : Stmt} {su : List Stmt} {q1 q2 : Pos} {hds : List ExceptHandler} {l : List WCl} (hn : n ∈ ns) (hg : Gl X n) (hd : (n == ("__debug__" : Str)) = false) (hi : X.N[i]? = some y) (hl : X.env.kindOf y = some .local)
      (hsu : ∀ (a : Addr) (oe : Obj) (cls : Value) (d : Option Addr) (x : Xd) (pn : List (Addr × Obj)), Zc cls d oe → (∃ vs, oe.data = .fields vs) → x.C = n → PSs (X.suite a ((a, oe) :: pn)) (b₀ :: su) (tSu M X.K X.mg w0 a cls d x (some i) (ws x))) (r : HdOk X M w0 ns hds l) :
      HdOk X M w0 ns (.ExceptHandler (some (.Name n q1)) (some y) (b₀ :: su) q2 :: hds) ((n, some i, ws) :: l)
/-- the reading of a clause: for whatever is caught -/
def tCl (M : MI) (X : Cx) (w0 : W) (n : Str) (i : Option Nat) (ws : Xd → WS) : Addr → Value → Option Addr → TS := fun a cls d D σ H => ∃ x : Xd, x.C = n ∧ tSu M X.K X.mg w0 a cls d x i (ws x) D σ H
theorem pss_cl {su : List Stmt} {Y : Cx} {n : Str} {t : Xd → TS} (h : ∀ x : Xd, x.C = n → PSs Y su (t x)) : PSs Y su (fun D σ H => ∃ x : Xd, x.C = n ∧ t x D σ H) := ⟨fun p s σ H Q I ⟨x, e, q⟩ => (h x e).run p s σ H Q I q⟩
theorem HdOk.cls (T : ExT X.K X.mg ns) : ∀ {hds : List ExceptHandler} {l : List WCl}, HdOk X M w0 ns hds l → ∃ l' : List Cl, ClsOk X hds l' ∧
    ∀ (Wo : WX) (D : Ends) (dd : Dd) (R : Xd → List En → Nat → Prop) (w : W) (σ : L2.St) (ρ : List En) (cls : Value) (d : Option Addr) (x : Xd), SOk M X.K w0 w σ ρ → XOk X.K X.mg w cls d x → x.C ∈ ns → Cont M X.K w0 w dd D →
      (∀ w' : W, w'.H = w.H → R x ρ w.c → Wo cls d σ w.H) → wHd x dd ρ w.c (R x ρ w.c) l → wCls X.K Wo D l' cls d σ w.H
  | _, _, .nil => ⟨[], .nil, fun Wo D dd R w σ ρ cls d x so xo hx k ko h => ko w rfl h⟩
  | _, _, .one (n := n) (ws := ws) hn hg hd hsu r => by
    obtain ⟨l', ok, go⟩ := HdOk.cls T r
    obtain ⟨C, mC⟩ := T.cl n hn
    refine ⟨(.ref C, none, tCl M X w0 n none ws) :: l', .one ⟨hg, hd, .inl mC⟩ (fun a oe cls d pn z f => pss_cl fun x e => hsu a oe cls d x pn z f e) ok, fun Wo D dd R w σ ρ cls d x so xo hx k ko h => ?_⟩
    refine ⟨decide (x.C = n), T.ex _ hx n hn _ _ xo.1 mC, fun e a ha => ?_, fun e => ?_⟩
    · have e' : x.C = n := of_decide_eq_true e
      refine ⟨x, e', fun j z => (nomatch z), w, ρ, dd, rfl, so, xo, ?_, k⟩
      have h' : (if x.C = n then ws x dd ρ w.c else wHd x dd ρ w.c (R x ρ w.c) _) := h
      rw [if_pos e'] at h'
      exact h'
    · have e' : ¬ x.C = n := of_decide_eq_false e
      have h' : (if x.C = n then ws x dd ρ w.c else wHd x dd ρ w.c (R x ρ w.c) _) := h
      rw [if_neg e'] at h'
      exact go Wo D dd R w σ ρ cls d x so xo hx k ko h'
  | _, _, .as (n := n) (i := i) (ws := ws) hn hg hd hi hl hsu r => by
    obtain ⟨l', ok, go⟩ := HdOk.cls T r
    obtain ⟨C, mC⟩ := T.cl n hn
    refine ⟨(.ref C, some i, tCl M X w0 n (some i) ws) :: l', .as ⟨hg, hd, .inl mC⟩ hi hl (fun a oe cls d pn z f => pss_cl fun x e => hsu a oe cls d x pn z f e) ok, fun Wo D dd R w σ ρ cls d x so xo hx k ko h => ?_⟩
    refine ⟨decide (x.C = n), T.ex _ hx n hn _ _ xo.1 mC, fun e a ha => ?_, fun e => ?_⟩
    · have e' : x.C = n := of_decide_eq_true e
      refine ⟨x, e', fun j z hj => ?_, w, ρ.set i .un, goneD dd (some i), rfl, so.held a (some i), xo, ?_, k.gone (some i)⟩
      · cases z
        have hj' : i < σ.length := by simpa [HW.held] using hj
        exact List.getElem?_set_self hj'
      have h' : (if x.C = n then ws x (goneD dd (some i)) (ρ.set i .un) w.c else wHd x dd ρ w.c (R x ρ w.c) _) := h
      rw [if_pos e'] at h'
      exact h'
    · have e' : ¬ x.C = n := of_decide_eq_false e
      have h' : (if x.C = n then ws x (goneD dd (some i)) (ρ.set i .un) w.c else wHd x dd ρ w.c (R x ρ w.c) _) := h
      rw [if_neg e'] at h'
      exact go Wo D dd R w σ ρ cls d x so xo hx k ko h'
variable {body : List Stmt} {c0 : ExceptHandler} {cs : List ExceptHandler} {cl : List WCl} {pos : Pos} {wb : (Xd → List En → Nat → Prop) → WS} {R : Xd → List En → Nat → Prop}
theorem SOk.lift {K : PySem.W.Frag} {w w' : W} {σ σ' : L2.St} {ρ ρ' : List En} (so : SOk M K w0 w σ ρ) (h : SOk M K w w' σ' ρ') : SOk M K w0 w' σ' ρ' := ⟨h.ev, h.gd, so.st.trans h.st, fun i a o => nn so.st (h.ow i a o)⟩
theorem SOk.fresh {K : PySem.W.Frag} {w : W} {σ : L2.St} {ρ : List En} (so : SOk M K w0 w σ ρ) (n : ∀ e ∈ ρ, En.mut e = false) : SOk M K w w σ ρ := ⟨so.ev, so.gd, Stp.refl w, fun i a ⟨p, e, _, h2, h3, _⟩ => by
  rw [n e (List.mem_of_getElem? h2)] at h3
  cases h3⟩
theorem Cont.lift {K : PySem.W.Frag} {w w1 : W} {σ : L2.St} {ρ : List En} {dd : Dd} {D : Ends} (so : SOk M K w0 w σ ρ) (k : Cont M K w0 w dd D) : Cont M K w w dd D :=
  ⟨fun w' σ' ρ' f s q => k.nx w' σ' ρ' f (so.lift s) q, fun w' v d s g dv q => k.rt w' v d (so.st.trans s) g dv q, fun w' σ' ρ' f s q => k.bk w' σ' ρ' f (so.lift s) q, fun w' σ' ρ' f s q => k.ct w' σ' ρ' f (so.lift s) q⟩
theorem s_try (hs : X.stack = X.env :: X.outer) (hf : X.env.frame = some X.env.locals) (hN : X.N.Nodup) (T : ExT X.K X.mg ns) (tk : TkR X M w0 R)
    (hb : ∀ (w1 : W) (R' : Xd → List En → Nat → Prop) (pn : List (Addr × Obj)) (xe : Value → Shared → Prop), TkR (X.tr pn xe) M w1 R' → PassesOwn (model X.prog X.w) X.A X.env xe → PSs (X.tr pn xe) body (tS M X.K w1 (wb R')))
    (hh : HdOk X M w0 ns (c0 :: cs) cl) : PS X (.Try body (c0 :: cs) [] [] pos) (tS M X.K w0 (wTry ns wb cl R)) := by
  obtain ⟨l', ok, go⟩ := HdOk.cls T hh
  refine PS.imp (ps_tryN hs hf hN tk (tb := fun W D σ H => ∃ (w1 : HW.W) (R' : Xd → List En → Nat → Prop), (∀ (w' : HW.W) (σ' : L2.St) (ρ' : List En) (cls : Value) (d : Option Addr) (x : Xd), SOk M X.K w1 w' σ' ρ' → XOk X.K X.mg w' cls d x → R' x ρ' w'.c → W cls d σ' w'.H) ∧ tS M X.K w1 (wb R') D σ H) (fun W pn xe tkW ps => ?_) ok) ?_
  · refine ⟨fun p s σ H D I ⟨w1, R', hR, q⟩ => (hb w1 R' pn xe (tkW.imp fun c d σ' H' ⟨w', ρ', x, e, so, xo, r⟩ => e ▸ hR w' σ' ρ' c d x so xo r) ps).run p s σ H D I q⟩
  · rintro D σ H ⟨w, ρ, dd, eh, so, ⟨nm, hw⟩, k⟩
    refine ⟨w, _, fun w' σ' ρ' cls d x s' xo ⟨hx, r⟩ => ?_, w, ρ, dd, eh, so.fresh nm, hw, k.lift (w1 := w) so⟩
    exact go _ D dd R w' σ' ρ' cls d x (so.lift s') xo hx (k.mono (s'.st.fk so.gd)) (fun w2 e r2 => ⟨w', ρ', x, rfl, so.lift s', xo, r2⟩) r
/-- a suite that doesn't look at the error -/
theorem su_plain {Y : Cx} {sts : List Stmt} {a : Addr} {cls : Value} {d : Option Addr} {x : Xd} {i : Option Nat} {ws : WS} (h : PSs Y sts (tS M Y.K w0 ws)) : PSs Y sts (tSu M Y.K Y.mg w0 a cls d x i ws) :=
  PSs.imp h fun D σ H ⟨_, w, ρ, dd, eh, so, _, hw, k⟩ => ⟨w, ρ, dd, eh, so, hw, k⟩
/-- y = e.f, e the caught error -/
def wXf (f : Str) (x : Xd) (i j : Nat) : WS := fun dd ρ c => i < ρ.length ∧ ∃ d, x.fs.lookup f = some d ∧ dd.nx (ρ.set j (.im d)) c
theorem su_fld {y z f n : Str} {i j : Nat} {p1 p2 p3 pos : Pos} {a : Addr} {oe : Obj} {cls : Value} {d : Option Addr} {pn : List (Addr × Obj)} {x : Xd} {k : Nat} (T : XcOk X.prog X.w X.K X.mg X.base k n (some f)) (hz : Zc cls d oe) (hv : ∃ vs, oe.data = .fields vs) (hx : x.C = n)
    (he : PE (X.suite a ((a, oe) :: pn)) (.Name y p1) (tVar i)) (hN : X.N.Nodup) (hi : X.N[j]? = some z) (hL : Loc X.env.scope z) (hb : attributeBase (.Name y p1) f X.env (eval (.Name y p1) X.env) = eval (.Name y p1) X.env := by rfl)
    (hsw : swapsWith (.Attribute (.Name y p1) f p2) (some (.Name z p3)) pos.line X.env = pure false := by rfl) (hf : X.fn z = true ∨ X.env.scope.names.lookup z = some .local := by first | exact .inl rfl | exact .inr rfl | assumption) :
    PS (X.suite a ((a, oe) :: pn)) (.Assign [.Name z p3] (.Attribute (.Name y p1) f p2) pos) (tSu M X.K X.mg w0 a cls d x (some i) (wXf f x i j)) := by
  obtain ⟨C, fI, fd, ps, gC, T1, iC, tI, b, nf, F1⟩ := T.ex
  refine PS.imp (ps_set (X := X.suite a ((a, oe) :: pn)) (i := j) hN hi hL (pe_xf (nf f rfl).2 (nf f rfl).1 hz hv he hb) hsw hf) ?_
  rintro D σ H ⟨hs, w, ρ, dd, eh, so, xo, ⟨hl', dv, el, q⟩, kk⟩
  have hσ : i < σ.length := by rw [so.ev.len]; exact hl'
  refine ⟨_, hs i rfl hσ, rfl, ?_⟩
  have ec : cls = .ref C := by
    have := xo.1
    rw [hx, gC] at this
    exact (Option.some.inj this).symm
  rcases xo.2 with ⟨_, e0⟩ | ⟨dd', fvs, e1, e2, e3, e4⟩
  · rw [e0] at el
    cases el
  · obtain ⟨v, lv, hdv⟩ := e4.get el
    subst eh
    exact ⟨ec, dd', fvs, v, e1, e2, lv, kk.nx w _ _ (Fk.refl w) (so.setIm hdv) q⟩
end
end HW

/-! HW23: len(set(texts)) of any length; texts cut with a step -/
namespace SetS
open PySem PySem.Spec PyProof.Rows
/-- the texts, each once -/
def once (xs : List Str) : List Str := xs.foldl (fun acc x => if x ∈ acc then acc else acc ++ [x]) []
theorem once_snoc (xs : List Str) (x : Str) : once (xs ++ [x]) = if x ∈ once xs then once xs else once xs ++ [x] := by
  unfold once
  rw [List.foldl_append]
  rfl
theorem mem_once (k : Str) : ∀ xs : List Str, k ∈ once xs ↔ k ∈ xs := by
  have go : ∀ r : List Str, k ∈ once r.reverse ↔ k ∈ r.reverse := by
    intro r
    induction r with
    | nil => exact Iff.rfl
    | cons x r ih =>
      rw [List.reverse_cons, once_snoc]
      by_cases h : x ∈ once r.reverse
      · rw [if_pos h]
        constructor
        · intro z; exact List.mem_append_left _ (ih.mp z)
        · intro z
          rcases List.mem_append.mp z with z | z
          · exact ih.mpr z
          · rw [List.mem_singleton.mp z]; exact h
      · rw [if_neg h, List.mem_append, List.mem_append, ih]
  intro xs
  have := go xs.reverse
  rwa [List.reverse_reverse] at this
theorem once_len (xs : List Str) : (once xs).length ≤ xs.length := by
  have go : ∀ r : List Str, (once r.reverse).length ≤ r.length := by
    intro r
    induction r with
    | nil => exact Nat.le_refl 0
    | cons x r ih =>
      rw [List.reverse_cons, once_snoc]
      split
      · exact Nat.le_trans ih (Nat.le_succ _)
      · rw [List.length_append]; exact Nat.succ_le_succ ih
  have := go xs.reverse
  rwa [List.reverse_reverse, List.length_reverse] at this
section
variable {prog : Program} {w : World} {A : Around} {R : Result → Shared → Prop} {I : Addr} {fp wr : List Addr} {G : Array GenState → Array GenState → Prop} {n : Nat} {Pv : Nat → Value → Prop} {St : Nat → Shared → Prop}
abbrev At' (prog : Program) (w : World) (h : Heap) (S : Addr) (xs : List Str) : Prop := h.SetOf (PySem.strKind prog w) S (fun k => decide (k ∈ xs)) (once xs).length
theorem go_on (W : WalksS prog w A.in1 I fp wr G n Pv St) {S : Addr} (nS : S ∉ fp) {xs : List Str} (e : n = xs.length) (room : xs.length + 1 < scanBound) (val : ∀ i v, Pv i v → ∃ t, v = .str (xs.getD i Str.empty) t) :
    ∀ (left i : Nat) (s : Shared), n - i = left → i ≤ n → St i s → At' prog w s.heap S (xs.take i) → (∀ s', Moved (S :: wr) G s s' → At' prog w s'.heap S xs → R (.ok (.ret .none)) s') →
      codeAny (model prog w) A (.builtin "set.update.loop" ⟨[.ref S, .ref I], []⟩) R s
  | 0, i, s, hl, hi, st, at1, out => by
    have ei : i = n := by omega
    subst ei
    refine (codeAny_builtin PyProof.Rows.F.entry_set_update_loop ?_)
    rw [Around.under_plainId PyProof.Rows.F.plain_set_update_loop _]
    refine (show wpAny _ A.in1 (pyNext (.ref I) >>= _) _ _ s from wpAny_bind (W.done s _ _ st fun s' mv => ?_))
    refine (show wpAny _ A.in1 (ret Value.none) _ _ s' from wpAny_pure (out s' (mv.mono fun b hb => List.mem_cons_of_mem _ hb) ?_))
    rw [List.take_of_length_le (by omega)] at at1
    obtain ⟨o, es, ep, tb, ho, rest⟩ := at1
    exact ⟨o, es, ep, tb, mv.heap S _ (fun h => nS (W.sub _ h)) ho, rest⟩
  | left + 1, i, s, hl, hi, st, at1, out => by
    have lt : i < n := by omega
    refine (codeAny_builtin PyProof.Rows.F.entry_set_update_loop ?_)
    rw [Around.under_plainId PyProof.Rows.F.plain_set_update_loop _]
    refine (show wpAny _ A.in1 (pyNext (.ref I) >>= _) _ _ s from wpAny_bind (W.item i s _ _ lt st fun v s' hP st' mv => ?_))
    obtain ⟨t, rfl⟩ := val i v hP
    have at2 : At' prog w s'.heap S (xs.take i) := by
      obtain ⟨o, es, ep, tb, ho, rest⟩ := at1
      exact ⟨o, es, ep, tb, mv.heap S _ (fun h => nS (W.sub _ h)) ho, rest⟩
    have lx : i < xs.length := by omega
    have ex : xs.getD i Str.empty = xs[i] := by simp [lx]
    have ll : (once (xs.take i)).length ≤ i := Nat.le_trans (once_len _) (by rw [List.length_take]; omega)
    rw [ex]
    refine (show wpAny _ A.in1 (holding [Value.str xs[i] t] (setAdd S (.str xs[i] t)) >>= _) _ _ s' from wpAny_bind (wpAny_holding ?_))
    unfold setAdd
    refine wpAny_holding (wpAny_bind ((PySem.strKind prog w).pyHash (k := xs[i]) (strKind_is _ _ _ _) ?_))
    refine wpAny_setAddHashed_of (knd := PySem.strKind prog w) (s := { s' with toks := s'.toks + 1 }) (strKind_is _ _ _ _) rfl at2 (by omega) fun h' sb at3 => ?_
    have tk : xs.take (i + 1) = xs.take i ++ [xs[i]] := by rw [List.take_add_one, List.getElem?_eq_getElem lx]; rfl
    have at4 : At' prog w h' S (xs.take (i + 1)) := by
      refine SetOf_congr at3 (fun k' => ?_) ?_
      · have z : k' ∈ List.take i xs ++ [xs[i]] ↔ (k' ∈ List.take i xs ∨ k' = xs[i]) := by rw [List.mem_append, List.mem_singleton]
        rw [tk, decide_eq_decide.mpr z, Bool.decide_or]
      · rw [tk, once_snoc]
        by_cases z : xs[i] ∈ xs.take i
        · rw [if_pos (by simpa using z), if_pos ((mem_once _ _).mpr z)]
        · rw [if_neg (by simpa using z), if_neg (fun y => z ((mem_once _ _).mp y)), List.length_append]; rfl
    refine wpAny_pure ⟨plainId_quiet PyProof.Rows.F.plain_set_update_loop _, go_on W nS e room val left (i + 1) _ (by omega) lt (W.frame _ s' _ _ st' (Nat.le_succ _) fun b hb o z => ?_) at4 fun s2 mv2 at5 => ?_⟩
    · exact (sb.2 b (fun y : b = S => nS (y ▸ hb))).trans z
    · refine out s2 (Moved.trans W.gtrans ((mv.mono fun b hb => List.mem_cons_of_mem _ hb).then_heap (Nat.le_succ _) fun b o hb z => ?_) mv2) at5
      exact (sb.2 b (fun y : b = S => hb (y ▸ List.mem_cons_self))).trans z
end
section
variable {prog : Program} {w : World} {A : Around} {E : Value → Shared → Prop} {s : Shared}
abbrev fresh0 (led : Bool) : Obj := { cls := .type "set", dict := none, data := .set #[] 0 (.fresh 0 0 led) }
theorem call_set_tupleN {l : Addr} {items : Array Value} {xs : List Str} {Q : Value → Shared → Prop} (hh : A.handled = none) (hl : s.heap.IsTuple l items) (hi : PyProof.Rows.StrsAre items.toList xs) (room : xs.length + 1 < scanBound)
    (h : ∀ (h' : Heap) (tk : Nat), At' prog w h' s.heap.objs.size xs → (∀ b o, s.heap.get? b = some o → h'.get? b = some o) → Q (.ref s.heap.objs.size) { s with heap := h', toks := tk }) :
    wpAny (model prog w) A (call (.type "set") [.ref l]) Q E s := by
  have sz : items.size = xs.length := by rw [← StrsAre.len_eq hi, Array.length_toList]
  obtain ⟨c, tl, hmro⟩ := PySem.F.called_set.mro
  have m1 := PySem.F.called_set.made
  have m2 := PySem.F.called_set.sub
  refine (wpAny_call (codeAny_of_tree ?_))
  refine (show wpAny _ _ (callAny (.type "set") _) _ _ _ from wpAny_pure ⟨Code.quiet_builtin _ (by decide +kernel), codeAny_builtin PySem.F.entry_type_call ?_⟩)
  rw [Around.under_plain (weight_type_call_type "set" [.ref l] []) rfl]
  have m3 := PySem.F.called_set.notType
  have m4 := PySem.F.called_set.canCreate
  have m5 := PySem.F.typeCall_set_1 (.ref l)
  (repeat (any_goals (first | assumption | wp_step)))
  refine codeAny_mono (code_set_new_1 (.ref l) (E := E) (Q₁ := fun obj s₁ => ∃ led : Bool, obj = .ref s.heap.objs.size ∧ s₁ = { s with heap := s.heap.push (fresh0 led) }) fun led => ⟨led, rfl, rfl⟩) fun r s₁ hr => ?_
  cases r with
  | error e => exact hr
  | ok fl =>
    cases fl with
    | ret obj =>
      obtain ⟨led, rfl, rfl⟩ := hr
      have hS : (s.heap.push (fresh0 led)).get? s.heap.objs.size = some (fresh0 led) := Heap.get?_push_size _ rfl
      have hT : Shared.TypeIs { s with heap := s.heap.push (fresh0 led) } (.ref s.heap.objs.size) "set" := ⟨_, hS, rfl⟩
      have i1 := PySem.F.called_set.init.lookup
      have i2 := PySem.F.called_set.init.bind (.ref s.heap.objs.size)
      (repeat (any_goals (first | assumption | wp_step)))
      refine codeAny_mono (codeAny_call_builtin (R := wants (fun r s₂ => r = .none ∧ ∃ h' tk, s₂ = { s with heap := h', toks := tk } ∧ At' prog w h' s.heap.objs.size xs ∧ (∀ b o, s.heap.get? b = some o → h'.get? b = some o)) E) PySem.F.called_set.init.plain PySem.F.entry_set_init (check_set_init_1 hT ?_)) fun r₂ s₂ hr₂ => ?_
      · obtain ⟨ol, hol, hcl, nl, hdl⟩ := hl
        obtain ⟨ocls, odict, odata, oslots⟩ := ol
        simp only at hcl hdl
        subst hcl; subst hdl
        have hol' : (s.heap.push (fresh0 led)).get? l = some { cls := .type "tuple", dict := odict, data := .seq items nl, slots := oslots } := Heap.get?_push_of_some _ hol
        have j1 := PySem.F.sub_tuple_set
        have j2 := PySem.F.sub_tuple_frozenset
        have j3 : (Value.type "tuple" == Value.type "dict") = false := by decide
        have hl1 : (s.heap.push (fresh0 led)).IsTuple l items := ⟨_, hol', rfl, nl, rfl⟩
        unfold Builtin.«set.__init__» noKeywords Builtin.Frozenset.updateFrom
        generalize hPI : pyIter = PI
        wp_walk
        subst hPI
        refine wpAny_pyIter_tuple hl1 (wpAny_bind (wpAny_runValue ?_))
        have lS : l < s.heap.objs.size := Heap.lt_size hol
        have h3 : A.in1.in1.in1.handled = none := by simp [hh]
        have nI : l ≠ (s.heap.push (fresh0 led)).objs.size := by rw [Heap.size_push]; exact Nat.ne_of_lt (Nat.lt_succ_of_lt lS)
        have nS : s.heap.objs.size ∉ [(s.heap.push (fresh0 led)).objs.size, l] := by
          rw [Heap.size_push]; simp only [List.mem_cons, List.mem_singleton, List.not_mem_nil, or_false, not_or]; exact ⟨Nat.ne_of_lt (Nat.lt_succ_self _), Nat.ne_of_gt lS⟩
        refine go_on ((Walks.tuple h3 _ l nI items).toS) nS sz room (fun i v hv => SS.strs_at hi i v (by rw [Array.getElem?_toList]; exact hv)) (items.size - 0) 0 _ (by omega) (Nat.zero_le _) ⟨⟨_, Heap.get?_push_size _ rfl, rfl, rfl⟩, (hl1.push _)⟩ ?hS0 ?hR
        case hS0 =>
          have hget : ((s.heap.push (fresh0 led)).push { cls := .type "tuple_iterator", data := .fields #[.ref l, .int 0 0] }).get? s.heap.objs.size = some (fresh0 led) := Heap.get?_push_of_some _ hS
          exact PyProof.Rows.SetOf_congr ((PyProof.Rows.setObjOf_fresh (knd := PySem.strKind prog w) led).setOf hget (by unfold scanBound; omega)) (fun _ => rfl) rfl
        case hR =>
          intro s' mv at1
          obtain ⟨h', g', d', tk', os'⟩ := s'
          obtain rfl : g' = s.gens := mv.gens
          obtain rfl : d' = s.drawn := mv.drawn
          obtain rfl : os' = s.os := mv.os
          refine wpAny_pure (show wpAny _ _ (ret Value.none) _ _ _ from wpAny_pure ⟨rfl, h', tk', rfl, at1, fun b o z => ?_⟩)
          have lb := Heap.lt_size z
          have n2 : b ≠ (s.heap.push (fresh0 led)).objs.size := by rw [Heap.size_push]; exact Nat.ne_of_lt (Nat.lt_succ_of_lt lb)
          exact mv.heap b o (by simp only [List.mem_cons, List.mem_singleton, List.not_mem_nil, or_false, not_or]; exact ⟨Nat.ne_of_lt lb, n2⟩) (Heap.get?_push_of_some _ (Heap.get?_push_of_some _ z))
      · cases r₂ with
        | error e => exact hr₂
        | ok fl₂ =>
          cases fl₂ with
          | ret r =>
            obtain ⟨rfl, h', tk, rfl, q1, q2⟩ := hr₂
            (repeat (any_goals (first | assumption | wp_step)))
            exact h _ _ q1 q2
          | _ => exact hr₂.elim
    | _ => exact hr.elim
theorem call_set_listN {l : Addr} {items : Array Value} {xs : List Str} {Q : Value → Shared → Prop} (hh : A.handled = none) (hl : s.heap.IsList l items) (hi : PyProof.Rows.StrsAre items.toList xs) (room : xs.length + 1 < scanBound)
    (h : ∀ (h' : Heap) (tk : Nat), At' prog w h' s.heap.objs.size xs → (∀ b o, s.heap.get? b = some o → h'.get? b = some o) → Q (.ref s.heap.objs.size) { s with heap := h', toks := tk }) :
    wpAny (model prog w) A (call (.type "set") [.ref l]) Q E s := by
  have sz : items.size = xs.length := by rw [← StrsAre.len_eq hi, Array.length_toList]
  obtain ⟨c, tl, hmro⟩ := PySem.F.called_set.mro
  have m1 := PySem.F.called_set.made
  have m2 := PySem.F.called_set.sub
  refine (wpAny_call (codeAny_of_tree ?_))
  refine (show wpAny _ _ (callAny (.type "set") _) _ _ _ from wpAny_pure ⟨Code.quiet_builtin _ (by decide +kernel), codeAny_builtin PySem.F.entry_type_call ?_⟩)
  rw [Around.under_plain (weight_type_call_type "set" [.ref l] []) rfl]
  have m3 := PySem.F.called_set.notType
  have m4 := PySem.F.called_set.canCreate
  have m5 := PySem.F.typeCall_set_1 (.ref l)
  (repeat (any_goals (first | assumption | wp_step)))
  refine codeAny_mono (code_set_new_1 (.ref l) (E := E) (Q₁ := fun obj s₁ => ∃ led : Bool, obj = .ref s.heap.objs.size ∧ s₁ = { s with heap := s.heap.push (fresh0 led) }) fun led => ⟨led, rfl, rfl⟩) fun r s₁ hr => ?_
  cases r with
  | error e => exact hr
  | ok fl =>
    cases fl with
    | ret obj =>
      obtain ⟨led, rfl, rfl⟩ := hr
      have hS : (s.heap.push (fresh0 led)).get? s.heap.objs.size = some (fresh0 led) := Heap.get?_push_size _ rfl
      have hT : Shared.TypeIs { s with heap := s.heap.push (fresh0 led) } (.ref s.heap.objs.size) "set" := ⟨_, hS, rfl⟩
      have i1 := PySem.F.called_set.init.lookup
      have i2 := PySem.F.called_set.init.bind (.ref s.heap.objs.size)
      (repeat (any_goals (first | assumption | wp_step)))
      refine codeAny_mono (codeAny_call_builtin (R := wants (fun r s₂ => r = .none ∧ ∃ h' tk, s₂ = { s with heap := h', toks := tk } ∧ At' prog w h' s.heap.objs.size xs ∧ (∀ b o, s.heap.get? b = some o → h'.get? b = some o)) E) PySem.F.called_set.init.plain PySem.F.entry_set_init (check_set_init_1 hT ?_)) fun r₂ s₂ hr₂ => ?_
      · obtain ⟨ol, hol, hcl, nl, hdl⟩ := hl
        obtain ⟨ocls, odict, odata, oslots⟩ := ol
        simp only at hcl hdl
        subst hcl; subst hdl
        have hol' : (s.heap.push (fresh0 led)).get? l = some { cls := .type "list", dict := odict, data := .seq items nl, slots := oslots } := Heap.get?_push_of_some _ hol
        have j1 := PySem.F.sub_list_set
        have j2 := PySem.F.sub_list_frozenset
        have j3 : (Value.type "list" == Value.type "dict") = false := by decide
        have hl1 : (s.heap.push (fresh0 led)).IsList l items := ⟨_, hol', rfl, nl, rfl⟩
        unfold Builtin.«set.__init__» noKeywords Builtin.Frozenset.updateFrom
        generalize hPI : pyIter = PI
        wp_walk
        subst hPI
        refine wpAny_pyIter_list hl1 (wpAny_bind (wpAny_runValue ?_))
        have lS : l < s.heap.objs.size := Heap.lt_size hol
        have h3 : A.in1.in1.in1.handled = none := by simp [hh]
        have nI : l ≠ (s.heap.push (fresh0 led)).objs.size := by rw [Heap.size_push]; exact Nat.ne_of_lt (Nat.lt_succ_of_lt lS)
        have nS : s.heap.objs.size ∉ [(s.heap.push (fresh0 led)).objs.size, l] := by
          rw [Heap.size_push]; simp only [List.mem_cons, List.mem_singleton, List.not_mem_nil, or_false, not_or]; exact ⟨Nat.ne_of_lt (Nat.lt_succ_self _), Nat.ne_of_gt lS⟩
        refine go_on ((Walks.list h3 _ l nI items).toS) nS sz room (fun i v hv => SS.strs_at hi i v (by rw [Array.getElem?_toList]; exact hv)) (items.size - 0) 0 _ (by omega) (Nat.zero_le _) ⟨⟨_, Heap.get?_push_size _ rfl, rfl, rfl⟩, (hl1.push _)⟩ ?hS0 ?hR
        case hS0 =>
          have hget : ((s.heap.push (fresh0 led)).push { cls := .type "list_iterator", data := .fields #[.ref l, .int 0 0] }).get? s.heap.objs.size = some (fresh0 led) := Heap.get?_push_of_some _ hS
          exact PyProof.Rows.SetOf_congr ((PyProof.Rows.setObjOf_fresh (knd := PySem.strKind prog w) led).setOf hget (by unfold scanBound; omega)) (fun _ => rfl) rfl
        case hR =>
          intro s' mv at1
          obtain ⟨h', g', d', tk', os'⟩ := s'
          obtain rfl : g' = s.gens := mv.gens
          obtain rfl : d' = s.drawn := mv.drawn
          obtain rfl : os' = s.os := mv.os
          refine wpAny_pure (show wpAny _ _ (ret Value.none) _ _ _ from wpAny_pure ⟨rfl, h', tk', rfl, at1, fun b o z => ?_⟩)
          have lb := Heap.lt_size z
          have n2 : b ≠ (s.heap.push (fresh0 led)).objs.size := by rw [Heap.size_push]; exact Nat.ne_of_lt (Nat.lt_succ_of_lt lb)
          exact mv.heap b o (by simp only [List.mem_cons, List.mem_singleton, List.not_mem_nil, or_false, not_or]; exact ⟨Nat.ne_of_lt lb, n2⟩) (Heap.get?_push_of_some _ (Heap.get?_push_of_some _ z))
      · cases r₂ with
        | error e => exact hr₂
        | ok fl₂ =>
          cases fl₂ with
          | ret r =>
            obtain ⟨rfl, h', tk, rfl, q1, q2⟩ := hr₂
            (repeat (any_goals (first | assumption | wp_step)))
            exact h _ _ q1 q2
          | _ => exact hr₂.elim
    | _ => exact hr.elim
end
end SetS

/-! HW24: len(set(texts)); texts cut with a step -/
namespace L2
open PySem PySem.Spec PyProof.Rows
def tLenS (K : PySem.W.Frag) (ta : TE) : TE := fun σ H Q => ta σ H fun x H1 => ∃ (l : Addr) (xs : List Str), x = .ref l ∧ (SqL K H1 l (xs.map V.str) ∨ SqT K H1 l (xs.map V.str)) ∧ xs.length ≤ 4000 ∧ Q (.int (SetS.once xs).length) H1
theorem pe_lenS {X : Cx} {a : Expr} {ta : TE} {p p2 q pos : Pos} (hc : X.calm = true) (hg : Gl X "len") (hm : X.mg "len" = none) (hg2 : Gl X "set") (hm2 : X.mg "set" = none) (ha : PE X a ta)
    (na : starEach [a] X.env = (false, eval a X.env) :: starEach [] X.env := by rfl) : PE X (.Call (.Name "len" p) [.Call (.Name "set" p2) [a] [] q] [] pos) (tLenS X.K ta) := by
  refine ⟨fun pins s σ H Q I h => Call_ (ld_blt I hg hm boot_len (PyProof.Rows.callWith_builtin1 (PyProof.Rows.args_cons ?_ rfl) rfl rfl))⟩
  refine Call_ (ld_blt I hg2 hm2 boot_set (PyProof.Rows.callWith_type1 (PyProof.Rows.args_cons (thn (ha.run pins s σ H _ I h) ?_) na) na rfl))
  rintro v s1 ⟨x, H1, I1, r1, l, xs, rfl, hq, hl, q1⟩
  refine (PyProof.Rows.args_nil ?_)
  cases r1
  have room : xs.length + 1 < scanBound := by unfold scanBound; omega
  have fin : ∀ (h' : Heap) (tk : Nat), SetS.At' X.prog X.w h' s1.heap.objs.size xs → (∀ b o, s1.heap.get? b = some o → h'.get? b = some o) →
      wpAny (model X.prog X.w) X.A (spliced (backTo pos (starEach [] X.env))) (fun vs s₂ => wpAny (model X.prog X.w) X.A (call (.builtin "len") (Value.ref s1.heap.objs.size :: vs)) (EP X pins σ Q) X.xe s₂) X.xe { s1 with heap := h', toks := tk } := by
    rintro h' tk ⟨o, es, ep, t, ho, hex, hd, _, _, _, hf, hn⟩ hk
    have le := SetS.once_len xs
    exact PyProof.Rows.args_nil (call_len_set ho hex hd hf (by rw [hn] <;> omega) ⟨.int (SetS.once xs).length, H1, (I1.kept hk).tok _, ⟨_, by rw [hn]⟩, q1⟩)
  rcases hq with hq | hq
  · obtain ⟨its, r, pl, hz⟩ := I1.list hq
    exact SetS.call_set_listN (I1.ok.hd hc) pl.isList (by simpa using strsAre_of r) room fin
  · obtain ⟨its, r, pl, hz⟩ := I1.tuple hq
    exact SetS.call_set_tupleN (I1.ok.hd hc) pl (by simpa using strsAre_of r) room fin
/-- the signs of z from lo on, every k-th -/
def stepS (z : Str) (lo hi : Option Int) (k : Int) : Str := ⟨((Builtin.Str.strSliceIndices lo hi k z.length).filterMap (z.cps[·]?)).toArray⟩
def tSlK (te : TE) (tl th tk : TO) : TE := fun σ H Q => te σ H fun x H1 => tl σ H1 fun l H2 => th σ H2 fun u H3 => tk σ H3 fun k H4 => ∃ z i, x = .str z ∧ k = some i ∧ i ≠ 0 ∧ i ≠ 1 ∧ (stepS z l u i).length ≤ sizeLine ∧ Q (.str (stepS z l u i)) H4
theorem pe_slK {X : Cx} {e : Expr} {lo hi : Option Expr} {st : Expr} {te : TE} {tl th tk : TO} {p2 pos : Pos} (he : PE X e te) (hl : PO X lo tl) (hu : PO X hi th) (hk : PO X (some st) tk) : PE X (.Subscript e (.Slice lo hi (some st) p2) pos) (tSlK te tl th tk) := by
  refine ⟨fun pins s σ H Q I h => Subscript_ (thn (he.run pins s σ H _ I h) ?_)⟩
  rintro v s1 ⟨x, H1, I1, r1, q1⟩
  refine wpAny_Slice (thn (hl.run pins s1 σ H1 _ I1 q1) ?_)
  rintro vl s2 ⟨l, H2, I2, pl, q2⟩
  refine (thn (hu.run pins s2 σ H2 _ I2 q2) ?_)
  rintro vu s3 ⟨u, H3, I3, pu, q3⟩
  refine (thn (hk.run pins s3 σ H3 _ I3 q3) ?_)
  rintro vk s4 ⟨k, H4, I4, pk, z, i, rfl, rfl, i0, i1, hz, q⟩
  obtain ⟨t, rfl⟩ := r1
  have I5 : Inv X pins σ H4 { s4 with heap := s4.heap.push { cls := .type "slice", data := .fields #[vl, vu, vk] } } := I4.kept (t' := s4.toks) fun b ob q => Heap.get?_push_of_some _ q
  obtain ⟨os, hos, hcs, hds⟩ := Heap.IsSliceOf.new s4.heap vl vu vk
  obtain ⟨l', rfl, rfl⟩ := IsPart.raw pl
  obtain ⟨u', rfl, rfl⟩ := IsPart.raw pu
  obtain ⟨k', rfl, ek⟩ := IsPart.raw pk
  refine (show wpAny (model X.prog X.w) X.A (subscriptTail e (.Slice lo hi (some st) p2) (.str z t) (.ref s4.heap.objs.size)) (EP X pins σ Q) X.xe { s4 with heap := s4.heap.push { cls := .type "slice", data := .fields #[partValue l', partValue u', partValue k'] } } from
    tail_any (ops := [.str z t, .ref s4.heap.objs.size]) (typeIs_str _ _ _) PySem.F.slot_str_getitem.lookup (wpAny_getItem_str_slice (l := l') (u := u') (st := k') ⟨os, hos, hcs, hds⟩ ?_ ?_) (by with_unfolding_all rfl))
  · rw [ek]
    exact beq_false_of_ne i0
  · have em : sliceMade z t l' u' k' = Made.str (stepS z (l'.map (·.1)) (u'.map (·.1)) i) := by
      unfold sliceMade slicePicked stepS
      rw [ek]
      show (if (i == 1 && _) = true then _ else _) = _
      rw [beq_false_of_ne i1, Bool.false_and, if_neg (by decide)]
      rfl
    rw [em]
    exact ⟨hz, .str _, H4, I5.tok _, ⟨_, rfl⟩, q⟩
end L2
namespace HW
open PySem L2
def lenSetD (d : D) : Option D := ((seqD d).bind strsOf).bind fun xs => if xs.length ≤ 4000 then some (.int (SetS.once xs).length) else none
theorem lenSetD_some {d z : D} (h : lenSetD d = some z) : ∃ ds xs, seqD d = some ds ∧ ds = xs.map PyData.str ∧ xs.length ≤ 4000 ∧ z = .int (SetS.once xs).length := by
  unfold lenSetD at h
  cases e : seqD d with
  | none => rw [e] at h; cases h
  | some ds =>
    rw [e] at h
    cases es : strsOf ds with
    | none => simp only [Option.bind_some, es, Option.bind_none, reduceCtorEq] at h
    | some xs =>
      simp only [Option.bind_some, es] at h
      split at h
      · cases h; exact ⟨ds, xs, rfl, strsOf_some es, by assumption, rfl⟩
      · cases h
section
variable {X : Cx} {M : MI} {a e : Expr} {we : WE} {wl wu wk : WO} {lo hi : Option Expr} {st : Expr} {p p2 q pos : Pos}
theorem e_lenS (hc : X.calm = true) (hg : Gl X "len") (hm : X.mg "len" = none) (hg2 : Gl X "set") (hm2 : X.mg "set" = none) (ha : PE X a (tB M X.K we)) (na : starEach [a] X.env = (false, eval a X.env) :: starEach [] X.env := by rfl) :
    PE X (.Call (.Name "len" p) [.Call (.Name "set" p2) [a] [] q] [] pos) (tE M X.K (wF lenSetD we)) := by
  refine PE.imp (pe_lenS hc hg hm hg2 hm2 ha na) ?_
  rintro σ H Q ⟨w, ρ, Qd, eh, ev, g, hw, k⟩
  refine ⟨w, ρ, _, eh, ev, g, hw, fun w1 v d s1 g1 dv q1 => ?_⟩
  obtain ⟨z, ez, qz⟩ := q1
  obtain ⟨ds, xs, es, rfl, hl, rfl⟩ := lenSetD_some ez
  cases d <;> simp only [seqD, reduceCtorEq, Option.some.injEq] at es
  · subst es
    obtain ⟨b, vs, rfl, sq, da⟩ := dv.seqL
    rw [da.strs] at sq
    exact ⟨b, xs, rfl, .inl sq, hl, k w1 _ _ s1 g1 (.int _) qz⟩
  · subst es
    obtain ⟨b, vs, rfl, sq, da⟩ := dv.seqT
    rw [da.strs] at sq
    exact ⟨b, xs, rfl, .inr sq, hl, k w1 _ _ s1 g1 (.int _) qz⟩
def stepD (x : D) (l u : Option Int) (i : Int) : Option D := match x with
  | .str z => if i ≠ 0 ∧ i ≠ 1 ∧ (stepS z l u i).length ≤ LIM then some (.str (stepS z l u i)) else none
  | _ => none
def wSlK (we : WE) (wl wu wk : WO) : WE := fun ρ c Q => we ρ c fun x c1 => wl ρ c1 fun l c2 => wu ρ c2 fun u c3 => wk ρ c3 fun k c4 => ∃ i z, k = some i ∧ stepD x l u i = some z ∧ Q z c4
theorem e_slK (he : PE X e (tB M X.K we)) (hl : PO X lo (tO M X.K wl)) (hu : PO X hi (tO M X.K wu)) (hk : PO X (some st) (tO M X.K wk)) : PE X (.Subscript e (.Slice lo hi (some st) p2) pos) (tE M X.K (wSlK we wl wu wk)) := by
  refine PE.imp (pe_slK he hl hu hk) ?_
  rintro σ H Q ⟨w, ρ, Qd, eh, ev, g, hw, k⟩
  refine ⟨w, ρ, _, eh, ev, g, hw, fun w1 v d s1 g1 dv q1 => ?_⟩
  refine ⟨w1, ρ, _, rfl, ev.stp s1 g, g1, q1, fun w2 l s2 g2 q2 => ?_⟩
  refine ⟨w2, ρ, _, rfl, (ev.stp s1 g).stp s2 g1, g2, q2, fun w3 u s3 g3 q3 => ?_⟩
  refine ⟨w3, ρ, _, rfl, ((ev.stp s1 g).stp s2 g1).stp s3 g2, g3, q3, fun w4 i s4 g4 q4 => ?_⟩
  obtain ⟨n, z, rfl, ez, qz⟩ := q4
  cases d <;> simp only [stepD, reduceCtorEq] at ez
  split at ez
  · rename_i h
    cases ez
    obtain rfl := dv.str
    exact ⟨_, n, rfl, rfl, h.1, h.2.1, lim_size h.2.2, k w4 _ _ (((s1.trans s2).trans s3).trans s4) g4 (.str _) qz⟩
  · cases ez
end
end HW

/-! HW25: sorted of texts, a list or a tuple, of any length -/
namespace SortT
open PySem PySem.Spec PyProof.Rows
section
variable {prog : Program} {w : World} {A : Around} {E : Value → Shared → Prop} {s : Shared}
abbrev laid (h : Heap) (items : Array Value) : Heap := (h.push (seqObj "list" #[] 0)).update h.objs.size (Obj.mapSeq (· ++ items))
theorem laid_size {h : Heap} {items : Array Value} : (laid h items).objs.size = h.objs.size + 1 := by
  rw [Heap.size_update, size_push']
theorem collectX {l : Addr} {T : String} {o : Obj} {items : Array Value} {n : Nat} {Q : List Value → Shared → Prop} (hT : T = "list" ∨ T = "tuple") (ho : s.heap.get? l = some o) (hc : o.cls = .type T) (hd : o.data = .seq items n) (hz : items.size ≤ sizeLine)
    (hQ : Q items.toList { s with heap := laid s.heap items }) : wpAny (model prog w) A (collect (.ref l)) Q E s := by
  unfold collect
  refine (wpAny_bind (wpAny_runValue (codeAny_builtin PySem.F.entry_proto_collect ?_)))
  rw [Around.under_plainId PySem.F.plain_proto_collect _]
  refine (show wpAny _ A.in1 (newList [] >>= fun y => again (.builtin "list.__iadd__" ⟨[y, .ref l], []⟩)) _ _ s from wpAny_bind (wpAny_newObj_type (wpAny_pure ⟨plainId_quiet PySem.F.plain_list_iadd _, codeAny_builtin PySem.F.entry_list_iadd ?_⟩)))
  rw [Around.under_plainId PySem.F.plain_list_iadd _]
  have h0 : (s.heap.push { cls := .type "list", data := .seq ([] : List Value).toArray }).get? s.heap.objs.size = some { cls := .type "list", data := .seq #[] 0 } := Heap.get?_push_size _ rfl
  have h1 := Heap.get?_update_self (Obj.mapSeq (· ++ items)) h0 rfl
  have fin : wpAny (model prog w) A (load s.heap.objs.size >>= fun u => match u.data with
          | Data.seq xs _ => pure xs.toList
          | _ => unsupported "internal:collect") Q E { s with heap := laid s.heap items } := by
    refine wpAny_bind (wpAny_load h1 (wpAny_pure ?_))
    rw [show ((#[] : Array Value) ++ items).toList = items.toList by simp]
    exact hQ
  refine (show wpAny _ A.in1 (Builtin.List.listExtendWith (.ref s.heap.objs.size) (.ref l) (.ref s.heap.objs.size)) _ _ _ from
    wpAny_mono (wpAny_extend_seq (hsz := hz) (A := A) (R := fun r s' => r = .ok (.ret (.ref s.heap.objs.size)) ∧ s' = { s with heap := laid s.heap items }) (s := { s with heap := s.heap.push { cls := .type "list", data := .seq ([] : List Value).toArray } })
      _ l _ 0 hT h0 (Heap.get?_push_of_some _ ho) hc hd ⟨rfl, rfl⟩) (fun f s' h => ?_) (fun e s' h => ?_))
  · cases f with
    | done f =>
      obtain ⟨e, rfl⟩ := h
      cases e
      exact fin
    | again c' => exact ⟨h.1, codeAny_mono h.2 fun r s2 hr => by obtain ⟨rfl, rfl⟩ := hr; exact fin⟩
  · exact absurd h.1 (by simp)
theorem sorted_seq {l : Addr} {vs : List Value} {ss : List Str} {T : String} {o : Obj} {n : Nat} {Q : Value → Shared → Prop} (hT : T = "list" ∨ T = "tuple") (ho : s.heap.get? l = some o) (hc : o.cls = .type T) (hd : o.data = .seq vs.toArray n) (hS : StrsAre vs ss) (hL : vs.length ≤ sizeLine)
    (h : ∀ (out : Array Value) (ss' : List Str), StrsAre out.toList ss' → ss'.Perm ss → sortedS ss' = true → Q (.ref (s.heap.objs.size + 1)) { s with heap := sortedAll s.heap vs out }) : wpAny (model prog w) A (call (.builtin "sorted") [.ref l]) Q E s := by
  refine (Calls.call_function_entry kind_sorted plain_sorted entry_sorted (args_sorted1 _) ?_)
  unfold Builtin.«sorted»
  refine wpAny_bind (m := checkCount "sorted" 1 1 _) (wpAny_pure (wpAny_bind (collectX hT ho hc hd (by simpa using hL) (wpAny_bind (wpAny_newList ?_ (by simpa using hL))))))
  have at1 : ((laid s.heap vs.toArray).push (seqObj "list" vs.toArray 0)).get? (s.heap.objs.size + 1) = some (seqObj "list" vs.toArray 0) := by
    rw [← laid_size (items := vs.toArray)]
    exact Heap.get?_push_size _ rfl
  refine (show wpAny _ _ _ _ _ { s with heap := (laid s.heap vs.toArray).push (seqObj "list" vs.toArray 0) } from ?_)
  rw [show (laid s.heap vs.toArray).objs.size = s.heap.objs.size + 1 from laid_size]
  refine wpAny_bind (wpAny_holding (wpAny_call_entry slot_list_sort ⟨_, at1, rfl⟩ entry_list_sort (list_sort_treeKAny strKind_oneLt at1 hS.keysOf (fun v₁ v₂ rest e => keyKind_strs (by rw [← e]; exact hS)) hL fun st' a1 a2 => ⟨_, rfl, ?_⟩) (args_list_sort _)))
  obtain ⟨ss', b1, b2, b3⟩ := sorted_out_str hS a1 a2
  exact wpAny_pure ⟨_, rfl, h _ ss' b1 b2 b3⟩
end
end SortT
namespace L2
open PySem PySem.Spec PyProof.Rows
def rSortT (K : PySem.W.Frag) : List V → Hp → VK → Prop := fun vs H Q => ∃ (a : Addr) (xs : List Str), vs = [V.ref a] ∧ (SqL K H a (xs.map V.str) ∨ SqT K H a (xs.map V.str)) ∧ ∀ (ys : List Str) (p : Addr), ys.Perm xs → sortedS ys = true → H p = none → Q (.ref p) (upd H p (.lst (ys.map V.str)))
theorem cr_sortT {X : Cx} : CallR X (.builtin "sorted") (rSortT X.K) := by
  intro pins s σ H vs us Q I r h
  obtain ⟨a, xs, rfl, hs, q⟩ := h
  rw [Vals.ref1 r]
  have fin : ∀ (its : List Value), Vals (xs.map V.str) its → its.length ≤ sizeLine → ∀ (out : Array Value) (ys : List Str), StrsAre out.toList ys → ys.Perm xs → sortedS ys = true → EP X pins σ Q (.ref (s.heap.objs.size + 1)) { s with heap := sortedAll s.heap its out } := by
    intro its rv hz out ys h1 h2 h3
    obtain ⟨ep, at1⟩ := PyProof.Rows.sortedAll_at s.heap its out
    have e0 := rv.length
    rw [List.length_map] at e0
    have e1 := h2.length_eq
    have hlen : (ys.map V.str).length ≤ sizeLine := by rw [List.length_map, e1, e0]; exact hz
    exact ⟨.ref _, upd H (s.heap.objs.size + 1) (.lst (ys.map V.str)), I.laid (t' := s.toks) (fun _ _ => PyProof.Rows.sortedAll_old) (Nat.le_succ _) ⟨hlen, out.toList, ep, vals_of_strs h1, at1⟩, rfl, q ys _ h2 h3 (I.hok.fresh (Nat.le_succ _))⟩
  rcases hs with hs | hs
  · obtain ⟨its, rv, hl, hz⟩ := I.list hs
    obtain ⟨o, ho, hc, n, hd⟩ := hl.isList
    have hz' : its.length ≤ sizeLine := by rw [← rv.length]; exact hz
    exact SortT.sorted_seq (.inl rfl) ho hc hd rv.strs hz' fun out ys => fin its rv hz' out ys
  · obtain ⟨its, rv, hl, hz⟩ := I.tuple hs
    obtain ⟨o, ho, hc, n, hd⟩ := hl
    have hz' : its.length ≤ sizeLine := by rw [← rv.length]; exact hz
    exact SortT.sorted_seq (.inr rfl) ho hc hd rv.strs hz' fun out ys => fin its rv hz' out ys
end L2
namespace HW
open PySem L2
/-! the order of texts -/
def leL (a b : List Nat) : Bool := !decide (b < a)
def insS (x : Str) : List Str → List Str
  | [] => [x]
  | y :: r => if leL x.cps.toList y.cps.toList = true then x :: y :: r else y :: insS x r
def sortL : List Str → List Str
  | [] => []
  | x :: r => insS x (sortL r)
theorem lt_irr (a : List Nat) : ¬ a < a := List.lt_irrefl a
theorem leL_tot (a b : List Nat) : leL a b = true ∨ leL b a = true := by
  unfold leL
  by_cases h : b < a
  · exact .inr (by simpa using List.lt_asymm h)
  · exact .inl (by simpa using h)
theorem leL_iff {a b : List Nat} : leL a b = true ↔ a ≤ b := by
  unfold leL
  rw [Bool.not_eq_true', decide_eq_false_iff_not]
  exact Iff.rfl
theorem leL_tr {a b c : List Nat} (h1 : leL a b = true) (h2 : leL b c = true) : leL a c = true := leL_iff.mpr (List.le_trans (leL_iff.mp h1) (leL_iff.mp h2))
theorem leL_as {a b : List Nat} (h1 : leL a b = true) (h2 : leL b a = true) : a = b := List.le_antisymm (leL_iff.mp h1) (leL_iff.mp h2)
abbrev leS (x y : Str) : Prop := leL x.cps.toList y.cps.toList = true
theorem insS_perm (x : Str) : ∀ r : List Str, (insS x r).Perm (x :: r)
  | [] => .refl _
  | y :: r => by
    unfold insS
    split
    · exact .refl _
    · exact ((insS_perm x r).cons y).trans (.swap x y r)
theorem sortL_perm : ∀ r : List Str, (sortL r).Perm r
  | [] => .refl _
  | x :: r => (insS_perm x _).trans ((sortL_perm r).cons x)
theorem insS_srt (x : Str) : ∀ r : List Str, r.Pairwise leS → (insS x r).Pairwise leS
  | [], _ => List.pairwise_singleton _ _
  | y :: r, h => by
    obtain ⟨h1, h2⟩ := List.pairwise_cons.mp h
    unfold insS
    split
    · rename_i c
      refine List.pairwise_cons.mpr ⟨fun z hz => ?_, h⟩
      rcases List.mem_cons.mp hz with rfl | hz
      · exact c
      · exact leL_tr c (h1 z hz)
    · rename_i c
      refine List.pairwise_cons.mpr ⟨fun z hz => ?_, insS_srt x r h2⟩
      rcases List.mem_cons.mp ((insS_perm x r).mem_iff.mp hz) with rfl | hz
      · exact (leL_tot _ _).resolve_left c
      · exact h1 z hz
theorem sortL_srt : ∀ r : List Str, (sortL r).Pairwise leS
  | [] => .nil
  | x :: r => insS_srt x _ (sortL_srt r)
theorem rising_pw : ∀ (r : List Str) (x : Str), PyProof.Rows.risingS x r = true → (x :: r).Pairwise leS
  | [], x, _ => List.pairwise_singleton _ _
  | y :: r, x, h => by
    simp only [PyProof.Rows.risingS, Bool.and_eq_true, PyProof.Rows.ltCps_eq] at h
    have ih := rising_pw r y h.2
    refine List.pairwise_cons.mpr ⟨fun z hz => ?_, ih⟩
    have xy : leS x y := h.1
    rcases List.mem_cons.mp hz with rfl | hz
    · exact xy
    · exact leL_tr xy ((List.pairwise_cons.mp ih).1 z hz)
theorem sorted_pw {ys : List Str} (h : PyProof.Rows.sortedS ys = true) : ys.Pairwise leS := by
  cases ys with
  | nil => exact .nil
  | cons x r => exact rising_pw r x h
theorem sort_uniq : ∀ {xs ys : List Str}, xs.Perm ys → xs.Pairwise leS → ys.Pairwise leS → xs = ys
  | [], ys, p, _, _ => (List.nil_perm.mp p).symm
  | x :: xs, [], p, _, _ => absurd (List.perm_nil.mp p) (by simp)
  | x :: xs, y :: ys, p, h1, h2 => by
    obtain ⟨a1, a2⟩ := List.pairwise_cons.mp h1
    obtain ⟨b1, b2⟩ := List.pairwise_cons.mp h2
    have refl : ∀ z : Str, leS z z := fun z => (leL_tot _ _).elim _root_.id _root_.id
    have xy : leS x y := by
      rcases List.mem_cons.mp (p.mem_iff.mpr List.mem_cons_self) with rfl | h
      · exact refl _
      · exact a1 _ h
    have yx : leS y x := by
      rcases List.mem_cons.mp (p.mem_iff.mp List.mem_cons_self) with rfl | h
      · exact refl _
      · exact b1 _ h
    have e : x = y := by
      have := leL_as xy yx
      cases x with
      | mk a => cases y with
        | mk b => exact congrArg Str.mk (Array.toList_inj.mp this)
    subst e
    rw [sort_uniq p.cons_inv a2 b2]
theorem sort_is {xs ys : List Str} (p : ys.Perm xs) (h : PyProof.Rows.sortedS ys = true) : ys = sortL xs := sort_uniq (p.trans (sortL_perm xs).symm) (sorted_pw h) (sortL_srt xs)
def sortD (d : D) : Option D := ((seqD d).bind strsOf).map fun xs => .list ((sortL xs).map .str)
section
variable {X : Cx} {M : MI} {e : Expr} {we : WE} {p pos : Pos}
theorem e_sortT (hg : Gl X "sorted") (hm : X.mg "sorted" = none) (he : PE X e (tB M X.K we)) (hs : starEach [e] X.env = (false, eval e X.env) :: starEach [] X.env := by rfl) : PE X (.Call (.Name "sorted" p) [e] [] pos) (tE M X.K (wF sortD we)) := by
  refine PE.imp (pe_callB cr_sortT hg hm (by decide +kernel) (pa_cons he pa_nil hs) (by decide) (by decide) hs (by rfl)) ?_
  rintro σ H Q ⟨w, ρ, Qd, eh, ev, g, hw, k⟩
  refine ⟨w, ρ, _, eh, ev, g, hw, fun w1 v d s1 g1 bv ⟨z, ez, qz⟩ => ?_⟩
  unfold sortD at ez
  cases es : seqD d with
  | none => rw [es] at ez; cases ez
  | some ds =>
    rw [es] at ez
    cases ess : strsOf ds with
    | none => simp only [Option.bind_some, ess, Option.map_none, reduceCtorEq] at ez
    | some xs =>
      simp only [Option.bind_some, ess, Option.map_some, Option.some.injEq] at ez
      subst ez
      have hd := strsOf_some ess
      have fin : ∀ (ys : List Str) (p : Addr), ys.Perm xs → PyProof.Rows.sortedS ys = true → w1.H p = none → Q (.ref p) (upd w1.H p (.lst (ys.map V.str))) := fun ys p hp hso hn => by
        rw [← sort_is hp hso] at qz
        exact k (w1.new p (.lst (ys.map V.str))) _ _ (s1.trans (stp_new hn)) (gd_new g1 hn) (new_lst g1 hn (DvA.of_strs ys)) qz
      cases d <;> simp only [seqD, reduceCtorEq, Option.some.injEq] at es
      · subst es
        obtain ⟨a, vs, rfl, sq, da⟩ := bv.seqL
        rw [hd] at da
        rw [da.strs] at sq
        exact ⟨a, xs, rfl, .inl sq, fin⟩
      · subst es
        obtain ⟨a, vs, rfl, sq, da⟩ := bv.seqT
        rw [hd] at da
        rw [da.strs] at sq
        exact ⟨a, xs, rfl, .inr sq, fin⟩
end
end HW

/-! HW26: f-strings; x = a call that may raise; raising expressions by cases -/
namespace HW
open PySem L2
def fmtD : D → Option D
  | .str y => if y.length ≤ LIM then some (.str y) else none
  | .int i => if i.natAbs.log2 < 1920 then some (.str (toString i)) else none
  | _ => none
section
variable {X : Cx} {M : MI} {w0 : W} {e v1 v2 : Expr} {we : WE} {ws : List WE} {pos : Pos}
theorem e_fmt (he : PE X e (tB M X.K we)) : PE X (.FormattedValue e (-1) none pos) (tE M X.K (wF fmtD we)) := by
  refine PE.imp (pe_fmt he) ?_
  rintro σ H Q ⟨w, ρ, Qd, eh, ev, g, hw, k⟩
  refine ⟨w, ρ, _, eh, ev, g, hw, fun w1 v d s1 g1 bv ⟨z, ez, qz⟩ => ?_⟩
  cases d <;> simp only [fmtD, reduceCtorEq] at ez
  · split at ez
    · cases ez
      exact .inr ⟨_, bv.int, by assumption, k w1 _ _ s1 g1 (.str _) qz⟩
    · cases ez
  · split at ez
    · cases ez
      exact .inl ⟨_, bv.str, lim_size (by assumption), k w1 _ _ s1 g1 (.str _) qz⟩
    · cases ez
/-- the parts, one behind the other -/
def wJs : List WE → Str → List En → Nat → (D → Nat → Prop) → Prop
  | [], acc, _, c, Q => Q (.str acc) c
  | we :: r, acc, ρ, c, Q => we ρ c fun d c1 => ∃ y, d = .str y ∧ (acc ++ y).length ≤ LIM ∧ wJs r (acc ++ y) ρ c1 Q
def wJoin (ws : List WE) : WE := fun ρ c Q => wJs ws Str.empty ρ c Q
theorem js_ok {K : PySem.W.Frag} {σ : L2.St} {ρ : List En} {Qd : D → Nat → Prop} {Q : Str → Hp → Prop} : ∀ (ws : List WE) (acc : Str) (w : W), EnvOk K w σ ρ → Gd M w → wJs ws acc ρ w.c Qd → (∀ (w' : W) (y : Str), Stp w w' → Gd M w' → Qd (.str y) w'.c → Q y w'.H) → tJs (ws.map (tE M K)) acc σ w.H Q
  | [], acc, w, ev, g, h, k => k w acc (Stp.refl w) g h
  | we :: r, acc, w, ev, g, h, k => by
    refine ⟨w, ρ, _, rfl, ev, g, h, fun w1 v d s1 g1 dv q1 => ?_⟩
    obtain ⟨y, rfl, hl, q⟩ := q1
    cases dv
    exact ⟨y, rfl, lim_size hl, js_ok r (acc ++ y) w1 (ev.stp s1 g) g1 q fun w' z s' g' => k w' z (s1.trans s') g'⟩
theorem e_joined {rest : List Expr} (h : PJ X (v1 :: v2 :: rest) (ws.map (tE M X.K))) : PE X (.JoinedStr (v1 :: v2 :: rest) pos) (tE M X.K (wJoin ws)) := by
  refine PE.imp (pe_joined h) ?_
  rintro σ H Q ⟨w, ρ, Qd, eh, ev, g, hw, k⟩
  subst eh
  exact js_ok ws _ w ev g hw fun w' y s' g' q => k w' _ _ s' g' (.str y) q
theorem s_setX {i : Nat} {x : Str} {pos' : Pos} (hN : X.N.Nodup) (hi : X.N[i]? = some x) (hx : Loc X.env.scope x) (he : PE X e (tEX M X.K w0 we)) (hs : swapsWith e (some (.Name x pos')) pos.line X.env = pure false := by rfl) (hf : X.fn x = true ∨ X.env.scope.names.lookup x = some .local := by first | exact .inl rfl | exact .inr rfl | assumption) :
    PS X (.Assign [.Name x pos'] e pos) (tS M X.K w0 (wSet i we)) := by
  refine PS.imp (ps_set hN hi hx he hs hf) ?_
  rintro D σ H ⟨w, ρ, dd, eh, so, hw, k⟩
  exact ⟨w, ρ, _, eh, so, hw, fun w' v d s g dv q => k.nx w' _ _ (s.fk so.gd) ((so.stp s g).setIm dv) q⟩
theorem x_if {c a b : Expr} {wt : WT} {wa wb : WE} (hc : L2.PT X c (tT M X.K wt)) (ha : PE X a (tEX M X.K w0 wa)) (hb : PE X b (tEX M X.K w0 wb)) : PE X (.IfExp c a b pos) (tEX M X.K w0 (wIfE wt wa wb)) := by
  refine PE.imp (pe_ifExp hc ha hb) ?_
  rintro σ H Q ⟨w, ρ, Qd, eh, so, hw, k⟩
  refine ⟨w, ρ, _, eh, so.ev, so.gd, hw, fun w1 b s1 g1 q1 => ?_⟩
  cases b with
  | true => exact iteT ⟨w1, ρ, Qd, rfl, so.stp s1 g1, q1, fun w2 v d s2 g2 dv q2 => k w2 v d (s1.trans s2) g2 dv q2⟩
  | false => exact iteF ⟨w1, ρ, Qd, rfl, so.stp s1 g1, q1, fun w2 v d s2 g2 dv q2 => k w2 v d (s1.trans s2) g2 dv q2⟩
end
end HW
namespace HW
open PySem L2
abbrev wAppG (i : Nat) (we : WE) : WS := fun dd ρ c => (∃ ds, ρ[i]? = some (.ls ds)) ∧ wApp i we dd ρ c
theorem tk_no {X : Cx} {M : MI} {w0 : W} : TkR X M w0 (fun _ _ _ => False) := takes_none5.imp fun _ _ _ _ ⟨_, _, _, _, _, _, z⟩ => z
theorem ext_of {K : PySem.W.Frag} {mg : Str → Option Value} {ns : List Str} {ps : List (Str × Addr)} (e : ns = ps.map (·.1)) (h1 : ∀ p ∈ ps, mg p.1 = some (.ref p.2)) (h2 : ∀ p ∈ ps, ∀ p' ∈ ps, PySem.W.exmOne K (.ref p.2) (.ref p'.2) = some (decide (p.1 = p'.1))) : ExT K mg ns := by
  subst e
  refine ⟨fun n hn => ?_, fun n hn n' hn' c c' hc hc' => ?_⟩
  · obtain ⟨p, hp, rfl⟩ := List.mem_map.mp hn
    exact ⟨p.2, h1 p hp⟩
  · obtain ⟨p, hp, rfl⟩ := List.mem_map.mp hn
    obtain ⟨p', hp', rfl⟩ := List.mem_map.mp hn'
    rw [h1 p hp] at hc
    rw [h1 p' hp'] at hc'
    cases hc
    cases hc'
    exact h2 p hp p' hp'
end HW

namespace HW
open PySem L2
abbrev noR : Xd → List En → Nat → Prop := fun _ _ _ => False
theorem op_isB {X : Cx} : OpR X (compareOp .Is) (fun x y H Q => ∃ a b, x = .bl a ∧ y = .bl b ∧ Q (.bl (a == b)) H) := by
  intro pins s σ H x y v u Q I rx ry h
  obtain ⟨a, b, rfl, rfl, q⟩ := h
  cases rx
  cases ry
  refine (show wpAny (model X.prog X.w) X.A (isSame (.bool a) (.bool b) >>= fun r => pure (Value.bool r)) (EP X pins σ Q) X.xe s from wpAny_bind (wpAny_pure (wpAny_pure ⟨.bl (a == b), H, I, ?_, q⟩)))
  cases a <;> cases b <;> rfl
theorem op_isnB {X : Cx} : OpR X (compareOp .IsNot) (fun x y H Q => ∃ a b, x = .bl a ∧ y = .bl b ∧ Q (.bl (!(a == b))) H) := by
  intro pins s σ H x y v u Q I rx ry h
  obtain ⟨a, b, rfl, rfl, q⟩ := h
  cases rx
  cases ry
  refine (show wpAny (model X.prog X.w) X.A (isSame (.bool a) (.bool b) >>= fun r => pure (Value.bool (!r))) (EP X pins σ Q) X.xe s from wpAny_bind (wpAny_pure (wpAny_pure ⟨.bl (!(a == b)), H, I, ?_, q⟩)))
  cases a <;> cases b <;> rfl
def isBD (neg : Bool) : D → D → Option D
  | .bool a, .bool b => some (.bool (if neg then !(a == b) else (a == b)))
  | _, _ => none
theorem d_isB {M : MI} {K : PySem.W.Frag} : OpD M K (fun x y H Q => ∃ a b, x = .bl a ∧ y = .bl b ∧ Q (.bl (a == b)) H) (isBD false) := fun w x y dx dy z Q g hx hy e k => by
  cases dx <;> cases dy <;> simp only [isBD, reduceCtorEq] at e
  cases e
  exact ⟨_, _, hx.bl, hy.bl, k w _ (Stp.refl w) g (.bl _) rfl⟩
theorem d_isnB {M : MI} {K : PySem.W.Frag} : OpD M K (fun x y H Q => ∃ a b, x = .bl a ∧ y = .bl b ∧ Q (.bl (!(a == b))) H) (isBD true) := fun w x y dx dy z Q g hx hy e k => by
  cases dx <;> cases dy <;> simp only [isBD, reduceCtorEq] at e
  cases e
  exact ⟨_, _, hx.bl, hy.bl, k w _ (Stp.refl w) g (.bl _) rfl⟩
end HW

/-! HW27: cuts of tuples; texts, tuples, written lists times an int -/
namespace HW
open PySem L2
theorem DvA.rep {K : PySem.W.Frag} {P : Addr → Prop} {H : Hp} {vs : List V} {ds : List D} (h : DvA K P H vs ds) : ∀ n : Nat, DvA K P H (List.replicate n vs).flatten (List.replicate n ds).flatten
  | 0 => .nil
  | n + 1 => by
    rw [List.replicate_succ, List.replicate_succ, List.flatten_cons, List.flatten_cons]
    exact h.app (h.rep n)
def repTD : D → D → Option D
  | .tuple ds, .int k => if ds ≠ [] ∧ 2 ≤ k ∧ k ≤ 1000 ∧ ds.length ≤ 1000 then some (.tuple (List.replicate k.toNat ds).flatten) else none
  | _, _ => none
theorem d_repT {M : MI} {K : PySem.W.Frag} : OpD M K (rRepT K) repTD := fun w x y dx dy z Q g hx hy e k => by
  cases dx <;> cases dy <;> simp only [repTD, reduceCtorEq] at e
  split at e
  · rename_i h
    obtain ⟨h1, h2, h3, h4⟩ := h
    cases e
    obtain ⟨a, vs, rfl, sq, da⟩ := hx.seqT
    refine ⟨a, _, vs, rfl, hy.int, sq, fun z => h1 ?_, h2, h3, by rw [da.length]; exact h4, fun p hp => newQ g hp (new_tup g hp (da.rep _)) k⟩
    subst z
    cases da
    rfl
  · cases e
theorem op_mulS {X : Cx} : OpR X (binaryOp .Mult) (fun x y H Q => ∃ a n, x = .str a ∧ y = .int n ∧ 0 ≤ n ∧ n ≤ 1000 ∧ a.length ≤ 1000 ∧ Q (.str (PySem.Txt.mul a n)) H) := by
  intro pins s σ H x y v u Q I rx ry h
  obtain ⟨a, n, rfl, rfl, h0, h1, h2, q⟩ := h
  obtain ⟨t, rfl⟩ := rx
  obtain ⟨t2, rfl⟩ := ry
  refine PySem.SB.mul ⟨?_, fun c1 c2 => ?_, fun c1 c2 => ?_⟩ fun t' k => ⟨.str _, H, I.tok _, ⟨_, rfl⟩, q⟩
  · rw [decide_eq_false (by omega), decide_eq_false (by omega)]
    rfl
  · have b1 : (1000 : Int) * 1000 ≤ 2 ^ 63 - 1 := by decide
    have b2 : (a.length : Int) * n ≤ 1000 * 1000 := Int.mul_le_mul (by omega) h1 h0 (by decide)
    have b3 : (a.length : Int) ≤ (2 ^ 63 - 1) / n := (Int.le_ediv_iff_mul_le (by omega)).mpr (by omega)
    omega
  · have b2 : a.length * n.toNat ≤ 1000 * 1000 := Nat.mul_le_mul h2 (by omega)
    show PySem.Builtin.Str.tooLong _ = false
    unfold PySem.Builtin.Str.tooLong
    rw [sizeLine_eq]
    exact decide_eq_false (by omega)
def mulSD : D → D → Option D
  | .str a, .int n => if 0 ≤ n ∧ n ≤ 1000 ∧ a.length ≤ 1000 then some (.str (PySem.Txt.mul a n)) else none
  | _, _ => none
theorem d_mulS {M : MI} {K : PySem.W.Frag} : OpD M K (fun x y H Q => ∃ a n, x = .str a ∧ y = .int n ∧ 0 ≤ n ∧ n ≤ 1000 ∧ a.length ≤ 1000 ∧ Q (.str (PySem.Txt.mul a n)) H) mulSD := fun w x y dx dy z Q g hx hy e k => by
  cases dx <;> cases dy <;> simp only [mulSD, reduceCtorEq] at e
  split at e
  · rename_i h
    cases e
    exact ⟨_, _, hx.str, hy.int, h.1, h.2.1, h.2.2, k w _ (Stp.refl w) g (.str _) rfl⟩
  · cases e
section
variable {X : Cx} {M : MI} {e b : Expr} {es : List Expr} {wa : WA} {we wb : WE} {pos p2 : Pos}
/-- [..] * n -/
def wRepL (wa : WA) (wb : WE) : WE := fun ρ c Q => wa ρ c fun ds c1 => ds.length ≤ LIM ∧ wb ρ c1 fun d c2 => ∃ n : Int, d = .int n ∧ -(2 ^ 62) ≤ n ∧ n ≤ 2 ^ 62 ∧ ds.length * n.toNat ≤ LIM ∧ Q (.list (List.replicate n.toNat ds).flatten) c2
theorem e_repL (ha : PA X es (tAs M X.K wa)) (hb : PE X b (tB M X.K wb)) : PE X (.BinOp (.List es p2) .Mult b pos) (tE M X.K (wRepL wa wb)) := by
  refine PE.imp (pe_op op_rep (pe_lst ha) hb) ?_
  rintro σ H Q ⟨w, ρ, Qd, eh, ev, g, hw, k⟩
  refine ⟨w, ρ, _, eh, ev, g, hw, fun w1 vs ds s1 g1 da q1 => ⟨lim_size (by rw [da.length]; exact q1.1), fun p hp => ?_⟩⟩
  have sp := stp_own (o := .lst vs) hp
  have gp := gd_own (o := .lst vs) g1 hp
  refine ⟨w1.own p (.lst vs), ρ, _, rfl, (ev.stp s1 g).stp sp g1, gp, q1.2, fun w2 y d s2 g2 bv q2 => ?_⟩
  obtain ⟨n, rfl, n1, n2, n3, q⟩ := q2
  have at2 := s2.k _ _ own_at (show p ∉ w1.R from r_free g1 hp)
  have da2 := (da.fk (sp.fk g1)).fk (s2.fk gp)
  exact ⟨p, n, vs, rfl, bv.int, at2, by omega, by omega, by rw [da.length]; exact lim_size n3, fun p' hp' => k (w2.new p' _) _ _ (((s1.trans sp).trans s2).trans (stp_new hp')) (gd_new g2 hp') (new_lst g2 hp' (da2.rep _)) q⟩
theorem cutL_all {α : Type} {xs : List α} {lo hi : Option Int} (h : HT.sIx xs.length 0 lo = 0 ∧ HT.sIx xs.length xs.length hi = xs.length) : cutL xs lo hi = xs := by
  unfold cutL
  rw [h.1, h.2, List.drop_zero, Nat.sub_zero, List.take_length]
/-- a tuple's cut -/
def wSlT (we : WE) (wl wu : WO) : WE := fun ρ c Q => we ρ c fun x c1 => wl ρ c1 fun l c2 => wu ρ c2 fun u c3 => ∃ xs, x = .tuple xs ∧ Q (.tuple (cutL xs l u)) c3
theorem e_slT {lo hi : Option Expr} {wl wu : WO} (he : PE X e (tB M X.K we)) (hl : PO X lo (tO M X.K wl)) (hu : PO X hi (tO M X.K wu)) : PE X (.Subscript e (.Slice lo hi none p2) pos) (tE M X.K (wSlT we wl wu)) := by
  refine PE.imp (pe_slice sl_tupA he hl hu) ?_
  rintro σ H Q ⟨w, ρ, Qd, eh, ev, g, hw, k⟩
  refine ⟨w, ρ, _, eh, ev, g, hw, fun w1 x dx s1 g1 bx q1 => ?_⟩
  refine ⟨w1, ρ, _, rfl, ev.stp s1 g, g1, q1, fun w2 l s2 g2 q2 => ?_⟩
  refine ⟨w2, ρ, _, rfl, (ev.stp s1 g).stp s2 g1, g2, q2, fun w3 u s3 g3 q3 => ?_⟩
  obtain ⟨xs, rfl, qz⟩ := q3
  have bx3 := (bx.stp s2 g1).stp s3 g2
  have s03 := (s1.trans s2).trans s3
  have dv := bx3.tup1
  obtain ⟨a, vs, rfl, h1, h2⟩ := bx3.seqT
  refine ⟨a, vs, rfl, h1, fun wh => ?_, fun _ p hp => k (w3.new p _) _ _ (s03.trans (stp_new hp)) (gd_new g3 hp) (new_tup g3 hp (h2.cut l u)) qz⟩
  rw [h2.length] at wh
  rw [cutL_all wh] at qz
  exact k w3 _ _ s03 g3 dv qz
end
end HW
namespace HW
open PySem L2
def leAD : D → D → Option D
  | .int i, .int j => some (.bool (decide (i ≤ j)))
  | .str a, .str b => some (.bool (!decide (b.cps.toList < a.cps.toList)))
  | _, _ => none
def rLeA : R2 := fun x y H Q => rI0 (fun i j => .bl (decide (i ≤ j))) x y H Q ∨ ∃ i j, x = .str i ∧ y = .str j ∧ Q (.bl (!decide (j.cps.toList < i.cps.toList))) H
theorem o_leA {X : Cx} : OpR X (compareOp .LtE) rLeA := opR_or op_le op_le_str
theorem d_leA {M : MI} {K : PySem.W.Frag} : OpD M K rLeA leAD := fun w x y dx dy z Q g hx hy e k => by
  cases dx <;> cases dy <;> simp only [leAD, reduceCtorEq] at e
  · cases e; cases hx.int; cases hy.int
    exact .inl ⟨_, _, rfl, rfl, keepQ g (.bl _) k⟩
  · cases e; cases hx.str; cases hy.str
    exact .inr ⟨_, _, rfl, rfl, keepQ g (.bl _) k⟩
end HW

/-! // by great divisors; max, min of several, of a list; sum; own lists that change no more; targets in targets -/
namespace HW
open PySem L2
section
variable {K : PySem.W.Frag} {M : MI} {X : Cx}
def fdvWD : D → D → Option D
  | .int i, .int j => if 0 < j ∧ j < 2 ^ 200 then some (.int (i / j)) else none
  | _, _ => none
theorem d_fdvW : OpD M K (rI CDivW fun i j => .int (i / j)) fdvWD := fun w x y dx dy z Q g hx hy e k => by
  cases dx <;> cases dy <;> simp only [fdvWD, reduceCtorEq] at e
  split at e
  · rename_i h
    cases e; cases hx.int; cases hy.int
    exact ⟨_, _, rfl, rfl, wide_div (b := 200) h.1 (by omega) (by decide) (by decide), keepQ g (.int _) k⟩
  · cases e
theorem fdvW_i {i j : Int} (h : 0 < j) (h1 : j < 2 ^ 200) : fdvWD (.int i) (.int j) = some (.int (i / j)) := if_pos ⟨h, h1⟩
def max2D : D → D → Option D
  | .int i, .int j => some (.int (max i j))
  | _, _ => none
theorem d_max2 : FnD2 M K (fun xs H Q => ∃ i j, xs = [.int i, .int j] ∧ Q (.int (if j > i then j else i)) H) max2D := fun w x y dx dy z Q g hx hy e k => by
  cases dx <;> cases dy <;> simp only [max2D, reduceCtorEq] at e
  rename_i i j
  cases e; cases hx.int; cases hy.int
  refine ⟨_, _, rfl, ?_⟩
  rw [show (if j > i then j else i) = max i j by omega]
  exact keepQ g (.int _) k
/-- three arguments -/
def FnD3 (M : MI) (K : PySem.W.Frag) (r : List V → Hp → VK → Prop) (f : D → D → D → Option D) : Prop := ∀ (w : W) (x y u : V) (dx dy du z : D) (Q : VK), Gd M w → DvB K w x dx → DvB K w y dy → DvB K w u du → f dx dy du = some z →
  (∀ (w' : W) (v : V), Stp w w' → Gd M w' → Dv K w'.F w'.H v z → w'.c = w.c → Q v w'.H) → r [x, y, u] w.H Q
def wOp3 (f : D → D → D → Option D) (wa wb wc : WE) : WE := fun ρ c Q => wa ρ c fun x c1 => wb ρ c1 fun y c2 => wc ρ c2 fun u c3 => ∃ z, f x y u = some z ∧ Q z c3
def max3D : D → D → D → Option D
  | .int i, .int j, .int k => some (.int (max (max i j) k))
  | _, _, _ => none
theorem d_max3 : FnD3 M K (rNuC3 nuMax3) max3D := fun w x y u dx dy du z Q g hx hy hu e k => by
  cases dx <;> cases dy <;> cases du <;> simp only [max3D, reduceCtorEq] at e
  rename_i i j l
  cases e; cases hx.int; cases hy.int; cases hu.int
  refine ⟨_, _, _, .int (max (max i j) l), rfl, ?_, keepQ g (.int _) k⟩
  have h2 : ∀ a b : Int, nuMax2 (.int a) (.int b) = some (.int (max a b)) := fun a b => by
    show some (if decide (a < b) = true then V.int b else V.int a) = _
    by_cases h : a < b
    · rw [if_pos (by simpa using h)]; congr 2; omega
    · rw [if_neg (by simpa using h)]; congr 2; omega
  show (nuMax2 (.int i) (.int j)).bind _ = _
  rw [h2]
  exact h2 _ _
theorem r_fn3 {r : List V → Hp → VK → Prop} {f : D → D → D → Option D} {we we2 we3 : WE} (hf : FnD3 M X.K r f) : ∀ (σ : L2.St) (H : Hp) (Q : VK), tE M X.K (wOp3 f we we2 we3) σ H Q → tCB r (tCons (tB M X.K we) (tCons (tB M X.K we2) (tCons (tB M X.K we3) tNil))) σ H Q := by
  rintro σ H Q ⟨w, ρ, Qd, eh, ev, g, hw, k⟩
  refine ⟨w, ρ, _, eh, ev, g, hw, fun w1 x dx s1 g1 bx q1 => ?_⟩
  refine ⟨w1, ρ, _, rfl, ev.stp s1 g, g1, q1, fun w2 y dy s2 g2 by' q2 => ?_⟩
  refine ⟨w2, ρ, _, rfl, (ev.stp s1 g).stp s2 g1, g2, q2, fun w3 u du s3 g3 bu q3 => ?_⟩
  obtain ⟨z, ez, qz⟩ := q3
  exact hf w3 x y u dx dy du z Q g3 ((bx.stp s2 g1).stp s3 g2) (by'.stp s3 g2) bu ez fun w4 v s4 g4 dv ec => k w4 v z (((s1.trans s2).trans s3).trans s4) g4 dv (by rw [ec]; exact qz)
theorem e_fn3 {r : List V → Hp → VK → Prop} {f : D → D → D → Option D} {x : Str} {id : String} {e e2 e3 : Expr} {we we2 we3 : WE} {p pos : Pos} (hr : CallR X (.builtin id) r) (hf : FnD3 M X.K r f) (hg : Gl X x) (hm : X.mg x = none) (hv : bootBuiltins x = some (.builtin id)) (he : PE X e (tB M X.K we)) (he2 : PE X e2 (tB M X.K we2)) (he3 : PE X e3 (tB M X.K we3)) (hn : x ≠ "__name__" := by decide) (hdb : (x == ("__debug__" : Str)) = false := by decide)
    (hs : starEach [e, e2, e3] X.env = (false, eval e X.env) :: starEach [e2, e3] X.env := by rfl) (hs2 : starEach [e2, e3] X.env = (false, eval e2 X.env) :: starEach [e3] X.env := by rfl) (hs3 : starEach [e3] X.env = (false, eval e3 X.env) :: starEach [] X.env := by rfl) (hpl : (backTo pos (starEach [e2, e3] X.env)).any (·.1) = false := by rfl) : PE X (.Call (.Name x p) [e, e2, e3] [] pos) (tE M X.K (wOp3 f we we2 we3)) :=
  PE.imp (pe_callB hr hg hm hv (pa_cons he (pa_cons he2 (pa_cons he3 pa_nil hs3) hs2) hs) hn hdb hs hpl) (r_fn3 hf)
/-! of a list of ints -/
def intsD : List D → Option (List Int)
  | [] => some []
  | .int i :: r => (intsD r).map (i :: ·)
  | _ :: _ => none
theorem intsD_some : ∀ {ds : List D} {ns : List Int}, intsD ds = some ns → ds = ns.map .int
  | [], ns, e => by cases e; rfl
  | d :: r, ns, e => by
    cases d <;> simp only [intsD, reduceCtorEq] at e
    obtain ⟨ms, e1, e2⟩ := Option.map_eq_some_iff.mp e
    subst e2
    rw [List.map_cons, ← intsD_some e1]
theorem intsD_map : ∀ ns : List Int, intsD (ns.map PyData.int) = some ns
  | [] => rfl
  | i :: r => by show (intsD (r.map PyData.int)).map _ = _; rw [intsD_map r]; rfl
def maxI (i : Int) (r : List Int) : Int := r.foldl max i
theorem foldl_max : ∀ (r : List Int) (i : Int), i ≤ r.foldl max i ∧ (∀ y ∈ r, y ≤ r.foldl max i) ∧ (r.foldl max i = i ∨ r.foldl max i ∈ r)
  | [], i => ⟨Int.le_refl _, fun y h => (by cases h), .inl rfl⟩
  | a :: r, i => by
    obtain ⟨h1, h2, h3⟩ := foldl_max r (max i a)
    refine ⟨?_, fun y hy => ?_, ?_⟩
    · show i ≤ r.foldl max (max i a); omega
    · show y ≤ r.foldl max (max i a)
      rcases List.mem_cons.mp hy with rfl | hy
      · omega
      · exact h2 y hy
    · show r.foldl max (max i a) = i ∨ r.foldl max (max i a) ∈ a :: r
      rcases h3 with h3 | h3
      · rcases Int.le_total i a with h | h
        · right; rw [h3]; rw [show max i a = a by omega]; exact List.mem_cons_self
        · left; rw [h3]; omega
      · exact .inr (List.mem_cons_of_mem _ h3)
def maxLD : D → Option D
  | .list ds => (intsD ds).bind fun ns => match ns with
    | [] => none
    | i :: r => some (.int (maxI i r))
  | _ => none
theorem d_maxL : FnD M K (rMax K) maxLD := fun w x dx z Q g hx e k => by
  cases dx <;> simp only [maxLD, reduceCtorEq] at e
  rename_i ds
  cases en : intsD ds with
  | none => rw [en] at e; cases e
  | some ns =>
    rw [en] at e
    have ed := intsD_some en
    subst ed
    cases ns with
    | nil => cases e
    | cons i r =>
      cases e
      obtain ⟨a, vs, rfl, h1, h2⟩ := hx.seqL
      have ev := h2.ints
      subst ev
      refine ⟨a, i :: r, rfl, h1, by simp, fun m hm hle => ?_⟩
      obtain ⟨g1, g2, g3⟩ := foldl_max r i
      have e1 : m ≤ maxI i r := by
        rcases List.mem_cons.mp hm with rfl | hm
        · exact g1
        · exact g2 m hm
      have e2 : maxI i r ≤ m := by
        rcases g3 with g3 | g3
        · show r.foldl max i ≤ m; rw [g3]; exact hle i List.mem_cons_self
        · exact hle _ (List.mem_cons_of_mem _ g3)
      rw [Int.le_antisymm e1 e2]
      exact keepQ g (.int _) k
end
/-! a list of one's own that changes no more -/
section
variable {K : PySem.W.Frag} {M : MI} {w w0 : W} {σ : L2.St} {ρ : List En} {a : Addr}
theorem DlOk.frz : ∀ {kvs : List (Key × V)} {ds : List (D × List D)}, DlOk K w kvs ds → (∀ k, (k, V.ref a) ∉ kvs) → DlOk K (w.frz a) kvs ds
  | _, _, .nil, _ => .nil
  | _, _, .cons (b := b) h1 h2 h3 h4 h5 h6, n => .cons h1 (fun z => z.elim h2 fun e => n _ (by rw [← e]; exact List.mem_cons_self)) h3 (h4.fk fk_frz) h5 (h6.frz fun k m => n k (List.mem_cons_of_mem _ m))
theorem EnOk.frz {s : Option (Option V)} {e : En} (h : EnOk K w s e) (n : ∀ p, s = some (some (.ref p)) → e.mut = true → ¬ Sub w e p a) : EnOk K (w.frz a) s e := by
  cases e with
  | un => exact True.intro
  | im d => obtain ⟨v, h1, h2⟩ := h; exact ⟨v, h1, h2.fk fk_frz⟩
  | st => exact h
  | ls ds =>
    obtain ⟨p, vs, h1, h2, h3, h4, h5⟩ := h
    exact ⟨p, vs, h1, h2, (fun z => z.elim h3 fun e => n p h1 rfl (.inl e.symm)), h4, h5.fk fk_frz⟩
  | dc ds =>
    obtain ⟨p, vs, h1, h2, h3, h4, h5⟩ := h
    exact ⟨p, vs, h1, h2, (fun z => z.elim h3 fun e => n p h1 rfl (.inl e.symm)), h4, h5.fk fk_frz⟩
  | dt ds =>
    obtain ⟨p, vs, h1, h2, h3, h4, h5, h6⟩ := h
    exact ⟨p, vs, h1, h2, (fun z => z.elim h3 fun e => n p h1 rfl (.inl e.symm)), h4, h5, h6.fk fk_frz⟩
  | dl ds =>
    obtain ⟨p, vs, h1, h2, h3, h4, h5⟩ := h
    exact ⟨p, vs, h1, h2, (fun z => z.elim h3 fun e => n p h1 rfl (.inl e.symm)), h4, h5.frz fun k m => n p h1 rfl (.inr ⟨ds, vs, k, rfl, h2, m⟩)⟩
theorem SOk.seal {i : Nat} {ds : List D} (so : SOk M K w0 w σ ρ) (q : ρ[i]? = some (.ls ds)) : ∃ a, SOk M K w0 (w.frz a) σ (ρ.set i (.im (.list ds))) := by
  obtain ⟨a, vs, h1, h2, h3, h4, h5⟩ := so.ev.ok i _ q
  have oa : Own w σ ρ i a := ⟨a, _, h1, q, rfl, .inl rfl⟩
  have h0 := so.ow i a oa
  have hi : i < ρ.length := (List.getElem?_eq_some_iff.mp q).1
  have back : ∀ {j : Nat} {b : Addr}, Own (w.frz a) σ (ρ.set i (.im (.list ds))) j b → Own w σ ρ j b := fun {j b} ob => by
    obtain ⟨p, e, g1, g2, g3, g4⟩ := ob
    by_cases ij : i = j
    · subst ij
      rw [List.getElem?_set_self hi] at g2
      cases g2
      cases g3
    · rw [List.getElem?_set_ne ij] at g2
      exact ⟨p, e, g1, g2, g3, g4⟩
  refine ⟨a, ⟨by rw [List.length_set]; exact so.ev.len, fun j e qj => ?_, fun j k b o1 o2 => so.ev.ap j k b (back o1) (back o2)⟩, gd_frz so.gd (by rw [h2]; simp) h4, stp_frz so.st h0, fun j b ob => so.ow j b (back ob)⟩
  by_cases ij : i = j
  · subst ij
    rw [List.getElem?_set_self hi] at qj
    cases qj
    exact ⟨_, h1, .lst (.inl ⟨.inr rfl, .of h2⟩) (h5.fk fk_frz)⟩
  · rw [List.getElem?_set_ne ij] at qj
    exact (so.ev.ok j e qj).frz fun p g1 g2 g3 => ij (so.ev.ap i j a oa ⟨p, e, g1, qj, g2, g3⟩)
end
section
variable {X : Cx} {M : MI} {w0 : W} {st : Stmt} {ws : WS}
/-- the list in slot i changes no more -/
def wSeal (i : Nat) (ws : WS) : WS := fun dd ρ c => ∃ ds, ρ[i]? = some (.ls ds) ∧ ws dd (ρ.set i (.im (.list ds))) c
theorem s_seal {i : Nat} (h : PS X st (tS M X.K w0 ws)) : PS X st (tS M X.K w0 (wSeal i ws)) := by
  refine PS.imp h ?_
  rintro D σ H ⟨w, ρ, dd, eh, so, ⟨ds, q, hw⟩, k⟩
  obtain ⟨a, so1⟩ := so.seal q
  exact ⟨w.frz a, _, dd, eh, so1, hw, k.mono fk_frz⟩
/-! targets in targets -/
def gTsG : List WGt → List D → List En → (List En → Prop) → Prop
  | [], [], ρ, Q => Q ρ
  | t :: ts, d :: ds, ρ, Q => t d ρ fun ρ' => gTsG ts ds ρ' Q
  | _, _, _, _ => False
def gTG (ts : List WGt) : WGt := fun d ρ Q => ∃ ds, d = .tuple ds ∧ ds.length = ts.length ∧ gTsG ts ds ρ Q
inductive TgsOk (M : MI) (K : PySem.W.Frag) (w0 : W) : TGs → List WGt → Prop
  | nil : TgsOk M K w0 L2.gNil []
  | cons {g : TG} {t : WGt} {gs : TGs} {ts : List WGt} : TgOk M K w0 g t → TgsOk M K w0 gs ts → TgsOk M K w0 (gCons g gs) (t :: ts)
theorem TgsOk.go {K : PySem.W.Frag} {gs : TGs} {ts : List WGt} (h : TgsOk M K w0 gs ts) : ∀ (w : W) (σ : L2.St) (ρ : List En) (vs : List V) (ds : List D) (Qd : List En → Prop) (Q : L2.St → Hp → Prop), SOk M K w0 w σ ρ → DvA K w.F w.H vs ds → gTsG ts ds ρ Qd →
    (∀ σ' ρ', SOk M K w0 w σ' ρ' → Qd ρ' → Q σ' w.H) → gs vs σ w.H Q := by
  induction h with
  | nil =>
    intro w σ ρ vs ds Qd Q so dv hq k
    cases dv with
    | nil => exact ⟨rfl, k σ ρ so hq⟩
    | cons _ _ => exact hq.elim
  | @cons g t gs ts h1 h2 ih =>
    intro w σ ρ vs ds Qd Q so dv hq k
    cases dv with
    | nil => exact hq.elim
    | cons hv hr =>
      refine ⟨_, _, rfl, h1 w σ ρ _ _ _ _ so hv hq fun σ' ρ' so' q' => ?_⟩
      exact ih w σ' ρ' _ _ _ _ so' hr q' k
theorem tg_tupG {K : PySem.W.Frag} {gs : TGs} {ts : List WGt} {n : Nat} (h : TgsOk M K w0 gs ts) (hn : n = ts.length := by rfl) : TgOk M K w0 (gTup K n gs) (gTG ts) := fun w σ ρ v d Qd Q so dv hq k => by
  obtain ⟨ds, rfl, hl, hq⟩ := hq
  cases dv with
  | @tup a vs _ h1 h2 => exact ⟨a, vs, rfl, h1.sq, by rw [h2.length, hl, hn], h.go w σ ρ vs ds Qd Q so h2 hq k⟩
end
end HW

/-! tuple * 1 -/
namespace HW
open PySem L2 PySem.Spec PyProof.Rows
theorem tuple_mul1 (l : Addr) (items : Array Value) (n : Nat) (dd : Option Addr) (sl : Array (Option Value)) (x : Int) (u : Tok) (c0 : (decide (x < -(2 ^ 63)) || decide (x ≥ 2 ^ 63)) = false) (c1 : (items.isEmpty || x == 1) = true) :
    Meets (Builtin.«tuple.__mul__» ⟨[.ref l, .int x u], []⟩) (fun _ R s => s.heap.get? l = some { cls := .type "tuple", dict := dd, data := .seq items n, slots := sl } ∧ R (.ok (.ret (Value.ref l))) s) :=
  .of_wp fun prog w A R s h => by
    obtain ⟨hp, g, d, tk, os⟩ := s
    obtain ⟨hl, h⟩ := h
    have f1 := AutoSeq1.idx_int
    wp_walk using wpAny_loadPart' hl
    repeat (first
      | (refine wpAny_ite_false (decide_eq_false (by rw [c0]; exact Bool.false_ne_true)) ?_; wp_walk using wpAny_loadPart' hl)
      | (refine wpAny_ite_true (decide_eq_true c1) ?_; wp_walk using wpAny_loadPart' hl))
    exact ⟨_, rfl, h⟩
def rRep1 (K : PySem.W.Frag) : R2 := fun x y H Q => ∃ l xs, x = .ref l ∧ y = .int 1 ∧ SqT K H l xs ∧ xs ≠ [] ∧ Q (.ref l) H
theorem op_rep1 {X : Cx} : OpR X (binaryOp .Mult) (rRep1 X.K) := by
  intro pins s σ H x y v u Q I rx ry h
  obtain ⟨l, xs, rfl, rfl, hT, hne, q⟩ := h
  cases rx
  obtain ⟨t, rfl⟩ := ry
  obtain ⟨its, r, ⟨⟨cls, dd, data, sl⟩, ho, hc, n, hd⟩, hs⟩ := I.tuple hT
  simp only at hc hd
  subst hc hd
  have c0 : (decide ((1 : Int) < -(2 ^ 63)) || decide ((1 : Int) ≥ 2 ^ 63)) = false := by decide
  have c1 : (its.toArray.isEmpty || (1 : Int) == 1) = true := by simp
  refine wpAny_binaryOp_repeat_ref (T := "tuple") (U := "int") (by decide) ⟨_, ho, rfl⟩ (fun s' => typeIs_int s' 1 t) noFill_tuple_mul F.fills_int_mul F.slot_int_rmul repeat_tuple F.slot_int_index.lookup
    (call_meets F.slot_int_rmul (typeIs_int s 1 t) F.entry_int_rmul (F.args_int_rmul_2 _ _) (int_rmul_tuple 1 t l its.toArray n dd sl)
      ⟨ho, rfl, ⟨_, ho, rfl⟩, call_meets F.slot_tuple_mul ⟨_, ho, rfl⟩ F.entry_tuple_mul (F.args_tuple_mul_2 _ _) (tuple_mul1 l its.toArray n dd sl 1 t c0 c1) ⟨ho, ?_⟩⟩)
  exact ⟨.ref l, _, I, rfl, q⟩
def rRepA (K : PySem.W.Frag) : R2 := fun x y H Q => rRepT K x y H Q ∨ rRep1 K x y H Q
theorem op_repA {X : Cx} : OpR X (binaryOp .Mult) (rRepA X.K) := opR_or op_repT op_rep1
def repTAD : D → D → Option D
  | .tuple ds, .int k => if ds ≠ [] ∧ 1 ≤ k ∧ k ≤ 1000 ∧ ds.length ≤ 1000 then some (.tuple (List.replicate k.toNat ds).flatten) else none
  | _, _ => none
theorem d_repTA {M : MI} {K : PySem.W.Frag} : OpD M K (rRepA K) repTAD := fun w x y dx dy z Q g hx hy e k => by
  cases dx <;> cases dy <;> simp only [repTAD, reduceCtorEq] at e
  rename_i ds i
  split at e
  · rename_i h
    obtain ⟨h1, h2, h3, h4⟩ := h
    by_cases hi : i = 1
    · subst hi
      have e' : z = .tuple ds := by
        have e2 := Option.some.inj e
        rw [show (1 : Int).toNat = 1 from rfl] at e2
        simpa using e2.symm
      subst e'
      have hx1 := hx.tup1
      obtain ⟨a, vs, rfl, sq, da⟩ := hx.seqT
      refine .inr ⟨a, vs, rfl, hy.int, sq, fun z => h1 ?_, keepQ g hx1 k⟩
      subst z
      cases da
      rfl
    · refine .inl (d_repT w x y _ _ z Q g hx hy ?_ k)
      show (if ds ≠ [] ∧ 2 ≤ i ∧ i ≤ 1000 ∧ ds.length ≤ 1000 then _ else none) = _
      rw [if_pos ⟨h1, by omega, h3, h4⟩]
      exact e
  · cases e
end HW

/-! zip; repr of an int; sorted of pairs (int, text) -/
namespace HW
open PySem L2
/-! zip of two lists, of two tuples -/
def zipD (xs ys : List D) : List D := List.zipWith (fun a b => PyData.tuple [a, b]) xs ys
theorem zipD_get {xs ys : List D} {i : Nat} {d : D} (e : (zipD xs ys)[i]? = some d) : ∃ a b, xs[i]? = some a ∧ ys[i]? = some b ∧ d = .tuple [a, b] := by
  unfold zipD at e
  rw [List.getElem?_zipWith] at e
  cases ex : xs[i]? with
  | none => rw [ex] at e; cases e
  | some a =>
    cases ey : ys[i]? with
    | none => rw [ex, ey] at e; cases e
    | some b => rw [ex, ey] at e; exact ⟨a, b, rfl, rfl, by cases e; rfl⟩
section
variable {X : Cx} {M : MI} {e e2 : Expr} {we we2 : WE} {p pos tpos : Pos} {elts : List Expr} {kk : Nat}
def wZip (we we2 : WE) : WI := fun ρ c Q => we ρ c fun d c1 => we2 ρ c1 fun d2 c2 => ∃ xs ys, ((d = .list xs ∧ d2 = .list ys) ∨ (d = .tuple xs ∧ d2 = .tuple ys)) ∧ Q (zipD xs ys) c2
theorem i_zipF (hg : Gl X "zip") (hm : X.mg "zip" = none) (he : PE X e (tE M X.K we)) (he2 : PE X e2 (tE M X.K we2)) (hs : starEach [e, e2] X.env = (false, eval e X.env) :: starEach [e2] X.env := by rfl) (hs2 : starEach [e2] X.env = (false, eval e2 X.env) :: starEach [] X.env := by rfl) (hpl : (backTo pos (starEach [e2] X.env)).any (·.1) = false := by rfl) :
    PI X (.Tuple elts kk tpos) (.Call (.Name "zip" p) [e, e2] [] pos) (tI M X.K Fk (wZip we we2)) := by
  refine PI.imp (RZ.pi_zipA hg hm (pa_cons he (pa_cons he2 pa_nil hs2) hs) hs hpl) ?_
  rintro σ H R ⟨w, ρ, Qd, eh, ev, g, hw, k⟩
  refine ⟨w, ρ, _, eh, ev, g, hw, fun w1 v d s1 g1 dv q1 => ?_⟩
  refine ⟨w1, ρ, _, rfl, ev.stp s1 g, g1, q1, fun w2 v2 d2 s2 g2 dv2 q2 => ?_⟩
  obtain ⟨xs, ys, hd, q2⟩ := q2
  have dv1 := dv.fk (s2.fk g1)
  have zl : (zipD xs ys).length = min xs.length ys.length := by unfold zipD; simp
  rcases hd with ⟨rfl, rfl⟩ | ⟨rfl, rfl⟩
  · cases dv1 with
    | @lst a us _ h2 h3 =>
      cases dv2 with
      | @lst b vs _ h5 h6 =>
        refine ⟨a, b, us, vs, rfl, .inl ⟨h2.sq, h5.sq, k w2 _ (zipD xs ys) (s1.trans s2) g2 ⟨fun w' i d r g' ed => ?_, fun w' i r g' hi => ?_⟩ q2⟩⟩
        · obtain ⟨x0, y0, ex, ey, rfl⟩ := zipD_get ed
          have qa := (h2.up (r.f1 a) fun o f => r.k a o f).sq
          have qb := (h5.up (r.f1 b) fun o f => r.k b o f).sq
          obtain ⟨va, eva, dva⟩ := (h3.fk r).get ex
          obtain ⟨vb, evb, dvb⟩ := (h6.fk r).get ey
          refine ⟨⟨us, vs, va, vb, qa, qb, eva, evb⟩, fun x H' y => ?_⟩
          obtain ⟨T, x1, y1, rfl, hT, rfl, hx, hy⟩ := y
          have e1 := hx us qa
          have e2 := hy vs qb
          rw [eva] at e1
          rw [evb] at e2
          cases e1
          cases e2
          exact ⟨w'.new T _, rfl, rfl, stp_new hT, gd_new g' hT, new_tup g' hT (.cons dva (.cons dvb .nil))⟩
        · rw [zl] at hi
          exact ⟨us, vs, (h2.up (r.f1 a) fun o f => r.k a o f).sq, (h5.up (r.f1 b) fun o f => r.k b o f).sq, by rw [h3.length, h6.length]; omega⟩
  · cases dv1 with
    | @tup a us _ h2 h3 =>
      cases dv2 with
      | @tup b vs _ h5 h6 =>
        refine ⟨a, b, us, vs, rfl, .inr ⟨h2.sq, h5.sq, k w2 _ (zipD xs ys) (s1.trans s2) g2 ⟨fun w' i d r g' ed => ?_, fun w' i r g' hi => ?_⟩ q2⟩⟩
        · obtain ⟨x0, y0, ex, ey, rfl⟩ := zipD_get ed
          have qa := (h2.up (r.f1 a) fun o f => r.k a o f).sq
          have qb := (h5.up (r.f1 b) fun o f => r.k b o f).sq
          obtain ⟨va, eva, dva⟩ := (h3.fk r).get ex
          obtain ⟨vb, evb, dvb⟩ := (h6.fk r).get ey
          refine ⟨⟨us, vs, va, vb, qa, qb, eva, evb⟩, fun x H' y => ?_⟩
          obtain ⟨T, x1, y1, rfl, hT, rfl, hx, hy⟩ := y
          have e1 := hx us qa
          have e2 := hy vs qb
          rw [eva] at e1
          rw [evb] at e2
          cases e1
          cases e2
          exact ⟨w'.new T _, rfl, rfl, stp_new hT, gd_new g' hT, new_tup g' hT (.cons dva (.cons dvb .nil))⟩
        · rw [zl] at hi
          exact ⟨us, vs, (h2.up (r.f1 a) fun o f => r.k a o f).sq, (h5.up (r.f1 b) fun o f => r.k b o f).sq, by rw [h3.length, h6.length]; omega⟩
end
/-! repr of an int -/
def reprID : D → Option D
  | .int i => if i.natAbs.log2 < 1920 then some (.str (toString i)) else none
  | _ => none
theorem d_reprI {M : MI} {K : PySem.W.Frag} : FnD M K (fun xs H Q => ∃ i, xs = [.int i] ∧ i.natAbs.log2 < 1920 ∧ Q (.str (toString i)) H) reprID := fun w x dx z Q g hx e k => by
  cases dx <;> simp only [reprID, reduceCtorEq] at e
  split at e
  · cases e; cases hx.int
    exact ⟨_, rfl, by assumption, keepQ g (.str _) k⟩
  · cases e
end HW

/-! sorted of pairs (int, text), any number of them -/
namespace SortPS
open PySem PySem.Spec PyProof.Rows
abbrev ltS (a b : PySem.Str) : Prop := a.cps.toList < b.cps.toList
theorem ltS_asym {a b : PySem.Str} (h : ltS a b) : ¬ ltS b a := fun z => absurd (List.lt_trans h z) (List.lt_irrefl _)
theorem ltS_tr {a b c : PySem.Str} (h1 : ¬ ltS b a) (h2 : ¬ ltS c b) : ¬ ltS c a := List.not_lt.mpr (List.le_trans (List.not_lt.mp h1) (List.not_lt.mp h2))
def lexS (p q : Int × PySem.Str) : Bool := if p.1 = q.1 then decide (ltS p.2 q.2) else decide (p.1 < q.1)
theorem lexS_iff {p q : Int × PySem.Str} : lexS p q = true ↔ p.1 < q.1 ∨ (p.1 = q.1 ∧ ltS p.2 q.2) := by
  unfold lexS
  by_cases e : p.1 = q.1
  · rw [if_pos e, decide_eq_true_eq]
    exact ⟨fun h => .inr ⟨e, h⟩, fun h => h.elim (fun z => absurd e (by omega)) fun z => z.2⟩
  · rw [if_neg e, decide_eq_true_eq]
    exact ⟨.inl, fun h => h.elim id fun z => absurd z.1 e⟩
theorem lexS_no {p q : Int × PySem.Str} : lexS p q = false ↔ ¬ (p.1 < q.1 ∨ (p.1 = q.1 ∧ ltS p.2 q.2)) := by
  rw [← lexS_iff]
  cases lexS p q <;> simp
theorem swo_lexS {α : Type} (k : α → Int × PySem.Str) : SrtO.Swo fun v u => lexS (k v) (k u) := by
  refine ⟨fun x y h => ?_, fun x y z h1 h2 => ?_⟩
  · have a := lexS_iff.mp h
    refine lexS_no.mpr fun b => ?_
    rcases a with a | ⟨a1, a2⟩
    · rcases b with b | ⟨b1, b2⟩ <;> omega
    · rcases b with b | ⟨b1, b2⟩
      · omega
      · exact ltS_asym a2 b2
  · have a := lexS_no.mp h1
    have b := lexS_no.mp h2
    refine lexS_no.mpr fun c => ?_
    have a1 : ¬ (k y).1 < (k x).1 := fun z => a (.inl z)
    have b1 : ¬ (k z).1 < (k y).1 := fun z => b (.inl z)
    rcases c with c | ⟨c1, c2⟩
    · omega
    · have e1 : (k y).1 = (k x).1 := by omega
      have e2 : (k z).1 = (k y).1 := by omega
      exact ltS_tr (fun z => a (.inr ⟨e1, z⟩)) (fun z => b (.inr ⟨e2, z⟩)) c2
/-- a pair (int, text) in the heap -/
def IsPS (h : Heap) (v : Value) (x : Int) (y : PySem.Str) : Prop := ∃ a o t u n, v = .ref a ∧ h.get? a = some o ∧ o.cls = .type "tuple" ∧ o.data = .seq #[.int x t, .str y u] n
theorem IsPS.keeps {h h' : Heap} {v : Value} {x : Int} {y : PySem.Str} (p : IsPS h v x y) (k : ∀ b o, h.get? b = some o → o.cls = .type "tuple" → h'.get? b = some o) : IsPS h' v x y := by
  obtain ⟨a, o, t, u, n, e, ho, hc, hd⟩ := p
  exact ⟨a, o, t, u, n, e, k _ _ ho hc, hc, hd⟩
theorem firsts {h : Heap} : ∀ {vs : List Value}, (∀ v ∈ vs, ∃ x y, IsPS h v x y) → ∃ fs : List Value, PySem.W.KatTups h vs fs ∧ fs.length = vs.length ∧ ∀ f ∈ fs, ∃ x t, f = Value.int x t
  | [], _ => ⟨[], PySem.W.KatTups.nil, rfl, fun _ hm => by simp at hm⟩
  | v :: vs, hp => by
    obtain ⟨fs, h1, h2, h3⟩ := firsts (vs := vs) fun v' hm => hp v' (List.mem_cons_of_mem _ hm)
    obtain ⟨x, y, a, o, t, u, n, e, ho, hc, hd⟩ := hp v (List.mem_cons_self ..)
    subst e
    refine ⟨.int x t :: fs, PySem.W.KatTups.cons ho hc hd rfl h1, by rw [List.length_cons, List.length_cons, h2], fun f hm => ?_⟩
    rcases List.mem_cons.mp hm with rfl | hm
    · exact ⟨x, t, rfl⟩
    · exact h3 f hm
section
variable {prog : Program} {w : World} {A : Around} {E : Value → Shared → Prop} {s : Shared}
theorem ps_cmp {vs : List Value} {k : Value → Int × PySem.Str} (hp : ∀ v ∈ vs, IsPS s.heap v (k v).1 (k v).2) : SrtO.Cmp prog w A s (tuples' true) (fun p => p.1 ∈ vs) (SrtO.lt2 fun v u => lexS (k v) (k u)) := by
  intro p q hm hm'
  have h1 := hp _ hm
  have h2 := hp _ hm'
  show wpAny (model prog w) A (keyLt' (tuples' true) p.1 q.1) (fun r s' => s' = s ∧ r = lexS (k p.1) (k q.1)) (fun _ _ => False) s
  unfold lexS
  generalize (k p.1).1 = x at h1 ⊢
  generalize (k p.1).2 = y at h1 ⊢
  generalize (k q.1).1 = x' at h2 ⊢
  generalize (k q.1).2 = y' at h2 ⊢
  obtain ⟨a, o, t, u, n, e, ho, hc, hd⟩ := h1
  obtain ⟨a', o', t', u', n', e', ho', hc', hd'⟩ := h2
  rw [e, e']
  refine PySem.W.kat_lt ho hd ho' hd' ?_
  show PySem.W.KatLex prog w A true (decide (2 < 2)) _ [(.int x t, .int x' t'), (.str y u, .str y' u')] 0 s
  refine PySem.W.kat_cons (SeqAt.EqAt.int_int x t x' t' prog w _ _ ?_)
  refine PySem.W.kat_go (fun e1 => ?_) (fun e1 => ?_)
  · have ex : x = x' := by simpa using e1
    refine PySem.W.kat_yes (PySem.W.kat_cons (SeqAt.EqAt.str_str y u y' u' prog w _ _ ?_))
    refine PySem.W.kat_go (fun e2 => ?_) (fun e2 => ?_)
    · have ey : y = y' := by simpa using e2
      have e3 : (if x = x' then decide (ltS y y') else decide (x < x')) = false := by
        rw [if_pos ex, ey]
        exact decide_eq_false (List.lt_irrefl _)
      exact PySem.W.kat_yes (PySem.W.kat_nil ⟨rfl, e3.symm⟩)
    · have e3 : (if x = x' then decide (ltS y y') else decide (x < x')) = decide (ltS y y') := if_pos ex
      refine PySem.W.kat_no (PySem.W.kat_one _ _ (PyProof.Rows.lt_str ?_))
      exact (show s = s ∧ decide (ltS y y') = (if x = x' then decide (ltS y y') else decide (x < x')) from ⟨rfl, e3.symm⟩)
  · have ex : ¬ x = x' := by simpa using e1
    have e3 : (if x = x' then decide (ltS y y') else decide (x < x')) = decide (x < x') := if_neg ex
    exact PySem.W.kat_no (oneLt_int ⟨rfl, e3.symm⟩)
theorem ps_sortable {a : Addr} {vs : List Value} {k : Value → Int × PySem.Str} (h0 : 0 < vs.length) (hp : ∀ v ∈ vs, IsPS s.heap v (k v).1 (k v).2) (ha : ∀ o, s.heap.get? a = some o → o.cls ≠ .type "tuple") : SrtO.SortableO prog w A s a vs fun v u => lexS (k v) (k u) := by
  intro h' keep
  have hp' : ∀ v ∈ vs, IsPS h' v (k v).1 (k v).2 := fun v hm => (hp v hm).keeps fun b o e c => keep b o (fun z => by subst z; exact ha o e c) e
  obtain ⟨fs, h1, h2, h3⟩ := firsts fun v hm => ⟨_, _, hp' v hm⟩
  refine ⟨tuples' true, fun Q E hq => ?_, ps_cmp hp'⟩
  refine PySem.W.kat_kind (T := .type "int") h1 (by omega) (fun f hm => ?_) (by rfl) ?_
  · obtain ⟨x, t, rfl⟩ := h3 f hm
    exact PySem.W.Looks.now
  · have e : (Value.type "int" != Value.type "tuple") = true := by first | decide +kernel | rfl | decide
    rw [e]
    exact hq
theorem sorted_ps {l : Addr} {vs : List Value} {k : Value → Int × PySem.Str} {Q : Value → Shared → Prop} (hl : s.heap.IsList l vs.toArray) (hz : vs.length ≤ sizeLine) (hp : ∀ v ∈ vs, IsPS s.heap v (k v).1 (k v).2)
    (h : ∀ (h' : Heap) (d : Addr) (out : List Value), SrtO.Srtd (fun v u => lexS (k v) (k u)) out → SrtO.Stb (fun v u => lexS (k v) (k u)) out vs → (∀ b o, s.heap.get? b = some o → h'.get? b = some o) → s.heap.objs.size ≤ d → (∃ n, h'.get? d = some (seqObj "list" out.toArray n)) → Q (.ref d) { s with heap := h' }) :
    wpAny (model prog w) A (call (.builtin "sorted") [.ref l]) Q E s := by
  refine SrtO.sorted_ord (swo_lexS k) hl hz (fun h2 h₁ a ha kk => ?_) fun out hs hb => ?_
  · refine ps_sortable (s := { s with heap := h₁ }) (by omega) (fun v hm => (hp v hm).keeps fun b o e _ => (kk b o e).2) fun o e => ?_
    have e' : some o = some (seqObj "list" vs.toArray 0) := e.symm.trans ha
    cases e'
    intro c
    exact absurd (Value.type.inj c) (by decide)
  · exact h _ _ out hs hb (fun b o e => sortedAll_old e) (Nat.le_succ _) (sortedAll_at s.heap vs out.toArray)
end
end SortPS
namespace L2
open PySem PySem.Spec PyProof.Rows
theorem perm_map_lift {α β : Type} {f : α → β} {m l : List β} (h : m.Perm l) : ∀ {zs : List α}, l = zs.map f → ∃ zs' : List α, zs'.Perm zs ∧ zs'.map f = m := by
  induction h with
  | nil => intro zs e; cases zs with
    | nil => exact ⟨[], .refl _, rfl⟩
    | cons _ _ => cases e
  | @cons x l1 l2 h ih =>
    intro zs e
    cases zs with
    | nil => cases e
    | cons z zs =>
      injection e with e1 e2
      obtain ⟨zs', p, e3⟩ := ih e2
      exact ⟨z :: zs', p.cons z, by rw [List.map_cons, e3, e1]⟩
  | swap x y l =>
    intro zs e
    cases zs with
    | nil => cases e
    | cons z zs =>
      injection e with e1 e2
      cases zs with
      | nil => cases e2
      | cons z2 zs =>
        injection e2 with e2 e3
        exact ⟨z2 :: z :: zs, .swap _ _ _, by rw [List.map_cons, List.map_cons, ← e1, ← e2, ← e3]⟩
  | trans h1 h2 ih1 ih2 =>
    intro zs e
    obtain ⟨zs2, p2, e2⟩ := ih2 e
    obtain ⟨zs1, p1, e1⟩ := ih1 e2.symm
    exact ⟨zs1, p1.trans p2, e1⟩
theorem ips_det {h : Heap} {v : Value} {x x' : Int} {y y' : PySem.Str} (a : SortPS.IsPS h v x y) (b : SortPS.IsPS h v x' y') : x = x' ∧ y = y' := by
  obtain ⟨p, o, t, u, n, e, ho, hc, hd⟩ := a
  obtain ⟨p', o', t', u', n', e', ho', hc', hd'⟩ := b
  rw [e] at e'
  cases e'
  rw [ho] at ho'
  cases ho'
  rw [hd] at hd'
  simp at hd'
  exact ⟨hd'.1.1.1, hd'.1.2.1⟩
noncomputable def keyPS (h : Heap) (v : Value) : Int × PySem.Str := by
  classical
  exact if e : ∃ p : Int × PySem.Str, SortPS.IsPS h v p.1 p.2 then Classical.choose e else (0, "")
theorem keyPS_eq {h : Heap} {v : Value} {p : Int × PySem.Str} (a : SortPS.IsPS h v p.1 p.2) : keyPS h v = p := by
  have e : ∃ p : Int × PySem.Str, SortPS.IsPS h v p.1 p.2 := ⟨p, a⟩
  have : keyPS h v = Classical.choose e := by
    unfold keyPS
    simp [e]
  rw [this]
  obtain ⟨h1, h2⟩ := ips_det (Classical.choose_spec e) a
  exact Prod.ext h1 h2
/-- sorted(xs), xs a list of pairs (int, text) of any length: zs says which -/
def rSortPS (K : PySem.W.Frag) : List V → Hp → VK → Prop := fun vs H Q => ∃ (a : Addr) (zs : List (V × (Int × PySem.Str))), vs = [V.ref a] ∧ SqL K H a (zs.map (·.1)) ∧ (∀ z ∈ zs, ∃ t, z.1 = V.ref t ∧ SqT K H t [.int z.2.1, .str z.2.2]) ∧
  ∀ (zs' : List (V × (Int × PySem.Str))) (p : Addr), zs'.Perm zs → zs'.Pairwise (fun x y => SortPS.lexS y.2 x.2 = false) → H p = none → Q (.ref p) (upd H p (.lst (zs'.map (·.1))))
section
variable {X : Cx}
theorem cr_sortPS : CallR X (.builtin "sorted") (rSortPS X.K) := by
  intro pins s σ H vs us Q I r h
  obtain ⟨a, zs, rfl, hs, hx, q⟩ := h
  obtain ⟨its, rv, hl, hz⟩ := I.list hs
  obtain ⟨u, rfl, ru⟩ := vals1 r
  obtain rfl : u = Value.ref a := ru
  obtain ⟨e1, e2⟩ := refs_back rv fun x m => by
    obtain ⟨z, hz, rfl⟩ := List.mem_map.mp m
    obtain ⟨t, e, _⟩ := hx z hz
    exact ⟨t, e⟩
  let fv : V × (Int × PySem.Str) → Value := fun z => match z.1 with
    | .ref t => .ref t
    | _ => .none
  have fb : ∀ z ∈ zs, ∃ t, fv z = .ref t ∧ z.1 = .ref t ∧ SortPS.IsPS s.heap (fv z) z.2.1 z.2.2 := fun z hz => by
    obtain ⟨t, e, ht⟩ := hx z hz
    obtain ⟨its2, r2, ⟨o, ho, hc, n, hd⟩, _⟩ := I.tuple ht
    obtain ⟨u1, u2, rfl, ri, rj⟩ := vals2 r2
    obtain ⟨t1, rfl⟩ := ri
    obtain ⟨t2, rfl⟩ := rj
    have ef : fv z = .ref t := by show (match z.1 with | .ref t => Value.ref t | _ => .none) = _; rw [e]
    exact ⟨t, ef, e, t, o, t1, t2, n, ef, ho, hc, hd⟩
  have ei : its = zs.map fv := by
    have q1 : (zs.map (·.1)) = its.map backV := e1
    have q2 : ∀ (l : List (V × (Int × PySem.Str))) (m : List Value), (∀ z ∈ l, ∃ t, fv z = .ref t ∧ z.1 = .ref t) → (∀ u ∈ m, ∃ t, u = Value.ref t) → l.map (·.1) = m.map backV → m = l.map fv := by
      intro l
      induction l with
      | nil => intro m _ _ e; cases m with
        | nil => rfl
        | cons _ _ => cases e
      | cons z l ih =>
        intro m h1 h2 e
        cases m with
        | nil => cases e
        | cons u m =>
          injection e with f1 f2
          obtain ⟨t, g1, g2⟩ := h1 z List.mem_cons_self
          obtain ⟨t', rfl⟩ := h2 u List.mem_cons_self
          have f1 : z.1 = V.ref t' := f1
          have : t = t' := by rw [g2] at f1; exact V.ref.inj f1
          subst this
          rw [List.map_cons, g1, ← ih m (fun z hz => h1 z (List.mem_cons_of_mem _ hz)) (fun u hu => h2 u (List.mem_cons_of_mem _ hu)) f2]
    exact q2 zs its (fun z hz => let ⟨t, g1, g2, _⟩ := fb z hz; ⟨t, g1, g2⟩) (fun u hu => e2 u hu) q1
  refine SortPS.sorted_ps (k := keyPS s.heap) hl.isList (by rw [← rv.length]; exact hz) (fun v hv => ?_) fun h' d out h1 h2 kp hd hn => ?_
  · rw [ei] at hv
    obtain ⟨z, hz, rfl⟩ := List.mem_map.mp hv
    obtain ⟨t, _, _, g3⟩ := fb z hz
    rw [keyPS_eq g3]
    exact g3
  · obtain ⟨zs', pz, ez⟩ := perm_map_lift h2.perm ei
    have fb' : ∀ z ∈ zs', ∃ t, fv z = .ref t ∧ z.1 = .ref t ∧ SortPS.IsPS s.heap (fv z) z.2.1 z.2.2 := fun z hz => fb z (pz.mem_iff.mp hz)
    have hv : Vals (zs'.map (·.1)) out := by
      rw [← ez]
      have : ∀ l : List (V × (Int × PySem.Str)), (∀ z ∈ l, ∃ t, fv z = .ref t ∧ z.1 = .ref t) → Vals (l.map (·.1)) (l.map fv) := by
        intro l
        induction l with
        | nil => intro _; exact .nil
        | cons z l ih =>
          intro h
          obtain ⟨t, g1, g2⟩ := h z List.mem_cons_self
          refine .cons ?_ (ih fun z hz => h z (List.mem_cons_of_mem _ hz))
          show RelV z.1 (fv z)
          rw [g1, g2]
          exact rfl
      exact this zs' fun z hz => let ⟨t, g1, g2, _⟩ := fb' z hz; ⟨t, g1, g2⟩
    obtain ⟨n, hn⟩ := hn
    have hs' : zs'.Pairwise (fun x y => SortPS.lexS y.2 x.2 = false) := by
      rw [← ez] at h1
      have h3 : (zs'.map fv).Pairwise (fun x y => SortPS.lexS (keyPS s.heap y) (keyPS s.heap x) = false) := h1
      rw [List.pairwise_map] at h3
      refine List.Pairwise.imp_of_mem (fun {x y} hx hy h => ?_) h3
      obtain ⟨_, _, _, gx⟩ := fb' x hx
      obtain ⟨_, _, _, gy⟩ := fb' y hy
      rw [keyPS_eq gx, keyPS_eq gy] at h
      exact h
    refine ⟨.ref d, upd H d (.lst (zs'.map (·.1))), I.laid (t' := s.toks) kp hd ⟨?_, out, n, hv, hn⟩, rfl, q _ d pz hs' (I.hok.fresh hd)⟩
    rw [List.length_map, pz.length_eq, ← List.length_map (f := fun z : V × (Int × PySem.Str) => z.1)]
    exact hz
end
end L2
namespace HW
open PySem L2
def psD (p : Int × Str) : D := .tuple [.int p.1, .str p.2]
def psOf : D → Option (Int × Str)
  | .tuple [.int i, .str x] => some (i, x)
  | _ => none
theorem psOf_some {d : D} {p : Int × Str} (h : psOf d = some p) : d = psD p := by
  unfold psOf at h
  split at h
  · cases h; rfl
  · cases h
def psAll : List D → Option (List (Int × Str))
  | [] => some []
  | d :: r => (psOf d).bind fun p => (psAll r).map (p :: ·)
theorem psAll_some : ∀ {ds : List D} {ps : List (Int × Str)}, psAll ds = some ps → ds = ps.map psD
  | [], ps, e => by cases e; rfl
  | d :: r, ps, e => by
    obtain ⟨p, e1, e2⟩ := Option.bind_eq_some_iff.mp e
    obtain ⟨qs, e3, rfl⟩ := Option.map_eq_some_iff.mp e2
    rw [List.map_cons, ← psAll_some e3, psOf_some e1]
theorem psAll_map : ∀ ps : List (Int × Str), psAll (ps.map psD) = some ps
  | [] => rfl
  | p :: r => by show (some p).bind _ = _; show (psAll (r.map psD)).map _ = _; rw [psAll_map r]; rfl
abbrev leP (a b : Int × Str) : Bool := !SortPS.lexS b a
theorem leP_trans (a b c : Int × Str) (h1 : leP a b = true) (h2 : leP b c = true) : leP a c = true := by
  have o := SortPS.swo_lexS (α := Int × Str) id
  have a1 : SortPS.lexS b a = false := by simpa [leP] using h1
  have a2 : SortPS.lexS c b = false := by simpa [leP] using h2
  have := o.tr a b c a1 a2
  show (!SortPS.lexS c a) = true
  rw [show SortPS.lexS c a = false from this]
  rfl
theorem leP_total (a b : Int × Str) : (leP a b || leP b a) = true := by
  have o := SortPS.swo_lexS (α := Int × Str) id
  show (!SortPS.lexS b a || !SortPS.lexS a b) = true
  cases e : SortPS.lexS b a with
  | false => rfl
  | true => rw [show SortPS.lexS a b = false from o.asym b a e]; rfl
theorem leP_anti {a b : Int × Str} (h1 : SortPS.lexS b a = false) (h2 : SortPS.lexS a b = false) : a = b := by
  have q1 := SortPS.lexS_no.mp h1
  have q2 := SortPS.lexS_no.mp h2
  have e1 : a.1 = b.1 := by
    rcases Int.lt_trichotomy a.1 b.1 with z | z | z
    · exact absurd (.inl z) q2
    · exact z
    · exact absurd (.inl z) q1
  have e2 : a.2.cps.toList = b.2.cps.toList := List.le_antisymm (List.not_lt.mp fun z => q1 (.inr ⟨e1.symm, z⟩)) (List.not_lt.mp fun z => q2 (.inr ⟨e1, z⟩))
  have e3 : a.2 = b.2 := by
    cases ha : a.2 with
    | mk x =>
      cases hb : b.2 with
      | mk y =>
        rw [ha, hb] at e2
        congr 1
        exact Array.toList_inj.mp e2
  exact Prod.ext e1 e3
theorem psort_uniq : ∀ {l m : List (Int × Str)}, l.Perm m → l.Pairwise (fun x y => SortPS.lexS y x = false) → m.Pairwise (fun x y => SortPS.lexS y x = false) → l = m
  | [], m, p, _, _ => (List.Perm.eq_nil p.symm).symm
  | x :: l, [], p, _, _ => absurd p.length_eq (by simp)
  | x :: l, y :: m, p, hl, hm => by
    have e : x = y := by
      rcases List.mem_cons.mp (p.mem_iff.mp List.mem_cons_self) with e | hx
      · exact e
      · rcases List.mem_cons.mp (p.mem_iff.mpr List.mem_cons_self) with e | hy
        · exact e.symm
        · exact leP_anti ((List.pairwise_cons.mp hl).1 y hy) ((List.pairwise_cons.mp hm).1 x hx)
    subst e
    rw [psort_uniq p.cons_inv (List.pairwise_cons.mp hl).2 (List.pairwise_cons.mp hm).2]
def sortP (ps : List (Int × Str)) : List (Int × Str) := ps.mergeSort leP
theorem sortP_sorted (ps : List (Int × Str)) : (sortP ps).Pairwise (fun x y => SortPS.lexS y x = false) := by
  have := List.pairwise_mergeSort (le := leP) leP_trans leP_total ps
  exact this.imp fun h => by simpa [leP] using h
theorem sortP_perm (ps : List (Int × Str)) : (sortP ps).Perm ps := List.mergeSort_perm ps leP
theorem sortP_eq {ps qs : List (Int × Str)} (p : qs.Perm ps) (h : qs.Pairwise (fun x y => SortPS.lexS y x = false)) : sortP ps = qs := psort_uniq ((sortP_perm ps).trans p.symm) (sortP_sorted ps) h
def sortPD : D → Option D
  | .list ds => (psAll ds).map fun ps => .list ((sortP ps).map psD)
  | _ => none
theorem dva_zip {K : PySem.W.Frag} {P : Addr → Prop} {H : Hp} : ∀ {vs : List V} {ps : List (Int × Str)}, DvA K P H vs (ps.map psD) → ∃ zs : List (V × (Int × Str)), zs.map (·.1) = vs ∧ zs.map (·.2) = ps ∧ ∀ z ∈ zs, Dv K P H z.1 (psD z.2)
  | _, [], .nil => ⟨[], rfl, rfl, fun _ h => by cases h⟩
  | v :: vs, p :: ps, .cons h r => by
    obtain ⟨zs, e1, e2, e3⟩ := dva_zip r
    refine ⟨(v, p) :: zs, by rw [List.map_cons, e1], by rw [List.map_cons, e2], fun z hz => ?_⟩
    rcases List.mem_cons.mp hz with rfl | hz
    · exact h
    · exact e3 z hz
theorem dva_unzip {K : PySem.W.Frag} {P : Addr → Prop} {H : Hp} : ∀ {zs : List (V × (Int × Str))}, (∀ z ∈ zs, Dv K P H z.1 (psD z.2)) → DvA K P H (zs.map (·.1)) ((zs.map (·.2)).map psD)
  | [], _ => .nil
  | z :: zs, h => .cons (h z List.mem_cons_self) (dva_unzip fun z hz => h z (List.mem_cons_of_mem _ hz))
theorem d_sortP {M : MI} {K : PySem.W.Frag} : FnD M K (rSortPS K) sortPD := fun w x dx z Q g hx e k => by
  cases dx <;> simp only [sortPD, reduceCtorEq] at e
  rename_i ds
  obtain ⟨ps, e1, rfl⟩ := Option.map_eq_some_iff.mp e
  have ed := psAll_some e1
  subst ed
  obtain ⟨a, vs, rfl, h1, h2⟩ := hx.seqL
  obtain ⟨zs, q1, q2, q3⟩ := dva_zip h2
  subst q1 q2
  refine ⟨a, zs, rfl, h1, fun z hz => ?_, fun zs' p pz ps hp => ?_⟩
  · have d := q3 z hz
    unfold psD at d
    generalize z.1 = v at d
    cases d with
    | @tup t us _ p1 p2 =>
      cases p2 with
      | cons c1 c2 =>
        cases c2 with
        | cons c2 c3 =>
          cases c3
          cases c1
          cases c2
          exact ⟨t, rfl, p1.sq⟩
  · have e2 : sortP (zs.map (·.2)) = zs'.map (·.2) := sortP_eq (pz.map _) (by rw [List.pairwise_map]; exact ps)
    rw [e2] at k
    exact newQ g hp (new_lst g hp (dva_unzip fun z hz => q3 z (pz.mem_iff.mp hz))) k
end HW

/-! repr of an int or None -/
namespace HW
open PySem L2
theorem call_repr_non {X : Cx} : CallR X (.builtin "repr") (fun xs H Q => xs = [.non] ∧ Q (.str "None") H) := by
  intro pins s σ H xs us Q I r h
  obtain ⟨rfl, q⟩ := h
  obtain ⟨u, rfl, r1⟩ := vals1 r
  cases r1
  exact PySem.P.repr_of_none ⟨.str _, H, I.tok _, ⟨_, rfl⟩, q⟩
def rReprN : List V → Hp → VK → Prop := fun xs H Q => (∃ i, xs = [.int i] ∧ i.natAbs.log2 < 1920 ∧ Q (.str (toString i)) H) ∨ (xs = [.non] ∧ Q (.str "None") H)
theorem call_reprN {X : Cx} : CallR X (.builtin "repr") rReprN := callR_or SkE.call_repr_int call_repr_non
def reprND : D → Option D
  | .int i => if i.natAbs.log2 < 1920 then some (.str (toString i)) else none
  | .none => some (.str "None")
  | _ => none
theorem d_reprN {M : MI} {K : PySem.W.Frag} : FnD M K rReprN reprND := fun w x dx z Q g hx e k => by
  cases dx <;> simp only [reprND, reduceCtorEq] at e
  · cases e; cases hx.non
    exact .inr ⟨rfl, keepQ g (.str _) k⟩
  · split at e
    · cases e; cases hx.int
      exact .inl ⟨_, rfl, by assumption, keepQ g (.str _) k⟩
    · cases e
end HW

/-! math.comb; s.find(t, i); * of great ints; x *= e; repr of a bool -/
namespace HW
open PySem L2
section
variable {X : Cx} {M : MI} {w0 : W}
/-! math.comb -/
theorem call_comb : CallR X (.builtin "math.comb") (fun xs H Q => ∃ a b : Int, xs = [.int a, .int b] ∧ (0 ≤ a ∧ 0 ≤ b ∧ a ≤ 18000) ∧ Q (.int (PySem.W.mcComb a b)) H) := by
  intro pins s σ H xs us Q I r h
  obtain ⟨a, b, rfl, ⟨h1, h2, h3⟩, q⟩ := h
  obtain ⟨u, w', rfl, ⟨t, rfl⟩, ⟨t', rfl⟩⟩ := vals2 r
  exact PySem.W.mc_comb h1 h2 (by omega) (.inr h3) fun _ => ⟨.int _, H, I.tok _, ⟨_, rfl⟩, q⟩
def combD : D → D → Option D
  | .int a, .int b => if 0 ≤ a ∧ 0 ≤ b ∧ a ≤ 18000 then some (.int (PySem.W.mcComb a b)) else none
  | _, _ => none
theorem d_comb {K : PySem.W.Frag} : FnD2 M K (fun xs H Q => ∃ a b : Int, xs = [.int a, .int b] ∧ (0 ≤ a ∧ 0 ≤ b ∧ a ≤ 18000) ∧ Q (.int (PySem.W.mcComb a b)) H) combD := fun w x y dx dy z Q g hx hy e k => by
  cases dx <;> cases dy <;> simp only [combD, reduceCtorEq] at e
  split at e
  · cases e; cases hx.int; cases hy.int
    exact ⟨_, _, rfl, by assumption, keepQ g (.int _) k⟩
  · cases e
/-- f(a, b), f a module's name for a built-in function -/
theorem e_bfun2 {r : List V → Hp → VK → Prop} {f : D → D → Option D} {x : Str} {id : String} {e e2 : Expr} {we we2 : WE} {p pos : Pos} (hr : CallR X (.builtin id) r) (hf : FnD2 M X.K r f) (hg : Gl X x) (hm : X.mg x = some (.builtin id)) (he : PE X e (tB M X.K we)) (he2 : PE X e2 (tB M X.K we2)) (hdb : (x == ("__debug__" : Str)) = false := by decide)
    (hs : starEach [e, e2] X.env = (false, eval e X.env) :: starEach [e2] X.env := by rfl) (hs2 : starEach [e2] X.env = (false, eval e2 X.env) :: starEach [] X.env := by rfl) (hpl : (backTo pos (starEach [e2] X.env)).any (·.1) = false := by rfl) : PE X (.Call (.Name x p) [e, e2] [] pos) (tE M X.K (wOp f we we2)) :=
  PE.imp (pe_callBfun hr hg hm (pa_cons he (pa_cons he2 pa_nil hs2) hs) hdb hs hpl) (r_fn2 hf)
/-! s.find(t, i) -/
def wFind (wo we wi : WE) : WE := fun ρ c Q => wo ρ c fun x c1 => (∃ s, x = .str s) ∧ we ρ c1 fun y c2 => wi ρ c2 fun z c3 => ∃ s t i, x = .str s ∧ y = .str t ∧ z = .int i ∧ Q (.int (Txt.find3 s t i)) c3
theorem e_find {o e e2 : Expr} {wo we wi : WE} {apos cpos : Pos} (ho : PE X o (tB M X.K wo)) (he : PE X e (tB M X.K we)) (he2 : PE X e2 (tB M X.K wi)) (hbase : attributeBase o "find" X.env (eval o X.env) = eval o X.env := by rfl)
    (hfew : ((backTo cpos (starEach [e, e2] X.env)).all (fun x => !x.1) && (backToKw cpos (keywordEach [] X.env)).all (fun x => x.1.isSome) && decide (([e, e2] : List Expr).length + ([] : List Keyword).length + (if ([] : List Keyword).isEmpty then 0 else 1) < 30)) = true := by rfl)
    (hline : (apos.endLine == cpos.line) = true := by rfl) (hs : starEach [e, e2] X.env = (false, eval e X.env) :: starEach [e2] X.env := by rfl) (hs2 : starEach [e2] X.env = (false, eval e2 X.env) :: starEach [] X.env := by rfl) (hpl : (backTo cpos (starEach [e2] X.env)).any (·.1) = false := by rfl) :
    PE X (.Call (.Attribute o "find" apos) [e, e2] [] cpos) (tE M X.K (wFind wo we wi)) := by
  refine PE.imp (pe_bm PySem.F.plainAttrs_str PySem.F.slot_str_find PySem.F.type_str_find mt_find3 ho (pa_cons he (pa_cons he2 pa_nil hs2) hs) hbase hfew hline hs hpl) ?_
  rintro σ H Q ⟨w, ρ, Qd, eh, ev, g, hw, k⟩
  refine ⟨w, ρ, _, eh, ev, g, hw, fun w1 x dx s1 g1 bx q1 => ?_⟩
  obtain ⟨⟨s, rfl⟩, q1⟩ := q1
  cases bx.str
  refine ⟨(show "str" = "str" from rfl), w1, ρ, _, rfl, ev.stp s1 g, g1, q1, fun w2 y dy s2 g2 by' q2 => ?_⟩
  refine ⟨w2, ρ, _, rfl, (ev.stp s1 g).stp s2 g1, g2, q2, fun w3 z dz s3 g3 bz q3 => ?_⟩
  obtain ⟨s', t, i, e1, rfl, rfl, q3⟩ := q3
  cases e1
  cases (by'.stp s3 g2).str
  cases bz.int
  exact ⟨s, t, i, rfl, rfl, k w3 _ _ ((s1.trans s2).trans s3) g3 (.int _) q3⟩
/-! * of great ints -/
def mulWD : D → D → Option D
  | .int i, .int j => if i.natAbs.log2 + j.natAbs.log2 < 1000000 then some (.int (i * j)) else none
  | _, _ => none
theorem d_mulW {K : PySem.W.Frag} : OpD M K (rI CMulW fun i j => .int (i * j)) mulWD := fun w x y dx dy z Q g hx hy e k => by
  cases dx <;> cases dy <;> simp only [mulWD, reduceCtorEq] at e
  split at e
  · cases e; cases hx.int; cases hy.int
    exact ⟨_, _, rfl, rfl, by assumption, keepQ g (.int _) k⟩
  · cases e
/-! x *= e -/
def wMulA (i : Nat) (we : WE) : WS := fun dd ρ c => ∃ a : Int, ρ[i]? = some (.im (.int a)) ∧ we ρ c fun d c1 => ∃ b : Int, d = .int b ∧ (-(2 ^ 64) < b ∧ b < 2 ^ 64) ∧ dd.nx (ρ.set i (.im (.int (a * b)))) c1
theorem s_mulA {i : Nat} {x : Str} {e : Expr} {we : WE} {pos pos' : Pos} (hN : X.N.Nodup) (hi : X.N[i]? = some x) (hx : Loc X.env.scope x) (he : PE X e (tE M X.K we)) (hf : X.fn x = true ∨ X.env.scope.names.lookup x = some .local := by first | exact .inl rfl | exact .inr rfl | assumption) :
    PS X (.AugAssign (.Name x pos') .Mult e pos) (tS M X.K w0 (wMulA i we)) := by
  refine PS.imp (ps_aug hN hi hx he (ti := fun x y H Q => ∃ i j, x = .int i ∧ y = .int j ∧ CMul i j ∧ Q (.int (i * j)) H) (fun pins s σ H x y v u Q I r1 r2 h => iop_mul pins s σ H x y v u Q I r1 r2 h) hf) ?_
  rintro D σ H ⟨w, ρ, dd, rfl, so, ⟨a, r, hw⟩, k⟩
  obtain ⟨v, e1, dv⟩ := so.ev.ok i _ r
  cases dv
  refine ⟨_, e1, w, ρ, _, rfl, so.ev, so.gd, hw, fun w1 v1 d1 s1 g1 dv1 q1 => ?_⟩
  obtain ⟨b, rfl, hb, q1⟩ := q1
  cases dv1
  exact ⟨a, b, rfl, rfl, .inr hb, k.nx w1 _ _ (s1.fk so.gd) ((so.stp s1 g1).setIm (.int _)) q1⟩
/-! repr of a bool -/
theorem call_reprB : CallR X (.builtin "repr") (fun xs H Q => ∃ b, xs = [.bl b] ∧ Q (.str (if b then "True" else "False")) H) := by
  intro pins s σ H xs us Q I r h
  obtain ⟨b, rfl, q⟩ := h
  obtain ⟨u, rfl, r1⟩ := vals1 r
  cases r1
  exact PySem.P.repr_of_bool ⟨.str _, H, I.tok _, ⟨_, rfl⟩, q⟩
def reprBD : D → Option D
  | .bool b => some (.str (if b then "True" else "False"))
  | _ => none
theorem d_reprB {K : PySem.W.Frag} : FnD M K (fun xs H Q => ∃ b, xs = [.bl b] ∧ Q (.str (if b then "True" else "False")) H) reprBD := fun w x dx z Q g hx e k => by
  cases dx <;> simp only [reprBD, reduceCtorEq] at e
  cases e; cases hx.bl
  exact ⟨_, rfl, keepQ g (.str _) k⟩
end
end HW

/-! a, b, c = e, f, g: three local names -/
namespace HW
open PySem L2
section
variable {X : Cx} {M : MI} {w0 : W}
def wPar3 (i j l : Nat) (we wk wm : WE) : WS := fun dd ρ c => we ρ c fun d c1 => wk ρ c1 fun d2 c2 => wm ρ c2 fun d3 c3 => dd.nx (((ρ.set i (.im d)).set j (.im d2)).set l (.im d3)) c3
theorem s_par3 {i j l : Nat} {x y z : Str} {a b e : Expr} {we wk wm : WE} {px py pz pt pos : Pos} {kt k2 pt2} (hc : X.calm = true) (hN : X.N.Nodup) (hi : X.N[i]? = some x) (hj : X.N[j]? = some y) (hl : X.N[l]? = some z) (hij : i ≠ j) (hil : i ≠ l) (hjl : j ≠ l) (hx : X.env.scope.names.lookup x = some .local) (hy : X.env.scope.names.lookup y = some .local) (hz : X.env.scope.names.lookup z = some .local) (ha : PE X a (tE M X.K we)) (hb : PE X b (tE M X.K wk)) (he : PE X e (tE M X.K wm))
    (hw : swappedStores [.Tuple [.Name x px, .Name y py, .Name z pz] kt pt] (.Tuple [a, b, e] k2 pt2) X.env = pure (some [x, y, z]) := by rfl) (h1 : starEach [a, b, e] X.env = (false, eval a X.env) :: starEach [b, e] X.env := by rfl) (h2 : starEach [b, e] X.env = (false, eval b X.env) :: starEach [e] X.env := by rfl) (h3 : starEach [e] X.env = (false, eval e X.env) :: starEach [] X.env := by rfl) (hs : swapsWithSole [.Tuple [.Name x px, .Name y py, .Name z pz] kt pt] (.Tuple [a, b, e] k2 pt2) pos.line X.env = pure false := by rfl) :
    PS X (.Assign [.Tuple [.Name x px, .Name y py, .Name z pz] kt pt] (.Tuple [a, b, e] k2 pt2) pos) (tS M X.K w0 (wPar3 i j l we wk wm)) := by
  refine PS.imp (ps_par3 hc hN hi hj hl hij hil hjl hx hy hz (pa_cons ha (pa_cons hb (pa_cons he pa_nil h3) h2) h1) hw hs) ?_
  rintro D σ H ⟨w, ρ, dd, eh, so, hw, k⟩
  refine ⟨w, ρ, _, eh, so.ev, so.gd, hw, fun w1 v d s1 g1 dv q1 => ?_⟩
  refine ⟨w1, ρ, _, rfl, so.ev.stp s1 so.gd, g1, q1, fun w2 v2 d2 s2 g2 dv2 q2 => ?_⟩
  refine ⟨w2, ρ, _, rfl, (so.ev.stp s1 so.gd).stp s2 g1, g2, q2, fun w3 v3 d3 s3 g3 dv3 q3 => ?_⟩
  exact ⟨v, v2, v3, rfl, k.nx w3 _ _ (((s1.trans s2).trans s3).fk so.gd) ((((((so.stp s1 g1).stp s2 g2).stp s3 g3).setIm (i := i) ((dv.fk (s2.fk g1)).fk (s3.fk g2))).setIm (dv2.fk (s3.fk g2))).setIm dv3) q3⟩
end
end HW

/-! a comprehension within another one, none of whose own names are free -/
namespace HW
open PySem L2
def sc0 : Scope := { kind := .function, names := [], isGenerator := false, isCoroutine := false }
theorem blkOk_nf {N : List Str} {sc scope : Scope} {own : List (Str × Nat)} (h : blkC N sc0 scope own = true) : BlkOk N sc scope own := by
  have b := blkOk_by h
  exact ⟨b.kind, b.uniq, b.ix, fun y hy e => (b.free y hy e).elim (fun z => by cases z) (fun z => by cases z), b.own⟩
end HW

/-! a, b = a new object, e; a, b = two new objects -/
namespace HW
open PySem L2
section
variable {X : Cx} {M : MI} {w0 : W}
theorem Sub.back {K : PySem.W.Frag} {w w' : W} {en : En} {p a : Addr} (he : EnOk K w (some (some (.ref p))) en) (st : Stp w w') (s : Sub w' en p a) : Sub w en p a := by
  rcases s with s | ⟨ds, kvs, k, rfl, h5, h6⟩
  · exact .inl s
  · obtain ⟨q, kv, e1, e2, _, e4, _⟩ := he
    cases e1
    have e5 := st.k _ _ e2 e4
    rw [h5] at e5
    cases e5
    exact .inr ⟨ds, kvs, k, rfl, e2, h6⟩
def wParF (i j : Nat) (wn : WN) (we : WE) : WS := fun dd ρ c => wn ρ c fun en c1 => we ρ c1 fun d c2 => dd.nx ((ρ.set i en).set j (.im d)) c2
theorem s_parF {i j : Nat} {x y : Str} {a b : Expr} {we : WE} {wn : WN} {px py pt pos : Pos} {kt k2 pt2} (hc : X.calm = true) (hN : X.N.Nodup) (hi : X.N[i]? = some x) (hj : X.N[j]? = some y) (hij : i ≠ j) (hx : X.env.scope.names.lookup x = some .local) (hy : X.env.scope.names.lookup y = some .local) (ha : PE X a (tN M X.K wn)) (hb : PE X b (tE M X.K we))
    (hw : swappedStores [.Tuple [.Name x px, .Name y py] kt pt] (.Tuple [a, b] k2 pt2) X.env = pure (some [x, y]) := by rfl) (h1 : starEach [a, b] X.env = (false, eval a X.env) :: starEach [b] X.env := by rfl) (h2 : starEach [b] X.env = (false, eval b X.env) :: starEach [] X.env := by rfl) (hs : swapsWithSole [.Tuple [.Name x px, .Name y py] kt pt] (.Tuple [a, b] k2 pt2) pos.line X.env = pure false := by rfl) :
    PS X (.Assign [.Tuple [.Name x px, .Name y py] kt pt] (.Tuple [a, b] k2 pt2) pos) (tS M X.K w0 (wParF i j wn we)) := by
  refine PS.imp (ps_par hc hN hi hj hij hx hy (pa_cons ha (pa_cons hb pa_nil h2) h1) hw hs) ?_
  rintro D σ H ⟨w, ρ, dd, eh, so, hw, k⟩
  refine ⟨w, ρ, _, eh, so.ev, so.gd, hw, fun w1 p en s1 g1 hm he fr q1 => ?_⟩
  refine ⟨w1, ρ, _, rfl, so.ev.stp s1 so.gd, g1, q1, fun w2 v d s2 g2 dv q2 => ?_⟩
  refine ⟨.ref p, v, rfl, ?_⟩
  have so2 := (so.stp s1 g1).stp s2 g2
  have so3 := so2.setOwn (i := i) hm (he.stp s2 g1) fun a sa => ⟨nn so.st (fr a (Sub.back he s2 sa)), fun j' oj => (so.ev.tracked (Own.back so.ev.ok s1 (Own.back (so.ev.stp s1 so.gd).ok s2 oj))).1 (fr a (Sub.back he s2 sa))⟩
  exact k.nx w2 _ _ ((s1.trans s2).fk so.gd) (so3.setIm dv) q2
def wParNN (i j : Nat) (wn wm : WN) : WS := fun dd ρ c => wn ρ c fun en c1 => wm ρ c1 fun em c2 => dd.nx ((ρ.set i en).set j em) c2
theorem s_parNN {i j : Nat} {x y : Str} {a b : Expr} {wn wm : WN} {px py pt pos : Pos} {kt k2 pt2} (hc : X.calm = true) (hN : X.N.Nodup) (hi : X.N[i]? = some x) (hj : X.N[j]? = some y) (hij : i ≠ j) (hx : X.env.scope.names.lookup x = some .local) (hy : X.env.scope.names.lookup y = some .local) (ha : PE X a (tN M X.K wn)) (hb : PE X b (tN M X.K wm))
    (hw : swappedStores [.Tuple [.Name x px, .Name y py] kt pt] (.Tuple [a, b] k2 pt2) X.env = pure (some [x, y]) := by rfl) (h1 : starEach [a, b] X.env = (false, eval a X.env) :: starEach [b] X.env := by rfl) (h2 : starEach [b] X.env = (false, eval b X.env) :: starEach [] X.env := by rfl) (hs : swapsWithSole [.Tuple [.Name x px, .Name y py] kt pt] (.Tuple [a, b] k2 pt2) pos.line X.env = pure false := by rfl) :
    PS X (.Assign [.Tuple [.Name x px, .Name y py] kt pt] (.Tuple [a, b] k2 pt2) pos) (tS M X.K w0 (wParNN i j wn wm)) := by
  refine PS.imp (ps_par hc hN hi hj hij hx hy (pa_cons ha (pa_cons hb pa_nil h2) h1) hw hs) ?_
  rintro D σ H ⟨w, ρ, dd, eh, so, hw, k⟩
  refine ⟨w, ρ, _, eh, so.ev, so.gd, hw, fun w1 p en s1 g1 hm he fr q1 => ?_⟩
  refine ⟨w1, ρ, _, rfl, so.ev.stp s1 so.gd, g1, q1, fun w2 q em s2 g2 hm2 he2 fr2 q2 => ?_⟩
  refine ⟨.ref p, .ref q, rfl, ?_⟩
  have so2 := (so.stp s1 g1).stp s2 g2
  have so3 := so2.setOwn (i := i) hm (he.stp s2 g1) fun a sa => ⟨nn so.st (fr a (Sub.back he s2 sa)), fun j' oj => (so.ev.tracked (Own.back so.ev.ok s1 (Own.back (so.ev.stp s1 so.gd).ok s2 oj))).1 (fr a (Sub.back he s2 sa))⟩
  refine k.nx w2 _ _ ((s1.trans s2).fk so.gd) (so3.setOwn (i := j) hm2 he2 fun a sa => ⟨nn so.st (nn s1 (fr2 a sa)), fun j' oj => ?_⟩) q2
  obtain ⟨q', e, o1, o2, o3, o4⟩ := oj
  by_cases z : i = j'
  · subst z
    rw [List.getElem?_set] at o1 o2
    simp at o1 o2
    obtain ⟨_, rfl⟩ := o1
    obtain ⟨_, rfl⟩ := o2
    exact (he.tracked hm (Sub.back he s2 o4)).1 (fr2 a sa)
  · rw [List.getElem?_set_ne z] at o1 o2
    exact ((so.ev.stp s1 so.gd).tracked (Own.back (so.ev.stp s1 so.gd).ok s2 ⟨q', e, o1, o2, o3, o4⟩)).1 (fr2 a sa)
end
end HW

/-! own dicts whose keys are tuples; a def that gives one back; min of a list; list(range(n)) -/
namespace HW
open PySem L2
def keysOf : List D → Option (List Key)
  | [] => some []
  | d :: r => (keyOf d).bind fun k => (keysOf r).map (k :: ·)
theorem keysOf_vs {K : PySem.W.Frag} {P : Addr → Prop} {H : Hp} : ∀ {vs : List V} {ds : List D} {ks : List Key}, DvA K P H vs ds → keysOf ds = some ks → vs = ks.map kV
  | _, _, _, .nil, e => by cases e; rfl
  | v :: vs, d :: ds, ks, .cons h1 h2, e => by
    obtain ⟨k, e1, e2⟩ := Option.bind_eq_some_iff.mp e
    obtain ⟨r, e3, e4⟩ := Option.map_eq_some_iff.mp e2
    subst e4
    rw [List.map_cons, ← keysOf_vs h2 e3]
    congr 1
    cases d <;> simp only [keyOf, reduceCtorEq] at e1
    · cases e1; cases h1; rfl
    · cases e1; cases h1; rfl
def lookT (ds : List (List Key × D)) (k : List Key) : Option D := (ds.find? fun p => decide (p.1 = k)).map (·.2)
def putT (ds : List (List Key × D)) (k : List Key) (d : D) : List (List Key × D) := if (ds.any fun p => decide (p.1 = k)) = true then ds.map (fun p => if p.1 = k then (p.1, d) else p) else ds ++ [(k, d)]
def DvT (K : PySem.W.Frag) (P : Addr → Prop) (H : Hp) (kvs : List (List Key × V)) (ds : List (List Key × D)) : Prop := kvs.map Prod.fst = ds.map Prod.fst ∧ DvA K P H (kvs.map Prod.snd) (ds.map Prod.snd)
section
variable {K : PySem.W.Frag} {P : Addr → Prop} {H : Hp}
theorem DvT.cons {p : List Key × V} {q : List Key × D} {r : List (List Key × V)} {s : List (List Key × D)} (h : DvT K P H (p :: r) (q :: s)) : p.1 = q.1 ∧ Dv K P H p.2 q.2 ∧ DvT K P H r s := by
  obtain ⟨h1, h2⟩ := h
  rw [List.map_cons, List.map_cons] at h1 h2
  injection h1 with e1 e2
  cases h2 with
  | cons a b => exact ⟨e1, a, e2, b⟩
theorem DvT.mk' {p : List Key × V} {q : List Key × D} {r : List (List Key × V)} {s : List (List Key × D)} (e : p.1 = q.1) (a : Dv K P H p.2 q.2) (h : DvT K P H r s) : DvT K P H (p :: r) (q :: s) := ⟨by rw [List.map_cons, List.map_cons, e, h.1], .cons a h.2⟩
theorem DvT.nil_of : ∀ {kvs : List (List Key × V)} {ds : List (List Key × D)}, DvT K P H kvs ds → kvs.length = ds.length := fun {kvs ds} h => by
  have := congrArg List.length h.1
  simpa using this
theorem DvT.look {k : List Key} : ∀ {kvs : List (List Key × V)} {ds : List (List Key × D)}, DvT K P H kvs ds → ∀ {d : D}, lookT ds k = some d → ∃ v, valV kvs k = some v ∧ Dv K P H v d
  | [], [], _, d, e => by cases e
  | p :: r, q :: s, h, d, e => by
    obtain ⟨e1, a, h'⟩ := h.cons
    by_cases c : q.1 = k
    · have : lookT (q :: s) k = some q.2 := by simp [lookT, List.find?_cons, c]
      rw [this] at e
      cases e
      exact ⟨p.2, valV_pos (e1.trans c), a⟩
    · have : lookT (q :: s) k = lookT s k := by simp [lookT, List.find?_cons, c]
      rw [this] at e
      obtain ⟨v, h1, h2⟩ := h'.look e
      exact ⟨v, (valV_neg (fun z => c (e1.symm.trans z))).trans h1, h2⟩
  | [], q :: s, h, _, _ => by have := h.nil_of; simp at this
  | p :: r, [], h, _, _ => by have := h.nil_of; simp at this
theorem DvT.any {k : List Key} : ∀ {kvs : List (List Key × V)} {ds : List (List Key × D)}, DvT K P H kvs ds → (kvs.any fun p => decide (p.1 = k)) = ds.any fun p => decide (p.1 = k)
  | [], [], _ => rfl
  | p :: r, q :: s, h => by
    obtain ⟨e1, a, h'⟩ := h.cons
    rw [List.any_cons, List.any_cons, h'.any, e1]
  | [], q :: s, h => by have := h.nil_of; simp at this
  | p :: r, [], h => by have := h.nil_of; simp at this
theorem DvT.map {k : List Key} {v : V} {d : D} (hv : Dv K P H v d) : ∀ {kvs : List (List Key × V)} {ds : List (List Key × D)}, DvT K P H kvs ds → DvT K P H (kvs.map fun p => if p.1 = k then (p.1, v) else p) (ds.map fun p => if p.1 = k then (p.1, d) else p)
  | [], [], _ => ⟨rfl, .nil⟩
  | p :: r, q :: s, h => by
    obtain ⟨e1, a, h'⟩ := h.cons
    rw [List.map_cons, List.map_cons]
    by_cases c : q.1 = k
    · rw [if_pos (e1.trans c), if_pos c]
      exact .mk' e1 hv (h'.map hv)
    · rw [if_neg (fun z => c (e1.symm.trans z)), if_neg c]
      exact .mk' e1 a (h'.map hv)
  | [], q :: s, h => by have := h.nil_of; simp at this
  | p :: r, [], h => by have := h.nil_of; simp at this
theorem DvT.app {k : List Key} {v : V} {d : D} (hv : Dv K P H v d) : ∀ {kvs : List (List Key × V)} {ds : List (List Key × D)}, DvT K P H kvs ds → DvT K P H (kvs ++ [(k, v)]) (ds ++ [(k, d)])
  | [], [], _ => .mk' rfl hv ⟨rfl, .nil⟩
  | p :: r, q :: s, h => by
    obtain ⟨e1, a, h'⟩ := h.cons
    exact .mk' e1 a (h'.app hv)
  | [], q :: s, h => by have := h.nil_of; simp at this
  | p :: r, [], h => by have := h.nil_of; simp at this
theorem DvT.put {k : List Key} {v : V} {d : D} (hv : Dv K P H v d) {kvs : List (List Key × V)} {ds : List (List Key × D)} (h : DvT K P H kvs ds) : DvT K P H (putK kvs k v) (putT ds k d) := by
  unfold putK putT
  rw [h.any]
  split
  · exact h.map hv
  · exact h.app hv
end
section
variable {X : Cx} {M : MI} {w0 : W} {pos : Pos} {e : Expr} {es : List Expr} {we : WE} {wa : WA}
def nDt : WN := fun _ c Q => Q (.dt []) c
theorem n_dt : PE X (.Dict [] [] pos) (tN M X.K nDt) := by
  refine PE.imp pe_dnewT ?_
  rintro σ H Q ⟨w, ρ, Qd, eh, ev, g, hw, k⟩
  subst eh
  intro p hp
  have nR : p ∉ w.R := r_free g hp
  have nF : ¬ w.F p := fun f => g.tf p f hp
  refine k (w.own p (.dT [])) p (.dt []) (stp_own hp) (gd_own g hp) rfl ⟨p, [], rfl, upd_same, nF, nR, rfl, .nil⟩ (fun a sa => ?_) hw
  rcases sa with rfl | ⟨ds, kvs, k', z, _⟩
  · exact hp
  · cases z
def wDtGet (i : Nat) (wa : WA) : WE := fun ρ c Q => (∃ ds, ρ[i]? = some (.dt ds)) ∧ wa ρ c fun ks c1 => ∃ ds k z, ρ[i]? = some (.dt ds) ∧ ks.length ≤ LIM ∧ keysOf ks = some k ∧ lookT ds k = some z ∧ Q z c1
theorem e_dtget {x : Str} {i : Nat} {p1 p2 : Pos} {kk : Nat} (hu : X.A.units + 1 < cLine) (hx : PE X (.Name x p1) (tVar i)) (ha : PA X es (tAs M X.K wa)) (hs : NoSl (.Tuple es kk p2)) : PE X (.Subscript (.Name x p1) (.Tuple es kk p2) pos) (tE M X.K (wDtGet i wa)) := by
  refine PE.imp (pe_dget hu hx (pe_tup ha) hs) ?_
  rintro σ H Q ⟨w, ρ, Qd, eh, ev, g, ⟨⟨ds0, r0⟩, hw⟩, k⟩
  obtain ⟨a, kvs, e1, e2, e3, e4, e5⟩ := ev.ok i _ r0
  refine ⟨_, e1, w, ρ, _, eh, ev, g, hw, fun w1 vs ds s1 g1 dvs q1 => ?_⟩
  obtain ⟨ds1, ky, z, r1, hl, ek, lk, q1⟩ := q1
  rw [r0] at r1
  cases r1
  refine ⟨lim_size (by rw [dvs.length]; exact hl), fun p hp => ?_⟩
  have ev1 := ev.stp s1 g
  obtain ⟨a', kvs', f1, f2, f3, f4, f5⟩ := ev1.ok i _ r0
  rw [e1] at f1
  cases f1
  obtain ⟨v, h1, h2⟩ := DvT.look f5 lk
  have np : a ≠ p := fun z => by rw [← z, f2] at hp; cases hp
  have hk := keysOf_vs dvs ek
  subst hk
  refine ⟨a, v, rfl, ?_, k (w1.new p (.tup _)) v z (s1.trans (stp_new hp)) (gd_new g1 hp) (h2.fk ((stp_new hp).fk g1)) q1⟩
  rw [← h1]
  exact DGet.t (b := p) ((upd_ne np).trans f2) upd_same
def wDtPut (i : Nat) (we : WE) (wa : WA) : WS := fun dd ρ c => we ρ c fun d c1 => (∃ ds, ρ[i]? = some (.dt ds)) ∧ wa ρ c1 fun ks c2 => ∃ ds k, ρ[i]? = some (.dt ds) ∧ ks.length ≤ LIM ∧ keysOf ks = some k ∧ ds.length < LIM ∧ dd.nx (ρ.set i (.dt (putT ds k d))) c2
theorem dt_same {w : W} {a b : Addr} {o : HO} {ds : List (List Key × D)} (s : Sub (w.own a o) (.dt ds) a b) {e : En} : Sub w e a b := by
  rcases s with rfl | ⟨_, _, _, z, _⟩
  · exact .inl rfl
  · cases z
theorem s_dtput {x : Str} {i : Nat} {p1 p2 p3 : Pos} {kk : Nat} (hu : X.A.units + 1 < cLine) (hx : PE X (.Name x p1) (tVar i)) (ha : PA X es (tAs M X.K wa)) (he : PE X e (tE M X.K we)) (hs : swapsWith e (some (.Subscript (.Name x p1) (.Tuple es kk p3) p2)) pos.line X.env = pure false := by rfl) :
    PS X (.Assign [.Subscript (.Name x p1) (.Tuple es kk p3) p2] e pos) (tS M X.K w0 (wDtPut i we wa)) := by
  refine PS.imp (ps_dput hu hx (pe_tup ha) he hs) ?_
  rintro D σ H ⟨w, ρ, dd, eh, so, hw, k⟩
  refine ⟨w, ρ, _, eh, so.ev, so.gd, hw, fun w1 v d s1 g1 dv q1 => ?_⟩
  obtain ⟨⟨ds0, r0⟩, q1⟩ := q1
  have so1 := so.stp s1 g1
  obtain ⟨a, kvs, e1, e2, e3, e4, e5⟩ := so1.ev.ok i _ r0
  refine ⟨_, e1, w1, ρ, _, rfl, so1.ev, g1, q1, fun w2 vs ks s2 g2 dvs q2 => ?_⟩
  obtain ⟨ds1, ky, r1, hl, ek, hd, q2⟩ := q2
  rw [r0] at r1
  cases r1
  refine ⟨lim_size (by rw [dvs.length]; exact hl), fun p hp => ?_⟩
  have hk := keysOf_vs dvs ek
  subst hk
  have s3 : Stp w2 (w2.new p (.tup (ky.map kV))) := stp_new hp
  have g3 : Gd M (w2.new p (.tup (ky.map kV))) := gd_new g2 hp
  have so2 := (so1.stp s2 g2).stp s3 g3
  obtain ⟨a', kvs', f1, f2, f3, f4, f5⟩ := so2.ev.ok i _ r0
  rw [e1] at f1
  cases f1
  refine ⟨a, _, rfl, DPut.t (b := p) f2 upd_same (by rw [sizeLine_eq, DvT.nil_of f5]; exact hd), ?_⟩
  exact k.nx ((w2.new p (.tup (ky.map kV))).own a (.dT (putK kvs' ky v))) σ _ ((((s1.trans s2).trans s3).fk so.gd).trans (fk_put f3)) (so2.put (en' := .dt _) e1 r0 rfl (.inl rfl) rfl ⟨a, _, rfl, upd_same, f3, f4, by
    have p5 := DvT.put (dv.fk ((s2.trans s3).fk g1)) (k := ky) f5
    exact ⟨p5.1, p5.2.fk (fk_put f3)⟩⟩ fun b sb => dt_same sb) q2
/-! min of a list -/
def minI (i : Int) (r : List Int) : Int := r.foldl min i
theorem foldl_min : ∀ (r : List Int) (i : Int), r.foldl min i ≤ i ∧ (∀ y ∈ r, r.foldl min i ≤ y) ∧ (r.foldl min i = i ∨ r.foldl min i ∈ r)
  | [], i => ⟨Int.le_refl _, by simp, .inl rfl⟩
  | x :: r, i => by
    obtain ⟨h1, h2, h3⟩ := foldl_min r (min i x)
    rw [List.foldl_cons]
    refine ⟨by omega, fun y hy => ?_, ?_⟩
    · rcases List.mem_cons.mp hy with rfl | hy
      · omega
      · exact h2 y hy
    · rcases h3 with h3 | h3
      · rw [h3]
        by_cases c : i ≤ x
        · exact .inl (by omega)
        · exact .inr (by rw [show min i x = x by omega]; exact List.mem_cons_self)
      · exact .inr (List.mem_cons_of_mem _ h3)
def minLD : D → Option D
  | .list ds => (intsD ds).bind fun ns => match ns with
    | [] => none
    | i :: r => some (.int (minI i r))
  | _ => none
theorem d_minL {K : PySem.W.Frag} : FnD M K (rMin K) minLD := fun w x dx z Q g hx e k => by
  cases dx <;> simp only [minLD, reduceCtorEq] at e
  rename_i ds
  cases en : intsD ds with
  | none => rw [en] at e; cases e
  | some ns =>
    rw [en] at e
    have ed := intsD_some en
    subst ed
    cases ns with
    | nil => cases e
    | cons i r =>
      cases e
      obtain ⟨a, vs, rfl, h1, h2⟩ := hx.seqL
      have ev := h2.ints
      subst ev
      refine ⟨a, i :: r, rfl, h1, by simp, fun m hm hle => ?_⟩
      obtain ⟨g1, g2, g3⟩ := foldl_min r i
      have e1 : minI i r ≤ m := by
        rcases List.mem_cons.mp hm with rfl | hm
        · exact g1
        · exact g2 m hm
      have e2 : m ≤ minI i r := by
        rcases g3 with g3 | g3
        · show m ≤ r.foldl min i; rw [g3]; exact hle i List.mem_cons_self
        · exact hle _ (List.mem_cons_of_mem _ g3)
      rw [Int.le_antisymm e2 e1]
      exact keepQ g (.int _) k
end
/-! a def that gives back a dict of its own with tuples as keys -/
abbrev FWt := List En → Nat → (List (List Key × D) → Nat → Prop) → Prop
def fnSpT (M : MI) (K : PySem.W.Frag) (f : FWt) : Sp := fun vs H Q _ => ∃ (w : W) (es : List En) (Qt : List (List Key × D) → Nat → Prop), w.H = H ∧ Gd M w ∧ ArgsOk K w vs es ∧ f es w.c Qt ∧
  ∀ (w' : W) (p : Addr) (kvs : List (List Key × V)) (ds : List (List Key × D)), Stp w w' → Gd M w' → w'.H p = some (.dT kvs) → p ∉ w'.R → DvT K w'.F w'.H kvs ds → Qt ds w'.c → Q (.ref p) w'.H
def wDefT (N : List Str) (ws : WS) (i : Nat) : List En → Nat → (List (List Key × D) → Nat → Prop) → Prop := fun es c Qt => ws { nx := fun ρ c' => ∃ ds, ρ[i]? = some (.dt ds) ∧ Qt ds c', rt := fun _ _ => False, bk := fun _ _ => False, ct := fun _ _ => False } (startE N es) c
def tRetV (M : MI) (K : PySem.W.Frag) (w0 : W) (ws : WS) (i : Nat) : TS := fun D σ H => tS M K w0 ws { D with nx := fun σ H => tRet (tVar i) D σ H } σ H
theorem pss_dt2 {X : Cx} {M : MI} {w0 : W} {w1 w2 : WS} {s1 s2 s3 : Stmt} {i : Nat} (h1 : PS X s1 (tS M X.K w0 w1)) (h2 : PS X s2 (tS M X.K w0 w2)) (h3 : PS X s3 (tRet (tVar i))) : PSs X [s1, s2, s3] (tRetV M X.K w0 (wSeq w1 w2) i) := by
  refine PSs.imp (pss_cons h1 (pss_cons h2 (pss_one h3))) ?_
  rintro D σ H ⟨w, ρ, dd, eh, so, hw, k⟩
  exact ⟨w, ρ, _, eh, so, hw, fun w' σ' ρ' f so' q => ⟨w', ρ', dd, rfl, so', q, k.mono f⟩, k.rt, k.bk, k.ct⟩
theorem run_T {M : MI} {K : PySem.W.Frag} {N : List Str} {ws : WS} {i : Nat} {vs : List V} {H : Hp} {Q : VK} {E : XK} {f : FWt} (h : fnSpT M K f vs H Q E) (hf : ∀ es c Qt, f es c Qt → wDefT N ws i es c Qt) :
    ∃ w : W, tRetV M K w ws i { nx := fun _ H' => Q .non H', rt := Q } (L2.start N vs) H := by
  obtain ⟨w, es, Qt, eh, g, a, hw, k⟩ := h
  refine ⟨w, w, startE N es, _, eh, start_ok g a, hf _ _ _ hw, ⟨fun w' σ' ρ' _ so ⟨ds, r, q⟩ => ?_, fun _ _ _ _ _ _ z => z.elim, fun _ _ _ _ _ z => z.elim, fun _ _ _ _ _ z => z.elim⟩⟩
  obtain ⟨p, kvs, e1, e2, e3, e4, e5⟩ := so.ev.ok i _ r
  exact ⟨.ref p, e1, k w' p kvs ds so.st so.gd e2 e4 e5 q⟩
section
variable {X : Cx} {M : MI} {es : List Expr} {e1 : Expr} {es1 : List Expr} {wa : WA} {wg : WG} {pos : Pos}
def wDtCall (f : FWt) (wg : WG) (wa : WA) : WE := fun ρ c Q => wg ρ c fun es c1 => f es c1 fun ds c2 => wa ρ c2 fun ks c3 => ∃ k z, ks.length ≤ LIM ∧ keysOf ks = some k ∧ lookT ds k = some z ∧ Q z c3
/-- f(..)[a, b] -/
theorem e_dtcall {f : FWt} {x : Str} {k j : Nat} {p p1 p2 : Pos} {kk : Nat} (C : CalG X.prog X.w X.K X.mg X.base k x (fnSpT M X.K f)) (hr : Room j X.A) (hk : k ≤ j) (gds : X.A.guards = some []) (hu : X.A.units + 1 < cLine) (hg : Gl X x) (hg' : PA X (e1 :: es1) (tG M X.K wg)) (ha : PA X es (tAs M X.K wa)) (hs : NoSl (.Tuple es kk p2))
    (hdb : (x == ("__debug__" : Str)) = false := by decide) (he : starEach (e1 :: es1) X.env = (false, eval e1 X.env) :: starEach es1 X.env := by rfl) (hpl : (backTo p1 (starEach es1 X.env)).any (·.1) = false := by rfl) :
    PE X (.Subscript (.Call (.Name x p) (e1 :: es1) [] p1) (.Tuple es kk p2) pos) (tE M X.K (wDtCall f wg wa)) := by
  refine PE.imp (pe_dget hu (pe_g C hr hk gds hg hg' hdb he hpl) (pe_tup ha) hs) ?_
  rintro σ H Q ⟨w, ρ, Qd, eh, ev, g, hw, kk'⟩
  refine ⟨w, ρ, _, eh, ev, g, hw, fun w1 vs es' s1 g1 ok q1 => ?_⟩
  show fnSpT M X.K f (vs ++ []) w1.H _ E0
  rw [List.append_nil]
  refine ⟨w1, es', _, rfl, g1, ok, q1, fun w2 p kvs ds s2 g2 hp nR dt q2 => ?_⟩
  have s12 := s1.trans s2
  refine ⟨w2, ρ, _, rfl, ev.stp s12 g, g2, q2, fun w3 us ks s3 g3 dvs q3 => ?_⟩
  obtain ⟨ky, z, hl, ek, lk, q3⟩ := q3
  refine ⟨lim_size (by rw [dvs.length]; exact hl), fun b hb => ?_⟩
  have hk := keysOf_vs dvs ek
  subst hk
  have hp3 := s3.k _ _ hp nR
  obtain ⟨v, h1, h2⟩ := DvT.look (H := w3.H) (P := w3.F) ⟨dt.1, dt.2.fk (s3.fk g2)⟩ lk
  have np : p ≠ b := fun z => by rw [← z, hp3] at hb; cases hb
  refine ⟨p, v, rfl, ?_, kk' (w3.new b (.tup _)) v z ((s12.trans s3).trans (stp_new hb)) (gd_new g3 hb) (h2.fk ((stp_new hb).fk g3)) q3⟩
  rw [← h1]
  exact DGet.t (b := b) ((upd_ne np).trans hp3) upd_same
end
end HW

/-! zip of a text and two tuples -/
namespace HW
open PySem L2 PySem.Spec PyProof.Rows
def It3 (K : PySem.W.Frag) (x : Str) (a b : Addr) (xs ys : List V) : It :=
  ⟨fun i H => SqT K H a xs ∧ SqT K H b ys ∧ i < x.cps.size ∧ i < xs.length ∧ i < ys.length,
   fun i H v H' => ∃ T c y z, v = .ref T ∧ H T = none ∧ H' = upd H T (.tup [.str ⟨#[c]⟩, y, z]) ∧ x.cps[i]? = some c ∧ xs[i]? = some y ∧ ys[i]? = some z,
   fun i H => SqT K H a xs ∧ SqT K H b ys ∧ min (min x.cps.size xs.length) ys.length ≤ i⟩
theorem turn_zip3 {P : Program} {w : World} {K : PySem.W.Frag} {elts : List Expr} {kk : Nat} {tpos : Pos} {x : Str} {t : Tok} {a b z TI TO i1 i2 i3 : Addr} {xs ys : List V} (D : ZipSep3 z TI TO i1 i2 i3 [i1] [i2, a] [i3, b]) (ne : i1 ≠ TI ∧ i2 ≠ TI ∧ i3 ≠ TI ∧ TI ≠ z ∧ i1 ≠ i2 ∧ i1 ≠ i3 ∧ i2 ≠ i3 ∧ a ≠ i2 ∧ b ≠ i3 ∧ a ≠ i3 ∧ b ≠ i2) :
    Turn P w K (.Tuple elts kk tpos) (It3 K x a b xs ys) [z, TI, TO, i1, i2, i3] z (fun i h => IsZip h z TI TO .none ∧ IsTupOf3 h TI (.ref i1) (.ref i2) (.ref i3) ∧ (∃ p q r, IsTupOf3 h TO p q r) ∧ h.IsStrIter i1 (strIterType x) x t i ∧ h.IsTupleIter i2 a i ∧ h.IsTupleIter i3 b i ∧ i ≤ min (min x.cps.size xs.length) ys.length) where
  mem := by simp
  obj := fun i h st c hc => by
    obtain ⟨hz, hTI, ⟨p, q, r, hTO⟩, ⟨o1, e1, _, d1⟩, ⟨o2, e2, _, d2⟩, ⟨o3, e3, _, d3⟩, _⟩ := st
    have e' : c = z ∨ c = TI ∨ c = TO ∨ c = i1 ∨ c = i2 ∨ c = i3 := by simpa using hc
    rcases e' with q | q | q | q | q | q
    · rw [q]; exact ⟨_, hz, fun v q => nomatch q⟩
    · rw [q]; exact ⟨_, hTI, fun v q => nomatch q⟩
    · rw [q]; exact ⟨_, hTO, fun v q => nomatch q⟩
    · rw [q]; exact ⟨o1, e1, fun v q => by rw [d1] at q; cases q⟩
    · rw [q]; exact ⟨o2, e2, fun v q => by rw [d2] at q; cases q⟩
    · rw [q]; exact ⟨o3, e3, fun v q => by rw [d3] at q; cases q⟩
  keep := fun i h h' st k => by
    obtain ⟨hz, hTI, ⟨p, q, r, hTO⟩, ⟨o1, e1, c1, d1⟩, h2, h3, hb⟩ := st
    exact ⟨k z (by simp) _ hz, k TI (by simp) _ hTI, ⟨p, q, r, k TO (by simp) _ hTO⟩, ⟨o1, k i1 (by simp) _ e1, c1, d1⟩, h2.at fun o q => k i2 (by simp) o q, h3.at fun o q => k i3 (by simp) o q, hb⟩
  item := by
    intro X hP hw hK hc i pins s σ H E I hf st hg
    subst hP hw hK
    obtain ⟨hz, hTI, ⟨p0, q0, r0, hTO⟩, h1, h2, h3, hb⟩ := st
    obtain ⟨hqx, hqy, l1, l2, l3⟩ := hg
    obtain ⟨its, rv, p, _⟩ := I.tuple hqx
    obtain ⟨its2, rv2, p2, _⟩ := I.tuple hqy
    have n1 := rv.length
    have n2 := rv2.length
    have hzl : z < s.heap.objs.size := Heap.lt_size hz
    have hd : X.A.in1.handled = none := I.ok.hd hc
    have dz : IsZip s.heap z TI TO .none := hz
    refine wpAny_pyNext_zipD3_item D (Draws.text hd i1 x t) (Draws.tuple hd i2 a ne.2.2.2.2.2.2.2.1 its.toArray) (Draws.tuple hd i3 b ne.2.2.2.2.2.2.2.2.1 its2.toArray) hz hTI hTO h1 ⟨h2, p⟩ ⟨h3, p2⟩ l1 (by simp; omega) (by simp; omega) fun x1 x2 x3 h' tk y1 y2 y3 z' TO' st1 st2 st3 hT hsz hk => ?_
    refine ⟨_, rfl, wpAny_letOwnedTupleGo_zip (s := { s with heap := h', toks := tk }) z' fun h'' z'' sb => ?_⟩
    obtain ⟨c, u, hc1, rfl⟩ := y1
    have hT2 : h''.get? s.heap.objs.size = some { cls := .type "tuple", data := .seq #[.str ⟨#[c]⟩ u, x2, x3] } := (sb.2 _ (Nat.ne_of_gt hzl)).trans hT
    obtain ⟨v2, hv2⟩ : ∃ v, xs[i]? = some v := ⟨xs[i], List.getElem?_eq_getElem l2⟩
    obtain ⟨v3, hv3⟩ : ∃ v, ys[i]? = some v := ⟨ys[i], List.getElem?_eq_getElem l3⟩
    obtain ⟨u2, hu2, ru2⟩ := rv.get hv2
    obtain ⟨u3, hu3, ru3⟩ := rv2.get hv3
    have e2 : u2 = x2 := by
      have : its[i]? = some x2 := by simpa using y2
      rw [hu2] at this
      exact Option.some.inj this
    have e3 : u3 = x3 := by
      have : its2[i]? = some x3 := by simpa using y3
      rw [hu3] at this
      exact Option.some.inj this
    subst e2 e3
    have new : ObjOk X.prog X.w (upd H s.heap.objs.size (.tup [.str ⟨#[c]⟩, v2, v3])) h'' s.heap.objs.size (.tup [.str ⟨#[c]⟩, v2, v3]) :=
      ⟨by show 3 ≤ sizeLine; decide, [.str ⟨#[c]⟩ u, u2, u3], .cons ⟨u, rfl⟩ (.cons ru2 (.cons ru3 .nil)), ⟨_, hT2, rfl, _, rfl⟩⟩
    have I1 : Inv X pins σ (upd H s.heap.objs.size (.tup [.str ⟨#[c]⟩, v2, v3])) { s with heap := h'', toks := tk } :=
      I.turnedNew (t' := tk) (ch := [z, TI, TO, i1, i2, i3]) (fun c o hb q => (sb.2 c (fun q' => hb (by simp [q']))).trans (hk c o (fun q' => hb (by simp [q'])) (fun q' => hb (by simp [q'])) (fun q' => hb (by simp [q'])) (fun q' => hb (by simp [q'])) (fun q' => hb (by simp [q'])) q)) hf (Nat.le_refl _) new
    have d1z : i1 ≠ z := fun e => D.zf1 (by rw [← e]; simp)
    have d2z : i2 ≠ z := fun e => D.zf2 (by rw [← e]; simp)
    have d3z : i3 ≠ z := fun e => D.zf3 (by rw [← e]; simp)
    refine ⟨.ref s.heap.objs.size, _, I1, rfl, ⟨_, c, v2, v3, rfl, I.hok.fresh (Nat.le_refl _), rfl, hc1, hv2, hv3⟩, ⟨z'', ?_, ⟨.str ⟨#[c]⟩ u, u2, u3, ?_⟩, ?_, ?_, ?_, by omega⟩, fun c hcm => ?_⟩
    · exact (sb.2 _ D.TIz).trans (hk _ _ D.TIz D.TITO (Ne.symm ne.1) (Ne.symm ne.2.1) (Ne.symm ne.2.2.1) hTI)
    · exact (sb.2 _ D.TOz).trans TO'
    · obtain ⟨o, e1, e2, e3⟩ := st1
      exact ⟨o, (sb.2 _ d1z).trans e1, e2, e3⟩
    · exact st2.1.at fun o q => (sb.2 _ d2z).trans q
    · exact st3.1.at fun o q => (sb.2 _ d3z).trans q
    · have hlt : c < s.heap.objs.size := by
        have e' : c = z ∨ c = TI ∨ c = TO ∨ c = i1 ∨ c = i2 ∨ c = i3 := by simpa using hcm
        rcases e' with q | q | q | q | q | q
        · rw [q]; exact hzl
        · rw [q]; exact Heap.lt_size hTI
        · rw [q]; exact Heap.lt_size hTO
        · rw [q]; obtain ⟨_, e1, _⟩ := h1; exact Heap.lt_size e1
        · rw [q]; obtain ⟨_, e2, _⟩ := h2; exact Heap.lt_size e2
        · rw [q]; obtain ⟨_, e2, _⟩ := h3; exact Heap.lt_size e2
      rw [upd_ne (Nat.ne_of_lt hlt)]
      exact (hf c hcm).1
  done := by
    intro X hP hw hK hc i pins s σ H E I hf st hg
    subst hP hw hK
    obtain ⟨hz, hTI, ⟨p0, q0, r0, hTO⟩, h1, h2, h3, hb⟩ := st
    obtain ⟨hqx, hqy, hend⟩ := hg
    obtain ⟨its, rv, p, _⟩ := I.tuple hqx
    obtain ⟨its2, rv2, p2, _⟩ := I.tuple hqy
    have n1 := rv.length
    have n2 := rv2.length
    have hd : X.A.in1.handled = none := I.ok.hd hc
    have s1 : its.toArray.size = its.length := by simp
    have s2 : its2.toArray.size = its2.length := by simp
    exact wpAny_pyNext_zipD3_end D (Draws.text hd i1 x t) (Draws.tuple hd i2 a ne.2.2.2.2.2.2.2.1 its.toArray) (Draws.tuple hd i3 b ne.2.2.2.2.2.2.2.2.1 its2.toArray) hz hTI hTO h1 ⟨h2, p⟩ ⟨h3, p2⟩ (by omega) (by omega) (by omega) (by omega) fun h' tk hk => ⟨rfl, I.turnedL (t' := tk) (ch := [z, TI, TO, i1, i2, i3]) (fun c o hb q =>
      hk c o (fun q' => hb (by simp [q'])) (fun q' => hb (by simp [q'])) (fun q' => hb (by simp [q'])) (fun q' => hb (by simp [q'])) (fun q' => hb (by simp [q'])) q) hf⟩
  self := fun A i s Q E st h => wpAny_pyIter_zip st.1 h
theorem sep3 (n a b : Nat) (la : a < n) (lb : b < n) : ZipSep3 (n + 5) (n + 3) (n + 4) n (n + 1) (n + 2) [n] [n + 1, a] [n + 2, b] := by
  have f : ∀ {x y : Nat}, x ≠ y → @Ne Addr x y := fun h => h
  constructor
  all_goals first
    | exact f (by omega)
    | exact List.mem_cons_self
    | (intro z; simp only [List.mem_cons, List.not_mem_nil, or_false] at z; first | (have z' : (_ : Nat) = _ := z; omega) | (rcases z with z | z <;> (have z' : (_ : Nat) = _ := z; omega)))
theorem ne3 (n a b : Nat) (la : a < n) (lb : b < n) : @Ne Addr n (n + 3) ∧ @Ne Addr (n + 1) (n + 3) ∧ @Ne Addr (n + 2) (n + 3) ∧ @Ne Addr (n + 3) (n + 5) ∧ @Ne Addr n (n + 1) ∧ @Ne Addr n (n + 2) ∧ @Ne Addr (n + 1) (n + 2) ∧ @Ne Addr a (n + 1) ∧ @Ne Addr b (n + 2) ∧ @Ne Addr a (n + 2) ∧ @Ne Addr b (n + 1) := by
  have f : ∀ {x y : Nat}, x ≠ y → @Ne Addr x y := fun h => h
  exact ⟨f (by omega), f (by omega), f (by omega), f (by omega), f (by omega), f (by omega), f (by omega), f (by omega), f (by omega), f (by omega), f (by omega)⟩
theorem le3 {n c : Nat} (e : @Eq Addr c (n + 5) ∨ @Eq Addr c (n + 3) ∨ @Eq Addr c (n + 4) ∨ @Eq Addr c n ∨ @Eq Addr c (n + 1) ∨ @Eq Addr c (n + 2)) : n ≤ c := by
  have g : ∀ {x y : Nat}, @Eq Addr x y → x = y := fun h => h
  rcases e with e | e | e | e | e | e <;> (have := g e; omega)
def iZip3 (K : PySem.W.Frag) (ta : TA) : TI := fun σ H R => ta σ H fun vs H1 => ∃ x a b xs ys, vs = [.str x, .ref a, .ref b] ∧ SqT K H1 a xs ∧ SqT K H1 b ys ∧ R (It3 K x a b xs ys) H1
theorem pi_zip3 {X : Cx} {e e2 e3 : Expr} {ta : TA} {p pos tpos : Pos} {elts : List Expr} {kk : Nat} (hg : Gl X "zip") (hm : X.mg "zip" = none) (ha : PA X [e, e2, e3] ta)
    (hs : starEach [e, e2, e3] X.env = (false, eval e X.env) :: starEach [e2, e3] X.env := by rfl) (hpl : (backTo pos (starEach [e2, e3] X.env)).any (·.1) = false := by rfl) :
    PI X (.Tuple elts kk tpos) (.Call (.Name "zip" p) [e, e2, e3] [] pos) (iZip3 X.K ta) := by
  refine ⟨fun pins s σ H R I h => ?_⟩
  refine Call_ (ld_blt I hg hm PyProof.Rows.boot_zip (PyProof.Rows.callWith_type1 (thn (ha.run pos pins s σ H _ I h) fun us s1 ⟨vs, H1, I1, r1, q1⟩ => ?_) hs hpl))
  obtain ⟨x, a, b, xs, ys, ex, hqx, hqy, q⟩ := q1
  subst ex
  cases r1 with
  | cons r rr =>
  cases rr with
  | cons r' rr =>
  cases rr with
  | cons r'' rr =>
    cases rr
    obtain ⟨t, rfl⟩ := r
    cases r'
    cases r''
    obtain ⟨its, rv, p1, _⟩ := I1.tuple hqx
    obtain ⟨its2, rv2, p2, _⟩ := I1.tuple hqy
    obtain ⟨oa, ha1, _⟩ := id p1
    obtain ⟨ob, hb1, _⟩ := id p2
    have la : a < s1.heap.objs.size := Heap.lt_size ha1
    have lb : b < s1.heap.objs.size := Heap.lt_size hb1
    refine zip_begins3 (begins_text x t) (begins_tuple a its.toArray) (begins_tuple b its2.toArray) trivial p1 p2 fun h' hz hTI hTO g1 g2 g3 hsz hk => wpAny_pyIter_zip hz ?_
    have I2 : Inv X pins σ H1 { s1 with heap := h' } := I1.kept (t' := s1.toks) hk
    refine ⟨s1.heap.objs.size + 5, [s1.heap.objs.size + 5, s1.heap.objs.size + 3, s1.heap.objs.size + 4, s1.heap.objs.size, s1.heap.objs.size + 1, s1.heap.objs.size + 2], _, _, H1, rfl, I2, turn_zip3 (t := t) (sep3 _ a b la lb) (ne3 _ a b la lb), ⟨hz, hTI, ⟨_, _, _, hTO⟩, ⟨_, g1, rfl, rfl⟩, ⟨_, g2, rfl, rfl⟩, ⟨_, g3, rfl, rfl⟩, Nat.zero_le _⟩, fun c hcm => ?_, q⟩
    have e' : c = s1.heap.objs.size + 5 ∨ c = s1.heap.objs.size + 3 ∨ c = s1.heap.objs.size + 4 ∨ c = s1.heap.objs.size ∨ c = s1.heap.objs.size + 1 ∨ c = s1.heap.objs.size + 2 := by simpa using hcm
    have hle : s1.heap.objs.size ≤ c := le3 e'
    exact I1.fpOk hle (I1.hok.fresh hle)
/-! as words -/
def zip3D : List D → List D → List D → List D
  | a :: r, b :: s, c :: t => .tuple [a, b, c] :: zip3D r s t
  | _, _, _ => []
theorem zip3D_len : ∀ (x y z : List D), (zip3D x y z).length = min (min x.length y.length) z.length
  | [], _, _ => by simp [zip3D]
  | _ :: _, [], _ => by simp [zip3D]
  | _ :: _, _ :: _, [] => by simp [zip3D]
  | a :: r, b :: s, c :: t => by
    show (zip3D r s t).length + 1 = _
    rw [zip3D_len r s t]
    simp only [List.length_cons]
    omega
theorem zip3D_get : ∀ {x y z : List D} {i : Nat} {d : D}, (zip3D x y z)[i]? = some d → ∃ a b c, x[i]? = some a ∧ y[i]? = some b ∧ z[i]? = some c ∧ d = .tuple [a, b, c]
  | [], _, _, _, _, e => by simp [zip3D] at e
  | _ :: _, [], _, _, _, e => by simp [zip3D] at e
  | _ :: _, _ :: _, [], _, _, e => by simp [zip3D] at e
  | a :: r, b :: s, c :: t, 0, d, e => by
    have : PyData.tuple [a, b, c] = d := by simpa [zip3D] using e
    exact ⟨a, b, c, rfl, rfl, rfl, this.symm⟩
  | a :: r, b :: s, c :: t, i + 1, d, e => by
    obtain ⟨p, q, u, h1, h2, h3, h4⟩ := zip3D_get (x := r) (y := s) (z := t) (i := i) (d := d) (by simpa [zip3D] using e)
    exact ⟨p, q, u, by simpa using h1, by simpa using h2, by simpa using h3, h4⟩
section
variable {X : Cx} {M : MI} {e e2 e3 : Expr} {we we2 we3 : WE} {p pos tpos : Pos} {elts : List Expr} {kk : Nat}
def wZip3 (we we2 we3 : WE) : WI := fun ρ c Q => we ρ c fun d c1 => we2 ρ c1 fun d2 c2 => we3 ρ c2 fun d3 c3 => ∃ x xs ys, d = .str x ∧ d2 = .tuple xs ∧ d3 = .tuple ys ∧ Q (zip3D (signs x) xs ys) c3
theorem i_zip3 (hg : Gl X "zip") (hm : X.mg "zip" = none) (he : PE X e (tE M X.K we)) (he2 : PE X e2 (tE M X.K we2)) (he3 : PE X e3 (tE M X.K we3)) (hs : starEach [e, e2, e3] X.env = (false, eval e X.env) :: starEach [e2, e3] X.env := by rfl) (hs2 : starEach [e2, e3] X.env = (false, eval e2 X.env) :: starEach [e3] X.env := by rfl) (hs3 : starEach [e3] X.env = (false, eval e3 X.env) :: starEach [] X.env := by rfl) (hpl : (backTo pos (starEach [e2, e3] X.env)).any (·.1) = false := by rfl) :
    PI X (.Tuple elts kk tpos) (.Call (.Name "zip" p) [e, e2, e3] [] pos) (tI M X.K Fk (wZip3 we we2 we3)) := by
  refine PI.imp (pi_zip3 hg hm (pa_cons he (pa_cons he2 (pa_cons he3 pa_nil hs3) hs2) hs) hs hpl) ?_
  rintro σ H R ⟨w, ρ, Qd, eh, ev, g, hw, k⟩
  refine ⟨w, ρ, _, eh, ev, g, hw, fun w1 v d s1 g1 dv q1 => ?_⟩
  refine ⟨w1, ρ, _, rfl, ev.stp s1 g, g1, q1, fun w2 v2 d2 s2 g2 dv2 q2 => ?_⟩
  refine ⟨w2, ρ, _, rfl, (ev.stp s1 g).stp s2 g1, g2, q2, fun w3 v3 d3 s3 g3 dv3 q3 => ?_⟩
  obtain ⟨x, xs, ys, rfl, rfl, rfl, q3⟩ := q3
  cases dv
  have dv2' := dv2.fk (s3.fk g2)
  cases dv2' with
  | @tup a us _ h2 h3 =>
  cases dv3 with
  | @tup b vs _ h5 h6 =>
    have l1 := h3.length
    have l2 := h6.length
    have ls : (signs x).length = x.cps.size := by simp [signs]
    refine ⟨x, a, b, us, vs, rfl, h2.sq, h5.sq, k w3 _ (zip3D (signs x) xs ys) ((s1.trans s2).trans s3) g3 ⟨fun w' i d r g' ed => ?_, fun w' i r g' hi => ?_⟩ q3⟩
    · obtain ⟨x0, y0, z0, ex, ey, ez, rfl⟩ := zip3D_get ed
      have qa := (h2.up (r.f1 a) fun o f => r.k a o f).sq
      have qb := (h5.up (r.f1 b) fun o f => r.k b o f).sq
      obtain ⟨va, eva, dva⟩ := (h3.fk r).get ey
      obtain ⟨vb, evb, dvb⟩ := (h6.fk r).get ez
      have hx : i < x.cps.size := by rw [← ls]; exact (List.getElem?_eq_some_iff.mp ex).1
      have hy : i < us.length := (List.getElem?_eq_some_iff.mp eva).1
      have hz : i < vs.length := (List.getElem?_eq_some_iff.mp evb).1
      refine ⟨⟨qa, qb, hx, hy, hz⟩, fun v H' y => ?_⟩
      obtain ⟨T, c, y1, z1, rfl, hT, rfl, hc, hy1, hz1⟩ := y
      rw [eva] at hy1
      rw [evb] at hz1
      cases hy1
      cases hz1
      have e0 : x0 = .str ⟨#[c]⟩ := by
        unfold signs at ex
        rw [List.getElem?_map] at ex
        obtain ⟨c', e1, e2⟩ := Option.map_eq_some_iff.mp ex
        have e3 : x.cps[i]? = some c' := by simpa using e1
        rw [hc] at e3
        cases e3
        exact e2.symm
      subst e0
      exact ⟨w'.new T _, rfl, rfl, stp_new hT, gd_new g' hT, new_tup g' hT (.cons (.str _) (.cons dva (.cons dvb .nil)))⟩
    · rw [zip3D_len] at hi
      exact ⟨(h2.up (r.f1 a) fun o f => r.k a o f).sq, (h5.up (r.f1 b) fun o f => r.k b o f).sq, by omega⟩
end
end HW

/-! list(range(n)), xs[::-1] -/
namespace HW
open PySem L2
section
variable {X : Cx} {M : MI} {e : Expr} {we : WE} {p q pos : Pos}
theorem dva_map {K : PySem.W.Frag} {P : Addr → Prop} {H : Hp} (f : Nat → Int) : ∀ l : List Nat, DvA K P H (l.map fun i => V.int (f i)) (l.map fun i => PyData.int (f i))
  | [] => .nil
  | x :: r => .cons (.int _) (dva_map f r)
theorem DvA.rev {K : PySem.W.Frag} {P : Addr → Prop} {H : Hp} : ∀ {vs : List V} {ds : List D}, DvA K P H vs ds → DvA K P H vs.reverse ds.reverse
  | _, _, .nil => .nil
  | _, _, .cons h1 h2 => by
    rw [List.reverse_cons, List.reverse_cons]
    exact h2.rev.app (.cons h1 .nil)
def wLR (we : WE) : WE := fun ρ c Q => we ρ c fun d c1 => ∃ n : Int, d = .int n ∧ 0 ≤ n ∧ n ≤ 16777216 ∧ Q (.list (rngD 0 n.toNat)) c1
theorem e_lrange {pos2 : Pos} (hg : Gl X "list") (hm : X.mg "list" = none) (hg2 : Gl X "range") (hm2 : X.mg "range" = none) (hc : X.calm = true) (he : PE X e (tE M X.K we)) (hs : starEach [e] X.env = (false, eval e X.env) :: starEach [] X.env := by rfl) (hs2 : starEach [.Call (.Name "range" q) [e] [] pos] X.env = (false, eval (.Call (.Name "range" q) [e] [] pos) X.env) :: starEach [] X.env := by rfl) :
    PE X (.Call (.Name "list" p) [.Call (.Name "range" q) [e] [] pos] [] pos2) (tE M X.K (wLR we)) := by
  refine PE.imp (pe_listRg hc hg hm (prg_1 hg2 hm2 he hs) hs2) ?_
  rintro σ H Q ⟨w, ρ, Qd, eh, ev, g, hw, k⟩
  refine ⟨w, ρ, _, eh, ev, g, hw, fun w1 v d s1 g1 dv q1 => ?_⟩
  obtain ⟨n, rfl, n0, n1, q1⟩ := q1
  cases dv
  refine ⟨n, rfl, .of_le (Int.le_refl _) n1 (by decide) n0, fun p hp => ?_⟩
  have dva : DvA X.K w1.F w1.H (rgV 0 n) (rngD 0 n.toNat) := by
    unfold rgV rngD
    rw [Int.sub_zero]
    exact dva_map (fun i => 0 + (i : Int)) _
  exact k (w1.new p (.lst (rgV 0 n))) _ _ (s1.trans (stp_new hp)) (gd_new g1 hp) (new_lst g1 hp dva) q1
def wRevL (we : WE) : WE := fun ρ c Q => we ρ c fun d c1 => ∃ ds, d = .list ds ∧ Q (.list ds.reverse) c1
theorem e_revL {k0 : Nat} {p1 p2 p3 : Pos} (he : PE X e (tB M X.K we)) : PE X (.Subscript e (.Slice none none (some (.UnaryOp .USub (.Constant (.int 1) k0 p1) p2)) p3) pos) (tE M X.K (wRevL we)) := by
  refine PE.imp (pe_revL he) ?_
  rintro σ H Q ⟨w, ρ, Qd, eh, ev, g, hw, k⟩
  refine ⟨w, ρ, _, eh, ev, g, hw, fun w1 v d s1 g1 dv q1 => ?_⟩
  obtain ⟨ds, rfl, q1⟩ := q1
  obtain ⟨a, vs, rfl, sq, da⟩ := dv.seqL
  exact ⟨a, vs, rfl, sq, fun p hp => k (w1.new p (.lst vs.reverse)) _ _ (s1.trans (stp_new hp)) (gd_new g1 hp) (new_lst g1 hp da.rev) q1⟩
variable {b : Expr} {es : List Expr} {wa : WA} {wb : WE} {p2' : Pos}
/-- new lists of one's own by [..] * n, by xs + ys -/
def nRepL (wa : WA) (wb : WE) : WN := fun ρ c Q => wa ρ c fun ds c1 => ds.length ≤ LIM ∧ wb ρ c1 fun d c2 => ∃ n : Int, d = .int n ∧ -(2 ^ 62) ≤ n ∧ n ≤ 2 ^ 62 ∧ ds.length * n.toNat ≤ LIM ∧ Q (.ls (List.replicate n.toNat ds).flatten) c2
theorem n_repL (ha : PA X es (tAs M X.K wa)) (hb : PE X b (tB M X.K wb)) : PE X (.BinOp (.List es p2') .Mult b pos) (tN M X.K (nRepL wa wb)) := by
  refine PE.imp (pe_op op_rep (pe_lst ha) hb) ?_
  rintro σ H Q ⟨w, ρ, Qd, eh, ev, g, hw, k⟩
  refine ⟨w, ρ, _, eh, ev, g, hw, fun w1 vs ds s1 g1 da q1 => ⟨lim_size (by rw [da.length]; exact q1.1), fun p hp => ?_⟩⟩
  have sp := stp_own (o := .lst vs) hp
  have gp := gd_own (o := .lst vs) g1 hp
  refine ⟨w1.own p (.lst vs), ρ, _, rfl, (ev.stp s1 g).stp sp g1, gp, q1.2, fun w2 y d s2 g2 bv q2 => ?_⟩
  obtain ⟨n, rfl, n1, n2, n3, q⟩ := q2
  have at2 := s2.k _ _ own_at (show p ∉ w1.R from r_free g1 hp)
  have da2 := (da.fk (sp.fk g1)).fk (s2.fk gp)
  refine ⟨p, n, vs, rfl, bv.int, at2, by omega, by omega, by rw [da.length]; exact lim_size n3, fun p' hp' => ?_⟩
  have s3 := (s1.trans sp).trans s2
  obtain ⟨y1, y2, y3, y4⟩ := new_ls s3 g2 hp' (da2.rep _)
  exact k _ p' _ y1 y2 rfl y3 y4 q
def nCat (we wb : WE) : WN := fun ρ c Q => we ρ c fun x c1 => wb ρ c1 fun y c2 => ∃ xs ys, x = .list xs ∧ y = .list ys ∧ xs.length + ys.length ≤ LIM ∧ Q (.ls (xs ++ ys)) c2
theorem n_cat (ha : PE X e (tB M X.K we)) (hb : PE X b (tB M X.K wb)) : PE X (.BinOp e .Add b pos) (tN M X.K (nCat we wb)) := by
  refine PE.imp (pe_op o_cat ha hb) ?_
  rintro σ H Q ⟨w, ρ, Qd, eh, ev, g, hw, k⟩
  refine ⟨w, ρ, _, eh, ev, g, hw, fun w1 x dx s1 g1 bx q1 => ?_⟩
  refine ⟨w1, ρ, _, rfl, ev.stp s1 g, g1, q1, fun w2 y dy s2 g2 by' q2 => ?_⟩
  obtain ⟨xs, ys, rfl, rfl, hl, q⟩ := q2
  obtain ⟨a, vs, rfl, h1, h2⟩ := (bx.stp s2 g1).seqL
  obtain ⟨c, us, rfl, h3, h4⟩ := by'.seqL
  refine ⟨a, c, vs, us, rfl, rfl, h1, h3, lim_size (by rw [h2.length, h4.length]; exact hl), fun p hp => ?_⟩
  obtain ⟨y1, y2, y3, y4⟩ := new_ls (s1.trans s2) g2 hp (h2.app h4)
  exact k _ p _ y1 y2 rfl y3 y4 q
end
end HW

/-! texts as lists of code points; words run -/
namespace HW
open PySem L2
def S (l : List Nat) : Str := ⟨l.toArray⟩
theorem S_of (x : Str) : x = S x.cps.toList := by cases x; rfl
theorem S_inj {a b : List Nat} : S a = S b ↔ a = b := ⟨fun h => by have := congrArg (fun x : Str => x.cps.toList) h; simpa [S] using this, fun h => h ▸ rfl⟩
theorem S_len (l : List Nat) : (S l).length = l.length := by show (l.toArray).size = _; simp
theorem S_cps (l : List Nat) : (S l).cps.toList = l := by simp [S]
theorem S_add (a b : List Nat) : S a ++ S b = S (a ++ b) := by
  show (⟨a.toArray ++ b.toArray⟩ : Str) = _
  simp [S]
theorem S_beq (a b : List Nat) : (S a == S b) = decide (a = b) := by
  by_cases h : a = b
  · subst h; simp
  · rw [decide_eq_false h]
    exact beq_false_of_ne fun z => h (S_inj.mp z)
abbrev cD (c : Nat) : D := .str (S [c])
theorem signs_S (l : List Nat) : signs (S l) = l.map cD := by unfold signs; rw [S_cps]; rfl
theorem inS_S (c : Nat) (l : List Nat) : inS (S [c]) (S l) = decide (c ∈ l) := by
  have := inS_one c (S l)
  rw [S_cps] at this
  exact this
theorem lt_S (a b : List Nat) : ltD (.str (S a)) (.str (S b)) = some (.bool (decide (a < b))) := by
  show some (PyData.bool (decide ((S a).cps.toList < (S b).cps.toList))) = _
  rw [S_cps, S_cps]
theorem ixS (l : List Nat) {i : Nat} (h : i < l.length) (hz : l.length ≤ LIM) : ixD (.str (S l)) (.int i) = some (cD l[i]) := by
  show (if (S l).length ≤ LIM then (atI (S l).cps.toList i).map _ else none) = _
  rw [S_len, if_pos hz, S_cps]
  unfold atI ixN
  rw [if_pos (by omega), if_pos (by omega)]
  simp [h]
  rfl
theorem ixL (ds : List D) {i : Nat} (h : i < ds.length) : ixD (.list ds) (.int i) = some ds[i] := by
  show atI ds i = _
  unfold atI ixN
  rw [if_pos (by omega), if_pos (by omega)]
  simp [h]
theorem ixT (ds : List D) {i : Nat} (h : i < ds.length) : ixD (.tuple ds) (.int i) = some ds[i] := by
  show atI ds i = _
  unfold atI ixN
  rw [if_pos (by omega), if_pos (by omega)]
  simp [h]
theorem add_S (a b : List Nat) (h : a.length + b.length ≤ LIM) : addD (.str (S a)) (.str (S b)) = some (.str (S (a ++ b))) := by
  show (if (S a).length + (S b).length ≤ LIM then some (PyData.str (S a ++ S b)) else none) = _
  rw [S_len, S_len, if_pos h, S_add]
/-- a comprehension without draws -/
theorem lcGo_map {we : WE} {ρ : List En} {j : Nat} (f : D → D) : ∀ (ds acc : List D) (c : Nat) (Q : D → Nat → Prop), (∀ d ∈ ds, ∀ c (Q : D → Nat → Prop), Q (f d) c → we (ρ.set j (.im d)) c Q) → Q (.list (acc ++ ds.map f)) c → lcGo wYes we ρ j ds acc c Q
  | [], acc, c, Q, _, q => by simpa [lcGo] using q
  | d :: r, acc, c, Q, h, q => by
    refine iteT (B := lcGo wYes we ρ j r acc c Q) (h d List.mem_cons_self c _ ?_)
    exact lcGo_map f r (acc ++ [f d]) c Q (fun x hx => h x (List.mem_cons_of_mem _ hx)) (by simpa using q)
theorem lcGo_fil {wt : WT} {we : WE} {ρ : List En} {j : Nat} (p : D → Bool) (f : D → D) : ∀ (ds acc : List D) (c : Nat) (Q : D → Nat → Prop), (∀ d ∈ ds, ∀ c (Q : Bool → Nat → Prop), Q (p d) c → wt (ρ.set j (.im d)) c Q) → (∀ d ∈ ds, ∀ c (Q : D → Nat → Prop), Q (f d) c → we (ρ.set j (.im d)) c Q) →
    Q (.list (acc ++ (ds.filter p).map f)) c → lcGo wt we ρ j ds acc c Q
  | [], acc, c, Q, _, _, q => by simpa [lcGo] using q
  | d :: r, acc, c, Q, hp, h, q => by
    refine hp d List.mem_cons_self c _ ?_
    have rp := fun x (hx : x ∈ r) => hp x (List.mem_cons_of_mem _ hx)
    have rh := fun x (hx : x ∈ r) => h x (List.mem_cons_of_mem _ hx)
    cases e : p d with
    | true =>
      refine iteT (h d List.mem_cons_self c _ ?_)
      refine lcGo_fil p f r (acc ++ [f d]) c Q rp rh ?_
      simpa [List.filter_cons, e] using q
    | false =>
      refine iteF (lcGo_fil p f r acc c Q rp rh ?_)
      simpa [List.filter_cons, e] using q
/-- a drawn comprehension: some of the items, each by a draw -/
theorem lcGo_draw {wt : WT} {we : WE} {ρ : List En} {j : Nat} (f : D → D) : ∀ (ds acc : List D) (c : Nat) (Q : D → Nat → Prop), (∀ d ∈ ds, ∀ c' (Q : Bool → Nat → Prop), c ≤ c' → c' < c + ds.length → (∀ b, Q b (c' + 1)) → wt (ρ.set j (.im d)) c' Q) → (∀ d ∈ ds, ∀ c (Q : D → Nat → Prop), Q (f d) c → we (ρ.set j (.im d)) c Q) →
    (∀ es : List D, es.Sublist ds → Q (.list (acc ++ es.map f)) (c + ds.length)) → lcGo wt we ρ j ds acc c Q
  | [], acc, c, Q, _, _, q => by simpa [lcGo] using q [] (List.Sublist.refl _)
  | d :: r, acc, c, Q, hp, h, q => by
    refine hp d List.mem_cons_self c _ (Nat.le_refl _) (by simp) fun b => ?_
    have rp : ∀ x ∈ r, ∀ c' (Q : Bool → Nat → Prop), c + 1 ≤ c' → c' < c + 1 + r.length → (∀ b, Q b (c' + 1)) → wt (ρ.set j (.im x)) c' Q := fun x hx c' Q h1 h2 k => hp x (List.mem_cons_of_mem _ hx) c' Q (by omega) (by simp; omega) k
    have rh := fun x (hx : x ∈ r) => h x (List.mem_cons_of_mem _ hx)
    have e : c + (d :: r).length = c + 1 + r.length := by simp; omega
    rw [e] at q
    cases b with
    | true =>
      refine iteT (h d List.mem_cons_self _ _ ?_)
      refine lcGo_draw f r (acc ++ [f d]) (c + 1) Q rp rh fun es hes => ?_
      have := q (d :: es) (hes.cons_cons d)
      simpa using this
    | false =>
      refine iteF (lcGo_draw f r acc (c + 1) Q rp rh fun es hes => q es (hes.cons d))
end HW

/-! X1: words that are run: functions over data, each leading to its word -/
namespace HW
open PySem L2
inductive Rs (α : Type) where
  | bad
  | ok (a : α)
  | ex (x : Xd)
namespace Rs
variable {α β : Type}
def bind : Rs α → (α → Rs β) → Rs β
  | .bad, _ => .bad
  | .ok a, f => f a
  | .ex x, _ => .ex x
def calm : Rs α → Rs α
  | .ex _ => .bad
  | r => r
def ofO : Option α → Rs α
  | none => .bad
  | some a => .ok a
def guard (c : Prop) [Decidable c] (r : Rs α) : Rs α := if c then r else .bad
def post (r : Rs α) (Q : α → Prop) (E : Xd → Prop) : Prop := match r with
  | .bad => False
  | .ok a => Q a
  | .ex x => E x
theorem post_bind {r : Rs α} {f : α → Rs β} {Q : β → Prop} {E : Xd → Prop} (h : (r.bind f).post Q E) : r.post (fun a => (f a).post Q E) E := by cases r <;> exact h
theorem post_mono {r : Rs α} {Q Q' : α → Prop} {E : Xd → Prop} (h : r.post Q E) (k : ∀ a, Q a → Q' a) : r.post Q' E := by
  cases r with
  | bad => exact h
  | ok a => exact k a h
  | ex x => exact h
theorem post_calm {r : Rs α} {Q : α → Prop} {E E' : Xd → Prop} (h : r.calm.post Q E) : r.post Q E' := by
  cases r with
  | bad => exact h
  | ok a => exact h
  | ex x => exact h.elim
theorem post_ofO {o : Option α} {Q : α → Prop} {E : Xd → Prop} (h : (ofO o).post Q E) : ∃ z, o = some z ∧ Q z := by
  cases o with
  | none => exact h.elim
  | some a => exact ⟨a, rfl, h⟩
theorem post_guard {c : Prop} [Decidable c] {r : Rs α} {Q : α → Prop} {E : Xd → Prop} (h : (guard c r).post Q E) : c ∧ r.post Q E := by
  unfold guard at h
  split at h
  · exact ⟨by assumption, h⟩
  · exact h.elim
theorem post_bm {r : Rs α} {f : α → Rs β} {Q : β → Prop} {Q' : α → Prop} {E : Xd → Prop} (h : (r.bind f).post Q E) (k : ∀ a, (f a).post Q E → Q' a) : r.post Q' E := post_mono (post_bind h) k
end Rs
open Rs
abbrev XE := List En → Rs D
abbrev XT := List En → Rs Bool
abbrev XA := List En → Rs (List D)
abbrev XO := List En → Rs (Option Int)
abbrev XG := List En → Rs (List En)
abbrev XN := List En → Rs En
abbrev RR := Xd → List En → Nat → Prop
section
variable (R : RR)
def RfE (x : XE) (w : WE) : Prop := ∀ ρ c Q, (x ρ).post (fun d => Q d c) (fun e => R e ρ c) → w ρ c Q
def RfT (x : XT) (w : WT) : Prop := ∀ ρ c Q, (x ρ).post (fun d => Q d c) (fun e => R e ρ c) → w ρ c Q
def RfA (x : XA) (w : WA) : Prop := ∀ ρ c Q, (x ρ).post (fun d => Q d c) (fun e => R e ρ c) → w ρ c Q
def RfO (x : XO) (w : WO) : Prop := ∀ ρ c Q, (x ρ).post (fun d => Q d c) (fun e => R e ρ c) → w ρ c Q
def RfG (x : XG) (w : WG) : Prop := ∀ ρ c Q, (x ρ).post (fun d => Q d c) (fun e => R e ρ c) → w ρ c Q
def RfN (x : XN) (w : WN) : Prop := ∀ ρ c Q, (x ρ).post (fun d => Q d c) (fun e => R e ρ c) → w ρ c Q
end
section
variable {R : RR} {xa xb xc : XE} {wa wb wc : WE} {xt xu : XT} {wt wu : WT} {xs xs' : XA} {ws ws' : WA} {xl xh xk : XO} {wl wh wk : WO}
@[simp] def xVar (i : Nat) : XE := fun ρ => match ρ[i]? with
  | some (.im d) => .ok d
  | _ => .bad
theorem k_var {i : Nat} : RfE R (xVar i) (wVar i) := fun ρ c Q h => by
  unfold xVar at h
  split at h
  · rename_i d e; exact ⟨d, e, h⟩
  · exact h.elim
@[simp] def xLook (i : Nat) : XE := fun ρ => ofO (ρ[i]?.bind En.look)
theorem k_look {i : Nat} : RfE R (xLook i) (wLook i) := fun ρ c Q h => by
  obtain ⟨d, e, q⟩ := post_ofO h
  cases z : ρ[i]? with
  | none => rw [z] at e; cases e
  | some en => rw [z] at e; exact ⟨en, d, z, e, q⟩
@[simp] def xC (d : D) : XE := fun _ => .ok d
theorem k_c {d : D} : RfE R (xC d) (wC d) := fun _ _ _ h => h
@[simp] def xOp (f : D → D → Option D) (xa xb : XE) : XE := fun ρ => (xa ρ).bind fun x => (xb ρ).bind fun y => ofO (f x y)
theorem k_op {f : D → D → Option D} (ha : RfE R xa wa) (hb : RfE R xb wb) : RfE R (xOp f xa xb) (wOp f wa wb) := fun ρ c Q h => ha ρ c _ (post_bm h fun x h => hb ρ c _ (post_bm h fun y h => post_ofO h))
def bl : D → Option Bool
  | .bool b => some b
  | _ => none
theorem bl_some {d : D} {b : Bool} (h : bl d = some b) : d = .bool b := by
  cases d <;> simp only [bl, reduceCtorEq, Option.some.injEq] at h
  rw [h]
@[simp] def xTst (xa : XE) : XT := fun ρ => (xa ρ).bind fun d => ofO (bl d)
theorem k_tst (ha : RfE R xa wa) : RfT R (xTst xa) (wTst wa) := fun ρ c Q h => ha ρ c _ (post_bm h fun x h => by
  obtain ⟨b, e, q⟩ := post_ofO h
  exact ⟨b, bl_some e, q⟩)
@[simp] def xTru (xa : XE) : XT := fun ρ => (xa ρ).bind fun d => ofO (truD d)
theorem k_tru (ha : RfE R xa wa) : RfT R (xTru xa) (wTru wa) := fun ρ c Q h => ha ρ c _ (post_bm h fun x h => post_ofO h)
@[simp] def xAnd (xt xu : XT) : XT := fun ρ => (xt ρ).bind fun b => if b = true then xu ρ else .ok false
theorem k_and (ht : RfT R xt wt) (hu : RfT R xu wu) : RfT R (xAnd xt xu) (wAnd wt wu) := fun ρ c Q h => ht ρ c _ (post_bm h fun b h => by
  cases b with
  | true => exact hu ρ c _ h
  | false => exact h)
@[simp] def xOr (xt xu : XT) : XT := fun ρ => (xt ρ).bind fun b => if b = true then .ok true else xu ρ
theorem k_or (ht : RfT R xt wt) (hu : RfT R xu wu) : RfT R (xOr xt xu) (wOr wt wu) := fun ρ c Q h => ht ρ c _ (post_bm h fun b h => by
  cases b with
  | true => exact h
  | false => exact hu ρ c _ h)
@[simp] def xNot (xt : XT) : XT := fun ρ => (xt ρ).bind fun b => .ok (!b)
theorem k_not (ht : RfT R xt wt) : RfT R (xNot xt) (wNot wt) := fun ρ c Q h => ht ρ c _ (post_bm h fun b h => h)
@[simp] def xAndV (xa xb : XE) : XE := fun ρ => (xa ρ).bind fun d => (ofO (bl d)).bind fun b => if b = true then xb ρ else .ok (.bool false)
theorem k_andV (ha : RfE R xa wa) (hb : RfE R xb wb) : RfE R (xAndV xa xb) (wAndV wa wb) := fun ρ c Q h => ha ρ c _ (post_bm h fun d h => by
  obtain ⟨b, e, q⟩ := post_ofO (post_bind h)
  refine ⟨b, bl_some e, ?_⟩
  cases b with
  | true => exact hb ρ c _ q
  | false => exact q)
@[simp] def xOrV (xa xb : XE) : XE := fun ρ => (xa ρ).bind fun d => (ofO (bl d)).bind fun b => if b = true then .ok (.bool true) else xb ρ
theorem k_orV (ha : RfE R xa wa) (hb : RfE R xb wb) : RfE R (xOrV xa xb) (wOrV wa wb) := fun ρ c Q h => ha ρ c _ (post_bm h fun d h => by
  obtain ⟨b, e, q⟩ := post_ofO (post_bind h)
  refine ⟨b, bl_some e, ?_⟩
  cases b with
  | true => exact q
  | false => exact hb ρ c _ q)
@[simp] def xNotV (xa : XE) : XE := fun ρ => (xa ρ).bind fun d => (ofO (bl d)).bind fun b => .ok (.bool (!b))
theorem k_notV (ha : RfE R xa wa) : RfE R (xNotV xa) (wNotV wa) := fun ρ c Q h => ha ρ c _ (post_bm h fun d h => by
  obtain ⟨b, e, q⟩ := post_ofO (post_bind h)
  exact ⟨b, bl_some e, q⟩)
@[simp] def xIfE (xt : XT) (xa xb : XE) : XE := fun ρ => (xt ρ).bind fun b => if b = true then xa ρ else xb ρ
theorem k_if (ht : RfT R xt wt) (ha : RfE R xa wa) (hb : RfE R xb wb) : RfE R (xIfE xt xa xb) (wIfE wt wa wb) := fun ρ c Q h => ht ρ c _ (post_bm h fun b h => by
  cases b with
  | true => exact ha ρ c _ h
  | false => exact hb ρ c _ h)
@[simp] def xChain (f f' : D → D → Option D) (xa xb xc : XE) : XE := fun ρ => (xa ρ).bind fun x => (xb ρ).bind fun y => (ofO ((f x y).bind bl)).bind fun b => if b = true then (xc ρ).bind fun z => ofO (f' y z) else .ok (.bool false)
theorem k_chain {f f' : D → D → Option D} (ha : RfE R xa wa) (hb : RfE R xb wb) (hc : RfE R xc wc) : RfE R (xChain f f' xa xb xc) (wChain f f' wa wb wc) := fun ρ c Q h => ha ρ c _ (post_bm h fun x h => hb ρ c _ (post_bm h fun y h => by
  obtain ⟨b, e, q⟩ := post_ofO (post_bind h)
  cases ef : f x y with
  | none => rw [ef] at e; cases e
  | some d =>
    rw [ef] at e
    refine ⟨b, congrArg some (bl_some e), ?_⟩
    cases b with
    | true => exact hc ρ c _ (post_bm q fun z h => post_ofO h)
    | false => exact q))
@[simp] def xNil : XA := fun _ => .ok []
theorem k_nil : RfA R xNil wNil := fun _ _ _ h => h
@[simp] def xCons (xa : XE) (xs : XA) : XA := fun ρ => (xa ρ).bind fun d => (xs ρ).bind fun ds => .ok (d :: ds)
theorem k_cons (ha : RfE R xa wa) (hs : RfA R xs ws) : RfA R (xCons xa xs) (wCons wa ws) := fun ρ c Q h => ha ρ c _ (post_bm h fun d h => hs ρ c _ (post_bm h fun ds h => h))
@[simp] def xTup (xs : XA) : XE := fun ρ => (xs ρ).bind fun ds => guard (ds.length ≤ LIM) (.ok (.tuple ds))
theorem k_tup (hs : RfA R xs ws) : RfE R (xTup xs) (wTup ws) := fun ρ c Q h => hs ρ c _ (post_bm h fun ds h => post_guard h)
@[simp] def xLst (xs : XA) : XE := fun ρ => (xs ρ).bind fun ds => guard (ds.length ≤ LIM) (.ok (.list ds))
theorem k_lst (hs : RfA R xs ws) : RfE R (xLst xs) (wLst ws) := fun ρ c Q h => hs ρ c _ (post_bm h fun ds h => post_guard h)
@[simp] def xF (f : D → Option D) (xa : XE) : XE := fun ρ => (xa ρ).bind fun d => ofO (f d)
theorem k_f {f : D → Option D} (ha : RfE R xa wa) : RfE R (xF f xa) (wF f wa) := fun ρ c Q h => ha ρ c _ (post_bm h fun d h => post_ofO h)
def isStr : D → Bool
  | .str _ => true
  | _ => false
@[simp] def xMS (f : D → D → Option D) (xa xb : XE) : XE := fun ρ => (xa ρ).bind fun x => guard (isStr x = true) ((xb ρ).bind fun y => ofO (f x y))
theorem k_ms {f : D → D → Option D} (ha : RfE R xa wa) (hb : RfE R xb wb) : RfE R (xMS f xa xb) (wMS f wa wb) := fun ρ c Q h => ha ρ c _ (post_bm h fun x h => by
  obtain ⟨e, h⟩ := post_guard h
  refine ⟨?_, hb ρ c _ (post_bm h fun y h => post_ofO h)⟩
  cases x <;> simp only [isStr, reduceCtorEq] at e
  exact ⟨_, rfl⟩)
@[simp] def xNo : XO := fun _ => .ok none
theorem k_no : RfO R xNo wNo := fun _ _ _ h => h
def iD : D → Option Int
  | .int i => some i
  | _ => none
theorem iD_some {d : D} {i : Int} (h : iD d = some i) : d = .int i := by
  cases d <;> simp only [iD, reduceCtorEq, Option.some.injEq] at h
  rw [h]
@[simp] def xSo (xa : XE) : XO := fun ρ => (xa ρ).bind fun d => (ofO (iD d)).bind fun i => .ok (some i)
theorem k_so (ha : RfE R xa wa) : RfO R (xSo xa) (wSo wa) := fun ρ c Q h => ha ρ c _ (post_bm h fun d h => by
  obtain ⟨i, e, q⟩ := post_ofO (post_bind h)
  exact ⟨i, iD_some e, q⟩)
@[simp] def xSl (xa : XE) (xl xh : XO) : XE := fun ρ => (xa ρ).bind fun x => (xl ρ).bind fun l => (xh ρ).bind fun u => ofO (slD x l u)
theorem k_sl (ha : RfE R xa wa) (hl : RfO R xl wl) (hh : RfO R xh wh) : RfE R (xSl xa xl xh) (wSl wa wl wh) := fun ρ c Q h => ha ρ c _ (post_bm h fun x h => hl ρ c _ (post_bm h fun l h => hh ρ c _ (post_bm h fun u h => post_ofO h)))
@[simp] def xSlK (xa : XE) (xl xh xk : XO) : XE := fun ρ => (xa ρ).bind fun x => (xl ρ).bind fun l => (xh ρ).bind fun u => (xk ρ).bind fun k => (ofO k).bind fun i => ofO (stepD x l u i)
theorem k_slK (ha : RfE R xa wa) (hl : RfO R xl wl) (hh : RfO R xh wh) (hk : RfO R xk wk) : RfE R (xSlK xa xl xh xk) (wSlK wa wl wh wk) := fun ρ c Q h => ha ρ c _ (post_bm h fun x h => hl ρ c _ (post_bm h fun l h => hh ρ c _ (post_bm h fun u h => hk ρ c _ (post_bm h fun k h => by
  obtain ⟨i, e, q⟩ := post_ofO (post_bind h)
  obtain ⟨z, ez, q⟩ := post_ofO q
  exact ⟨i, z, e, ez, q⟩))))
/-! dicts -/
def dicD : D → Option (List (D × D))
  | .dict kvs => some kvs
  | _ => none
theorem dicD_some {d : D} {k : List (D × D)} (h : dicD d = some k) : d = .dict k := by
  cases d <;> simp only [dicD, reduceCtorEq, Option.some.injEq] at h
  rw [h]
@[simp] def xDix (xa xb : XE) : XE := fun ρ => (xa ρ).bind fun d => (xb ρ).bind fun y => (ofO (dicD d)).bind fun kvs => (ofO (keyOf y)).bind fun k => ofO (lookK kvs k)
theorem k_dix (ha : RfE R xa wa) (hb : RfE R xb wb) : RfE R (xDix xa xb) (wDix wa wb) := fun ρ c Q h => ha ρ c _ (post_bm h fun d h => hb ρ c _ (post_bm h fun y h => by
  obtain ⟨kvs, e, h⟩ := post_ofO (post_bind h)
  obtain ⟨k, e2, h⟩ := post_ofO (post_bind h)
  obtain ⟨z, e3, q⟩ := post_ofO h
  exact ⟨kvs, k, z, dicD_some e, e2, e3, q⟩))
@[simp] def xGet2 (xa xb xc : XE) : XE := fun ρ => (xa ρ).bind fun d => (ofO (dicD d)).bind fun kvs => (xb ρ).bind fun y => (xc ρ).bind fun z => (ofO (keyOf y)).bind fun k => .ok ((lookK kvs k).getD z)
theorem k_get2 (ha : RfE R xa wa) (hb : RfE R xb wb) (hc : RfE R xc wc) : RfE R (xGet2 xa xb xc) (wGet2 wa wb wc) := fun ρ c Q h => ha ρ c _ (post_bm h fun d h => by
  obtain ⟨kvs, e, h⟩ := post_ofO (post_bind h)
  refine ⟨⟨kvs, dicD_some e⟩, hb ρ c _ (post_bm h fun y h => hc ρ c _ (post_bm h fun z h => ?_))⟩
  obtain ⟨k, e2, q⟩ := post_ofO (post_bind h)
  exact ⟨kvs, k, dicD_some e, e2, q⟩)
@[simp] def xInK (neg : Bool) (xa xb : XE) : XE := fun ρ => (xa ρ).bind fun y => (xb ρ).bind fun d => (ofO (dicD d)).bind fun kvs => (ofO (keyOf y)).bind fun k => .ok (.bool (if neg then !(lookK kvs k).isSome else (lookK kvs k).isSome))
theorem k_inK {neg : Bool} (ha : RfE R xa wa) (hb : RfE R xb wb) : RfE R (xInK neg xa xb) (wInK neg wa wb) := fun ρ c Q h => ha ρ c _ (post_bm h fun y h => hb ρ c _ (post_bm h fun d h => by
  obtain ⟨kvs, e, h⟩ := post_ofO (post_bind h)
  obtain ⟨k, e2, q⟩ := post_ofO (post_bind h)
  exact ⟨kvs, k, dicD_some e, e2, q⟩))
@[simp] def xList (xa : XE) : XE := fun ρ => (xa ρ).bind fun d => (ofO (itD d)).bind fun ds => .ok (.list ds)
theorem k_list (ha : RfE R xa wa) : RfE R (xList xa) (wList wa) := fun ρ c Q h => ha ρ c _ (post_bm h fun d h => by
  obtain ⟨ds, e, q⟩ := post_ofO (post_bind h)
  exact ⟨ds, e, q⟩)
/-! what is walked -/
def listD : D → Option (List D)
  | .list ds => some ds
  | _ => none
def tupleD : D → Option (List D)
  | .tuple ds => some ds
  | _ => none
def strD : D → Option Str
  | .str x => some x
  | _ => none
theorem listD_some {d : D} {k : List D} (h : listD d = some k) : d = .list k := by
  cases d <;> simp only [listD, reduceCtorEq, Option.some.injEq] at h
  rw [h]
theorem tupleD_some {d : D} {k : List D} (h : tupleD d = some k) : d = .tuple k := by
  cases d <;> simp only [tupleD, reduceCtorEq, Option.some.injEq] at h
  rw [h]
theorem strD_some {d : D} {k : Str} (h : strD d = some k) : d = .str k := by
  cases d <;> simp only [strD, reduceCtorEq, Option.some.injEq] at h
  rw [h]
@[simp] def xItL (xa : XE) : XA := fun ρ => (xa ρ).bind fun d => ofO (listD d)
theorem k_itL (ha : RfE R xa wa) : RfA R (xItL xa) (wItL wa) := fun ρ c Q h => ha ρ c _ (post_bm h fun d h => by
  obtain ⟨ds, e, q⟩ := post_ofO h
  exact ⟨ds, listD_some e, q⟩)
@[simp] def xItT (xa : XE) : XA := fun ρ => (xa ρ).bind fun d => ofO (tupleD d)
theorem k_itT (ha : RfE R xa wa) : RfA R (xItT xa) (wItT wa) := fun ρ c Q h => ha ρ c _ (post_bm h fun d h => by
  obtain ⟨ds, e, q⟩ := post_ofO h
  exact ⟨ds, tupleD_some e, q⟩)
@[simp] def xItS (xa : XE) : XA := fun ρ => (xa ρ).bind fun d => (ofO (strD d)).bind fun x => .ok (signs x)
theorem k_itS (ha : RfE R xa wa) : RfA R (xItS xa) (wItS wa) := fun ρ c Q h => ha ρ c _ (post_bm h fun d h => by
  obtain ⟨x, e, q⟩ := post_ofO (post_bind h)
  exact ⟨x, strD_some e, q⟩)
@[simp] def xRng (xa : XE) : XA := fun ρ => (xa ρ).bind fun d => (ofO (iD d)).bind fun n => guard (-(2 ^ 62) ≤ n ∧ n < 2 ^ 62) (.ok (rngD 0 n.toNat))
theorem k_rng (ha : RfE R xa wa) : RfA R (xRng xa) (wRng wa) := fun ρ c Q h => ha ρ c _ (post_bm h fun d h => by
  obtain ⟨n, e, h⟩ := post_ofO (post_bind h)
  obtain ⟨⟨g1, g2⟩, q⟩ := post_guard h
  exact ⟨n, iD_some e, g1, g2, q⟩)
@[simp] def xRng2 (xa xb : XE) : XA := fun ρ => (xa ρ).bind fun d => (xb ρ).bind fun d2 => (ofO (iD d)).bind fun i => (ofO (iD d2)).bind fun n => guard (-(2 ^ 62) ≤ i ∧ i < 2 ^ 62 ∧ -(2 ^ 62) ≤ n ∧ n < 2 ^ 62) (.ok (rngD i (n - i).toNat))
theorem k_rng2 (ha : RfE R xa wa) (hb : RfE R xb wb) : RfA R (xRng2 xa xb) (wRng2 wa wb) := fun ρ c Q h => ha ρ c _ (post_bm h fun d h => hb ρ c _ (post_bm h fun d2 h => by
  obtain ⟨i, e, h⟩ := post_ofO (post_bind h)
  obtain ⟨n, e2, h⟩ := post_ofO (post_bind h)
  obtain ⟨g, q⟩ := post_guard h
  exact ⟨i, n, iD_some e, iD_some e2, g, q⟩))
@[simp] def xEnT (xa : XE) : XA := fun ρ => (xa ρ).bind fun d => (ofO (tupleD d)).bind fun ds => .ok (enumD ds)
theorem k_enT (ha : RfE R xa wa) : RfA R (xEnT xa) (wEnT wa) := fun ρ c Q h => ha ρ c _ (post_bm h fun d h => by
  obtain ⟨ds, e, q⟩ := post_ofO (post_bind h)
  exact ⟨ds, tupleD_some e, q⟩)
end
/-! comprehensions -/
section
variable {R : RR} {xi xi1 : XA} {wi wi1 : WA} {xt xt1 : XT} {wt wt1 : WT} {xe xk : XE} {we wk : WE}
@[simp] def xYes : XT := fun _ => .ok true
theorem k_yes : RfT R xYes wYes := fun _ _ _ h => h
@[simp] def xlc (xt : XT) (xe : XE) (ρ : List En) (j : Nat) : List D → Rs (List D)
  | [] => .ok []
  | d :: r => (xt (ρ.set j (.im d))).calm.bind fun b => if b = true then (xe (ρ.set j (.im d))).calm.bind fun y => (xlc xt xe ρ j r).bind fun ys => .ok (y :: ys) else xlc xt xe ρ j r
theorem lc_in (ht : RfT R xt wt) (he : RfE R xe we) (ρ : List En) (j c : Nat) (E : Xd → Prop) : ∀ (ds acc : List D) (Q : List D → Nat → Prop), (xlc xt xe ρ j ds).post (fun ys => Q (acc ++ ys) c) E → lcIn wt we ρ j ds acc c Q
  | [], acc, Q, h => by simpa [lcIn] using (show Q (acc ++ []) c from h)
  | d :: r, acc, Q, h => ht _ c _ (post_calm (post_bm h fun b h => by
    cases b with
    | true =>
      refine iteT (he _ c _ (post_calm (post_bm h fun y h => lc_in ht he ρ j c E r (acc ++ [y]) Q ?_)))
      exact post_bm h fun ys h => by simpa using (show Q (acc ++ y :: ys) c from h)
    | false => exact iteF (lc_in ht he ρ j c E r acc Q h)))
theorem lc_go (ht : RfT R xt wt) (he : RfE R xe we) (ρ : List En) (j c : Nat) (E : Xd → Prop) : ∀ (ds acc : List D) (Q : D → Nat → Prop), (xlc xt xe ρ j ds).post (fun ys => Q (.list (acc ++ ys)) c) E → lcGo wt we ρ j ds acc c Q
  | [], acc, Q, h => by simpa [lcGo] using (show Q (.list (acc ++ [])) c from h)
  | d :: r, acc, Q, h => ht _ c _ (post_calm (post_bm h fun b h => by
    cases b with
    | true =>
      refine iteT (he _ c _ (post_calm (post_bm h fun y h => lc_go ht he ρ j c E r (acc ++ [y]) Q ?_)))
      exact post_bm h fun ys h => by simpa using (show Q (.list (acc ++ y :: ys)) c from h)
    | false => exact iteF (lc_go ht he ρ j c E r acc Q h)))
theorem lc_goN (ht : RfT R xt wt) (he : RfE R xe we) (ρ : List En) (j c : Nat) (E : Xd → Prop) : ∀ (ds acc : List D) (Q : En → Nat → Prop), (xlc xt xe ρ j ds).post (fun ys => Q (.ls (acc ++ ys)) c) E → lcGoN wt we ρ j ds acc c Q
  | [], acc, Q, h => by simpa [lcGoN] using (show Q (.ls (acc ++ [])) c from h)
  | d :: r, acc, Q, h => ht _ c _ (post_calm (post_bm h fun b h => by
    cases b with
    | true =>
      refine iteT (he _ c _ (post_calm (post_bm h fun y h => lc_goN ht he ρ j c E r (acc ++ [y]) Q ?_)))
      exact post_bm h fun ys h => by simpa using (show Q (.ls (acc ++ y :: ys)) c from h)
    | false => exact iteF (lc_goN ht he ρ j c E r acc Q h)))
@[simp] def xLc (xi : XA) (xt : XT) (xe : XE) (j : Nat) (vs : List Nat) : XE := fun ρ => (xi ρ).bind fun ds => guard (ds.length ≤ 16000000) ((xlc xt xe (wipeE ρ vs) j ds).bind fun ys => .ok (.list ys))
theorem k_lc {j : Nat} {vs : List Nat} (hi : RfA R xi wi) (ht : RfT R xt wt) (he : RfE R xe we) : RfE R (xLc xi xt xe j vs) (wLc wi wt we j vs) := fun ρ c Q h => hi ρ c _ (post_bm h fun ds h => by
  obtain ⟨g, h⟩ := post_guard h
  exact ⟨g, lc_go ht he _ j c _ ds [] Q (post_bm h fun ys h => h)⟩)
@[simp] def xnLc (xi : XA) (xt : XT) (xe : XE) (j : Nat) (vs : List Nat) : XN := fun ρ => (xi ρ).bind fun ds => guard (ds.length ≤ 16000000) ((xlc xt xe (wipeE ρ vs) j ds).bind fun ys => .ok (.ls ys))
theorem k_nlc {j : Nat} {vs : List Nat} (hi : RfA R xi wi) (ht : RfT R xt wt) (he : RfE R xe we) : RfN R (xnLc xi xt xe j vs) (nLc wi wt we j vs) := fun ρ c Q h => hi ρ c _ (post_bm h fun ds h => by
  obtain ⟨g, h⟩ := post_guard h
  exact ⟨g, lc_goN ht he _ j c _ ds [] Q (post_bm h fun ys h => h)⟩)
@[simp] def xlc2 (xt : XT) (xi1 : XA) (xt1 : XT) (xe : XE) (ρ : List En) (j j1 : Nat) : List D → List D → Rs (List D)
  | [], acc => .ok acc
  | d :: r, acc => (xt (ρ.set j (.im d))).calm.bind fun b => if b = true then (xi1 (ρ.set j (.im d))).calm.bind fun ds => guard (acc.length + ds.length ≤ 16000000) ((xlc xt1 xe (wipeE (ρ.set j (.im d)) [j1]) j1 ds).bind fun ys => xlc2 xt xi1 xt1 xe ρ j j1 r (acc ++ ys)) else xlc2 xt xi1 xt1 xe ρ j j1 r acc
theorem lc_go2 (ht : RfT R xt wt) (hi1 : RfA R xi1 wi1) (ht1 : RfT R xt1 wt1) (he : RfE R xe we) (ρ : List En) (j j1 c : Nat) (E : Xd → Prop) : ∀ (ds acc : List D) (Q : D → Nat → Prop), (xlc2 xt xi1 xt1 xe ρ j j1 ds acc).post (fun ys => Q (.list ys) c) E → lcGo2 wt wi1 wt1 we ρ j j1 ds acc c Q
  | [], acc, Q, h => by simpa [lcGo2] using (show Q (.list acc) c from h)
  | d :: r, acc, Q, h => ht _ c _ (post_calm (post_bm h fun b h => by
    cases b with
    | true =>
      refine iteT (hi1 _ c _ (post_calm (post_bm h fun ds h => ?_)))
      obtain ⟨g, h⟩ := post_guard h
      exact ⟨g, lc_in ht1 he _ j1 c E ds acc _ (post_bm h fun ys h => lc_go2 ht hi1 ht1 he ρ j j1 c E r (acc ++ ys) Q h)⟩
    | false => exact iteF (lc_go2 ht hi1 ht1 he ρ j j1 c E r acc Q h)))
@[simp] def xLc2 (xi : XA) (xt : XT) (xi1 : XA) (xt1 : XT) (xe : XE) (j j1 : Nat) (vs : List Nat) : XE := fun ρ => (xi ρ).bind fun ds => (xlc2 xt xi1 xt1 xe (wipeE ρ vs) j j1 ds []).bind fun ys => .ok (.list ys)
theorem k_lc2 {j j1 : Nat} {vs : List Nat} (hi : RfA R xi wi) (ht : RfT R xt wt) (hi1 : RfA R xi1 wi1) (ht1 : RfT R xt1 wt1) (he : RfE R xe we) : RfE R (xLc2 xi xt xi1 xt1 xe j j1 vs) (wLc2 wi wt wi1 wt1 we j j1 vs) :=
  fun ρ c Q h => hi ρ c _ (post_bm h fun ds h => lc_go2 ht hi1 ht1 he _ j j1 c _ ds [] Q (post_bm h fun ys h => h))
/-- a, b, .. = the items -/
def gTx : List Nat → List D → List En → Option (List En)
  | [], [], ρ => some ρ
  | i :: is, d :: ds, ρ => gTx is ds (ρ.set i (.im d))
  | _, _, _ => none
theorem gTx_ok : ∀ {is : List Nat} {ds : List D} {ρ ρ' : List En} {Q : List En → Prop}, gTx is ds ρ = some ρ' → Q ρ' → gTs is ds ρ Q
  | [], [], _, _, _, e, q => by cases e; simpa only [gTs] using q
  | _ :: _, _ :: _, _, _, _, e, q => by simpa only [gTs] using gTx_ok (by simpa only [gTx] using e) q
  | [], _ :: _, _, _, _, e, _ => by simp only [gTx, reduceCtorEq] at e
  | _ :: _, [], _, _, _, e, _ => by simp only [gTx, reduceCtorEq] at e
@[simp] def xlcT (xt : XT) (xe : XE) (ρ : List En) (js : List Nat) : List D → Rs (List D)
  | [] => .ok []
  | d :: r => (ofO ((tupleD d).bind fun ds => gTx js ds ρ)).bind fun ρ' => (xt ρ').calm.bind fun b => if b = true then (xe ρ').calm.bind fun y => (xlcT xt xe ρ js r).bind fun ys => .ok (y :: ys) else xlcT xt xe ρ js r
theorem lc_goT (ht : RfT R xt wt) (he : RfE R xe we) (ρ : List En) (js : List Nat) (c : Nat) (E : Xd → Prop) : ∀ (ds acc : List D) (Q : D → Nat → Prop), (xlcT xt xe ρ js ds).post (fun ys => Q (.list (acc ++ ys)) c) E → lcGoT wt we ρ js ds acc c Q
  | [], acc, Q, h => by simpa [lcGoT] using (show Q (.list (acc ++ [])) c from h)
  | d :: r, acc, Q, h => by
    obtain ⟨ρ', e, h⟩ := post_ofO (post_bind h)
    cases ed : tupleD d with
    | none => rw [ed] at e; cases e
    | some ds =>
      rw [ed] at e
      refine ⟨ds, tupleD_some ed, gTx_ok e (ht _ c _ (post_calm (post_bm h fun b h => ?_)))⟩
      cases b with
      | true =>
        refine iteT (he _ c _ (post_calm (post_bm h fun y h => lc_goT ht he ρ js c E r (acc ++ [y]) Q ?_)))
        exact post_bm h fun ys h => by simpa using (show Q (.list (acc ++ y :: ys)) c from h)
      | false => exact iteF (lc_goT ht he ρ js c E r acc Q h)
@[simp] def xLcT (xi : XA) (xt : XT) (xe : XE) (js vs : List Nat) : XE := fun ρ => (xi ρ).bind fun ds => guard (ds.length ≤ 16000000) ((xlcT xt xe (wipeE ρ vs) js ds).bind fun ys => .ok (.list ys))
theorem k_lcT {js vs : List Nat} (hi : RfA R xi wi) (ht : RfT R xt wt) (he : RfE R xe we) : RfE R (xLcT xi xt xe js vs) (wLcT wi wt we js vs) := fun ρ c Q h => hi ρ c _ (post_bm h fun ds h => by
  obtain ⟨g, h⟩ := post_guard h
  exact ⟨g, lc_goT ht he _ js c _ ds [] Q (post_bm h fun ys h => h)⟩)
@[simp] def xdc (xt : XT) (xk xe : XE) (ρ : List En) (j : Nat) : List D → List (D × D) → Rs (List (D × D))
  | [], acc => .ok acc
  | d :: r, acc => (xt (ρ.set j (.im d))).calm.bind fun b => if b = true then (xk (ρ.set j (.im d))).calm.bind fun y => (xe (ρ.set j (.im d))).calm.bind fun z => (ofO (keyOf y)).bind fun k => xdc xt xk xe ρ j r (putD' acc k z) else xdc xt xk xe ρ j r acc
theorem dc_go (ht : RfT R xt wt) (hk : RfE R xk wk) (he : RfE R xe we) (ρ : List En) (j c : Nat) (E : Xd → Prop) : ∀ (ds : List D) (acc : List (D × D)) (Q : List (D × D) → Nat → Prop), (xdc xt xk xe ρ j ds acc).post (fun ys => Q ys c) E → dcGo wt wk we ρ j ds acc c Q
  | [], acc, Q, h => h
  | d :: r, acc, Q, h => ht _ c _ (post_calm (post_bm h fun b h => by
    cases b with
    | true =>
      refine iteT (hk _ c _ (post_calm (post_bm h fun y h => he _ c _ (post_calm (post_bm h fun z h => ?_)))))
      obtain ⟨k, e, h⟩ := post_ofO (post_bind h)
      exact ⟨k, e, dc_go ht hk he ρ j c E r _ Q h⟩
    | false => exact iteF (dc_go ht hk he ρ j c E r acc Q h)))
@[simp] def xDc (xi : XA) (xt : XT) (xk xe : XE) (j : Nat) (vs : List Nat) : XE := fun ρ => (xi ρ).bind fun ds => guard (ds.length ≤ 16000000) ((xdc xt xk xe (wipeE ρ vs) j ds []).bind fun ys => .ok (.dict ys))
theorem k_dc {j : Nat} {vs : List Nat} (hi : RfA R xi wi) (ht : RfT R xt wt) (hk : RfE R xk wk) (he : RfE R xe we) : RfE R (xDc xi xt xk xe j vs) (wDc wi wt wk we j vs) := fun ρ c Q h => hi ρ c _ (post_bm h fun ds h => by
  obtain ⟨g, h⟩ := post_guard h
  exact ⟨g, dc_go ht hk he _ j c _ ds [] _ (post_bm h fun ys h => h)⟩)
@[simp] def xnDc (xi : XA) (xt : XT) (xk xe : XE) (j : Nat) (vs : List Nat) : XN := fun ρ => (xi ρ).bind fun ds => guard (ds.length ≤ 16000000) ((xdc xt xk xe (wipeE ρ vs) j ds []).bind fun ys => .ok (.dc ys))
theorem k_ndc {j : Nat} {vs : List Nat} (hi : RfA R xi wi) (ht : RfT R xt wt) (hk : RfE R xk wk) (he : RfE R xe we) : RfN R (xnDc xi xt xk xe j vs) (nDcC wi wt wk we j vs) := fun ρ c Q h => hi ρ c _ (post_bm h fun ds h => by
  obtain ⟨g, h⟩ := post_guard h
  exact ⟨g, dc_go ht hk he _ j c _ ds [] _ (post_bm h fun ys h => h)⟩)
end
end HW

/-! X2: calls and statements that are run -/
namespace HW
open PySem L2 Rs
abbrev XFn := List En → Rs D
def RfF (x : XFn) (f : FW) : Prop := ∀ es c Q, (x es).post (fun d => Q d c) (fun _ => False) → f es c Q
def RfX (x : XFn) (f : XR → FW) : Prop := ∀ es c Q R, (x es).post (fun d => Q d c) (fun e => R e c) → f R es c Q
theorem RfX.calm {x : XFn} {f : XR → FW} (h : RfX x f) : RfF x (f noX) := fun es c Q q => h es c Q noX q
section
variable {R : RR} {xa xb : XE} {wa wb : WE} {xg : XG} {wg : WG} {x : XFn} {f : FW} {fx : XR → FW} {xt : XT} {wt : WT}
@[simp] def xgNil : XG := fun _ => .ok []
theorem k_gnil : RfG R xgNil HW.gNil := fun _ _ _ h => h
@[simp] def xgIm (xa : XE) (xg : XG) : XG := fun ρ => (xa ρ).bind fun d => (xg ρ).bind fun es => .ok (.im d :: es)
theorem k_gim (ha : RfE R xa wa) (hg : RfG R xg wg) : RfG R (xgIm xa xg) (gIm wa wg) := fun ρ c Q h => ha ρ c _ (post_bm h fun d h => hg ρ c _ (post_bm h fun es h => h))
def lsE : En → Option (List D)
  | .ls ds => some ds
  | _ => none
theorem lsE_some {o : Option En} {ds : List D} (h : o.bind lsE = some ds) : o = some (.ls ds) := by
  cases o with
  | none => cases h
  | some e => cases e <;> simp only [Option.bind_some, lsE, reduceCtorEq, Option.some.injEq] at h; rw [h]
def dcE : En → Option (List (D × D))
  | .dc ds => some ds
  | _ => none
theorem dcE_some {o : Option En} {ds : List (D × D)} (h : o.bind dcE = some ds) : o = some (.dc ds) := by
  cases o with
  | none => cases h
  | some e => cases e <;> simp only [Option.bind_some, dcE, reduceCtorEq, Option.some.injEq] at h; rw [h]
def dlE : En → Option (List (D × List D))
  | .dl ds => some ds
  | _ => none
theorem dlE_some {o : Option En} {ds : List (D × List D)} (h : o.bind dlE = some ds) : o = some (.dl ds) := by
  cases o with
  | none => cases h
  | some e => cases e <;> simp only [Option.bind_some, dlE, reduceCtorEq, Option.some.injEq] at h; rw [h]
@[simp] def xgLs (i : Nat) (xg : XG) : XG := fun ρ => (ofO (ρ[i]?.bind lsE)).bind fun ds => (xg ρ).bind fun es => .ok (.im (.list ds) :: es)
theorem k_gls {i : Nat} (hg : RfG R xg wg) : RfG R (xgLs i xg) (gLs i wg) := fun ρ c Q h => by
  obtain ⟨ds, e, h⟩ := post_ofO (post_bind h)
  exact ⟨ds, lsE_some e, hg ρ c _ (post_bm h fun es h => h)⟩
@[simp] def xCall (x : XFn) (xg : XG) : XE := fun ρ => (xg ρ).bind fun es => (x es).calm
theorem k_call (hf : RfF x f) (hg : RfG R xg wg) : RfE R (xCall x xg) (wCall f wg) := fun ρ c Q h => hg ρ c _ (post_bm h fun es h => hf es c Q (post_calm h))
@[simp] def xCallF (x : XFn) (xg : XG) : XE := fun ρ => (xg ρ).bind fun es => (x es).calm.bind fun d => guard (flatD d = true) (.ok d)
theorem k_callF (hf : RfF x f) (hg : RfG R xg wg) : RfE R (xCallF x xg) (wCallF f wg) := fun ρ c Q h => hg ρ c _ (post_bm h fun es h => hf es c _ (post_calm (post_bm h fun d h => post_guard h)))
@[simp] def xCallX (x : XFn) (xg : XG) : XE := fun ρ => (xg ρ).bind fun es => x es
theorem k_callX (hf : RfX x fx) (hg : RfG R xg wg) : RfE R (xCallX x xg) (wCallX fx R wg) := fun ρ c Q h => hg ρ c _ (post_bm h fun es h => hf es c Q _ h)
/-! statements -/
inductive Fl where
  | nx (ρ : List En)
  | rt (d : D)
  | bk (ρ : List En)
  | ct (ρ : List En)
  | xx (x : Xd) (ρ : List En)
def Fl.go (R : RR) (dd : Dd) (c : Nat) : Fl → Prop
  | .nx ρ => dd.nx ρ c
  | .rt d => dd.rt d c
  | .bk ρ => dd.bk ρ c
  | .ct ρ => dd.ct ρ c
  | .xx x ρ => R x ρ c
abbrev XS := List En → Rs Fl
def RfS (R : RR) (x : XS) (w : WS) : Prop := ∀ dd ρ c, (x ρ).post (fun f => f.go R dd c) (fun _ => False) → w dd ρ c
def lift {α : Type} (r : Rs α) (ρ : List En) (f : α → Rs Fl) : Rs Fl := match r with
  | .bad => .bad
  | .ok a => f a
  | .ex x => .ok (.xx x ρ)
theorem post_lift {α : Type} {r : Rs α} {ρ : List En} {f : α → Rs Fl} {Q : Fl → Prop} {E : Xd → Prop} {Q' : α → Prop} {E' : Xd → Prop} (h : (lift r ρ f).post Q E) (k : ∀ a, (f a).post Q E → Q' a) (kx : ∀ x, Q (.xx x ρ) → E' x) : r.post Q' E' := by
  cases r with
  | bad => exact h
  | ok a => exact k a h
  | ex x => exact kx x h
variable {xs xr : XS} {ws wr : WS}
@[simp] def xSeq (xs xr : XS) : XS := fun ρ => (xs ρ).bind fun f => match f with
  | .nx ρ' => xr ρ'
  | f => .ok f
theorem k_seq (hs : RfS R xs ws) (hr : RfS R xr wr) : RfS R (xSeq xs xr) (wSeq ws wr) := fun dd ρ c h => hs _ ρ c (post_bm h fun f h => by
  cases f with
  | nx ρ' => exact hr dd ρ' c h
  | rt d => exact h
  | bk ρ' => exact h
  | ct ρ' => exact h
  | xx x ρ' => exact h)
@[simp] def xNext : XS := fun ρ => .ok (.nx ρ)
theorem k_next : RfS R xNext wNext := fun _ _ _ h => h
theorem k_pass : RfS R xNext wPass := fun _ _ _ h => h
@[simp] def xBrk : XS := fun ρ => .ok (.bk ρ)
theorem k_brk : RfS R xBrk wBrk := fun _ _ _ h => h
@[simp] def xCnt : XS := fun ρ => .ok (.ct ρ)
theorem k_cnt : RfS R xCnt wCnt := fun _ _ _ h => h
@[simp] def xNev : XS := fun _ => .bad
theorem k_nev : RfS R xNev wNev := fun _ _ _ h => h
@[simp] def xRet (xa : XE) : XS := fun ρ => lift (xa ρ) ρ fun d => .ok (.rt d)
theorem k_ret (ha : RfE R xa wa) : RfS R (xRet xa) (wRet wa) := fun dd ρ c h => ha ρ c _ (post_lift h (fun d h => h) fun x h => h)
@[simp] def xRetN : XS := fun _ => .ok (.rt .none)
theorem k_retN : RfS R xRetN wRetN := fun _ _ _ h => h
@[simp] def xRetO (i : Nat) : XS := fun ρ => (ofO (ρ[i]?.bind En.look)).bind fun d => .ok (.rt d)
theorem k_retO {i : Nat} : RfS R (xRetO i) (wRetO i) := fun dd ρ c h => by
  obtain ⟨d, e, q⟩ := post_ofO (post_bind h)
  cases z : ρ[i]? with
  | none => rw [z] at e; cases e
  | some en => rw [z] at e; exact ⟨en, d, z, e, q⟩
@[simp] def xRetDl (i : Nat) : XS := fun ρ => (ofO (ρ[i]?.bind dlE)).bind fun ds => .ok (.rt (.dict (ds.map fun p => (p.1, .list p.2))))
theorem k_retDl {i : Nat} : RfS R (xRetDl i) (wRetDl i) := fun dd ρ c h => by
  obtain ⟨ds, e, q⟩ := post_ofO (post_bind h)
  exact ⟨ds, dlE_some e, q⟩
@[simp] def xDrop (xa : XE) : XS := fun ρ => lift (xa ρ) ρ fun _ => .ok (.nx ρ)
theorem k_drop (ha : RfE R xa wa) : RfS R (xDrop xa) (wDrop wa) := fun dd ρ c h => ha ρ c _ (post_lift h (fun d h => h) fun x h => h)
@[simp] def xSet (i : Nat) (xa : XE) : XS := fun ρ => lift (xa ρ) ρ fun d => .ok (.nx (ρ.set i (.im d)))
theorem k_set {i : Nat} (ha : RfE R xa wa) : RfS R (xSet i xa) (wSet i wa) := fun dd ρ c h => ha ρ c _ (post_lift h (fun d h => h) fun x h => h)
@[simp] def xIf (xt : XT) (xs xr : XS) : XS := fun ρ => lift (xt ρ) ρ fun b => if b = true then xs ρ else xr ρ
theorem k_ifS (ht : RfT R xt wt) (hs : RfS R xs ws) (hr : RfS R xr wr) : RfS R (xIf xt xs xr) (wIf wt ws wr) := fun dd ρ c h => ht ρ c _ (post_lift h (fun b h => by
  cases b with
  | true => exact hs dd ρ c h
  | false => exact hr dd ρ c h) fun x h => h)
/-! targets -/
abbrev XTg := D → List En → Option (List En)
def RfTg (x : XTg) (w : WGt) : Prop := ∀ d ρ ρ' Q, x d ρ = some ρ' → Q ρ' → w d ρ Q
@[simp] def xgN (i : Nat) : XTg := fun d ρ => some (ρ.set i (.im d))
theorem k_gN {i : Nat} : RfTg (xgN i) (gN i) := fun d ρ ρ' Q e q => by cases e; exact q
@[simp] def xgT (is : List Nat) : XTg := fun d ρ => (tupleD d).bind fun ds => gTx is ds ρ
theorem k_gT {is : List Nat} : RfTg (xgT is) (gT is) := fun d ρ ρ' Q e q => by
  cases ed : tupleD d with
  | none => rw [xgT, ed] at e; cases e
  | some ds => rw [xgT, ed] at e; exact ⟨ds, tupleD_some ed, gTx_ok e q⟩
variable {xtg : XTg} {wtg : WGt} {xi : XA} {wi : WA}
@[simp] def xAsg (xa : XE) (tg : XTg) : XS := fun ρ => lift (xa ρ) ρ fun d => (ofO (tg d ρ)).bind fun ρ' => .ok (.nx ρ')
theorem k_asg (ha : RfE R xa wa) (ht : RfTg xtg wtg) : RfS R (xAsg xa xtg) (wAsg wa wtg) := fun dd ρ c h => ha ρ c _ (post_lift h (fun d h => by
  obtain ⟨ρ', e, q⟩ := post_ofO (post_bind h)
  exact ht d ρ ρ' _ e q) fun x h => h)
/-! loops -/
@[simp] def xfor (tg : XTg) (xs : XS) : List D → List En → Rs Fl
  | [], ρ => .ok (.nx ρ)
  | d :: r, ρ => (ofO (tg d ρ)).bind fun ρ' => (xs ρ').bind fun f => match f with
    | .nx ρ2 => xfor tg xs r ρ2
    | .ct ρ2 => xfor tg xs r ρ2
    | .bk ρ2 => .ok (.nx ρ2)
    | .rt d => .ok (.rt d)
    | .xx x ρ2 => .ok (.xx x ρ2)
theorem for_go (ht : RfTg xtg wtg) (hs : RfS R xs ws) (c : Nat) : ∀ (ds : List D) (dd : Dd) (ρ : List En), (xfor xtg xs ds ρ).post (fun f => f.go R dd c) (fun _ => False) → forGo wtg ws ds dd ρ c
  | [], dd, ρ, h => h
  | d :: r, dd, ρ, h => by
    obtain ⟨ρ', e, h⟩ := post_ofO (post_bind h)
    refine ht d ρ ρ' _ e (hs _ ρ' c (post_bm h fun f h => ?_))
    cases f with
    | nx ρ2 => exact for_go ht hs c r dd ρ2 h
    | ct ρ2 => exact for_go ht hs c r dd ρ2 h
    | bk ρ2 => exact h
    | rt d => exact h
    | xx x ρ2 => exact h
@[simp] def xFor (xi : XA) (tg : XTg) (xs : XS) : XS := fun ρ => lift (xi ρ) ρ fun ds => xfor tg xs ds ρ
theorem k_for (hi : RfA R xi wi) (ht : RfTg xtg wtg) (hs : RfS R xs ws) : RfS R (xFor xi xtg xs) (wFor wi wtg ws) := fun dd ρ c h => hi ρ c _ (post_lift h (fun ds h => for_go ht hs c ds dd ρ h) fun x h => h)
def xwh (xt : XT) (xs : XS) : Nat → List En → Rs Fl
  | 0, _ => .bad
  | n + 1, ρ => lift (xt ρ) ρ fun b => if b = true then (xs ρ).bind fun f => match f with
    | .nx ρ2 => xwh xt xs n ρ2
    | .ct ρ2 => xwh xt xs n ρ2
    | .bk ρ2 => .ok (.nx ρ2)
    | .rt d => .ok (.rt d)
    | .xx x ρ2 => .ok (.xx x ρ2)
    else .ok (.nx ρ)
def xWhile (xt : XT) (xs : XS) : XS := fun ρ => xwh xt xs 1000000000 ρ
theorem k_while (ht : RfT R xt wt) (hs : RfS R xs ws) : RfS R (xWhile xt xs) (wWhile wt ws) := fun dd ρ0 c0 h => by
  refine ⟨fun n ρ c => c = c0 ∧ (xwh xt xs n ρ).post (fun f => f.go R dd c0) (fun _ => False), ⟨_, rfl, h⟩, ?_⟩
  rintro n ρ c ⟨rfl, h⟩
  cases n with
  | zero => exact h.elim
  | succ n =>
    refine ht ρ c _ (post_lift h (fun b h => ?_) fun x h => h)
    cases b with
    | true =>
      refine iteT (hs _ ρ c (post_bm h fun f h => ?_))
      cases f with
      | nx ρ2 => exact ⟨n, Nat.lt_succ_self n, rfl, h⟩
      | ct ρ2 => exact ⟨n, Nat.lt_succ_self n, rfl, h⟩
      | bk ρ2 => exact h
      | rt d => exact h
      | xx x ρ2 => exact h
    | false => exact h
/-! own objects -/
variable {xn : XN} {wn : WN} {xA : XA} {wA : WA} {xl xh : XO} {wl wh : WO}
@[simp] def xOwn (i : Nat) (xn : XN) : XS := fun ρ => lift (xn ρ) ρ fun en => .ok (.nx (ρ.set i en))
theorem k_own {i : Nat} (hn : RfN R xn wn) : RfS R (xOwn i xn) (wOwn i wn) := fun dd ρ c h => hn ρ c _ (post_lift h (fun en h => h) fun x h => h)
@[simp] def xParN (i j : Nat) (xa : XE) (xn : XN) : XS := fun ρ => lift (xa ρ) ρ fun d => lift (xn ρ) ρ fun en => .ok (.nx ((ρ.set i (.im d)).set j en))
theorem k_parN {i j : Nat} (ha : RfE R xa wa) (hn : RfN R xn wn) : RfS R (xParN i j xa xn) (wParN i j wa wn) := fun dd ρ c h => ha ρ c _ (post_lift h (fun d h => hn ρ c _ (post_lift h (fun en h => h) fun x h => h)) fun x h => h)
@[simp] def xPar (i j : Nat) (xa xb : XE) : XS := fun ρ => lift (xa ρ) ρ fun d => lift (xb ρ) ρ fun d2 => .ok (.nx ((ρ.set i (.im d)).set j (.im d2)))
theorem k_par {i j : Nat} (ha : RfE R xa wa) (hb : RfE R xb wb) : RfS R (xPar i j xa xb) (wPar i j wa wb) := fun dd ρ c h => ha ρ c _ (post_lift h (fun d h => hb ρ c _ (post_lift h (fun d2 h => h) fun x h => h)) fun x h => h)
@[simp] def xnLst (xA : XA) : XN := fun ρ => (xA ρ).bind fun ds => guard (ds.length ≤ LIM) (.ok (.ls ds))
theorem k_nlst (hA : RfA R xA wA) : RfN R (xnLst xA) (nLst wA) := fun ρ c Q h => hA ρ c _ (post_bm h fun ds h => post_guard h)
@[simp] def xnList (xa : XE) : XN := fun ρ => (xa ρ).bind fun d => (ofO (itD d)).bind fun ds => .ok (.ls ds)
theorem k_nlist (ha : RfE R xa wa) : RfN R (xnList xa) (nList wa) := fun ρ c Q h => ha ρ c _ (post_bm h fun d h => by
  obtain ⟨ds, e, q⟩ := post_ofO (post_bind h)
  exact ⟨ds, e, q⟩)
@[simp] def xnDc0 : XN := fun _ => .ok (.dc [])
theorem k_ndc0 : RfN R xnDc0 nDc := fun _ _ _ h => h
@[simp] def xnDl0 : XN := fun _ => .ok (.dl [])
theorem k_ndl0 : RfN R xnDl0 nDl := fun _ _ _ h => h
@[simp] def xnSl (xa : XE) (xl xh : XO) : XN := fun ρ => (xa ρ).bind fun x => (xl ρ).bind fun l => (xh ρ).bind fun u => (ofO (listD x)).bind fun xs => .ok (.ls (cutL xs l u))
theorem k_nsl (ha : RfE R xa wa) (hl : RfO R xl wl) (hh : RfO R xh wh) : RfN R (xnSl xa xl xh) (nSl wa wl wh) := fun ρ c Q h => ha ρ c _ (post_bm h fun x h => hl ρ c _ (post_bm h fun l h => hh ρ c _ (post_bm h fun u h => by
  obtain ⟨xs, e, q⟩ := post_ofO (post_bind h)
  exact ⟨xs, listD_some e, q⟩)))
@[simp] def xApp (i : Nat) (xa : XE) : XS := fun ρ => (ofO (ρ[i]?.bind lsE)).bind fun ds => lift (xa ρ) ρ fun d => guard (ds.length < LIM) (.ok (.nx (ρ.set i (.ls (ds ++ [d])))))
theorem k_app {i : Nat} (ha : RfE R xa wa) : RfS R (xApp i xa) (fun dd ρ c => (∃ ds, ρ[i]? = some (.ls ds)) ∧ wApp i wa dd ρ c) := fun dd ρ c h => by
  obtain ⟨ds, e, h⟩ := post_ofO (post_bind h)
  refine ⟨⟨ds, lsE_some e⟩, ha ρ c _ (post_lift h (fun d h => ?_) fun x h => h)⟩
  obtain ⟨g, q⟩ := post_guard h
  exact ⟨ds, lsE_some e, g, q⟩
@[simp] def xSetIx (i : Nat) (xa xb : XE) : XS := fun ρ => lift (xa ρ) ρ fun d => (ofO (ρ[i]?.bind lsE)).bind fun ds => lift (xb ρ) ρ fun y => (ofO (iD y)).bind fun z => (ofO (ixN ds.length z)).bind fun j => .ok (.nx (ρ.set i (.ls (ds.set j d))))
theorem k_setIx {i : Nat} (ha : RfE R xa wa) (hb : RfE R xb wb) : RfS R (xSetIx i xa xb) (wSetIx i wa wb) := fun dd ρ c h => ha ρ c _ (post_lift h (fun d h => by
  obtain ⟨ds, e, h⟩ := post_ofO (post_bind h)
  refine ⟨⟨ds, lsE_some e⟩, hb ρ c _ (post_lift h (fun y h => ?_) fun x h => h)⟩
  obtain ⟨z, e2, h⟩ := post_ofO (post_bind h)
  obtain ⟨j, e3, q⟩ := post_ofO (post_bind h)
  exact ⟨ds, z, j, lsE_some e, iD_some e2, e3, q⟩) fun x h => h)
@[simp] def xDput (i : Nat) (xa xb : XE) : XS := fun ρ => lift (xa ρ) ρ fun d => (ofO (ρ[i]?.bind dcE)).bind fun kvs => lift (xb ρ) ρ fun y => (ofO (keyOf y)).bind fun k => guard (kvs.length < LIM) (.ok (.nx (ρ.set i (.dc (putD' kvs k d)))))
theorem k_dput {i : Nat} (ha : RfE R xa wa) (hb : RfE R xb wb) : RfS R (xDput i xa xb) (wDput i wa wb) := fun dd ρ c h => ha ρ c _ (post_lift h (fun d h => by
  obtain ⟨ds, e, h⟩ := post_ofO (post_bind h)
  refine ⟨⟨ds, dcE_some e⟩, hb ρ c _ (post_lift h (fun y h => ?_) fun x h => h)⟩
  obtain ⟨k, e2, h⟩ := post_ofO (post_bind h)
  obtain ⟨g, q⟩ := post_guard h
  exact ⟨ds, k, dcE_some e, e2, g, q⟩) fun x h => h)
@[simp] def xSdApp (i : Nat) (xb xa : XE) : XS := fun ρ => (ofO (ρ[i]?.bind dlE)).bind fun ds => lift (xb ρ) ρ fun y => (ofO (keyOf y)).bind fun k => guard (ds.length < LIM) (lift (xa (ρ.set i (.dl (insL ds k)))) ρ fun d =>
  guard ((lookK (insL ds k) k).all (fun l => decide (l.length < LIM)) = true) (.ok (.nx (ρ.set i (.dl (appL (insL ds k) k d))))))
theorem k_sdApp {i : Nat} (hb : RfE R xb wb) (ha : RfE (noR) xa wa) : RfS R (xSdApp i xb (fun ρ => (xa ρ).calm)) (wSdApp i wb wa) := fun dd ρ c h => by
  obtain ⟨ds, e, h⟩ := post_ofO (post_bind h)
  refine ⟨⟨ds, dlE_some e⟩, hb ρ c _ (post_lift h (fun y h => ?_) fun x h => h)⟩
  obtain ⟨k, e2, h⟩ := post_ofO (post_bind h)
  obtain ⟨g, h⟩ := post_guard h
  refine ⟨ds, k, dlE_some e, e2, g, ha _ c _ (post_calm (post_lift h (fun d h => ?_) fun x h => h))⟩
  obtain ⟨g2, q⟩ := post_guard h
  refine ⟨fun l el => ?_, q⟩
  rw [el] at g2
  exact of_decide_eq_true g2
def lastD (ds : List D) : Option (List D × D) := match ds.reverse with
  | [] => none
  | d :: r => some (r.reverse, d)
theorem lastD_some {ds r : List D} {d : D} (h : lastD ds = some (r, d)) : ds = r ++ [d] := by
  unfold lastD at h
  split at h
  · cases h
  · rename_i d' r' e
    cases h
    rw [← List.reverse_reverse ds, e, List.reverse_cons]
@[simp] def xPop (i k : Nat) : XS := fun ρ => guard (i ≠ k) ((ofO ((ρ[i]?.bind lsE).bind lastD)).bind fun p => .ok (.nx ((ρ.set i (.ls p.1)).set k (.im p.2))))
theorem k_pop {i k : Nat} : RfS R (xPop i k) (wPop i k) := fun dd ρ c h => by
  obtain ⟨g, h⟩ := post_guard h
  obtain ⟨⟨r, d⟩, e, q⟩ := post_ofO (post_bind h)
  cases el : ρ[i]?.bind lsE with
  | none => rw [el] at e; cases e
  | some ds =>
    rw [el] at e
    refine ⟨g, r, d, ?_, q⟩
    rw [lsE_some el, lastD_some (show lastD ds = some (r, d) from e)]
def imI : En → Option Int
  | .im (.int i) => some i
  | _ => none
theorem imI_some {o : Option En} {i : Int} (h : o.bind imI = some i) : o = some (.im (.int i)) := by
  cases o with
  | none => cases h
  | some e =>
    cases e with
    | im d => cases d <;> simp only [Option.bind_some, imI, reduceCtorEq, Option.some.injEq] at h; rw [h]
    | _ => simp only [Option.bind_some, imI, reduceCtorEq] at h
@[simp] def xAug (g : Int → Int → Int) (i : Nat) (xa : XE) : XS := fun ρ => (ofO (ρ[i]?.bind imI)).bind fun a => lift (xa ρ) ρ fun d => (ofO (iD d)).bind fun b => .ok (.nx (ρ.set i (.im (.int (g a b)))))
theorem k_aug {g : Int → Int → Int} {i : Nat} (ha : RfE R xa wa) : RfS R (xAug g i xa) (wAug g i wa) := fun dd ρ c h => by
  obtain ⟨a, e, h⟩ := post_ofO (post_bind h)
  refine ⟨a, imI_some e, ha ρ c _ (post_lift h (fun d h => ?_) fun x h => h)⟩
  obtain ⟨b, e2, q⟩ := post_ofO (post_bind h)
  exact ⟨b, iD_some e2, q⟩
/-! errors -/
@[simp] def xRaise (n : Str) (g : Option Str) (xa : XE) : XS := fun ρ => lift (xa ρ) ρ fun d => .ok (.xx ⟨n, match g with | some f => [(f, d)] | none => []⟩ ρ)
theorem k_raise {n : Str} {g : Option Str} (ha : RfE R xa wa) : RfS R (xRaise n g xa) (wRaise n g wa R) := fun dd ρ c h => ha ρ c _ (post_lift h (fun d h => h) fun x h => h)
@[simp] def xXf (g : Str) (x : Xd) (i j : Nat) : XS := fun ρ => guard (i < ρ.length) ((ofO (x.fs.lookup g)).bind fun d => .ok (.nx (ρ.set j (.im d))))
theorem k_xf {g : Str} {x : Xd} {i j : Nat} : RfS R (xXf g x i j) (wXf g x i j) := fun dd ρ c h => by
  obtain ⟨g, h⟩ := post_guard h
  obtain ⟨d, e, q⟩ := post_ofO (post_bind h)
  exact ⟨g, d, e, q⟩
abbrev XCl := Str × Option Nat × (Xd → XS)
inductive ClRf : List XCl → List WCl → Prop
  | nil : ClRf [] []
  | cons {n : Str} {i : Option Nat} {xs : Xd → XS} {ws : Xd → WS} {a : List XCl} {b : List WCl} (h : ∀ x, RfS noR (xs x) (ws x)) (r : ClRf a b) : ClRf ((n, i, xs) :: a) ((n, i, ws) :: b)
def goneF : Option Nat → Fl → Rs Fl
  | none, .xx _ _ => .bad
  | none, f => .ok f
  | some i, .nx ρ => .ok (.nx (ρ.set i .un))
  | some i, .bk ρ => .ok (.bk (ρ.set i .un))
  | some i, .ct ρ => .ok (.ct (ρ.set i .un))
  | some _, .rt d => .ok (.rt d)
  | some _, .xx _ _ => .bad
@[simp] def xHd (x : Xd) (ρ : List En) : List XCl → Rs Fl
  | [] => .ok (.xx x ρ)
  | (n, i, xs) :: r => if x.C = n then (xs x (heldE ρ i)).bind (goneF i) else xHd x ρ r
theorem hd_go {x : Xd} {dd : Dd} {ρ : List En} {c : Nat} : ∀ {a : List XCl} {b : List WCl}, ClRf a b → (xHd x ρ a).post (fun f => f.go R dd c) (fun _ => False) → wHd x dd ρ c (R x ρ c) b
  | _, _, .nil, h => h
  | _, _, .cons (n := n) (i := i) hs r, h => by
    show if x.C = n then _ else _
    by_cases e : x.C = n
    · rw [if_pos e]
      have h' : (if x.C = n then (_ : Rs Fl) else _).post (fun f => f.go R dd c) (fun _ => False) := h
      rw [if_pos e] at h'
      refine hs x _ _ c (post_bm h' fun f h => ?_)
      cases i with
      | none => cases f <;> exact h
      | some i => cases f <;> exact h
    · rw [if_neg e]
      have h' : (if x.C = n then (_ : Rs Fl) else _).post (fun f => f.go R dd c) (fun _ => False) := h
      rw [if_neg e] at h'
      exact hd_go r h'
@[simp] def xTry (ns : List Str) (xb : XS) (cl : List XCl) : XS := fun ρ => guard (ρ.all (fun e => !e.mut) = true) ((xb ρ).bind fun f => match f with
  | .xx x ρ' => guard (x.C ∈ ns) (xHd x ρ' cl)
  | f => .ok f)
theorem k_try {ns : List Str} {wb : RR → WS} {a : List XCl} {b : List WCl} (hb : ∀ R', RfS R' xs (wb R')) (hc : ClRf a b) : RfS R (xTry ns xs a) (wTry ns wb b R) := fun dd ρ c h => by
  obtain ⟨g, h⟩ := post_guard h
  refine ⟨fun e he => by simpa using List.all_eq_true.mp g e he, hb _ dd ρ c (post_bm h fun f h => ?_)⟩
  cases f with
  | xx x ρ' =>
    obtain ⟨hx, h⟩ := post_guard h
    exact ⟨hx, hd_go hc h⟩
  | nx ρ' => exact h
  | rt d => exact h
  | bk ρ' => exact h
  | ct ρ' => exact h
end
/-! defs -/
def endF : Fl → Rs D
  | .nx _ => .ok .none
  | .rt d => .ok d
  | .xx x _ => .ex x
  | _ => .bad
@[simp] def xDef (n : Nat) (N : List Str) (xs : XS) : XFn := fun es => guard (es.length = n) ((xs (startE N es)).calm.bind endF)
theorem k_def {n : Nat} {N : List Str} {xs : XS} {ws : WS} (h : RfS noR xs ws) : RfF (xDef n N xs) (fun es c Q => es.length = n ∧ wDef N ws es c Q) := fun es c Q q => by
  obtain ⟨g, q⟩ := post_guard q
  refine ⟨g, h _ _ c (post_calm (post_bm q fun f q => ?_))⟩
  cases f <;> exact q
theorem k_defX {n : Nat} {N : List Str} {xs : XS} {ws : XR → WS} (h : ∀ R : XR, RfS (fun x _ c => R x c) xs (ws R)) : RfX (xDef n N xs) (fun R es c Q => es.length = n ∧ wDef N (ws R) es c Q) := fun es c Q R q => by
  obtain ⟨g, q⟩ := post_guard q
  refine ⟨g, h R _ _ c (post_calm (post_bm q fun f q => ?_))⟩
  cases f <;> exact q
end HW
namespace HW
open PySem L2 Rs
section
variable {R : RR} {xa xb : XE} {wa wb : WE}
@[simp] def xJs : List XE → Str → List En → Rs D
  | [], acc, _ => .ok (.str acc)
  | xa :: r, acc, ρ => (xa ρ).bind fun d => (ofO (strD d)).bind fun y => Rs.guard ((acc ++ y).length ≤ LIM) (xJs r (acc ++ y) ρ)
@[simp] def xJoin (xs : List XE) : XE := fun ρ => xJs xs Str.empty ρ
inductive JsRf (R : RR) : List XE → List WE → Prop
  | nil : JsRf R [] []
  | cons {xa : XE} {wa : WE} {xs : List XE} {ws : List WE} (h : RfE R xa wa) (r : JsRf R xs ws) : JsRf R (xa :: xs) (wa :: ws)
theorem js_go (ρ : List En) (c : Nat) (Q : D → Nat → Prop) : ∀ {xs : List XE} {ws : List WE}, JsRf R xs ws → ∀ acc, (xJs xs acc ρ).post (fun d => Q d c) (fun e => R e ρ c) → wJs ws acc ρ c Q
  | _, _, .nil, acc, h => h
  | _, _, .cons ha r, acc, h => ha ρ c _ (post_bm h fun d h => by
    obtain ⟨y, e, h⟩ := post_ofO (post_bind h)
    obtain ⟨g, h⟩ := post_guard h
    exact ⟨y, strD_some e, g, js_go ρ c Q r _ h⟩)
theorem k_join {xs : List XE} {ws : List WE} (h : JsRf R xs ws) : RfE R (xJoin xs) (wJoin ws) := fun ρ c Q q => js_go ρ c Q h _ q
@[simp] def xSdAppC (i : Nat) (xb xa : XE) : XS := xSdApp i xb (fun ρ => (xa ρ).calm)
end
end HW

namespace HW
open PySem L2 Rs
section
variable {R : RR} {xa xb : XE} {wa wb : WE} {xA : XA} {wA : WA} {xl xh : XO} {wl wh : WO}
@[simp] def xRepL (xA : XA) (xb : XE) : XE := fun ρ => (xA ρ).bind fun ds => Rs.guard (ds.length ≤ LIM) ((xb ρ).bind fun d => (ofO (iD d)).bind fun n => Rs.guard (-(2 ^ 62) ≤ n ∧ n ≤ 2 ^ 62 ∧ ds.length * n.toNat ≤ LIM) (.ok (.list (List.replicate n.toNat ds).flatten)))
theorem k_repL (hA : RfA R xA wA) (hb : RfE R xb wb) : RfE R (xRepL xA xb) (wRepL wA wb) := fun ρ c Q h => hA ρ c _ (post_bm h fun ds h => by
  obtain ⟨g, h⟩ := post_guard h
  refine ⟨g, hb ρ c _ (post_bm h fun d h => ?_)⟩
  obtain ⟨n, e, h⟩ := post_ofO (post_bind h)
  obtain ⟨⟨g1, g2, g3⟩, q⟩ := post_guard h
  exact ⟨n, iD_some e, g1, g2, g3, q⟩)
@[simp] def xSlT (xa : XE) (xl xh : XO) : XE := fun ρ => (xa ρ).bind fun x => (xl ρ).bind fun l => (xh ρ).bind fun u => (ofO (tupleD x)).bind fun xs => .ok (.tuple (cutL xs l u))
theorem k_slT (ha : RfE R xa wa) (hl : RfO R xl wl) (hh : RfO R xh wh) : RfE R (xSlT xa xl xh) (wSlT wa wl wh) := fun ρ c Q h => ha ρ c _ (post_bm h fun x h => hl ρ c _ (post_bm h fun l h => hh ρ c _ (post_bm h fun u h => by
  obtain ⟨xs, e, q⟩ := post_ofO (post_bind h)
  exact ⟨xs, tupleD_some e, q⟩)))
end
end HW

/-! X3: what simp may do with functions that run words -/
namespace HW
open PySem L2
namespace Rs
variable {α β : Type}
@[simp] theorem bind_ok {a : α} {f : α → Rs β} : (Rs.ok a).bind f = f a := rfl
@[simp] theorem bind_bad {f : α → Rs β} : (Rs.bad : Rs α).bind f = .bad := rfl
@[simp] theorem bind_ex {x : Xd} {f : α → Rs β} : (Rs.ex x : Rs α).bind f = .ex x := rfl
@[simp] theorem calm_ok {a : α} : (Rs.ok a).calm = .ok a := rfl
@[simp] theorem calm_bad : (Rs.bad : Rs α).calm = .bad := rfl
@[simp] theorem calm_ex {x : Xd} : (Rs.ex x : Rs α).calm = .bad := rfl
@[simp] theorem ofO_some {a : α} : ofO (some a) = .ok a := rfl
@[simp] theorem ofO_none : ofO (none : Option α) = .bad := rfl
@[simp] theorem guard_if {c : Prop} [Decidable c] {r : Rs α} : Rs.guard c r = if c then r else .bad := rfl
@[simp] theorem lift_ok {a : α} {ρ : List En} {f : α → Rs Fl} : lift (Rs.ok a) ρ f = f a := rfl
@[simp] theorem lift_bad {ρ : List En} {f : α → Rs Fl} : lift (Rs.bad : Rs α) ρ f = .bad := rfl
@[simp] theorem lift_ex {x : Xd} {ρ : List En} {f : α → Rs Fl} : lift (Rs.ex x : Rs α) ρ f = .ok (.xx x ρ) := rfl
end Rs
@[simp] theorem endF_nx {ρ : List En} : endF (.nx ρ) = .ok .none := rfl
@[simp] theorem endF_rt {d : D} : endF (.rt d) = .ok d := rfl
@[simp] theorem endF_xx {x : Xd} {ρ : List En} : endF (.xx x ρ) = .ex x := rfl
@[simp] theorem goneF_nx {ρ : List En} : goneF none (.nx ρ) = .ok (.nx ρ) := rfl
@[simp] theorem goneF_rt {d : D} : goneF none (.rt d) = .ok (.rt d) := rfl
@[simp] theorem goneF_nx1 {i : Nat} {ρ : List En} : goneF (some i) (.nx ρ) = .ok (.nx (ρ.set i .un)) := rfl
@[simp] theorem goneF_rt1 {i : Nat} {d : D} : goneF (some i) (.rt d) = .ok (.rt d) := rfl
@[simp] theorem bl_b {b : Bool} : bl (.bool b) = some b := rfl
@[simp] theorem iD_i {i : Int} : iD (.int i) = some i := rfl
@[simp] theorem dicD_d {k : List (D × D)} : dicD (.dict k) = some k := rfl
@[simp] theorem listD_l {k : List D} : listD (.list k) = some k := rfl
@[simp] theorem tupleD_t {k : List D} : tupleD (.tuple k) = some k := rfl
@[simp] theorem strD_s {k : Str} : strD (.str k) = some k := rfl
@[simp] theorem isStr_s {k : Str} : isStr (.str k) = true := rfl
@[simp] theorem lsE_l {k : List D} : lsE (.ls k) = some k := rfl
@[simp] theorem dcE_d {k : List (D × D)} : dcE (.dc k) = some k := rfl
@[simp] theorem dlE_d {k : List (D × List D)} : dlE (.dl k) = some k := rfl
@[simp] theorem imI_i {i : Int} : imI (.im (.int i)) = some i := rfl
@[simp] theorem gTx_nil {ρ : List En} : gTx [] [] ρ = some ρ := rfl
@[simp] theorem gTx_cons {i : Nat} {is : List Nat} {d : D} {ds : List D} {ρ : List En} : gTx (i :: is) (d :: ds) ρ = gTx is ds (ρ.set i (.im d)) := rfl
@[simp] theorem start_e (N : List Str) (es : List En) : startE N es = es ++ List.replicate (N.length - es.length) .un := rfl
@[simp] theorem look_im (d : D) : En.look (.im d) = some d := rfl
@[simp] theorem look_ls (d : List D) : En.look (.ls d) = some (.list d) := rfl
@[simp] theorem look_dc (d : List (D × D)) : En.look (.dc d) = some (.dict d) := rfl
@[simp] theorem mut_im (d : D) : En.mut (.im d) = false := rfl
@[simp] theorem mut_un : En.mut .un = false := rfl
@[simp] theorem mut_st : En.mut .st = false := rfl
@[simp] theorem heldE_n (ρ : List En) : heldE ρ none = ρ := rfl
@[simp] theorem heldE_s (ρ : List En) (i : Nat) : heldE ρ (some i) = ρ.set i .un := rfl
@[simp] theorem eqD_ii (i j : Int) : eqD (.int i) (.int j) = some (.bool (i == j)) := eq_intD i j
end HW

/-! X4: runs of what HW28 brings -/
namespace HW
open PySem L2 Rs
section
variable {R : RR} {xa xb xc : XE} {wa wb wc : WE} {xs : XS} {ws : WS}
@[simp] def xOp3 (f : D → D → D → Option D) (xa xb xc : XE) : XE := fun ρ => (xa ρ).bind fun x => (xb ρ).bind fun y => (xc ρ).bind fun z => ofO (f x y z)
theorem k_op3 {f : D → D → D → Option D} (ha : RfE R xa wa) (hb : RfE R xb wb) (hc : RfE R xc wc) : RfE R (xOp3 f xa xb xc) (wOp3 f wa wb wc) := fun ρ c Q h => ha ρ c _ (post_bm h fun x h => hb ρ c _ (post_bm h fun y h => hc ρ c _ (post_bm h fun z h => post_ofO h)))
@[simp] def xSeal (i : Nat) (xs : XS) : XS := fun ρ => (ofO (ρ[i]?.bind lsE)).bind fun ds => xs (ρ.set i (.im (.list ds)))
theorem k_seal {i : Nat} (hs : RfS R xs ws) : RfS R (xSeal i xs) (wSeal i ws) := fun dd ρ c h => by
  obtain ⟨ds, e, h⟩ := post_ofO (post_bind h)
  exact ⟨ds, lsE_some e, hs dd _ c h⟩
@[simp] def gTxG : List XTg → List D → List En → Option (List En)
  | [], [], ρ => some ρ
  | t :: ts, d :: ds, ρ => (t d ρ).bind fun ρ' => gTxG ts ds ρ'
  | _, _, _ => none
inductive TgRf : List XTg → List WGt → Prop
  | nil : TgRf [] []
  | cons {x : XTg} {w : WGt} {xs : List XTg} {ws : List WGt} : RfTg x w → TgRf xs ws → TgRf (x :: xs) (w :: ws)
theorem TgRf.go {xs : List XTg} {ws : List WGt} (h : TgRf xs ws) : ∀ {ds : List D} {ρ ρ' : List En} {Q : List En → Prop}, gTxG xs ds ρ = some ρ' → Q ρ' → ds.length = ws.length ∧ gTsG ws ds ρ Q := by
  induction h with
  | nil =>
    intro ds ρ ρ' Q e q
    cases ds with
    | nil => cases e; exact ⟨rfl, q⟩
    | cons _ _ => cases e
  | @cons x w xs ws h1 h2 ih =>
    intro ds ρ ρ' Q e q
    cases ds with
    | nil => cases e
    | cons d ds =>
      obtain ⟨ρ1, e1, e2⟩ := Option.bind_eq_some_iff.mp e
      obtain ⟨hl, _⟩ := ih e2 q
      exact ⟨congrArg (· + 1) hl, h1 d ρ ρ1 _ e1 (ih e2 q).2⟩
@[simp] def xgTG (xs : List XTg) : XTg := fun d ρ => (tupleD d).bind fun ds => gTxG xs ds ρ
theorem k_gTG {xs : List XTg} {ws : List WGt} (h : TgRf xs ws) : RfTg (xgTG xs) (gTG ws) := fun d ρ ρ' Q e q => by
  cases ed : tupleD d with
  | none => rw [xgTG, ed] at e; cases e
  | some ds =>
    rw [xgTG, ed] at e
    obtain ⟨hl, hq⟩ := h.go e q
    exact ⟨ds, tupleD_some ed, hl, hq⟩
end
end HW

/-! X5: zip, run -/
namespace HW
open PySem L2 Rs
section
variable {R : RR} {xa xb : XE} {wa wb : WE}
def zipO : D → D → Option (List D)
  | .list xs, .list ys => some (zipD xs ys)
  | .tuple xs, .tuple ys => some (zipD xs ys)
  | _, _ => none
@[simp] def xZip (xa xb : XE) : XA := fun ρ => (xa ρ).bind fun d => (xb ρ).bind fun d2 => ofO (zipO d d2)
theorem k_zip (ha : RfE R xa wa) (hb : RfE R xb wb) : RfA R (xZip xa xb) (wZip wa wb) := fun ρ c Q h => ha ρ c _ (post_bm h fun d h => hb ρ c _ (post_bm h fun d2 h => by
  obtain ⟨z, e, q⟩ := post_ofO h
  unfold zipO at e
  split at e
  · cases e; exact ⟨_, _, .inl ⟨rfl, rfl⟩, q⟩
  · cases e; exact ⟨_, _, .inr ⟨rfl, rfl⟩, q⟩
  · cases e))
end
end HW

/-! X6: find, x *= e, run -/
namespace HW
open PySem L2 Rs
section
variable {R : RR} {xa xb xc : XE} {wa wb wc : WE} {xn xm : XN} {wn wm : WN}
@[simp] def xFind (xa xb xc : XE) : XE := fun ρ => (xa ρ).bind fun x => (ofO (strD x)).bind fun s => (xb ρ).bind fun y => (xc ρ).bind fun z => (ofO (strD y)).bind fun t => (ofO (iD z)).bind fun i => .ok (.int (Txt.find3 s t i))
theorem k_find (ha : RfE R xa wa) (hb : RfE R xb wb) (hc : RfE R xc wc) : RfE R (xFind xa xb xc) (wFind wa wb wc) := fun ρ c Q h => ha ρ c _ (post_bm h fun x h => by
  obtain ⟨s, e, h⟩ := post_ofO (post_bind h)
  refine ⟨⟨s, strD_some e⟩, hb ρ c _ (post_bm h fun y h => hc ρ c _ (post_bm h fun z h => ?_))⟩
  obtain ⟨t, e2, h⟩ := post_ofO (post_bind h)
  obtain ⟨i, e3, q⟩ := post_ofO (post_bind h)
  exact ⟨s, t, i, strD_some e, strD_some e2, iD_some e3, q⟩)
@[simp] def xMulA (i : Nat) (xa : XE) : XS := fun ρ => (ofO (ρ[i]?.bind imI)).bind fun a => lift (xa ρ) ρ fun d => (ofO (iD d)).bind fun b => Rs.guard (-(2 ^ 64) < b ∧ b < 2 ^ 64) (.ok (.nx (ρ.set i (.im (.int (a * b))))))
theorem k_mulA {i : Nat} (ha : RfE R xa wa) : RfS R (xMulA i xa) (wMulA i wa) := fun dd ρ c h => by
  obtain ⟨a, e, h⟩ := post_ofO (post_bind h)
  refine ⟨a, imI_some e, ha ρ c _ (post_lift h (fun d h => ?_) fun x h => h)⟩
  obtain ⟨b, e2, h⟩ := post_ofO (post_bind h)
  obtain ⟨g, q⟩ := post_guard h
  exact ⟨b, iD_some e2, g, q⟩
@[simp] def xPar3 (i j l : Nat) (xa xb xc : XE) : XS := fun ρ => lift (xa ρ) ρ fun d => lift (xb ρ) ρ fun d2 => lift (xc ρ) ρ fun d3 => .ok (.nx (((ρ.set i (.im d)).set j (.im d2)).set l (.im d3)))
theorem k_par3 {i j l : Nat} (ha : RfE R xa wa) (hb : RfE R xb wb) (hc : RfE R xc wc) : RfS R (xPar3 i j l xa xb xc) (wPar3 i j l wa wb wc) := fun dd ρ c h => ha ρ c _ (post_lift h (fun d h => hb ρ c _ (post_lift h (fun d2 h => hc ρ c _ (post_lift h (fun d3 h => h) fun x h => h)) fun x h => h)) fun x h => h)
@[simp] def xParF (i j : Nat) (xn : XN) (xa : XE) : XS := fun ρ => lift (xn ρ) ρ fun en => lift (xa ρ) ρ fun d => .ok (.nx ((ρ.set i en).set j (.im d)))
theorem k_parF {i j : Nat} (hn : RfN R xn wn) (ha : RfE R xa wa) : RfS R (xParF i j xn xa) (wParF i j wn wa) := fun dd ρ c h => hn ρ c _ (post_lift h (fun en h => ha ρ c _ (post_lift h (fun d h => h) fun x h => h)) fun x h => h)
@[simp] def xParNN (i j : Nat) (xn xm : XN) : XS := fun ρ => lift (xn ρ) ρ fun en => lift (xm ρ) ρ fun em => .ok (.nx ((ρ.set i en).set j em))
theorem k_parNN {i j : Nat} (hn : RfN R xn wn) (hm : RfN R xm wm) : RfS R (xParNN i j xn xm) (wParNN i j wn wm) := fun dd ρ c h => hn ρ c _ (post_lift h (fun en h => hm ρ c _ (post_lift h (fun em h => h) fun x h => h)) fun x h => h)
end
end HW

/-! X7: runs of HW37 to HW39 -/
namespace HW
open PySem L2 Rs
section
variable {R : RR} {xa xb xc : XE} {wa wb wc : WE} {xA : XA} {wA : WA}
@[simp] def xLR (xa : XE) : XE := fun ρ => (xa ρ).bind fun d => (ofO (iD d)).bind fun n => Rs.guard (0 ≤ n ∧ n ≤ 16777216) (.ok (.list (rngD 0 n.toNat)))
theorem k_LR (ha : RfE R xa wa) : RfE R (xLR xa) (wLR wa) := fun ρ c Q h => ha ρ c _ (post_bm h fun d h => by
  obtain ⟨n, e, h⟩ := post_ofO (post_bind h)
  obtain ⟨⟨g1, g2⟩, q⟩ := post_guard h
  exact ⟨n, iD_some e, g1, g2, q⟩)
@[simp] def xRevL (xa : XE) : XE := fun ρ => (xa ρ).bind fun d => (ofO (listD d)).bind fun ds => .ok (.list ds.reverse)
theorem k_revL (ha : RfE R xa wa) : RfE R (xRevL xa) (wRevL wa) := fun ρ c Q h => ha ρ c _ (post_bm h fun d h => by
  obtain ⟨ds, e, q⟩ := post_ofO (post_bind h)
  exact ⟨ds, listD_some e, q⟩)
@[simp] def xnRepL (xA : XA) (xb : XE) : XN := fun ρ => (xA ρ).bind fun ds => Rs.guard (ds.length ≤ LIM) ((xb ρ).bind fun d => (ofO (iD d)).bind fun n => Rs.guard (-(2 ^ 62) ≤ n ∧ n ≤ 2 ^ 62 ∧ ds.length * n.toNat ≤ LIM) (.ok (.ls (List.replicate n.toNat ds).flatten)))
theorem k_nrepL (hA : RfA R xA wA) (hb : RfE R xb wb) : RfN R (xnRepL xA xb) (nRepL wA wb) := fun ρ c Q h => hA ρ c _ (post_bm h fun ds h => by
  obtain ⟨g, h⟩ := post_guard h
  refine ⟨g, hb ρ c _ (post_bm h fun d h => ?_)⟩
  obtain ⟨n, e, h⟩ := post_ofO (post_bind h)
  obtain ⟨⟨g1, g2, g3⟩, q⟩ := post_guard h
  exact ⟨n, iD_some e, g1, g2, g3, q⟩)
@[simp] def xnCat (xa xb : XE) : XN := fun ρ => (xa ρ).bind fun x => (xb ρ).bind fun y => (ofO (listD x)).bind fun xs => (ofO (listD y)).bind fun ys => Rs.guard (xs.length + ys.length ≤ LIM) (.ok (.ls (xs ++ ys)))
theorem k_ncat (ha : RfE R xa wa) (hb : RfE R xb wb) : RfN R (xnCat xa xb) (nCat wa wb) := fun ρ c Q h => ha ρ c _ (post_bm h fun x h => hb ρ c _ (post_bm h fun y h => by
  obtain ⟨xs, e1, h⟩ := post_ofO (post_bind h)
  obtain ⟨ys, e2, h⟩ := post_ofO (post_bind h)
  obtain ⟨g, q⟩ := post_guard h
  exact ⟨xs, ys, listD_some e1, listD_some e2, g, q⟩))
def dtE : En → Option (List (List Key × D))
  | .dt ds => some ds
  | _ => none
theorem dtE_some {en : En} {ds : List (List Key × D)} (h : dtE en = some ds) : en = .dt ds := by cases en <;> simp [dtE] at h; rw [h]
theorem dtAt {ρ : List En} {i : Nat} {ds : List (List Key × D)} (h : ρ[i]?.bind dtE = some ds) : ρ[i]? = some (.dt ds) := by
  obtain ⟨en, h1, h2⟩ := Option.bind_eq_some_iff.mp h
  rw [h1, dtE_some h2]
@[simp] def xnDt : XN := fun _ => .ok (.dt [])
theorem k_ndt : RfN R xnDt nDt := fun _ _ _ h => h
@[simp] def xDtGet (i : Nat) (xA : XA) : XE := fun ρ => (ofO (ρ[i]?.bind dtE)).bind fun ds => (xA ρ).bind fun ks => Rs.guard (ks.length ≤ LIM) ((ofO (keysOf ks)).bind fun k => ofO (lookT ds k))
theorem k_dtget {i : Nat} (hA : RfA R xA wA) : RfE R (xDtGet i xA) (wDtGet i wA) := fun ρ c Q h => by
  obtain ⟨ds, e, h⟩ := post_ofO (post_bind h)
  have e' := dtAt e
  refine ⟨⟨ds, e'⟩, hA ρ c _ (post_bm h fun ks h => ?_)⟩
  obtain ⟨g, h⟩ := post_guard h
  obtain ⟨k, e2, h⟩ := post_ofO (post_bind h)
  obtain ⟨z, e3, q⟩ := post_ofO h
  exact ⟨ds, k, z, e', g, e2, e3, q⟩
@[simp] def xDtPut (i : Nat) (xa : XE) (xA : XA) : XS := fun ρ => lift (xa ρ) ρ fun d => (ofO (ρ[i]?.bind dtE)).bind fun ds => lift (xA ρ) ρ fun ks => Rs.guard (ks.length ≤ LIM) ((ofO (keysOf ks)).bind fun k => Rs.guard (ds.length < LIM) (.ok (.nx (ρ.set i (.dt (putT ds k d))))))
theorem k_dtput {i : Nat} (ha : RfE R xa wa) (hA : RfA R xA wA) : RfS R (xDtPut i xa xA) (wDtPut i wa wA) := fun dd ρ c h => ha ρ c _ (post_lift h (fun d h => by
  obtain ⟨ds, e, h⟩ := post_ofO (post_bind h)
  have e' := dtAt e
  refine ⟨⟨ds, e'⟩, hA ρ c _ (post_lift h (fun ks h => ?_) fun x h => h)⟩
  obtain ⟨g, h⟩ := post_guard h
  obtain ⟨k, e2, h⟩ := post_ofO (post_bind h)
  obtain ⟨g2, q⟩ := post_guard h
  exact ⟨ds, k, e', g, e2, g2, q⟩) fun x h => h)
@[simp] def xZip3 (xa xb xc : XE) : XA := fun ρ => (xa ρ).bind fun d => (xb ρ).bind fun d2 => (xc ρ).bind fun d3 => (ofO (strD d)).bind fun x => (ofO (tupleD d2)).bind fun xs => (ofO (tupleD d3)).bind fun ys => .ok (zip3D (signs x) xs ys)
theorem k_zip3 (ha : RfE R xa wa) (hb : RfE R xb wb) (hc : RfE R xc wc) : RfA R (xZip3 xa xb xc) (wZip3 wa wb wc) := fun ρ c Q h => ha ρ c _ (post_bm h fun d h => hb ρ c _ (post_bm h fun d2 h => hc ρ c _ (post_bm h fun d3 h => by
  obtain ⟨x, e1, h⟩ := post_ofO (post_bind h)
  obtain ⟨xs, e2, h⟩ := post_ofO (post_bind h)
  obtain ⟨ys, e3, q⟩ := post_ofO (post_bind h)
  exact ⟨x, xs, ys, strD_some e1, tupleD_some e2, tupleD_some e3, q⟩)))
end
end HW

/-! Y1: worlds with tables of code objects -/
namespace HW
open PySem L2 LamX
/-- one table, all whose code objects lie in R -/
structure TbR (R : List Addr) (H : Hp) (p : Addr × Str) : Prop where
  mem : p.1 ∈ R
  own : ∃ ps : Array Value, H p.1 = some (.tbl ps) ∧ TriplesOk ps.toList ∧ ∀ (pos : Pos) (cv : Value), codeAmong pos ps.toList = some cv → ∃ c, cv = .ref c ∧ c ∈ R ∧ H c = some (CodeO c p.2)
structure TabR (T : List (Addr × Str)) (R : List Addr) (H : Hp) : Prop where
  tab : ∀ p ∈ T, TbR R H p
  kind : ∀ b ∈ R, (∃ ps, H b = some (.tbl ps)) ∨ ∃ q, H b = some (CodeO b q)
theorem TabR.at {T : List (Addr × Str)} {R : List Addr} {H H' : Hp} (h : TabR T R H) (e : ∀ b ∈ R, H' b = H b) : TabR T R H' := by
  refine ⟨fun p hp => ?_, fun b hb => by rw [e b hb]; exact h.kind b hb⟩
  obtain ⟨m, ps, h1, h2, h3⟩ := h.tab p hp
  refine ⟨m, ps, by rw [e _ m]; exact h1, h2, fun pos cv hc => ?_⟩
  obtain ⟨c, e1, e2, e3⟩ := h3 pos cv hc
  exact ⟨c, e1, e2, by rw [e _ e2]; exact e3⟩
theorem TabR.tabs {T : List (Addr × Str)} {R : List Addr} {H : Hp} (h : TabR T R H) : Tabs T H := fun p hp => by
  obtain ⟨m, ps, h1, h2, h3⟩ := h.tab p hp
  exact ⟨ps, h1, h2, fun pos cv hc => let ⟨c, e1, _, e3⟩ := h3 pos cv hc; ⟨c, e1, e3⟩⟩
theorem TabR.noXd {T : List (Addr × Str)} {R : List Addr} {H : Hp} (h : TabR T R H) {d : Addr} {f : List (Str × V)} (e : H d = some (.xd f)) : d ∉ R := fun m => by
  rcases h.kind d m with ⟨ps, z⟩ | ⟨q, z⟩
  · rw [e] at z; cases z
  · rw [e] at z; unfold CodeO at z; cases z
/-- the draws' state beside the tables -/
def MT (M : MI) (T : List (Addr × Str)) : MI := ⟨fun H a c R => ∃ Rs Rt, R = Rs ++ Rt ∧ M.I H a c Rs ∧ TabR T Rt H ∧ ∀ b ∈ Rt, b ∉ Rs,
  fun {H H' a c R} ⟨Rs, Rt, e, i, t, n⟩ u => ⟨Rs, Rt, e, M.st i fun b hb => u b (by rw [e]; exact List.mem_append_left _ hb), t.at fun b hb => u b (by rw [e]; exact List.mem_append_right _ hb), n⟩, True⟩
section
variable {M : MI} {T : List (Addr × Str)} {K : PySem.W.Frag} {w : W}
/-- a world without its tables, and the way back -/
theorem mt_out (g : Gd (MT M T) w) : ∃ w1 : W, w1.F = w.F ∧ w1.H = w.H ∧ w1.c = w.c ∧ w1.mo = w.mo ∧ Gd M w1 ∧
    ∀ w' : W, Stp w1 w' → Gd M w' → ∃ w2 : W, w2.F = w'.F ∧ w2.H = w'.H ∧ w2.c = w'.c ∧ Stp w w2 ∧ Gd (MT M T) w2 ∧ ∀ d f, w'.H d = some (.xd f) → d ∉ w'.R → d ∉ w2.R := by
  cases hm : w.mo with
  | none => exact absurd hm (g.nz True.intro)
  | some a =>
    obtain ⟨Rs, Rt, e, i, t, n⟩ := g.mi a hm
    refine ⟨{ w with R := Rs }, rfl, rfl, rfl, hm, ⟨fun b eb => ?_, fun z => ?_, fun _ => g.nz True.intro, fun b hb => g.tr b (by rw [e]; exact List.mem_append_left _ hb), g.tf⟩, fun w' s g' => ?_⟩
    · have eb' : w.mo = some b := eb
      rw [hm] at eb'
      cases eb'
      exact i
    · have z' : w.mo = none := z
      rw [hm] at z'
      cases z'
    · have old : ∀ b ∈ Rt, w'.H b = w.H b := fun b hb => by
        have h1 := (g.tr b (by rw [e]; exact List.mem_append_right _ hb)).1
        obtain ⟨o, ho⟩ := Option.ne_none_iff_exists'.mp h1
        rw [ho]
        exact s.k b o ho (n b hb)
      have nR : ∀ b ∈ Rt, b ∉ w'.R := fun b hb z => (s.r b z).elim (n b hb) fun z2 => (g.tr b (by rw [e]; exact List.mem_append_right _ hb)).1 z2
      have t' : TabR T Rt w'.H := t.at old
      refine ⟨{ w' with R := w'.R ++ Rt }, rfl, rfl, rfl, ⟨s.f1, s.f2, fun b o h hr => s.k b o h fun z => hr (by rw [e]; exact List.mem_append_left _ z), s.t, fun b hb => ?_, s.m⟩,
        ⟨fun b eb => ⟨w'.R, Rt, rfl, g'.mi b eb, t', nR⟩, fun z => ?_, fun _ z => ?_, fun b hb => ?_, g'.tf⟩, fun d f hd nd z => ?_⟩
      · rcases List.mem_append.mp hb with z | z
        · exact (s.r b z).imp (fun z => by rw [e]; exact List.mem_append_left _ z) fun z => z
        · exact .inl (by rw [e]; exact List.mem_append_right _ z)
      · have : w'.mo = some a := s.m a hm
        rw [show w'.mo = none from z] at this
        cases this
      · have : w'.mo = some a := s.m a hm
        rw [show w'.mo = none from z] at this
        cases this
      · rcases List.mem_append.mp hb with z | z
        · exact g'.tr b z
        · have h0 := g.tr b (by rw [e]; exact List.mem_append_right _ z)
          exact ⟨by rw [old b z]; exact h0.1, fun f => (s.f2 b f).elim h0.2 h0.1⟩
      · rcases List.mem_append.mp z with z | z
        · exact nd z
        · exact t'.noXd hd z
theorem ArgsOk.cast {w1 : W} (eF : w1.F = w.F) (eH : w1.H = w.H) (em : w1.mo = w.mo) : ∀ {vs : List V} {es : List En}, ArgsOk K w vs es → ArgsOk K w1 vs es
  | _, _, .nil => .nil
  | _, _, .im d h => .im (by rw [eF, eH]; exact d) (h.cast eF eH em)
  | _, _, .st d h => .st (by rw [em]; exact d) (h.cast eF eH em)
theorem FsOk.cast {w1 : W} (eF : w1.F = w.F) (eH : w1.H = w.H) : ∀ {fs : List (Str × V)} {ds : List (Str × D)}, FsOk K w fs ds → FsOk K w1 fs ds
  | _, _, .nil => .nil
  | _, _, .cons d h => .cons (by rw [eF, eH]; exact d) (h.cast eF eH)
theorem fnSp_mt {f : FW} : ∀ vs H Q E, fnSp (MT M T) K f vs H Q E → fnSp M K f vs H Q E := by
  rintro vs H Q E ⟨w, es, Qd, eh, g, a, hf, k⟩
  obtain ⟨w1, eF, eH, ec, em, g1, go⟩ := mt_out g
  refine ⟨w1, es, Qd, eH.trans eh, g1, a.cast eF eH em, by rw [ec]; exact hf, fun w' v d s g' dv q => ?_⟩
  obtain ⟨w2, f2, h2, c2, s2, g2, _⟩ := go w' s g'
  have := k w2 v d s2 g2 (by rw [f2, h2]; exact dv) (by rw [c2]; exact q)
  rw [h2] at this
  exact this
theorem fnSpX_mt {mg : Str → Option Value} {f : XR → FW} : ∀ vs H Q E, fnSpX (MT M T) K mg f vs H Q E → fnSpX M K mg f vs H Q E := by
  rintro vs H Q E ⟨w, es, Qd, R, eh, g, a, hf, k, kx⟩
  obtain ⟨w1, eF, eH, ec, em, g1, go⟩ := mt_out g
  refine ⟨w1, es, Qd, R, eH.trans eh, g1, a.cast eF eH em, by rw [ec]; exact hf, fun w' v d s g' dv q => ?_, fun w' cls dd x s g' xo r => ?_⟩
  · obtain ⟨w2, f2, h2, c2, s2, g2, _⟩ := go w' s g'
    have := k w2 v d s2 g2 (by rw [f2, h2]; exact dv) (by rw [c2]; exact q)
    rw [h2] at this
    exact this
  · obtain ⟨w2, f2, h2, c2, s2, g2, nd⟩ := go w' s g'
    have xo2 : XOk K mg w2 cls dd x := by
      rcases xo with ⟨h, z | ⟨d1, fvs, e1, e2, e3, e4⟩⟩
      · exact ⟨h, .inl z⟩
      · exact ⟨h, .inr ⟨d1, fvs, e1, by rw [h2]; exact e2, nd d1 fvs e2 e3, e4.cast f2 h2⟩⟩
    have := kx w2 cls dd x s2 g2 xo2 (by rw [c2]; exact r)
    rw [h2] at this
    exact this
end
section
variable {P : Program} {w : World} {K : PySem.W.Frag} {mg : Str → Option Value} {base : Heap} {k : Nat} {x : Str} {M : MI} {T : List (Addr × Str)}
theorem CalG.mt {f : FW} (C : CalG P w K mg base k x (fnSp M K f)) : CalG P w K mg base k x (fnSp (MT M T) K f) := C.imp fnSp_mt
theorem CalX.imp {sp sp' : Sp} (C : CalX P w K mg base k x sp) (h : ∀ vs H Q E, sp' vs H Q E → sp vs H Q E) : CalX P w K mg base k x sp' := by
  obtain ⟨f, fd, ps, F, h1, h2, h3⟩ := C.ex
  exact ⟨f, fd, ps, F.imp h, h1, h2, h3⟩
theorem CalX.mt {f : XR → FW} (C : CalX P w K mg base k x (fnSpX M K mg f)) : CalX P w K mg base k x (fnSpX (MT M T) K mg f) := C.imp fnSpX_mt
end
end HW

/-! Y2: lambdas, made and called; with defaults or without -/
namespace HW
open PySem PySem.Spec PyProof.Rows L2 LamX
/-- the name of the lambdas of a frame -/
abbrev lamQ (X : Cx) : Str := X.env.qual ++ "<lambda>"
abbrev lamO (X : Cx) (q : Arguments) (b : Expr) (sc : Scope) (dV doc pm : Value) (c : Addr) (ct : Value) : Obj := PySem.W.kdv_obj "<lambda>" (lamQ X) q (.expr b) sc (cloFrom X.env.cells sc.names []) dV doc pm c ct
/-- the lambda's names: globals, captured ones, its own parameters, which the maker does not know -/
structure LamN (N bn : List Str) (sc scope : Scope) : Prop where
  kind : scope.kind = .function
  co : scope.isCoroutine = false
  gen : scope.isGenerator = false
  cel : ∀ y ∈ scope.names, y.2 ≠ .cell
  loc : ∀ y ∈ scope.names, y.2 = .local → y.1 ∉ N
  par : ∀ x ∈ bn, scope.names.lookup x = some .local
  free : ∀ y ∈ scope.names, y.2 = .free → sc.names.lookup y.1 = some .cell ∨ sc.names.lookup y.1 = some .free
def lamNB (N bn : List Str) (sc scope : Scope) : Bool :=
  decide (scope.kind = .function) && !scope.isCoroutine && !scope.isGenerator && bn.all (fun x => decide (scope.names.lookup x = some .local)) &&
    scope.names.all fun y => !decide (y.2 = .cell) && (!decide (y.2 = .local) || !(N.contains y.1)) && (!decide (y.2 = .free) || decide (sc.names.lookup y.1 = some .cell) || decide (sc.names.lookup y.1 = some .free))
theorem lamN_by {N bn : List Str} {sc scope : Scope} (h : lamNB N bn sc scope = true) : LamN N bn sc scope := by
  unfold lamNB at h
  simp only [Bool.and_eq_true, Bool.or_eq_true, Bool.not_eq_true', decide_eq_true_eq, decide_eq_false_iff_not, List.all_eq_true] at h
  obtain ⟨⟨⟨⟨k1, k2⟩, k3⟩, k4⟩, k5⟩ := h
  refine ⟨k1, k2, k3, fun y hy => (k5 y hy).1.1, fun y hy e => ?_, k4, fun y hy e => ?_⟩
  · rcases (k5 y hy).1.2 with z | z
    · exact absurd e z
    · intro m
      rw [List.contains_iff_mem.mpr m] at z
      cases z
  · rcases (k5 y hy).2 with (z | z) | z
    · exact absurd e z
    · exact .inl z
    · exact .inr z
theorem LamN.has {X : Cx} {bn : List Str} {scope : Scope} (L : LamN X.N bn X.env.scope scope) (ok : X.Ok) : ∀ y ∈ scope.names, y.2 = .free → ∃ c, X.env.cells.lookup y.1 = some c := fun y hy e => ok.has _ ((L.free y hy e).imp id id)
section
variable {X : Cx} {pins : List (Addr × Obj)} {σ : L2.St} {H : Hp} {s : Shared} {c P : Addr} {q : Arguments} {b : Expr} {sc : Scope} {pos : Pos} {dV : Value} {E : Value → Shared → Prop} {Q : Value → Shared → Prop} {ps : Array Value}
/-- what is known of a lambda once it is made -/
structure Made (X : Cx) (q : Arguments) (b : Expr) (sc : Scope) (dV : Value) (H : Hp) (f c' : Addr) (doc pm ct : Value) (s' : Shared) : Prop where
  at_ : s'.heap.get? f = some (lamO X q b sc dV doc pm c' ct)
  no : H f = none
  nf : f ∉ frs X.stack
theorem fr_ge (I : Inv X pins σ H s) {f : Addr} (hf : s.heap.objs.size ≤ f) : f ∉ frs X.stack := fun z => (List.mem_cons.mp (I.stkSub _ z)).elim (fun e => Nat.lt_irrefl _ (Nat.lt_of_lt_of_le (e ▸ I.lt) hf)) fun e => I.nofs hf e
theorem lamTail (I : Inv X pins σ H s) (tb : TabB X.base X.mg c P) (hc : X.env.code = .ref c) (hP : H P = some (.tbl ps)) (ht : TriplesOk ps.toList)
    (ha : ∀ (p : Pos) (cv : Value), codeAmong p ps.toList = some cv → ∃ c1, cv = .ref c1 ∧ H c1 = some (CodeO c1 (lamQ X))) (hcl : ∀ y ∈ sc.names, y.2 = .free → ∃ c1, X.env.cells.lookup y.1 = some c1)
    (old : ∀ (f c' : Addr) (doc pm ct : Value) (s' : Shared), codeAmong pos ps.toList = some (.ref c') → H c' = some (CodeO c' (lamQ X)) → Inv X pins σ H s' → Made X q b sc dV H f c' doc pm ct s' → (∀ a o, s.heap.get? a = some o → H a = none → s'.heap.get? a = some o) → Q (.ref f) s')
    (new : ∀ (f c' : Addr) (doc pm ct : Value) (s' : Shared), H c' = none → Inv X pins σ (upd (upd H P (.tbl (ps ++ #[rawInt pos.line, rawInt pos.col, .ref c']))) c' (CodeO c' (lamQ X))) s' →
      Made X q b sc dV (upd (upd H P (.tbl (ps ++ #[rawInt pos.line, rawInt pos.col, .ref c']))) c' (CodeO c' (lamQ X))) f c' doc pm ct s' → (∀ a o, s.heap.get? a = some o → H a = none → s'.heap.get? a = some o) → s.heap.objs.size ≤ c' → Q (.ref f) s') :
    wpAny (model X.prog X.w) X.A (makeTail "<lambda>" (lamQ X) q (.expr b) sc X.env dV .none none pos pos.line) Q E s := by
  have onP : s.heap.get? P = some { cls := .none, data := .fields ps } := I.hok P _ hP
  cases e : codeAmong pos ps.toList with
  | some cv =>
    obtain ⟨c', rfl, co⟩ := ha pos cv e
    refine PySem.W.kdv_makeTailHit (mg := X.mg) (c := c) (P := P) (ps := ps) (closure_ok hcl) I.ok.glob (I.mod.glob.keeps I.bk) hc (tb.code.keeps I.bk) onP ht e (tb.bm.keeps I.bk) fun ct doc h' tk hk hs => ?_
    have I2 := I.kept (h' := h'.push (lamO X q b sc dV doc ((X.mg "__name__").getD .none) c' ct)) (t' := tk) fun a o z => Heap.get?_push_of_some _ (hk a o z)
    exact old h'.objs.size c' doc _ ct _ e co I2 ⟨Heap.get?_push_size _ rfl, I.hok.fresh hs, fr_ge I hs⟩ fun a o z _ => Heap.get?_push_of_some _ (hk a o z)
  | none =>
    refine PySem.W.kdv_makeTail (mg := X.mg) (c := c) (P := P) (ps := ps) (closure_ok hcl) I.ok.glob (I.mod.glob.keeps I.bk) hc (tb.code.keeps I.bk) onP ht e tb.gP (tb.bm.keeps I.bk) fun c' ct doc h' tk hk ge lt rc on2 => ?_
    obtain ⟨c1, oc, us, t, e1, e2, e3, e4⟩ := rc
    cases e1
    have sz : s.heap.objs.size ≤ h'.objs.size := Nat.le_trans ge (Nat.le_of_lt lt)
    have no : H c' = none := I.hok.fresh ge
    have I2 := inv_table (q := lamQ X) (c := c') (t' := tk) (more := #[rawInt pos.line, rawInt pos.col, .ref c']) (h' := h'.push (lamO X q b sc dV doc ((X.mg "__name__").getD .none) c' ct)) I hP (fun a o n z => Heap.get?_push_of_some _ (hk a o n z)) (Heap.get?_push_of_some _ on2) ge ⟨oc, us, t, Heap.get?_push_of_some _ e2, e3, e4⟩
    refine new h'.objs.size c' doc _ ct _ no I2 ⟨Heap.get?_push_size _ rfl, ?_, fr_ge I sz⟩ (fun a o z n => Heap.get?_push_of_some _ (hk a o (fun y => by rw [y, hP] at n; cases n) z)) ge
    rw [upd_ne (Nat.ne_of_gt lt), upd_ne (Nat.ne_of_gt (Nat.lt_of_lt_of_le (Heap.lt_size onP) sz))]
    exact I.hok.fresh sz
end
section
variable {X : Cx} {pins : List (Addr × Obj)} {σ : L2.St} {H HZ : Hp} {s s1 : Shared}
/-- the lambda's frame, entered: the maker's slots are seen through its cells -/
theorem lamStart {A : Around} {outer : List Env} {E : XK} {scope : Scope} {f c' : Addr} {g : Heap} {tk : Nat} {bs : List (Str × Value)} (I : Inv X pins σ H s) (L : LamN X.N (bs.map (·.1)) X.env.scope scope) (e0 : Env0 X.prog X.w X.K X.mg X.base A outer s1 HZ) (nh : A.handled = none)
    (un : Un (frs X.stack) [] H HZ s.heap s1.heap) (ns : g.Ns s1.heap.objs.size fun y => bs.reverse.lookup y) (kp : ∀ a o, s1.heap.get? a = some o → g.get? a = some o) :
    Inv (lamCx X A outer s1 HZ E scope f c') [] σ HZ { s1 with heap := g, toks := tk } := by
  have fr := L.has I.ok
  have down : ∀ {y d}, (cloFrom X.env.cells scope.names []).lookup y = some d → X.env.cells.lookup y = some d := fun {y d} e => by
    rcases cloFrom_mem (PySem.mem_of_lookup e) with m | ⟨m, z⟩
    · cases m
    · obtain ⟨d1, hd1⟩ := fr _ m rfl
      have hd2 : X.env.cells.lookup y = some d1 := hd1
      rw [hd2]
      congr 1
      rw [z, hd2]
      rfl
  have up : ∀ {y}, scope.names.lookup y = some .free → ∃ d, (cloFrom X.env.cells scope.names []).lookup y = some d := fun {y} l => mem_lookup (cloFrom_has (cells := X.env.cells) (acc := []) (PySem.mem_of_lookup l))
  have cel : ∀ {d : Addr} {v : Option Value}, H d = none → s.heap.IsCell d v → g.IsCell d v := fun {d v} n ⟨o, ho, hd⟩ => let ⟨sl, e⟩ := un.any ho n (by simp); ⟨_, kp _ _ e, hd⟩
  have nx : ∀ a : Addr, a ∈ (lamCx X A outer s1 HZ E scope f c').ex → False := fun a z => by
    have z' : a ∈ ([] : List Addr) := z
    cases z'
  have lam : (lamCx X A outer s1 HZ E scope f c').Ok := {
    mod := e0.mod, kind := L.kind, glob := rfl, blt := rfl, above := Nat.le_refl _
    inj := fun y z d h1 h2 => I.ok.inj y z d (down h1) (down h2)
    has := fun y hy => hy.elim (fun z => absurd rfl (L.cel _ (PySem.mem_of_lookup (show scope.names.lookup y = some .cell from z)))) fun z => up z
    cab := fun y d z _ => by
      have z' : false = true := z
      cases z'
    hd := fun _ => nh, frames := Around.frames_deeper e0.frames, stk := .inr ⟨rfl, rfl⟩, exf := fun a z => (nx a z).elim, bs := e0.bs, bsz := e0.bsz, noex := fun a _ _ z => nx a z
    exfs := fun a z => (nx a z).elim, funs := e0.funs, frf := e0.frf }
  refine { ok := lam, os := rfl, bare := e0.bare, base := Un.kept kp, loc := ⟨_, ns, fun i y v h1 h2 h3 => ?_⟩, cell := fun y d e => ?_, free := e0.hok.fresh (Nat.le_refl _), freeC := fun y d e => ?_, pin := fun p hp => ?_, hok := e0.hok.kept kp, len := I.len }
  · have h3' : Vis scope y := h3
    rcases h3' with z | z | z
    · exact absurd (List.mem_of_getElem? h1) (L.loc _ (PySem.mem_of_lookup z) rfl)
    · exact absurd rfl (L.cel _ (PySem.mem_of_lookup z))
    · obtain ⟨m, _, look⟩ := I.loc
      have cap := L.free _ (PySem.mem_of_lookup z) rfl
      obtain ⟨u, r, at_⟩ := look i y v h1 h2 (.inr cap)
      obtain ⟨d, hd⟩ := up z
      refine ⟨u, r, .inr ⟨.inr z, d, hd, ?_⟩⟩
      rcases at_ with ⟨k1, _⟩ | ⟨_, d2, h4, h5⟩
      · have k1' : X.env.scope.names.lookup y = some .local := k1
        have cap' : X.env.scope.names.lookup y = some .cell ∨ X.env.scope.names.lookup y = some .free := cap
        rw [k1'] at cap'
        rcases cap' with q | q <;> cases q
      · rw [down hd] at h4
        cases h4
        exact cel (I.freeC y d (down hd)) h5
  · obtain ⟨v, q⟩ := I.cell y d (down e)
    exact ⟨v, cel (I.freeC y d (down e)) q⟩
  · obtain ⟨v, o, ho, hd⟩ := I.cell y d (down e)
    exact un.free d o ho (I.freeC y d (down e)) (by simp)
  · have hp' : p ∈ ([] : List (Addr × Obj)) ++ [] := hp
    simp at hp'
/-- what the lambda's defaults are: none, or one, in a tuple of its own -/
def DflOk (X : Cx) (q : Arguments) (b : Expr) (sc : Scope) (dV : Value) (bs : List (Str × Value)) (H : Hp) (s : Shared) : Prop :=
  (dV = .none ∧ ∀ (qn : Str) (cl : List (Str × Addr)) (doc pm cv ct : Value), bindArgs (PySem.W.kdv_fn "<lambda>" qn q (.expr b) sc cl .none doc pm cv ct) ⟨[], []⟩ = pure bs) ∨
  ∃ (t : Addr) (vs : List Value), dV = .ref t ∧ s.heap.get? t = some (PySem.W.kdv_tup vs) ∧ H t = none ∧ t ∉ frs X.stack ∧
    ∀ (qn : Str) (cl : List (Str × Addr)) (doc pm cv ct : Value), ∃ k, bindArgs (PySem.W.kdv_fn "<lambda>" qn q (.expr b) sc cl (.ref t) doc pm cv ct) ⟨[], []⟩ = seqItems? (.ref t) >>= k ∧ k (some vs.toArray) = pure bs
/-- x(), where x is the def's parameter: the lambda's body is read with the maker's slots -/
theorem lamAct {CXg : CXT} {Eg : XK} {Ng : List Str} {qg : Str} {sg : Scope} {gg f c' : Addr} {cdg doc pm ctv dV : Value} {q : Arguments} {b : Expr} {scope : Scope} {k i : Nat} {a : Str} {bs : List (Str × Value)} {pn : List (Addr × Obj)} {xe : Value → Shared → Prop} {W : WX} {E : XK} {tb : TE} {p1 p2 : Pos}
    (I : Inv X pins σ H s) (L : LamN X.N (bs.map (·.1)) X.env.scope scope) (md : Made X q b scope dV H f c' doc pm ctv s) (df : DflOk X q b scope dV bs H s)
    (tk : Takes ((cxOf CXg X.prog X.w X.K X.mg X.base Ng qg sg gg cdg X.A X.stack s H Eg).tr pn xe) W) (hW : ∀ cls d σ' H', E cls d H' → W cls d σ' H') (hr : Room (k + 1) (X.A.deeper (PyProof.Rows.envOfC qg sg s.heap.objs.size gg cdg)))
    (hbody : ∀ (s1 : Shared) (H1 : Hp), Room k ((X.A.deeper (PyProof.Rows.envOfC qg sg s.heap.objs.size gg cdg)).deeper (lamEnv X scope s1.heap.objs.size f c')) →
      PE (lamCx X (X.A.deeper (PyProof.Rows.envOfC qg sg s.heap.objs.size gg cdg)) (PyProof.Rows.envOfC qg sg s.heap.objs.size gg cdg :: X.stack) s1 H1 E scope f c') b tb)
    (hN : Ng[i]? = some a) (hv : Vis sg a) (nd : (a == ("__debug__" : Str)) = false := by decide) (nc : (a == ("__classdict__" : Str)) = false := by decide) :
    PE ((cxOf CXg X.prog X.w X.K X.mg X.base Ng qg sg gg cdg X.A X.stack s H Eg).tr pn xe) (.Call (.Name a p1) [] [] p2)
      (fun σZ HZ Q => σZ[i]? = some (some (.ref f)) ∧ HZ c' = some (CodeO c' (lamQ X)) ∧ tb σ HZ Q) := by
  refine ⟨fun pz sz σz Hz Q Iz ⟨at_, co, want⟩ => wpAny_Call_Name_kw (thn ((pe_var (pos := p1) hN hv nd nc).run pz sz σz Hz (fun v H1 => v = .ref f ∧ H1 = Hz) Iz ⟨.ref f, at_, rfl, rfl⟩) fun u u1 ⟨v, H1, I1, r1, ev, eH⟩ => ?_)⟩
  subst ev
  subst eH
  obtain rfl : u = Value.ref f := r1
  have keep : ∀ (a : Addr) (o : Obj), s.heap.get? a = some o → H a = none → a ∉ frs X.stack → u1.heap.get? a = some o := fun a o h1 h2 h3 => I1.base.keep a o h1 h2 h3 (fun z => by
    have z' : a ∈ ([] : List Addr) := z
    cases z')
  have of1 := keep _ _ md.at_ md.no md.nf
  refine PySem.W.callWith_F0 ⟨_, _, _, _, of1⟩ ?_
  obtain ⟨⟨oc, us, t, h1, h2, h3⟩, _, _⟩ := I1.hok c' _ co
  have bnd : BindsTo u1 (PySem.W.kdv_fn "<lambda>" (lamQ X) q (.expr b) scope (cloFrom X.env.cells scope.names []) dV doc pm (.ref c') ctv) ⟨[], []⟩ bs := by
    rcases df with ⟨rfl, e⟩ | ⟨t, vs, rfl, e1, e2, e3, e4⟩
    · exact BindsTo.of_eq (e _ _ _ _ _ _)
    · obtain ⟨k, b1, b2⟩ := e4 (lamQ X) (cloFrom X.env.cells scope.names []) doc pm (.ref c') ctv
      exact BindsTo.of_defaults rfl (keep _ _ e1 e2 e3) rfl b1 b2
  refine wpAny_call (codeAny_mono (R := CR (L2.CX X.prog X.w) (PyProof.Rows.envOfC qg sg s.heap.objs.size gg cdg :: X.stack) X.prog X.w H1 u1 Q E) (PySem.W.kla_callFunE hr.depth of1 rfl L.co L.gen rfl ⟨c', oc, us, t, rfl, h1, h2, h3⟩ (bnd _ _ _ _ ?_)) fun r s2 end_ => ?_)
  · refine wpAny_newFunctionEnv (fun y hy => L.cel y hy) (fun y hy => L.par _ (List.mem_map_of_mem hy)) (fun g ns ext => ⟨I1.nolimit.fresh _ ext, ?_⟩) L.kind
    have kp : ∀ a o, u1.heap.get? a = some o → g.get? a = some o := fun a o e => ext.extBut a o (Nat.ne_of_lt (Heap.lt_size e)) (Heap.get?_push_of_some _ e)
    have J : Inv (lamCx X (X.A.deeper (PyProof.Rows.envOfC qg sg s.heap.objs.size gg cdg)) (PyProof.Rows.envOfC qg sg s.heap.objs.size gg cdg :: X.stack) u1 H1 E scope f c') [] σ H1 { u1 with heap := g, toks := u1.toks + bs.length } := lamStart I L I1.env0 hr.hd I1.base ns kp
    exact PySem.W.kla_codeExpr (wpAny_mono ((hbody u1 H1 (hr.deeper _)).run [] _ _ H1 Q J want) (fun v s' ⟨v1, H2, J2, rv, q2⟩ => ⟨v1, H2, J2.os, J2.bare, J2.base, J2.hok, rv, q2⟩) fun e s' z => z)
  · cases r with
    | error e => exact (passes_call tk hW) pz σz H1 u1 e s2 I1 end_
    | ok fl =>
      cases fl with
      | ret u => exact I1.after end_
      | next => exact end_.elim
      | brk => exact end_.elim
      | cont => exact end_.elim
end
end HW

/-! Y3: one except clause over a tuple of classes, whose error is kept behind it -/
namespace HW
open PySem PySem.Spec PyProof.Rows L2 LamX
/-! a tuple of classes -/
section
variable {M : Model} {A : Around} {E : Value → Shared → Prop} {s : Shared} {α β : Type}
theorem forIn_yes {f : α → PUnit → Sem (ForInStep PUnit)} {Q : PUnit → Shared → Prop} : ∀ {l : List α}, (∀ c ∈ l, ∀ Q' : ForInStep PUnit → Shared → Prop, Q' (.yield ⟨⟩) s → wpAny M A (f c ⟨⟩) Q' E s) → Q ⟨⟩ s → wpAny M A (forIn l PUnit.unit f) Q E s
  | [], _, q => by rw [List.forIn_nil]; exact wpAny_pure q
  | c :: r, h, q => by
    rw [List.forIn_cons]
    exact wpAny_bind (h c List.mem_cons_self _ (forIn_yes (fun d hd => h d (List.mem_cons_of_mem _ hd)) q))
theorem forIn_any {f : α → β → Sem (ForInStep β)} {b0 b1 : β} {g : α → Bool} {Q : β → Shared → Prop} : ∀ {l : List α}, (∀ c ∈ l, ∀ Q' : ForInStep β → Shared → Prop, Q' (if g c = true then .done b1 else .yield b0) s → wpAny M A (f c b0) Q' E s) → Q (if l.any g = true then b1 else b0) s → wpAny M A (forIn l b0 f) Q E s
  | [], _, q => by rw [List.forIn_nil]; exact wpAny_pure q
  | c :: r, h, q => by
    rw [List.forIn_cons]
    refine wpAny_bind (h c List.mem_cons_self _ ?_)
    rw [List.any_cons] at q
    cases e : g c with
    | true =>
      rw [e] at q
      exact wpAny_pure q
    | false =>
      rw [e] at q
      exact forIn_any (fun d hd => h d (List.mem_cons_of_mem _ hd)) q
end
theorem exm_tupN {M : Model} {K : PySem.W.Frag} {its : List Value} {cls : Value} {tp e : Addr} {h : Heap} {g : Value → Bool} (X : K.In h) (LT : PySem.W.Looks M h (typeOf (.ref e)) cls) (hp : h.get? tp = some { cls := .type "tuple", data := .seq its.toArray }) (hx : ∀ c ∈ its, PySem.W.exmOne K cls c = some (g c)) :
    PySem.W.Looks M h (excMatches (.ref e) (.ref tp)) (its.any g) := by
  intro A Q E s k0 q
  have k : ∀ b o, h.get? b = some o → s.heap.get? b = some o := k0
  have isT : PySem.W.Looks M h (isInstance (.ref tp) (.type "tuple")) true := ((PySem.W.Looks.ld hp).andThen .now).andThen (PySem.W.Looks.of_pure isSubtype_tuple_tuple)
  unfold excMatches
  refine wpAny_bind ((isT.keeps k).here ?_)
  rw [if_pos rfl]
  refine wpAny_bind (wpAny_seqItems (k _ _ hp) rfl (wpAny_bind (wpAny_pure ?_)))
  simp only [Option.getD_some]
  refine wpAny_bind (forIn_yes (fun c hc Q' q' => ?_) ?_)
  · refine wpAny_bind (((PySem.W.exm_cls (M := M) X (hx c hc)).1.keeps k).here ?_)
    simp only [Bool.not_true, Bool.false_eq_true, if_false]
    first
      | exact wpAny_pure q'
      | exact wpAny_bind (wpAny_pure (wpAny_pure q'))
  · refine wpAny_bind ((LT.keeps k).here ?_)
    refine wpAny_bind (forIn_any (g := g) (b1 := (some true, ())) (fun c hc Q' q' => ?_) ?_)
    · refine wpAny_bind (((PySem.W.exm_cls (M := M) X (hx c hc)).2.keeps k).here ?_)
      cases e2 : g c with
      | true =>
        rw [e2] at q'
        simp only [if_true]
        exact wpAny_pure q'
      | false =>
        rw [e2] at q'
        simp only [Bool.false_eq_true, if_false]
        exact wpAny_pure q'
    · cases e3 : its.any g with
      | true =>
        rw [e3] at q
        exact wpAny_pure q
      | false =>
        rw [e3] at q
        exact wpAny_pure q
end HW

/-! Y4: try with one clause over a tuple of classes; behind it the error is an object like others -/
namespace HW
open PySem PySem.Spec PyProof.Rows L2 LamX
/-- an error that is kept: of the class cls, its own dict at d -/
def ExV (cls : Value) (d : Option Addr) (a : Addr) : HO := .ext fun h => ∃ (o : Obj) (vs : Array Value), h.get? a = some o ∧ Zc cls d o ∧ o.data = .fields vs
section
variable {X : Cx} {pins : List (Addr × Obj)} {σ : L2.St} {H : Hp} {s : Shared} {a : Addr} {o : Obj} {cls : Value} {d : Option Addr}
theorem adopt (I : Inv X pins σ H s) (e : s.heap.get? a = some o) (z : Zc cls d o) (hd : ∃ vs, o.data = .fields vs) (na : H a = none) (nL : a ≠ X.env.locals) (n0 : X.s_0.heap.get? a = none) (np : ∀ p ∈ X.pn ++ pins, p.1 ≠ a) : Inv X pins σ (upd H a (ExV cls d a)) s := by
  have old : ∀ {b : Addr} {u : HO}, H b = some u → b ≠ a := fun e1 z => by rw [z, na] at e1; cases e1
  have up : ∀ {b : Addr} {u : HO}, H b = some u → upd H a (ExV cls d a) b = some u := fun e1 => by rw [upd_ne (old e1)]; exact e1
  have off : ∀ {b : Addr}, b ≠ a → H b = none → upd H a (ExV cls d a) b = none := fun n e1 => by rw [upd_ne n]; exact e1
  have ne0 : ∀ {b : Addr} {u : Obj}, X.s_0.heap.get? b = some u → b ≠ a := fun e1 z => by rw [z, n0] at e1; cases e1
  obtain ⟨vs, hd⟩ := hd
  refine { ok := I.ok, os := I.os, bare := I.bare, base := ⟨I.base.keep, I.base.slot, fun b u e1 e2 e3 => off (ne0 e1) (I.base.free b u e1 e2 e3), I.base.there, fun b xs e1 => up (I.base.tups b xs e1), fun b u v e1 => up (I.base.frzs b u v e1), fun b ps e1 => let ⟨m, q⟩ := I.base.tbls b ps e1; ⟨m, up q⟩⟩
           loc := I.loc, cell := I.cell, free := off (fun z => nL z.symm) I.free, freeC := fun x c e1 => off (fun z => ?_) (I.freeC x c e1), pin := fun p hp => ?_, hok := fun b u e1 => ?_, len := I.len }
  · obtain ⟨v, oc, h1, h2⟩ := I.cell x c e1
    rw [z, e] at h1
    cases h1
    rw [hd] at h2
    cases h2
  · obtain ⟨h1, h2, h3⟩ := I.pin p hp
    exact ⟨h1, off (np p hp) h2, h3⟩
  · by_cases hb : b = a
    · rw [hb, upd_same] at e1
      cases e1
      rw [hb]
      exact ⟨⟨o, vs, e, z, hd⟩, ⟨o, e⟩, fun h1 h2 ⟨o1, v1, k1, k2, k3⟩ k => ⟨o1, v1, k _ k1, k2, k3⟩⟩
    · rw [upd_ne hb] at e1
      exact (I.hok b u e1).stay (fun _ _ _ q => q) (fun _ q => up q) fun _ _ q => up q
end
theorem flyZ_keeps {B : Heap} {l : List Env} {a : Addr} {Z : Obj → Prop} {h h' : Heap} (k : ∀ b o, h.get? b = some o → h'.get? b = some o) : HandSPX.FlyingZ B l a Z h → HandSPX.FlyingZ B l a Z h'
  | ⟨f1, f2, f3, oe, vs, T, oT, ts, g1, g2, g3, g4, g5, g6, g7, g8, g9⟩ => ⟨fun b o e => k b o (f1 b o e), f2, f3.of_keeps fun b o e _ => ⟨o, k b o e, rfl⟩, oe, vs, T, oT, ts, k _ _ g1, g2, g3, g4, g5, g6, k _ _ g7, g8, g9⟩
/-- names of classes, and what they are -/
inductive NamesT (X : Cx) : List Expr → List Value → Prop
  | nil : NamesT X [] []
  | cons {x : Str} {c : Value} {p : Pos} {es : List Expr} {cs : List Value} : Gl X x → (x == ("__debug__" : Str)) = false → X.mg x = some c → NamesT X es cs → NamesT X (.Name x p :: es) (c :: cs)
theorem NamesT.run {X : Cx} {Y : Cx} {pins : List (Addr × Obj)} {σ : L2.St} {H : Hp} {s : Shared} {E : Value → Shared → Prop} {pos : Pos} (I : Inv Y pins σ H s) (e1 : Y.env = X.env) (e2 : Y.mg = X.mg) : ∀ {es : List Expr} {cs : List Value} {Q : List Value → Shared → Prop}, NamesT X es cs → Q cs s → wpAny (model Y.prog Y.w) Y.A (spliced (backTo pos (starEach es Y.env))) Q E s
  | _, _, _, .nil, q => Calls.spliced_nil q
  | _, _, _, .cons (x := x) (c := c) (p := p) (es := es) g nd m r, q => by
    show wpAny _ _ (spliced ((false, eval (.Name x p) Y.env) :: backTo pos (starEach es Y.env))) _ _ _
    exact Calls.spliced_cons (ld_glob I (show Gl Y x from by unfold Gl; rw [e1]; exact g) (e2 ▸ m) (NamesT.run I e1 e2 r q) nd)
theorem NamesT.len {X : Cx} : ∀ {es : List Expr} {cs : List Value}, NamesT X es cs → cs.length = es.length
  | _, _, .nil => rfl
  | _, _, .cons _ _ _ r => congrArg (· + 1) r.len
/-- the ends behind the clause: the name is gone, the error stays -/
def goneA (a : Addr) (cls : Value) (d : Option Addr) (D : Ends) (i : Nat) : Ends :=
  { nx := fun σ H => D.nx (σ.set i none) (upd H a (ExV cls d a)), rt := fun v H => D.rt v (upd H a (ExV cls d a)), bk := fun σ H => D.bk (σ.set i none) (upd H a (ExV cls d a)), ct := fun σ H => D.ct (σ.set i none) (upd H a (ExV cls d a)) }
def wClT (K : PySem.W.Frag) (Wo : WX) (D : Ends) (cs : List Value) (i : Nat) (ts : Addr → Value → Option Addr → TS) : WX := fun cls d σ H => ∃ g : Value → Bool, (∀ c ∈ cs, PySem.W.exmOne K cls c = some (g c)) ∧ (cs.any g = true → ∀ a, H a = none → ts a cls d (goneA a cls d D i) (σ.set i (some (.ref a))) H) ∧ (cs.any g = false → Wo cls d σ H)
section
variable {X : Cx} {body su : List Stmt} {b₀ : Stmt} {es : List Expr} {cs : List Value} {n : Str} {i k : Nat} {p1 p2 pos : Pos} {tb : WX → TS} {Wo : WX} {ts : Addr → Value → Option Addr → TS}
theorem ps_tryT (hs : X.stack = X.env :: X.outer) (hf : X.env.frame = some X.env.locals) (hx : X.ex = []) (hN : X.N.Nodup) (hi : X.N[i]? = some n) (hl : X.env.kindOf n = some .local) (tk : Takes X Wo) (nm : NamesT X es cs) (few : es.length ≤ 1000)
    (hb : ∀ (W : WX) (pn : List (Addr × Obj)) (xe : Value → Shared → Prop), Takes (X.tr pn xe) W → PassesOwn (model X.prog X.w) X.A X.env xe → PSs (X.tr pn xe) body (tb W))
    (hsu : ∀ (a : Addr) (oe : Obj) (cls : Value) (d : Option Addr) (pn : List (Addr × Obj)), Zc cls d oe → (∃ vs, oe.data = .fields vs) → PSs (X.suite a ((a, oe) :: pn)) (b₀ :: su) (ts a cls d)) :
    PS X (.Try body [.ExceptHandler (some (.Tuple es k p1)) (some n) (b₀ :: su) p2] [] [] pos) (fun D σ H => tb (wClT X.K Wo D cs i ts) D σ H) := by
  refine ⟨fun pins s σ H D I h => ?_⟩
  have ok := I.ok
  have frm : X.A.frames = some (X.env :: X.outer) := ok.frames.trans (congrArg some hs)
  refine wpAny_Try_except (wpAny_mono ((hb (wClT X.K Wo D cs i ts) (X.pn ++ pins) (fun e u1 => wpAny (model X.prog X.w) X.A (noteFrame e X.env) (fun _ u2 => wpAny (model X.prog X.w) X.A (setFlight e none) (fun _ u3 =>
    wpAny (model X.prog X.w) X.A (handleBy e X.env [.ExceptHandler (some (.Tuple es k p1)) (some n) (b₀ :: su) p2]) (SP X pins D) X.xe u3) X.xe u2) X.xe u1) (fun u s' air => ?_) PassesOwn.looking).run [] s σ H D (I.toTry _) h) (fun f s1 ends => ?_) (fun e s1 z => z))
  · obtain ⟨a, B, sI, ps', τ, T, cls, d, rfl, Jt, nb, up, sky, na, os, ag, g, hg, yes, no⟩ := air
    have J : Inv X pins τ T sI := Jt.ofTry ok
    rw [show (X.tr (X.pn ++ pins) _).stack = X.env :: X.outer from hs] at sky
    have nB : B.get? a = none := by
      rcases sky with ⟨_, z, _⟩ | ⟨_, z, _⟩ | ⟨_, z, _⟩ <;> exact z
    show wpAny (model X.prog X.w) X.A (noteFrame (.ref a) X.env) _ _ _
    refine Sky.land Zc.steady frm hf sky fun h3 fl up3 => ?_
    have J3 : Inv X pins τ T { s' with heap := h3 } := J.landed nb fl.1 (up.trans up3) os ag
    obtain ⟨ob, fv, e3, z3, d3⟩ := fl.there
    have out : a ∉ frs (X.env :: X.outer) := fun hm => by
      obtain ⟨_, o', e', no'⟩ := fl.2.2.1.mem hm
      rw [e3] at e'
      cases e'
      exact no' _ d3
    have nL : a ≠ X.env.locals := fun z => out (List.mem_filterMap.mpr ⟨_, List.mem_cons_self, hf.trans (congrArg some z.symm)⟩)
    have nF : a ∉ X.fs := fun hm => by
      obtain ⟨y, hy, q⟩ := List.mem_filterMap.mp hm
      exact out (List.mem_filterMap.mpr ⟨y, List.mem_cons_of_mem _ hy, q⟩)
    have nI : sI.heap.get? a = none := by
      cases e : sI.heap.get? a with
      | none => rfl
      | some o =>
        have := nb a o e (by rw [show (X.tr (X.pn ++ pins) _).stack = X.env :: X.outer from hs]; exact out)
        rw [nB] at this
        cases this
    have n0 : X.s_0.heap.get? a = none := by
      cases e : X.s_0.heap.get? a with
      | none => rfl
      | some o =>
        obtain ⟨o', e'⟩ := J.base.there a o e (by rw [hx]; simp)
        rw [nI] at e'
        cases e'
    have np : ∀ p ∈ X.pn ++ pins, p.1 ≠ a := fun p hp z => by
      have := (J.pin p hp).1
      rw [z, nI] at this
      cases this
    have S3 := J3.suite e3 d3 na nL nF
    have kp : ∀ b o, h3.get? b = some o → (h3.push { cls := .type "tuple", data := .seq cs.toArray }).get? b = some o := fun b o e => Heap.get?_push_of_some _ e
    have fl' := flyZ_keeps kp fl
    have up' : h3.UpToSlots (h3.push { cls := .type "tuple", data := .seq cs.toArray }) := Heap.UpToSlots.of_keeps kp
    have look : PySem.W.Looks (model X.prog X.w) (h3.push { cls := .type "tuple", data := .seq cs.toArray }) (typeOf (.ref a)) cls := fun A Q E u kq q => wpAny_typeOf_ref (kq _ _ (kp _ _ e3)) (z3.1 ▸ q)
    have J5 : Inv X pins τ T { s' with heap := h3.push { cls := .type "tuple", data := .seq cs.toArray } } := J.landed nb fl'.1 ((up.trans up3).trans up') os ag
    refine wpAny_handleBy_cons (codeAny_handlers_test (wpAny_Tuple (NamesT.run (X := X) (Y := X.suite a ((a, ob) :: (X.pn ++ pins))) S3 rfl rfl nm ⟨by rw [nm.len]; exact Nat.le_trans few (by decide), ?_⟩))) nofun
    refine (exm_tupN (M := model X.prog X.w) J5.kIn look (Heap.get?_push_size _ rfl) hg).here ?_
    have land : ∀ {Q : Unit → Shared → Prop} {E : Value → Shared → Prop}, (∀ h4 ob4, Zc cls d ob4 → (∃ fv, ob4.data = .fields fv) → Inv (X.suite a ((a, ob4) :: (X.pn ++ pins))) [] τ T { s' with heap := h4 } → Q () { s' with heap := h4 }) →
        wpAny (model X.prog X.w) (X.A.mark (some (.ref a))) (setFlight (.ref a) none) Q E { s' with heap := h3.push { cls := .type "tuple", data := .seq cs.toArray } } := fun {Q E} q => HandSPX.lands_againZ fl' fun h4 fl4 up4 => by
      have J4 : Inv X pins τ T { s' with heap := h4 } := J.landed nb fl4.1 (((up.trans up3).trans up').trans up4) os ag
      obtain ⟨o4, f4, e4, z4, d4⟩ := fl4.there
      exact q h4 o4 z4 ⟨_, d4⟩ (J4.suite e4 d4 na nL nF)
    cases hb1 : cs.any g with
    | false =>
      refine wpAny_handleBy_nil ?_
      obtain ⟨_, _, _, oe, vs, tb', _, _, he, _, hd, h1, _⟩ := id fl'
      unfold PySem.passOn
      refine wpAny_bind (wpAny_field he hd h1 ?_)
      rw [if_neg (show ¬ ((Value.ref tb' == Value.none) = true) from by simp)]
      have fin : wpAny (model X.prog X.w) X.A (setFlight (.ref a) X.env.frame) (fun _ u4 => wpAny (model X.prog X.w) X.A (throw (.ref a) : Sem Flow) (SP X pins D) X.xe u4) X.xe { s' with heap := h3.push { cls := .type "tuple", data := .seq cs.toArray } } := by
        rw [hf]
        exact HandSPX.setFlight_upZ fl' fun h4 hh4 up4 => wpAny_throw (tk _ _ ⟨a, B, sI, pins, τ, T, cls, d, rfl, J, nb, ((up.trans up3).trans up').trans up4, .inr (.inr (by rw [hs]; exact hh4)), na, os, ag, no hb1⟩)
      first
        | exact wpAny_bind (wpAny_pure (wpAny_bind fin))
        | exact wpAny_bind fin
    | true =>
      refine codeAny_handlers_suite_as (land fun h4 o4 z4 d4 S4 => ?_)
      refine store_ok (X := X.suite a ((a, o4) :: (X.pn ++ pins))) (v := .ref a) S4 hN hi (.inl hl) rfl (fun u5 S5 => ?_) (.inr hl)
      refine wpAny_mono ((hsu a o4 cls d (X.pn ++ pins) z4 d4).run [] u5 _ T _ S5 (yes hb1 a na)) (fun f u6 q => ?_) fun _ _ z => False.elim z
      have bye : ∀ {τ6 : L2.St} {T6 : Hp} {Q : Shared → Prop}, Inv (X.suite a ((a, o4) :: (X.pn ++ pins))) [] τ6 T6 u6 → (∀ u7, Inv X pins (τ6.set i none) (upd T6 a (ExV cls d a)) u7 → Q u7) → wpAny (model X.prog X.w) X.A (do bindName X.env n .none; unbindBehindTheSuite X.env n p2) (fun _ u7 => Q u7) X.xe u6 := by
        intro τ6 T6 Q S6 q6
        have S6' : Inv X ((a, o4) :: pins) τ6 T6 u6 := { ok := ok, os := S6.os, bare := S6.bare, base := S6.base, loc := S6.loc, cell := S6.cell, free := S6.free, freeC := S6.freeC, hok := S6.hok, len := S6.len
                                                         pin := fun p hp => S6.pin p (by
                                                           show p ∈ ((a, o4) :: (X.pn ++ pins)) ++ []
                                                           rw [List.append_nil]
                                                           rcases List.mem_append.mp hp with z | z
                                                           · exact List.mem_cons_of_mem _ (List.mem_append_left _ z)
                                                           · rcases List.mem_cons.mp z with z | z
                                                             · rw [z]; exact List.mem_cons_self
                                                             · exact List.mem_cons_of_mem _ (List.mem_append_right _ z)) }
        refine gone_ok S6' hN hi hl fun u7 J7 => q6 u7 ?_
        obtain ⟨g1, g2, g3, g4, g5⟩ := J7.pin (a, o4) (List.mem_append_right _ List.mem_cons_self)
        have J8 : Inv X pins (τ6.set i none) T6 u7 := { ok := ok, os := J7.os, bare := J7.bare, base := J7.base, loc := J7.loc, cell := J7.cell, free := J7.free, freeC := J7.freeC, hok := J7.hok, len := J7.len
                                                        pin := fun p hp => J7.pin p ((List.mem_append.mp hp).elim (fun z => List.mem_append_left _ z) fun z => List.mem_append_right _ (List.mem_cons_of_mem _ z)) }
        exact adopt J8 g1 z4 d4 g2 nL n0 np
      cases f
      case ret u => obtain ⟨v6, τ6, T6, S6, r6, q6⟩ := q; exact bye S6 fun u7 J7 => ⟨_, _, _, J7, r6, q6⟩
      all_goals (obtain ⟨τ6, T6, S6, q6⟩ := q; exact bye S6 fun u7 J7 => ⟨_, _, J7, q6⟩)
  · have q := sp_out (fun S => Inv.ofTry S ok) ends
    cases f with
    | next => exact wpAny_execs_nil q
    | brk => exact q
    | cont => exact q
    | ret u => exact q
end
end HW

/-! Y5: isinstance of an error that is kept, and its attributes -/
namespace HW
open PySem PySem.Spec PyProof.Rows L2 LamX
/-- what a class of errors says of its own, as far as isinstance asks -/
structure VcOk (K : PySem.W.Frag) (D : Addr) : Prop where
  cl : (PySem.W.clsIn K D).isSome = true
  ga : PySem.W.findIn K (.ref D) "__getattribute__" = some (some (.builtin "BaseException.__getattribute__"))
  gt : PySem.W.findIn K (.ref D) "__getattr__" = some none
  sb : PySem.W.subIn K (.ref D) (.type "BaseException") = some true
  ca : PySem.W.findIn K (.ref D) "__class__" = some (some (.builtin "object.__class__"))
  sp : PySem.W.specialIn K (.builtin "object.__class__") "__get__" = some (some (.builtin "getset_descriptor.__get__"))
  tk : PySem.W.takesIn K (.builtin "object.__class__") = some true
  mr : PySem.W.mroIn K D (.type "object") = some true
/-- the error's dict is known, if it has one -/
def DcOk (H : Hp) (d : Option Addr) : Prop := d = none ∨ ∃ dd fs, d = some dd ∧ H dd = some (.xd fs)
theorem exV_inst {P : Program} {w : World} {H : Hp} {h : Heap} {a D : Addr} {d : Option Addr} (ok : HOk P w H h) (e : H a = some (ExV (.ref D) d a)) (hd : DcOk H d) : ∃ ox od, PySem.W.InstAt h a ox D od := by
  have z : ObjOk P w H h a (ExV (.ref D) d a) := ok a _ e
  obtain ⟨⟨o, vs, e1, e2, e3⟩, _, _⟩ := z
  have nc : PySem.W.notCls o = true := by unfold PySem.W.notCls; rw [e3] <;> rfl
  rcases hd with rfl | ⟨dd, fs, rfl, e4⟩
  · exact ⟨o, none, e1, e2.1, nc, by rw [e2.2]; trivial⟩
  · have y : ObjOk P w H h dd (.xd fs) := ok dd _ e4
    obtain ⟨mA, hns, _⟩ := y
    obtain ⟨od, ho, _⟩ := lookIn_ns hns
    exact ⟨o, some od, e1, e2.1, nc, by rw [e2.2]; exact ho⟩
def rIsV (K : PySem.W.Frag) : List V → Hp → VK → Prop := fun xs H Q => ∃ (a D : Addr) (d : Option Addr) (c : V) (cv : Value) (b : Bool), xs = [.ref a, c] ∧ H a = some (ExV (.ref D) d a) ∧ DcOk H d ∧ VcOk K D ∧ (∀ u, RelV c u → u = cv) ∧ PySem.W.kitOne K (.ref D) cv = some b ∧ Q (.bl b) H
theorem call_isV {X : Cx} : CallR X (.builtin "isinstance") (rIsV X.K) := by
  intro pins s σ H xs us Q I r h
  obtain ⟨a, D, d, c, cv, b, rfl, e, hd, T, hc, hk, q⟩ := h
  obtain ⟨u, u2, rfl, ru, ru2⟩ := vals2 r
  obtain rfl : u = Value.ref a := ru
  cases hc _ ru2
  obtain ⟨ox, od, J⟩ := exV_inst I.hok e hd
  exact PySem.W.kia_one (PySem.W.kitx_exc T.cl T.ga T.gt T.sb T.ca T.sp T.tk T.mr) I.kIn J hk (fun z => nomatch z) fun tk => ⟨.bl b, H, I.kept (t' := tk) fun _ _ z => z, rfl, q⟩
/-- e.f -/
def tVf (K : PySem.W.Frag) (f : Str) (te : TE) : TE := fun σ H Q => te σ H fun x H1 => ∃ (a D dd : Addr) (fs : List (Str × V)) (v : V), x = .ref a ∧ H1 a = some (ExV (.ref D) (some dd) a) ∧ H1 dd = some (.xd fs) ∧ XfC K D ∧ PySem.W.findIn K (.ref D) f = some none ∧ fs.lookup f = some v ∧ Q v H1
theorem pe_vf {X : Cx} {e : Expr} {te : TE} {pos : Pos} {f : Str} (he : PE X e te) (hb : attributeBase e f X.env (eval e X.env) = eval e X.env := by rfl) : PE X (.Attribute e f pos) (tVf X.K f te) := by
  refine ⟨fun pins s σ H Q I h => attr_of hb (thn (he.run pins s σ H _ I h) fun u s1 hh => ?_)⟩
  obtain ⟨x, H1, I1, rx, a, D, dd, fs, v, rfl, e1, e2, T, nf, l, q⟩ := hh
  obtain rfl : u = Value.ref a := rx
  have z : ObjOk X.prog X.w H1 s1.heap a (ExV (.ref D) (some dd) a) := I1.hok a _ e1
  obtain ⟨⟨o, vs, g1, g2, g3⟩, _, _⟩ := z
  have y : ObjOk X.prog X.w H1 s1.heap dd (.xd fs) := I1.hok dd _ e2
  obtain ⟨mA, hns, hr⟩ := y
  obtain ⟨od, ho, hl⟩ := lookIn_ns hns
  obtain ⟨u, hu, ru⟩ := RelO.some_of (v := v) (o := mA f) (by rw [← l]; exact hr f)
  have J : PySem.W.InstAt s1.heap a o D (some od) := ⟨g1, g2.1, by unfold PySem.W.notCls; rw [g3] <;> rfl, by rw [g2.2]; exact ho⟩
  exact HandSPX.exc_get I1.kIn J T.ga T.gg T.exC (PySem.W.findObj_own T.hdC nf rfl (by rw [hl, hu])) (handed_of ru) ⟨v, H1, I1.tok _, ru, q⟩
end HW

/-! Y6: a def whose parameter is a kept error: its rows `if isinstance(e, C): found.append((tag, e.f))` -/
namespace HW
open PySem PySem.Spec PyProof.Rows L2 LamX
/-- slot 0 holds the kept error at a, which bears x -/
structure Fx (K : PySem.W.Frag) (mg : Str → Option Value) (w : W) (σ : L2.St) (a D : Addr) (d : Option Addr) (x : Xd) : Prop where
  s0 : σ[0]? = some (some (.ref a))
  ha : w.H a = some (ExV (.ref D) d a)
  na : a ∉ w.R
  xo : XOk K mg w (.ref D) d x
section
variable {K : PySem.W.Frag} {M : MI} {mg : Str → Option Value} {w0 w w1 : W} {σ : L2.St} {ρ : List En} {a D : Addr} {d : Option Addr} {x : Xd}
theorem Fx.stp (f : Fx K mg w σ a D d x) (s : Stp w w1) (g : Gd M w) : Fx K mg w1 σ a D d x := ⟨f.s0, s.k _ _ f.ha f.na, r_up s f.ha f.na, f.xo.stp s g⟩
theorem Fx.dc (f : Fx K mg w σ a D d x) : DcOk w.H d := by
  rcases f.xo.2 with ⟨e, _⟩ | ⟨dd, fvs, e1, e2, _⟩
  · exact .inl e
  · exact .inr ⟨dd, fvs, e1, e2⟩
theorem FsOk.put {p : Addr} {o : HO} (n : ¬ w.F p) {fs : List (Str × V)} {ds : List (Str × HW.D)} (h : FsOk K w fs ds) : FsOk K (w.own p o) fs ds := h.fk (fk_put n)
theorem fx_app {ds : List HW.D} {v : V} {y : HW.D} (so : SOk M K w0 w σ ρ) (f : Fx K mg w σ a D d x) (r1 : ρ[1]? = some (.ls ds)) (s : Stp w w1) (g : Gd M w1) (dv : Dv K w1.F w1.H v y) :
    ∃ (p : Addr) (vs : List V), σ[1]? = some (some (.ref p)) ∧ w1.H p = some (.lst vs) ∧ vs.length = ds.length ∧ SOk M K w0 (w1.own p (.lst (vs ++ [v]))) σ (ρ.set 1 (.ls (ds ++ [y]))) ∧ Fx K mg (w1.own p (.lst (vs ++ [v]))) σ a D d x ∧ Fk w (w1.own p (.lst (vs ++ [v]))) := by
  have so1 : SOk M K w0 w1 σ ρ := so.stp s g
  have f1 := f.stp s so.gd
  obtain ⟨p, vs, y1, y2, y3, y4, y5⟩ := so1.ev.ok 1 _ r1
  have na : a ≠ p := fun z => by
    have := f1.ha
    rw [z, y2] at this
    unfold ExV at this
    cases this
  refine ⟨p, vs, y1, y2, y5.length, ?_, ⟨f.s0, ?_, f1.na, ?_⟩, (s.fk so.gd).trans (fk_put y3)⟩
  · exact so1.put (en' := .ls _) y1 r1 rfl (.inl rfl) rfl ⟨p, vs ++ [v], rfl, upd_same, y3, y4, (y5.app (.cons dv .nil)).fk (fk_put y3)⟩ fun b sb => ls_same sb
  · show upd w1.H p _ a = _
    rw [upd_ne na]
    exact f1.ha
  · rcases f1.xo with ⟨h, z | ⟨dd, fvs, e1, e2, e3, e4⟩⟩
    · exact ⟨h, .inl z⟩
    · refine ⟨h, .inr ⟨dd, fvs, e1, ?_, e3, e4.put y3⟩⟩
      show upd w1.H p _ dd = _
      rw [upd_ne fun z => by rw [z, y2] at e2; cases e2]
      exact e2
end
/-- which classes there are, and how isinstance tells them apart -/
structure VgOk (K : PySem.W.Frag) (mg : Str → Option Value) (ns : List Str) : Prop where
  ad : ∀ n ∈ ns, ∃ C : Addr, mg n = some (.ref C) ∧ VcOk K C
  is : ∀ n ∈ ns, ∀ n' ∈ ns, ∀ c c' : Value, mg n = some c → mg n' = some c' → PySem.W.kitOne K c c' = some (decide (n = n'))
/-- a row: the class, the tag, the attribute or none -/
abbrev FRow := Str × Str × Option Str
def fVal (x : Xd) : Option Str → Option HW.D
  | some f => x.fs.lookup f
  | none => some .none
def fStep (x : Xd) (r : FRow) (ds : List HW.D) : Option (List HW.D) := if x.C = r.1 then (fVal x r.2.2).map fun y => ds ++ [.tuple [.str r.2.1, y]] else some ds
section
variable {X : Cx} {M : MI} {w0 : W} {ns : List Str}
/-- the reading of rows: from ds to es -/
def tFi (M : MI) (K : PySem.W.Frag) (mg : Str → Option Value) (w0 : W) (ns : List Str) (step : Xd → List HW.D → Option (List HW.D)) : TS := fun De σ H => ∃ (w : W) (ρ : List En) (a D : Addr) (d : Option Addr) (x : Xd) (ds es : List HW.D), w.H = H ∧ SOk M K w0 w σ ρ ∧ Fx K mg w σ a D d x ∧ x.C ∈ ns ∧
  ρ[1]? = some (.ls ds) ∧ ds.length ≤ 100 ∧ step x ds = some es ∧ ∀ w' : W, SOk M K w0 w' σ (ρ.set 1 (.ls es)) → Fx K mg w' σ a D d x → w'.c = w.c → Fk w w' → De.nx σ w'.H
/-- what a class with an attribute must say for it to be read -/
structure VfOk (K : PySem.W.Frag) (mg : Str → Option Value) (n f : Str) : Prop where
  xf : ∀ C : Addr, mg n = some (.ref C) → XfC K C ∧ PySem.W.findIn K (.ref C) f = some none
theorem set_same {l : List En} {i : Nat} {e : En} (h : l[i]? = some e) : l.set i e = l := by
  obtain ⟨hi, rfl⟩ := List.getElem?_eq_some_iff.mp h
  exact List.set_getElem_self hi
theorem s_fi {n tag e0 found : Str} {fo : Option Str} {ex : Expr} {pe : TE} {pos p1 p2 p3 p4 p5 p6 p7 p8 p9 p10 : Pos} {k j1 : Nat} (V : VgOk X.K X.mg ns) (hn : n ∈ ns) (hg : Gl X n) (hd : (n == ("__debug__" : Str)) = false) (gi : Gl X "isinstance") (mi : X.mg "isinstance" = none)
    (h0 : ∀ p, PE X (.Name e0 p) (tVar 0)) (h1 : ∀ p, PE X (.Name found p) (tVar 1)) (hx : PE X ex pe)
    (hv : ∀ (w : W) (σ : L2.St) (ρ : List En) (a D : Addr) (d : Option Addr) (x : Xd) (y : HW.D) (Q : VK), SOk M X.K w0 w σ ρ → Fx X.K X.mg w σ a D d x → x.C = n → fVal x fo = some y → (∀ v, Dv X.K w.F w.H v y → Q v w.H) → pe σ w.H Q)
    (hbase : attributeBase (.Name found p1) "append" X.env (eval (.Name found p1) X.env) = eval (.Name found p1) X.env := by rfl)
    (hfew : ((backTo p2 (starEach [.Tuple [.Constant (.str tag) j1 p3, ex] k p4] X.env)).all (fun x => !x.1) && (backToKw p2 (keywordEach [] X.env)).all (fun x => x.1.isSome) && decide (([.Tuple [.Constant (.str tag) j1 p3, ex] k p4] : List Expr).length + ([] : List Keyword).length + (if ([] : List Keyword).isEmpty then 0 else 1) < 30)) = true := by rfl)
    (hline : (p5.endLine == p2.line) = true := by rfl) (hs : starEach [.Tuple [.Constant (.str tag) j1 p3, ex] k p4] X.env = (false, eval (.Tuple [.Constant (.str tag) j1 p3, ex] k p4) X.env) :: starEach [] X.env := by rfl)
    (hs1 : starEach [.Constant (.str tag) j1 p3, ex] X.env = (false, eval (.Constant (.str tag) j1 p3) X.env) :: starEach [ex] X.env := by rfl) (hs2 : starEach [ex] X.env = (false, eval ex X.env) :: starEach [] X.env := by rfl)
    (hsw : swapsWith (.Call (.Attribute (.Name found p1) "append" p5) [.Tuple [.Constant (.str tag) j1 p3, ex] k p4] [] p2) none p6.line X.env = pure false := by rfl)
    (ht : ∀ whole, isTrue (.Call (.Name "isinstance" p7) [.Name e0 p8, .Name n p9] [] pos) X.env whole = (do let v ← whole; standAt pos; holding [v] (truthy v)) := by intro _; rfl) :
    PS X (.If (.Call (.Name "isinstance" p7) [.Name e0 p8, .Name n p9] [] pos) [.Expr (.Call (.Attribute (.Name found p1) "append" p5) [.Tuple [.Constant (.str tag) j1 p3, ex] k p4] [] p2) p6] [] p10) (tFi M X.K X.mg w0 ns (fun x ds => fStep x (n, tag, fo) ds)) := by
  obtain ⟨C, mC, vC⟩ := V.ad n hn
  refine PS.imp (ps_if (pt_truth (pe_callB call_isV gi mi (by decide +kernel) (pa_cons (h0 p8) (pa_cons (pe_glob hg mC (v := .ref C) rfl hd) pa_nil))) ht)
    (pss_one (ps_expr (pe_bm PySem.F.plainAttrs_list PySem.F.slot_list_append PySem.F.type_list_append mt_append (h1 p1) (pa_cons (pe_tup (pa_cons pe_str (pa_cons hx pa_nil hs2) hs1)) pa_nil hs) hbase hfew hline hs (by rfl)) hsw)) pss_nil) ?_
  rintro De σ H ⟨w, ρ, a, D, d, x, ds, es, rfl, so, f, xn, r1, hl, st, kk⟩
  obtain ⟨D', mD, vD⟩ := V.ad x.C xn
  have eD : D' = D := by
    have := f.xo.1
    rw [mD] at this
    exact Value.ref.inj (Option.some.inj this)
  subst eD
  refine ⟨_, f.s0, a, D', d, .ref C, .ref C, decide (x.C = n), rfl, f.ha, f.dc, vD, fun u r => r, V.is x.C xn n hn _ _ mD mC, decide (x.C = n), rfl, ?_⟩
  have st : fStep x (n, tag, fo) ds = some es := st
  by_cases e : x.C = n
  · rw [show fStep x (n, tag, fo) ds = (fVal x fo).map (fun y => ds ++ [PyData.tuple [PyData.str tag, y]]) from if_pos e] at st
    obtain ⟨y, ey, rfl⟩ := Option.map_eq_some_iff.mp st
    rw [decide_eq_true e]
    refine iteT ?_
    obtain ⟨p0, vs0, e1, e2, _⟩ := so.ev.ok 1 _ r1
    refine ⟨_, e1, tyL e2, hv w σ ρ a D' d x y _ so f e ey fun v dv => ⟨(show 2 ≤ sizeLine by decide), fun p hp => ?_⟩⟩
    have g2 := gd_new (o := .tup [.str tag, v]) so.gd hp
    have s2 := stp_new (o := .tup [.str tag, v]) hp
    obtain ⟨p1', vs, q1, q2, q3, q4, q5, q6⟩ := fx_app so f r1 s2 g2 (new_tup so.gd hp (.cons (.str tag) (.cons dv .nil)))
    rw [e1] at q1
    cases q1
    exact ⟨p0, vs, .ref p, rfl, rfl, q2, (by rw [sizeLine_eq, q3]; exact Nat.lt_of_le_of_lt hl (by decide)), kk _ q4 q5 rfl q6⟩
  · rw [show fStep x (n, tag, fo) ds = some ds from if_neg e] at st
    cases st
    rw [decide_eq_false e]
    refine iteF ?_
    have := kk w (by rw [set_same r1]; exact so) f rfl (Fk.refl w)
    exact this
end
end HW

/-! Y7: of which one class an error is: the whole def -/
namespace HW
open PySem PySem.Spec PyProof.Rows L2 LamX
def foldF (x : Xd) : List FRow → List D → Option (List D)
  | [], ds => some ds
  | r :: rs, ds => (fStep x r ds).bind (foldF x rs)
def outF (es : List D) : D := match es with
  | [e] => e
  | _ => .tuple [.str "odd", .int es.length]
def faultD (rs : List FRow) (x : Xd) : Option D := (foldF x rs []).map outF
theorem fStep_len {x : Xd} {r : FRow} {ds es : List D} (h : fStep x r ds = some es) : es.length ≤ ds.length + 1 := by
  unfold fStep at h
  split at h
  · obtain ⟨y, _, rfl⟩ := Option.map_eq_some_iff.mp h
    simp
  · cases h
    omega
theorem foldF_len {x : Xd} : ∀ {rs : List FRow} {ds es : List D}, foldF x rs ds = some es → es.length ≤ ds.length + rs.length
  | [], _, _, h => by cases h; simp
  | r :: rs, ds, es, h => by
    obtain ⟨e1, h1, h2⟩ := Option.bind_eq_some_iff.mp h
    have := fStep_len h1
    have := foldF_len h2
    simp only [List.length_cons]
    omega
inductive RowsThen (X : Cx) (M : MI) (w0 : W) (ns : List Str) (ws : WS) : List Stmt → List FRow → Prop
  | nil {sts : List Stmt} : PSs X sts (tS M X.K w0 ws) → RowsThen X M w0 ns ws sts []
  | cons {st : Stmt} {sts : List Stmt} {r : FRow} {rs : List FRow} : PS X st (tFi M X.K X.mg w0 ns (fun x ds => fStep x r ds)) → RowsThen X M w0 ns ws sts rs → RowsThen X M w0 ns ws (st :: sts) (r :: rs)
def tRw (M : MI) (K : PySem.W.Frag) (mg : Str → Option Value) (w0 : W) (ns : List Str) (ws : WS) (rs : List FRow) : TS := fun De σ H => ∃ (w : W) (ρ : List En) (a A : Addr) (d : Option Addr) (x : Xd) (ds es : List D) (rt : D → Nat → Prop), w.H = H ∧ SOk M K w0 w σ ρ ∧ Fx K mg w σ a A d x ∧ x.C ∈ ns ∧
  ρ[1]? = some (.ls ds) ∧ ds.length + rs.length ≤ 100 ∧ foldF x rs ds = some es ∧ ws { nx := fun _ _ => False, rt := rt } (ρ.set 1 (.ls es)) w.c ∧ ∀ (w' : W) (v : V) (y : D), Stp w0 w' → Gd M w' → Dv K w'.F w'.H v y → rt y w'.c → De.rt v w'.H
theorem rows_run {X : Cx} {M : MI} {w0 : W} {ns : List Str} {ws : WS} : ∀ {sts : List Stmt} {rs : List FRow}, RowsThen X M w0 ns ws sts rs → PSs X sts (tRw M X.K X.mg w0 ns ws rs)
  | _, _, .nil h => PSs.imp h fun De σ H ⟨w, ρ, a, A, d, x, ds, es, rt, eh, so, f, xn, r1, hl, fo, hw, k⟩ => by
    cases fo
    rw [set_same r1] at hw
    exact ⟨w, ρ, _, eh, so, hw, fun _ _ _ _ _ z => z.elim, fun w' v y s g dv q => k w' v y s g dv q, fun _ _ _ _ _ z => z.elim, fun _ _ _ _ _ z => z.elim⟩
  | _, _, .cons (r := r) (rs := rs) h t => by
    refine PSs.imp (pss_cons h (rows_run t)) ?_
    rintro De σ H ⟨w, ρ, a, A, d, x, ds, es, rt, eh, so, f, xn, r1, hl, fo, hw, k⟩
    obtain ⟨e1, h1, h2⟩ := Option.bind_eq_some_iff.mp fo
    simp only [List.length_cons] at hl
    have hi : 1 < ρ.length := (List.getElem?_eq_some_iff.mp r1).1
    refine ⟨w, ρ, a, A, d, x, ds, e1, eh, so, f, xn, r1, by omega, h1, fun w' so' f' ec fk => ?_⟩
    have := fStep_len h1
    exact ⟨w', _, a, A, d, x, e1, es, rt, rfl, so', f', xn, List.getElem?_set_self hi, by omega, h2, by rw [List.set_set, ec]; exact hw, k⟩
def wFaultRet : WE := wIfE (wTst (wOp eqD (wF lenD (wLook 1)) (wC (.int 1)))) (wOp ixD (wLook 1) (wC (.int 0))) (wTup (wCons (wC (.str "odd")) (wCons (wF lenD (wLook 1)) wNil)))
theorem faultRet {es : List D} {c : Nat} {Q : D → Nat → Prop} (h : es.length ≤ 100) (q : Q (outF es) c) : wFaultRet [.un, .ls es] c Q := by
  have h1 : ∀ (b : Bool), eqD (.int (es.length : Int)) (.int 1) = some (.bool b) → (if b = true then (wOp ixD (wLook 1) (wC (.int 0))) [.un, .ls es] c Q else (wTup (wCons (wC (.str "odd")) (wCons (wF lenD (wLook 1)) wNil))) [.un, .ls es] c Q) → wFaultRet [.un, .ls es] c Q := fun b e k =>
    ⟨.ls es, .list es, rfl, rfl, .int es.length, rfl, _, e, b, rfl, k⟩
  match es, h, q, h1 with
  | [], h, q, h1 => exact h1 false rfl ⟨.ls [], .list [], rfl, rfl, .int 0, rfl, (by decide : 2 ≤ LIM), q⟩
  | [e], h, q, h1 => exact h1 true rfl ⟨.ls [e], .list [e], rfl, rfl, e, rfl, q⟩
  | e :: e2 :: r, h, q, h1 =>
    refine h1 false ?_ ⟨.ls (e :: e2 :: r), .list (e :: e2 :: r), rfl, rfl, .int (e :: e2 :: r).length, rfl, (by decide : 2 ≤ LIM), q⟩
    show some (PyData.bool (((e :: e2 :: r).length : Int) == 1)) = _
    congr 2
def faultSp (M : MI) (K : PySem.W.Frag) (mg : Str → Option Value) (ns : List Str) (rs : List FRow) : Sp := fun vs H Q _ => ∃ (w : W) (a A : Addr) (d : Option Addr) (x : Xd) (y : D), vs = [.ref a] ∧ w.H = H ∧ Gd M w ∧ w.H a = some (ExV (.ref A) d a) ∧ a ∉ w.R ∧ XOk K mg w (.ref A) d x ∧ x.C ∈ ns ∧
  faultD rs x = some y ∧ ∀ (w' : W) (v : V), Stp w w' → Gd M w' → Dv K w'.F w'.H v y → w'.c = w.c → Q v w'.H
theorem fn_fault {P : Program} {w : World} {K : PySem.W.Frag} {mg : Str → Option Value} {base : Heap} {k : Nat} {f : Addr} {fd : FuncData} {x qual : Str} {st : Stmt} {M : MI} {ns : List Str} {rs : List FRow} {e0 found : Str} (F : L2.Fun K x qual st f fd) (S : FnScope [e0, found] [e0] (defScope st)) (few : rs.length ≤ 100)
    (hb : ∀ (cdv : Value) (A : Around) (outer : List Env) (s : Shared) (H : Hp) (E : XK) (w0 : W), (A.deeper (PyProof.Rows.envOfC qual (defScope st) s.heap.objs.size f cdv)).guards = some [] → Room k (A.deeper (PyProof.Rows.envOfC qual (defScope st) s.heap.objs.size f cdv)) →
      PSs (cxOf CX0 P w K mg base [e0, found] qual (defScope st) f cdv A outer s H E).nox (defBody st) (tSeq (tAsg (tLst tNil) (gName 1)) (tRw M K mg w0 ns (wRet wFaultRet) rs))) : FnG P w K mg base CX0 (k + 1) f fd [e0] (faultSp M K mg ns rs) := by
  refine fnG F S (fun vs H Q E ⟨w, a, A, d, x, y, e, _⟩ => by rw [e]; rfl) fun cdv A outer s H vs Q E gds room h => ?_
  obtain ⟨w, a, A1, d, x, y, rfl, rfl, g, ha, na, xo, xn, fy, kk⟩ := h
  refine ⟨_, PSs.nox (hb cdv A outer s w.H E w gds room), by decide, fun p hp => ?_⟩
  obtain ⟨es, he, rfl⟩ := Option.map_eq_some_iff.mp fy
  have s1 := stp_own (o := .lst []) hp
  have g1 := gd_own (o := .lst []) g hp
  have nR : p ∉ w.R := r_free g hp
  have nF : ¬ w.F p := fun z => g.tf p z hp
  have ow : ∀ i b, Own (w.own p (.lst [])) [some (.ref a), some (.ref p)] [.un, .ls []] i b → i = 1 ∧ b = p := fun i b ⟨q, e, o1, o2, o3, o4⟩ => by
    match i with
    | 0 => cases o2; cases o3
    | 1 =>
      cases o1
      cases o2
      rcases o4 with z | ⟨_, _, _, z, _⟩
      · exact ⟨rfl, z⟩
      · cases z
    | i + 2 => cases o2
  have so : SOk M K w (w.own p (.lst [])) [some (.ref a), some (.ref p)] [.un, .ls []] := by
    refine ⟨⟨rfl, fun i e q => ?_, fun i j b o1 o2 => (ow i b o1).1.trans (ow j b o2).1.symm⟩, g1, s1, fun i b o => by rw [(ow i b o).2]; exact hp⟩
    match i with
    | 0 => cases q; exact True.intro
    | 1 => cases q; exact ⟨p, [], rfl, own_at, nF, nR, .nil⟩
    | i + 2 => cases q
  have fx : Fx K mg w [some (.ref a), some (.ref p)] a A1 d x := ⟨rfl, ha, na, xo⟩
  refine ⟨w.own p (.lst []), [.un, .ls []], a, A1, d, x, [], es, fun y c => y = outF es ∧ c = w.c, rfl, so, fx.stp s1 g, xn, rfl, by simpa using few, he, faultRet ?_ ⟨rfl, rfl⟩, fun w' v y' s' g' dv q => ?_⟩
  · have := foldF_len he
    simp at this
    omega
  · obtain ⟨rfl, ec⟩ := q
    exact kk w' v s' g' dv ec
end HW

/-! Y8: what a call comes to: the def that calls what it got and keeps its error -/
namespace HW
open PySem PySem.Spec PyProof.Rows L2 LamX
theorem takes_len {X : Cx} {W : WX} (t : Takes X W) : Takes X (fun cls d σ H => σ.length = X.N.length → W cls d σ H) := fun u s' ⟨a, B, sI, pins, σ, H, cls, d, e, I, nb, up, sky, na, os, ag, w⟩ => t u s' ⟨a, B, sI, pins, σ, H, cls, d, e, I, nb, up, sky, na, os, ag, w I.len⟩
/-- names of classes in a row -/
inductive NamesS (X : Cx) : List Expr → List Str → Prop
  | nil : NamesS X [] []
  | cons {x : Str} {p : Pos} {es : List Expr} {l : List Str} : Gl X x → (x == ("__debug__" : Str)) = false → NamesS X es l → NamesS X (.Name x p :: es) (x :: l)
theorem NamesS.get {X : Cx} : ∀ {es : List Expr} {l : List Str}, NamesS X es l → (∀ n ∈ l, ∃ C : Addr, X.mg n = some (.ref C)) → ∃ cs, NamesT X es cs ∧ (∀ c ∈ cs, ∃ n ∈ l, X.mg n = some c) ∧ ∀ n ∈ l, ∃ c ∈ cs, X.mg n = some c
  | _, _, .nil, _ => ⟨[], .nil, fun c h => (by cases h), fun n h => (by cases h)⟩
  | _, _, .cons (x := x) g d r, h => by
    obtain ⟨C, hC⟩ := h x List.mem_cons_self
    obtain ⟨cs, h1, h2, h3⟩ := r.get fun n hn => h n (List.mem_cons_of_mem _ hn)
    refine ⟨.ref C :: cs, .cons g d hC h1, fun c hc => ?_, fun n hn => ?_⟩
    · rcases List.mem_cons.mp hc with rfl | hc
      · exact ⟨x, List.mem_cons_self, hC⟩
      · obtain ⟨n, e1, e2⟩ := h2 c hc
        exact ⟨n, List.mem_cons_of_mem _ e1, e2⟩
    · rcases List.mem_cons.mp hn with rfl | hn
      · exact ⟨_, List.mem_cons_self, hC⟩
      · obtain ⟨c, e1, e2⟩ := h3 n hn
        exact ⟨c, List.mem_cons_of_mem _ e1, e2⟩
theorem NamesS.len {X : Cx} : ∀ {es : List Expr} {l : List Str}, NamesS X es l → es.length = l.length
  | _, _, .nil => rfl
  | _, _, .cons _ _ r => congrArg (· + 1) r.len
/-- what is caught: an error of one of the classes, in a world -/
def CaughtW (K : PySem.W.Frag) (mg : Str → Option Value) (M : MI) (ns : List Str) (T : Hp → Value → Option Addr → W → Xd → Prop) : XK := fun cls d H => ∃ (w : W) (x : Xd), w.H = H ∧ Gd M w ∧ XOk K mg w cls d x ∧ x.C ∈ ns ∧ T H cls d w x
/-- try: found = a() / except (..) as e: caught = e -/
def tOutTry (f c' : Addr) (q : Str) (tl : XK → Hp → VK → Prop) (C : Value → Option Addr → Hp → Prop) : TS := fun De σ H => σ.length = 4 ∧ σ[0]? = some (some (.ref f)) ∧ H c' = some (CodeO c' q) ∧
  ∃ Ech : XK, (∀ cls d H', Ech cls d H' → C cls d H' ∧ ∀ a, H' a = none → ∀ σ' : L2.St, σ'.length = 4 → σ'[1]? = some (some (.ref a)) → De.nx σ' (upd H' a (ExV cls d a))) ∧ tl Ech H fun v H' => De.nx (σ.set 2 (some v)) H'
theorem s_outTry {X : Cx} {ns : List Str} {tl : XK → Hp → VK → Prop} {f c' : Addr} {q a cg fd en : Str} {es : List Expr} {k3 : Nat} {p1 p2 p3 p4 p5 p6 p7 p8 p9 p10 : Pos} (hs : X.stack = X.env :: X.outer) (hf : X.env.frame = some X.env.locals) (hx : X.ex = []) (hN : X.N = [a, cg, fd, en]) (nd : [a, cg, fd, en].Nodup)
    (lf : X.env.scope.names.lookup fd = some .local) (lc : X.env.scope.names.lookup cg = some .local) (le : X.env.scope.names.lookup en = some .local) (ext : ExT X.K X.mg ns) (hn : NamesS X es ns) (few : ns.length ≤ 1000) (de : (en == ("__debug__" : Str)) = false) (dc : (en == ("__classdict__" : Str)) = false)
    (act : ∀ (W : WX) (pn : List (Addr × Obj)) (xe : Value → Shared → Prop) (E : XK), Takes (X.tr pn xe) W → (∀ cls d σ' H', E cls d H' → W cls d σ' H') → PE (X.tr pn xe) (.Call (.Name a p1) [] [] p2) (fun σZ HZ Q => σZ[0]? = some (some (.ref f)) ∧ HZ c' = some (CodeO c' q) ∧ tl E HZ Q))
    (h1 : swapsWith (.Call (.Name a p1) [] [] p2) (some (.Name fd p3)) p4.line X.env = pure false) (h2 : swapsWith (.Name en p5) (some (.Name cg p6)) p7.line X.env = pure false) :
    PS X (.Try [.Assign [.Name fd p3] (.Call (.Name a p1) [] [] p2) p4] [.ExceptHandler (some (.Tuple es k3 p8)) (some en) [.Assign [.Name cg p6] (.Name en p5) p7] p9] [] [] p10) (tOutTry f c' q tl fun cls _ _ => ∃ n ∈ ns, X.mg n = some cls) := by
  obtain ⟨cs, nt, c1, c2⟩ := hn.get ext.cl
  have NN : X.N.Nodup := by rw [hN]; exact nd
  have n2 : X.N[2]? = some fd := by rw [hN]; rfl
  have n1 : X.N[1]? = some cg := by rw [hN]; rfl
  have n3 : X.N[3]? = some en := by rw [hN]; rfl
  have lenN : X.N.length = 4 := by rw [hN]; rfl
  refine PS.imp (ps_tryT (i := 3) (Wo := fun _ _ _ _ => False) hs hf hx NN n3 le takes0 nt (by rw [hn.len]; exact few)
    (tb := fun W D σ H => σ[0]? = some (some (.ref f)) ∧ H c' = some (CodeO c' q) ∧ ∃ Ech : XK, (∀ cls d σ' H', σ'.length = 4 → Ech cls d H' → W cls d σ' H') ∧ tl Ech H fun v H' => D.nx (σ.set 2 (some v)) H')
    (ts := fun a cls d => tAsg (tVar 3) (gName 1)) (fun W pn xe tk _ => ?_) (fun a oe cls d pn _ _ => pss_one (ps_set (i := 1) NN n1 (.inl lc) (pe_var n3 (.inl le) de dc) h2 (.inr lc)))) ?_
  · refine ⟨fun pins s σ H D I ⟨e1, e2, Ech, hW, want⟩ => ?_⟩
    have tk' := takes_len tk
    have hp := act _ pn xe Ech tk' (fun cls d σ' H' h l => hW cls d σ' H' (by rw [l]; exact lenN) h)
    exact (pss_one (ps_set (X := X.tr pn xe) (i := 2) (pos := p4) NN n2 (.inl lf) hp h1 (.inr lf))).run pins s σ H D I ⟨e1, e2, want⟩
  · rintro D σ H ⟨hl, e1, e2, Ech, hC, want⟩
    refine ⟨e1, e2, Ech, fun cls d σ' H' l h => ?_, want⟩
    obtain ⟨⟨n, hn1, hn2⟩, k⟩ := hC cls d H' h
    refine ⟨fun c => (PySem.W.exmOne X.K cls c).getD false, fun c hc => ?_, fun _ a na => ?_, fun z => ?_⟩
    · obtain ⟨n', h3, h4⟩ := c1 c hc
      show PySem.W.exmOne X.K cls c = some ((PySem.W.exmOne X.K cls c).getD false)
      rw [ext.ex n hn1 n' h3 cls c hn2 h4]
      rfl
    · refine ⟨.ref a, List.getElem?_set_self (by rw [l]; decide), ?_⟩
      refine k a na _ (by simpa using l) ?_
      rw [List.getElem?_set_ne (by decide), List.getElem?_set_self (by simp [l])]
    · obtain ⟨c, h3, h4⟩ := c2 n hn1
      have : cs.any (fun c => (PySem.W.exmOne X.K cls c).getD false) = true := List.any_eq_true.mpr ⟨c, h3, by rw [ext.ex n hn1 n hn1 cls c hn2 h4]; simp⟩
      rw [this] at z
      cases z
end HW

/-! Y9: the rule of `outcome(lambda: e)` -/
namespace HW
open PySem PySem.Spec PyProof.Rows L2 LamX
/-- what the lambda's parameters are: none, or one with a default -/
def LamDfl (X : Cx) (q : Arguments) (b : Expr) (sc : Scope) (bn : List Str) : Prop :=
  (defaultsOf q X.env = ([], []) ∧ bn = [] ∧ ∀ (qn : Str) (cl : List (Str × Addr)) (doc pm cv ct : Value), bindArgs (PySem.W.kdv_fn "<lambda>" qn q (.expr b) sc cl .none doc pm cv ct) ⟨[], []⟩ = pure []) ∨
  ∃ (e0 : Expr) (x : Str) (v0 : V), q.defaults = [e0] ∧ q.kw_defaults = [] ∧ q.kwonlyargs = [] ∧ PE X e0 (tC v0) ∧ bn = [x] ∧
    ∀ (u : Value) (t : Addr) (qn : Str) (cl : List (Str × Addr)) (doc pm cv ct : Value), ∃ k, bindArgs (PySem.W.kdv_fn "<lambda>" qn q (.expr b) sc cl (.ref t) doc pm cv ct) ⟨[], []⟩ = seqItems? (.ref t) >>= k ∧ k (some [u].toArray) = pure [(x, u)]
section
variable {X : Cx} {pins : List (Addr × Obj)} {σ : L2.St} {w : W} {s : Shared} {c P : Addr} {q : Arguments} {b : Expr} {sc : Scope} {pos : Pos} {E : Value → Shared → Prop} {Q : Value → Shared → Prop} {M : MI} {T : List (Addr × Str)} {bn : List Str}
/-- a new code object in its table: a world of its own -/
theorem tab_new {ps : Array Value} {c' : Addr} (g : Gd (MT M T) w) (hm : (P, lamQ X) ∈ T) (hu : ∀ p ∈ T, p.1 = P → p.2 = lamQ X) (hP : w.H P = some (.tbl ps)) (ht : TriplesOk ps.toList) (n : w.H c' = none) :
    ∃ w1 : W, w1.H = upd (upd w.H P (.tbl (ps ++ #[rawInt pos.line, rawInt pos.col, .ref c']))) c' (CodeO c' (lamQ X)) ∧ w1.c = w.c ∧ w1.F = w.F ∧ Stp w w1 ∧ Gd (MT M T) w1 := by
  obtain ⟨a, ma⟩ := Option.ne_none_iff_exists'.mp (g.nz True.intro)
  obtain ⟨Rs, Rt, e, i, t, nn⟩ := g.mi a ma
  have tP := t.tab _ hm
  have inR : P ∈ w.R := by rw [e]; exact List.mem_append_right _ tP.mem
  have nPc : P ≠ c' := ne_of_none hP n
  obtain ⟨H1, eH⟩ : ∃ H1, H1 = upd (upd w.H P (.tbl (ps ++ #[rawInt pos.line, rawInt pos.col, .ref c']))) c' (CodeO c' (lamQ X)) := ⟨_, rfl⟩
  have at_ : ∀ b, b ≠ P → b ≠ c' → H1 b = w.H b := fun b h1 h2 => by rw [eH, upd_ne h2, upd_ne h1]
  have atP : H1 P = some (.tbl (ps ++ #[rawInt pos.line, rawInt pos.col, .ref c'])) := by rw [eH, upd_ne nPc, upd_same]
  have atC : H1 c' = some (CodeO c' (lamQ X)) := by rw [eH, upd_same]
  have old : ∀ b o, w.H b = some o → b ≠ c' := fun b o z => ne_of_none z n
  have nF : ¬ w.F P := (g.tr P inR).2
  have up : ∀ b, w.H b ≠ none → H1 b ≠ none := fun b h => by rw [eH]; exact upd_some (upd_some h)
  refine ⟨⟨w.F, w.R ++ [c'], H1, w.c, w.mo⟩, eH, rfl, rfl, ⟨fun _ f => f, fun _ f => .inl f, fun b o h1 h2 => ?_, up, fun b hb => ?_, fun _ z => z⟩, ⟨fun b eb => ?_, fun z => ?_, fun _ => g.nz True.intro, fun b hb => ?_, fun b f => up b (g.tf b f)⟩⟩
  · exact (at_ b (fun z => h2 (z ▸ inR)) (old b o h1)).trans h1
  · rcases List.mem_append.mp hb with z | z
    · exact .inl z
    · rw [List.mem_singleton.mp z]
      exact .inr n
  · have eb' : w.mo = some b := eb
    rw [ma] at eb'
    cases eb'
    have nC : ∀ x ∈ w.R, x ≠ c' := fun x hx z => (g.tr x hx).1 (z ▸ n)
    refine ⟨Rs, Rt ++ [c'], by rw [e, List.append_assoc], M.st i fun x hx => at_ x (fun z => nn P tP.mem (z ▸ hx)) (nC x (by rw [e]; exact List.mem_append_left _ hx)), ⟨fun p hp => ?_, fun x hx => ?_⟩, fun x hx hs => ?_⟩
    · obtain ⟨m1, ps1, h1, h2, h3⟩ := t.tab p hp
      refine ⟨List.mem_append_left _ m1, ?_⟩
      have code : ∀ c0 : Addr, c0 ∈ Rt → w.H c0 = some (CodeO c0 p.2) → c0 ∈ Rt ++ [c'] ∧ H1 c0 = some (CodeO c0 p.2) := fun c0 h4 h5 => by
        refine ⟨List.mem_append_left _ h4, (at_ c0 (fun z => ?_) (old _ _ h5)).trans h5⟩
        rw [z, hP] at h5
        unfold CodeO at h5
        cases h5
      by_cases hb : p.1 = P
      · rw [hb, hP] at h1
        cases h1
        have eq : p.2 = lamQ X := hu p hp hb
        have eL : (ps ++ #[rawInt pos.line, rawInt pos.col, .ref c']).toList = ps.toList ++ [rawInt pos.line, rawInt pos.col, .ref c'] := by simp
        refine ⟨_, (congrArg H1 hb).trans atP, by rw [eL]; exact PySem.TriplesOk_snoc _ _ _ _ ht, fun pp cv hcv => ?_⟩
        rw [eL] at hcv
        rcases among_app _ ht hcv with z | z
        · obtain ⟨c0, e1, e2, e3⟩ := h3 pp cv z
          exact ⟨c0, e1, code c0 e2 e3⟩
        · exact ⟨c', z, List.mem_append_right _ List.mem_cons_self, by rw [eq]; exact atC⟩
      · refine ⟨ps1, (at_ p.1 hb (old _ _ h1)).trans h1, h2, fun pp cv hcv => ?_⟩
        obtain ⟨c0, e1, e2, e3⟩ := h3 pp cv hcv
        exact ⟨c0, e1, code c0 e2 e3⟩
    · rcases List.mem_append.mp hx with z | z
      · by_cases hb : x = P
        · exact .inl ⟨_, (congrArg H1 hb).trans atP⟩
        · have ex := at_ x hb (nC x (by rw [e]; exact List.mem_append_right _ z))
          exact (t.kind x z).imp (fun ⟨y, h⟩ => ⟨y, ex.trans h⟩) fun ⟨y, h⟩ => ⟨y, ex.trans h⟩
      · rw [List.mem_singleton.mp z]
        exact .inr ⟨_, atC⟩
    · rcases List.mem_append.mp hx with z | z
      · exact nn x z hs
      · rw [List.mem_singleton.mp z] at hs
        exact nC c' (by rw [e]; exact List.mem_append_left _ hs) rfl
  · rw [show w.mo = none from z] at ma
    cases ma
  · rcases List.mem_append.mp hb with z | z
    · exact ⟨up b (g.tr b z).1, (g.tr b z).2⟩
    · rw [List.mem_singleton.mp z]
      exact ⟨by show H1 c' ≠ none; rw [atC]; simp, fun f => g.tf c' f n⟩
/-- a lambda is made -/
theorem lamW (I : Inv X pins σ w.H s) (g : Gd (MT M T) w) (tb : TabB X.base X.mg c P) (hc : X.env.code = .ref c) (hm : (P, lamQ X) ∈ T) (hu : ∀ p ∈ T, p.1 = P → p.2 = lamQ X) (hcl : ∀ y ∈ sc.names, y.2 = .free → ∃ c1, X.env.cells.lookup y.1 = some c1) (df : LamDfl X q b sc bn)
    (k : ∀ (f c' : Addr) (doc pm ct dV : Value) (bs : List (Str × Value)) (s' : Shared) (w1 : W), w1.c = w.c → w1.F = w.F → Stp w w1 → Gd (MT M T) w1 → Inv X pins σ w1.H s' → Made X q b sc dV w1.H f c' doc pm ct s' → DflOk X q b sc dV bs w1.H s' → bs.map (·.1) = bn → w1.H c' = some (CodeO c' (lamQ X)) → Q (.ref f) s') :
    wpAny (model X.prog X.w) X.A (eval (.Lambda q b sc pos) X.env) Q X.xe s := by
  obtain ⟨a, ma⟩ := Option.ne_none_iff_exists'.mp (g.nz True.intro)
  obtain ⟨Rs, Rt, e, i, t, nn⟩ := g.mi a ma
  obtain ⟨ps, hP, ht, ha⟩ := t.tabs _ hm
  have tail : ∀ (dV : Value) (bs : List (Str × Value)) (s0 : Shared), bs.map (·.1) = bn → Inv X pins σ w.H s0 → DflOk X q b sc dV bs w.H s0 → (∀ t, dV = .ref t → w.H t = none ∧ t < s0.heap.objs.size) → wpAny (model X.prog X.w) X.A (makeTail "<lambda>" (lamQ X) q (.expr b) sc X.env dV .none none pos pos.line) Q X.xe s0 := by
    intro dV bs s0 hbs I0 dk ht0
    refine lamTail I0 tb hc hP ht (fun p cv h => ha p cv h) hcl (fun f c' doc pm ct s' h1 h2 h3 h4 h5 => ?_) (fun f c' doc pm ct s' h1 h2 h3 h4 h5 => ?_)
    · refine k f c' doc pm ct dV bs s' w rfl rfl (Stp.refl w) g h3 h4 ?_ hbs h2
      rcases dk with z | ⟨t, vs, z1, z2, z3, z4, z5⟩
      · exact .inl z
      · exact .inr ⟨t, vs, z1, h5 _ _ z2 z3, z3, z4, z5⟩
    · obtain ⟨w1, q1, q2, q3, q4, q5⟩ := tab_new (pos := pos) g hm hu hP ht h1
      rw [← q1] at h2 h3
      refine k f c' doc pm ct dV bs s' w1 q2 q3 q4 q5 h2 h3 ?_ hbs (by rw [q1, upd_same])
      rcases dk with z | ⟨t, vs, z1, z2, z3, z4, z5⟩
      · exact .inl z
      · refine .inr ⟨t, vs, z1, h4 _ _ z2 z3, ?_, z4, z5⟩
        have lt := (ht0 t z1).2
        rw [q1, upd_ne (fun y => by rw [y] at lt; exact Nat.lt_irrefl _ (Nat.lt_of_lt_of_le lt h5)), upd_ne (fun y => by rw [y, hP] at z3; cases z3)]
        exact z3
  rcases df with ⟨d1, rfl, d3⟩ | ⟨e0, x, v0, d1, d2, d0, d3, rfl, d4⟩
  · refine PySem.W.kla_eval d1 ?_
    rw [makeFunction_eq]
    simp only [List.zip_nil_right, List.filterMap_nil, List.isEmpty_nil, if_true, pure_bind]
    exact tail .none [] s rfl I (.inl ⟨rfl, d3⟩) (fun t z => by cases z)
  · refine PySem.W.kdv_lam (by rw [d1]; rfl) d2 ?_
    rw [d1]
    refine PySem.W.kdv_all1 (wpAny_mono (d3.run pins s σ w.H (fun v H1 => v = v0 ∧ H1 = w.H) I ⟨rfl, rfl⟩) (fun u s1 ⟨v, H1, I1, r1, e1, e2⟩ => PySem.W.kdv_all0 ?_) fun _ _ z => z)
    rw [e2] at I1
    rw [makeFunction_eq]
    simp only [List.zip_nil_right, List.filterMap_nil, List.isEmpty_nil, List.isEmpty_cons, Bool.false_eq_true, if_true, if_false, pure_bind]
    refine wpAny_bind (wpAny_newTextTuple ?_)
    have n0 : w.H s1.heap.objs.size = none := I1.hok.fresh (Nat.le_refl _)
    refine tail (.ref s1.heap.objs.size) [(x, u)] _ rfl (I1.kept (h' := s1.heap.push (PySem.W.kdv_tup [u])) (t' := s1.toks) fun _ _ z => Heap.get?_push_of_some _ z) (.inr ⟨_, [u], rfl, Heap.get?_push_size _ rfl, n0, fr_ge I1 (Nat.le_refl _), fun qn cl doc pm cv ct => d4 u _ qn cl doc pm cv ct⟩) fun t z => ?_
    cases z
    exact ⟨n0, by show _ < (s1.heap.push _).objs.size; rw [Heap.size_push]; omega⟩
end
end HW

/-! Y10: the rule of `outcome(lambda: e)`: its word -/
namespace HW
open PySem PySem.Spec PyProof.Rows L2 LamX
/-- what the lambda sees of its maker's slots: the own objects that still change are not looked at -/
def maskE (ρ : List En) : List En := ρ.map fun e => if e.mut = true then .un else e
theorem maskE_mut {ρ : List En} : ∀ e ∈ maskE ρ, En.mut e = false := fun e he => by
  obtain ⟨e0, _, rfl⟩ := List.mem_map.mp he
  by_cases h : e0.mut = true
  · rw [if_pos h]; rfl
  · rw [if_neg h]; simpa using h
theorem EnvOk.mask {K : PySem.W.Frag} {w : W} {σ : L2.St} {ρ : List En} (h : EnvOk K w σ ρ) : EnvOk K w σ (maskE ρ) := by
  have no : ∀ i a, ¬ Own w σ (maskE ρ) i a := fun i a ⟨p, e, _, o2, o3, _⟩ => by
    rw [maskE_mut e (List.mem_of_getElem? o2)] at o3
    cases o3
  refine ⟨by rw [h.len]; simp [maskE], fun i e q => ?_, fun i j a o => (no i a o).elim⟩
  unfold maskE at q
  rw [List.getElem?_map] at q
  obtain ⟨e0, h1, rfl⟩ := Option.map_eq_some_iff.mp q
  by_cases z : e0.mut = true
  · rw [if_pos z]; exact True.intro
  · rw [if_neg z]; exact h.ok i e0 h1
/-- the word: what is told of an error, or the result in a list -/
def wOut (ns : List Str) (rs : List FRow) (wb : XR → WE) : WE := fun ρ c Q => wb (fun x c' => x.C ∈ ns ∧ ∃ y, faultD rs x = some y ∧ Q y c') (maskE ρ) c fun d c' => Q (.list [d]) c'
/-- the whole def's reading -/
def tOutR (K : PySem.W.Frag) (f c' : Addr) (q : Str) (tl : XK → Hp → VK → Prop) (C : Value → Option Addr → Hp → Prop) (sp : Sp) : TS :=
  tSeq (tAsg (L2.tTup (tCons (tC .non) (tCons (tC .non) tNil))) (gTup K 2 (gNames [1, 2]))) (tSeq (tOutTry f c' q tl C)
    (tRet (tIf (tTest (tOp (fun x y H Q => y = .non ∧ Q (.bl (decide (x = .non))) H) (tVar 1) (tC .non))) (L2.tLst (tCons (tVar 2) tNil)) (tCall sp [] C8.E0 (tCons (tVar 1) tNil)))))
/-- the def that calls what it got -/
structure OutC (P : Program) (w : World) (K : PySem.W.Frag) (mg : Str → Option Value) (base : Heap) (k : Nat) (x : Str) (M : MI) (ns : List Str) (rs : List FRow) : Prop where
  ex : ∃ (g : Addr) (a cg fd en : Str) (oc : Value) (od an : Option Addr) (pg : Arguments) (bg : List Stmt) (sg : Scope) (kV doc pm cdv ct : Value) (osl : Array (Option Value)),
    mg x = some (.ref g) ∧ PySem.W.keepIn K (.ref g) = true ∧ K.lookup g = some ⟨oc, od, .func (PySem.W.fnOf x x pg bg sg .none kV doc pm an cdv ct), osl⟩ ∧ PySem.W.codeIn K cdv x = true ∧ L2.Binds K (PySem.W.fnOf x x pg bg sg .none kV doc pm an cdv ct) [a] [] ∧ FnScope [a, cg, fd, en] [a] sg ∧ Vis sg a ∧
    (a == ("__debug__" : Str)) = false ∧ (a == ("__classdict__" : Str)) = false ∧
    ∀ (A : Around) (stk : List Env) (s : Shared) (H : Hp) (f c' : Addr) (q : Str) (tl : XK → Hp → VK → Prop), (A.deeper (PyProof.Rows.envOfC x sg s.heap.objs.size g cdv)).guards = some [] → Room k (A.deeper (PyProof.Rows.envOfC x sg s.heap.objs.size g cdv)) →
      (∀ (W : WX) (pn : List (Addr × Obj)) (xe : Value → Shared → Prop) (E : XK) (p1 p2 : Pos), Takes ((cxOf CX0 P w K mg base [a, cg, fd, en] x sg g cdv A stk s H C8.E0).nox.tr pn xe) W → (∀ cls d σ' H', E cls d H' → W cls d σ' H') →
        PE ((cxOf CX0 P w K mg base [a, cg, fd, en] x sg g cdv A stk s H C8.E0).nox.tr pn xe) (.Call (.Name a p1) [] [] p2) (fun σZ HZ Q => σZ[0]? = some (some (.ref f)) ∧ HZ c' = some (CodeO c' q) ∧ tl E HZ Q)) →
      PSs (cxOf CX0 P w K mg base [a, cg, fd, en] x sg g cdv A stk s H C8.E0).nox bg (tOutR K f c' q tl (fun cls _ _ => ∃ n ∈ ns, mg n = some cls) (faultSp M K mg ns rs))
section
variable {X : Cx} {M0 : MI} {T : List (Addr × Str)} {ns : List Str} {rs : List FRow} {x : Str} {k j : Nat} {c P : Addr} {params : Arguments} {body : Expr} {scope : Scope} {bn : List Str} {wb : XR → WE} {p lpos pos : Pos}
/-- the lambda's own reading: at any world of the maker's -/
def tlOut (X : Cx) (M : MI) (wb : XR → WE) : XK → TE := fun E σ H Q => ∃ (w0 : W) (R : XR), (∀ (w' : W) (cls : Value) (dd : Option Addr) (x : Xd), Stp w0 w' → Gd M w' → XOk X.K X.mg w' cls dd x → R x w'.c → E cls dd w'.H) ∧ tEX M X.K w0 (wb R) σ H Q
theorem e_out (O : OutC X.prog X.w X.K X.mg X.base k x (MT M0 T) ns rs) (ext : ExT X.K X.mg ns) (hr : Room j X.A) (hk : k + 1 ≤ j) (gds : X.A.guards = some []) (hg : Gl X x) (tb : TabB X.base X.mg c P) (hc : X.env.code = .ref c) (hm : (P, lamQ X) ∈ T) (hu : ∀ p ∈ T, p.1 = P → p.2 = lamQ X)
    (L : LamN X.N bn X.env.scope scope) (df : LamDfl X params body scope bn)
    (hb : ∀ (A : Around) (outer : List Env) (s : Shared) (H : Hp) (E : XK) (f c' : Addr) (w0 : W) (R : XR), (lamCx X A outer s H E scope f c').A.guards = some [] → Room (k - 1) (lamCx X A outer s H E scope f c').A → TkR (lamCx X A outer s H E scope f c') (MT M0 T) w0 (fun x _ c => R x c) →
      PE (lamCx X A outer s H E scope f c') body (tEX (MT M0 T) X.K w0 (wb R))) (h1 : 1 ≤ k)
    (hdb : (x == ("__debug__" : Str)) = false := by decide) : PE X (.Call (.Name x p) [.Lambda params body scope lpos] [] pos) (tE (MT M0 T) X.K (wOut ns rs wb)) := by
  obtain ⟨gg, a, cg, fd, en, oc, od, an, pg, bg, sg, kV, doc, pm, cdv, ct, osl, hmg, hkp, lk, hcd, hbd, S, va, nd, nc, frame⟩ := O.ex
  refine ⟨fun pins s σ H Q I ⟨w, ρ, Qd, eh, ev, g, hw, kk⟩ => ?_⟩
  subst eh
  refine wpAny_Call_Name_kw (ld_glob I hg hmg ?_ hdb)
  refine PySem.W.callWith_K (h₀ := X.base) I.ok.mod.kin hkp ?_ (by rfl) (by rfl)
  refine Calls.spliced_cons (lamW I g tb hc hm hu (L.has I.ok) df fun f c' doc' pm' ct' dV bs s' w1 ec eF s1 g1 I1 md dk hbs hco => ?_)
  refine Calls.spliced_nil ⟨I1.kIn, ?_⟩
  have hr1 : Room (k + 1) X.A := hr.mono hk
  have rc : codeAny (model X.prog X.w) X.A (.call (.ref gg) ⟨[.ref f], []⟩) (CR CX0 X.stack X.prog X.w w1.H s' Q C8.E0) s' := by
    refine LamX.run_ofS (N := [a, cg, fd, en]) (ps := [a]) (us := [.ref f]) (vs := [.ref f]) lk hcd S hr1 I1.env0 (hbd s' [.ref f] I1.kIn rfl) (.cons rfl .nil) rfl fun hr' => ?_
    have L' : LamN X.N (bs.map (·.1)) X.env.scope scope := by rw [hbs]; exact L
    refine ⟨_, PSs.nox (frame X.A X.stack s' w1.H f c' (lamQ X) (fun E HZ QZ => tlOut X (MT M0 T) wb E σ HZ QZ) gds hr' fun W pn xe E p1 p2 tk hW => ?_), ?_⟩
    · have hrk : Room (k - 1 + 1) (X.A.deeper (PyProof.Rows.envOfC x sg s'.heap.objs.size gg cdv)) := by
        rw [Nat.sub_add_cancel h1]; exact hr'
      refine lamAct (CXg := CX0) (Eg := C8.E0) (Ng := [a, cg, fd, en]) (i := 0) (E := E) (tb := tlOut X (MT M0 T) wb E) I1 L' md dk tk hW hrk (fun s2 H2 hr2 => ?_) rfl va nd nc
      refine ⟨fun pz sz σz Hz Qz Iz ⟨w0, R, hE, want⟩ => ?_⟩
      have tk0 : Takes (lamCx X (X.A.deeper (PyProof.Rows.envOfC x sg s'.heap.objs.size gg cdv)) (PyProof.Rows.envOfC x sg s'.heap.objs.size gg cdv :: X.stack) s2 H2 E scope f c') (fun cls d _ H' => E cls d H') := takes_of rfl rfl rfl rfl
      exact (hb (X.A.deeper (PyProof.Rows.envOfC x sg s'.heap.objs.size gg cdv)) _ s2 H2 E f c' w0 R gds hr2 (tk0.imp fun c d σ H' ⟨w', ρ', x, e, so, xo, r⟩ => e ▸ hE w' c d x so.st so.gd xo r)).run pz sz σz Hz Qz Iz want
    · refine ⟨(show 2 ≤ sizeLine by decide), fun pt hpt => ?_⟩
      have sp := s1.trans (stp_new (o := .tup [.non, .non]) hpt)
      have gp := gd_new (o := .tup [.non, .non]) g1 hpt
      obtain ⟨wp, ewp⟩ : ∃ wp : W, wp = w1.new pt (.tup [.non, .non]) := ⟨_, rfl⟩
      have eH : upd w1.H pt (.tup [.non, .non]) = wp.H := by rw [ewp]; rfl
      have eQ : wp.c = w.c := by rw [ewp]; exact ec
      rw [← ewp] at sp gp
      have hco' : wp.H c' = some (CodeO c' (lamQ X)) := by rw [← eH, upd_ne (fun z => by rw [z, hpt] at hco; cases hco)]; exact hco
      refine ⟨pt, [.non, .non], rfl, .inl (.inl upd_same), rfl, .non, [.non], rfl, .non, [], rfl, rfl, ?_⟩
      rw [eH]
      refine ⟨rfl, rfl, hco', fun cls d H' => ∃ (w' : W) (y : Xd) (z : D), w'.H = H' ∧ Stp wp w' ∧ Gd (MT M0 T) w' ∧ XOk X.K X.mg w' cls d y ∧ y.C ∈ ns ∧ faultD rs y = some z ∧ Qd z w'.c, fun cls d H' ⟨w', y, z, e, s2, g2, xo, yn, fz, qz⟩ => ⟨⟨y.C, yn, xo.1⟩, fun a' na σ' hl h1' => ?_⟩, wp, fun y c2 => y.C ∈ ns ∧ ∃ z, faultD rs y = some z ∧ Qd z c2, fun w' cls dd y s2 g2 xo ⟨yn, z, fz, qz⟩ => ⟨w', y, z, rfl, s2, g2, xo, yn, fz, qz⟩, ?_⟩
      · subst e
        refine ⟨.ref a', h1', rfl, false, rfl, ?_⟩
        refine iteF ⟨.ref a', h1', ?_⟩
        obtain ⟨C, mC⟩ := ext.cl y.C yn
        have eC : cls = .ref C := by
          have := xo.1
          rw [mC] at this
          exact (Option.some.inj this).symm
        subst eC
        have s3 := stp_own (o := ExV (.ref C) d a') na
        have g3 := gd_own (o := ExV (.ref C) d a') g2 na
        refine ⟨w'.own a' (ExV (.ref C) d a'), a', C, d, y, z, rfl, rfl, g3, own_at, (show a' ∉ w'.R from r_free g2 na), xo.stp s3 g2, yn, fz, fun w2 v s4 g4 dv ec2 => ?_⟩
        exact kk w2 v z (((sp.trans s2).trans s3).trans s4) g4 dv (by rw [ec2]; exact qz)
      · refine ⟨wp, maskE ρ, _, rfl, ⟨(ev.stp sp g).mask, gp, Stp.refl wp, fun i b ⟨q, e, _, o2, o3, _⟩ => ?_⟩, (by rw [eQ]; exact hw), fun w2 v d s2 g2 dv qd => ?_⟩
        · rw [maskE_mut e (List.mem_of_getElem? o2)] at o3
          cases o3
        · refine ⟨.non, rfl, rfl, true, rfl, ?_⟩
          refine iteT ⟨v, rfl, (show 1 ≤ sizeLine by decide), fun p hp => ?_⟩
          exact kk (w2.new p (.lst [v])) _ _ ((sp.trans s2).trans (stp_new hp)) (gd_new g2 hp) (new_lst g2 hp (.cons dv .nil)) qd
  refine wpAny_call (codeAny_mono rc fun r s2 hq => ?_)
  cases r with
  | error e => exact (show False from hq).elim
  | ok fl =>
    cases fl with
    | ret u => exact I1.after hq
    | next => exact hq.elim
    | brk => exact hq.elim
    | cont => exact hq.elim
end
end HW

/-! Y11: the law's own call where tables of code objects are known to be empty -/
namespace HW
open PySem L2 PySem.Spec PyProof.Rows LamX
/-- what is asked of the code objects and their tables at the head -/
structure CtOk (K : PySem.W.Frag) (h : Heap) (cs : List (Addr × Addr)) : Prop where
  emp : ∀ p ∈ cs, h.get? p.2 = some { cls := .none, data := .fields #[] }
  off : ∀ p ∈ cs, K.lookup p.2 = none
  hd : ∀ p ∈ cs, PySem.W.CodeHd h p.1 p.2
theorem law_callGT {P : Program} {w : World} {K : PySem.W.Frag} {mg mb : Str → Option Value} {k : Nat} {fa a : Addr} {cs : List (Addr × Addr)} {fd : FuncData} {x : Str} {sp : Sp} {t : Shared} {us : List Value} {ns : List Int}
    (inK : K.In t.heap) (nsM : t.heap.Ns mainGlobals mg) (nsB : t.heap.Ns builtinsNs mb) (boot : ∀ x : Str, x ≠ "__name__" → mb x = bootBuiltins x) (noLim : t.heap.NoLimit) (noGen : t.gens = #[]) (ct : CtOk K t.heap cs)
    (bmain : ∃ (bm : Addr) (ob : Obj), mg "__builtins__" = some (.ref bm) ∧ bm ≠ builtinsNs ∧ t.heap.get? bm = some ob ∧ ob.cls = .type "module" ∧ ob.dict = some builtinsNs ∧ ob.data = .plain)
    (at_a : t.heap.get? a = some { cls := .type "list", data := .seq us.toArray }) (intsA : IntsAre us ns) (len : ns.length ≤ sizeLine) (room : Room k callerA)
    (F : ∀ base : Heap, K.In base → base.Ns mainGlobals mg → (∀ p ∈ cs, TabB base mg p.1 p.2) → FnG P w K mg base CX0 k fa fd [x] sp) (bind : ∀ (s : Shared) (u : Value), BindsTo s fd ⟨[u], []⟩ [(x, u)])
    (want : ∀ T : Hp, (∀ p ∈ cs, T p.2 = some (.tbl #[])) → SqL K T a (ns.map V.int) → (∀ p ∈ cs, p.2 ≠ a) → sp [.ref a] T (fun v _ => v = .bl true) fun _ _ _ => False) :
    codeAny (model P w) callerA (.call (.ref fa) ⟨[.ref a], []⟩) (fun r s' => r = .ok (.ret (.bool true)) ∧ OldK t.heap s'.heap ∧ s'.os = t.os ∧ AllBare s'.gens) t := by
  have vi := vals_ints intsA
  have li := intsA.length
  have emp : ∀ b, b ∈ cs.map (·.2) → t.heap.get? b = some { cls := .none, data := .fields #[] } := fun b hb => by
    obtain ⟨p, hp, rfl⟩ := List.mem_map.mp hb
    exact ct.emp p hp
  have nA : a ∉ cs.map (·.2) := fun z => by
    have q := (at_a.symm.trans (emp a z))
    cases q
  have inT : ∀ p ∈ cs, p.2 ∈ cs.map (·.2) := fun p hp => List.mem_map_of_mem hp
  have neA : ∀ p ∈ cs, p.2 ≠ a := fun p hp z => nA (z ▸ inT p hp)
  have go : ∀ T : Hp, (∀ p ∈ cs, T p.2 = some (.tbl #[])) → (∀ b, T b = none ∨ b ∈ cs.map (·.2) ∨ ∃ o xs, T b = some (.frz o (.lst xs))) → SqL K T a (ns.map V.int) → HOk P w T t.heap → (∀ b, T b ≠ none → b = a ∨ b ∈ cs.map (·.2)) → (T a ≠ none → K.lookup a = none) →
      codeAny (model P w) callerA (.call (.ref fa) ⟨[.ref a], []⟩) (fun r s' => r = .ok (.ret (.bool true)) ∧ OldK t.heap s'.heap ∧ s'.os = t.os ∧ AllBare s'.gens) t := by
    intro T tbl only sq hok one free
    have stays : ∀ {b : Addr} {o : Obj}, t.heap.get? b = some o → T b = none → (hidT t.heap T).get? b = some o := fun e n => hidT_get e n
    -- what is neither the script nor an empty table is not hidden
    have seen : ∀ {b : Addr} {o : Obj}, t.heap.get? b = some o → (∀ vs n, o.data ≠ .seq vs n) → o.data ≠ .fields #[] → T b = none := by
      intro b o e n1 n2
      by_cases q : T b = none
      · exact q
      · rcases one b q with z | z
        · rw [z, at_a] at e
          cases e
          exact absurd rfl (n1 _ _)
        · rw [emp b z] at e
          cases e
          exact absurd rfl n2
    have nss : ∀ {b : Addr} {m : Str → Option Value}, t.heap.Ns b m → (hidT t.heap T).Ns b m := by
      rintro b m ⟨o, es, ep, e, d, r⟩
      exact ⟨o, es, ep, stays e (seen e (fun _ _ z => by rw [d] at z; cases z) fun z => by rw [d] at z; cases z), d, r⟩
    have kIn : K.In (hidT t.heap T) := by
      intro b o e
      refine stays (inK b o e) ?_
      by_cases q : T b = none
      · exact q
      · rcases one b q with z | z
        · subst z
          rw [free q] at e
          cases e
        · obtain ⟨p, hp, rfl⟩ := List.mem_map.mp z
          rw [ct.off p hp] at e
          cases e
    obtain ⟨mc, l1, l2⟩ := noLim
    have md : Mod K mg (hidT t.heap T) := ⟨kIn, nss nsM, ⟨mb, nss nsB, boot⟩, mc, nss l1, l2⟩
    have tbs : ∀ p ∈ cs, TabB (hidT t.heap T) mg p.1 p.2 := fun p hp => by
      have eP := ct.emp p hp
      have gP : mainGlobals ≠ p.2 := fun z => by
        obtain ⟨o, es, ep, e, d, _⟩ := nsM
        rw [z, eP] at e
        cases e
        cases d
      obtain ⟨o, vs, z1, z2, z3, z4, z5, z6, z7, e1, c1, d1, c2, rest⟩ := ct.hd p hp
      obtain ⟨bm, ob, m1, m2, m3, m4, m5, m6⟩ := bmain
      refine ⟨⟨o, vs, z1, z2, z3, z4, z5, z6, z7, stays e1 (seen e1 (fun _ _ z => by rw [d1] at z; cases z) fun z => by rw [d1] at z; cases z; simp at c2), c1, d1, c2, rest⟩, ⟨bm, ob, m1, m2, fun z => ?_, fun z => ?_, stays m3 (seen m3 (fun _ _ z => by rw [m6] at z; cases z) fun z => by rw [m6] at z; cases z), m4, m5, m6⟩, gP⟩
      · obtain ⟨o', es, ep, e, d, _⟩ := nsM
        rw [← z, m3] at e
        cases e
        rw [m6] at d
        cases d
      · rw [z, eP] at m3
        cases m3
        cases m6
    have env : Env0 P w K mg (hidT t.heap T) callerA [] t T :=
      ⟨rfl, md, fun b o e => of_hidT e, Nat.le_of_eq (hidT_size _ _), trivial, fun b hb => absurd (show b ∈ ([] : List Addr) from hb) (by simp), hok, .of_eq noGen⟩
    have run := (F _ kIn (nss nsM) tbs).run callerA [] t T ⟨[.ref a], []⟩ [.ref a] [.ref a] _ _ rfl room env (bind t (.ref a)) (.cons rfl .nil) (want T tbl sq neA)
    refine codeAny_mono run fun r s' h => ?_
    cases r with
    | error e => exact False.elim h
    | ok fl =>
      cases fl with
      | ret u =>
        obtain ⟨v, T', os, bare, un, hok', rv, q⟩ := h
        obtain rfl : v = .bl true := q
        obtain rfl : u = Value.bool true := rv
        have keep : ∀ b o, b ∉ cs.map (·.2) → t.heap.get? b = some o → s'.heap.get? b = some o := fun b o nb e => by
          by_cases q : T b = none
          · exact un.keep b o e q (fun z => absurd (show b ∈ ([] : List Addr) from z) (by simp)) (by simp)
          · rcases only b with z | z | ⟨ob, xs, z⟩
            · exact absurd z q
            · exact absurd z nb
            · obtain ⟨e1, _⟩ := hok b _ z
              obtain ⟨e2, _⟩ := hok' b _ (un.frzs b ob _ z)
              rw [e] at e1
              cases e1
              exact e2
        have more : ∀ p ∈ cs, ∃ m : Array Value, s'.heap.get? p.2 = some { cls := .none, data := .fields m } := fun p hp => by
          obtain ⟨m, z⟩ := un.tbls p.2 #[] (tbl p hp)
          exact ⟨_, hok' p.2 _ z⟩
        refine ⟨rfl, ⟨fun b o e => ?_, fun b o e => ?_⟩, os, bare⟩
        · by_cases hb : b ∈ cs.map (·.2)
          · obtain ⟨p, hp, rfl⟩ := List.mem_map.mp hb
            obtain ⟨m, hm⟩ := more p hp
            rw [ct.emp p hp] at e
            cases e
            exact .inr (.inl ⟨((ct.hd p hp).tab (ct.emp p hp)).isCodeTable, rfl, #[], m, rfl, by rw [Array.empty_append]; exact hm⟩)
          · exact .inl (keep b o hb e)
        · by_cases hb : b ∈ cs.map (·.2)
          · obtain ⟨p, hp, rfl⟩ := List.mem_map.mp hb
            obtain ⟨m, hm⟩ := more p hp
            exact ⟨_, hm⟩
          · exact ⟨o, keep b o hb e⟩
      | next => exact False.elim h
      | brk => exact False.elim h
      | cont => exact False.elim h
  by_cases hk : K.lookup a = none
  · obtain ⟨T, eT⟩ : ∃ T : Hp, T = fun b => if b = a then some (.frz { cls := .type "list", data := .seq us.toArray } (.lst (ns.map V.int))) else if b ∈ cs.map (·.2) then some (.tbl #[]) else none := ⟨_, rfl⟩
    have t1 : T a = some (.frz { cls := .type "list", data := .seq us.toArray } (.lst (ns.map V.int))) := by rw [eT]; exact if_pos rfl
    have t2 : ∀ b, b ∈ cs.map (·.2) → T b = some (.tbl #[]) := fun b hb => by rw [eT]; exact (if_neg (fun z : b = a => nA (z ▸ hb))).trans (if_pos hb)
    have t3 : ∀ b, b ≠ a → b ∉ cs.map (·.2) → T b = none := fun b h1 h2 => by rw [eT]; exact (if_neg h1).trans (if_neg h2)
    refine go T (fun p hp => t2 _ (inT p hp)) (fun b => ?_) (.inl (.inr ⟨_, t1⟩)) (fun b u z => ?_) (fun b z => ?_) fun _ => hk
    · by_cases h1 : b = a
      · rw [h1]; exact .inr (.inr ⟨_, _, t1⟩)
      · by_cases h2 : b ∈ cs.map (·.2)
        · exact .inr (.inl h2)
        · exact .inl (t3 b h1 h2)
    · by_cases h1 : b = a
      · rw [h1, t1] at z
        cases z
        rw [h1]
        exact ⟨at_a, (by rw [List.length_map]; exact len), us, _, vi, at_a⟩
      · by_cases h2 : b ∈ cs.map (·.2)
        · rw [t2 b h2] at z
          cases z
          exact emp b h2
        · rw [t3 b h1 h2] at z
          cases z
    · by_cases h1 : b = a
      · exact .inl h1
      · by_cases h2 : b ∈ cs.map (·.2)
        · exact .inr h2
        · exact absurd (t3 b h1 h2) z
  · obtain ⟨o, hk⟩ := Option.ne_none_iff_exists'.mp hk
    have e := inK a o hk
    rw [at_a] at e
    cases e
    obtain ⟨T, eT⟩ : ∃ T : Hp, T = fun b => if b ∈ cs.map (·.2) then some (.tbl #[]) else none := ⟨_, rfl⟩
    have t2 : ∀ b, b ∈ cs.map (·.2) → T b = some (.tbl #[]) := fun b hb => by rw [eT]; exact if_pos hb
    have t3 : ∀ b, b ∉ cs.map (·.2) → T b = none := fun b h2 => by rw [eT]; exact if_neg h2
    refine go T (fun p hp => t2 _ (inT p hp)) (fun b => ?_) (.inr ⟨_, us.toArray, _, hk, rfl, rfl, rfl, (by rw [List.size_toArray, li]; exact len), (by simpa using vi)⟩) (fun b u z => ?_) (fun b z => ?_) fun z => absurd (t3 a nA) z
    · by_cases h2 : b ∈ cs.map (·.2)
      · exact .inr (.inl h2)
      · exact .inl (t3 b h2)
    · by_cases h2 : b ∈ cs.map (·.2)
      · rw [t2 b h2] at z
        cases z
        exact emp b h2
      · rw [t3 b h2] at z
        cases z
    · by_cases h2 : b ∈ cs.map (·.2)
      · exact .inr h2
      · exact absurd (t3 b h2) z
/-- the defs of the text: their code objects' tables are empty at the head -/
def TabsAt (q : Program) (K : PySem.W.Frag) (mg : Str → Option Value) (h : Heap) : Prop := ∀ (n : Str), ((recsOf q).any fun e => e.name == n) = true → ∀ (fa c P : Addr) (o : Obj) (fd : FuncData) (e : Value) (dd : Option Addr) (vs : Array Value) (sl : Array (Option Value)),
  mg n = some (.ref fa) → K.lookup fa = some o → o.data = .func fd → fd.code = .ref c → K.lookup c = some ⟨e, dd, .fields vs, sl⟩ → vs[11]? = some (.ref P) → h.get? P = some { cls := .none, data := .fields #[] } ∧ PySem.W.CodeHd h c P
theorem walkGT {l : PySem.W.OpenLaw} {n k : Nat} {q : Program} {loose : List Str} {XP : (Str → Option Value) → Heap → Prop} {YP : World → Heap → Prop} {d : DefRec} {K : Params → PySem.W.Frag} {x : Str}
    (hn : l.most = some n) (small : n ≤ sizeLine) (nodf : d.params.defaults = []) (room : Room k callerA) (isIn : ∀ (w : World) (h : Heap), YP w h → (K w.params).In h)
    (F : ∀ (w : World) (mg : Str → Option Value) (fa : Addr) (h : Heap), (K w.params).In h → h.Ns mainGlobals mg → TabsAt q (K w.params) mg h → mg d.name = some (.ref fa) → ∃ (fd : FuncData) (cs : List (Addr × Addr)) (sp : Sp), CtOk (K w.params) h cs ∧ (∀ (s : Shared) (u : Value), BindsTo s fd ⟨[u], []⟩ [(x, u)]) ∧
      (∀ (T : Hp) (a : Addr) (ns : List Int), ns.length ≤ n → (∀ z ∈ ns, Builtin.Int.intBits z ≤ 1048576) → (∀ p ∈ cs, T p.2 = some (.tbl #[])) → SqL (K w.params) T a (ns.map V.int) → (∀ p ∈ cs, p.2 ≠ a) → sp [.ref a] T (fun v _ => v = .bl true) fun _ _ _ => False) ∧
      ∀ base : Heap, (K w.params).In base → base.Ns mainGlobals mg → (∀ p ∈ cs, TabB base mg p.1 p.2) → FnG l.prog w (K w.params) mg base CX0 k fa fd [x] sp) :
    PySem.W.WalkO q loose XP YP l.row.toRowW d [] (fun f vs => PySem.call f vs) := by
  refine Att.attach_callB hn nodf fun w s₀ t mg mb fa o pm cd doc a us ns G Y _ _ _ hm at_a intsA len bits noGen => ?_
  have inK := isIn w _ Y
  have tabs : TabsAt q (K w.params) mg t.heap := by
    intro x hx fa c P o fd e dd vs sl k1 k2 k3 k4 k5 k6
    obtain ⟨r, hr, hr2⟩ := List.any_eq_true.mp hx
    obtain ⟨a', o', fd', c', P', h1, h2, h3, h4, h5, h6⟩ := G.T.tab r hr
    rw [beq_iff_eq.mp hr2, k1] at h1
    cases h1
    rw [inK _ _ k2] at h2
    cases h2
    rw [k3] at h3
    cases h3
    rw [k4] at h4
    cases h4
    have cd := PySem.W.CodeHd.of h5 h6
    obtain ⟨⟨oc, vc, e1, _, e3, e4⟩, hP⟩ := h6
    rw [inK _ _ k5] at e1
    cases e1
    cases e3
    rw [k6] at e4
    cases e4
    exact ⟨hP, cd⟩
  obtain ⟨fd, cs, sp, ct, hb, want, hF⟩ := F w mg fa _ inK G.T.g tabs hm
  exact law_callGT inK G.T.g G.T.b G.T.builtins G.T.nolimit noGen ct G.T.bmain at_a intsA (Nat.le_trans len small) room hF hb fun T h1 h2 h3 => want T a ns len bits h1 h2 h3
end HW

/-! Y12: the law's promise with tables; its start -/
namespace HW
open PySem L2 PySem.Spec PyProof.Rows LamX
def lawSpT (K : PySem.W.Frag) (cs : List (Addr × Addr)) : Sp := fun vs H Q _ => ∃ (v : V) (ns : List Int) (w : W), vs = [v] ∧ w.H = H ∧ w.mo = none ∧ w.c = 0 ∧ Gd MD w ∧ Dv K w.F w.H v (.list (dI ns)) ∧ ns.length ≤ 63 ∧ (∀ p ∈ cs, w.H p.2 = some (.tbl #[]) ∧ ¬ w.F p.2) ∧ ∀ H', Q (.bl true) H'
theorem law_startT {K : PySem.W.Frag} {T : Hp} {a : Addr} {ns : List Int} {cs : List (Addr × Addr)} (h : ns.length ≤ 63) (tb : ∀ p ∈ cs, T p.2 = some (.tbl #[])) (sq : SqL K T a (ns.map V.int)) (ne : ∀ p ∈ cs, p.2 ≠ a) : lawSpT K cs [.ref a] T (fun v _ => v = .bl true) fun _ _ _ => False := by
  refine ⟨.ref a, ns, ⟨fun b => T b ≠ none ∧ b ∉ cs.map (·.2), [], T, 0, none⟩, rfl, rfl, rfl, rfl, ⟨fun b e => (by cases e), fun _ => rfl, fun z => z.elim, fun b hb => ?_, fun b f => f.1⟩, ?_, h, fun p hp => ⟨tb p hp, fun f => f.2 (List.mem_map_of_mem hp)⟩, fun _ => rfl⟩
  · exact absurd (show b ∈ ([] : List Addr) from hb) (by simp)
  · refine .lst ?_ (DvA.of_ints ns)
    rcases sq with z | z
    · refine .inl ⟨⟨?_, fun m => ?_⟩, z⟩
      · show T a ≠ none
        rcases z with z | ⟨o, z⟩ <;> rw [z] <;> simp
      · obtain ⟨p, hp, e⟩ := List.mem_map.mp m
        exact ne p hp e
    · exact .inr z
theorem EnvOk.cast {K : PySem.W.Frag} {w w1 : W} {σ : L2.St} {ρ : List En} (h : EnvOk K w σ ρ) (nm : ∀ e ∈ ρ, En.mut e = false) (eF : w1.F = w.F) (eH : w1.H = w.H) (em : w1.mo = w.mo) : EnvOk K w1 σ ρ := by
  refine ⟨h.len, fun i e q => ?_, fun i j a ⟨p, e, _, o2, o3, _⟩ => ?_⟩
  · have z := h.ok i e q
    have m := nm e (List.mem_of_getElem? q)
    cases e with
    | un => exact True.intro
    | im d => obtain ⟨v, h1, h2⟩ := z; exact ⟨v, h1, by rw [eF, eH]; exact h2⟩
    | st => obtain ⟨a, h1, h2⟩ := z; exact ⟨a, h1, by rw [em]; exact h2⟩
    | ls _ => cases m
    | dc _ => cases m
    | dl _ => cases m
    | dt _ => cases m
  · rw [nm e (List.mem_of_getElem? o2)] at o3
    cases o3
/-- the draws have begun: the tables join what the draws' state guards -/
theorem tab_join {M : MI} {w : W} {T : List (Addr × Str)} {a : Addr} (g : Gd M w) (mo : w.mo = some a) (h : ∀ p ∈ T, w.H p.1 = some (.tbl #[]) ∧ ¬ w.F p.1 ∧ p.1 ∉ w.R) : ∃ w1 : W, w1.F = w.F ∧ w1.H = w.H ∧ w1.c = w.c ∧ w1.mo = w.mo ∧ Gd (MT M T) w1 := by
  have inT : ∀ b ∈ T.map (·.1), ∃ p ∈ T, p.1 = b := fun b hb => List.mem_map.mp hb
  refine ⟨{ w with R := w.R ++ T.map (·.1) }, rfl, rfl, rfl, rfl, ⟨fun b eb => ⟨w.R, T.map (·.1), rfl, g.mi b eb, ⟨fun p hp => ⟨List.mem_map_of_mem hp, #[], (h p hp).1, True.intro, fun pp cv hc => ?_⟩, fun b hb => ?_⟩, fun b hb => ?_⟩, fun z => ?_, fun _ z => ?_, fun b hb => ?_, g.tf⟩⟩
  · have z : codeAmong pp [] = some cv := hc
    simp [codeAmong] at z
  · obtain ⟨p, hp, rfl⟩ := inT b hb
    exact .inl ⟨_, (h p hp).1⟩
  · obtain ⟨p, hp, rfl⟩ := inT b hb
    exact (h p hp).2.2
  · rw [show w.mo = none from z] at mo
    cases mo
  · rw [show w.mo = none from z] at mo
    cases mo
  · rcases List.mem_append.mp hb with z | z
    · exact g.tr b z
    · obtain ⟨p, hp, rfl⟩ := inT b z
      exact ⟨by rw [(h p hp).1]; simp, (h p hp).2.1⟩
/-- m = the draws' begin, then the rest by its word, in worlds with tables -/
def tLawT (K : PySem.W.Frag) (T : List (Addr × Str)) (ws : WS) : TS := tSeq (tAsg (tCall (begSp K) [] E0 (tCons (tVar 0) tNil)) (gName 1)) (fun D σ H => ∃ w0, tS (MT MD T) K w0 ws D σ H)
theorem law_runT {K : PySem.W.Frag} {N : List Str} {ws : WS} {H : Hp} {vs : List V} {Q : VK} {E : XK} {cs : List (Addr × Addr)} {T : List (Addr × Str)} (hN : 2 ≤ N.length) (hT : ∀ p ∈ T, ∃ c, (c, p.1) ∈ cs) (h : lawSpT K cs vs H Q E)
    (math : ∀ ns : List Int, ns.length ≤ 63 → ws { nx := fun _ _ => False, rt := fun d _ => d = .bool true } ((startE N [.im (.list (dI ns))]).set 1 .st) 0) : tLawT K T ws { nx := fun _ H' => Q .non H', rt := Q } (L2.start N vs) H := by
  obtain ⟨v, ns, w, rfl, rfl, mo, c0, g, dv, hl, tb, k⟩ := h
  have a0 : ArgsOk K w [v] [.im (.list (dI ns))] := .im dv .nil
  have so := start_ok (N := N) g a0
  refine ⟨v, rfl, w, v, ns, rfl, rfl, mo, g, dv, by omega, fun w' a s' g' mo' c' => ?_⟩
  have so' := so.stp s' g'
  have r0 : w.R = [] := g.r0 mo
  obtain ⟨w1, e1, e2, e3, e4, g1⟩ := tab_join (T := T) g' mo' fun p hp => by
    obtain ⟨c, hc⟩ := hT p hp
    obtain ⟨h1, h2⟩ := tb _ hc
    exact ⟨s'.k _ _ h1 (by rw [r0]; simp), fun f => (s'.f2 _ f).elim h2 fun n => (by rw [h1] at n; cases n), fun z => (s'.r _ z).elim (by rw [r0]; simp) fun n => by rw [h1] at n; cases n⟩
  have nm : ∀ e ∈ (startE N [.im (.list (dI ns))]).set 1 .st, En.mut e = false := fun e he => by
    rcases List.mem_or_eq_of_mem_set he with z | rfl
    · unfold startE at z
      rcases List.mem_append.mp z with z | z
      · rw [List.mem_singleton.mp z]; rfl
      · rw [List.eq_of_mem_replicate z]; rfl
    · rfl
  have ev1 : EnvOk K w1 ((L2.start N [v]).set 1 (some (.ref a))) ((startE N [.im (.list (dI ns))]).set 1 .st) := (so'.ev.setE (i := 1) (u := some (.ref a)) (en := .st) rfl ⟨a, rfl, mo'⟩).cast nm e1 e2 e4
  refine ⟨w1, w1, (startE N [.im (.list (dI ns))]).set 1 .st, _, e2, ⟨ev1, g1, Stp.refl w1, fun i b ⟨p, e, _, o2, o3, _⟩ => ?_⟩, (by rw [e3, c', c0]; exact math ns hl), ?_⟩
  · rw [nm e (List.mem_of_getElem? o2)] at o3
    cases o3
  · exact ⟨fun _ _ _ _ _ q => q.elim, fun w2 v2 d2 _ _ dv2 q => (by
      obtain rfl : d2 = .bool true := q
      cases dv2
      exact k _), fun _ _ _ _ _ q => q.elim, fun _ _ _ _ _ q => q.elim⟩
end HW

/-! Y13: tuples backwards; {} as a value -/
namespace HW
open PySem L2 PySem.Spec PyProof.Rows
section
variable {prog : Program} {w : World} {A : Around} {E : Value → Shared → Prop} {s : Shared}
theorem back_pick (xs : Array Value) : ((List.range xs.size).filterMap fun (k : Nat) => xs[((xs.size : Int) - 1 + (k : Int) * (-1)).toNat]?).toArray = xs.toList.reverse.toArray := by
  have e : (List.range xs.size).filterMap (fun (k : Nat) => xs[((xs.size : Int) - 1 + (k : Int) * (-1)).toNat]?) = ((List.range xs.size).map fun k => xs.size - 1 - k).filterMap (xs[·]?) := by
    rw [List.filterMap_map]
    congr 1
    funext k
    have : ((xs.size : Int) - 1 + (k : Int) * (-1)).toNat = xs.size - 1 - k := by omega
    rw [this]
    rfl
  rw [e, PySem.W.krv_range, List.filterMap_reverse, PySem.W.krv_all]
theorem back_places (n : Nat) : Builtin.Slice.slicePlaces ((n : Int) - 1) (-1) (-1) = n := by
  unfold Builtin.Slice.slicePlaces
  rw [if_neg (by omega)]
  have e : (-(-1) : Int) = 1 := rfl
  rw [e, Int.ediv_one]
  split <;> omega
theorem back_slice {sl : Addr} {vl vu vs : Value} {n : Nat} {Q : Int × Int × Nat → Shared → Prop} (hs : s.heap.IsSliceOf sl vl vu vs) (pl : IsPart vl none) (pu : IsPart vu none) (pk : IsPart vs (some (-1))) (h : Q ((n : Int) - 1, -1, n) s) :
    wpAny (model prog w) A (Builtin.Slice.sliceApplied (.ref sl) (pure (n : Int))) Q E s := by
  obtain ⟨o, e, _, d⟩ := id hs
  unfold Builtin.Slice.sliceApplied Builtin.Slice.sliceFields
  refine wpAny_bind (wpAny_bind (wpAny_field e d (x := vl) rfl (wpAny_bind (wpAny_field e d (x := vu) rfl (wpAny_bind (wpAny_field e d (x := vs) rfl (wpAny_pure ?_)))))))
  refine wpAny_bind (HT.slicePart_ pk ?_)
  show wpAny _ _ (if ((-1 : Int) == 0) = true then _ else _) _ _ s
  rw [if_neg (by decide)]
  refine wpAny_bind (HT.slicePart_ pl (wpAny_bind (HT.slicePart_ pu (wpAny_bind (wpAny_pure ?_)))))
  show wpAny _ _ (pure ((n : Int) - 1, (-1 : Int), Builtin.Slice.slicePlaces ((n : Int) - 1) (-1) (-1))) _ _ s
  rw [back_places]
  exact wpAny_pure h
theorem tup_back {t sl : Addr} {items : Array Value} {vl vu vs : Value} {Q : Value → Shared → Prop} (ht : IsTup s.heap t items) (hs : s.heap.IsSliceOf sl vl vu vs) (pl : IsPart vl none) (pu : IsPart vu none) (pk : IsPart vs (some (-1))) (hz : items.size ≤ sizeLine)
    (h : Q (.ref s.heap.objs.size) { s with heap := s.heap.push { cls := .type "tuple", data := .seq items.toList.reverse.toArray } }) : wpAny (model prog w) A (getItem (.ref t) (.ref sl)) Q E s := by
  have ok : sizeOk (.seq items.toList.reverse.toArray) := by
    show items.toList.reverse.toArray.size ≤ sizeLine
    rw [List.size_toArray, List.length_reverse, Array.length_toList]
    exact hz
  obtain ⟨o, e, ec, d⟩ := id hs
  have isS : s.TypeIs (.ref sl) "slice" := ⟨o, e, ec⟩
  unfold getItem
  try with_reducible refine wpAny_holding ?_
  first | refine wpAny_bind (wpAny_pure ?_) | skip
  refine wpAny_bind (wpAny_sequenceKey ht.typeIs (by decide) ?_)
  refine wpAny_bind (wpAny_callSpecial?_slot (name := Str.ofString "__getitem__") ht.typeIs slot_tuple_getitem (wpAny_call_entry slot_tuple_getitem ht.typeIs entry_tuple_getitem ?_ (args_tuple_getitem _ _)))
  show wpAny _ _ (Builtin.Tuple.tupleItemsOf (.ref t) >>= _) _ _ s
  refine wpAny_bind (tupleItemsOf_ ht (wpAny_bind (wpAny_typeOf isS ?_)))
  rw [if_pos (by decide)]
  refine wpAny_bind (back_slice hs pl pu pk ?_)
  have no : ¬ ((((items.size : Int) - 1 == 0) && ((-1 : Int) == 1) && (items.size == items.size)) = true) := by simp
  show wpAny _ _ (if (((items.size : Int) - 1 == 0) && ((-1 : Int) == 1) && (items.size == items.size)) = true then _ else _) _ _ s
  rw [if_neg no, back_pick]
  first
    | exact wpAny_bind (m := Builtin.Tuple.tupleExact _) (wpAny_newObj_type (wpAny_pure ⟨_, rfl, wpAny_pure h⟩) ok)
    | exact wpAny_bind (m := Builtin.Tuple.tupleExact _) (wpAny_newObj_type (wpAny_bind (wpAny_pure (wpAny_pure ⟨_, rfl, wpAny_pure h⟩))) ok)
    | exact wpAny_bind (wpAny_bind (m := Builtin.Tuple.tupleExact _) (wpAny_newObj_type (wpAny_pure (wpAny_pure ⟨_, rfl, wpAny_pure h⟩)) ok))
    | exact wpAny_bind (wpAny_bind (m := Builtin.Tuple.tupleExact _) (wpAny_newObj_type (wpAny_pure ⟨_, rfl, wpAny_pure h⟩) ok))
end
section
variable {X : Cx} {M : MI} {e : Expr} {we : WE} {p pos : Pos}
def tBackT (K : PySem.W.Frag) (te : TE) : TE := fun σ H Q => te σ H fun x H1 => ∃ a xs, x = .ref a ∧ SqT K H1 a xs ∧ ∀ p, H1 p = none → Q (.ref p) (upd H1 p (.tup xs.reverse))
theorem pe_backT {te : TE} {k : Nat} {p1 p2 p3 : Pos} (he : PE X e te) : PE X (.Subscript e (.Slice none none (some (.UnaryOp .USub (.Constant (.int 1) k p1) p2)) p3) pos) (tBackT X.K te) := by
  refine ⟨fun pins s σ H Q I h => Subscript_ (thn (he.run pins s σ H _ I h) fun v s1 ⟨x, H1, I1, r1, a, xs, ex, hx, q⟩ => ?_)⟩
  subst ex
  cases r1
  have step : PO X (some (.UnaryOp .USub (.Constant (.int 1) k p1) p2)) (tPart (tUn (rU fun i => .int (-i)) (tC (.int 1)))) := po_some (pe_un un_neg pe_int)
  refine wpAny_Slice (thn (po_none.run pins s1 σ H1 (fun o G => o = none ∧ G = H1) I1 ⟨rfl, rfl⟩) fun vl s2 ⟨l, H2, I2, pl, el, e2⟩ => ?_)
  rw [e2] at I2
  rw [el] at pl
  refine thn (po_none.run pins s2 σ H1 (fun o G => o = none ∧ G = H1) I2 ⟨rfl, rfl⟩) fun vu s3 ⟨u, H3, I3, pu, eu, e3⟩ => ?_
  rw [e3] at I3
  rw [eu] at pu
  refine thn (step.run pins s3 σ H1 (fun o G => o = some (-1) ∧ G = H1) I3 ⟨1, rfl, -1, rfl, rfl, rfl⟩) fun vs s4 ⟨o, H4, I4, ps, eo, e4⟩ => ?_
  rw [e4] at I4
  rw [eo] at ps
  have I5 : Inv X pins σ H1 { s4 with heap := s4.heap.push { cls := .type "slice", data := .fields #[vl, vu, vs] } } := I4.kept (t' := s4.toks) fun b ob q => Heap.get?_push_of_some _ q
  obtain ⟨its, r, ht, hz⟩ := I5.tuple hx
  have hl := r.length
  show wpAny (model X.prog X.w) X.A (subscriptTail e (.Slice none none (some (.UnaryOp .USub (.Constant (.int 1) k p1) p2)) p3) (.ref a) (.ref s4.heap.objs.size)) (EP X pins σ Q) X.xe { s4 with heap := s4.heap.push { cls := .type "slice", data := .fields #[vl, vu, vs] } }
  refine tail_any (ops := [.ref a, .ref s4.heap.objs.size]) ht.typeIs slot_tuple_getitem.lookup ?_ (by with_unfolding_all rfl)
  refine tup_back ht (Heap.IsSliceOf.new _ vl vu vs) pl pu ps (by rw [List.size_toArray]; omega) ?_
  refine ⟨.ref _, _, I5.laid (t' := s4.toks) (o := .tup xs.reverse) (fun b ob q => Heap.get?_push_of_some _ q) (Nat.le_refl _) ?_, rfl, q _ (I5.hok.fresh (Nat.le_refl _))⟩
  exact ⟨by rw [List.length_reverse]; exact hz, _, r.reverse, IsTup.new _ _⟩
def wBackT (we : WE) : WE := fun ρ c Q => we ρ c fun d c1 => ∃ ds, d = .tuple ds ∧ Q (.tuple ds.reverse) c1
theorem e_backT {k0 : Nat} {p1 p2 p3 : Pos} (he : PE X e (tB M X.K we)) : PE X (.Subscript e (.Slice none none (some (.UnaryOp .USub (.Constant (.int 1) k0 p1) p2)) p3) pos) (tE M X.K (wBackT we)) := by
  refine PE.imp (pe_backT he) ?_
  rintro σ H Q ⟨w, ρ, Qd, eh, ev, g, hw, k⟩
  refine ⟨w, ρ, _, eh, ev, g, hw, fun w1 v d s1 g1 bv q1 => ?_⟩
  obtain ⟨ds, rfl, q1⟩ := q1
  obtain ⟨a, vs, rfl, h1, h2⟩ := bv.seqT
  exact ⟨a, vs, rfl, h1, fun p hp => k (w1.new p (.tup vs.reverse)) _ _ (s1.trans (stp_new hp)) (gd_new g1 hp) (new_tup g1 hp h2.rev) q1⟩
theorem e_dict0 : PE X (.Dict [] [] pos) (tE M X.K (wC (.dict []))) := by
  refine PE.imp pe_dnewK ?_
  rintro σ H Q ⟨w, ρ, Qd, eh, ev, g, hw, k⟩
  subst eh
  intro p hp
  exact k (w.new p (.dK [])) _ _ (stp_new hp) (gd_new g hp) (.dic new_F (.inl new_at) .nil) hw
end
section
variable {R : RR} {xa : XE} {wa : WE}
@[simp] def xBackT (xa : XE) : XE := fun ρ => (xa ρ).bind fun d => match d with
  | .tuple ds => .ok (.tuple ds.reverse)
  | _ => .bad
theorem k_backT (ha : RfE R xa wa) : RfE R (xBackT xa) (wBackT wa) := fun ρ c Q h => ha ρ c _ (Rs.post_bm h fun d h => by
  cases d with
  | tuple ds => exact ⟨ds, rfl, h⟩
  | _ => exact h.elim)
def xOut (ns : List Str) (rs : List FRow) (xa : XE) : XE := fun ρ => match xa (maskE ρ) with
  | .ok d => .ok (.list [d])
  | .ex e => if e.C ∈ ns then Rs.ofO (faultD rs e) else .bad
  | .bad => .bad
theorem k_out {ns : List Str} {rs : List FRow} {wb : XR → WE} (h : ∀ R' : XR, RfE (fun x _ c => R' x c) xa (wb R')) : RfE R (xOut ns rs xa) (wOut ns rs wb) := fun ρ c Q hp => by
  refine h _ (maskE ρ) c _ ?_
  unfold xOut at hp
  cases e : xa (maskE ρ) with
  | bad => rw [e] at hp; exact hp.elim
  | ok d => rw [e] at hp; exact hp
  | ex x =>
    rw [e] at hp
    show x.C ∈ ns ∧ ∃ y, faultD rs x = some y ∧ Q y c
    dsimp only at hp
    split at hp
    · rename_i hx
      obtain ⟨y, h1, h2⟩ := Rs.post_ofO hp
      exact ⟨hx, y, h1, h2⟩
    · exact hp.elim
end
end HW

/-! Y14: defs that make lambdas; attributes of kept errors; the classes -/
namespace HW
open PySem PySem.Spec PyProof.Rows L2 LamX
section
variable {P : Program} {w : World} {K : PySem.W.Frag} {mg : Str → Option Value} {base : Heap} {CX : CXT} {k : Nat} {f : Addr} {fd : FuncData} {ps : List Str} {sp : Sp}
/-- a def by its body, the code object told -/
theorem fnGC {x qual : Str} {st : Stmt} {N : List Str} (F : L2.Fun K x qual st f fd) (S : FnScope N ps (defScope st)) (len : ∀ vs H Q E, sp vs H Q E → vs.length = ps.length)
    (hbody : ∀ (cdv : Value) (A : Around) (outer : List Env) (s : Shared) (H : Hp) (vs : List V) (Q : VK) (E : XK), fd.code = cdv → (A.deeper (PyProof.Rows.envOfC qual (defScope st) s.heap.objs.size f cdv)).guards = some [] → Room k (A.deeper (PyProof.Rows.envOfC qual (defScope st) s.heap.objs.size f cdv)) → sp vs H Q E →
      ∃ t, PSs (cxOf CX P w K mg base N qual (defScope st) f cdv A outer s H E) (defBody st) t ∧ t { nx := fun _ H' => Q .non H', rt := Q } (L2.start N vs) H) : FnG P w K mg base CX (k + 1) f fd ps sp := by
  obtain ⟨oc, od, kV, doc, pm, an, cdv, ct, osl, e, look, code⟩ := F.ex
  have ec : fd.code = cdv := by rw [e]
  refine ⟨len, fun A outer s0 H0 args us vs Q E gds room e0 bnd rel want => ?_⟩
  have inK : K.In s0.heap := e0.mod.kin.keeps fun a o h => (e0.bs a o h).1
  have kinds : ∀ q ∈ ps.zip us, (defScope st).names.lookup q.1 = some .local ∨ ((defScope st).names.lookup q.1 = some .cell ∧
      ((cellsFrom (s0.heap.objs.size + 1) (defScope st).names []).lookup q.1).isSome = true) := fun q hq =>
    (S.par q.1 (List.of_mem_zip (show (q.1, q.2) ∈ ps.zip us from hq)).1).imp (fun z => z) fun z => ⟨z, PySem.W.cellsFrom_some _ _ _ (.inl z)⟩
  obtain ⟨t, run, q0⟩ := hbody cdv A outer s0 H0 vs Q E ec gds (room.deeper _) want
  subst e
  refine codeAny_call_function room.depth (inK _ _ look) rfl S.co S.gen rfl
    (PySem.W.codeRec_of inK code) (bnd _ _ _ _ (wpAny_newFunctionEnv_cells S.kind kinds fun env henv s1 made => ?_))
  subst henv
  have lim : s0.heap.NoLimit := e0.mod.nolimit.keeps fun a o h => (e0.bs a o h).1
  refine ⟨lim.keeps made.toInCall.keep, codeAny_func ?_⟩
  have I0 := inv_start (CX := CX) (P := P) (w := w) (K := K) (mg := mg) (base := base) (E := E)
    S room.hd e0 (len _ _ _ _ want) rel made
  refine wpAny_mono (run.run [] s1 _ H0 _ I0 q0) (fun fl s2 h2 => ?_) fun _ _ h2 => h2
  cases fl with
  | ret u => exact let ⟨v, _, H2, J, rv, q⟩ := h2; ⟨v, H2, J.os, J.bare, J.base, J.hok, rv, q⟩
  | next => exact let ⟨_, H2, J, q⟩ := h2; ⟨V.non, H2, J.os, J.bare, J.base, J.hok, rfl, q⟩
  | brk => exact let ⟨_, _, _, q⟩ := h2; q.elim
  | cont => exact let ⟨_, _, _, q⟩ := h2; q.elim
theorem def_gC {x qual : Str} {st : Stmt} {N : List Str} {M : MI} {ws : WS} {fw : FW} (F : L2.Fun K x qual st f fd) (S : FnScope N ps (defScope st))
    (hb : ∀ (cdv : Value) (A : Around) (outer : List Env) (s : Shared) (H : Hp) (E : XK) (w0 : W), fd.code = cdv → (A.deeper (PyProof.Rows.envOfC qual (defScope st) s.heap.objs.size f cdv)).guards = some [] → Room k (A.deeper (PyProof.Rows.envOfC qual (defScope st) s.heap.objs.size f cdv)) →
      PSs (cxOf CX0 P w K mg base N qual (defScope st) f cdv A outer s H E).nox (defBody st) (tS M K w0 ws))
    (hf : ∀ es c Q, fw es c Q → es.length = ps.length ∧ wDef N ws es c Q) : FnG P w K mg base CX0 (k + 1) f fd ps (fnSp M K fw) := by
  refine fnGC F S (fun vs H Q E h => ?_) fun cdv A outer s H vs Q E ec gds room h => ?_
  · obtain ⟨w, es, Qd, eh, g, a, hw, k⟩ := h
    rw [a.length]; exact (hf _ _ _ hw).1
  · obtain ⟨w1, es, Qd, eh, g, a, hw, kk⟩ := h
    refine ⟨_, PSs.nox (hb cdv A outer s H E w1 ec gds room), w1, startE N es, _, eh, start_ok g a, (hf _ _ _ hw).2, ?_⟩
    exact ⟨fun w' σ' ρ' _ so q => kk w' .non .none so.st so.gd .non q, fun w' v d s g dv q => kk w' v d s g dv q, fun _ _ _ _ _ q => q, fun _ _ _ _ _ q => q⟩
end
/-- e.f is told of the class's own errors -/
theorem fv_attr {X : Cx} {M : MI} {w0 : W} {n f : Str} (vf : VfOk X.K X.mg n f) : ∀ (w : W) (σ : L2.St) (ρ : List En) (a A : Addr) (d : Option Addr) (x : Xd) (y : D) (Q : VK), SOk M X.K w0 w σ ρ → Fx X.K X.mg w σ a A d x → x.C = n → fVal x (some f) = some y → (∀ v, Dv X.K w.F w.H v y → Q v w.H) → tVf X.K f (tVar 0) σ w.H Q := by
  intro w σ ρ a A d x y Q so fx e fy k
  have mA : X.mg n = some (.ref A) := e ▸ fx.xo.1
  obtain ⟨xf, nf⟩ := vf.xf A mA
  rcases fx.xo.2 with ⟨_, z⟩ | ⟨dd, fvs, rfl, e2, _, e4⟩
  · have fy' : x.fs.lookup f = some y := fy
    rw [z] at fy'
    cases fy'
  · obtain ⟨v, lv, dv⟩ := e4.get (show x.fs.lookup f = some y from fy)
    exact ⟨.ref a, fx.s0, a, A, dd, fvs, v, rfl, fx.ha, e2, xf, nf, lv, k v dv⟩
theorem fv_none {X : Cx} {M : MI} {w0 : W} {n : Str} : ∀ (w : W) (σ : L2.St) (ρ : List En) (a A : Addr) (d : Option Addr) (x : Xd) (y : D) (Q : VK), SOk M X.K w0 w σ ρ → Fx X.K X.mg w σ a A d x → x.C = n → fVal x none = some y → (∀ v, Dv X.K w.F w.H v y → Q v w.H) → tC .non σ w.H Q := by
  intro w σ ρ a A d x y Q so fx e fy k
  cases fy
  exact k _ .non
/-- what is known of one class -/
structure Kc (K : PySem.W.Frag) (C : Addr) : Prop where
  ga : PySem.W.findIn K (.ref C) "__getattribute__" = some (some (.builtin "BaseException.__getattribute__"))
  gt : PySem.W.findIn K (.ref C) "__getattr__" = some none
  sb : PySem.W.subIn K (.ref C) (.type "BaseException") = some true
  ty : PySem.W.typeIn K (.ref C) = some (.type "type")
  hd : PySem.W.hasDictIn K C = true
  ca : PySem.W.findIn K (.ref C) "__class__" = some (some (.builtin "object.__class__"))
  mr : PySem.W.mroIn K C (.type "object") = some true
structure Kg (K : PySem.W.Frag) : Prop where
  sp : PySem.W.specialIn K (.builtin "object.__class__") "__get__" = some (some (.builtin "getset_descriptor.__get__"))
  tk : PySem.W.takesIn K (.builtin "object.__class__") = some true
theorem Kc.vc {K : PySem.W.Frag} {C : Addr} (c : Kc K C) (g : Kg K) : VcOk K C where
  cl := by
    obtain ⟨cd, h, _⟩ := PySem.W.any_some c.hd
    rw [h]
    rfl
  ga := c.ga
  gt := c.gt
  sb := c.sb
  ca := c.ca
  sp := g.sp
  tk := g.tk
  mr := c.mr
theorem Kc.xf {K : PySem.W.Frag} {C : Addr} (c : Kc K C) : XfC K C := ⟨c.ga, c.gt, c.sb, c.hd⟩
theorem kit_ref {K : PySem.W.Frag} {A C : Addr} {b : Bool} (c : Kc K C) (h : PySem.W.subIn K (.ref A) (.ref C) = some b) (hb : A = C → b = true) : PySem.W.kitOne K (.ref A) (.ref C) = some b := by
  obtain ⟨cd, hc, _⟩ := PySem.W.any_some c.hd
  unfold PySem.W.kitOne
  by_cases e : A = C
  · subst e
    rw [if_pos (by simp), hb rfl]
  · rw [if_neg (by simp [e])]
    show (if ((PySem.W.clsIn K C).isSome && PySem.W.typeIn K (.ref C) == some (.type "type")) = true then PySem.W.subIn K (.ref A) (.ref C) else none) = some b
    rw [if_pos (by rw [hc, c.ty]; rfl)]
    exact h
/-- all classes, by their facts -/
theorem classes_ok {K : PySem.W.Frag} {mg : Str → Option Value} {ps : List (Str × Addr)} {ns : List Str} (en : ns = ps.map (·.1)) (nd : ns.Nodup) (g : Kg K) (hm : ∀ p ∈ ps, mg p.1 = some (.ref p.2)) (hc : ∀ p ∈ ps, Kc K p.2) (hp : ∀ p ∈ ps, ∀ q ∈ ps, PySem.W.subIn K (.ref p.2) (.ref q.2) = some (decide (p.1 = q.1))) :
    ExT K mg ns ∧ VgOk K mg ns := by
  subst en
  have same : ∀ p ∈ ps, ∀ q ∈ ps, p.2 = q.2 → p.1 = q.1 := fun p h1 q h2 e => by
    have a := hp p h1 q h2
    have b := hp q h2 q h2
    rw [e, b] at a
    exact of_decide_eq_true ((Option.some.inj a).symm.trans (decide_eq_true rfl))
  refine ⟨⟨fun n hn => ?_, fun n hn n' hn' c c' e1 e2 => ?_⟩, ⟨fun n hn => ?_, fun n hn n' hn' c c' e1 e2 => ?_⟩⟩
  · obtain ⟨p, h1, rfl⟩ := List.mem_map.mp hn
    exact ⟨p.2, hm p h1⟩
  · obtain ⟨p, h1, rfl⟩ := List.mem_map.mp hn
    obtain ⟨q, h2, rfl⟩ := List.mem_map.mp hn'
    rw [hm p h1] at e1
    rw [hm q h2] at e2
    cases e1
    cases e2
    exact PySem.W.exm_ref (hc q h2).sb (hc q h2).hd (hc q h2).ty (hp p h1 q h2)
  · obtain ⟨p, h1, rfl⟩ := List.mem_map.mp hn
    exact ⟨p.2, hm p h1, (hc p h1).vc g⟩
  · obtain ⟨p, h1, rfl⟩ := List.mem_map.mp hn
    obtain ⟨q, h2, rfl⟩ := List.mem_map.mp hn'
    rw [hm p h1] at e1
    rw [hm q h2] at e2
    cases e1
    cases e2
    exact kit_ref (hc q h2) (hp p h1 q h2) fun e => decide_eq_true (same p h1 q h2 e)
section
variable {X : Cx} {M : MI} {k j : Nat} {x : Str} {sp : Sp} {p pos : Pos}
/-- a def without parameters, called -/
theorem pe_g0 (C : CalG X.prog X.w X.K X.mg X.base k x sp) (hr : Room j X.A) (hk : k ≤ j) (gds : X.A.guards = some []) (hg : Gl X x) (hdb : (x == ("__debug__" : Str)) = false := by decide) : PE X (.Call (.Name x p) [] [] pos) (tCall sp [] E0 tNil) := by
  obtain ⟨f, fd, ps, F, hm, kp, b⟩ := C.ex
  refine ⟨fun pins s σ H Q I h => wpAny_Call_Name_kw (ld_glob I hg hm ?_ hdb)⟩
  have hl : ([] : List Value).length = ps.length := F.len [] H Q E0 h
  have bd := b s [] I.kIn hl
  refine PySem.W.callWith_K0 I.kIn kp (wpAny_call (codeAny_mono (F.run X.A X.stack s H ⟨[], []⟩ [] [] Q E0 gds (hr.mono hk) I.env0 bd .nil h) fun r2 s2 h2 => ?_))
  cases r2 with
  | error er => exact False.elim h2
  | ok fl =>
    cases fl with
    | ret u => exact I.after h2
    | next => exact False.elim h2
    | brk => exact False.elim h2
    | cont => exact False.elim h2
theorem e_call0 {f : FW} (C : CalG X.prog X.w X.K X.mg X.base k x (fnSp M X.K f)) (hr : Room j X.A) (hk : k ≤ j) (gds : X.A.guards = some []) (hg : Gl X x) (hdb : (x == ("__debug__" : Str)) = false := by decide) : PE X (.Call (.Name x p) [] [] pos) (tE M X.K (wCall f HW.gNil)) := by
  refine PE.imp (pe_g0 C hr hk gds hg hdb) ?_
  rintro σ H Q ⟨w, ρ, Qd, eh, ev, g, hw, k⟩
  exact ⟨w, [], Qd, eh, g, .nil, hw, k⟩
end
end HW

/-! Y15: t == (), whatever t holds -/
namespace HW
open PySem PySem.Spec PyProof.Rows L2
section
variable {X : Cx}
def rEqE (K : PySem.W.Frag) : R2 := fun x y H Q => ∃ a b xs, x = .ref a ∧ y = .ref b ∧ SqT K H a xs ∧ SqT K H b [] ∧ Q (.bl xs.isEmpty) H
theorem op_eqE (hu : X.A.units + 64 < cLine) : OpR X (compareOp .Eq) (rEqE X.K) := by
  intro pins s σ H x y v u Q I rx ry h
  obtain ⟨a, b, xs, rfl, rfl, ha, hb, q⟩ := h
  cases rx
  cases ry
  obtain ⟨its, r1, p1, _⟩ := I.tuple ha
  obtain ⟨its2, r2, p2, _⟩ := I.tuple hb
  cases r2
  refine SeqAt.eq_tupleAt (e := fun _ => true) p1 p2 (by omega) (fun j h1 h2 => absurd h2 (by simp)) ?_
  have e : ((List.range (min its.toArray.size ([] : List Value).toArray.size)).all (fun _ => true) && its.toArray.size == ([] : List Value).toArray.size) = xs.isEmpty := by
    have hl := r1.length
    cases r1 with
    | nil => rfl
    | cons _ _ => simp
  rw [e]
  exact ⟨.bl _, H, I, rfl, q⟩
def eqED : D → D → Option D
  | .tuple xs, .tuple [] => some (.bool xs.isEmpty)
  | _, _ => none
theorem d_eqE {M : MI} {K : PySem.W.Frag} : OpD M K (rEqE K) eqED := fun w x y dx dy z Q g hx hy e k => by
  cases dx <;> cases dy <;> simp only [eqED, reduceCtorEq] at e
  rename_i ds es
  cases es with
  | cons _ _ => simp only [eqED, reduceCtorEq] at e
  | nil =>
    simp only [eqED, Option.some.injEq] at e
    subst e
    obtain ⟨a, vs, rfl, h1, h2⟩ := hx.seqT
    obtain ⟨b, us, rfl, h3, h4⟩ := hy.seqT
    cases h4
    have : vs.isEmpty = ds.isEmpty := by cases h2 <;> rfl
    refine ⟨a, b, vs, rfl, rfl, h1, h3, ?_⟩
    rw [this]
    exact k w _ (Stp.refl w) g (.bl _) rfl
end
end HW

/-! Y16: words that are never come to; str(int) -/
namespace HW
open PySem PySem.Spec PyProof.Rows L2
section
variable {X : Cx} {M : MI} {w0 : W} {R : RR}
def wFail : WS := fun _ _ _ => False
theorem sl_fail {sts : List Stmt} : PSs X sts (tS M X.K w0 wFail) := ⟨fun _ _ _ _ _ _ h => by
  obtain ⟨w, ρ, dd, _, _, hw, _⟩ := h
  exact hw.elim⟩
def xFail : XS := fun _ => .bad
theorem k_fail : RfS R xFail wFail := fun _ _ _ h => h
def wFailE : WE := fun _ _ _ => False
theorem e_fail {e : Expr} : PE X e (tE M X.K wFailE) := ⟨fun _ _ _ _ _ _ h => by
  obtain ⟨w, ρ, Qd, _, _, _, hw, _⟩ := h
  exact hw.elim⟩
def wParF3 (i j l : Nat) (wn : WN) (we wk : WE) : WS := fun dd ρ c => wn ρ c fun en c1 => we ρ c1 fun d c2 => wk ρ c2 fun d2 c3 => dd.nx (((ρ.set i en).set j (.im d)).set l (.im d2)) c3
/-- one new object of one's own and two values to three names -/
theorem s_parF3 {i j l : Nat} {x y z : Str} {a b e : Expr} {we wk : WE} {wn : WN} {px py pz pt pos : Pos} {kt k2 pt2} (hc : X.calm = true) (hN : X.N.Nodup) (hi : X.N[i]? = some x) (hj : X.N[j]? = some y) (hl : X.N[l]? = some z) (hij : i ≠ j) (hil : i ≠ l) (hjl : j ≠ l) (hx : X.env.scope.names.lookup x = some .local) (hy : X.env.scope.names.lookup y = some .local) (hz : X.env.scope.names.lookup z = some .local) (ha : PE X a (tN M X.K wn)) (hb : PE X b (tE M X.K we)) (he : PE X e (tE M X.K wk))
    (hw : swappedStores [.Tuple [.Name x px, .Name y py, .Name z pz] kt pt] (.Tuple [a, b, e] k2 pt2) X.env = pure (some [x, y, z]) := by rfl) (h1 : starEach [a, b, e] X.env = (false, eval a X.env) :: starEach [b, e] X.env := by rfl) (h2 : starEach [b, e] X.env = (false, eval b X.env) :: starEach [e] X.env := by rfl) (h3 : starEach [e] X.env = (false, eval e X.env) :: starEach [] X.env := by rfl) (hs : swapsWithSole [.Tuple [.Name x px, .Name y py, .Name z pz] kt pt] (.Tuple [a, b, e] k2 pt2) pos.line X.env = pure false := by rfl) :
    PS X (.Assign [.Tuple [.Name x px, .Name y py, .Name z pz] kt pt] (.Tuple [a, b, e] k2 pt2) pos) (tS M X.K w0 (wParF3 i j l wn we wk)) := by
  refine PS.imp (ps_par3 hc hN hi hj hl hij hil hjl hx hy hz (pa_cons ha (pa_cons hb (pa_cons he pa_nil h3) h2) h1) hw hs) ?_
  rintro D σ H ⟨w, ρ, dd, eh, so, hw, k⟩
  refine ⟨w, ρ, _, eh, so.ev, so.gd, hw, fun w1 p en s1 g1 hm he fr q1 => ?_⟩
  refine ⟨w1, ρ, _, rfl, so.ev.stp s1 so.gd, g1, q1, fun w2 v d s2 g2 dv q2 => ?_⟩
  refine ⟨w2, ρ, _, rfl, (so.ev.stp s1 so.gd).stp s2 g1, g2, q2, fun w3 v3 d3 s3 g3 dv3 q3 => ?_⟩
  refine ⟨.ref p, v, v3, rfl, ?_⟩
  have so2 := ((so.stp s1 g1).stp s2 g2).stp s3 g3
  have s23 := s2.trans s3
  have so3 := so2.setOwn (i := i) hm (he.stp s23 g1) fun a sa => ⟨nn so.st (fr a (Sub.back he s23 sa)), fun j' oj => (so.ev.tracked (Own.back so.ev.ok s1 (Own.back (so.ev.stp s1 so.gd).ok s23 oj))).1 (fr a (Sub.back he s23 sa))⟩
  exact k.nx w3 _ _ ((s1.trans s23).fk so.gd) ((so3.setIm (i := j) (dv.fk (s3.fk g2))).setIm dv3) q3
@[simp] def xParF3 (i j l : Nat) (xn : XN) (xa xb : XE) : XS := fun ρ => lift (xn ρ) ρ fun en => lift (xa ρ) ρ fun d => lift (xb ρ) ρ fun d2 => .ok (.nx (((ρ.set i en).set j (.im d)).set l (.im d2)))
theorem k_parF3 {i j l : Nat} {xn : XN} {wn : WN} {xa xb : XE} {wa wb : WE} (hn : RfN R xn wn) (ha : RfE R xa wa) (hb : RfE R xb wb) : RfS R (xParF3 i j l xn xa xb) (wParF3 i j l wn wa wb) := fun dd ρ c h => hn ρ c _ (post_lift h (fun en h => ha ρ c _ (post_lift h (fun d h => hb ρ c _ (post_lift h (fun d2 h => h) fun x h => h)) fun x h => h)) fun x h => h)
def xFailE : XE := fun _ => .bad
theorem k_failE : RfE R xFailE wFailE := fun _ _ _ h => h
end
end HW

/-! Y17: repr of whatever thing: a flat one, or one of scalars, tuples and empty dicts -/
namespace HW
open PySem PySem.Spec PyProof.Rows L2
mutual
/-- no list; a dict only where it is empty -/
def noL : D → Bool
  | .tuple ds => noLA ds
  | .dict [] => true
  | .none => true
  | .bool _ => true
  | .int _ => true
  | .str _ => true
  | _ => false
def noLA : List D → Bool
  | [] => true
  | d :: r => noL d && noLA r
end
section
variable {X : Cx} {pins : List (Addr × Obj)} {σ : L2.St} {H : Hp} {s : Shared} {P : Addr → Prop}
mutual
theorem Dv.rdN (I : Inv X pins σ H s) : ∀ (d : D) (v : V) (u : Value), Dv X.K P H v d → noL d = true → RelV v u → ∃ as, Reads s.heap u d as ∧ sysModules ∉ as
  | .none, _, _, h, _, r => by
    cases h
    cases r
    exact ⟨_, Reads.none, by simp⟩
  | .bool b, _, _, h, _, r => by
    cases h
    cases r
    exact ⟨_, Reads.bool b, by simp⟩
  | .int i, _, _, h, _, r => by
    cases h
    obtain ⟨t, rfl⟩ := r
    exact ⟨_, Reads.int i t, by simp⟩
  | .str x, _, _, h, _, r => by
    cases h
    obtain ⟨t, rfl⟩ := r
    exact ⟨_, Reads.str x t, by simp⟩
  | .list ds, _, _, _, n, _ => by simp only [noL, Bool.false_eq_true] at n
  | .tuple ds, _, _, h, n, r => by
    cases h with
    | tup hs ha =>
      cases r
      obtain ⟨its, rv, ⟨o, ho, hc, n', hd⟩, _⟩ := I.tuple hs.sq
      obtain ⟨as, hr, hn⟩ := Dv.rdNA I ds _ its ha (by simpa only [noL] using n) rv
      exact ⟨_, Reads.tuple ho hc hd hr, hn⟩
  | .dict kvs, _, _, h, n, r => by
    cases kvs with
    | cons _ _ => simp only [noL, Bool.false_eq_true] at n
    | nil =>
      cases h with
      | dic _ hr hk =>
        cases hk
        cases r
        obtain ⟨_, ne, vs, kv, o, es, ep, ho, ⟨hc, _⟩, hd, _, hp, _⟩ := dk_rd I.hok hr
        cases kv
        have e0 : es.toList = [] := by
          cases hes : es.toList with
          | nil => rfl
          | cons a b => rw [hes] at hp; cases hp
        refine ⟨_, Reads.dict (kvs := []) (as := []) (bs := []) ho hc hd (by rw [e0]; exact ReadsAll.nil) (by rw [e0]; exact ReadsAll.nil), ?_⟩
        intro z
        simp only [List.append_nil, List.mem_singleton] at z
        rw [← z] at ne
        simp at ne
theorem Dv.rdNA (I : Inv X pins σ H s) : ∀ (ds : List D) (vs : List V) (us : List Value), DvA X.K P H vs ds → noLA ds = true → Vals vs us → ∃ as, ReadsAll s.heap us ds as ∧ sysModules ∉ as
  | [], _, _, h, _, r => by
    cases h
    cases r
    exact ⟨_, ReadsAll.nil, by simp⟩
  | d :: ds, _, _, h, n, r => by
    simp only [noLA, Bool.and_eq_true] at n
    cases h with
    | cons h1 h2 =>
      cases r with
      | cons r1 r2 =>
        obtain ⟨as, q1, n1⟩ := Dv.rdN I d _ _ h1 n.1 r1
        obtain ⟨bs, q2, n2⟩ := Dv.rdNA I ds _ _ h2 n.2 r2
        exact ⟨_, ReadsAll.cons q1 q2, fun z => (List.mem_append.mp z).elim n1 n2⟩
end
def reprAD (d : D) : Option D := if (flt d = true ∨ noL d = true) ∧ d.showable = true ∧ (flt d = true → d.hasDict = false) ∧ d.depth ≤ 60 ∧ d.shown.length ≤ LIM then some (.str d.shown) else none
theorem call_reprA {j : Nat} (hr : Room j X.A) (gds : X.A.guards = some []) : CallR X (.builtin "repr") (fun xs H Q => ∃ v d P, xs = [v] ∧ Dv X.K P H v d ∧ (flt d = true ∨ noL d = true) ∧ d.showable = true ∧ (flt d = true → d.hasDict = false) ∧ d.depth ≤ 60 ∧ d.shown.length ≤ sizeLine ∧ Q (.str d.shown) H) := by
  intro pins s σ H xs us Q I r h
  obtain ⟨v, d, P, rfl, dv, ok, h1, h2, h3, h4, q⟩ := h
  cases r with
  | cons r1 r2 =>
    rename_i u us
    cases r2
    have hu := hr.units
    have rds : ∃ as, Reads s.heap u d as ∧ (d.hasDict = true → sysModules ∉ as) := by
      rcases ok with f | n
      · obtain ⟨as, rd⟩ := Dp.reads I d v u (dv.dp f) r1
        exact ⟨as, rd, fun z => by rw [h2 f] at z; cases z⟩
      · obtain ⟨as, rd, no⟩ := Dv.rdN I d v u dv n r1
        exact ⟨as, rd, fun _ => no⟩
    obtain ⟨as, rd, no⟩ := rds
    have key : ∀ a, u = Value.ref a → wpAny (model X.prog X.w) X.A (call (.builtin "repr") [u]) (EP X pins σ Q) X.xe s := fun a ea => by
      subst ea
      exact PySem.repr_of_reads' rd h1 no gds (by omega) (fun _ _ z => z) (fun h' t tk kp => ⟨.str d.shown, H, I.kept (t' := tk) kp, ⟨t, rfl⟩, q⟩) h4
    cases rd with
    | list _ _ _ _ => exact key _ rfl
    | tuple _ _ _ _ => exact key _ rfl
    | dict _ _ _ _ _ => exact key _ rfl
    | none => exact PySem.P.repr_of_none ⟨.str _, H, I.tok _, ⟨_, rfl⟩, q⟩
    | bool b => exact PySem.P.repr_of_bool ⟨.str _, H, I.tok _, ⟨_, by cases b <;> rfl⟩, q⟩
    | int i t => exact PySem.P.repr_of_int (by simpa [PyData.showable] using h1) ⟨.str _, H, I.tok _, ⟨_, rfl⟩, by rw [← PyData.shown_int]; exact q⟩
    | str x t => exact PySem.P.repr_of_str ⟨.str _, H, I.tok _, ⟨_, rfl⟩, by rw [← PyData.shown_str]; exact q⟩ (by rw [← PyData.shown_str]; exact h4)
end
section
variable {X : Cx} {M : MI} {w0 : W} {e : Expr} {we : WE} {p pos : Pos}
theorem e_reprA {j : Nat} (hr : Room j X.A) (gds : X.A.guards = some []) (hg : Gl X "repr") (hm : X.mg "repr" = none) (he : PE X e (tE M X.K we)) (hs : starEach [e] X.env = (false, eval e X.env) :: starEach [] X.env := by rfl) : PE X (.Call (.Name "repr" p) [e] [] pos) (tE M X.K (wF reprAD we)) := by
  refine PE.imp (pe_callB (call_reprA hr gds) hg hm PyProof.Rows.boot_repr (pa_cons he pa_nil hs) (by decide) (by decide) hs (by rfl)) ?_
  rintro σ H Q ⟨w, ρ, Qd, eh, ev, g, hw, k⟩
  refine ⟨w, ρ, _, eh, ev, g, hw, fun w1 v d s1 g1 bv q1 => ?_⟩
  obtain ⟨z, ez, qz⟩ := q1
  unfold reprAD at ez
  split at ez
  · rename_i h
    cases ez
    exact ⟨v, d, _, rfl, bv, h.1, h.2.1, h.2.2.1, h.2.2.2.1, lim_size h.2.2.2.2, k w1 _ _ s1 g1 (.str _) qz⟩
  · cases ez
end
end HW

/-! Y18: l != [], whatever l holds -/
namespace HW
open PySem PySem.Spec PyProof.Rows L2
section
variable {X : Cx}
def rNeE (K : PySem.W.Frag) : R2 := fun x y H Q => ∃ a b xs, x = .ref a ∧ y = .ref b ∧ SqL K H a xs ∧ SqL K H b [] ∧ Q (.bl (!xs.isEmpty)) H
theorem op_neE (hu : X.A.units + 64 < cLine) : OpR X (compareOp .NotEq) (rNeE X.K) := by
  intro pins s σ H x y v u Q I rx ry h
  obtain ⟨a, b, xs, rfl, rfl, ha, hb, q⟩ := h
  cases rx
  cases ry
  obtain ⟨its, r1, ⟨o1, n1, h1, c1, _, d1⟩, _⟩ := I.list ha
  obtain ⟨its2, r2, ⟨o2, n2, h2, c2, _, d2⟩, _⟩ := I.list hb
  cases r2
  have l1 : s.heap.IsList a its.toArray := ⟨o1, h1, c1, n1, d1⟩
  have l2 : s.heap.IsList b ([] : List Value).toArray := ⟨o2, h2, c2, n2, d2⟩
  cases r1 with
  | nil =>
    refine SeqAt.RcNeAt.lists (e := fun _ => true) l1 l2 rfl (by omega) (fun j j1 j2 => absurd j2 (by simp)) _ _ _ _ ?_
    exact ⟨.bl _, H, I, rfl, q⟩
  | cons _ _ =>
    refine SeqAt.RcNeAt.lists_lengths l1 l2 (by simp) (by omega) _ _ _ _ ?_
    exact ⟨.bl _, H, I, rfl, q⟩
def neED : D → D → Option D
  | .list xs, .list [] => some (.bool (!xs.isEmpty))
  | _, _ => none
theorem d_neE {M : MI} {K : PySem.W.Frag} : OpD M K (rNeE K) neED := fun w x y dx dy z Q g hx hy e k => by
  cases dx <;> cases dy <;> simp only [neED, reduceCtorEq] at e
  rename_i ds es
  cases es with
  | cons _ _ => simp only [neED, reduceCtorEq] at e
  | nil =>
    simp only [neED, Option.some.injEq] at e
    subst e
    obtain ⟨a, vs, rfl, h1, h2⟩ := hx.seqL
    obtain ⟨b, us, rfl, h3, h4⟩ := hy.seqL
    cases h4
    have : vs.isEmpty = ds.isEmpty := by cases h2 <;> rfl
    refine ⟨a, b, vs, rfl, rfl, h1, h3, ?_⟩
    rw [this]
    exact k w _ (Stp.refl w) g (.bl _) rfl
end
end HW

/-! Y19: sorted(set(t)), t a tuple or a list of ints -/
namespace HW
open PySem PySem.Spec PyProof.Rows L2
def insU (x : Int) : List Int → List Int
  | [] => [x]
  | y :: r => if x < y then x :: y :: r else if x = y then y :: r else y :: insU x r
def usort : List Int → List Int
  | [] => []
  | x :: r => insU x (usort r)
theorem mem_insU {x k : Int} : ∀ {l : List Int}, k ∈ insU x l ↔ k = x ∨ k ∈ l
  | [] => by simp [insU]
  | y :: r => by
    unfold insU
    split
    · simp
    · split
      · rename_i h
        subst h
        simp
      · simp [mem_insU (l := r)]
        constructor
        · rintro (h | h | h) <;> simp [h]
        · rintro (h | h | h) <;> simp [h]
theorem mem_usort {k : Int} : ∀ {l : List Int}, k ∈ usort l ↔ k ∈ l
  | [] => Iff.rfl
  | x :: r => by
    unfold usort
    rw [mem_insU, mem_usort (l := r), List.mem_cons]
theorem srt_insU {x : Int} : ∀ {l : List Int}, l.Pairwise (· < ·) → (insU x l).Pairwise (· < ·)
  | [], _ => by simp [insU]
  | y :: r, h => by
    obtain ⟨h1, h2⟩ := List.pairwise_cons.mp h
    unfold insU
    split
    · rename_i hx
      refine List.pairwise_cons.mpr ⟨fun z hz => ?_, h⟩
      rcases List.mem_cons.mp hz with rfl | hz
      · exact hx
      · exact Int.lt_trans hx (h1 z hz)
    · split
      · exact h
      · refine List.pairwise_cons.mpr ⟨fun z hz => ?_, srt_insU h2⟩
        rcases mem_insU.mp hz with rfl | hz
        · omega
        · exact h1 z hz
theorem srt_usort : ∀ l : List Int, (usort l).Pairwise (· < ·)
  | [] => List.Pairwise.nil
  | x :: r => srt_insU (srt_usort r)
theorem srt_uniq : ∀ {a b : List Int}, a.Pairwise (· < ·) → b.Pairwise (· < ·) → (∀ k, k ∈ a ↔ k ∈ b) → a = b
  | [], [], _, _, _ => rfl
  | [], y :: r, _, _, h => absurd ((h y).mpr List.mem_cons_self) (by simp)
  | x :: r, [], _, _, h => absurd ((h x).mp List.mem_cons_self) (by simp)
  | x :: r, y :: s, ha, hb, h => by
    obtain ⟨a1, a2⟩ := List.pairwise_cons.mp ha
    obtain ⟨b1, b2⟩ := List.pairwise_cons.mp hb
    have e : x = y := by
      rcases List.mem_cons.mp ((h x).mp List.mem_cons_self) with z | z
      · exact z
      · rcases List.mem_cons.mp ((h y).mpr List.mem_cons_self) with w | w
        · exact w.symm
        · have := a1 y w
          have := b1 x z
          omega
    subst e
    congr 1
    refine srt_uniq a2 b2 fun k => ⟨fun hk => ?_, fun hk => ?_⟩
    · rcases List.mem_cons.mp ((h k).mp (List.mem_cons_of_mem _ hk)) with z | z
      · have := a1 k hk
        omega
      · exact z
    · rcases List.mem_cons.mp ((h k).mpr (List.mem_cons_of_mem _ hk)) with z | z
      · have := b1 k hk
        omega
      · exact z
def tSortSet (K : PySem.W.Frag) (ta : TE) : TE := fun σ H Q => ta σ H fun x H1 => ∃ (l : Addr) (ns : List Int), x = .ref l ∧ SqT K H1 l (ns.map V.int) ∧ ns.length < 60 ∧ ∀ p, H1 p = none → Q (.ref p) (upd H1 p (.lst ((usort ns).map V.int)))
theorem sort_run {X : Cx} {pins : List (Addr × Obj)} {s : Shared} {σ : L2.St} {H : Hp} {a : Addr} {S : Int → Bool} {n : Nat} {Q : VK} (I : Inv X pins σ H s) (R : SetR X.w s.heap a S n) (hc : X.calm = true) (h64 : n < 64)
    (q : ∀ (ms : List Int) (p : Addr), ms.Pairwise (· < ·) → (∀ k : Int, k ∈ ms ↔ S k = true) → ms.length = n → H p = none → Q (.ref p) (upd H p (.lst (ms.map V.int)))) : wpAny (model X.prog X.w) X.A (call (.builtin "sorted") [.ref a]) (EP X pins σ Q) X.xe s := by
  refine sorted_set R (I.ok.hd hc) h64 fun s' p out c ns k g o hp hg hi hs hm hl => ?_
  have hlen : (ns.map V.int).length ≤ sizeLine := by rw [List.length_map, hl, sizeLine_eq]; omega
  have hn : H p = none := I.hok.fresh hp
  have J : Inv X pins σ (upd H p (.lst (ns.map V.int))) { s with heap := s'.heap, gens := s'.gens, drawn := s'.drawn, toks := s'.toks } :=
    I.call (ch := []) (Un.laid k hp hn) (I.hok.laid k hp ⟨hlen, out.toList, c, vals_of_ints hi, hg⟩) (by rw [g]; exact I.bare) (fun _ z => nomatch z)
  have e : s' = { s with heap := s'.heap, gens := s'.gens, drawn := s'.drawn, toks := s'.toks } := by
    cases s'
    cases s
    cases o
    rfl
  rw [e]
  exact ⟨.ref p, _, J, rfl, q ns p hs hm hl hn⟩
theorem pe_sortSet {X : Cx} {a : Expr} {ta : TE} {p p2 q pos : Pos} (hc : X.calm = true) (hg : Gl X "sorted") (hm : X.mg "sorted" = none) (hg2 : Gl X "set") (hm2 : X.mg "set" = none) (ha : PE X a ta)
    (na : starEach [a] X.env = (false, eval a X.env) :: starEach [] X.env := by rfl) : PE X (.Call (.Name "sorted" p) [.Call (.Name "set" p2) [a] [] q] [] pos) (tSortSet X.K ta) := by
  have bs : bootBuiltins "sorted" = some (.builtin "sorted") := by decide +kernel
  refine ⟨fun pins s σ H Q I h => Call_ (ld_blt I hg hm bs (PyProof.Rows.callWith_builtin1 (PyProof.Rows.args_cons ?_ rfl) rfl rfl))⟩
  refine Call_ (ld_blt I hg2 hm2 boot_set (PyProof.Rows.callWith_type1 (PyProof.Rows.args_cons (thn (ha.run pins s σ H _ I h) ?_) na) na rfl))
  rintro v s1 ⟨x, H1, I1, r1, l, ns, rfl, hq, hl, q1⟩
  refine (PyProof.Rows.args_nil ?_)
  cases r1
  have room : ns.length + 1 < scanBound := by unfold scanBound; omega
  obtain ⟨its, r, pl, hz⟩ := I1.tuple hq
  refine call_set_tupI ns (I1.ok.hd hc) pl (by simpa using intsAre_of r) room fun h' tk c R hcl hk => ?_
  have I2 : Inv X pins σ H1 { s1 with heap := h', toks := tk } := I1.kept (t' := tk) hk
  refine PyProof.Rows.args_nil ?_
  exact sort_run I2 R hc (by omega) fun ms p' hs hm' hl' hn => by
    have em : ms = usort ns := srt_uniq hs (srt_usort ns) fun j => by rw [hm' j, mem_usort]; simp
    subst em
    exact q1 p' hn
def sortSetD (d : D) : Option D := match d with
  | .tuple ds => (intsOf ds).bind fun ns => if ns.length < 60 then some (.list ((usort ns).map PyData.int)) else none
  | _ => none
theorem dva_ints {K : PySem.W.Frag} {P : Addr → Prop} {H : Hp} : ∀ ns : List Int, DvA K P H (ns.map V.int) (ns.map PyData.int)
  | [] => .nil
  | _ :: r => .cons (.int _) (dva_ints r)
section
variable {X : Cx} {M : MI} {a : Expr} {we : WE} {p p2 q pos : Pos}
theorem e_sortSet (hc : X.calm = true) (hg : Gl X "sorted") (hm : X.mg "sorted" = none) (hg2 : Gl X "set") (hm2 : X.mg "set" = none) (ha : PE X a (tB M X.K we)) (na : starEach [a] X.env = (false, eval a X.env) :: starEach [] X.env := by rfl) :
    PE X (.Call (.Name "sorted" p) [.Call (.Name "set" p2) [a] [] q] [] pos) (tE M X.K (wF sortSetD we)) := by
  refine PE.imp (pe_sortSet hc hg hm hg2 hm2 ha na) ?_
  rintro σ H Q ⟨w, ρ, Qd, eh, ev, g, hw, k⟩
  refine ⟨w, ρ, _, eh, ev, g, hw, fun w1 v d s1 g1 dv q1 => ?_⟩
  obtain ⟨z, ez, qz⟩ := q1
  cases d <;> simp only [sortSetD, reduceCtorEq] at ez
  rename_i ds
  cases hi : intsOf ds with
  | none => rw [hi] at ez; cases ez
  | some ns =>
    rw [hi, Option.bind_some] at ez
    split at ez
    · rename_i hl
      cases ez
      obtain ⟨b, vs, rfl, sq, da⟩ := dv.seqT
      rw [intsOf_some hi] at da
      rw [da.ints] at sq
      exact ⟨b, ns, rfl, sq, hl, fun p hp => k (w1.new p (.lst ((usort ns).map V.int))) _ _ (s1.trans (stp_new hp)) (gd_new g1 hp) (new_lst g1 hp (dva_ints _)) qz⟩
    · cases ez
end
theorem nodup_len : ∀ {a b : List Int}, a.Nodup → b.Nodup → (∀ k, k ∈ a ↔ k ∈ b) → a.length = b.length := fun ha hb h => ((List.perm_ext_iff_of_nodup ha hb).mpr h).length_eq
theorem srt_nodup {l : List Int} (h : l.Pairwise (· < ·)) : l.Nodup := h.imp fun z e => by omega
def tLenSI (K : PySem.W.Frag) (ta : TE) : TE := fun σ H Q => ta σ H fun x H1 => ∃ (l : Addr) (ns : List Int), x = .ref l ∧ SqT K H1 l (ns.map V.int) ∧ ns.length < 60 ∧ Q (.int (usort ns).length) H1
theorem pe_lenSI {X : Cx} {a : Expr} {ta : TE} {p p2 q pos : Pos} (hc : X.calm = true) (hg : Gl X "len") (hm : X.mg "len" = none) (hg2 : Gl X "set") (hm2 : X.mg "set" = none) (ha : PE X a ta)
    (na : starEach [a] X.env = (false, eval a X.env) :: starEach [] X.env := by rfl) : PE X (.Call (.Name "len" p) [.Call (.Name "set" p2) [a] [] q] [] pos) (tLenSI X.K ta) := by
  refine ⟨fun pins s σ H Q I h => Call_ (ld_blt I hg hm boot_len (PyProof.Rows.callWith_builtin1 (PyProof.Rows.args_cons ?_ rfl) rfl rfl))⟩
  refine Call_ (ld_blt I hg2 hm2 boot_set (PyProof.Rows.callWith_type1 (PyProof.Rows.args_cons (thn (ha.run pins s σ H _ I h) ?_) na) na rfl))
  rintro v s1 ⟨x, H1, I1, r1, l, ns, rfl, hq, hl, q1⟩
  refine (PyProof.Rows.args_nil ?_)
  cases r1
  have room : ns.length + 1 < scanBound := by unfold scanBound; omega
  obtain ⟨its, r, pl, hz⟩ := I1.tuple hq
  refine call_set_tupI ns (I1.ok.hd hc) pl (by simpa using intsAre_of r) room fun h' tk c R hcl hk => ?_
  have I2 : Inv X pins σ H1 { s1 with heap := h', toks := tk } := I1.kept (t' := tk) hk
  refine PyProof.Rows.args_nil ?_
  obtain ⟨o, es, ep, t, ho, hex, hd, g, nd, hm', hb, hf, hn, hr, hl'⟩ := R
  have en : es.size = (usort ns).length := by
    have := nodup_len nd (srt_nodup (srt_usort ns)) fun k => by rw [← hm' k, mem_usort]; simp
    rw [List.length_map, Array.length_toList] at this
    exact this
  exact call_len_set ho hex hd hf (by rw [hn]; omega) ⟨.int (usort ns).length, H1, I2.tok _, ⟨_, by rw [en]⟩, q1⟩
def lenSID (d : D) : Option D := match d with
  | .tuple ds => (intsOf ds).bind fun ns => if ns.length < 60 then some (.int (usort ns).length) else none
  | _ => none
section
variable {X : Cx} {M : MI} {a : Expr} {we : WE} {p p2 q pos : Pos}
theorem e_lenSI (hc : X.calm = true) (hg : Gl X "len") (hm : X.mg "len" = none) (hg2 : Gl X "set") (hm2 : X.mg "set" = none) (ha : PE X a (tB M X.K we)) (na : starEach [a] X.env = (false, eval a X.env) :: starEach [] X.env := by rfl) :
    PE X (.Call (.Name "len" p) [.Call (.Name "set" p2) [a] [] q] [] pos) (tE M X.K (wF lenSID we)) := by
  refine PE.imp (pe_lenSI hc hg hm hg2 hm2 ha na) ?_
  rintro σ H Q ⟨w, ρ, Qd, eh, ev, g, hw, k⟩
  refine ⟨w, ρ, _, eh, ev, g, hw, fun w1 v d s1 g1 dv q1 => ?_⟩
  obtain ⟨z, ez, qz⟩ := q1
  cases d <;> simp only [lenSID, reduceCtorEq] at ez
  rename_i ds
  cases hi : intsOf ds with
  | none => rw [hi] at ez; cases ez
  | some ns =>
    rw [hi, Option.bind_some] at ez
    split at ez
    · rename_i hl
      cases ez
      obtain ⟨b, vs, rfl, sq, da⟩ := dv.seqT
      rw [intsOf_some hi] at da
      rw [da.ints] at sq
      exact ⟨b, ns, rfl, sq, hl, k w1 _ _ s1 g1 (.int _) qz⟩
    · cases ez
end
end HW

/-! Y20: a, b, .. = found.pop() -/
namespace HW
open PySem L2 Rs
section
variable {X : Cx} {M : MI} {w0 : W}
def wPopT (i : Nat) (tg : WGt) : WS := fun dd ρ c => ∃ ds d, ρ[i]? = some (.ls (ds ++ [d])) ∧ tg d (ρ.set i (.ls ds)) fun ρ' => dd.nx ρ' c
theorem s_popT {x : Str} {i : Nat} {tgt : Expr} {g : TG} {tg : WGt} {p1 ap cp pos : Pos} (hx : PE X (.Name x p1) (tVar i)) (hg : PG X tgt g) (ht : TgOk M X.K w0 g tg) (hbase : attributeBase (.Name x p1) "pop" X.env (eval (.Name x p1) X.env) = eval (.Name x p1) X.env := by rfl)
    (hline : (ap.endLine == cp.line) = true := by rfl) (hs : swapsWithSole [tgt] (.Call (.Attribute (.Name x p1) "pop" ap) [] [] cp) pos.line X.env = pure false := by rfl) (hw : swappedStores [tgt] (.Call (.Attribute (.Name x p1) "pop" ap) [] [] cp) X.env = pure none := by rfl)
    (h1 : (assignEach [tgt] X.env).map (·.2) = [assign tgt X.env] := by rfl) : PS X (.Assign [tgt] (.Call (.Attribute (.Name x p1) "pop" ap) [] [] cp) pos) (tS M X.K w0 (wPopT i tg)) := by
  refine PS.imp (ps_asg (pe_bm0 PySem.F.plainAttrs_list PySem.F.slot_list_pop PySem.F.type_list_pop mt_pop hx hbase hline) hg hs hw h1) ?_
  rintro D σ H ⟨w, ρ, dd, rfl, so, ⟨ds, d, r, q⟩, kk⟩
  obtain ⟨a, vs, e1, e2, e3, e4, e5⟩ := so.ev.ok i _ r
  obtain ⟨us, v, rfl, k1, k2⟩ := e5.snoc
  refine ⟨_, e1, tyL e2, a, us ++ [v], v, rfl, rfl, e2, by simp, ?_⟩
  rw [List.dropLast_concat]
  have so1 := so.put (i := i) (a := a) (o := .lst us) (en' := .ls ds) e1 r rfl (.inl rfl) rfl ⟨a, us, rfl, upd_same, e3, e4, k1.fk (fk_put e3)⟩ fun b sb => ls_same sb
  exact ht (w.own a (.lst us)) σ (ρ.set i (.ls ds)) v d _ _ so1 (k2.fk (fk_put e3)) q fun σ' ρ' so' q' => kk.nx (w.own a (.lst us)) σ' ρ' (fk_put e3) so' q'
def xPopT (i : Nat) (tg : XTg) : XS := fun ρ => (ofO ((ρ[i]?.bind lsE).bind lastD)).bind fun p => (ofO (tg p.2 (ρ.set i (.ls p.1)))).bind fun ρ' => .ok (.nx ρ')
theorem k_popT {R : RR} {i : Nat} {xtg : XTg} {wtg : WGt} (ht : RfTg xtg wtg) : RfS R (xPopT i xtg) (wPopT i wtg) := fun dd ρ c h => by
  obtain ⟨⟨r, d⟩, e, h⟩ := post_ofO (post_bind h)
  obtain ⟨ρ', e2, q⟩ := post_ofO (post_bind h)
  cases el : ρ[i]?.bind lsE with
  | none => rw [el] at e; cases e
  | some ds =>
    rw [el] at e
    refine ⟨r, d, ?_, ht d _ ρ' _ e2 q⟩
    rw [lsE_some el, lastD_some (show lastD ds = some (r, d) from e)]
end
end HW

/-! Y21: a set comprehension of ints, without tests -/
namespace HW
open PySem PySem.Spec PyProof.Rows L2 PpSet
section
variable {X : Cx}
/-- the empty set as it is laid -/
abbrev eSet (w : World) : Obj := { cls := .type "set", dict := none, data := .set #[] 0 (.fresh 0 0 (!w.params.followText "set-order")) }
/-- the tracked set with one more -/
abbrev plusI (w : World) (D : Addr) (S : Int → Bool) (n : Nat) (k : Int) : HO := SetO w D (fun j => S j || decide (j = k)) (if S k = true then n else n + 1)
theorem put_int {pins : List (Addr × Obj)} {σ : L2.St} {Ha : Hp} {sa : Shared} {E : Value → Shared → Prop} {D : Addr} {S : Int → Bool} {n : Nat} {k : Int} {tk : Tok} {Q : Value → Shared → Prop} (Ia : Inv X pins σ Ha sa) (at_ : Ha D = some (SetO X.w D S n)) (room : n + 1 < scanBound)
    (q : ∀ sb, Inv X pins σ (upd Ha D (plusI X.w D S n k)) sb → Q .none sb) : wpAny (model X.prog X.w) X.A (call (.builtin "set.add") [.ref D, .int k tk]) Q E sa := by
  refine setR_add (setO_get Ia at_) room fun hb same got => ?_
  have stands : ∃ u, hb.get? D = some u := let ⟨o, _, _, _, ho, _⟩ := got; ⟨o, ho⟩
  exact q _ (Ia.write (e := D) (t' := sa.toks + 1) (by rw [at_]; trivial) (.inl rfl) (fun b u nb eb => (same.2 b nb).trans eb) stands (setO_new got))
def tSci (w : World) (wi : TI) (g : TG) (te : TE) (vs : List Nat) : TE := fun σ H Q => wi σ H fun J Ha => ∀ D, Ha D = none → ∃ W : Nat → Nat → Hp → Prop, (∃ m, W 0 m (upd Ha D (SetO w D (fun _ => false) 0))) ∧ ∀ i m Hb, W i m Hb →
  (J.stop i Hb ∧ Q (.ref D) Hb) ∨ (J.go i Hb ∧ ∃ Nx : Hp → Prop, (∀ Hc, Nx Hc → ∃ m', m' < m ∧ W (i + 1) m' Hc) ∧ ∀ x Hc, J.yld i Hb x Hc → g x (wipe σ vs) Hc fun σd Hd => wipe σd vs = wipe σ vs ∧
    te σd Hd fun y He => ∃ (k : Int) (S : Int → Bool) (n : Nat), y = .int k ∧ He D = some (SetO w D S n) ∧ n + 1 < scanBound ∧ Nx (upd He D (plusI w D S n k)))
theorem pe_sci {elt tg iter : Expr} {scope : Scope} {own : List (PySem.Str × Nat)} {pos : Pos} {wi : TI} {g : TG} {te : TE} (calm : X.calm = true) (nd : X.N.Nodup) (hi : PI X tg iter wi) (ok : BlkOk X.N X.env.scope scope own)
    (hg : ∀ (s : Shared) (H : Hp) (C : Addr) (cl : List (PySem.Str × Addr)) (fp : List Addr), PG (X.blk s H scope (compEnvC scope cl C X.env) fp) tg g)
    (he : ∀ (s : Shared) (H : Hp) (C : Addr) (cl : List (PySem.Str × Addr)) (fp : List Addr), PE (X.blk s H scope (compEnvC scope cl C X.env) fp) elt te) (fold : ∀ x, foldedSetIterable iter X.env x = pure x := by intro _; rfl) :
    PE X (.SetComp elt [⟨tg, iter, [], 0⟩] scope pos) (tSci X.w wi g te (own.map (·.2))) := by
  refine ⟨fun pins s σ H Q I pre => ?_⟩
  have frees : ∀ y ∈ scope.names, y.2 = .free → ∃ c, X.env.cells.lookup y.1 = some c := fun y hy e => (ok.free y hy e).elim (fun k => I.ok.has _ (.inl k)) fun k => I.ok.has _ (.inr k)
  rw [eval_SetComp]
  refine wpAny_comprehension_free (use := none) rfl fold (closure_ok frees) ok.kind (fun y hy e => by rw [ok.uniq y hy, e]) (thn (hi.run pins s σ H _ I pre) fun xv sa ha => thn ha fun itv sb got => ?_)
  obtain ⟨it, fp, tn, J, Hb, eq, Ib, T, tb, fb, post⟩ := got
  subst eq
  refine newSet_ok (newEnv_comp ?_)
  generalize eD : sb.heap.objs.size = D
  have free : Hb D = none := Ib.hok.fresh (Nat.le_of_eq eD)
  obtain ⟨W, ⟨m0, start⟩, turn⟩ := post D free
  generalize ec : ({ sb with heap := sb.heap.push (eSet X.w) } : Shared) = sc
  have hcp : sc.heap = sb.heap.push (eSet X.w) := by rw [← ec]
  have Ic : Inv X pins σ (upd Hb D (SetO X.w D (fun _ => false) 0)) sc := by
    rw [← ec]
    refine Ib.laid (t' := sb.toks) (fun b u e => Heap.get?_push_of_some _ e) (Nat.le_of_eq eD) ?_
    rw [← eD]
    exact setO_new (setR_fresh X.w)
  have fc : ∀ b ∈ fp, FpOk X pins (upd Hb D (SetO X.w D (fun _ => false) 0)) b ∧ b < sc.heap.objs.size := fun b mb => by
    obtain ⟨u, eu, _⟩ := T.obj _ _ tb b mb
    have lt := Heap.lt_size eu
    refine ⟨⟨?_, (fb b mb).2⟩, by rw [hcp, Heap.size_push]; exact Nat.lt_succ_of_lt lt⟩
    rw [upd_ne (by rw [← eD]; exact Nat.ne_of_lt lt)]
    exact (fb b mb).1
  have tc : tn 0 sc.heap := T.keep _ _ _ tb fun b _ u e => by rw [hcp]; exact Heap.get?_push_of_some _ e
  have Id := block_start Ic ok nd fc
  have pg := hg sc (upd Hb D (SetO X.w D (fun _ => false) 0)) sc.heap.objs.size (cellsFrom (sc.heap.objs.size + 1) scope.names (cloFrom X.env.cells scope.names [])) fp
  have pe := he sc (upd Hb D (SetO X.w D (fun _ => false) 0)) sc.heap.objs.size (cellsFrom (sc.heap.objs.size + 1) scope.names (cloFrom X.env.cells scope.names [])) fp
  have nones : ∀ b ∈ fp, (upd Hb D (SetO X.w D (fun _ => false) 0)) b = none := fun b mb => (fc b mb).1.1
  generalize ee : compEnvC scope (cellsFrom (sc.heap.objs.size + 1) scope.names (cloFrom X.env.cells scope.names [])) sc.heap.objs.size X.env = ce at Id pg pe ⊢
  have cl : ce.locals = sc.heap.objs.size := by subst ee; rfl
  generalize eH : upd Hb D (SetO X.w D (fun _ => false) 0) = Hc at Ic Id pg pe start nones fc
  show codeAny _ _ (.compStart (.SetComp elt [⟨tg, iter, [], 0⟩] scope pos) 0 (.ref it) (.ref D) (compEnvC scope (cellsFrom (sc.heap.objs.size + 1) scope.names (cloFrom X.env.cells scope.names [])) sc.heap.objs.size X.env)) (compPost (model X.prog X.w) X.A X.xe none (EP X pins σ Q) (.ref D) sc.heap.objs.size) { sc with heap := pushCells (sc.heap.push { cls := .type "dict", data := .dict #[] }) scope.names }
  rw [ee]
  generalize es : ({ sc with heap := pushCells (sc.heap.push { cls := .type "dict", data := .dict #[] }) scope.names } : Shared) = sd at Id ⊢
  have td : tn 0 sd.heap := T.keep _ _ _ tc fun b _ u e => by rw [← es]; exact pushCells_keeps _ _ _ _ (Heap.get?_push_of_some _ e)
  have fps : ∀ {σ' : L2.St} {Hx : Hp} {sx : Shared}, Inv (X.blk sc Hc scope ce fp) [] σ' Hx sx → (∀ b ∈ fp, Hx b = none) → ∀ b ∈ fp, FpOk (X.blk sc Hc scope ce fp) [] Hx b := fun {σ' Hx sx} Ix hn b mb =>
    ⟨hn b mb, (Ix.ok.exf b mb).1, Ix.ok.exfs b mb, .inl mb, fun x c e => (Ix.ok.exf b mb).2 x c e, fun q mq => absurd (show q ∈ ([] : List (Addr × Obj)) ++ [] from mq) (by simp)⟩
  have walk : codeAny (model X.prog X.w) X.A (.compLoop (.SetComp elt [⟨tg, iter, [], 0⟩] scope pos) 0 (.ref it) (.ref D) ce) (compPost (model X.prog X.w) X.A X.xe none (EP X pins σ Q) (.ref D) sc.heap.objs.size) sd := by
    refine compLoopS_any (fun m sx => ∃ i Hx, Inv (X.blk sc Hc scope ce fp) [] (wipe σ (own.map (·.2))) Hx sx ∧ tn i sx.heap ∧ (∀ b ∈ fp, Hx b = none) ∧ W i m Hx) ?_ m0 ⟨0, Hc, Id, td, nones, start⟩
    rintro m sx ⟨i, Hx, Ix, tx, nx, wx⟩
    rcases turn i m Hx wx with ⟨stop, fin⟩ | ⟨go, Nx, less, step⟩
    · refine thnF (T.done (X.blk sc Hc scope ce fp) rfl rfl rfl calm i [] sx _ Hx (fun _ _ => False) Ix (fps Ix nx) tx stop) fun r sy ⟨er, Iy⟩ => ?_
      subst er
      have Iz : Inv X pins σ Hx sy := Ic.call' (ch := fp) Iy.os Iy.base Iy.hok Iy.bare fun b mb => ⟨(fc b mb).1.2.2.2.1, (fc b mb).1.2.1, (fc b mb).1.2.2.2.2.1, (fc b mb).1.2.2.2.2.2⟩
      have nc : Hx sc.heap.objs.size = none := cl ▸ (show Hx ce.locals = none from Iy.free)
      obtain ⟨mm, ns, _⟩ := Iy.loc
      have ns' : sy.heap.Ns sc.heap.objs.size mm := cl ▸ (show sy.heap.Ns ce.locals mm from ns)
      obtain ⟨f0, f1, f2, f3, f4, f5⟩ := Ic.fpOk (Nat.le_refl _) nc
      exact ⟨mm, ns', fun hh same => ⟨.ref D, Hx, Iz.turned (t' := sy.toks) (fun b u nb eb => (same.2 b nb).trans eb) f0 f1 f3 f4 f5, rfl, fin⟩⟩
    · refine thnF (T.item (X.blk sc Hc scope ce fp) rfl rfl rfl calm i [] sx _ Hx (fun _ _ => False) Ix (fps Ix nx) tx go) fun r sy ⟨u, er, hy⟩ => ?_
      subst er
      refine thnF hy fun _ sz ⟨x, Hz, Iz, rz, yz, tz, nz⟩ => ?_
      have Ip := Iz.pinned (fps Iz nz) (T.obj _ _ tz)
      refine thnF (pg.run _ sz _ Hz x u _ Ip rz (step x Hz yz)) fun _ s8 ⟨σ8, H8, I8, same8, q8⟩ => ?_
      refine thnF ((pts_nil (X := X.blk sc Hc scope ce fp)).run _ s8 σ8 H8 (fun b Hq => b = true ∧ te σ8 Hq fun y He => ∃ (k : Int) (S : Int → Bool) (n : Nat), y = .int k ∧ He D = some (SetO X.w D S n) ∧ n + 1 < scanBound ∧ Nx (upd He D (plusI X.w D S n k))) I8 ⟨rfl, q8⟩) fun b s9 ⟨H9, I9, eb, q9⟩ => ?_
      subst eb
      rw [if_pos rfl]
      refine thnF (pe.run _ s9 σ8 H9 _ I9 q9) fun v s10 ⟨y, H10, I10, r10, k, S, n, ey, at10, room, nxt⟩ => ?_
      subst ey
      obtain ⟨tk, rfl⟩ := r10
      refine put_int (X := X.blk sc Hc scope ce fp) I10 at10 room fun s11 I11 => ?_
      obtain ⟨m', lt, w'⟩ := less _ nxt
      have back : ∀ b ∈ fp, ∀ u, sz.heap.get? b = some u → s11.heap.get? b = some u ∧ (upd H10 D (plusI X.w D S n k)) b = none := fun b mb u eu =>
        let z := I11.pin (b, u) (List.mem_append_right _ (List.mem_append_right _ (mem_pinsAt mb eu)))
        ⟨z.1, z.2.1⟩
      have ls : (wipe σ (own.map (·.2))).length = σ8.length := by rw [← same8, wipe_length]
      refine ⟨m', lt, i + 1, _, (I11.unpinned (pins := [])).weak ls (fun j w e => ?_), T.keep _ _ _ tz fun b mb u eu => (back b mb u eu).1, fun b mb => ?_, w'⟩
      · rw [← same8] at e
        exact (wipe_some e).1
      · obtain ⟨u', eu, _⟩ := T.obj _ _ tz b mb
        exact (back b mb u' eu).2
  exact codeAny_compStart_set walk (T.self X.A 0 _ _ _ td walk)
end
end HW

/-! Y22: sorted({an int for target in iter}) -/
namespace HW
open PySem PySem.Spec PyProof.Rows L2
def scGo (we : WE) (ρ : List En) (j : Nat) : List D → List Int → Nat → (List Int → Nat → Prop) → Prop
  | [], ns, c, Q => ns.length < 60 ∧ Q ns c
  | d :: r, ns, c, Q => we (ρ.set j (.im d)) c fun y c2 => ∃ k : Int, y = .int k ∧ ns.length < 2000 ∧ scGo we ρ j r (ns ++ [k]) c2 Q
def wSortSC (wi : WI) (we : WE) (j : Nat) (vs : List Nat) : WE := fun ρ c Q => wi ρ c fun ds c1 => scGo we (wipeE ρ vs) j ds [] c1 fun ns c2 => Q (.list ((usort ns).map PyData.int)) c2
section
variable {X : Cx} {M : MI} {w0 : W}
theorem r_sci {wi : WI} {we : WE} {j : Nat} {vs : List Nat} (hj : j ∈ vs) : ∀ (σ : L2.St) (H : Hp) (Q : VK), tE M X.K (wSortSC wi we j vs) σ H Q → tSci X.w (tI M X.K Stp wi) (gName j) (tE M X.K we) vs σ H fun v H1 => rSortedSet X.w [v] H1 Q := by
  rintro σ H Q ⟨w, ρ, Qd, eh, ev, g, hw, k⟩
  refine ⟨w, ρ, _, eh, ev, g, hw, fun w1 J ds s1 g1 jk q1 Dl hD => ?_⟩
  have nF : ¬ w1.F Dl := fun f => g1.tf Dl f hD
  have nR : Dl ∉ w1.R := r_free g1 hD
  refine ⟨fun i m H' => ∃ (w' : W) (ns : List Int) (S : Int → Bool) (n : Nat), w'.H = H' ∧ m = ds.length - i ∧ i ≤ ds.length ∧ Stp w1 w' ∧ Gd M w' ∧ w'.H Dl = some (SetO X.w Dl S n) ∧ ¬ w'.F Dl ∧ Dl ∉ w'.R ∧ (∀ z, S z = true ↔ z ∈ ns) ∧ n ≤ ns.length ∧ scGo we (wipeE ρ vs) j (ds.drop i) ns w'.c fun ms c2 => Qd (.list ((usort ms).map PyData.int)) c2,
    ⟨ds.length, w1.own Dl (SetO X.w Dl (fun _ => false) 0), [], _, 0, rfl, by simp, Nat.zero_le _, stp_own hD, gd_own g1 hD, upd_same, nF, nR, (fun z => by simp), Nat.le_refl _, q1⟩, ?_⟩
  rintro i m H' ⟨w', ns, S, n, rfl, rfl, hi, s', g', at', nf, nr, mem, hn, q⟩
  have ev' := (ev.stp s1 g).stp s' g1
  by_cases hlt : i < ds.length
  · have ed : ds[i]? = some ds[i] := by simp [hlt]
    obtain ⟨jg, jy⟩ := jk.go w' i _ s' g' ed
    refine .inr ⟨jg, fun H2 => ∃ (w2 : W) (ns : List Int) (S : Int → Bool) (n : Nat), w2.H = H2 ∧ Stp w1 w2 ∧ Gd M w2 ∧ w2.H Dl = some (SetO X.w Dl S n) ∧ ¬ w2.F Dl ∧ Dl ∉ w2.R ∧ (∀ z, S z = true ↔ z ∈ ns) ∧ n ≤ ns.length ∧ scGo we (wipeE ρ vs) j (ds.drop (i + 1)) ns w2.c fun ms c2 => Qd (.list ((usort ms).map PyData.int)) c2, ?_, fun x H2 y => ?_⟩
    · rintro H2 ⟨w2, ns2, S2, n2, h⟩
      exact ⟨ds.length - (i + 1), by omega, w2, ns2, S2, n2, h.1, rfl, hlt, h.2⟩
    · obtain ⟨w2, rfl, ec, s2, g2, dx⟩ := jy x H2 y
      have q2 : scGo we (wipeE ρ vs) j (ds[i] :: ds.drop (i + 1)) ns w2.c fun ms c2 => Qd (.list ((usort ms).map PyData.int)) c2 := by
        rw [ec, ← List.drop_eq_getElem_cons hlt]; exact q
      have keepD : ∀ {w3 : W}, Stp w2 w3 → w3.H Dl = some (SetO X.w Dl S n) ∧ ¬ w3.F Dl ∧ Dl ∉ w3.R := fun {w3} s3 => by
        have h2 := s2.k _ _ at' nr
        have n2 := r_up s2 at' nr
        have f2 : ¬ w2.F Dl := fun z => (s2.f2 Dl z).elim nf fun e => by rw [at'] at e; cases e
        exact ⟨s3.k _ _ h2 n2, (fun z => (s3.f2 Dl z).elim f2 fun e => (by rw [h2] at e; cases e)), r_up s3 h2 n2⟩
      refine ⟨wipe_set hj, w2, _, _, rfl, ((ev'.stp s2 g').wipe vs).setIm dx, g2, q2, fun w4 v d s4 g4 dv q4 => ?_⟩
      obtain ⟨kk, rfl, hl, q5⟩ := q4
      cases dv
      obtain ⟨h4, f4, n4⟩ := keepD s4
      have z : w4.H Dl ≠ none := by rw [h4]; simp
      refine ⟨kk, S, n, rfl, h4, by unfold scanBound; omega, ?_⟩
      refine ⟨w4.own Dl (plusI X.w Dl S n kk), ns ++ [kk], _, _, rfl, stp_put ((s'.trans s2).trans s4) hD, gd_put g4 z n4, upd_same, f4, n4, fun y => ?_, ?_, q5⟩
      · rw [Bool.or_eq_true, mem y, decide_eq_true_eq, List.mem_append, List.mem_singleton]
      · rw [List.length_append]
        show (if S kk = true then n else n + 1) ≤ ns.length + 1
        split <;> omega
  · have e : i = ds.length := by omega
    subst e
    refine .inl ⟨jk.stop w' _ s' g' (Nat.le_refl _), ?_⟩
    rw [List.drop_length] at q
    obtain ⟨hl, q⟩ := q
    refine ⟨Dl, S, n, rfl, at', by omega, fun ms p srt hm hln hp => ?_⟩
    have em : ms = usort ns := srt_uniq srt (srt_usort ns) fun y => by rw [hm y, mem y, mem_usort]
    subst em
    exact k (w'.new p (.lst ((usort ns).map V.int))) _ _ ((s1.trans s').trans (stp_new hp)) (gd_new g' hp) (new_lst g' hp (dva_ints _)) q
theorem e_sortSC {elt tg iter : Expr} {scope : Scope} {own : List (PySem.Str × Nat)} {p pos pos' : Pos} {wi : WI} {we : WE} {j : Nat} (hj : j ∈ own.map (·.2)) (calm : X.calm = true) (hg : Gl X "sorted") (hm : X.mg "sorted" = none) (nd : X.N.Nodup) (hi : PI X tg iter (tI M X.K Stp wi)) (ok : BlkOk X.N X.env.scope scope own)
    (ht : ∀ (s : Shared) (H : Hp) (C : Addr) (cl : List (PySem.Str × Addr)) (fp : List Addr), PG (X.blk s H scope (compEnvC scope cl C X.env) fp) tg (gName j))
    (he : ∀ (s : Shared) (H : Hp) (C : Addr) (cl : List (PySem.Str × Addr)) (fp : List Addr), PE (X.blk s H scope (compEnvC scope cl C X.env) fp) elt (tE M X.K we)) (fold : ∀ x, foldedSetIterable iter X.env x = pure x := by intro _; rfl)
    (hs : starEach [Expr.SetComp elt [⟨tg, iter, [], 0⟩] scope pos'] X.env = (false, eval (Expr.SetComp elt [⟨tg, iter, [], 0⟩] scope pos') X.env) :: starEach [] X.env := by rfl) :
    PE X (.Call (.Name "sorted" p) [.SetComp elt [⟨tg, iter, [], 0⟩] scope pos'] [] pos) (tE M X.K (wSortSC wi we j (own.map (·.2)))) := by
  have bs : bootBuiltins "sorted" = some (.builtin "sorted") := by decide +kernel
  exact PE.imp (pe_callB (cr_sortedSet calm) hg hm bs (pa_cons (pe_sci calm nd hi ok ht he fold) pa_nil hs) (by decide) (by decide) hs (by rfl)) (r_sci hj)
end
section
open Rs
variable {R : RR} {xi : XA} {wi : WI} {xe : XE} {we : WE}
def xsc (xe : XE) (ρ : List En) (j : Nat) : List D → List Int → Rs (List Int)
  | [], ns => guard (ns.length < 60) (.ok ns)
  | d :: r, ns => (xe (ρ.set j (.im d))).calm.bind fun y => (ofO (iD y)).bind fun k => guard (ns.length < 2000) (xsc xe ρ j r (ns ++ [k]))
theorem sc_of (he : RfE R xe we) (ρ : List En) (j c : Nat) (E : Xd → Prop) : ∀ (ds : List D) (ns : List Int) (Q : List Int → Nat → Prop), (xsc xe ρ j ds ns).post (fun ms => Q ms c) E → scGo we ρ j ds ns c Q
  | [], ns, Q, h => post_guard h
  | d :: r, ns, Q, h => he _ c _ (post_calm (post_bm h fun y h => by
    obtain ⟨k, e, h⟩ := post_ofO (post_bind h)
    obtain ⟨g, h⟩ := post_guard h
    exact ⟨k, iD_some e, g, sc_of he ρ j c E r (ns ++ [k]) Q h⟩))
def xSortSC (xi : XA) (xe : XE) (j : Nat) (vs : List Nat) : XE := fun ρ => (xi ρ).bind fun ds => (xsc xe (wipeE ρ vs) j ds []).bind fun ns => .ok (.list ((usort ns).map PyData.int))
theorem k_sortSC {j : Nat} {vs : List Nat} (hi : RfA R xi wi) (he : RfE R xe we) : RfE R (xSortSC xi xe j vs) (wSortSC wi we j vs) := fun ρ c Q h => hi ρ c _ (post_bm h fun ds h => sc_of he _ j c _ ds [] _ (post_bm h fun ns h => h))
end
end HW

/-! Y23: sum(a list of ints) -/
namespace HW
open PySem PySem.Spec PyProof.Rows L2
def sumLD : D → Option D
  | .list ds => (intsOf ds).map fun ns => .int ns.sum
  | _ => none
theorem d_sumL {M : MI} {K : PySem.W.Frag} : FnD M K (rSum K) sumLD := fun w x dx z Q g hx e k => by
  cases dx <;> simp only [sumLD, reduceCtorEq] at e
  rename_i ds
  obtain ⟨ns, e1, rfl⟩ := Option.map_eq_some_iff.mp e
  obtain ⟨a, vs, rfl, h1, h2⟩ := hx.seqL
  rw [intsOf_some e1] at h2
  rw [h2.ints] at h1
  exact ⟨a, ns, rfl, h1, k w _ (Stp.refl w) g (.int _) rfl⟩
end HW

/-! a comprehension within another one, that reads names of the outer ones -/
namespace HW
open PySem L2
theorem look_rel {f : Str → Bool} : ∀ {names : List (Str × NameKind)} {x : Str}, names.lookup x = some .cell ∨ names.lookup x = some .free →
    (names.map fun (n, k) => if (k == NameKind.free && f n) = true then (n, NameKind.cell) else (n, k)).lookup x = some .cell ∨ (names.map fun (n, k) => if (k == NameKind.free && f n) = true then (n, NameKind.cell) else (n, k)).lookup x = some .free
  | [], _, h => by rcases h with h | h <;> cases h
  | (n, k) :: r, x, h => by
    have ih := @look_rel f r x
    rw [List.map_cons]
    simp only [List.lookup_cons] at h ⊢
    by_cases hc : (k == NameKind.free && f n) = true
    · rw [if_pos hc]
      cases hx : x == n with
      | true => left; simp [List.lookup_cons, hx]
      | false =>
        rw [hx] at h
        simp only [List.lookup_cons, hx]
        exact ih h
    · rw [if_neg hc]
      cases hx : x == n with
      | true =>
        rw [hx] at h
        simp only [List.lookup_cons, hx]
        exact h
      | false =>
        rw [hx] at h
        simp only [List.lookup_cons, hx]
        exact ih h
theorem blkOk_in {N : List Str} {osc scope : Scope} {env : Env} {own : List (Str × Nat)} (h : blkC N osc scope own = true) : BlkOk N (relabel osc env) scope own := by
  have b := blkOk_by h
  refine ⟨b.kind, b.uniq, b.ix, fun y hy e => ?_, b.own⟩
  have q := @look_rel (fun n => env.scope.kind == .function && env.kindOf n == some .cell) _ _ (b.free y hy e)
  simp only [← Bool.and_assoc] at q
  exact q
end HW

/-! Z1: tuple(zip(x, y)) of two lists of one length -/
namespace ZT
open PySem PySem.Spec PyProof.Rows L2
theorem no_len : typeLookup (.type "zip") "__len__" = pure none := am_miss_of_fast (by decide +kernel)
theorem no_hint : typeLookup (.type "zip") "__length_hint__" = pure none := am_miss_of_fast (by decide +kernel)
/-- the pairs' tuples, one after another -/
inductive ZN : Hp → List V → List V → List Addr → Hp → Prop
  | nil {H : Hp} : ZN H [] [] [] H
  | cons {H H' : Hp} {x y : V} {xs ys : List V} {T : Addr} {Ts : List Addr} : H T = none → ZN (upd H T (.tup [x, y])) xs ys Ts H' → ZN H (x :: xs) (y :: ys) (T :: Ts) H'
def lstO (ws : List Value) (c : Nat) : Obj := { cls := .type "list", dict := none, data := .seq ws.toArray c, slots := #[] }
structure ZS (h : Heap) (z TI TO i1 i2 a b S : Addr) (i : Nat) : Prop where
  ti : IsPair h TI (.ref i1) (.ref i2)
  h1 : h.IsListIter i1 a i
  h2 : h.IsListIter i2 b i
  st : (IsZip h z TI TO .none ∧ ∃ x y, IsPair h TO x y) ∨ ∃ T f oT, IsZipHeld h z TI TO T f ∧ h.get? T = some oT
theorem ZS.at {h h' : Heap} {z TI TO i1 i2 a b S : Addr} {i : Nat} (x : ZS h z TI TO i1 i2 a b S i) (k : ∀ c o, c ≠ S → h.get? c = some o → h'.get? c = some o) (kS : ∀ o, h.get? S = some o → ∃ o', h'.get? S = some o') (n : S ∉ [z, TI, TO, i1, i2]) : ZS h' z TI TO i1 i2 a b S i := by
  simp only [List.mem_cons, List.not_mem_nil, or_false, not_or] at n
  obtain ⟨n1, n2, n3, n4, n5⟩ := n
  refine ⟨k _ _ (Ne.symm n2) x.ti, x.h1.at fun o e => k _ o (Ne.symm n4) e, x.h2.at fun o e => k _ o (Ne.symm n5) e, ?_⟩
  rcases x.st with ⟨p, u, v, q⟩ | ⟨T, f, oT, p, q⟩
  · exact .inl ⟨k _ _ (Ne.symm n1) p, u, v, k _ _ (Ne.symm n3) q⟩
  · refine .inr ?_
    by_cases e : T = S
    · subst e
      obtain ⟨o', e'⟩ := kS _ q
      exact ⟨T, f, o', k _ _ (Ne.symm n1) p, e'⟩
    · exact ⟨T, f, oT, k _ _ (Ne.symm n1) p, k _ _ e q⟩
section
variable {X : Cx} {pins : List (Addr × Obj)} {σ : L2.St} {a b z TI TO i1 i2 S : Addr} {A : Around}
theorem fp_new {H : Hp} {T : Addr} {o : HO} {c : Addr} (h : FpOk X pins H c) (n : c ≠ T) : FpOk X pins (upd H T o) c := ⟨by rw [upd_ne n]; exact h.1, h.2⟩
theorem sq_new {K : PySem.W.Frag} {H : Hp} {T : Addr} {o : HO} {xs : List V} {a : Addr} (h : SqL K H a xs) (n : H T = none) : SqL K (upd H T o) a xs := h.ext fun c u e => by
  have : c ≠ T := fun q => by rw [q, n] at e; cases e
  rw [upd_ne this]; exact e
/-- what next gives -/
theorem step {s : Shared} {i : Nat} {xs ys : Array Value} {x y : Value} {Q : Option Value → Shared → Prop} {E : Value → Shared → Prop} {P : Program} {w : World} (D : ZipApart z TI TO i1 i2 a b) (st : ZS s.heap z TI TO i1 i2 a b S i) (l1 : s.heap.IsList a xs) (l2 : s.heap.IsList b ys) (hx : xs[i]? = some x) (hy : ys[i]? = some y) (al : ∃ o, s.heap.get? TO = some o)
    (q : ∀ h', ZS h' z TI TO i1 i2 a b S (i + 1) → IsPair h' s.heap.objs.size x y → (∃ o, h'.get? TO = some o) → (∀ c o, c ∉ [z, TO, i1, i2] → s.heap.get? c = some o → h'.get? c = some o) → Q (some (.ref s.heap.objs.size)) { s with heap := h' }) : wpAny (model P w) A (pyNext (.ref z)) Q E s := by
  rcases st.st with ⟨p, u, v, r⟩ | ⟨T, f, oT, p, r⟩
  · refine wpAny_pyNext_zip_item D p st.ti r st.h1 st.h2 l1 l2 hx hy fun h' g1 g2 g3 g4 g5 g6 g7 => q h' ⟨g7 _ _ D.TIz D.TITO D.TIi1 D.TIi2 st.ti, g3, g4, .inr ⟨_, false, _, g1, g5⟩⟩ g5 ⟨_, g2⟩ fun c o n e => ?_
    simp only [List.mem_cons, List.not_mem_nil, or_false, not_or] at n
    exact g7 c o n.1 n.2.1 n.2.2.1 n.2.2.2 e
  · refine wpAny_pyNext_zip_item_held D p r st.ti st.h1 st.h2 l1 l2 hx hy fun h' g1 g3 g4 g5 g6 g7 => ?_
    have tl := Heap.lt_size r
    have hT : ∃ o, h'.get? T = some o := by
      by_cases e1 : T = z
      · exact ⟨_, by rw [e1]; exact g1⟩
      by_cases e2 : T = i1
      · obtain ⟨o, e, _⟩ := g3; exact ⟨o, by rw [e2]; exact e⟩
      by_cases e3 : T = i2
      · obtain ⟨o, e, _⟩ := g4; exact ⟨o, by rw [e3]; exact e⟩
      exact ⟨_, g7 T _ e1 e2 e3 r⟩
    obtain ⟨oT', hT⟩ := hT
    refine q h' ⟨g7 _ _ D.TIz D.TIi1 D.TIi2 st.ti, g3, g4, .inr ⟨_, true, _, g1, hT⟩⟩ g5 (al.imp fun o e => g7 _ _ D.TOz D.TOi1 D.TOi2 e) fun c o n e => ?_
    simp only [List.mem_cons, List.not_mem_nil, or_false, not_or] at n
    exact g7 c o n.1 n.2.2.1 n.2.2.2 e
theorem stop {s : Shared} {i : Nat} {xs ys : Array Value} {Q : Option Value → Shared → Prop} {E : Value → Shared → Prop} {P : Program} {w : World} (hh : A.handled = none) (D : ZipApart z TI TO i1 i2 a b) (st : ZS s.heap z TI TO i1 i2 a b S i) (l1 : s.heap.IsList a xs) (l2 : s.heap.IsList b ys) (hx : xs[i]? = none)
    (q : ∀ h', (∀ c o, c ∉ [z, TO, i1, i2] → s.heap.get? c = some o → h'.get? c = some o) → Q none { s with heap := h' }) : wpAny (model P w) A (pyNext (.ref z)) Q E s := by
  rcases st.st with ⟨p, u, v, r⟩ | ⟨T, f, oT, p, r⟩
  · refine wpAny_pyNext_zip_end hh D p st.ti r st.h1 st.h2 l1 l2 (.inl hx) fun h' g => q h' fun c o n e => ?_
    simp only [List.mem_cons, List.not_mem_nil, or_false, not_or] at n
    exact g c o n.1 n.2.1 n.2.2.1 n.2.2.2 e
  · refine wpAny_pyNext_zip_end_held hh D p r st.ti st.h1 st.h2 l1 l2 (.inl hx) fun h' g => q h' fun c o n e => ?_
    simp only [List.mem_cons, List.not_mem_nil, or_false, not_or] at n
    exact g c o n.1 n.2.2.1 n.2.2.2 e
theorem zl_loop (hc : A.in1.handled = none) (D : ZipApart z TI TO i1 i2 a b) (nS : S ∉ [z, TI, TO, i1, i2]) {R : Result → Shared → Prop} {res : Value} {xs ys : List V} (hz : xs.length ≤ sizeLine) : ∀ (xr yr : List V) (i : Nat) (s : Shared) (H : Hp) (Ts : List Addr) (c : Nat),
    xs.drop i = xr → ys.drop i = yr → xr.length = yr.length → Ts.length = i → SqL X.K H a xs → SqL X.K H b ys → Inv X pins σ H s → (∀ c ∈ [z, TI, TO, i1, i2, S], FpOk X pins H c ∧ ∃ o, s.heap.get? c = some o) → ZS s.heap z TI TO i1 i2 a b S i → s.heap.get? S = some (lstO (Ts.map Value.ref) c) →
    (∀ s' H' Ts' c', ZN H xr yr Ts' H' → Inv X pins σ H' s' → s'.heap.get? S = some (lstO ((Ts ++ Ts').map Value.ref) c') → R (.ok (.ret res)) s') →
    codeAny (model X.prog X.w) A (.builtin "list.extend.loop" ⟨[.ref S, .ref z, res], []⟩) R s
  | [], y :: yr, i, s, H, Ts, c, _, _, hl, _, _, _, _, _, _, _, _ => by simp at hl
  | x :: xr, [], i, s, H, Ts, c, _, _, hl, _, _, _, _, _, _, _, _ => by simp at hl
  | [], [], i, s, H, Ts, c, ex, ey, hl, ht, qa, qb, I, fp, st, hS, k => by
    obtain ⟨ia, ra, pa, _⟩ := I.list qa
    obtain ⟨ib, rb, pb, _⟩ := I.list qb
    have li : xs.length ≤ i := by
      have := congrArg List.length ex
      simp at this
      omega
    have la := ra.length
    refine codeAny_builtin F.entry_extend_loop ?_
    rw [Around.under_plainId F.plain_extend_loop _]
    show wpAny _ A.in1 (pyNext (.ref z) >>= fun _ => _) _ _ s
    refine wpAny_bind (stop (S := S) hc D st pa.isList pb.isList (by simp; omega) fun h' kp => ?_)
    have kp' : ∀ c o, c ∉ [z, TI, TO, i1, i2] → s.heap.get? c = some o → h'.get? c = some o := fun c o n e => kp c o (fun q => n (by simp at q ⊢; rcases q with q | q | q | q <;> simp [q])) e
    exact wpAny_pure (k _ H [] c .nil (I.turnedL (t' := s.toks) kp' fun c hc => (fp c (by simp at hc ⊢; rcases hc with q | q | q | q | q <;> simp [q])).1) (by rw [List.append_nil]; exact kp' S _ nS hS))
  | x :: xr, y :: yr, i, s, H, Ts, c, ex, ey, hl, ht, qa, qb, I, fp, st, hS, k => by
    obtain ⟨ia, ra, pa, _⟩ := I.list qa
    obtain ⟨ib, rb, pb, _⟩ := I.list qb
    have gx : xs[i]? = some x := by
      have := congrArg (·[0]?) ex
      simpa using this
    have gy : ys[i]? = some y := by
      have := congrArg (·[0]?) ey
      simpa using this
    have li : i < xs.length := (List.getElem?_eq_some_iff.mp gx).1
    obtain ⟨u, hu, ru⟩ := ra.get gx
    obtain ⟨v, hv, rv⟩ := rb.get gy
    refine codeAny_builtin F.entry_extend_loop ?_
    rw [Around.under_plainId F.plain_extend_loop _]
    show wpAny _ A.in1 (pyNext (.ref z) >>= fun _ => _) _ _ s
    refine wpAny_bind (step (S := S) (x := u) (y := v) D st pa.isList pb.isList (by simpa using hu) (by simpa using hv) (fp TO (by simp)).2 fun h' st' pr tal kp => ?_)
    have kp' : ∀ c o, c ∉ [z, TI, TO, i1, i2] → s.heap.get? c = some o → h'.get? c = some o := fun c o n e => kp c o (fun q => n (by simp at q ⊢; rcases q with q | q | q | q <;> simp [q])) e
    have hT : H s.heap.objs.size = none := I.hok.fresh (Nat.le_refl _)
    have fpc : ∀ c ∈ [z, TI, TO, i1, i2], FpOk X pins H c := fun c hc => (fp c (by simp at hc ⊢; rcases hc with q | q | q | q | q <;> simp [q])).1
    have I1 : Inv X pins σ (upd H s.heap.objs.size (.tup [x, y])) { s with heap := h' } :=
      I.turnedNew (t' := s.toks) kp' fpc (Nat.le_refl _) (show ObjOk X.prog X.w _ h' _ (.tup [x, y]) from ⟨by show 2 ≤ sizeLine; decide, [u, v], .cons ru (.cons rv .nil), ⟨_, pr, rfl, _, rfl⟩⟩)
    have hS' : h'.get? S = some (lstO (Ts.map Value.ref) c) := kp' S _ nS hS
    show wpAny _ A.in1 (updateSeq S (·.push (.ref s.heap.objs.size)) >>= fun _ => _) _ _ _
    refine wpAny_bind ?_
    have up := Heap.get?_update_self (Obj.mapSeq (·.push (Value.ref s.heap.objs.size))) hS' rfl
    have lt : ∀ c ∈ [z, TI, TO, i1, i2, S], c ≠ s.heap.objs.size := fun c hc => Nat.ne_of_lt (Heap.lt_size (fp c hc).2.choose_spec)
    have alive : ∀ c ∈ [z, TI, TO, i1, i2, S], ∃ o, h'.get? c = some o := fun c hc => by
      simp only [List.mem_cons, List.not_mem_nil, or_false] at hc
      rcases hc with q | q | q | q | q | q
      · rcases st'.st with ⟨p, _⟩ | ⟨T, f, oT, p, _⟩
        · exact ⟨_, by rw [q]; exact p⟩
        · exact ⟨_, by rw [q]; exact p⟩
      · exact ⟨_, by rw [q]; exact st'.ti⟩
      · rw [q]; exact tal
      · obtain ⟨o, e, _⟩ := st'.h1; exact ⟨o, by rw [q]; exact e⟩
      · obtain ⟨o, e, _⟩ := st'.h2; exact ⟨o, by rw [q]; exact e⟩
      · exact ⟨_, by rw [q]; exact hS'⟩
    refine wpAny_updateSeq hS' rfl (wpAny_pure ⟨plainId_quiet F.plain_extend_loop _, ?_⟩) (by show (Ts.map Value.ref).toArray.size ≤ sizeLine; simp; omega) (by show ((Ts.map Value.ref).toArray.push _).size ≤ sizeLine + 1; simp; omega)
    have oth : ∀ c o, c ≠ S → h'.get? c = some o → (h'.update S (Obj.mapSeq (·.push (Value.ref s.heap.objs.size)))).get? c = some o := fun c o n e => (Heap.get?_update_other _ _ (Ne.symm n)).trans e
    have I2 := I1.turnedL (t' := s.toks) (ch := [S]) (fun c o n e => oth c o (fun q => n (by simp [q])) e) fun c hc => by
      rw [List.mem_singleton.mp hc]
      exact fp_new (fp S (by simp)).1 (lt S (by simp))
    obtain ⟨c2, up2⟩ : ∃ c2, (h'.update S (Obj.mapSeq (·.push (Value.ref s.heap.objs.size)))).get? S = some (lstO ((Ts ++ [s.heap.objs.size]).map Value.ref) c2) := ⟨_, up.trans (by
      rw [List.map_append]
      unfold lstO Obj.mapSeq
      simp
      rfl)⟩
    refine zl_loop hc D nS hz xr yr (i + 1) _ _ (Ts ++ [s.heap.objs.size]) c2 ?_ ?_ (by simpa using hl) (by simp [ht]) (sq_new qa hT) (sq_new qb hT) I2 (fun c hc => ⟨fp_new (fp c hc).1 (lt c hc), ?_⟩) (st'.at oth (fun o _ => ⟨_, up⟩) nS) ?_ fun s' H' Ts' c' zn I' hS2 => ?_
    · have := congrArg (List.drop 1) ex
      simpa [Nat.add_comm] using this
    · have := congrArg (List.drop 1) ey
      simpa [Nat.add_comm] using this
    · by_cases e : c = S
      · exact ⟨_, by rw [e]; exact up⟩
      · obtain ⟨o, e2⟩ := alive c hc
        exact ⟨o, oth c o e e2⟩
    · exact up2
    · exact k s' H' (s.heap.objs.size :: Ts') c' (.cons hT zn) I' (by simpa using hS2)
end
end ZT

/-! Z2: the tuple itself -/
namespace ZT
open PySem PySem.Spec PyProof.Rows L2
section
variable {X : Cx} {pins : List (Addr × Obj)} {σ : L2.St} {a b z TI TO i1 i2 : Addr} {A : Around}
theorem zl_collect (hc : A.in1.handled = none) (D : ZipApart z TI TO i1 i2 a b) {E : Value → Shared → Prop} {Q : List Value → Shared → Prop} {xs ys : List V} (hz : xs.length ≤ sizeLine) (hl : xs.length = ys.length) {s : Shared} {H : Hp} (qa : SqL X.K H a xs) (qb : SqL X.K H b ys) (I : Inv X pins σ H s)
    (fp : ∀ c ∈ [z, TI, TO, i1, i2], FpOk X pins H c ∧ ∃ o, s.heap.get? c = some o) (iz : IsZip s.heap z TI TO .none) (st : ZS s.heap z TI TO i1 i2 a b s.heap.objs.size 0)
    (k : ∀ s' H' Ts, ZN H xs ys Ts H' → Inv X pins σ H' s' → Q (Ts.map Value.ref) s') : wpAny (model X.prog X.w) A (collect (.ref z)) Q E s := by
  have nS : s.heap.objs.size ∉ [z, TI, TO, i1, i2] := fun m => by
    obtain ⟨o, e⟩ := (fp _ m).2
    exact absurd (Heap.lt_size e) (Nat.lt_irrefl _)
  have nz : s.heap.objs.size ≠ z := fun e => nS (by simp [e])
  unfold collect
  refine wpAny_bind (wpAny_runValue (codeAny_builtin
    F.entry_proto_collect ?_))
  rw [Around.under_plainId F.plain_proto_collect _]
  show wpAny _ A.in1 (newList [] >>= fun v =>
    again (.builtin "list.__iadd__" ⟨[v, .ref z], []⟩)) _ _ s
  refine wpAny_bind (wpAny_newObj_type ?_)
  refine wpAny_pure ⟨plainId_quiet F.plain_list_iadd _,
    codeAny_builtin F.entry_list_iadd ?_⟩
  rw [Around.under_plainId F.plain_list_iadd _]
  generalize eo : ({ cls := .type "list", data := .seq ([] : List Value).toArray } : Obj) = lo
  have hS1 : (s.heap.push lo).get? s.heap.objs.size = some lo := by
    subst eo
    exact Heap.get?_push_size _ rfl
  have iz1 : IsZip (s.heap.push lo) z TI TO .none := Heap.get?_push_of_some _ iz
  have tz : ({ s with heap := s.heap.push lo } : Shared).TypeIs (.ref z) "zip" := ⟨_, iz1, rfl⟩
  show wpAny _ A.in1 (Builtin.List.listExtendWith
    (.ref s.heap.objs.size) (.ref z) (.ref s.heap.objs.size)) _ _ _
  unfold Builtin.List.listExtendWith
  refine wpAny_bind (wpAny_typeOf tz ?_)
  rw [if_neg (by
    rw [show Builtin.List.listSameRef (.ref s.heap.objs.size) (.ref z) = false by simp [Builtin.List.listSameRef, nz]]
    decide)]
  refine wpAny_bind (wpAny_pyIter_zip (s := { s with heap := s.heap.push lo }) iz1 ?_)
  refine wpAny_bind (wpAny_holding ?_)
  unfold Builtin.List.listLengthHint
  refine wpAny_bind (wpAny_specialOf tz no_len ?_)
  show wpAny _ A.in1 (specialOf (Value.ref z)
    (Str.ofString "__length_hint__") >>= fun _ => _) _ _ _
  refine wpAny_bind (wpAny_specialOf tz no_hint ?_)
  refine wpAny_pure ?_
  show wpAny _ A.in1 (rule "list.extend.makes-room" >>= fun _ => Builtin.List.listTouch (.ref s.heap.objs.size)
    >>= fun _ => again (.builtin "list.extend.loop" ⟨[.ref s.heap.objs.size, .ref z, .ref s.heap.objs.size], []⟩)) _ _ _
  refine wpAny_bind (wpAny_rule ?_)
  refine wpAny_bind ?_
  show wpAny _ A.in1 (updateSeq s.heap.objs.size (·.push .none)
    >>= fun _ => updateSeq s.heap.objs.size (·.pop)) _ _ _
  subst eo
  refine wpAny_bind (wpAny_updateSeq hS1 rfl ?_)
  have hS2 := Heap.get?_update_self (Obj.mapSeq (·.push Value.none)) hS1 rfl
  refine wpAny_updateSeq hS2 rfl ?_
  have hS3 := Heap.get?_update_self (Obj.mapSeq (·.pop)) hS2 rfl
  have oth : ∀ c o, s.heap.get? c = some o → (((s.heap.push { cls := .type "list", data := .seq ([] : List Value).toArray }).update s.heap.objs.size (Obj.mapSeq (·.push Value.none))).update s.heap.objs.size (Obj.mapSeq (·.pop))).get? c = some o := fun c o e => by
    have n : s.heap.objs.size ≠ c := Nat.ne_of_gt (Heap.lt_size e)
    exact (Heap.get?_update_other _ _ n).trans ((Heap.get?_update_other _ _ n).trans (Heap.get?_push_of_some _ e))
  have I3 := I.kept (t' := s.toks) oth
  have fS : FpOk X pins H s.heap.objs.size := I.fpOk (Nat.le_refl _) (I.hok.fresh (Nat.le_refl _))
  obtain ⟨c3, hS4⟩ : ∃ c3, (((s.heap.push { cls := .type "list", data := .seq ([] : List Value).toArray }).update s.heap.objs.size (Obj.mapSeq (·.push Value.none))).update s.heap.objs.size (Obj.mapSeq (·.pop))).get? s.heap.objs.size = some (lstO (([] : List Addr).map Value.ref) c3) := ⟨_, hS3⟩
  refine wpAny_pure ⟨plainId_quiet F.plain_extend_loop _,
    zl_loop (S := s.heap.objs.size) hc D nS hz xs ys 0 _ H [] c3 rfl rfl hl rfl qa qb I3 (fun c m => ?_) (st.at (fun c o _ e => oth c o e) (fun o _ => ⟨_, hS4⟩) nS) hS4 fun s' H' Ts c' zn I' hS' => ?_⟩
  · by_cases e : c = s.heap.objs.size
    · exact ⟨e ▸ fS, _, by rw [e]; exact hS4⟩
    · have := fp c (by
        simp only [List.mem_cons, List.not_mem_nil, or_false] at m ⊢
        rcases m with q | q | q | q | q | q
        · exact .inl q
        · exact .inr (.inl q)
        · exact .inr (.inr (.inl q))
        · exact .inr (.inr (.inr (.inl q)))
        · exact .inr (.inr (.inr (.inr q)))
        · exact absurd q e)
      obtain ⟨f, o, g⟩ := this
      exact ⟨f, o, oth c o g⟩
  · show wpAny _ A (load s.heap.objs.size >>= fun _ => _) _ _ s'
    refine wpAny_bind (wpAny_load hS' ?_)
    refine wpAny_pure ?_
    have := k s' H' Ts zn I'
    simpa [lstO] using this
theorem zl_tuple (hc : A.in1.in1.handled = none) (D : ZipApart z TI TO i1 i2 a b) {E : Value → Shared → Prop} {Q : Value → Shared → Prop} {xs ys : List V} (hz : xs.length ≤ sizeLine) (hl : xs.length = ys.length) {s : Shared} {H : Hp} (qa : SqL X.K H a xs) (qb : SqL X.K H b ys) (I : Inv X pins σ H s)
    (fp : ∀ c ∈ [z, TI, TO, i1, i2], FpOk X pins H c ∧ ∃ o, s.heap.get? c = some o) (iz : IsZip s.heap z TI TO .none) (st : ZS s.heap z TI TO i1 i2 a b s.heap.objs.size 0)
    (k : ∀ s' H' Ts p, ZN H xs ys Ts H' → H' p = none → Inv X pins σ (upd H' p (.tup (Ts.map V.ref))) s' → s'.TypeIs (.ref p) "tuple" → Q (.ref p) s') : codeAny (model X.prog X.w) A (.call (.builtin "tuple.__new__") ⟨[.type "tuple", .ref z], []⟩) (wants Q E) s := by
  refine codeAny_of_tree ?_
  show wpAny _ A.in1 (do
    checkBuiltinCall "tuple.__new__" ⟨[.type "tuple", .ref z], []⟩
    again (.builtin "tuple.__new__" ⟨[.type "tuple", .ref z], []⟩)) _ _ s
  refine wpAny_bind (wpAny_of_eq (F.newCall_tuple_1 _) (wpAny_pure
    ⟨plainId_quiet F.plain_tuple_new _, codeAny_builtin F.entry_tuple_new ?_⟩))
  rw [Around.under_plainId F.plain_tuple_new _]
  have f1 := sub_tuple_self
  have f2 := init_tuple_lookup
  have f3 := madeHere_tuple
  have tz : s.TypeIs (.ref z) "zip" := ⟨_, iz, rfl⟩
  wp_walk using wpAny_typeOf tz, zl_collect (A := A.in1) hc D hz hl qa qb I fp iz st
  intro s' H' Ts zn I'
  have ln : Ts.length = xs.length := by
    clear k f1 f2 f3 tz hz hl qa qb I fp iz st I'
    induction zn with
    | nil => rfl
    | cons _ _ ih => simp [ih]
  show wpAny _ _ (Builtin.Tuple.tupleExact (Ts.map Value.ref).toArray
    >>= fun v => ret v) _ _ _
  unfold Builtin.Tuple.tupleExact
  refine wpAny_bind (wpAny_newObj_type ?_ (by show (Ts.map Value.ref).toArray.size ≤ sizeLine; simp; omega))
  refine wpAny_pure (k _ H' Ts s'.heap.objs.size zn (I'.hok.fresh (Nat.le_refl _)) ?_ ⟨_, Heap.get?_push_size _ rfl, rfl⟩)
  refine I'.laid (t' := s'.toks) (fun b o e => Heap.get?_push_of_some _ e) (Nat.le_refl _) (show ObjOk X.prog X.w _ _ _ (.tup (Ts.map V.ref)) from ⟨by rw [List.length_map]; omega, Ts.map Value.ref, ?_, IsTup.new _ _⟩)
  clear k f1 f2 f3 tz hz hl qa qb I fp iz st I' ln zn
  induction Ts with
  | nil => exact .nil
  | cons T r ih => exact .cons rfl ih
end
end ZT

/-! Z3: tuple(zip(x, y)) as a word -/
namespace ZT
open PySem PySem.Spec PyProof.Rows L2
section
variable {X : Cx} {e e2 : Expr} {ta : TA} {p0 p pos0 pos : Pos}
def tTZ (K : PySem.W.Frag) (ta : TA) : TE := fun σ H Q => ta σ H fun vs H1 => ∃ a b xs ys, vs = [.ref a, .ref b] ∧ SqL K H1 a xs ∧ SqL K H1 b ys ∧ xs.length = ys.length ∧ xs.length ≤ sizeLine ∧ ∀ Ts H' q, ZN H1 xs ys Ts H' → H' q = none → Q (.ref q) (upd H' q (.tup (Ts.map V.ref)))
theorem bt_tuple : bootBuiltins "tuple" = some (.type "tuple") := by decide +kernel
theorem pe_tz (hc : X.calm = true) (hgt : Gl X "tuple") (hmt : X.mg "tuple" = none) (hg : Gl X "zip") (hm : X.mg "zip" = none) (ha : PA X [e, e2] ta)
    (hs : starEach [e, e2] X.env = (false, eval e X.env) :: starEach [e2] X.env := by rfl) (hpl : (backTo pos (starEach [e2] X.env)).any (·.1) = false := by rfl)
    (na : starEach [.Call (.Name "zip" p) [e, e2] [] pos] X.env = (false, eval (.Call (.Name "zip" p) [e, e2] [] pos) X.env) :: starEach [] X.env := by rfl) :
    PE X (.Call (.Name "tuple" p0) [.Call (.Name "zip" p) [e, e2] [] pos] [] pos0) (tTZ X.K ta) := by
  refine ⟨fun pins s σ H Q I h => ?_⟩
  refine Call_ (ld_blt I hgt hmt bt_tuple (PyProof.Rows.callWith_type1 (args_cons ?_ na) na))
  refine Call_ (ld_blt I hg hm PyProof.Rows.boot_zip (PyProof.Rows.callWith_type1 (thn (ha.run pos pins s σ H _ I h) fun us s1 ⟨vs, H1, I1, r1, q1⟩ => ?_) hs hpl))
  obtain ⟨a, b, xs, ys, ex, qa, qb, hl, hz, k⟩ := q1
  subst ex
  cases r1 with
  | cons r rr =>
    cases rr with
    | cons r' rr =>
      cases rr
      cases r
      cases r'
      obtain ⟨ia, ra, pa, _⟩ := I1.list qa
      obtain ⟨ib, rb, pb, _⟩ := I1.list qb
      have la := pa.lt
      have lb := pb.lt
      refine call_zip_2 pa.isList pb.isList fun h' gz gTI gTO g1 g2 hsz hk => args_nil ?_
      have I2 : Inv X pins σ H1 { s1 with heap := h' } := I1.kept (t' := s1.toks) hk
      have hh := I.ok.hd hc
      have fp : ∀ c ∈ [s1.heap.objs.size + 4, s1.heap.objs.size + 2, s1.heap.objs.size + 3, s1.heap.objs.size, s1.heap.objs.size + 1], FpOk X pins H1 c ∧ ∃ o, h'.get? c = some o := fun c m => by
        have hle : s1.heap.objs.size ≤ c := by
          simp only [List.mem_cons, List.not_mem_nil, or_false] at m
          omega
        refine ⟨I1.fpOk hle (I1.hok.fresh hle), ?_⟩
        simp only [List.mem_cons, List.not_mem_nil, or_false] at m
        obtain ⟨o1, f1, _⟩ := id g1
        obtain ⟨o2, f2, _⟩ := id g2
        rcases m with rfl | rfl | rfl | rfl | rfl
        · exact ⟨_, gz⟩
        · exact ⟨_, gTI⟩
        · exact ⟨_, gTO⟩
        · exact ⟨_, f1⟩
        · exact ⟨_, f2⟩
      refine callType_codes (Q₁ := fun ob s₁ => s₁.TypeIs ob "tuple" ∧ EP X pins σ Q ob s₁) F.called_tuple (F.typeCall_tuple_1 _) F.entry_object_init
        (zl_tuple (A := X.A.in1) (s := { s1 with heap := h' }) hh (PySem.W.ktu_apart s1.heap.objs.size a b la lb) hz hl qa qb I2 fp gz ⟨gTI, g1, g2, .inl ⟨gz, _, _, gTO⟩⟩ fun s' H' Ts q zn hn I' tq => ⟨tq, .ref q, _, I', rfl, k Ts H' q zn hn⟩) fun ob s₁ h₁ => ?_
      exact ⟨h₁.1, F.args_object_init_2 ob _, object_init_meets F.called_tuple.init.lookup F.called_tuple.made (by decide) X.prog X.w X.A.in1 _ s₁ ⟨h₁.1, rfl, h₁.2⟩⟩
end
end ZT
namespace HW
open PySem L2 ZT
theorem zn_dv {M : MI} {K : PySem.W.Frag} {H H' : Hp} {xs ys : List V} {Ts : List Addr} (zn : ZN H xs ys Ts H') : ∀ {w : W} {ds es : List D}, w.H = H → Gd M w → DvA K w.F w.H xs ds → DvA K w.F w.H ys es → ∃ w', w'.H = H' ∧ w'.c = w.c ∧ Stp w w' ∧ Gd M w' ∧ DvA K w'.F w'.H (Ts.map V.ref) (zipD ds es) := by
  induction zn with
  | nil =>
    intro w ds es eh g h1 h2
    cases h1
    cases h2
    exact ⟨w, eh, rfl, Stp.refl w, g, .nil⟩
  | @cons H H' x y xs ys T Ts hn zn ih =>
    intro w ds es eh g h1 h2
    subst eh
    cases h1 with
    | @cons _ _ d ds a1 a2 =>
      cases h2 with
      | @cons _ _ e es b1 b2 =>
        have s1 := stp_new (o := .tup [x, y]) hn
        have g1 := gd_new (o := .tup [x, y]) g hn
        obtain ⟨w', e1, e2, e3, e4, e5⟩ := ih (w := w.new T (.tup [x, y])) rfl g1 (a2.fk (s1.fk g)) (b2.fk (s1.fk g))
        have t := new_tup g hn (.cons a1 (.cons b1 .nil))
        exact ⟨w', e1, e2, s1.trans e3, e4, .cons (t.fk (e3.fk g1)) e5⟩
section
variable {X : Cx} {M : MI} {e e2 : Expr} {we we2 : WE} {p0 p pos0 pos : Pos}
def wTupZip (we we2 : WE) : WE := fun ρ c Q => we ρ c fun d c1 => we2 ρ c1 fun d2 c2 => ∃ xs ys, d = .list xs ∧ d2 = .list ys ∧ xs.length = ys.length ∧ xs.length ≤ LIM ∧ Q (.tuple (zipD xs ys)) c2
theorem e_tupZip (hc : X.calm = true) (hgt : Gl X "tuple") (hmt : X.mg "tuple" = none) (hg : Gl X "zip") (hm : X.mg "zip" = none) (he : PE X e (tB M X.K we)) (he2 : PE X e2 (tB M X.K we2)) (hs : starEach [e, e2] X.env = (false, eval e X.env) :: starEach [e2] X.env := by rfl) (hs2 : starEach [e2] X.env = (false, eval e2 X.env) :: starEach [] X.env := by rfl) (hpl : (backTo pos (starEach [e2] X.env)).any (·.1) = false := by rfl)
    (na : starEach [.Call (.Name "zip" p) [e, e2] [] pos] X.env = (false, eval (.Call (.Name "zip" p) [e, e2] [] pos) X.env) :: starEach [] X.env := by rfl) :
    PE X (.Call (.Name "tuple" p0) [.Call (.Name "zip" p) [e, e2] [] pos] [] pos0) (tE M X.K (wTupZip we we2)) := by
  refine PE.imp (pe_tz hc hgt hmt hg hm (pa_cons he (pa_cons he2 pa_nil hs2) hs) hs hpl na) ?_
  rintro σ H Q ⟨w, ρ, Qd, eh, ev, g, hw, k⟩
  refine ⟨w, ρ, _, eh, ev, g, hw, fun w1 v d s1 g1 dv q1 => ?_⟩
  refine ⟨w1, ρ, _, rfl, ev.stp s1 g, g1, q1, fun w2 v2 d2 s2 g2 dv2 q2 => ?_⟩
  obtain ⟨xs, ys, rfl, rfl, hl, hz, q2⟩ := q2
  obtain ⟨a, us, rfl, qa, da⟩ := (dv.stp s2 g1).seqL
  obtain ⟨b, vs, rfl, qb, db⟩ := dv2.seqL
  refine ⟨a, b, us, vs, rfl, qa, qb, by rw [da.length, db.length]; exact hl, lim_size (by rw [da.length]; exact hz), fun Ts H' q zn hn => ?_⟩
  obtain ⟨w3, e1, e2, e3, e4, e5⟩ := zn_dv zn rfl g2 da db
  subst e1
  exact k (w3.new q (.tup (Ts.map V.ref))) _ _ (((s1.trans s2).trans e3).trans (stp_new hn)) (gd_new e4 hn) (new_tup e4 hn e5) (by show Qd _ w3.c; rw [e2]; exact q2)
end
end HW

/-! Z4: s.split(t), int(a text), str(an int); runs of these and of tuple(zip(..)) -/
namespace HW
open PySem PySem.Spec PyProof.Rows L2
def spD : D → D → Option D
  | .str a, .str b => if (b.length == 0) = false ∧ a.length + 2 ≤ LIM then some (.list ((Txt.split a b).map PyData.str)) else none
  | _, _ => none
theorem dva_strs {K : PySem.W.Frag} {P : Addr → Prop} {H : Hp} : ∀ ys : List PySem.Str, DvA K P H (ys.map V.str) (ys.map PyData.str)
  | [] => .nil
  | _ :: r => .cons (.str _) (dva_strs r)
theorem d_split {M : MI} {K : PySem.W.Frag} : FnM M K (fun x xs H Q => ∃ a b, x = .str a ∧ xs = [.str b] ∧ (b.length == 0) = false ∧ a.length + 2 ≤ sizeLine ∧ rNewStrs (Txt.split a b) H Q) spD := fun w x y dy z Q g hy e k => by
  cases dy <;> simp only [spD, reduceCtorEq] at e
  rename_i b
  split at e
  · rename_i h
    cases e
    cases hy.str
    exact ⟨x, b, rfl, rfl, h.1, lim_size h.2, fun p hp => newQ g hp (new_lst g hp (dva_strs _)) k⟩
  · cases e
def intSD : D → Option D
  | .str a => if a.length ≤ 640 then (PySem.intText? a).map PyData.int else none
  | _ => none
theorem d_intS {M : MI} {K : PySem.W.Frag} : FnD M K (fun xs H Q => ∃ a n, xs = [.str a] ∧ PySem.intText? a = some n ∧ a.length ≤ 640 ∧ Q (.int n) H) intSD := fun w x dx z Q g hx e k => by
  cases dx <;> simp only [intSD, reduceCtorEq] at e
  rename_i a
  split at e
  · rename_i h
    obtain ⟨n, en, rfl⟩ := Option.map_eq_some_iff.mp e
    cases hx.str
    exact ⟨a, n, rfl, en, h, keepQ g (.int n) k⟩
  · cases e
section
open Rs
variable {R : RR} {xa xb : XE} {wa wb : WE}
def xTupZip (xa xb : XE) : XE := fun ρ => (xa ρ).bind fun d => (xb ρ).bind fun e => (ofO (listD d)).bind fun xs => (ofO (listD e)).bind fun ys => guard (xs.length = ys.length ∧ xs.length ≤ LIM) (.ok (.tuple (zipD xs ys)))
theorem k_tupZip (ha : RfE R xa wa) (hb : RfE R xb wb) : RfE R (xTupZip xa xb) (wTupZip wa wb) := fun ρ c Q h => ha ρ c _ (post_bm h fun d h => hb ρ c _ (post_bm h fun e h => by
  obtain ⟨xs, e1, h⟩ := post_ofO (post_bind h)
  obtain ⟨ys, e2, h⟩ := post_ofO (post_bind h)
  obtain ⟨g, q⟩ := post_guard h
  exact ⟨xs, ys, listD_some e1, listD_some e2, g.1, g.2, q⟩))
end
end HW

namespace Pf
open PySem L2 HW
def topS (i : Nat) : Stmt := PySem.Challenge.pw_towerline_k88_whole_texts_there_and_back.main.body.getD i (.Pass ⟨0, 0, 0, 0⟩)
structure Txt (mg : Str → Option Value) : Prop where
  int : mg "int" = none
  len : mg "len" = none
theorem bt_int : bootBuiltins "int" = some (.type "int") := by decide +kernel
theorem bt_len : bootBuiltins "len" = some (.builtin "len") := by decide +kernel
abbrev sNext : Stmt := topS 33
abbrev nNext : List Str := ["m", "total", "found", "cell"]
theorem scNext : FnScope nNext ["m", "total"] (defScope sNext) := ⟨rfl, rfl, rfl, by decide +kernel, rfl, by decide +kernel, by decide +kernel⟩
section
variable (K : PySem.W.Frag)
abbrev wLf : WE := wDix (wLook 0) (wC (.str "great"))
abbrev wCl : WE := wDix (wLook 0) (wC (.str "cells"))
abbrev wTn : WE := wDix (wLook 0) (wC (.str "turn"))
abbrev wSm : WE := wDix (wLook 0) (wC (.str "sum"))
abbrev wMix : WE := wOp modD (wF intD (wOp addD (wOp addD (wOp mulD wSm (wC (.int 75364))) (wOp modD (wF intD (wLook 3)) (wC (.int 2147483587)))) (wOp mulD (wC (.int 977)) wTn))) (wC (.int 4294967291))
abbrev wEnd : WE := wOp modD (wOp fdvD (wOp modD (wF intD (wOp addD (wOp mulD wSm (wC (.int 40692))) wTn)) (wC (.int 4294967279))) (wC (.int 128))) (wLook 1)
abbrev wG0 : WE := wOp modD (wF intD (wOp ixD wLf (wC (.int 0)))) (wLook 1)
abbrev wG1 : WE := wOp fdvWD (wF intD (wOp ixD wLf (wC (.int 0)))) (wLook 1)
def tTwo : TE := tTup (tCons (tE M0 K wG0) (tCons (tE M0 K wG1) tNil))
def tNx0 : TS := sDPut (tVar 0) (tC (.str "turn")) (tE M0 K (wOp addD wTn (wC (.int 1))))
def tNx1 : TS := tWhile (tT M0 K (wAnd (wTst (wOp neD wLf (wLst wNil))) (wTst (wOp eqD (wOp ixD wLf (wC (.int 0))) (wC (.int 0)))))) (sDPut (tVar 0) (tC (.str "great")) (tN M0 K (nSl wLf (wSo (wC (.int 1))) wNo)))
def tNx2 : TS := tIfS (tT M0 K (wTst (wOp neD wLf (wLst wNil)))) (tSeq (tAsg (tTwo K) (gTup K 2 (gCons (gName 2) (gCons (gSub (tDGet (tVar 0) (tC (.str "great"))) (tC (.int 0)) rSetL) L2.gNil)))) (tRet (tE M0 K (wVar 2)))) tNext
def tNx3 : TS := tSeq (tAsg (tE M0 K (wOp ixD wCl (wOp modD (wF intD wTn) (wF lenD wCl)))) (gName 3)) (tSeq (sDPut (tVar 0) (tC (.str "sum")) (tE M0 K wMix)) (tRet (tE M0 K wEnd)))
end
theorem fn_next {P : Program} {w : World} {K : PySem.W.Frag} {mg : Str → Option Value} {base : Heap} {f : Addr} {fd : FuncData} (T : Txt mg) (F : L2.Fun K "_law_next" "_law_next" sNext f fd) : FnG P w K mg base CX0 1 f fd ["m", "total"] (fnSp MD K nextW) := by
  refine fnG F scNext (fun vs H Q E ⟨w, es, Qd, eh, g, ar, ⟨t, e, _⟩, k⟩ => by rw [ar.length, e]; rfl) fun cdv A outer s H vs Q E gds room h => ?_
  have N := scNext.nd
  have key {X : Cx} {x : Str} (hu : X.A.units + 1 < cLine) {p q r : Pos} {j} (hv : PE X (.Name "m" p) (tVar 0)) (hs : NoSl (.Constant (.str x) j q)) : PE X (.Subscript (.Name "m" p) (.Constant (.str x) j q) r) (tE M0 X.K (wDix (wLook 0) (wC (.str x)))) := e_dix hu (b_var hv) (toB e_str) hs
  refine ⟨tSeq (tNx0 K) (tSeq (tNx1 K) (tSeq (tNx2 K) (tNx3 K))), PSs.nox ?bd, ?gg⟩
  case bd =>
   have hu := hu_of room
   exact pss_cons (ps_dput hu (pv 0) pe_str (e_op (M := M0) o_add d_add (toB (key hu (pv 0) (fun _ _ => rfl))) (toB e_int)) rfl)
    (pss_cons (ps_while PassesOwn.never (PW.pt (t_and (t_cmp (op_neD room.units) d_ne (nomark _) (toB (key hu (pv 0) (fun _ _ => rfl))) (toB (e_lst a_nil))) (t_and1 (t_cmp (op_eqD room.units) d_eq (nomark _) (toB (e_ix o_ix d_ix (toB (key hu (pv 0) (fun _ _ => rfl))) (toB e_int) (fun _ _ => rfl))) (toB e_int)))))
    (pss_one (ps_dput hu (pv 0) pe_str (n_sl (toB (key hu (pv 0) (fun _ _ => rfl))) (o_so (toB e_int)) o_no) rfl)))
    (pss_cons (ps_if (t_cmp (op_neD room.units) d_ne (nomark _) (toB (key hu (pv 0) (fun _ _ => rfl))) (toB (e_lst a_nil)))
      (pss_cons (ps_asg (pe_tup (pa_cons (e_op (M := M0) op_mod d_mod (toB (e_fnT call_int1 d_int rfl T.int bt_int (toB (e_ix o_ix d_ix (toB (key hu (pv 0) (fun _ _ => rfl))) (toB e_int) (fun _ _ => rfl))))) (b_var (pv 1))) (pa_cons (e_op (M := M0) op_fdivW d_fdvW (toB (e_fnT call_int1 d_int rfl T.int bt_int (toB (e_ix o_ix d_ix (toB (key hu (pv 0) (fun _ _ => rfl))) (toB e_int) (fun _ _ => rfl))))) (b_var (pv 1))) pa_nil))) (pg_tup rfl (pgs_cons (pg_name (i := 2) N rfl (Or.inl rfl)) (pgs_cons (pg_sub (pe_dget hu (pv 0) pe_str (fun _ _ => rfl)) pe_int set_list) pgs_nil))))
      (pss_one (ps_ret (e_var (M := M0) (pv 2))))) pss_nil)
    (pss_cons (ps_set (i := 3) N rfl (Or.inl rfl) (e_ix (M := M0) o_ix d_ix (toB (key hu (pv 0) (fun _ _ => rfl))) (toB (e_op op_mod d_mod (toB (e_fnT call_int1 d_int rfl T.int bt_int (toB (key hu (pv 0) (fun _ _ => rfl))))) (toB (e_fn o_len d_len rfl T.len bt_len (toB (key hu (pv 0) (fun _ _ => rfl))))))) (fun _ _ => rfl)))
    (pss_cons (ps_dput hu (pv 0) pe_str (e_op (M := M0) op_mod d_mod (toB (e_fnT call_int1 d_int rfl T.int bt_int (toB (e_op o_add d_add (toB (e_op o_add d_add (toB (e_op op_mul d_mul (toB (key hu (pv 0) (fun _ _ => rfl))) (toB e_int))) (toB (e_op op_mod d_mod (toB (e_fnT call_int1 d_int rfl T.int bt_int (b_var (pv 3)))) (toB e_int))))) (toB (e_op op_mul d_mul (toB e_int) (toB (key hu (pv 0) (fun _ _ => rfl))))))))) (toB e_int)) rfl)
    (pss_one (ps_ret (e_op (M := M0) op_mod d_mod (toB (e_op op_fdiv d_fdv (toB (e_op op_mod d_mod (toB (e_fnT call_int1 d_int rfl T.int bt_int (toB (e_op o_add d_add (toB (e_op op_mul d_mul (toB (key hu (pv 0) (fun _ _ => rfl))) (toB e_int))) (toB (key hu (pv 0) (fun _ _ => rfl))))))) (toB e_int))) (toB e_int))) (b_var (pv 1)))))))))
  case gg =>
    obtain ⟨w0, es, Qd, rfl, g, ar, ⟨t, rfl, ht0, ht1, hc, hq⟩, kk⟩ := h
    cases ar with
    | @st a vs _ mo ar =>
    cases ar with
    | im dv ar =>
    cases ar
    cases dv
    obtain ⟨c1, l, cs, ls, k, sm, eR, sv, hk, hcs⟩ := g.mi a mo
    have fin : ∀ {σ : L2.St} {H' : Hp} {ρ : List En} {l' : Addr} {ls' : List Int} {k' : Nat} {sm' : Int}, At K w0 a c1 σ H' ρ l' cs ls' k' sm' → k' ≤ w0.c + 1 → ∀ n : Int, 0 ≤ n → n < t → Q (.int n) H' := fun {σ H' ρ l' ls' k' sm'} h hk' n h0 h1 => by
      refine kk ⟨w0.F, [a, c1, l'], H', w0.c + 1, w0.mo⟩ (.int n) (.int n) ⟨fun _ f => f, fun _ f => .inl f, h.keep, h.live, fun b hb => ?_, fun _ e => e⟩ ⟨fun b e => ?_, fun e => ?_, fun z => z.elim, fun b hb => ?_, fun b f => h.live b (g.tf b f)⟩ (.int n) (hq n h0 h1)
      · have hb : b ∈ [a, c1, l'] := hb
        simp only [List.mem_cons, List.not_mem_nil, or_false] at hb
        rcases hb with rfl | rfl | rfl
        · exact .inl (by rw [eR]; simp)
        · exact .inl (by rw [eR]; simp)
        · exact h.l0
      · have : a = b := Option.some.inj (mo.symm.trans e)
        subst this
        exact ⟨c1, l', cs, ls', k', sm', rfl, h.sv, hk', hcs⟩
      · exact absurd (mo.symm.trans e) (by simp)
      · have hb : b ∈ [a, c1, l'] := hb
        simp only [List.mem_cons, List.not_mem_nil, or_false] at hb
        rcases hb with rfl | rfl | rfl
        · exact ⟨h.live _ (g.tr _ (by rw [eR]; simp)).1, (g.tr _ (by rw [eR]; simp)).2⟩
        · exact ⟨h.live _ (g.tr _ (by rw [eR]; simp)).1, (g.tr _ (by rw [eR]; simp)).2⟩
        · refine ⟨by show H' _ ≠ none; rw [h.sv.hl]; simp, fun f => ?_⟩
          rcases h.l0 with z | z
          · exact (g.tr _ z).2 f
          · exact g.tf _ f z
    have A0 : At K w0 a c1 (L2.start nNext [.ref a, .int t]) w0.H [.un, .im (.int t), .un, .un] l cs ls k sm := by
      refine ⟨sv, rfl, rfl, rfl, fun i e q => ?_, fun b o e _ => e, fun b e => e, .inl (by rw [eR]; simp), by rw [eR]; simp⟩
      match i, q with
      | 0, q => cases q; exact .inl rfl
      | 1, q => cases q; exact .inr ⟨_, .int t, rfl, rfl, rfl, fun _ _ => .int t⟩
      | 2, q => cases q; exact .inl rfl
      | 3, q => cases q; exact .inl rfl
      | n + 4, q => cases q
    have kb : -(2 ^ 64) < ((k + 1 : Nat) : Int) ∧ ((k + 1 : Nat) : Int) < 2 ^ 64 := by omega
    -- one more turn
    dsimp only [tSeq, tNx0]
    refine A0.E (Qd := fun d _ => d = .int ((k + 1 : Nat) : Int)) (w_at A0.r0 ⟨_, rfl, rfl⟩) fun H1 v1 d1 _ B1 hv1 ed1 => ?_
    subst ed1
    cases hv1 rfl (fun _ => False) H1
    refine ⟨_, B1.s0, a, _, rfl, DPut.k (k := .inr "turn") B1.sv.hm (by show 4 < sizeLine; decide), ?_⟩
    have B2 := B1.putAt
    -- the loop
    refine ⟨fun m σ H => ∃ l ls, At K w0 a c1 σ H [.un, .im (.int t), .un, .un] l cs ls (k + 1) sm ∧ σ = L2.start nNext [.ref a, .int t] ∧ m = ls.length, ⟨_, l, ls, B2, rfl, rfl⟩, ?_⟩
    rintro m σ H ⟨l, ls, A1, rfl, rfl⟩
    refine A1.T (Qd := fun b _ => b = true → ls ≠ []) ?_ fun H1 b _ A2 hb => ?_
    · refine w_left A1.r0 ⟨by show 0 ≤ _; decide, _, ne_nilD ls, _, rfl, ?_⟩
      cases ls with
      | nil => exact iteF fun z => by cases z
      | cons x r => exact iteT (w_left A1.r0 ⟨_, ix0 x r, _, eq_intD x 0, _, rfl, fun _ z => by cases z⟩)
    cases b with
    | true =>
      refine iteT ⟨fun σ H => σ = L2.start nNext [.ref a, .int t] ∧ ∃ l' ls', At K w0 a c1 σ H [.un, .im (.int t), .un, .un] l' cs ls' (k + 1) sm ∧ ls'.length < ls.length, ?_, ?_⟩
      · rintro σ' H' ⟨rfl, l', ls', A3, hl⟩
        exact ⟨_, hl, l', ls', A3, rfl, rfl⟩
      · refine A2.N (xs := ls.drop 1) (w_left A2.r0 ⟨_, rfl, _, rfl, ?_⟩) fun H3 p A3 hn hp => ?_
        · exact congrArg En.ls (cut1 ls (hb rfl))
        · have h0 : w0.H p = none := by
            cases e : w0.H p with
            | none => rfl
            | some o => exact absurd hn (A2.live p (by rw [e]; simp))
          have hcp : c1 ≠ p := fun z => by
            have := A2.sv.hc
            rw [z, hn] at this
            cases this
          refine ⟨_, A3.s0, a, _, rfl, DPut.k (k := .inr "great") A3.sv.hm (by show 4 < sizeLine; decide), rfl, p, ls.drop 1, A3.putL h0 hp hcp, ?_⟩
          rw [List.length_drop]
          have := List.length_pos_iff.mpr (hb rfl)
          omega
    | false =>
      refine iteF ?_
      clear hb A1 A0 B1 B2
      dsimp only [tSeq, tNx2, tIfS]
      refine A2.T (Qd := fun b _ => b = !ls.isEmpty) ?_ fun H2 b _ A3 hb => ?_
      · exact w_left A2.r0 ⟨by show 0 ≤ _; decide, _, ne_nilD ls, _, rfl, rfl⟩
      cases ls with
      | cons x r =>
        subst hb
        refine iteT ?_
        dsimp only [tAsg, tTwo, tTup, tCons]
        refine A3.E (Qd := fun d _ => d = .int (x % t)) ?_ fun H3 v d _ A4 hv ed => ?_
        · exact w_left A3.r0 ⟨_, ix0 x r, _, rfl, _, _, rfl, rfl, _, if_pos ht0, rfl⟩
        subst ed
        refine A4.E (Qd := fun d _ => d = .int (x / t)) ?_ fun H4 v2 d2 _ A5 hv2 ed2 => ?_
        · exact w_left A4.r0 ⟨_, ix0 x r, _, rfl, _, _, rfl, rfl, _, if_pos ⟨ht0, ht1⟩, rfl⟩
        subst ed2
        refine ⟨by show 2 ≤ sizeLine; decide, fun p hp => ?_⟩
        have A6 : At K w0 a c1 _ (upd H4 p (.tup [v, v2])) _ l cs (x :: r) (k + 1) sm := A5.up fun b o e => by
          rw [upd_ne (fun z => by rw [z, hp] at e; cases e)]
          exact e
        have A7 := A6.set (i := 2) (by decide) rfl (hv rfl)
        refine ⟨p, _, rfl, SqT.of upd_same, rfl, ⟨_, _, rfl, ?_⟩⟩
        refine ⟨_, _, rfl, ?_⟩
        refine ⟨_, A7.s0, a, _, rfl, DGet.k (k := .inr "great") A7.sv.hm, ?_⟩
        cases hv2 rfl (fun _ => False) H4
        refine ⟨l, _, 0, 0, rfl, rfl, A7.sv.hl, ixN0 (by simp), rfl, ?_⟩
        dsimp only [tRet]
        refine A7.put0.E (Qd := fun d _ => d = .int (x % t)) ?_ fun H5 v5 d5 _ A8 hv5 ed5 => ?_
        · exact ⟨_, rfl, rfl⟩
        subst ed5
        cases hv5 rfl (fun _ => False) H5
        exact fin A8 (by omega) _ (Int.emod_nonneg _ (by omega)) (Int.emod_lt_of_pos _ ht0)
      | nil =>
        subst hb
        refine iteF ?_
        dsimp only [tNext, tSeq, tNx3, tAsg]
        have cl : (0 : Int) < ((dI cs).length : Nat) := by simp [dI]; omega
        refine A3.E (Qd := fun d _ => ∃ y, d = .int y) ?_ fun H5 v5 d5 _ A8 hv5 ed5 => ?_
        · refine w_cells A3.r0 (w_at A3.r0 ⟨_, rfl, w_cells A3.r0 ⟨_, rfl, _, if_pos cl, ?_⟩⟩)
          obtain ⟨y, e⟩ := ix_any cs (i := ((k + 1 : Nat) : Int) % ((dI cs).length : Nat)) (Int.emod_nonneg _ (by omega)) (by
            have := Int.emod_lt_of_pos ((k + 1 : Nat) : Int) cl
            simpa [dI] using this)
          exact ⟨_, e, y, rfl⟩
        obtain ⟨y5, rfl⟩ := ed5
        have A9 := A8.set (i := 3) (by decide) rfl (hv5 rfl)
        dsimp only [gName, tSeq, sDPut]
        refine A9.E (Qd := fun d _ => ∃ y, d = .int y) ?_ fun H6 v6 d6 _ A10 hv6 ed6 => ?_
        · exact w_sum A9.r0 ⟨_, mul_r (by decide), _, _, rfl, rfl, _, rfl, _, mod_i (by decide), _, rfl, w_at A9.r0 ⟨_, mul_l (by decide), _, rfl, _, rfl, _, mod_i (by decide), _, rfl⟩⟩
        obtain ⟨y6, rfl⟩ := ed6
        cases hv6 rfl (fun _ => False) H6
        refine ⟨_, A10.s0, a, _, rfl, DPut.k (k := .inr "sum") A10.sv.hm (by show 4 < sizeLine; decide), ?_⟩
        have A11 := A10.putSum (z := y6)
        dsimp only [tRet]
        refine A11.E (Qd := fun d _ => ∃ n, 0 ≤ n ∧ n < t ∧ d = .int n) ?_ fun H8 v8 d8 _ A14 hv8 ed8 => ?_
        · exact w_sum A11.r0 ⟨_, mul_r (by decide), w_at A11.r0 ⟨_, rfl, _, rfl, _, mod_i (by decide), _, fdv_i (by decide) (by decide), _, _, rfl, rfl, _, mod_i ht0, _, Int.emod_nonneg _ (by omega), Int.emod_lt_of_pos _ ht0, rfl⟩⟩
        obtain ⟨n, h0, h1, rfl⟩ := ed8
        cases hv8 rfl (fun _ => False) H8
        exact fin A14 (by omega) n h0 h1
end Pf

namespace Pf
open PySem L2 HW
abbrev sBegun : Stmt := topS 32
abbrev nBegun : List Str := ["script", "cells", "cell"]
theorem scBegun : FnScope nBegun ["script"] (defScope sBegun) := ⟨rfl, rfl, rfl, by decide +kernel, rfl, by decide +kernel, by decide +kernel⟩
section
variable (K : PySem.W.Frag)
abbrev nCells : WN := nCat (wList (wLook 0)) (wLst (wCons (wC (.int 29)) wNil))
abbrev nLeft : WN := nLc (wItL (wLook 0)) (wTst (wOp geD (wLook 2) (wOp powD (wC (.int 10)) (wC (.int 18))))) (wVar 2) 2 [2]
def tBg : TS := tSeq (tAsg (tN MD K nCells) (gName 1)) (tRet (tDisp [(tC (.str "cells"), tVar 1), (tC (.str "great"), tN MD K nLeft), (tC (.str "turn"), tC (.int 0)), (tC (.str "sum"), tE MD K (wF lenD (wLook 1)))]))
end
theorem left_ok : ∀ (xs acc : List Int) (ρ : List En) (c : Nat), ρ.length = 3 → lcGoN (wTst (wOp geD (wLook 2) (wOp powD (wC (.int 10)) (wC (.int 18))))) (wVar 2) ρ 2 (dI xs) (dI acc) c fun en _ => ∃ ls, en = .ls (dI ls)
  | [], acc, ρ, c, _ => ⟨acc, rfl⟩
  | x :: r, acc, ρ, c, hl => by
    have e1 : (ρ.set 2 (.im (.int x)))[2]? = some (.im (.int x)) := List.getElem?_set_self (by omega)
    refine ⟨_, _, e1, rfl, _, pow_i (by decide), _, rfl, _, rfl, ?_⟩
    generalize decide ((10 : Int) ^ (18 : Int).toNat ≤ x) = b
    cases b with
    | true =>
      refine iteT ⟨_, e1, ?_⟩
      have := left_ok r (acc ++ [x]) ρ c hl
      rw [show dI (acc ++ [x]) = dI acc ++ [.int x] by simp [dI]] at this
      exact this
    | false => exact iteF (left_ok r acc ρ c hl)
theorem fn_begun {P : Program} {w : World} {K : PySem.W.Frag} {mg : Str → Option Value} {base : Heap} {f : Addr} {fd : FuncData} (hl : mg "list" = none) (hn : mg "len" = none) (F : L2.Fun K "_law_start" "_law_start" sBegun f fd) : FnG P w K mg base CX0 1 f fd ["script"] (begSp K) := by
  refine fnG F scBegun (fun vs H Q E ⟨w, v, xs, e, _⟩ => by rw [e]; rfl) fun cdv A outer s H vs Q E gds room h => ?_
  refine ⟨tBg K, PSs.nox ?bd, ?gg⟩
  case bd =>
    exact pss_cons (ps_set (i := 1) scBegun.nd rfl (Or.inl rfl) (n_cat (M := MD) (toB (e_list rfl rfl hl (b_var (pv 0)))) (toB (e_lst (a_cons e_int a_nil)))))
      (pss_one (ps_ret (pe_disp (pps_cons pe_str (pv 1) (pps_cons pe_str (n_lc (own := [("cell", 2)]) (by decide) rfl scBegun.nd (i_listS (b_var (pv 0))) (blkOk_by (own := [("cell", 2)]) (N := nBegun) (sc := defScope sBegun) (by decide +kernel))
      (fun _ _ _ _ _ => pg_name (i := 2) scBegun.nd rfl (Or.inl rfl)) (fun _ _ _ _ _ => ts_one (t_cmp op_ge d_ge (nomark _) (b_var (pv 2)) (toB (e_op op_pow d_pow (toB e_int) (toB e_int))))) (fun _ _ _ _ _ => e_var (pv 2)) (by intro _; rfl)) (pps_cons pe_str pe_int (pps_cons pe_str (e_fn (M := MD) o_len d_len rfl hn bt_len (b_var (pv 1))) pps_nil)))) rfl rfl (by decide) (by decide))))
  case gg =>
    obtain ⟨w0, v, xs, rfl, rfl, mo, g, dv, hx, kk⟩ := h
    have a0 : ArgsOk K w0 [v] [.im (.list (dI xs))] := .im dv .nil
    have so := start_ok (N := nBegun) g a0
    have hR := g.r0 mo
    refine ⟨w0, _, fun en _ => en = .ls (dI (xs ++ [29])), rfl, so.ev, g, ⟨_, _, rfl, rfl, _, rfl, by show 1 ≤ LIM; decide, _, _, rfl, rfl, by simp [dI]; have : LIM = 16777216 := rfl; omega, by simp [dI]⟩, fun w1 c1 en s1 g1 hm he fr ed => ?_⟩
    subst ed
    generalize hcs : xs ++ [29] = cs at *
    have cs0 : 0 < cs.length := by rw [← hcs]; simp
    have so1 := so.setNew s1 g1 hm he fr (i := 1)
    obtain ⟨c1', vs, y1, y2, y3, y4, y5⟩ := he
    cases y1
    have y6 := y5.ints
    subst y6
    have c00 : w0.H c1 = none := fr c1 (.inl rfl)
    intro p hp
    have s2 : Stp w1 (w1.own p (.dK [])) := stp_own hp
    have g2 : Gd MD (w1.own p (.dK [])) := gd_own g1 hp
    have ev2 := so1.ev.stp s2 g1
    have pF : ¬ w1.F p := fun f => g1.tf p f hp
    have pR : p ∉ w1.R := r_free g1 hp
    refine ⟨.ref c1, rfl, ?_⟩
    refine ⟨w1.own p (.dK []), _, fun en _ => ∃ ls, en = .ls (dI ls), rfl, ev2, g2, ⟨_, _, rfl, rfl, _, rfl, by simp [dI]; omega, left_ok xs [] _ _ rfl⟩, fun w3 l en s3 g3 hm3 he3 fr3 ed => ?_⟩
    obtain ⟨ls, rfl⟩ := ed
    obtain ⟨l', vs, e1, e2, e3, e4, e5⟩ := he3
    cases e1
    have e6 := e5.ints
    subst e6
    have p1 : (w1.own p (.dK [])).H p = some (.dK []) := upd_same
    have c2 := s2.k _ _ y2 y4
    have c2R := r_up s2 y2 y4
    have c3 := s3.k _ _ c2 c2R
    have c3R := r_up s3 c2 c2R
    have c2F : ¬ (w1.own p (.dK [])).F c1 := y3
    have c3F : ¬ w3.F c1 := fun z => (s3.f2 _ z).elim c2F fun e => by rw [c2] at e; cases e
    have p3 := s3.k _ _ p1 pR
    have p3R := r_up s3 p1 pR
    have p3F : ¬ w3.F p := fun z => (s3.f2 _ z).elim pF fun e => by rw [p1] at e; cases e
    have l0 : (w1.own p (.dK [])).H l = none := fr3 l (.inl rfl)
    have l00 : w0.H l = none := nn s1 (nn s2 l0)
    have p00 : w0.H p = none := nn s1 hp
    have ncl : c1 ≠ l := fun z => by rw [← z, c2] at l0; cases l0
    have npl : p ≠ l := fun z => by rw [← z, p1] at l0; cases l0
    have npc : p ≠ c1 := fun z => by rw [z, y2] at hp; cases hp
    refine ⟨w3, _, fun d _ => ∃ z, d = .int z, rfl, ev2.stp s3 g2, g3, ⟨_, _, rfl, rfl, _, rfl, _, rfl⟩, fun w4 v4 d4 s4 g4 dv4 ed4 => ?_⟩
    obtain ⟨sm, rfl⟩ := ed4
    cases dv4
    have p4 := s4.k _ _ p3 p3R
    have c4 := s4.k _ _ c3 c3R
    have l4 := s4.k _ _ e2 e4
    have c4F : ¬ w4.F c1 := fun z => (s4.f2 _ z).elim c3F fun e => by rw [c3] at e; cases e
    have l4F : ¬ w4.F l := fun z => (s4.f2 _ z).elim e3 fun e => by rw [e2] at e; cases e
    have p4F : ¬ w4.F p := fun z => (s4.f2 _ z).elim p3F fun e => by rw [p3] at e; cases e
    refine ⟨p4, [(.inr "cells", .ref c1), (.inr "great", .ref l), (.inr "turn", .int 0), (.inr "sum", .int sm)], rfl, (by show 4 ≤ 15; decide), ?_⟩
    have s04 := ((s1.trans s2).trans s3).trans s4
    refine kk ⟨w4.F, [p, c1, l], upd w4.H p (.dK [(.inr "cells", .ref c1), (.inr "great", .ref l), (.inr "turn", .int 0), (.inr "sum", .int sm)]), w0.c, some p⟩ p ?_ ?_ rfl rfl
    · refine ⟨s04.f1, s04.f2, fun a o e _ => ?_, fun a e => upd_some (s04.t a e), fun a ha => ?_, fun a e => ?_⟩
      · show upd w4.H p _ a = _
        rw [upd_ne (ne_of_none e p00)]
        exact s04.k a o e (by rw [hR]; simp)
      · have ha : a ∈ [p, c1, l] := ha
        simp only [List.mem_cons, List.not_mem_nil, or_false] at ha
        rcases ha with rfl | rfl | rfl
        · exact .inr p00
        · exact .inr c00
        · exact .inr l00
      · rw [mo] at e; cases e
    · refine ⟨fun a e => ?_, fun e => (by cases e), fun z => z.elim, fun b hb => ?_, fun b f => upd_some (g4.tf b f)⟩
      · cases e
        exact ⟨c1, l, cs, ls, 0, sm, rfl, ⟨upd_same, (upd_ne (Ne.symm npc)).trans c4, (upd_ne (Ne.symm npl)).trans l4, ncl⟩, Nat.zero_le _, cs0⟩
      · have hb : b ∈ [p, c1, l] := hb
        simp only [List.mem_cons, List.not_mem_nil, or_false] at hb
        rcases hb with rfl | rfl | rfl
        · exact ⟨by show upd _ _ _ _ ≠ none; rw [upd_same]; simp, p4F⟩
        · exact ⟨upd_some (by rw [c4]; simp), c4F⟩
        · exact ⟨upd_some (by rw [l4]; simp), l4F⟩
end Pf

namespace Pf
open PySem L2 HW LamX
structure Md (mg : Str → Option Value) : Prop where
  b_ValueError : mg "ValueError" = none
  b_bool : mg "bool" = none
  b_int : mg "int" = none
  b_isinstance : mg "isinstance" = none
  b_len : mg "len" = none
  b_list : mg "list" = none
  b_min : mg "min" = none
  b_range : mg "range" = none
  b_repr : mg "repr" = none
  b_str : mg "str" = none
  b_tuple : mg "tuple" = none
  b_zip : mg "zip" = none
  k_CODE_SIGNS : ∃ t, mg "CODE_SIGNS" = some (.str ("0123456789abcdefghijklmnopqrstuvwxyz" : Str) t)
  k_FIGURES : ∃ t, mg "FIGURES" = some (.str ("0123456789" : Str) t)
  k_MOST_CODE : ∃ t, mg "MOST_CODE" = some (.int 5 t)
  k_MOST_FIGURES : ∃ t, mg "MOST_FIGURES" = some (.int 4 t)
  k_MOST_PAIRS : ∃ t, mg "MOST_PAIRS" = some (.int 40 t)
  k_MOST_PHRASE : ∃ t, mg "MOST_PHRASE" = some (.int 8 t)
  k_MOST_TIME : ∃ t, mg "MOST_TIME" = some (.int 1000 t)
  k_MOST_TOWERS : ∃ t, mg "MOST_TOWERS" = some (.int 40 t)
theorem bt_bool : bootBuiltins "bool" = some (.type "bool") := by decide +kernel
theorem bt_min : bootBuiltins "min" = some (.builtin "min") := by decide +kernel
theorem bt_str : bootBuiltins "str" = some (.type "str") := by decide +kernel
theorem bt_tuple : bootBuiltins "tuple" = some (.type "tuple") := by decide +kernel
abbrev s_is_whole : Stmt := topS 7
abbrev n_is_whole : List Str := ["thing"]
theorem sc_is_whole : FnScope n_is_whole ["thing"] (defScope s_is_whole) := ⟨rfl, rfl, rfl, by decide +kernel, rfl, by decide +kernel, by decide +kernel⟩
def w_is_whole : WS := (wRet (wAndV (wF (isiD "int") (wLook 0)) (wNotV (wF (isiD "bool") (wLook 0)))))
def f_is_whole : FW := fun es c Q => es.length = 1 ∧ wDef n_is_whole w_is_whole es c Q
theorem g_is_whole {P : Program} {w : World} {K : PySem.W.Frag} {mg : Str → Option Value} {base : Heap} {f : Addr} {fd : FuncData} (T : Md mg)  (F : L2.Fun K "is_whole" "is_whole" s_is_whole f fd) : FnG P w K mg base CX0 1 f fd ["thing"] (fnSp MD K f_is_whole) :=
  def_g F sc_is_whole (ws := w_is_whole) (fun cdv A outer s H E w0 gds hr =>
    (s_one (s_ret (e_and (toB (e_isi rfl T.b_isinstance rfl T.b_int bt_int (b_var (pv 0)))) (e_one (e_not (toB (e_isi rfl T.b_isinstance rfl T.b_bool bt_bool (b_var (pv 0))))))))))
    (fun _ _ _ h => h)
abbrev s_is_integer : Stmt := topS 8
abbrev n_is_integer : List Str := ["thing", "least", "most"]
theorem sc_is_integer : FnScope n_is_integer ["thing", "least", "most"] (defScope s_is_integer) := ⟨rfl, rfl, rfl, by decide +kernel, rfl, by decide +kernel, by decide +kernel⟩
def w_is_integer : WS := (wRet (wAndV (wCall f_is_whole (gIm (wVar 0) HW.gNil)) (wChain leAD leAD (wLook 1) (wLook 0) (wLook 2))))
def f_is_integer : FW := fun es c Q => es.length = 3 ∧ wDef n_is_integer w_is_integer es c Q
theorem g_is_integer {P : Program} {w : World} {K : PySem.W.Frag} {mg : Str → Option Value} {base : Heap} {f : Addr} {fd : FuncData} (T : Md mg) (c_is_whole : CalG P w K mg base 1 "is_whole" (fnSp MD K f_is_whole)) (F : L2.Fun K "is_integer" "is_integer" s_is_integer f fd) : FnG P w K mg base CX0 2 f fd ["thing", "least", "most"] (fnSp MD K f_is_integer) :=
  def_g F sc_is_integer (ws := w_is_integer) (fun cdv A outer s H E w0 gds hr =>
    (s_one (s_ret (e_and (toB (e_call c_is_whole hr (by decide) gds rfl (g_im (e_var (pv 0)) g_nil))) (e_one (e_chain o_leA o_leA d_leA d_leA (b_var (pv 1)) (b_var (pv 0)) (b_var (pv 2))))))))
    (fun _ _ _ h => h)
abbrev s_is_tuple : Stmt := topS 9
abbrev n_is_tuple : List Str := ["thing", "least", "most"]
theorem sc_is_tuple : FnScope n_is_tuple ["thing", "least", "most"] (defScope s_is_tuple) := ⟨rfl, rfl, rfl, by decide +kernel, rfl, by decide +kernel, by decide +kernel⟩
def w_is_tuple : WS := (wRet (wAndV (wF (isiD "tuple") (wLook 0)) (wChain leAD leAD (wLook 1) (wF lenD (wLook 0)) (wLook 2))))
def f_is_tuple : FW := fun es c Q => es.length = 3 ∧ wDef n_is_tuple w_is_tuple es c Q
theorem g_is_tuple {P : Program} {w : World} {K : PySem.W.Frag} {mg : Str → Option Value} {base : Heap} {f : Addr} {fd : FuncData} (T : Md mg)  (F : L2.Fun K "is_tuple" "is_tuple" s_is_tuple f fd) : FnG P w K mg base CX0 1 f fd ["thing", "least", "most"] (fnSp MD K f_is_tuple) :=
  def_g F sc_is_tuple (ws := w_is_tuple) (fun cdv A outer s H E w0 gds hr =>
    (s_one (s_ret (e_and (toB (e_isi rfl T.b_isinstance rfl T.b_tuple bt_tuple (b_var (pv 0)))) (e_one (e_chain o_leA o_leA d_leA d_leA (b_var (pv 1)) (toB (e_fn o_len d_len rfl T.b_len bt_len (b_var (pv 0)))) (b_var (pv 2))))))))
    (fun _ _ _ h => h)
abbrev s_is_word : Stmt := topS 10
abbrev n_is_word : List Str := ["thing", "signs"]
theorem sc_is_word : FnScope n_is_word ["thing", "signs"] (defScope s_is_word) := ⟨rfl, rfl, rfl, by decide +kernel, rfl, by decide +kernel, by decide +kernel⟩
def w_is_word : WS := (wRet (wAndV (wF (isiD "str") (wLook 0)) (wAndV (wOp neD (wLook 0) (wC (.str ""))) (wOp eqD (wMS scD (wLook 0) (wLook 1)) (wC (.str ""))))))
def f_is_word : FW := fun es c Q => es.length = 2 ∧ wDef n_is_word w_is_word es c Q
theorem g_is_word {P : Program} {w : World} {K : PySem.W.Frag} {mg : Str → Option Value} {base : Heap} {f : Addr} {fd : FuncData} (T : Md mg)  (F : L2.Fun K "is_word" "is_word" s_is_word f fd) : FnG P w K mg base CX0 1 f fd ["thing", "signs"] (fnSp MD K f_is_word) :=
  def_g F sc_is_word (ws := w_is_word) (fun cdv A outer s H E w0 gds hr =>
    (s_one (s_ret (e_and (toB (e_isi rfl T.b_isinstance rfl T.b_str bt_str (b_var (pv 0)))) (e_and (toB (e_cmp (op_neD hr.units) d_ne (nomark _) (b_var (pv 0)) (toB e_str))) (e_one (e_cmp (op_eqD hr.units) d_eq (nomark _) (toB (e_ms PySem.F.slot_str_strip PySem.F.type_str_strip mt_stripChars d_sc (b_var (pv 0)) (b_var (pv 1)))) (toB e_str))))))))
    (fun _ _ _ h => h)
abbrev s_is_short_word : Stmt := topS 11
abbrev n_is_short_word : List Str := ["thing", "signs", "most"]
theorem sc_is_short_word : FnScope n_is_short_word ["thing", "signs", "most"] (defScope s_is_short_word) := ⟨rfl, rfl, rfl, by decide +kernel, rfl, by decide +kernel, by decide +kernel⟩
def w_is_short_word : WS := (wRet (wAndV (wCall f_is_word (gIm (wVar 0) (gIm (wVar 1) HW.gNil))) (wOp leAD (wF lenD (wLook 0)) (wLook 2))))
def f_is_short_word : FW := fun es c Q => es.length = 3 ∧ wDef n_is_short_word w_is_short_word es c Q
theorem g_is_short_word {P : Program} {w : World} {K : PySem.W.Frag} {mg : Str → Option Value} {base : Heap} {f : Addr} {fd : FuncData} (T : Md mg) (c_is_word : CalG P w K mg base 1 "is_word" (fnSp MD K f_is_word)) (F : L2.Fun K "is_short_word" "is_short_word" s_is_short_word f fd) : FnG P w K mg base CX0 2 f fd ["thing", "signs", "most"] (fnSp MD K f_is_short_word) :=
  def_g F sc_is_short_word (ws := w_is_short_word) (fun cdv A outer s H E w0 gds hr =>
    (s_one (s_ret (e_and (toB (e_call c_is_word hr (by decide) gds rfl (g_im (e_var (pv 0)) (g_im (e_var (pv 1)) g_nil)))) (e_one (e_cmp o_leA d_leA (nomark _) (toB (e_fn o_len d_len rfl T.b_len bt_len (b_var (pv 0)))) (b_var (pv 2))))))))
    (fun _ _ _ h => h)
abbrev s_read_number : Stmt := topS 12
abbrev n_read_number : List Str := ["word", "most"]
theorem sc_read_number : FnScope n_read_number ["word", "most"] (defScope s_read_number) := ⟨rfl, rfl, rfl, by decide +kernel, rfl, by decide +kernel, by decide +kernel⟩
def w_read_number : WS := (wSeq (wIf (wNot (wTru (wCall f_is_short_word (gIm (wVar 0) (gIm (wC (.str "0123456789")) (gIm (wVar 1) HW.gNil)))))) (wRet (wC .none)) wNext)
    (wSeq (wIf (wAnd (wTst (wOp eqD (wOp ixD (wLook 0) (wC (.int 0))) (wC (.str "0")))) (wTst (wOp neD (wLook 0) (wC (.str "0"))))) (wRet (wC .none)) wNext)
    (wRet (wF intSD (wLook 0)))))
def f_read_number : FW := fun es c Q => es.length = 2 ∧ wDef n_read_number w_read_number es c Q
theorem g_read_number {P : Program} {w : World} {K : PySem.W.Frag} {mg : Str → Option Value} {base : Heap} {f : Addr} {fd : FuncData} (T : Md mg) (c_is_short_word : CalG P w K mg base 2 "is_short_word" (fnSp MD K f_is_short_word)) (F : L2.Fun K "read_number" "read_number" s_read_number f fd) : FnG P w K mg base CX0 3 f fd ["word", "most"] (fnSp MD K f_read_number) :=
  def_g F sc_read_number (ws := w_read_number) (fun cdv A outer s H E w0 gds hr =>
    (s_cons (s_if (t_not (t_tru (toB (e_call c_is_short_word hr (by decide) gds rfl (g_im (e_var (pv 0)) (g_im (e_gstr rfl T.k_FIGURES) (g_im (e_var (pv 1)) g_nil))))))) (s_one (s_ret e_non)) s_nil)
      (s_cons (s_if (PW.pt (t_and (t_cmp (op_eqD hr.units) d_eq (nomark _) (toB (e_ix o_ix d_ix (b_var (pv 0)) (toB e_int) (fun _ _ => rfl))) (toB e_str)) (t_and1 (t_cmp (op_neD hr.units) d_ne (nomark _) (b_var (pv 0)) (toB e_str))))) (s_one (s_ret e_non)) s_nil)
      (s_one (s_ret (e_fnT call_int_str d_intS rfl T.b_int bt_int (b_var (pv 0))))))))
    (fun _ _ _ h => h)
abbrev s_is_pair : Stmt := topS 18
abbrev n_is_pair : List Str := ["thing"]
theorem sc_is_pair : FnScope n_is_pair ["thing"] (defScope s_is_pair) := ⟨rfl, rfl, rfl, by decide +kernel, rfl, by decide +kernel, by decide +kernel⟩
def w_is_pair : WS := (wSeq (wIf (wNot (wTru (wCall f_is_tuple (gIm (wVar 0) (gIm (wC (.int 2)) (gIm (wC (.int 2)) HW.gNil)))))) (wRet (wC (.bool false))) wNext)
    (wRet (wAndV (wCall f_is_short_word (gIm (wOp ixD (wLook 0) (wC (.int 0))) (gIm (wC (.str "0123456789abcdefghijklmnopqrstuvwxyz")) (gIm (wC (.int 8)) HW.gNil)))) (wCall f_is_short_word (gIm (wOp ixD (wLook 0) (wC (.int 1))) (gIm (wC (.str "0123456789abcdefghijklmnopqrstuvwxyz")) (gIm (wC (.int 5)) HW.gNil)))))))
def f_is_pair : FW := fun es c Q => es.length = 1 ∧ wDef n_is_pair w_is_pair es c Q
theorem g_is_pair {P : Program} {w : World} {K : PySem.W.Frag} {mg : Str → Option Value} {base : Heap} {f : Addr} {fd : FuncData} (T : Md mg) (c_is_tuple : CalG P w K mg base 1 "is_tuple" (fnSp MD K f_is_tuple)) (c_is_short_word : CalG P w K mg base 2 "is_short_word" (fnSp MD K f_is_short_word)) (F : L2.Fun K "is_pair" "is_pair" s_is_pair f fd) : FnG P w K mg base CX0 3 f fd ["thing"] (fnSp MD K f_is_pair) :=
  def_g F sc_is_pair (ws := w_is_pair) (fun cdv A outer s H E w0 gds hr =>
    (s_cons (s_if (t_not (t_tru (toB (e_call c_is_tuple hr (by decide) gds rfl (g_im (e_var (pv 0)) (g_im e_int (g_im e_int g_nil))))))) (s_one (s_ret e_bl)) s_nil)
      (s_one (s_ret (e_and (toB (e_call c_is_short_word hr (by decide) gds rfl (g_im (e_ix o_ix d_ix (b_var (pv 0)) (toB e_int) (fun _ _ => rfl)) (g_im (e_gstr rfl T.k_CODE_SIGNS) (g_im (e_gint rfl T.k_MOST_PHRASE) g_nil))))) (e_one (e_call c_is_short_word hr (by decide) gds rfl (g_im (e_ix o_ix d_ix (b_var (pv 0)) (toB e_int) (fun _ _ => rfl)) (g_im (e_gstr rfl T.k_CODE_SIGNS) (g_im (e_gint rfl T.k_MOST_CODE) g_nil))))))))))
    (fun _ _ _ h => h)
abbrev s_need_book : Stmt := topS 17
abbrev n_need_book : List Str := ["thing", "phrases", "codes", "number", "phrase", "code"]
theorem sc_need_book : FnScope n_need_book ["thing"] (defScope s_need_book) := ⟨rfl, rfl, rfl, by decide +kernel, rfl, by decide +kernel, by decide +kernel⟩
def w_need_book (R : XR) : WS := (wSeq (wIf (wNot (wTru (wCall f_is_tuple (gIm (wVar 0) (gIm (wC (.int 1)) (gIm (wC (.int 40)) HW.gNil)))))) (wRaise "BadBook" (some "number") (wC .none) (fun x _ c => R x c)) wNext)
    (wSeq (wOwn 1 nDc)
    (wSeq (wOwn 2 nDc)
    (wSeq (wFor (wRng (wF lenD (wLook 0))) (gN 3) (wSeq (wIf (wNot (wTru (wCall f_is_pair (gIm (wOp ixD (wLook 0) (wLook 3)) HW.gNil)))) (wRaise "BadBook" (some "number") (wVar 3) (fun x _ c => R x c)) wNext)
    (wSeq (wAsg (wOp ixD (wLook 0) (wLook 3)) (gT [4, 5]))
    (wSeq (wIf (wOr (wTst (wInK false (wLook 4) (wLook 1))) (wTst (wInK false (wLook 5) (wLook 2)))) (wRaise "BadBook" (some "number") (wVar 3) (fun x _ c => R x c)) wNext)
    (wSeq (wDput 1 (wC (.bool true)) (wLook 4))
    (wDput 2 (wC (.bool true)) (wLook 5)))))))
    (wRet (wVar 0))))))
def f_need_book : XR → FW := fun R es c Q => es.length = 1 ∧ wDef n_need_book (w_need_book R) es c Q
theorem g_need_book {P : Program} {w : World} {K : PySem.W.Frag} {mg : Str → Option Value} {base : Heap} {f : Addr} {fd : FuncData} (T : Md mg) (c_is_tuple : CalG P w K mg base 1 "is_tuple" (fnSp MD K f_is_tuple)) (c_is_pair : CalG P w K mg base 3 "is_pair" (fnSp MD K f_is_pair)) (x_BadBook : XcOk P w K mg base 1 "BadBook" (some "number")) (F : L2.Fun K "need_book" "need_book" s_need_book f fd) : FnG P w K mg base (L2.CX P w) 4 f fd ["thing"] (fnSpX MD K mg f_need_book) :=
  def_gX F sc_need_book (ws := w_need_book) (fun cdv A outer s H E w0 R gds hr tk =>
    (s_cons (s_if (t_not (t_tru (toB (e_call c_is_tuple hr (by decide) gds rfl (g_im (e_var (pv 0)) (g_im e_int (g_im (e_gint rfl T.k_MOST_PAIRS) g_nil))))))) (s_one (s_raise1 x_BadBook tk hr (by decide) rfl rfl e_non)) s_nil)
      (s_cons (s_own (i := 1) sc_need_book.nd rfl (by first | exact Or.inl rfl | exact Or.inr rfl) (n_dict (.inl rfl)))
      (s_cons (s_own (i := 2) sc_need_book.nd rfl (by first | exact Or.inl rfl | exact Or.inr rfl) (n_dict (.inl rfl)))
      (s_cons (s_for (passes_of rfl) rfl (i_rng rfl T.b_range (toB (e_fn o_len d_len rfl T.b_len bt_len (b_var (pv 0))))) (pg_name (i := 3) sc_need_book.nd rfl (by first | exact Or.inl rfl | exact Or.inr rfl)) tg_name (s_cons (s_if (t_not (t_tru (toB (e_call c_is_pair hr (by decide) gds rfl (g_im (e_ix o_ix d_ix (b_var (pv 0)) (b_var (pv 3)) (fun _ _ => rfl)) g_nil))))) (s_one (s_raise1 x_BadBook tk hr (by decide) rfl rfl (e_var (pv 3)))) s_nil)
      (s_cons (s_asg (e_ix o_ix d_ix (b_var (pv 0)) (b_var (pv 3)) (fun _ _ => rfl)) (pg_tup rfl (pgs_cons (pg_name (i := 4) sc_need_book.nd rfl (by first | exact Or.inl rfl | exact Or.inr rfl)) (pgs_cons (pg_name (i := 5) sc_need_book.nd rfl (by first | exact Or.inl rfl | exact Or.inr rfl)) pgs_nil))) (tg_tup (is := [4, 5])))
      (s_cons (s_if (PW.pt (t_or (t_inK (hu_of hr) (b_var (pv 4)) (b_var (pv 1))) (t_or1 (t_inK (hu_of hr) (b_var (pv 5)) (b_var (pv 2)))))) (s_one (s_raise1 x_BadBook tk hr (by decide) rfl rfl (e_var (pv 3)))) s_nil)
      (s_cons (s_dput (hu_of hr) (pv 1) (b_var (pv 4)) e_bl)
      (s_one (s_dput (hu_of hr) (pv 2) (b_var (pv 5)) e_bl)))))))
      (s_one (s_ret (e_var (pv 0)))))))))
    (fun _ _ _ _ h => h)
abbrev s_is_triple : Stmt := topS 23
abbrev n_is_triple : List Str := ["thing", "see", "hold", "answer"]
theorem sc_is_triple : FnScope n_is_triple ["thing"] (defScope s_is_triple) := ⟨rfl, rfl, rfl, by decide +kernel, rfl, by decide +kernel, by decide +kernel⟩
def w_is_triple : WS := (wSeq (wIf (wNot (wTru (wCall f_is_tuple (gIm (wVar 0) (gIm (wC (.int 3)) (gIm (wC (.int 3)) HW.gNil)))))) (wRet (wC (.bool false))) wNext)
    (wSeq (wAsg (wVar 0) (gT [1, 2, 3]))
    (wRet (wAndV (wCall f_is_integer (gIm (wVar 1) (gIm (wC (.int 0)) (gIm (wC (.int 1000)) HW.gNil)))) (wAndV (wCall f_is_integer (gIm (wVar 2) (gIm (wC (.int 1)) (gIm (wC (.int 1000)) HW.gNil)))) (wCall f_is_integer (gIm (wVar 3) (gIm (wC (.int 0)) (gIm (wC (.int 1000)) HW.gNil)))))))))
def f_is_triple : FW := fun es c Q => es.length = 1 ∧ wDef n_is_triple w_is_triple es c Q
theorem g_is_triple {P : Program} {w : World} {K : PySem.W.Frag} {mg : Str → Option Value} {base : Heap} {f : Addr} {fd : FuncData} (T : Md mg) (c_is_tuple : CalG P w K mg base 1 "is_tuple" (fnSp MD K f_is_tuple)) (c_is_integer : CalG P w K mg base 2 "is_integer" (fnSp MD K f_is_integer)) (F : L2.Fun K "is_triple" "is_triple" s_is_triple f fd) : FnG P w K mg base CX0 3 f fd ["thing"] (fnSp MD K f_is_triple) :=
  def_g F sc_is_triple (ws := w_is_triple) (fun cdv A outer s H E w0 gds hr =>
    (s_cons (s_if (t_not (t_tru (toB (e_call c_is_tuple hr (by decide) gds rfl (g_im (e_var (pv 0)) (g_im e_int (g_im e_int g_nil))))))) (s_one (s_ret e_bl)) s_nil)
      (s_cons (s_asg (e_var (pv 0)) (pg_tup rfl (pgs_cons (pg_name (i := 1) sc_is_triple.nd rfl (by first | exact Or.inl rfl | exact Or.inr rfl)) (pgs_cons (pg_name (i := 2) sc_is_triple.nd rfl (by first | exact Or.inl rfl | exact Or.inr rfl)) (pgs_cons (pg_name (i := 3) sc_is_triple.nd rfl (by first | exact Or.inl rfl | exact Or.inr rfl)) pgs_nil)))) (tg_tup (is := [1, 2, 3])))
      (s_one (s_ret (e_and (toB (e_call c_is_integer hr (by decide) gds rfl (g_im (e_var (pv 1)) (g_im e_int (g_im (e_gint rfl T.k_MOST_TIME) g_nil))))) (e_and (toB (e_call c_is_integer hr (by decide) gds rfl (g_im (e_var (pv 2)) (g_im e_int (g_im (e_gint rfl T.k_MOST_TIME) g_nil))))) (e_one (e_call c_is_integer hr (by decide) gds rfl (g_im (e_var (pv 3)) (g_im e_int (g_im (e_gint rfl T.k_MOST_TIME) g_nil))))))))))))
    (fun _ _ _ h => h)
abbrev s_need_road : Stmt := topS 22
abbrev n_need_road : List Str := ["thing", "number"]
theorem sc_need_road : FnScope n_need_road ["thing"] (defScope s_need_road) := ⟨rfl, rfl, rfl, by decide +kernel, rfl, by decide +kernel, by decide +kernel⟩
def w_need_road (R : XR) : WS := (wSeq (wIf (wNot (wTru (wCall f_is_tuple (gIm (wVar 0) (gIm (wC (.int 1)) (gIm (wC (.int 40)) HW.gNil)))))) (wRaise "BadRoad" (some "number") (wC .none) (fun x _ c => R x c)) wNext)
    (wSeq (wFor (wRng (wF lenD (wLook 0))) (gN 1) (wIf (wNot (wTru (wCall f_is_triple (gIm (wOp ixD (wLook 0) (wLook 1)) HW.gNil)))) (wRaise "BadRoad" (some "number") (wVar 1) (fun x _ c => R x c)) wNext))
    (wRet (wVar 0))))
def f_need_road : XR → FW := fun R es c Q => es.length = 1 ∧ wDef n_need_road (w_need_road R) es c Q
theorem g_need_road {P : Program} {w : World} {K : PySem.W.Frag} {mg : Str → Option Value} {base : Heap} {f : Addr} {fd : FuncData} (T : Md mg) (c_is_tuple : CalG P w K mg base 1 "is_tuple" (fnSp MD K f_is_tuple)) (c_is_triple : CalG P w K mg base 3 "is_triple" (fnSp MD K f_is_triple)) (x_BadRoad : XcOk P w K mg base 1 "BadRoad" (some "number")) (F : L2.Fun K "need_road" "need_road" s_need_road f fd) : FnG P w K mg base (L2.CX P w) 4 f fd ["thing"] (fnSpX MD K mg f_need_road) :=
  def_gX F sc_need_road (ws := w_need_road) (fun cdv A outer s H E w0 R gds hr tk =>
    (s_cons (s_if (t_not (t_tru (toB (e_call c_is_tuple hr (by decide) gds rfl (g_im (e_var (pv 0)) (g_im e_int (g_im (e_gint rfl T.k_MOST_TOWERS) g_nil))))))) (s_one (s_raise1 x_BadRoad tk hr (by decide) rfl rfl e_non)) s_nil)
      (s_cons (s_for (passes_of rfl) rfl (i_rng rfl T.b_range (toB (e_fn o_len d_len rfl T.b_len bt_len (b_var (pv 0))))) (pg_name (i := 1) sc_need_road.nd rfl (by first | exact Or.inl rfl | exact Or.inr rfl)) tg_name (s_one (s_if (t_not (t_tru (toB (e_call c_is_triple hr (by decide) gds rfl (g_im (e_ix o_ix d_ix (b_var (pv 0)) (b_var (pv 1)) (fun _ _ => rfl)) g_nil))))) (s_one (s_raise1 x_BadRoad tk hr (by decide) rfl rfl (e_var (pv 1)))) s_nil)))
      (s_one (s_ret (e_var (pv 0)))))))
    (fun _ _ _ _ h => h)
abbrev s_road_text : Stmt := topS 26
abbrev n_road_text : List Str := ["road", "see", "hold", "answer"]
theorem sc_road_text : FnScope n_road_text ["road"] (defScope s_road_text) := ⟨rfl, rfl, rfl, by decide +kernel, rfl, by decide +kernel, by decide +kernel⟩
def w_road_text (R : XR) : WS := (wSeq (wDrop (wCallX f_need_road (fun x _ c => R x c) (gIm (wVar 0) HW.gNil)))
    (wRet (wMS joinD (wC (.str "\n")) (wLcT (wItT (wVar 0)) wYes (wJoin [(wF fmtD (wLook 1)), (wC (.str " ")), (wF fmtD (wLook 2)), (wC (.str " ")), (wF fmtD (wLook 3))]) [1, 2, 3] [1, 2, 3]))))
def f_road_text : XR → FW := fun R es c Q => es.length = 1 ∧ wDef n_road_text (w_road_text R) es c Q
theorem g_road_text {P : Program} {w : World} {K : PySem.W.Frag} {mg : Str → Option Value} {base : Heap} {f : Addr} {fd : FuncData} (T : Md mg) (c_need_road : CalX P w K mg base 4 "need_road" (fnSpX MD K mg f_need_road)) (F : L2.Fun K "road_text" "road_text" s_road_text f fd) : FnG P w K mg base (L2.CX P w) 5 f fd ["road"] (fnSpX MD K mg f_road_text) :=
  def_gX F sc_road_text (ws := w_road_text) (fun cdv A outer s H E w0 R gds hr tk =>
    (s_cons (s_exprX (x_call c_need_road tk hr (by decide) gds rfl (g_im (e_var (pv 0)) g_nil)))
      (s_one (s_ret (e_ms PySem.F.slot_str_join PySem.F.type_str_join mt_join d_join (toB e_str) (toB (e_lcT (own := [("see", 1), ("hold", 2), ("answer", 3)]) (js := [1, 2, 3]) (by decide) rfl sc_road_text.nd (i_S (i_tupF (e_var (pv 0)))) (blkOk_by (own := [("see", 1), ("hold", 2), ("answer", 3)]) (N := n_road_text) (sc := defScope s_road_text) (by decide +kernel)) (fun _ _ _ _ _ => pg_tup rfl (pgs_cons (pg_name (i := 1) sc_road_text.nd rfl (Or.inl rfl)) (pgs_cons (pg_name (i := 2) sc_road_text.nd rfl (Or.inl rfl)) (pgs_cons (pg_name (i := 3) sc_road_text.nd rfl (Or.inl rfl)) pgs_nil)))) (fun _ _ _ _ _ => ts_nil) (fun _ _ _ _ _ => (e_joined (ws := [(wF fmtD (wLook 1)), (wC (.str " ")), (wF fmtD (wLook 2)), (wC (.str " ")), (wF fmtD (wLook 3))]) (.cons (e_fmt (b_var (pv 1))) (.cons e_str (.cons (e_fmt (b_var (pv 2))) (.cons e_str (.cons (e_fmt (b_var (pv 3))) .nil))))))))))))))
    (fun _ _ _ _ h => h)
abbrev s_book_text : Stmt := topS 27
abbrev n_book_text : List Str := ["book", "phrase", "code"]
theorem sc_book_text : FnScope n_book_text ["book"] (defScope s_book_text) := ⟨rfl, rfl, rfl, by decide +kernel, rfl, by decide +kernel, by decide +kernel⟩
def w_book_text (R : XR) : WS := (wSeq (wDrop (wCallX f_need_book (fun x _ c => R x c) (gIm (wVar 0) HW.gNil)))
    (wRet (wMS joinD (wC (.str "\n")) (wLcT (wItT (wVar 0)) wYes (wJoin [(wF fmtD (wLook 1)), (wC (.str " ")), (wF fmtD (wLook 2))]) [1, 2] [1, 2]))))
def f_book_text : XR → FW := fun R es c Q => es.length = 1 ∧ wDef n_book_text (w_book_text R) es c Q
theorem g_book_text {P : Program} {w : World} {K : PySem.W.Frag} {mg : Str → Option Value} {base : Heap} {f : Addr} {fd : FuncData} (T : Md mg) (c_need_book : CalX P w K mg base 4 "need_book" (fnSpX MD K mg f_need_book)) (F : L2.Fun K "book_text" "book_text" s_book_text f fd) : FnG P w K mg base (L2.CX P w) 5 f fd ["book"] (fnSpX MD K mg f_book_text) :=
  def_gX F sc_book_text (ws := w_book_text) (fun cdv A outer s H E w0 R gds hr tk =>
    (s_cons (s_exprX (x_call c_need_book tk hr (by decide) gds rfl (g_im (e_var (pv 0)) g_nil)))
      (s_one (s_ret (e_ms PySem.F.slot_str_join PySem.F.type_str_join mt_join d_join (toB e_str) (toB (e_lcT (own := [("phrase", 1), ("code", 2)]) (js := [1, 2]) (by decide) rfl sc_book_text.nd (i_S (i_tupF (e_var (pv 0)))) (blkOk_by (own := [("phrase", 1), ("code", 2)]) (N := n_book_text) (sc := defScope s_book_text) (by decide +kernel)) (fun _ _ _ _ _ => pg_tup rfl (pgs_cons (pg_name (i := 1) sc_book_text.nd rfl (Or.inl rfl)) (pgs_cons (pg_name (i := 2) sc_book_text.nd rfl (Or.inl rfl)) pgs_nil))) (fun _ _ _ _ _ => ts_nil) (fun _ _ _ _ _ => (e_joined (ws := [(wF fmtD (wLook 1)), (wC (.str " ")), (wF fmtD (wLook 2))]) (.cons (e_fmt (b_var (pv 1))) (.cons e_str (.cons (e_fmt (b_var (pv 2))) .nil))))))))))))
    (fun _ _ _ _ h => h)
abbrev s_u_rows_of : Stmt := topS 28
abbrev n_u_rows_of : List Str := ["thing", "row"]
theorem sc_u_rows_of : FnScope n_u_rows_of ["thing"] (defScope s_u_rows_of) := ⟨rfl, rfl, rfl, by decide +kernel, rfl, by decide +kernel, by decide +kernel⟩
def w_u_rows_of (R : XR) : WS := (wSeq (wIf (wNot (wTru (wF (isiD "str") (wLook 0)))) (wRaise "BadText" (some "line") (wC (.int 0)) (fun x _ c => R x c)) wNext)
    (wRet (wLc (wItL (wMS spD (wLook 0) (wC (.str "\n")))) wYes (wF tupD (wMS spD (wLook 1) (wC (.str " ")))) 1 [1])))
def f_u_rows_of : XR → FW := fun R es c Q => es.length = 1 ∧ wDef n_u_rows_of (w_u_rows_of R) es c Q
theorem g_u_rows_of {P : Program} {w : World} {K : PySem.W.Frag} {mg : Str → Option Value} {base : Heap} {f : Addr} {fd : FuncData} (T : Md mg) (x_BadText : XcOk P w K mg base 1 "BadText" (some "line")) (F : L2.Fun K "_rows_of" "_rows_of" s_u_rows_of f fd) : FnG P w K mg base (L2.CX P w) 3 f fd ["thing"] (fnSpX MD K mg f_u_rows_of) :=
  def_gX F sc_u_rows_of (ws := w_u_rows_of) (fun cdv A outer s H E w0 R gds hr tk =>
    (s_cons (s_if (t_not (t_tru (toB (e_isi rfl T.b_isinstance rfl T.b_str bt_str (b_var (pv 0)))))) (s_one (s_raise1 x_BadText tk hr (by decide) rfl rfl e_int)) s_nil)
      (s_one (s_ret (e_lc (own := [("row", 1)]) (j := 1) (by decide) rfl sc_u_rows_of.nd (i_listS (toB (e_ms PySem.F.slot_str_split PySem.F.type_str_split mt_split d_split (b_var (pv 0)) (toB e_str)))) (blkOk_by (own := [("row", 1)]) (N := n_u_rows_of) (sc := defScope s_u_rows_of) (by decide +kernel)) (fun _ _ _ _ _ => pg_name (i := 1) sc_u_rows_of.nd rfl (by first | exact Or.inl rfl | exact Or.inr rfl)) (fun _ _ _ _ _ => ts_nil) (fun _ _ _ _ _ => (e_fnT call_tuple_of d_tup rfl T.b_tuple bt_tuple (toB (e_ms PySem.F.slot_str_split PySem.F.type_str_split mt_split d_split (b_var (pv 1)) (toB e_str))))))))))
    (fun _ _ _ _ h => h)
abbrev s_read_road : Stmt := topS 29
abbrev n_read_road : List Str := ["string", "found", "words", "triple", "word"]
theorem sc_read_road : FnScope n_read_road ["string"] (defScope s_read_road) := ⟨rfl, rfl, rfl, by decide +kernel, rfl, by decide +kernel, by decide +kernel⟩
def w_read_road (R : XR) : WS := (wSeq (wOwn 1 (nLst wNil))
    (wSeq (wFor (wItL (wCall (f_u_rows_of noX) (gIm (wVar 0) HW.gNil))) (gN 2) (wSeq (wSet 3 (wF tupD (wLc (wItT (wVar 2)) wYes (wCall f_read_number (gIm (wVar 4) (gIm (wC (.int 4)) HW.gNil))) 4 [4])))
    (wSeq (wIf (wOr (wTst (wOp eqD (wF lenD (wLook 1)) (wC (.int 40)))) (wNot (wTru (wCall f_is_triple (gIm (wVar 3) HW.gNil))))) (wRaise "BadText" (some "line") (wOp addD (wF lenD (wLook 1)) (wC (.int 1))) (fun x _ c => R x c)) wNext)
    (wAppG 1 (wVar 3)))))
    (wRet (wF tupD (wLook 1)))))
def f_read_road : XR → FW := fun R es c Q => es.length = 1 ∧ wDef n_read_road (w_read_road R) es c Q
theorem g_read_road {P : Program} {w : World} {K : PySem.W.Frag} {mg : Str → Option Value} {base : Heap} {f : Addr} {fd : FuncData} (T : Md mg) (c_u_rows_of : CalX P w K mg base 3 "_rows_of" (fnSpX MD K mg f_u_rows_of)) (c_read_number : CalG P w K mg base 3 "read_number" (fnSp MD K f_read_number)) (c_is_triple : CalG P w K mg base 3 "is_triple" (fnSp MD K f_is_triple)) (x_BadText : XcOk P w K mg base 1 "BadText" (some "line")) (F : L2.Fun K "read_road" "read_road" s_read_road f fd) : FnG P w K mg base (L2.CX P w) 4 f fd ["string"] (fnSpX MD K mg f_read_road) :=
  def_gX F sc_read_road (ws := w_read_road) (fun cdv A outer s H E w0 R gds hr tk =>
    (s_cons (s_own (i := 1) sc_read_road.nd rfl (by first | exact Or.inl rfl | exact Or.inr rfl) (n_lst a_nil))
      (s_cons (s_for (passes_of rfl) rfl (i_listF (e_call (CalX.calm c_u_rows_of fnSpX_calm) hr (by decide) gds rfl (g_im (e_var (pv 0)) g_nil))) (pg_name (i := 2) sc_read_road.nd rfl (by first | exact Or.inl rfl | exact Or.inr rfl)) tg_name (s_cons (s_set (i := 3) sc_read_road.nd rfl (by first | exact Or.inl rfl | exact Or.inr rfl) (e_fnT call_tuple_of d_tup rfl T.b_tuple bt_tuple (toB (e_lc (own := [("word", 4)]) (j := 4) (by decide) rfl sc_read_road.nd (i_S (i_tupF (e_var (pv 2)))) (blkOk_by (own := [("word", 4)]) (N := n_read_road) (sc := defScope s_read_road) (by decide +kernel)) (fun _ _ _ _ _ => pg_name (i := 4) sc_read_road.nd rfl (by first | exact Or.inl rfl | exact Or.inr rfl)) (fun _ _ _ _ _ => ts_nil) (fun _ _ _ _ _ => (e_call c_read_number hr (by decide) gds rfl (g_im (e_var (pv 4)) (g_im (e_gint rfl T.k_MOST_FIGURES) g_nil))))))))
      (s_cons (s_if (PW.pt (t_or (t_cmp (op_eqD hr.units) d_eq (nomark _) (toB (e_fn o_len d_len rfl T.b_len bt_len (b_var (pv 1)))) (toB (e_gint rfl T.k_MOST_TOWERS))) (t_or1 (t_not (t_tru (toB (e_call c_is_triple hr (by decide) gds rfl (g_im (e_var (pv 3)) g_nil)))))))) (s_one (s_raise1 x_BadText tk hr (by decide) rfl rfl (e_op o_add d_add (toB (e_fn o_len d_len rfl T.b_len bt_len (b_var (pv 1)))) (toB e_int)))) s_nil)
      (s_one (s_app (pv 1) (e_var (pv 3)))))))
      (s_one (s_ret (e_fnT call_tuple_of d_tup rfl T.b_tuple bt_tuple (b_var (pv 1))))))))
    (fun _ _ _ _ h => h)
abbrev s_read_book : Stmt := topS 30
abbrev n_read_book : List Str := ["string", "found", "phrases", "codes", "pair"]
theorem sc_read_book : FnScope n_read_book ["string"] (defScope s_read_book) := ⟨rfl, rfl, rfl, by decide +kernel, rfl, by decide +kernel, by decide +kernel⟩
def w_read_book (R : XR) : WS := (wSeq (wOwn 1 (nLst wNil))
    (wSeq (wOwn 2 nDc)
    (wSeq (wOwn 3 nDc)
    (wSeq (wFor (wItL (wCall (f_u_rows_of noX) (gIm (wVar 0) HW.gNil))) (gN 4) (wSeq (wIf (wOr (wTst (wOp eqD (wF lenD (wLook 1)) (wC (.int 40)))) (wOr (wNot (wTru (wCall f_is_pair (gIm (wVar 4) HW.gNil)))) (wOr (wTst (wInK false (wOp ixD (wLook 4) (wC (.int 0))) (wLook 2))) (wTst (wInK false (wOp ixD (wLook 4) (wC (.int 1))) (wLook 3)))))) (wRaise "BadText" (some "line") (wOp addD (wF lenD (wLook 1)) (wC (.int 1))) (fun x _ c => R x c)) wNext)
    (wSeq (wDput 2 (wC (.bool true)) (wOp ixD (wLook 4) (wC (.int 0))))
    (wSeq (wDput 3 (wC (.bool true)) (wOp ixD (wLook 4) (wC (.int 1))))
    (wAppG 1 (wVar 4))))))
    (wRet (wF tupD (wLook 1)))))))
def f_read_book : XR → FW := fun R es c Q => es.length = 1 ∧ wDef n_read_book (w_read_book R) es c Q
theorem g_read_book {P : Program} {w : World} {K : PySem.W.Frag} {mg : Str → Option Value} {base : Heap} {f : Addr} {fd : FuncData} (T : Md mg) (c_u_rows_of : CalX P w K mg base 3 "_rows_of" (fnSpX MD K mg f_u_rows_of)) (c_is_pair : CalG P w K mg base 3 "is_pair" (fnSp MD K f_is_pair)) (x_BadText : XcOk P w K mg base 1 "BadText" (some "line")) (F : L2.Fun K "read_book" "read_book" s_read_book f fd) : FnG P w K mg base (L2.CX P w) 4 f fd ["string"] (fnSpX MD K mg f_read_book) :=
  def_gX F sc_read_book (ws := w_read_book) (fun cdv A outer s H E w0 R gds hr tk =>
    (s_cons (s_own (i := 1) sc_read_book.nd rfl (by first | exact Or.inl rfl | exact Or.inr rfl) (n_lst a_nil))
      (s_cons (s_own (i := 2) sc_read_book.nd rfl (by first | exact Or.inl rfl | exact Or.inr rfl) (n_dict (.inl rfl)))
      (s_cons (s_own (i := 3) sc_read_book.nd rfl (by first | exact Or.inl rfl | exact Or.inr rfl) (n_dict (.inl rfl)))
      (s_cons (s_for (passes_of rfl) rfl (i_listF (e_call (CalX.calm c_u_rows_of fnSpX_calm) hr (by decide) gds rfl (g_im (e_var (pv 0)) g_nil))) (pg_name (i := 4) sc_read_book.nd rfl (by first | exact Or.inl rfl | exact Or.inr rfl)) tg_name (s_cons (s_if (PW.pt (t_or (t_cmp (op_eqD hr.units) d_eq (nomark _) (toB (e_fn o_len d_len rfl T.b_len bt_len (b_var (pv 1)))) (toB (e_gint rfl T.k_MOST_PAIRS))) (t_or (t_not (t_tru (toB (e_call c_is_pair hr (by decide) gds rfl (g_im (e_var (pv 4)) g_nil))))) (t_or (t_inK (hu_of hr) (toB (e_ix o_ix d_ix (b_var (pv 4)) (toB e_int) (fun _ _ => rfl))) (b_var (pv 2))) (t_or1 (t_inK (hu_of hr) (toB (e_ix o_ix d_ix (b_var (pv 4)) (toB e_int) (fun _ _ => rfl))) (b_var (pv 3)))))))) (s_one (s_raise1 x_BadText tk hr (by decide) rfl rfl (e_op o_add d_add (toB (e_fn o_len d_len rfl T.b_len bt_len (b_var (pv 1)))) (toB e_int)))) s_nil)
      (s_cons (s_dput (hu_of hr) (pv 2) (toB (e_ix o_ix d_ix (b_var (pv 4)) (toB e_int) (fun _ _ => rfl))) e_bl)
      (s_cons (s_dput (hu_of hr) (pv 3) (toB (e_ix o_ix d_ix (b_var (pv 4)) (toB e_int) (fun _ _ => rfl))) e_bl)
      (s_one (s_app (pv 1) (e_var (pv 4))))))))
      (s_one (s_ret (e_fnT call_tuple_of d_tup rfl T.b_tuple bt_tuple (b_var (pv 1))))))))))
    (fun _ _ _ _ h => h)
abbrev s_u_law_of : Stmt := topS 34
abbrev n_u_law_of : List Str := ["m", "some"]
theorem sc_u_law_of : FnScope n_u_law_of ["m", "some"] (defScope s_u_law_of) := ⟨rfl, rfl, rfl, by decide +kernel, rfl, by decide +kernel, by decide +kernel⟩
def w_u_law_of_ : WS := (wRet (wOp ixD (wLook 1) (wCall nextW (gSt 0 (gIm (wF lenD (wLook 1)) HW.gNil)))))
def w_u_law_of : WS := w_u_law_of_
def f_u_law_of : FW := fun es c Q => es.length = 2 ∧ wDef n_u_law_of w_u_law_of es c Q
theorem g_u_law_of {P : Program} {w : World} {K : PySem.W.Frag} {mg : Str → Option Value} {base : Heap} {f : Addr} {fd : FuncData} (T : Md mg) (c_u_law_next : CalG P w K mg base 1 "_law_next" (fnSp MD K nextW)) (F : L2.Fun K "_law_of" "_law_of" s_u_law_of f fd) : FnG P w K mg base CX0 2 f fd ["m", "some"] (fnSp MD K f_u_law_of) :=
  def_g F sc_u_law_of (ws := w_u_law_of) (fun cdv A outer s H E w0 gds hr =>
    (s_one (s_ret (e_ix o_ix d_ix (b_var (pv 1)) (toB (e_call c_u_law_next hr (by decide) gds rfl (g_st (pv 0) (g_im (e_fn o_len d_len rfl T.b_len bt_len (b_var (pv 1))) g_nil)))) (fun _ _ => rfl)))))
    (fun _ _ _ h => h)
abbrev s_u_law_road : Stmt := topS 35
abbrev n_u_law_road : List Str := ["m", "most_so", "wide", "found", "k"]
theorem sc_u_law_road : FnScope n_u_law_road ["m", "most_so", "wide"] (defScope s_u_law_road) := ⟨rfl, rfl, rfl, by decide +kernel, rfl, by decide +kernel, by decide +kernel⟩
def w_u_law_road_a : WS := (wOwn 3 (nLst wNil))
def w_u_law_road_baf : WS := (wAppG 3 (wTup (wCons (wCall nextW (gSt 0 (gIm (wVar 2) HW.gNil))) (wCons (wOp addD (wC (.int 1)) (wCall nextW (gSt 0 (gIm (wOp subD (wLook 2) (wC (.int 1))) HW.gNil)))) (wCons (wCall nextW (gSt 0 (gIm (wVar 2) HW.gNil))) wNil)))))
def w_u_law_road_ba : WS := (wFor (wRng (wOp addD (wC (.int 1)) (wCall nextW (gSt 0 (gIm (wVar 1) HW.gNil))))) (gN 4) w_u_law_road_baf)
def w_u_law_road_bb : WS := (wRet (wF tupD (wLook 3)))
def w_u_law_road : WS := (wSeq w_u_law_road_a (wSeq w_u_law_road_ba w_u_law_road_bb))
def f_u_law_road : FW := fun es c Q => es.length = 3 ∧ wDef n_u_law_road w_u_law_road es c Q
theorem g_u_law_road {P : Program} {w : World} {K : PySem.W.Frag} {mg : Str → Option Value} {base : Heap} {f : Addr} {fd : FuncData} (T : Md mg) (c_u_law_next : CalG P w K mg base 1 "_law_next" (fnSp MD K nextW)) (F : L2.Fun K "_law_road" "_law_road" s_u_law_road f fd) : FnG P w K mg base CX0 2 f fd ["m", "most_so", "wide"] (fnSp MD K f_u_law_road) :=
  def_g F sc_u_law_road (ws := w_u_law_road) (fun cdv A outer s H E w0 gds hr =>
    (s_cons (s_own (i := 3) sc_u_law_road.nd rfl (by first | exact Or.inl rfl | exact Or.inr rfl) (n_lst a_nil))
      (s_cons (s_for PassesOwn.never rfl (i_rng rfl T.b_range (toB (e_op o_add d_add (toB e_int) (toB (e_call c_u_law_next hr (by decide) gds rfl (g_st (pv 0) (g_im (e_var (pv 1)) g_nil))))))) (pg_name (i := 4) sc_u_law_road.nd rfl (by first | exact Or.inl rfl | exact Or.inr rfl)) tg_name (s_one (s_app (pv 3) (e_tup (a_cons (e_call c_u_law_next hr (by decide) gds rfl (g_st (pv 0) (g_im (e_var (pv 2)) g_nil))) (a_cons (e_op o_add d_add (toB e_int) (toB (e_call c_u_law_next hr (by decide) gds rfl (g_st (pv 0) (g_im (e_op op_sub d_sub (b_var (pv 2)) (toB e_int)) g_nil))))) (a_cons (e_call c_u_law_next hr (by decide) gds rfl (g_st (pv 0) (g_im (e_var (pv 2)) g_nil))) a_nil)))))))
      (s_one (s_ret (e_fnT call_tuple_of d_tup rfl T.b_tuple bt_tuple (b_var (pv 3))))))))
    (fun _ _ _ h => h)
abbrev s_u_law_word : Stmt := topS 36
abbrev n_u_law_word : List Str := ["m", "most_so", "letters_so", "k"]
theorem sc_u_law_word : FnScope n_u_law_word ["m", "most_so", "letters_so"] (defScope s_u_law_word) := ⟨rfl, rfl, rfl, by decide +kernel, rfl, by decide +kernel, by decide +kernel⟩
def w_u_law_word_ : WS := (wRet (wMS joinD (wC (.str "")) (wLc (wRng (wOp addD (wC (.int 1)) (wCall nextW (gSt 0 (gIm (wVar 1) HW.gNil))))) wYes (wCall f_u_law_of (gSt 0 (gIm (wVar 2) HW.gNil))) 3 [3])))
def w_u_law_word : WS := w_u_law_word_
def f_u_law_word : FW := fun es c Q => es.length = 3 ∧ wDef n_u_law_word w_u_law_word es c Q
theorem g_u_law_word {P : Program} {w : World} {K : PySem.W.Frag} {mg : Str → Option Value} {base : Heap} {f : Addr} {fd : FuncData} (T : Md mg) (c_u_law_next : CalG P w K mg base 1 "_law_next" (fnSp MD K nextW)) (c_u_law_of : CalG P w K mg base 2 "_law_of" (fnSp MD K f_u_law_of)) (F : L2.Fun K "_law_word" "_law_word" s_u_law_word f fd) : FnG P w K mg base CX0 3 f fd ["m", "most_so", "letters_so"] (fnSp MD K f_u_law_word) :=
  def_g F sc_u_law_word (ws := w_u_law_word) (fun cdv A outer s H E w0 gds hr =>
    (s_one (s_ret (e_ms PySem.F.slot_str_join PySem.F.type_str_join mt_join d_join (toB e_str) (toB (e_lc (own := [("k", 3)]) (j := 3) (by decide) rfl sc_u_law_word.nd (i_rng rfl T.b_range (toB (e_op o_add d_add (toB e_int) (toB (e_call c_u_law_next hr (by decide) gds rfl (g_st (pv 0) (g_im (e_var (pv 1)) g_nil))))))) (blkOk_by (own := [("k", 3)]) (N := n_u_law_word) (sc := defScope s_u_law_word) (by decide +kernel)) (fun _ _ _ _ _ => pg_name (i := 3) sc_u_law_word.nd rfl (by first | exact Or.inl rfl | exact Or.inr rfl)) (fun _ _ _ _ _ => ts_nil) (fun _ _ _ _ _ => (e_call c_u_law_of hr (by decide) gds rfl (g_st (pv 0) (g_im (e_var (pv 2)) g_nil))))))))))
    (fun _ _ _ h => h)
abbrev s_u_law_book : Stmt := topS 37
abbrev n_u_law_book : List Str := ["m", "most_so", "letters_so", "signs_so", "phrases_so", "codes_so", "k", "one", "other"]
theorem sc_u_law_book : FnScope n_u_law_book ["m", "most_so", "letters_so", "signs_so"] (defScope s_u_law_book) := ⟨rfl, rfl, rfl, by decide +kernel, rfl, by decide +kernel, by decide +kernel⟩
def w_u_law_book_a : WS := (wParNN 4 5 (nLst wNil) (nLst wNil))
def w_u_law_book_bafa : WS := (wPar 7 8 (wCall f_u_law_word (gSt 0 (gIm (wC (.int 4)) (gIm (wVar 2) HW.gNil)))) (wCall f_u_law_word (gSt 0 (gIm (wC (.int 4)) (gIm (wVar 3) HW.gNil)))))
def w_u_law_book_bafb : WS := (wIf (wAnd (wTst (wOp (inD true) (wLook 7) (wLook 4))) (wTst (wOp (inD true) (wLook 8) (wLook 5)))) (wSeq (wAppG 4 (wVar 7)) (wAppG 5 (wVar 8))) wNext)
def w_u_law_book_ba : WS := (wFor (wRng (wOp addD (wC (.int 1)) (wCall nextW (gSt 0 (gIm (wVar 1) HW.gNil))))) (gN 6) (wSeq w_u_law_book_bafa w_u_law_book_bafb))
def w_u_law_book_bb : WS := (wRet (wTupZip (wLook 4) (wLook 5)))
def w_u_law_book : WS := (wSeq w_u_law_book_a (wSeq w_u_law_book_ba w_u_law_book_bb))
def f_u_law_book : FW := fun es c Q => es.length = 4 ∧ wDef n_u_law_book w_u_law_book es c Q
theorem g_u_law_book {P : Program} {w : World} {K : PySem.W.Frag} {mg : Str → Option Value} {base : Heap} {f : Addr} {fd : FuncData} (T : Md mg) (c_u_law_next : CalG P w K mg base 1 "_law_next" (fnSp MD K nextW)) (c_u_law_word : CalG P w K mg base 3 "_law_word" (fnSp MD K f_u_law_word)) (F : L2.Fun K "_law_book" "_law_book" s_u_law_book f fd) : FnG P w K mg base CX0 4 f fd ["m", "most_so", "letters_so", "signs_so"] (fnSp MD K f_u_law_book) :=
  def_g F sc_u_law_book (ws := w_u_law_book) (fun cdv A outer s H E w0 gds hr =>
    (s_cons (s_parNN (i := 4) (j := 5) rfl sc_u_law_book.nd rfl rfl (by decide) rfl rfl (n_lst a_nil) (n_lst a_nil))
      (s_cons (s_for PassesOwn.never rfl (i_rng rfl T.b_range (toB (e_op o_add d_add (toB e_int) (toB (e_call c_u_law_next hr (by decide) gds rfl (g_st (pv 0) (g_im (e_var (pv 1)) g_nil))))))) (pg_name (i := 6) sc_u_law_book.nd rfl (by first | exact Or.inl rfl | exact Or.inr rfl)) tg_name (s_cons (s_par (i := 7) (j := 8) rfl sc_u_law_book.nd rfl rfl (by decide) rfl rfl (e_call c_u_law_word hr (by decide) gds rfl (g_st (pv 0) (g_im e_int (g_im (e_var (pv 2)) g_nil)))) (e_call c_u_law_word hr (by decide) gds rfl (g_st (pv 0) (g_im e_int (g_im (e_var (pv 3)) g_nil)))))
      (s_one (s_if (PW.pt (t_and (t_cmp o_nin d_in rfl (b_var (pv 7)) (b_var (pv 4))) (t_and1 (t_cmp o_nin d_in rfl (b_var (pv 8)) (b_var (pv 5)))))) (s_cons (s_app (pv 4) (e_var (pv 7)))
      (s_one (s_app (pv 5) (e_var (pv 8))))) s_nil))))
      (s_one (s_ret (e_tupZip rfl rfl T.b_tuple rfl T.b_zip (b_var (pv 4)) (b_var (pv 5))))))))
    (fun _ _ _ h => h)
abbrev s_u_law_road_right : Stmt := topS 38
abbrev n_u_law_road_right : List Str := ["road_so", "due", "one", "triple", "heard"]
theorem sc_u_law_road_right : FnScope n_u_law_road_right ["road_so"] (defScope s_u_law_road_right) := ⟨rfl, rfl, rfl, by decide +kernel, rfl, by decide +kernel, by decide +kernel⟩
def w_u_law_road_right : WS := (wSeq (wSet 1 (wMS joinD (wC (.str "\n")) (wLc (wItT (wVar 0)) wYes (wMS joinD (wC (.str " ")) (wLc (wItT (wVar 3)) wYes (wF reprID (wLook 2)) 2 [2])) 3 [3])))
    (wSeq (wSet 4 (wLst (wCons (wCall (f_road_text noX) (gIm (wVar 0) HW.gNil)) (wCons (wCall (f_read_road noX) (gIm (wVar 1) HW.gNil)) (wCons (wCall (f_road_text noX) (gIm (wVar 0) HW.gNil)) (wCons (wCall (f_read_road noX) (gIm (wVar 1) HW.gNil)) wNil))))))
    (wRet (wOp eqD (wF reprD (wLook 4)) (wF reprD (wRepL (wCons (wVar 1) (wCons (wVar 0) wNil)) (wC (.int 2))))))))
def f_u_law_road_right : FW := fun es c Q => es.length = 1 ∧ wDef n_u_law_road_right w_u_law_road_right es c Q
theorem g_u_law_road_right {P : Program} {w : World} {K : PySem.W.Frag} {mg : Str → Option Value} {base : Heap} {f : Addr} {fd : FuncData} (T : Md mg) (c_read_road : CalX P w K mg base 4 "read_road" (fnSpX MD K mg f_read_road)) (c_road_text : CalX P w K mg base 5 "road_text" (fnSpX MD K mg f_road_text)) (F : L2.Fun K "_law_road_right" "_law_road_right" s_u_law_road_right f fd) : FnG P w K mg base CX0 6 f fd ["road_so"] (fnSp MD K f_u_law_road_right) :=
  def_g F sc_u_law_road_right (ws := w_u_law_road_right) (fun cdv A outer s H E w0 gds hr =>
    (s_cons (s_set (i := 1) sc_u_law_road_right.nd rfl (by first | exact Or.inl rfl | exact Or.inr rfl) (e_ms PySem.F.slot_str_join PySem.F.type_str_join mt_join d_join (toB e_str) (toB (e_lc (own := [("triple", 3)]) (j := 3) (by decide) rfl sc_u_law_road_right.nd (i_S (i_tupF (e_var (pv 0)))) (blkOk_by (own := [("triple", 3)]) (N := n_u_law_road_right) (sc := defScope s_u_law_road_right) (by decide +kernel)) (fun _ _ _ _ _ => pg_name (i := 3) sc_u_law_road_right.nd rfl (by first | exact Or.inl rfl | exact Or.inr rfl)) (fun _ _ _ _ _ => ts_nil) (fun _ _ _ _ _ => (e_ms PySem.F.slot_str_join PySem.F.type_str_join mt_join d_join (toB e_str) (toB (e_lc (own := [("one", 2)]) (j := 2) (by decide) rfl sc_u_law_road_right.nd (i_S (i_tupF (e_var (pv 3)))) (blkOk_in (own := [("one", 2)]) (N := n_u_law_road_right) (by decide +kernel)) (fun _ _ _ _ _ => pg_name (i := 2) sc_u_law_road_right.nd rfl (by first | exact Or.inl rfl | exact Or.inr rfl)) (fun _ _ _ _ _ => ts_nil) (fun _ _ _ _ _ => (e_fnT call_str_int d_reprI rfl T.b_str bt_str (b_var (pv 2))))))))))))
      (s_cons (s_set (i := 4) sc_u_law_road_right.nd rfl (by first | exact Or.inl rfl | exact Or.inr rfl) (e_lst (a_cons (e_call (CalX.calm c_road_text fnSpX_calm) hr (by decide) gds rfl (g_im (e_var (pv 0)) g_nil)) (a_cons (e_call (CalX.calm c_read_road fnSpX_calm) hr (by decide) gds rfl (g_im (e_var (pv 1)) g_nil)) (a_cons (e_call (CalX.calm c_road_text fnSpX_calm) hr (by decide) gds rfl (g_im (e_var (pv 0)) g_nil)) (a_cons (e_call (CalX.calm c_read_road fnSpX_calm) hr (by decide) gds rfl (g_im (e_var (pv 1)) g_nil)) a_nil))))))
      (s_one (s_ret (e_cmp (op_eqD hr.units) d_eq (nomark _) (toB (e_repr hr gds rfl T.b_repr (b_var (pv 4)))) (toB (e_repr hr gds rfl T.b_repr (toB (e_repL (a_cons (e_var (pv 1)) (a_cons (e_var (pv 0)) a_nil)) (toB e_int)))))))))))
    (fun _ _ _ h => h)
abbrev s_u_law_book_right : Stmt := topS 39
abbrev n_u_law_book_right : List Str := ["book_so", "due", "one", "other", "heard"]
theorem sc_u_law_book_right : FnScope n_u_law_book_right ["book_so"] (defScope s_u_law_book_right) := ⟨rfl, rfl, rfl, by decide +kernel, rfl, by decide +kernel, by decide +kernel⟩
def w_u_law_book_right : WS := (wSeq (wSet 1 (wMS joinD (wC (.str "\n")) (wLcT (wItT (wVar 0)) wYes (wOp addD (wOp addD (wLook 2) (wC (.str " "))) (wLook 3)) [2, 3] [2, 3])))
    (wSeq (wSet 4 (wLst (wCons (wCall (f_book_text noX) (gIm (wVar 0) HW.gNil)) (wCons (wCall (f_read_book noX) (gIm (wVar 1) HW.gNil)) (wCons (wCall (f_book_text noX) (gIm (wVar 0) HW.gNil)) (wCons (wCall (f_read_book noX) (gIm (wVar 1) HW.gNil)) wNil))))))
    (wRet (wOp eqD (wF reprD (wLook 4)) (wF reprD (wRepL (wCons (wVar 1) (wCons (wVar 0) wNil)) (wC (.int 2))))))))
def f_u_law_book_right : FW := fun es c Q => es.length = 1 ∧ wDef n_u_law_book_right w_u_law_book_right es c Q
theorem g_u_law_book_right {P : Program} {w : World} {K : PySem.W.Frag} {mg : Str → Option Value} {base : Heap} {f : Addr} {fd : FuncData} (T : Md mg) (c_read_book : CalX P w K mg base 4 "read_book" (fnSpX MD K mg f_read_book)) (c_book_text : CalX P w K mg base 5 "book_text" (fnSpX MD K mg f_book_text)) (F : L2.Fun K "_law_book_right" "_law_book_right" s_u_law_book_right f fd) : FnG P w K mg base CX0 6 f fd ["book_so"] (fnSp MD K f_u_law_book_right) :=
  def_g F sc_u_law_book_right (ws := w_u_law_book_right) (fun cdv A outer s H E w0 gds hr =>
    (s_cons (s_set (i := 1) sc_u_law_book_right.nd rfl (by first | exact Or.inl rfl | exact Or.inr rfl) (e_ms PySem.F.slot_str_join PySem.F.type_str_join mt_join d_join (toB e_str) (toB (e_lcT (own := [("one", 2), ("other", 3)]) (js := [2, 3]) (by decide) rfl sc_u_law_book_right.nd (i_S (i_tupF (e_var (pv 0)))) (blkOk_by (own := [("one", 2), ("other", 3)]) (N := n_u_law_book_right) (sc := defScope s_u_law_book_right) (by decide +kernel)) (fun _ _ _ _ _ => pg_tup rfl (pgs_cons (pg_name (i := 2) sc_u_law_book_right.nd rfl (Or.inl rfl)) (pgs_cons (pg_name (i := 3) sc_u_law_book_right.nd rfl (Or.inl rfl)) pgs_nil))) (fun _ _ _ _ _ => ts_nil) (fun _ _ _ _ _ => (e_op o_add d_add (toB (e_op o_add d_add (b_var (pv 2)) (toB e_str))) (b_var (pv 3))))))))
      (s_cons (s_set (i := 4) sc_u_law_book_right.nd rfl (by first | exact Or.inl rfl | exact Or.inr rfl) (e_lst (a_cons (e_call (CalX.calm c_book_text fnSpX_calm) hr (by decide) gds rfl (g_im (e_var (pv 0)) g_nil)) (a_cons (e_call (CalX.calm c_read_book fnSpX_calm) hr (by decide) gds rfl (g_im (e_var (pv 1)) g_nil)) (a_cons (e_call (CalX.calm c_book_text fnSpX_calm) hr (by decide) gds rfl (g_im (e_var (pv 0)) g_nil)) (a_cons (e_call (CalX.calm c_read_book fnSpX_calm) hr (by decide) gds rfl (g_im (e_var (pv 1)) g_nil)) a_nil))))))
      (s_one (s_ret (e_cmp (op_eqD hr.units) d_eq (nomark _) (toB (e_repr hr gds rfl T.b_repr (b_var (pv 4)))) (toB (e_repr hr gds rfl T.b_repr (toB (e_repL (a_cons (e_var (pv 1)) (a_cons (e_var (pv 0)) a_nil)) (toB e_int)))))))))))
    (fun _ _ _ h => h)
abbrev s_law : Stmt := topS 40
abbrev n_law : List Str := ["script", "m", "lap", "one", "other", "mine", "yours", "great", "k", "road_so", "rows", "book_so"]
theorem sc_law : FnScope n_law ["script"] (defScope s_law) := ⟨rfl, rfl, rfl, by decide +kernel, rfl, by decide +kernel, by decide +kernel⟩
def w_lafa : WS := (wPar 3 4 (wCall f_u_law_road (gSt 1 (gIm (wC (.int 6)) (gIm (wCall f_u_law_of (gSt 1 (gIm (wLst (wCons (wC (.int 3)) (wCons (wC (.int 1001)) wNil))) HW.gNil))) HW.gNil)))) (wCall f_u_law_road (gSt 1 (gIm (wC (.int 2)) (gIm (wC (.int 3)) HW.gNil)))))
def w_lafba : WS := (wIf (wOr (wNot (wTru (wCall f_u_law_road_right (gIm (wVar 3) HW.gNil)))) (wNot (wTru (wCall f_u_law_road_right (gIm (wVar 4) HW.gNil))))) (wRet (wC (.bool false))) wNext)
def w_lafbba : WS := (wIf (wTst (wOp neD (wOp eqD (wCall (f_road_text noX) (gIm (wVar 3) HW.gNil)) (wCall (f_road_text noX) (gIm (wVar 4) HW.gNil))) (wOp eqD (wLook 3) (wLook 4)))) (wRet (wC (.bool false))) wNext)
def w_lafbbba : WS := (wPar 5 6 (wCall f_u_law_book (gSt 1 (gIm (wC (.int 8)) (gIm (wC (.str "abcxyz019")) (gIm (wC (.str "abz09")) HW.gNil))))) (wCall f_u_law_book (gSt 1 (gIm (wC (.int 2)) (gIm (wC (.str "ab")) (gIm (wC (.str "ab")) HW.gNil))))))
def w_lafbbbba : WS := (wIf (wOr (wNot (wTru (wCall f_u_law_book_right (gIm (wVar 5) HW.gNil)))) (wNot (wTru (wCall f_u_law_book_right (gIm (wVar 6) HW.gNil))))) (wRet (wC (.bool false))) wNext)
def w_lafbbbbb : WS := (wIf (wTst (wOp neD (wOp eqD (wCall (f_book_text noX) (gIm (wVar 5) HW.gNil)) (wCall (f_book_text noX) (gIm (wVar 6) HW.gNil))) (wOp eqD (wLook 5) (wLook 6)))) (wRet (wC (.bool false))) wNext)
def w_la : WS := (wFor (wRng (wOp addD (wC (.int 4)) (wOp minD (wF lenD (wLook 0)) (wC (.int 8))))) (gN 2) (wSeq w_lafa (wSeq w_lafba (wSeq w_lafbba (wSeq w_lafbbba (wSeq w_lafbbbba w_lafbbbbb))))))
def w_lba : WS := (wSet 7 (wF tupD (wLc (wRng (wC (.int 40))) wYes (wTup (wCons (wC (.int 1000)) (wCons (wOp subD (wC (.int 1000)) (wLook 8)) (wCons (wVar 8) wNil)))) 8 [8])))
def w_lbba : WS := (wFor (wItT (wTup (wCons (wVar 7) (wCons (wTup (wCons (wTup (wCons (wC (.int 0)) (wCons (wC (.int 1)) (wCons (wC (.int 0)) wNil)))) wNil)) (wCons (wOp repTAD (wTup (wCons (wTup (wCons (wC (.int 0)) (wCons (wC (.int 1)) (wCons (wC (.int 0)) wNil)))) wNil)) (wC (.int 40))) (wCons (wTup (wCons (wTup (wCons (wC (.int 1000)) (wCons (wC (.int 1000)) (wCons (wC (.int 1000)) wNil)))) wNil)) wNil)))))) (gN 9) (wIf (wNot (wTru (wCall f_u_law_road_right (gIm (wVar 9) HW.gNil)))) (wRet (wC (.bool false))) wNext))
def w_lbbba : WS := (wSet 10 (wF tupD (wLc (wRng (wC (.int 40))) wYes (wTup (wCons (wOp addD (wC (.str "p")) (wF reprID (wLook 8))) (wCons (wOp addD (wC (.str "c")) (wF reprID (wLook 8))) wNil))) 8 [8])))
def w_lbbbba : WS := (wFor (wItT (wTup (wCons (wVar 10) (wCons (wTup (wCons (wTup (wCons (wC (.str "a")) (wCons (wC (.str "0")) wNil))) wNil)) (wCons (wTup (wCons (wTup (wCons (wC (.str "abcdefgh")) (wCons (wC (.str "01234")) wNil))) (wCons (wTup (wCons (wC (.str "zzzzzzzz")) (wCons (wC (.str "99999")) wNil))) wNil))) wNil))))) (gN 11) (wIf (wNot (wTru (wCall f_u_law_book_right (gIm (wVar 11) HW.gNil)))) (wRet (wC (.bool false))) wNext))
def w_lbbbbb : WS := (wRet (wOp eqD (wCall (f_book_text noX) (gIm (wTup (wCons (wTup (wCons (wC (.str "ab1")) (wCons (wC (.str "0")) wNil))) (wCons (wTup (wCons (wC (.str "z")) (wCons (wC (.str "zz")) wNil))) wNil))) HW.gNil)) (wC (.str "ab1 0\nz zz"))))
def w_law : WS := (wSeq w_la (wSeq w_lba (wSeq w_lbba (wSeq w_lbbba (wSeq w_lbbbba w_lbbbbb)))))
theorem g_law {P : Program} {w : World} {K : PySem.W.Frag} {mg : Str → Option Value} {base : Heap} {f : Addr} {fd : FuncData} (T : Md mg) (c_begun : CalG P w K mg base 1 "_law_start" (begSp K)) (c_u_law_road : CalG P w K mg base 2 "_law_road" (fnSp MD K f_u_law_road)) (c_u_law_of : CalG P w K mg base 2 "_law_of" (fnSp MD K f_u_law_of)) (c_u_law_road_right : CalG P w K mg base 6 "_law_road_right" (fnSp MD K f_u_law_road_right)) (c_road_text : CalX P w K mg base 5 "road_text" (fnSpX MD K mg f_road_text)) (c_u_law_book : CalG P w K mg base 4 "_law_book" (fnSp MD K f_u_law_book)) (c_u_law_book_right : CalG P w K mg base 6 "_law_book_right" (fnSp MD K f_u_law_book_right)) (c_book_text : CalX P w K mg base 5 "book_text" (fnSpX MD K mg f_book_text)) (F : L2.Fun K "law" "law" s_law f fd)
    (math : ∀ ns : List Int, ns.length ≤ 63 → w_law { nx := fun _ _ => False, rt := fun d _ => d = .bool true } ((startE n_law [.im (.list (dI ns))]).set 1 .st) 0) : FnG P w K mg base CX0 7 f fd ["script"] (lawSp K) := by
  refine fnG F sc_law (fun vs H Q E ⟨v, ns, w, e, _⟩ => by rw [e]; rfl) fun cdv A outer s H vs Q E gds room h => ?_
  refine ⟨tLaw K w_law, PSs.nox ?bd, law_run (by decide) h math⟩
  have hr := room
  refine pss_cons (ps_set (i := 1) sc_law.nd rfl (by first | exact Or.inl rfl | exact Or.inr rfl) (pe_g c_begun room (by decide) gds rfl (pa_cons (pv 0) pa_nil))) (PSs.ex fun w0 => ?_)
  exact (s_cons (s_for PassesOwn.never rfl (i_rng rfl T.b_range (toB (e_op o_add d_add (toB e_int) (toB (e_fn2 (call_min2 rfl) d_min2 rfl T.b_min bt_min (toB (e_fn o_len d_len rfl T.b_len bt_len (b_var (pv 0)))) (toB e_int)))))) (pg_name (i := 2) sc_law.nd rfl (by first | exact Or.inl rfl | exact Or.inr rfl)) tg_name (s_cons (s_par (i := 3) (j := 4) rfl sc_law.nd rfl rfl (by decide) rfl rfl (e_call c_u_law_road hr (by decide) gds rfl (g_st (pv 1) (g_im e_int (g_im (e_call c_u_law_of hr (by decide) gds rfl (g_st (pv 1) (g_im (e_lst (a_cons e_int (a_cons e_int a_nil))) g_nil))) g_nil)))) (e_call c_u_law_road hr (by decide) gds rfl (g_st (pv 1) (g_im e_int (g_im e_int g_nil)))))
    (s_cons (s_if (PW.pt (t_or (t_not (t_tru (toB (e_call c_u_law_road_right hr (by decide) gds rfl (g_im (e_var (pv 3)) g_nil))))) (t_or1 (t_not (t_tru (toB (e_call c_u_law_road_right hr (by decide) gds rfl (g_im (e_var (pv 4)) g_nil)))))))) (s_one (s_ret e_bl)) s_nil)
    (s_cons (s_if (t_cmp (op_neD hr.units) d_ne (nomark _) (toB (e_cmp (op_eqD hr.units) d_eq (nomark _) (toB (e_call (CalX.calm c_road_text fnSpX_calm) hr (by decide) gds rfl (g_im (e_var (pv 3)) g_nil))) (toB (e_call (CalX.calm c_road_text fnSpX_calm) hr (by decide) gds rfl (g_im (e_var (pv 4)) g_nil))))) (toB (e_cmp (op_eqD hr.units) d_eq (nomark _) (b_var (pv 3)) (b_var (pv 4))))) (s_one (s_ret e_bl)) s_nil)
    (s_cons (s_par (i := 5) (j := 6) rfl sc_law.nd rfl rfl (by decide) rfl rfl (e_call c_u_law_book hr (by decide) gds rfl (g_st (pv 1) (g_im e_int (g_im e_str (g_im e_str g_nil))))) (e_call c_u_law_book hr (by decide) gds rfl (g_st (pv 1) (g_im e_int (g_im e_str (g_im e_str g_nil))))))
    (s_cons (s_if (PW.pt (t_or (t_not (t_tru (toB (e_call c_u_law_book_right hr (by decide) gds rfl (g_im (e_var (pv 5)) g_nil))))) (t_or1 (t_not (t_tru (toB (e_call c_u_law_book_right hr (by decide) gds rfl (g_im (e_var (pv 6)) g_nil)))))))) (s_one (s_ret e_bl)) s_nil)
    (s_one (s_if (t_cmp (op_neD hr.units) d_ne (nomark _) (toB (e_cmp (op_eqD hr.units) d_eq (nomark _) (toB (e_call (CalX.calm c_book_text fnSpX_calm) hr (by decide) gds rfl (g_im (e_var (pv 5)) g_nil))) (toB (e_call (CalX.calm c_book_text fnSpX_calm) hr (by decide) gds rfl (g_im (e_var (pv 6)) g_nil))))) (toB (e_cmp (op_eqD hr.units) d_eq (nomark _) (b_var (pv 5)) (b_var (pv 6))))) (s_one (s_ret e_bl)) s_nil))))))))
    (s_cons (s_set (i := 7) sc_law.nd rfl (by first | exact Or.inl rfl | exact Or.inr rfl) (e_fnT call_tuple_of d_tup rfl T.b_tuple bt_tuple (toB (e_lc (own := [("k", 8)]) (j := 8) (by decide) rfl sc_law.nd (i_rng rfl T.b_range (toB e_int)) (blkOk_by (own := [("k", 8)]) (N := n_law) (sc := defScope s_law) (by decide +kernel)) (fun _ _ _ _ _ => pg_name (i := 8) sc_law.nd rfl (by first | exact Or.inl rfl | exact Or.inr rfl)) (fun _ _ _ _ _ => ts_nil) (fun _ _ _ _ _ => (e_tup (a_cons e_int (a_cons (e_op op_sub d_sub (toB e_int) (b_var (pv 8))) (a_cons (e_var (pv 8)) a_nil)))))))))
    (s_cons (s_for PassesOwn.never rfl (i_tupF (e_tup (a_cons (e_var (pv 7)) (a_cons (e_tup (a_cons (e_tup (a_cons e_int (a_cons e_int (a_cons e_int a_nil)))) a_nil)) (a_cons (e_op op_repA d_repTA (toB (e_tup (a_cons (e_tup (a_cons e_int (a_cons e_int (a_cons e_int a_nil)))) a_nil))) (toB e_int)) (a_cons (e_tup (a_cons (e_tup (a_cons e_int (a_cons e_int (a_cons e_int a_nil)))) a_nil)) a_nil)))))) (pg_name (i := 9) sc_law.nd rfl (by first | exact Or.inl rfl | exact Or.inr rfl)) tg_name (s_one (s_if (t_not (t_tru (toB (e_call c_u_law_road_right hr (by decide) gds rfl (g_im (e_var (pv 9)) g_nil))))) (s_one (s_ret e_bl)) s_nil)))
    (s_cons (s_set (i := 10) sc_law.nd rfl (by first | exact Or.inl rfl | exact Or.inr rfl) (e_fnT call_tuple_of d_tup rfl T.b_tuple bt_tuple (toB (e_lc (own := [("k", 8)]) (j := 8) (by decide) rfl sc_law.nd (i_rng rfl T.b_range (toB e_int)) (blkOk_by (own := [("k", 8)]) (N := n_law) (sc := defScope s_law) (by decide +kernel)) (fun _ _ _ _ _ => pg_name (i := 8) sc_law.nd rfl (by first | exact Or.inl rfl | exact Or.inr rfl)) (fun _ _ _ _ _ => ts_nil) (fun _ _ _ _ _ => (e_tup (a_cons (e_op o_add d_add (toB e_str) (toB (e_fnT call_str_int d_reprI rfl T.b_str bt_str (b_var (pv 8))))) (a_cons (e_op o_add d_add (toB e_str) (toB (e_fnT call_str_int d_reprI rfl T.b_str bt_str (b_var (pv 8))))) a_nil))))))))
    (s_cons (s_for PassesOwn.never rfl (i_tupF (e_tup (a_cons (e_var (pv 10)) (a_cons (e_tup (a_cons (e_tup (a_cons e_str (a_cons e_str a_nil))) a_nil)) (a_cons (e_tup (a_cons (e_tup (a_cons e_str (a_cons e_str a_nil))) (a_cons (e_tup (a_cons e_str (a_cons e_str a_nil))) a_nil))) a_nil))))) (pg_name (i := 11) sc_law.nd rfl (by first | exact Or.inl rfl | exact Or.inr rfl)) tg_name (s_one (s_if (t_not (t_tru (toB (e_call c_u_law_book_right hr (by decide) gds rfl (g_im (e_var (pv 11)) g_nil))))) (s_one (s_ret e_bl)) s_nil)))
    (s_one (s_ret (e_cmp (op_eqD hr.units) d_eq (nomark _) (toB (e_call (CalX.calm c_book_text fnSpX_calm) hr (by decide) gds rfl (g_im (e_tup (a_cons (e_tup (a_cons e_str (a_cons e_str a_nil))) (a_cons (e_tup (a_cons e_str (a_cons e_str a_nil))) a_nil))) g_nil))) (toB e_str)))))))))
abbrev s_cBadText : Stmt := inClass (topS 1) 0
theorem sc_cBadText : FnScope ["self", "line"] ["self", "line"] (defScope s_cBadText) := ⟨rfl, rfl, rfl, by decide +kernel, rfl, by decide +kernel, by decide +kernel⟩
theorem i_BadText {P : Program} {w : World} {K : PySem.W.Frag} {mg : Str → Option Value} {base : Heap} {f C : Addr} {fd : FuncData} (T : Md mg) (vV : PySem.W.findCls K (.type "ValueError") (.type "type") "__init__" = some (.val (.builtin "ValueError.__init__"))) (F : L2.Fun K "__init__" "BadText.__init__" s_cBadText f fd) : FnOk P w K mg base CX0 1 f fd ["self", "line"] (spI1 K C "line") :=
  F.ok sc_cBadText (fun vs H Q E ⟨a, v, e, _⟩ => by rw [e]; rfl) (fun cdv A outer s H vs Q E hr h => ⟨tI1 K "line", pss_cons (ps_expr (pe_veinit rfl T.b_ValueError vV (pa_cons (pv 0) (pa_cons (pv 1) pa_nil)))) (pss_one (ps_ost (pv 0) (pv 1))), run_I1 h⟩)
abbrev s_cBadBook : Stmt := inClass (topS 2) 0
theorem sc_cBadBook : FnScope ["self", "number"] ["self", "number"] (defScope s_cBadBook) := ⟨rfl, rfl, rfl, by decide +kernel, rfl, by decide +kernel, by decide +kernel⟩
theorem i_BadBook {P : Program} {w : World} {K : PySem.W.Frag} {mg : Str → Option Value} {base : Heap} {f C : Addr} {fd : FuncData} (T : Md mg) (vV : PySem.W.findCls K (.type "ValueError") (.type "type") "__init__" = some (.val (.builtin "ValueError.__init__"))) (F : L2.Fun K "__init__" "BadBook.__init__" s_cBadBook f fd) : FnOk P w K mg base CX0 1 f fd ["self", "number"] (spI1 K C "number") :=
  F.ok sc_cBadBook (fun vs H Q E ⟨a, v, e, _⟩ => by rw [e]; rfl) (fun cdv A outer s H vs Q E hr h => ⟨tI1 K "number", pss_cons (ps_expr (pe_veinit rfl T.b_ValueError vV (pa_cons (pv 0) (pa_cons (pv 1) pa_nil)))) (pss_one (ps_ost (pv 0) (pv 1))), run_I1 h⟩)
abbrev s_cBadRoad : Stmt := inClass (topS 3) 0
theorem sc_cBadRoad : FnScope ["self", "number"] ["self", "number"] (defScope s_cBadRoad) := ⟨rfl, rfl, rfl, by decide +kernel, rfl, by decide +kernel, by decide +kernel⟩
theorem i_BadRoad {P : Program} {w : World} {K : PySem.W.Frag} {mg : Str → Option Value} {base : Heap} {f C : Addr} {fd : FuncData} (T : Md mg) (vV : PySem.W.findCls K (.type "ValueError") (.type "type") "__init__" = some (.val (.builtin "ValueError.__init__"))) (F : L2.Fun K "__init__" "BadRoad.__init__" s_cBadRoad f fd) : FnOk P w K mg base CX0 1 f fd ["self", "number"] (spI1 K C "number") :=
  F.ok sc_cBadRoad (fun vs H Q E ⟨a, v, e, _⟩ => by rw [e]; rfl) (fun cdv A outer s H vs Q E hr h => ⟨tI1 K "number", pss_cons (ps_expr (pe_veinit rfl T.b_ValueError vV (pa_cons (pv 0) (pa_cons (pv 1) pa_nil)))) (pss_one (ps_ost (pv 0) (pv 1))), run_I1 h⟩)
theorem all_mk {l : PySem.W.OpenLaw} {w : World} {K : PySem.W.Frag} {h : Heap} {mg : Str → Option Value} {fa : Addr} (X : K.In h) (G : h.Ns mainGlobals mg) (hfa : mg "law" = some (.ref fa))
    {f0 : Addr} {od0 an0 : Option Addr} {sl0 : Array (Option Value)} {oc0 kV0 dc0 pm0 cd0 ct0 : Value} (a0 : PySem.W.nsIn K mainGlobals "_law_start" = some (some (.ref f0))) (l0 : K.lookup f0 = some ⟨oc0, od0, .func (PySem.W.fnOf "_law_start" "_law_start" (defArgs sBegun) (defBody sBegun) (defScope sBegun) .none kV0 dc0 pm0 an0 cd0 ct0), sl0⟩) (c0 : PySem.W.codeIn K cd0 "_law_start" = true) (k0 : PySem.W.keepIn K (.ref f0) = true)
    {f1 : Addr} {od1 an1 : Option Addr} {sl1 : Array (Option Value)} {oc1 kV1 dc1 pm1 cd1 ct1 : Value} (a1 : PySem.W.nsIn K mainGlobals "_law_next" = some (some (.ref f1))) (l1 : K.lookup f1 = some ⟨oc1, od1, .func (PySem.W.fnOf "_law_next" "_law_next" (defArgs sNext) (defBody sNext) (defScope sNext) .none kV1 dc1 pm1 an1 cd1 ct1), sl1⟩) (c1 : PySem.W.codeIn K cd1 "_law_next" = true) (k1 : PySem.W.keepIn K (.ref f1) = true)
    {f2 : Addr} {od2 an2 : Option Addr} {sl2 : Array (Option Value)} {oc2 kV2 dc2 pm2 cd2 ct2 : Value} (a2 : PySem.W.nsIn K mainGlobals "is_whole" = some (some (.ref f2))) (l2 : K.lookup f2 = some ⟨oc2, od2, .func (PySem.W.fnOf "is_whole" "is_whole" (defArgs s_is_whole) (defBody s_is_whole) (defScope s_is_whole) .none kV2 dc2 pm2 an2 cd2 ct2), sl2⟩) (c2 : PySem.W.codeIn K cd2 "is_whole" = true) (k2 : PySem.W.keepIn K (.ref f2) = true)
    {f3 : Addr} {od3 an3 : Option Addr} {sl3 : Array (Option Value)} {oc3 kV3 dc3 pm3 cd3 ct3 : Value} (a3 : PySem.W.nsIn K mainGlobals "is_integer" = some (some (.ref f3))) (l3 : K.lookup f3 = some ⟨oc3, od3, .func (PySem.W.fnOf "is_integer" "is_integer" (defArgs s_is_integer) (defBody s_is_integer) (defScope s_is_integer) .none kV3 dc3 pm3 an3 cd3 ct3), sl3⟩) (c3 : PySem.W.codeIn K cd3 "is_integer" = true) (k3 : PySem.W.keepIn K (.ref f3) = true)
    {f4 : Addr} {od4 an4 : Option Addr} {sl4 : Array (Option Value)} {oc4 kV4 dc4 pm4 cd4 ct4 : Value} (a4 : PySem.W.nsIn K mainGlobals "is_tuple" = some (some (.ref f4))) (l4 : K.lookup f4 = some ⟨oc4, od4, .func (PySem.W.fnOf "is_tuple" "is_tuple" (defArgs s_is_tuple) (defBody s_is_tuple) (defScope s_is_tuple) .none kV4 dc4 pm4 an4 cd4 ct4), sl4⟩) (c4 : PySem.W.codeIn K cd4 "is_tuple" = true) (k4 : PySem.W.keepIn K (.ref f4) = true)
    {f5 : Addr} {od5 an5 : Option Addr} {sl5 : Array (Option Value)} {oc5 kV5 dc5 pm5 cd5 ct5 : Value} (a5 : PySem.W.nsIn K mainGlobals "is_word" = some (some (.ref f5))) (l5 : K.lookup f5 = some ⟨oc5, od5, .func (PySem.W.fnOf "is_word" "is_word" (defArgs s_is_word) (defBody s_is_word) (defScope s_is_word) .none kV5 dc5 pm5 an5 cd5 ct5), sl5⟩) (c5 : PySem.W.codeIn K cd5 "is_word" = true) (k5 : PySem.W.keepIn K (.ref f5) = true)
    {f6 : Addr} {od6 an6 : Option Addr} {sl6 : Array (Option Value)} {oc6 kV6 dc6 pm6 cd6 ct6 : Value} (a6 : PySem.W.nsIn K mainGlobals "is_short_word" = some (some (.ref f6))) (l6 : K.lookup f6 = some ⟨oc6, od6, .func (PySem.W.fnOf "is_short_word" "is_short_word" (defArgs s_is_short_word) (defBody s_is_short_word) (defScope s_is_short_word) .none kV6 dc6 pm6 an6 cd6 ct6), sl6⟩) (c6 : PySem.W.codeIn K cd6 "is_short_word" = true) (k6 : PySem.W.keepIn K (.ref f6) = true)
    {f7 : Addr} {od7 an7 : Option Addr} {sl7 : Array (Option Value)} {oc7 kV7 dc7 pm7 cd7 ct7 : Value} (a7 : PySem.W.nsIn K mainGlobals "read_number" = some (some (.ref f7))) (l7 : K.lookup f7 = some ⟨oc7, od7, .func (PySem.W.fnOf "read_number" "read_number" (defArgs s_read_number) (defBody s_read_number) (defScope s_read_number) .none kV7 dc7 pm7 an7 cd7 ct7), sl7⟩) (c7 : PySem.W.codeIn K cd7 "read_number" = true) (k7 : PySem.W.keepIn K (.ref f7) = true)
    {f8 : Addr} {od8 an8 : Option Addr} {sl8 : Array (Option Value)} {oc8 kV8 dc8 pm8 cd8 ct8 : Value} (a8 : PySem.W.nsIn K mainGlobals "is_pair" = some (some (.ref f8))) (l8 : K.lookup f8 = some ⟨oc8, od8, .func (PySem.W.fnOf "is_pair" "is_pair" (defArgs s_is_pair) (defBody s_is_pair) (defScope s_is_pair) .none kV8 dc8 pm8 an8 cd8 ct8), sl8⟩) (c8 : PySem.W.codeIn K cd8 "is_pair" = true) (k8 : PySem.W.keepIn K (.ref f8) = true)
    {f9 : Addr} {od9 an9 : Option Addr} {sl9 : Array (Option Value)} {oc9 kV9 dc9 pm9 cd9 ct9 : Value} (a9 : PySem.W.nsIn K mainGlobals "need_book" = some (some (.ref f9))) (l9 : K.lookup f9 = some ⟨oc9, od9, .func (PySem.W.fnOf "need_book" "need_book" (defArgs s_need_book) (defBody s_need_book) (defScope s_need_book) .none kV9 dc9 pm9 an9 cd9 ct9), sl9⟩) (c9 : PySem.W.codeIn K cd9 "need_book" = true) (k9 : PySem.W.keepIn K (.ref f9) = true)
    {f10 : Addr} {od10 an10 : Option Addr} {sl10 : Array (Option Value)} {oc10 kV10 dc10 pm10 cd10 ct10 : Value} (a10 : PySem.W.nsIn K mainGlobals "is_triple" = some (some (.ref f10))) (l10 : K.lookup f10 = some ⟨oc10, od10, .func (PySem.W.fnOf "is_triple" "is_triple" (defArgs s_is_triple) (defBody s_is_triple) (defScope s_is_triple) .none kV10 dc10 pm10 an10 cd10 ct10), sl10⟩) (c10 : PySem.W.codeIn K cd10 "is_triple" = true) (k10 : PySem.W.keepIn K (.ref f10) = true)
    {f11 : Addr} {od11 an11 : Option Addr} {sl11 : Array (Option Value)} {oc11 kV11 dc11 pm11 cd11 ct11 : Value} (a11 : PySem.W.nsIn K mainGlobals "need_road" = some (some (.ref f11))) (l11 : K.lookup f11 = some ⟨oc11, od11, .func (PySem.W.fnOf "need_road" "need_road" (defArgs s_need_road) (defBody s_need_road) (defScope s_need_road) .none kV11 dc11 pm11 an11 cd11 ct11), sl11⟩) (c11 : PySem.W.codeIn K cd11 "need_road" = true) (k11 : PySem.W.keepIn K (.ref f11) = true)
    {f12 : Addr} {od12 an12 : Option Addr} {sl12 : Array (Option Value)} {oc12 kV12 dc12 pm12 cd12 ct12 : Value} (a12 : PySem.W.nsIn K mainGlobals "road_text" = some (some (.ref f12))) (l12 : K.lookup f12 = some ⟨oc12, od12, .func (PySem.W.fnOf "road_text" "road_text" (defArgs s_road_text) (defBody s_road_text) (defScope s_road_text) .none kV12 dc12 pm12 an12 cd12 ct12), sl12⟩) (c12 : PySem.W.codeIn K cd12 "road_text" = true) (k12 : PySem.W.keepIn K (.ref f12) = true)
    {f13 : Addr} {od13 an13 : Option Addr} {sl13 : Array (Option Value)} {oc13 kV13 dc13 pm13 cd13 ct13 : Value} (a13 : PySem.W.nsIn K mainGlobals "book_text" = some (some (.ref f13))) (l13 : K.lookup f13 = some ⟨oc13, od13, .func (PySem.W.fnOf "book_text" "book_text" (defArgs s_book_text) (defBody s_book_text) (defScope s_book_text) .none kV13 dc13 pm13 an13 cd13 ct13), sl13⟩) (c13 : PySem.W.codeIn K cd13 "book_text" = true) (k13 : PySem.W.keepIn K (.ref f13) = true)
    {f14 : Addr} {od14 an14 : Option Addr} {sl14 : Array (Option Value)} {oc14 kV14 dc14 pm14 cd14 ct14 : Value} (a14 : PySem.W.nsIn K mainGlobals "_rows_of" = some (some (.ref f14))) (l14 : K.lookup f14 = some ⟨oc14, od14, .func (PySem.W.fnOf "_rows_of" "_rows_of" (defArgs s_u_rows_of) (defBody s_u_rows_of) (defScope s_u_rows_of) .none kV14 dc14 pm14 an14 cd14 ct14), sl14⟩) (c14 : PySem.W.codeIn K cd14 "_rows_of" = true) (k14 : PySem.W.keepIn K (.ref f14) = true)
    {f15 : Addr} {od15 an15 : Option Addr} {sl15 : Array (Option Value)} {oc15 kV15 dc15 pm15 cd15 ct15 : Value} (a15 : PySem.W.nsIn K mainGlobals "read_road" = some (some (.ref f15))) (l15 : K.lookup f15 = some ⟨oc15, od15, .func (PySem.W.fnOf "read_road" "read_road" (defArgs s_read_road) (defBody s_read_road) (defScope s_read_road) .none kV15 dc15 pm15 an15 cd15 ct15), sl15⟩) (c15 : PySem.W.codeIn K cd15 "read_road" = true) (k15 : PySem.W.keepIn K (.ref f15) = true)
    {f16 : Addr} {od16 an16 : Option Addr} {sl16 : Array (Option Value)} {oc16 kV16 dc16 pm16 cd16 ct16 : Value} (a16 : PySem.W.nsIn K mainGlobals "read_book" = some (some (.ref f16))) (l16 : K.lookup f16 = some ⟨oc16, od16, .func (PySem.W.fnOf "read_book" "read_book" (defArgs s_read_book) (defBody s_read_book) (defScope s_read_book) .none kV16 dc16 pm16 an16 cd16 ct16), sl16⟩) (c16 : PySem.W.codeIn K cd16 "read_book" = true) (k16 : PySem.W.keepIn K (.ref f16) = true)
    {f17 : Addr} {od17 an17 : Option Addr} {sl17 : Array (Option Value)} {oc17 kV17 dc17 pm17 cd17 ct17 : Value} (a17 : PySem.W.nsIn K mainGlobals "_law_of" = some (some (.ref f17))) (l17 : K.lookup f17 = some ⟨oc17, od17, .func (PySem.W.fnOf "_law_of" "_law_of" (defArgs s_u_law_of) (defBody s_u_law_of) (defScope s_u_law_of) .none kV17 dc17 pm17 an17 cd17 ct17), sl17⟩) (c17 : PySem.W.codeIn K cd17 "_law_of" = true) (k17 : PySem.W.keepIn K (.ref f17) = true)
    {f18 : Addr} {od18 an18 : Option Addr} {sl18 : Array (Option Value)} {oc18 kV18 dc18 pm18 cd18 ct18 : Value} (a18 : PySem.W.nsIn K mainGlobals "_law_road" = some (some (.ref f18))) (l18 : K.lookup f18 = some ⟨oc18, od18, .func (PySem.W.fnOf "_law_road" "_law_road" (defArgs s_u_law_road) (defBody s_u_law_road) (defScope s_u_law_road) .none kV18 dc18 pm18 an18 cd18 ct18), sl18⟩) (c18 : PySem.W.codeIn K cd18 "_law_road" = true) (k18 : PySem.W.keepIn K (.ref f18) = true)
    {f19 : Addr} {od19 an19 : Option Addr} {sl19 : Array (Option Value)} {oc19 kV19 dc19 pm19 cd19 ct19 : Value} (a19 : PySem.W.nsIn K mainGlobals "_law_word" = some (some (.ref f19))) (l19 : K.lookup f19 = some ⟨oc19, od19, .func (PySem.W.fnOf "_law_word" "_law_word" (defArgs s_u_law_word) (defBody s_u_law_word) (defScope s_u_law_word) .none kV19 dc19 pm19 an19 cd19 ct19), sl19⟩) (c19 : PySem.W.codeIn K cd19 "_law_word" = true) (k19 : PySem.W.keepIn K (.ref f19) = true)
    {f20 : Addr} {od20 an20 : Option Addr} {sl20 : Array (Option Value)} {oc20 kV20 dc20 pm20 cd20 ct20 : Value} (a20 : PySem.W.nsIn K mainGlobals "_law_book" = some (some (.ref f20))) (l20 : K.lookup f20 = some ⟨oc20, od20, .func (PySem.W.fnOf "_law_book" "_law_book" (defArgs s_u_law_book) (defBody s_u_law_book) (defScope s_u_law_book) .none kV20 dc20 pm20 an20 cd20 ct20), sl20⟩) (c20 : PySem.W.codeIn K cd20 "_law_book" = true) (k20 : PySem.W.keepIn K (.ref f20) = true)
    {f21 : Addr} {od21 an21 : Option Addr} {sl21 : Array (Option Value)} {oc21 kV21 dc21 pm21 cd21 ct21 : Value} (a21 : PySem.W.nsIn K mainGlobals "_law_road_right" = some (some (.ref f21))) (l21 : K.lookup f21 = some ⟨oc21, od21, .func (PySem.W.fnOf "_law_road_right" "_law_road_right" (defArgs s_u_law_road_right) (defBody s_u_law_road_right) (defScope s_u_law_road_right) .none kV21 dc21 pm21 an21 cd21 ct21), sl21⟩) (c21 : PySem.W.codeIn K cd21 "_law_road_right" = true) (k21 : PySem.W.keepIn K (.ref f21) = true)
    {f22 : Addr} {od22 an22 : Option Addr} {sl22 : Array (Option Value)} {oc22 kV22 dc22 pm22 cd22 ct22 : Value} (a22 : PySem.W.nsIn K mainGlobals "_law_book_right" = some (some (.ref f22))) (l22 : K.lookup f22 = some ⟨oc22, od22, .func (PySem.W.fnOf "_law_book_right" "_law_book_right" (defArgs s_u_law_book_right) (defBody s_u_law_book_right) (defScope s_u_law_book_right) .none kV22 dc22 pm22 an22 cd22 ct22), sl22⟩) (c22 : PySem.W.codeIn K cd22 "_law_book_right" = true) (k22 : PySem.W.keepIn K (.ref f22) = true)
    {f23 : Addr} {od23 an23 : Option Addr} {sl23 : Array (Option Value)} {oc23 kV23 dc23 pm23 cd23 ct23 : Value} (a23 : PySem.W.nsIn K mainGlobals "law" = some (some (.ref f23))) (l23 : K.lookup f23 = some ⟨oc23, od23, .func (PySem.W.fnOf "law" "law" (defArgs s_law) (defBody s_law) (defScope s_law) .none kV23 dc23 pm23 an23 cd23 ct23), sl23⟩) (c23 : PySem.W.codeIn K cd23 "law" = true) (k23 : PySem.W.keepIn K (.ref f23) = true)
    (z0 : PySem.W.nsIn K mainGlobals "ValueError" = some none)
    (z1 : PySem.W.nsIn K mainGlobals "bool" = some none)
    (z2 : PySem.W.nsIn K mainGlobals "int" = some none)
    (z3 : PySem.W.nsIn K mainGlobals "isinstance" = some none)
    (z4 : PySem.W.nsIn K mainGlobals "len" = some none)
    (z5 : PySem.W.nsIn K mainGlobals "list" = some none)
    (z6 : PySem.W.nsIn K mainGlobals "min" = some none)
    (z7 : PySem.W.nsIn K mainGlobals "range" = some none)
    (z8 : PySem.W.nsIn K mainGlobals "repr" = some none)
    (z9 : PySem.W.nsIn K mainGlobals "str" = some none)
    (z10 : PySem.W.nsIn K mainGlobals "tuple" = some none)
    (z11 : PySem.W.nsIn K mainGlobals "zip" = some none)
    {t0 : Tok} (y0 : PySem.W.nsIn K mainGlobals "CODE_SIGNS" = some (some (.str ("0123456789abcdefghijklmnopqrstuvwxyz" : Str) t0)))
    {t1 : Tok} (y1 : PySem.W.nsIn K mainGlobals "FIGURES" = some (some (.str ("0123456789" : Str) t1)))
    {t2 : Tok} (y2 : PySem.W.nsIn K mainGlobals "MOST_CODE" = some (some (.int 5 t2)))
    {t3 : Tok} (y3 : PySem.W.nsIn K mainGlobals "MOST_FIGURES" = some (some (.int 4 t3)))
    {t4 : Tok} (y4 : PySem.W.nsIn K mainGlobals "MOST_PAIRS" = some (some (.int 40 t4)))
    {t5 : Tok} (y5 : PySem.W.nsIn K mainGlobals "MOST_PHRASE" = some (some (.int 8 t5)))
    {t6 : Tok} (y6 : PySem.W.nsIn K mainGlobals "MOST_TIME" = some (some (.int 1000 t6)))
    {t7 : Tok} (y7 : PySem.W.nsIn K mainGlobals "MOST_TOWERS" = some (some (.int 40 t7)))
    (vV : PySem.W.findCls K (.type "ValueError") (.type "type") "__init__" = some (.val (.builtin "ValueError.__init__")))
    {C0 I0 : Addr} {nm0 q0 : Str} {N0 : Addr} {bs0 : List Value} {sn0 : List Str} {sub0 : List Value} {abs0 : Bool} {col0 : Option Bool} {dd0 : Option Addr} {ux0_0 ux1_0 ux2_0 ux3_0 ux5_0 : Option Value}
    (A0 : PySem.W.nsIn K mainGlobals "BadText" = some (some (.ref C0))) (X0 : K.lookup C0 = some (excClassObj nm0 q0 C0 N0 bs0 [.type "ValueError", .type "Exception", .type "BaseException", .type "object"] true sn0 sub0 abs0 col0 dd0 ux0_0 ux1_0 ux2_0 ux3_0 ux5_0 "ValueError.__new__"))
    (S0 : PySem.W.findIn K (.ref C0) "__setattr__" = some (some (.builtin "object.__setattr__"))) (V0 : PySem.W.findIn K (.ref C0) "__getattribute__" = some (some (.builtin "BaseException.__getattribute__"))) (W0 : PySem.W.findIn K (.ref C0) "__getattr__" = some none)
    (B0 : PySem.W.findIn K (.ref C0) "line" = some none)
    (J0 : PySem.W.findIn K (.ref C0) "__init__" = some (some (.ref I0))) (T0 : PySem.W.typeIn K (.ref I0) = some (.type "function"))
    {oi0 kj0 di0 pj0 ci0 ti0 : Value} {pi0 ai0 : Option Addr} {si0 : Array (Option Value)} (L0 : K.lookup I0 = some ⟨oi0, pi0, .func (PySem.W.fnOf "__init__" "BadText.__init__" (defArgs s_cBadText) (defBody s_cBadText) (defScope s_cBadText) .none kj0 di0 pj0 ai0 ci0 ti0), si0⟩) (E0 : PySem.W.codeIn K ci0 "BadText.__init__" = true) (K0 : PySem.W.keepIn K (.ref I0) = true)
    (P0 : PySem.W.keepIn K (.ref C0) = true) (Q0 : PySem.W.subIn K (.ref C0) (.type "BaseException") = some true) (R0 : PySem.W.typeIn K (.ref C0) = some (.type "type")) (H0 : PySem.W.hasDictIn K C0 = true)
    {C1 I1 : Addr} {nm1 q1 : Str} {N1 : Addr} {bs1 : List Value} {sn1 : List Str} {sub1 : List Value} {abs1 : Bool} {col1 : Option Bool} {dd1 : Option Addr} {ux0_1 ux1_1 ux2_1 ux3_1 ux5_1 : Option Value}
    (A1 : PySem.W.nsIn K mainGlobals "BadBook" = some (some (.ref C1))) (X1 : K.lookup C1 = some (excClassObj nm1 q1 C1 N1 bs1 [.type "ValueError", .type "Exception", .type "BaseException", .type "object"] true sn1 sub1 abs1 col1 dd1 ux0_1 ux1_1 ux2_1 ux3_1 ux5_1 "ValueError.__new__"))
    (S1 : PySem.W.findIn K (.ref C1) "__setattr__" = some (some (.builtin "object.__setattr__"))) (V1 : PySem.W.findIn K (.ref C1) "__getattribute__" = some (some (.builtin "BaseException.__getattribute__"))) (W1 : PySem.W.findIn K (.ref C1) "__getattr__" = some none)
    (B1 : PySem.W.findIn K (.ref C1) "number" = some none)
    (J1 : PySem.W.findIn K (.ref C1) "__init__" = some (some (.ref I1))) (T1 : PySem.W.typeIn K (.ref I1) = some (.type "function"))
    {oi1 kj1 di1 pj1 ci1 ti1 : Value} {pi1 ai1 : Option Addr} {si1 : Array (Option Value)} (L1 : K.lookup I1 = some ⟨oi1, pi1, .func (PySem.W.fnOf "__init__" "BadBook.__init__" (defArgs s_cBadBook) (defBody s_cBadBook) (defScope s_cBadBook) .none kj1 di1 pj1 ai1 ci1 ti1), si1⟩) (E1 : PySem.W.codeIn K ci1 "BadBook.__init__" = true) (K1 : PySem.W.keepIn K (.ref I1) = true)
    (P1 : PySem.W.keepIn K (.ref C1) = true) (Q1 : PySem.W.subIn K (.ref C1) (.type "BaseException") = some true) (R1 : PySem.W.typeIn K (.ref C1) = some (.type "type")) (H1 : PySem.W.hasDictIn K C1 = true)
    {C2 I2 : Addr} {nm2 q2 : Str} {N2 : Addr} {bs2 : List Value} {sn2 : List Str} {sub2 : List Value} {abs2 : Bool} {col2 : Option Bool} {dd2 : Option Addr} {ux0_2 ux1_2 ux2_2 ux3_2 ux5_2 : Option Value}
    (A2 : PySem.W.nsIn K mainGlobals "BadRoad" = some (some (.ref C2))) (X2 : K.lookup C2 = some (excClassObj nm2 q2 C2 N2 bs2 [.type "ValueError", .type "Exception", .type "BaseException", .type "object"] true sn2 sub2 abs2 col2 dd2 ux0_2 ux1_2 ux2_2 ux3_2 ux5_2 "ValueError.__new__"))
    (S2 : PySem.W.findIn K (.ref C2) "__setattr__" = some (some (.builtin "object.__setattr__"))) (V2 : PySem.W.findIn K (.ref C2) "__getattribute__" = some (some (.builtin "BaseException.__getattribute__"))) (W2 : PySem.W.findIn K (.ref C2) "__getattr__" = some none)
    (B2 : PySem.W.findIn K (.ref C2) "number" = some none)
    (J2 : PySem.W.findIn K (.ref C2) "__init__" = some (some (.ref I2))) (T2 : PySem.W.typeIn K (.ref I2) = some (.type "function"))
    {oi2 kj2 di2 pj2 ci2 ti2 : Value} {pi2 ai2 : Option Addr} {si2 : Array (Option Value)} (L2 : K.lookup I2 = some ⟨oi2, pi2, .func (PySem.W.fnOf "__init__" "BadRoad.__init__" (defArgs s_cBadRoad) (defBody s_cBadRoad) (defScope s_cBadRoad) .none kj2 di2 pj2 ai2 ci2 ti2), si2⟩) (E2 : PySem.W.codeIn K ci2 "BadRoad.__init__" = true) (K2 : PySem.W.keepIn K (.ref I2) = true)
    (P2 : PySem.W.keepIn K (.ref C2) = true) (Q2 : PySem.W.subIn K (.ref C2) (.type "BaseException") = some true) (R2 : PySem.W.typeIn K (.ref C2) = some (.type "type")) (H2 : PySem.W.hasDictIn K C2 = true)
    (math : ∀ ns : List Int, ns.length ≤ 63 → w_law { nx := fun _ _ => False, rt := fun d _ => d = .bool true } ((startE n_law [.im (.list (dI ns))]).set 1 .st) 0) :
    ∃ fd : FuncData, (∀ (s : Shared) (v : Value), BindsTo s fd ⟨[v], []⟩ [("script", v)]) ∧ ∀ base : Heap, K.In base → base.Ns mainGlobals mg → FnG l.prog w K mg base CX0 7 fa fd ["script"] (lawSp K) := by
  have e := hfa.symm.trans (PySem.W.mg_of X G a23)
  cases e
  have T : Md mg := ⟨PySem.W.mg_none_of X G z0, PySem.W.mg_none_of X G z1, PySem.W.mg_none_of X G z2, PySem.W.mg_none_of X G z3, PySem.W.mg_none_of X G z4, PySem.W.mg_none_of X G z5, PySem.W.mg_none_of X G z6, PySem.W.mg_none_of X G z7, PySem.W.mg_none_of X G z8, PySem.W.mg_none_of X G z9, PySem.W.mg_none_of X G z10, PySem.W.mg_none_of X G z11, ⟨_, PySem.W.mg_of X G y0⟩, ⟨_, PySem.W.mg_of X G y1⟩, ⟨_, PySem.W.mg_of X G y2⟩, ⟨_, PySem.W.mg_of X G y3⟩, ⟨_, PySem.W.mg_of X G y4⟩, ⟨_, PySem.W.mg_of X G y5⟩, ⟨_, PySem.W.mg_of X G y6⟩, ⟨_, PySem.W.mg_of X G y7⟩⟩
  have F0 := fun_mk (st := sBegun) l0 c0 k0
  have F1 := fun_mk (st := sNext) l1 c1 k1
  have F2 := fun_mk (st := s_is_whole) l2 c2 k2
  have F3 := fun_mk (st := s_is_integer) l3 c3 k3
  have F4 := fun_mk (st := s_is_tuple) l4 c4 k4
  have F5 := fun_mk (st := s_is_word) l5 c5 k5
  have F6 := fun_mk (st := s_is_short_word) l6 c6 k6
  have F7 := fun_mk (st := s_read_number) l7 c7 k7
  have F8 := fun_mk (st := s_is_pair) l8 c8 k8
  have F9 := fun_mk (st := s_need_book) l9 c9 k9
  have F10 := fun_mk (st := s_is_triple) l10 c10 k10
  have F11 := fun_mk (st := s_need_road) l11 c11 k11
  have F12 := fun_mk (st := s_road_text) l12 c12 k12
  have F13 := fun_mk (st := s_book_text) l13 c13 k13
  have F14 := fun_mk (st := s_u_rows_of) l14 c14 k14
  have F15 := fun_mk (st := s_read_road) l15 c15 k15
  have F16 := fun_mk (st := s_read_book) l16 c16 k16
  have F17 := fun_mk (st := s_u_law_of) l17 c17 k17
  have F18 := fun_mk (st := s_u_law_road) l18 c18 k18
  have F19 := fun_mk (st := s_u_law_word) l19 c19 k19
  have F20 := fun_mk (st := s_u_law_book) l20 c20 k20
  have F21 := fun_mk (st := s_u_law_road_right) l21 c21 k21
  have F22 := fun_mk (st := s_u_law_book_right) l22 c22 k22
  have F23 := fun_mk (st := s_law) l23 c23 k23
  have b0 := F0.binds (ps := ["script"]) fun _ _ _ _ _ _ us hl => match us, hl with | [_], _ => rfl
  have b1 := F1.binds (ps := ["m", "total"]) fun _ _ _ _ _ _ us hl => match us, hl with | [_, _], _ => rfl
  have b2 := F2.binds (ps := ["thing"]) fun _ _ _ _ _ _ us hl => match us, hl with | [_], _ => rfl
  have b3 := F3.binds (ps := ["thing", "least", "most"]) fun _ _ _ _ _ _ us hl => match us, hl with | [_, _, _], _ => rfl
  have b4 := F4.binds (ps := ["thing", "least", "most"]) fun _ _ _ _ _ _ us hl => match us, hl with | [_, _, _], _ => rfl
  have b5 := F5.binds (ps := ["thing", "signs"]) fun _ _ _ _ _ _ us hl => match us, hl with | [_, _], _ => rfl
  have b6 := F6.binds (ps := ["thing", "signs", "most"]) fun _ _ _ _ _ _ us hl => match us, hl with | [_, _, _], _ => rfl
  have b7 := F7.binds (ps := ["word", "most"]) fun _ _ _ _ _ _ us hl => match us, hl with | [_, _], _ => rfl
  have b8 := F8.binds (ps := ["thing"]) fun _ _ _ _ _ _ us hl => match us, hl with | [_], _ => rfl
  have b9 := F9.binds (ps := ["thing"]) fun _ _ _ _ _ _ us hl => match us, hl with | [_], _ => rfl
  have b10 := F10.binds (ps := ["thing"]) fun _ _ _ _ _ _ us hl => match us, hl with | [_], _ => rfl
  have b11 := F11.binds (ps := ["thing"]) fun _ _ _ _ _ _ us hl => match us, hl with | [_], _ => rfl
  have b12 := F12.binds (ps := ["road"]) fun _ _ _ _ _ _ us hl => match us, hl with | [_], _ => rfl
  have b13 := F13.binds (ps := ["book"]) fun _ _ _ _ _ _ us hl => match us, hl with | [_], _ => rfl
  have b14 := F14.binds (ps := ["thing"]) fun _ _ _ _ _ _ us hl => match us, hl with | [_], _ => rfl
  have b15 := F15.binds (ps := ["string"]) fun _ _ _ _ _ _ us hl => match us, hl with | [_], _ => rfl
  have b16 := F16.binds (ps := ["string"]) fun _ _ _ _ _ _ us hl => match us, hl with | [_], _ => rfl
  have b17 := F17.binds (ps := ["m", "some"]) fun _ _ _ _ _ _ us hl => match us, hl with | [_, _], _ => rfl
  have b18 := F18.binds (ps := ["m", "most_so", "wide"]) fun _ _ _ _ _ _ us hl => match us, hl with | [_, _, _], _ => rfl
  have b19 := F19.binds (ps := ["m", "most_so", "letters_so"]) fun _ _ _ _ _ _ us hl => match us, hl with | [_, _, _], _ => rfl
  have b20 := F20.binds (ps := ["m", "most_so", "letters_so", "signs_so"]) fun _ _ _ _ _ _ us hl => match us, hl with | [_, _, _, _], _ => rfl
  have b21 := F21.binds (ps := ["road_so"]) fun _ _ _ _ _ _ us hl => match us, hl with | [_], _ => rfl
  have b22 := F22.binds (ps := ["book_so"]) fun _ _ _ _ _ _ us hl => match us, hl with | [_], _ => rfl
  have G0 := fun_mk (st := s_cBadText) L0 E0 K0
  have O0 := G0.binds (ps := ["self", "line"]) fun _ _ _ _ _ _ us hl => match us, hl with | [_, _], _ => rfl
  have M0 : OexC K C0 := ⟨⟨_, _, _, _, _, _, _, _, _, _, _, _, _, _, _, X0, by decide +kernel⟩, S0, Q0, R0, P0⟩
  have G1 := fun_mk (st := s_cBadBook) L1 E1 K1
  have O1 := G1.binds (ps := ["self", "number"]) fun _ _ _ _ _ _ us hl => match us, hl with | [_, _], _ => rfl
  have M1 : OexC K C1 := ⟨⟨_, _, _, _, _, _, _, _, _, _, _, _, _, _, _, X1, by decide +kernel⟩, S1, Q1, R1, P1⟩
  have G2 := fun_mk (st := s_cBadRoad) L2 E2 K2
  have O2 := G2.binds (ps := ["self", "number"]) fun _ _ _ _ _ _ us hl => match us, hl with | [_, _], _ => rfl
  have M2 : OexC K C2 := ⟨⟨_, _, _, _, _, _, _, _, _, _, _, _, _, _, _, X2, by decide +kernel⟩, S2, Q2, R2, P2⟩
  refine ⟨PySem.W.fnOf "law" "law" (defArgs s_law) (defBody s_law) (defScope s_law) .none kV23 dc23 pm23 an23 cd23 ct23, fun s v => .of_eq rfl, fun base _ _ => ?_⟩
  have x_BadText : XcOk l.prog w K mg base 1 "BadText" (some "line") := ⟨_, _, _, _, PySem.W.mg_of X G A0, M0, J0, T0, O0, fun g e => by cases e; exact ⟨B0, ⟨V0, W0, Q0, H0⟩⟩, i_BadText T vV G0⟩
  have x_BadBook : XcOk l.prog w K mg base 1 "BadBook" (some "number") := ⟨_, _, _, _, PySem.W.mg_of X G A1, M1, J1, T1, O1, fun g e => by cases e; exact ⟨B1, ⟨V1, W1, Q1, H1⟩⟩, i_BadBook T vV G1⟩
  have x_BadRoad : XcOk l.prog w K mg base 1 "BadRoad" (some "number") := ⟨_, _, _, _, PySem.W.mg_of X G A2, M2, J2, T2, O2, fun g e => by cases e; exact ⟨B2, ⟨V2, W2, Q2, H2⟩⟩, i_BadRoad T vV G2⟩
  have c_begun : CalG l.prog w K mg base 1 "_law_start" (begSp K) := ⟨_, _, _, fn_begun T.b_list T.b_len F0, PySem.W.mg_of X G a0, k0, b0⟩
  have c_u_law_next : CalG l.prog w K mg base 1 "_law_next" (fnSp MD K nextW) := ⟨_, _, _, fn_next ⟨T.b_int, T.b_len⟩ F1, PySem.W.mg_of X G a1, k1, b1⟩
  have c_is_whole : CalG l.prog w K mg base 1 "is_whole" (fnSp MD K f_is_whole) := ⟨_, _, _, g_is_whole T  F2, PySem.W.mg_of X G a2, k2, b2⟩
  have c_is_integer : CalG l.prog w K mg base 2 "is_integer" (fnSp MD K f_is_integer) := ⟨_, _, _, g_is_integer T c_is_whole F3, PySem.W.mg_of X G a3, k3, b3⟩
  have c_is_tuple : CalG l.prog w K mg base 1 "is_tuple" (fnSp MD K f_is_tuple) := ⟨_, _, _, g_is_tuple T  F4, PySem.W.mg_of X G a4, k4, b4⟩
  have c_is_word : CalG l.prog w K mg base 1 "is_word" (fnSp MD K f_is_word) := ⟨_, _, _, g_is_word T  F5, PySem.W.mg_of X G a5, k5, b5⟩
  have c_is_short_word : CalG l.prog w K mg base 2 "is_short_word" (fnSp MD K f_is_short_word) := ⟨_, _, _, g_is_short_word T c_is_word F6, PySem.W.mg_of X G a6, k6, b6⟩
  have c_read_number : CalG l.prog w K mg base 3 "read_number" (fnSp MD K f_read_number) := ⟨_, _, _, g_read_number T c_is_short_word F7, PySem.W.mg_of X G a7, k7, b7⟩
  have c_is_pair : CalG l.prog w K mg base 3 "is_pair" (fnSp MD K f_is_pair) := ⟨_, _, _, g_is_pair T c_is_tuple c_is_short_word F8, PySem.W.mg_of X G a8, k8, b8⟩
  have c_need_book : CalX l.prog w K mg base 4 "need_book" (fnSpX MD K mg f_need_book) := ⟨_, _, _, g_need_book T c_is_tuple c_is_pair x_BadBook F9, PySem.W.mg_of X G a9, k9, b9⟩
  have c_is_triple : CalG l.prog w K mg base 3 "is_triple" (fnSp MD K f_is_triple) := ⟨_, _, _, g_is_triple T c_is_tuple c_is_integer F10, PySem.W.mg_of X G a10, k10, b10⟩
  have c_need_road : CalX l.prog w K mg base 4 "need_road" (fnSpX MD K mg f_need_road) := ⟨_, _, _, g_need_road T c_is_tuple c_is_triple x_BadRoad F11, PySem.W.mg_of X G a11, k11, b11⟩
  have c_road_text : CalX l.prog w K mg base 5 "road_text" (fnSpX MD K mg f_road_text) := ⟨_, _, _, g_road_text T c_need_road F12, PySem.W.mg_of X G a12, k12, b12⟩
  have c_book_text : CalX l.prog w K mg base 5 "book_text" (fnSpX MD K mg f_book_text) := ⟨_, _, _, g_book_text T c_need_book F13, PySem.W.mg_of X G a13, k13, b13⟩
  have c_u_rows_of : CalX l.prog w K mg base 3 "_rows_of" (fnSpX MD K mg f_u_rows_of) := ⟨_, _, _, g_u_rows_of T x_BadText F14, PySem.W.mg_of X G a14, k14, b14⟩
  have c_read_road : CalX l.prog w K mg base 4 "read_road" (fnSpX MD K mg f_read_road) := ⟨_, _, _, g_read_road T c_u_rows_of c_read_number c_is_triple x_BadText F15, PySem.W.mg_of X G a15, k15, b15⟩
  have c_read_book : CalX l.prog w K mg base 4 "read_book" (fnSpX MD K mg f_read_book) := ⟨_, _, _, g_read_book T c_u_rows_of c_is_pair x_BadText F16, PySem.W.mg_of X G a16, k16, b16⟩
  have c_u_law_of : CalG l.prog w K mg base 2 "_law_of" (fnSp MD K f_u_law_of) := ⟨_, _, _, g_u_law_of T c_u_law_next F17, PySem.W.mg_of X G a17, k17, b17⟩
  have c_u_law_road : CalG l.prog w K mg base 2 "_law_road" (fnSp MD K f_u_law_road) := ⟨_, _, _, g_u_law_road T c_u_law_next F18, PySem.W.mg_of X G a18, k18, b18⟩
  have c_u_law_word : CalG l.prog w K mg base 3 "_law_word" (fnSp MD K f_u_law_word) := ⟨_, _, _, g_u_law_word T c_u_law_next c_u_law_of F19, PySem.W.mg_of X G a19, k19, b19⟩
  have c_u_law_book : CalG l.prog w K mg base 4 "_law_book" (fnSp MD K f_u_law_book) := ⟨_, _, _, g_u_law_book T c_u_law_next c_u_law_word F20, PySem.W.mg_of X G a20, k20, b20⟩
  have c_u_law_road_right : CalG l.prog w K mg base 6 "_law_road_right" (fnSp MD K f_u_law_road_right) := ⟨_, _, _, g_u_law_road_right T c_read_road c_road_text F21, PySem.W.mg_of X G a21, k21, b21⟩
  have c_u_law_book_right : CalG l.prog w K mg base 6 "_law_book_right" (fnSp MD K f_u_law_book_right) := ⟨_, _, _, g_u_law_book_right T c_read_book c_book_text F22, PySem.W.mg_of X G a22, k22, b22⟩
  exact g_law T c_begun c_u_law_road c_u_law_of c_u_law_road_right c_road_text c_u_law_book c_u_law_book_right c_book_text F23 math
end Pf

namespace Pf
open PySem L2 HW LamX
def x_is_whole : XFn := xDef 1 n_is_whole (xRet (xAndV (xF (isiD "int") (xLook 0)) (xNotV (xF (isiD "bool") (xLook 0)))))
theorem k_is_whole : RfF x_is_whole f_is_whole := k_def (k_ret (k_andV (k_f k_look) (k_notV (k_f k_look))))
def x_is_integer : XFn := xDef 3 n_is_integer (xRet (xAndV (xCall x_is_whole (xgIm (xVar 0) xgNil)) (xChain leAD leAD (xLook 1) (xLook 0) (xLook 2))))
theorem k_is_integer : RfF x_is_integer f_is_integer := k_def (k_ret (k_andV (k_call k_is_whole (k_gim k_var k_gnil)) (k_chain k_look k_look k_look)))
def x_is_tuple : XFn := xDef 3 n_is_tuple (xRet (xAndV (xF (isiD "tuple") (xLook 0)) (xChain leAD leAD (xLook 1) (xF lenD (xLook 0)) (xLook 2))))
theorem k_is_tuple : RfF x_is_tuple f_is_tuple := k_def (k_ret (k_andV (k_f k_look) (k_chain k_look (k_f k_look) k_look)))
def x_is_word : XFn := xDef 2 n_is_word (xRet (xAndV (xF (isiD "str") (xLook 0)) (xAndV (xOp neD (xLook 0) (xC (.str ""))) (xOp eqD (xMS scD (xLook 0) (xLook 1)) (xC (.str ""))))))
theorem k_is_word : RfF x_is_word f_is_word := k_def (k_ret (k_andV (k_f k_look) (k_andV (k_op k_look k_c) (k_op (k_ms k_look k_look) k_c))))
def x_is_short_word : XFn := xDef 3 n_is_short_word (xRet (xAndV (xCall x_is_word (xgIm (xVar 0) (xgIm (xVar 1) xgNil))) (xOp leAD (xF lenD (xLook 0)) (xLook 2))))
theorem k_is_short_word : RfF x_is_short_word f_is_short_word := k_def (k_ret (k_andV (k_call k_is_word (k_gim k_var (k_gim k_var k_gnil))) (k_op (k_f k_look) k_look)))
def x_read_number : XFn := xDef 2 n_read_number (xSeq (xIf (xNot (xTru (xCall x_is_short_word (xgIm (xVar 0) (xgIm (xC (.str "0123456789")) (xgIm (xVar 1) xgNil)))))) (xRet (xC .none)) xNext) (xSeq (xIf (xAnd (xTst (xOp eqD (xOp ixD (xLook 0) (xC (.int 0))) (xC (.str "0")))) (xTst (xOp neD (xLook 0) (xC (.str "0"))))) (xRet (xC .none)) xNext) (xRet (xF intSD (xLook 0)))))
theorem k_read_number : RfF x_read_number f_read_number := k_def (k_seq (k_ifS (k_not (k_tru (k_call k_is_short_word (k_gim k_var (k_gim k_c (k_gim k_var k_gnil)))))) (k_ret k_c) k_next) (k_seq (k_ifS (k_and (k_tst (k_op (k_op k_look k_c) k_c)) (k_tst (k_op k_look k_c))) (k_ret k_c) k_next) (k_ret (k_f k_look))))
def x_is_pair : XFn := xDef 1 n_is_pair (xSeq (xIf (xNot (xTru (xCall x_is_tuple (xgIm (xVar 0) (xgIm (xC (.int 2)) (xgIm (xC (.int 2)) xgNil)))))) (xRet (xC (.bool false))) xNext) (xRet (xAndV (xCall x_is_short_word (xgIm (xOp ixD (xLook 0) (xC (.int 0))) (xgIm (xC (.str "0123456789abcdefghijklmnopqrstuvwxyz")) (xgIm (xC (.int 8)) xgNil)))) (xCall x_is_short_word (xgIm (xOp ixD (xLook 0) (xC (.int 1))) (xgIm (xC (.str "0123456789abcdefghijklmnopqrstuvwxyz")) (xgIm (xC (.int 5)) xgNil)))))))
theorem k_is_pair : RfF x_is_pair f_is_pair := k_def (k_seq (k_ifS (k_not (k_tru (k_call k_is_tuple (k_gim k_var (k_gim k_c (k_gim k_c k_gnil)))))) (k_ret k_c) k_next) (k_ret (k_andV (k_call k_is_short_word (k_gim (k_op k_look k_c) (k_gim k_c (k_gim k_c k_gnil)))) (k_call k_is_short_word (k_gim (k_op k_look k_c) (k_gim k_c (k_gim k_c k_gnil)))))))
def x_need_book : XFn := xDef 1 n_need_book (xSeq (xIf (xNot (xTru (xCall x_is_tuple (xgIm (xVar 0) (xgIm (xC (.int 1)) (xgIm (xC (.int 40)) xgNil)))))) (xRaise "BadBook" (some "number") (xC .none)) xNext) (xSeq (xOwn 1 xnDc0) (xSeq (xOwn 2 xnDc0) (xSeq (xFor (xRng (xF lenD (xLook 0))) (xgN 3) (xSeq (xIf (xNot (xTru (xCall x_is_pair (xgIm (xOp ixD (xLook 0) (xLook 3)) xgNil)))) (xRaise "BadBook" (some "number") (xVar 3)) xNext) (xSeq (xAsg (xOp ixD (xLook 0) (xLook 3)) (xgT [4, 5])) (xSeq (xIf (xOr (xTst (xInK false (xLook 4) (xLook 1))) (xTst (xInK false (xLook 5) (xLook 2)))) (xRaise "BadBook" (some "number") (xVar 3)) xNext) (xSeq (xDput 1 (xC (.bool true)) (xLook 4)) (xDput 2 (xC (.bool true)) (xLook 5))))))) (xRet (xVar 0))))))
theorem k_need_book : RfX x_need_book f_need_book := k_defX fun R => (k_seq (k_ifS (k_not (k_tru (k_call k_is_tuple (k_gim k_var (k_gim k_c (k_gim k_c k_gnil)))))) (k_raise k_c) k_next) (k_seq (k_own k_ndc0) (k_seq (k_own k_ndc0) (k_seq (k_for (k_rng (k_f k_look)) k_gN (k_seq (k_ifS (k_not (k_tru (k_call k_is_pair (k_gim (k_op k_look k_look) k_gnil)))) (k_raise k_var) k_next) (k_seq (k_asg (k_op k_look k_look) k_gT) (k_seq (k_ifS (k_or (k_tst (k_inK k_look k_look)) (k_tst (k_inK k_look k_look))) (k_raise k_var) k_next) (k_seq (k_dput k_c k_look) (k_dput k_c k_look)))))) (k_ret k_var)))))
def x_is_triple : XFn := xDef 1 n_is_triple (xSeq (xIf (xNot (xTru (xCall x_is_tuple (xgIm (xVar 0) (xgIm (xC (.int 3)) (xgIm (xC (.int 3)) xgNil)))))) (xRet (xC (.bool false))) xNext) (xSeq (xAsg (xVar 0) (xgT [1, 2, 3])) (xRet (xAndV (xCall x_is_integer (xgIm (xVar 1) (xgIm (xC (.int 0)) (xgIm (xC (.int 1000)) xgNil)))) (xAndV (xCall x_is_integer (xgIm (xVar 2) (xgIm (xC (.int 1)) (xgIm (xC (.int 1000)) xgNil)))) (xCall x_is_integer (xgIm (xVar 3) (xgIm (xC (.int 0)) (xgIm (xC (.int 1000)) xgNil)))))))))
theorem k_is_triple : RfF x_is_triple f_is_triple := k_def (k_seq (k_ifS (k_not (k_tru (k_call k_is_tuple (k_gim k_var (k_gim k_c (k_gim k_c k_gnil)))))) (k_ret k_c) k_next) (k_seq (k_asg k_var k_gT) (k_ret (k_andV (k_call k_is_integer (k_gim k_var (k_gim k_c (k_gim k_c k_gnil)))) (k_andV (k_call k_is_integer (k_gim k_var (k_gim k_c (k_gim k_c k_gnil)))) (k_call k_is_integer (k_gim k_var (k_gim k_c (k_gim k_c k_gnil)))))))))
def x_need_road : XFn := xDef 1 n_need_road (xSeq (xIf (xNot (xTru (xCall x_is_tuple (xgIm (xVar 0) (xgIm (xC (.int 1)) (xgIm (xC (.int 40)) xgNil)))))) (xRaise "BadRoad" (some "number") (xC .none)) xNext) (xSeq (xFor (xRng (xF lenD (xLook 0))) (xgN 1) (xIf (xNot (xTru (xCall x_is_triple (xgIm (xOp ixD (xLook 0) (xLook 1)) xgNil)))) (xRaise "BadRoad" (some "number") (xVar 1)) xNext)) (xRet (xVar 0))))
theorem k_need_road : RfX x_need_road f_need_road := k_defX fun R => (k_seq (k_ifS (k_not (k_tru (k_call k_is_tuple (k_gim k_var (k_gim k_c (k_gim k_c k_gnil)))))) (k_raise k_c) k_next) (k_seq (k_for (k_rng (k_f k_look)) k_gN (k_ifS (k_not (k_tru (k_call k_is_triple (k_gim (k_op k_look k_look) k_gnil)))) (k_raise k_var) k_next)) (k_ret k_var)))
def x_road_text : XFn := xDef 1 n_road_text (xSeq (xDrop (xCallX x_need_road (xgIm (xVar 0) xgNil))) (xRet (xMS joinD (xC (.str "\n")) (xLcT (xItT (xVar 0)) xYes (xJoin [(xF fmtD (xLook 1)), (xC (.str " ")), (xF fmtD (xLook 2)), (xC (.str " ")), (xF fmtD (xLook 3))]) [1, 2, 3] [1, 2, 3]))))
theorem k_road_text : RfX x_road_text f_road_text := k_defX fun R => (k_seq (k_drop (k_callX k_need_road (k_gim k_var k_gnil))) (k_ret (k_ms k_c (k_lcT (k_itT k_var) k_yes (k_join (.cons (k_f k_look) (.cons k_c (.cons (k_f k_look) (.cons k_c (.cons (k_f k_look) .nil))))))))))
def x_book_text : XFn := xDef 1 n_book_text (xSeq (xDrop (xCallX x_need_book (xgIm (xVar 0) xgNil))) (xRet (xMS joinD (xC (.str "\n")) (xLcT (xItT (xVar 0)) xYes (xJoin [(xF fmtD (xLook 1)), (xC (.str " ")), (xF fmtD (xLook 2))]) [1, 2] [1, 2]))))
theorem k_book_text : RfX x_book_text f_book_text := k_defX fun R => (k_seq (k_drop (k_callX k_need_book (k_gim k_var k_gnil))) (k_ret (k_ms k_c (k_lcT (k_itT k_var) k_yes (k_join (.cons (k_f k_look) (.cons k_c (.cons (k_f k_look) .nil))))))))
def x_u_rows_of : XFn := xDef 1 n_u_rows_of (xSeq (xIf (xNot (xTru (xF (isiD "str") (xLook 0)))) (xRaise "BadText" (some "line") (xC (.int 0))) xNext) (xRet (xLc (xItL (xMS spD (xLook 0) (xC (.str "\n")))) xYes (xF tupD (xMS spD (xLook 1) (xC (.str " ")))) 1 [1])))
theorem k_u_rows_of : RfX x_u_rows_of f_u_rows_of := k_defX fun R => (k_seq (k_ifS (k_not (k_tru (k_f k_look))) (k_raise k_c) k_next) (k_ret (k_lc (k_itL (k_ms k_look k_c)) k_yes (k_f (k_ms k_look k_c)))))
def x_read_road : XFn := xDef 1 n_read_road (xSeq (xOwn 1 (xnLst xNil)) (xSeq (xFor (xItL (xCall x_u_rows_of (xgIm (xVar 0) xgNil))) (xgN 2) (xSeq (xSet 3 (xF tupD (xLc (xItT (xVar 2)) xYes (xCall x_read_number (xgIm (xVar 4) (xgIm (xC (.int 4)) xgNil))) 4 [4]))) (xSeq (xIf (xOr (xTst (xOp eqD (xF lenD (xLook 1)) (xC (.int 40)))) (xNot (xTru (xCall x_is_triple (xgIm (xVar 3) xgNil))))) (xRaise "BadText" (some "line") (xOp addD (xF lenD (xLook 1)) (xC (.int 1)))) xNext) (xApp 1 (xVar 3))))) (xRet (xF tupD (xLook 1)))))
theorem k_read_road : RfX x_read_road f_read_road := k_defX fun R => (k_seq (k_own (k_nlst k_nil)) (k_seq (k_for (k_itL (k_call (RfX.calm k_u_rows_of) (k_gim k_var k_gnil))) k_gN (k_seq (k_set (k_f (k_lc (k_itT k_var) k_yes (k_call k_read_number (k_gim k_var (k_gim k_c k_gnil)))))) (k_seq (k_ifS (k_or (k_tst (k_op (k_f k_look) k_c)) (k_not (k_tru (k_call k_is_triple (k_gim k_var k_gnil))))) (k_raise (k_op (k_f k_look) k_c)) k_next) (k_app k_var)))) (k_ret (k_f k_look))))
def x_read_book : XFn := xDef 1 n_read_book (xSeq (xOwn 1 (xnLst xNil)) (xSeq (xOwn 2 xnDc0) (xSeq (xOwn 3 xnDc0) (xSeq (xFor (xItL (xCall x_u_rows_of (xgIm (xVar 0) xgNil))) (xgN 4) (xSeq (xIf (xOr (xTst (xOp eqD (xF lenD (xLook 1)) (xC (.int 40)))) (xOr (xNot (xTru (xCall x_is_pair (xgIm (xVar 4) xgNil)))) (xOr (xTst (xInK false (xOp ixD (xLook 4) (xC (.int 0))) (xLook 2))) (xTst (xInK false (xOp ixD (xLook 4) (xC (.int 1))) (xLook 3)))))) (xRaise "BadText" (some "line") (xOp addD (xF lenD (xLook 1)) (xC (.int 1)))) xNext) (xSeq (xDput 2 (xC (.bool true)) (xOp ixD (xLook 4) (xC (.int 0)))) (xSeq (xDput 3 (xC (.bool true)) (xOp ixD (xLook 4) (xC (.int 1)))) (xApp 1 (xVar 4)))))) (xRet (xF tupD (xLook 1)))))))
theorem k_read_book : RfX x_read_book f_read_book := k_defX fun R => (k_seq (k_own (k_nlst k_nil)) (k_seq (k_own k_ndc0) (k_seq (k_own k_ndc0) (k_seq (k_for (k_itL (k_call (RfX.calm k_u_rows_of) (k_gim k_var k_gnil))) k_gN (k_seq (k_ifS (k_or (k_tst (k_op (k_f k_look) k_c)) (k_or (k_not (k_tru (k_call k_is_pair (k_gim k_var k_gnil)))) (k_or (k_tst (k_inK (k_op k_look k_c) k_look)) (k_tst (k_inK (k_op k_look k_c) k_look))))) (k_raise (k_op (k_f k_look) k_c)) k_next) (k_seq (k_dput k_c (k_op k_look k_c)) (k_seq (k_dput k_c (k_op k_look k_c)) (k_app k_var))))) (k_ret (k_f k_look))))))
def x_u_law_road_a : XS := (xOwn 3 (xnLst xNil))
theorem k_u_law_road_a : RfS noR x_u_law_road_a w_u_law_road_a := (k_own (k_nlst k_nil))
def x_u_law_road_bb : XS := (xRet (xF tupD (xLook 3)))
theorem k_u_law_road_bb : RfS noR x_u_law_road_bb w_u_law_road_bb := (k_ret (k_f k_look))
def x_u_law_book_a : XS := (xParNN 4 5 (xnLst xNil) (xnLst xNil))
theorem k_u_law_book_a : RfS noR x_u_law_book_a w_u_law_book_a := (k_parNN (k_nlst k_nil) (k_nlst k_nil))
def x_u_law_book_bafb : XS := (xIf (xAnd (xTst (xOp (inD true) (xLook 7) (xLook 4))) (xTst (xOp (inD true) (xLook 8) (xLook 5)))) (xSeq (xApp 4 (xVar 7)) (xApp 5 (xVar 8))) xNext)
theorem k_u_law_book_bafb : RfS noR x_u_law_book_bafb w_u_law_book_bafb := (k_ifS (k_and (k_tst (k_op k_look k_look)) (k_tst (k_op k_look k_look))) (k_seq (k_app k_var) (k_app k_var)) k_next)
def x_u_law_book_bb : XS := (xRet (xTupZip (xLook 4) (xLook 5)))
theorem k_u_law_book_bb : RfS noR x_u_law_book_bb w_u_law_book_bb := (k_ret (k_tupZip k_look k_look))
def x_u_law_road_right : XFn := xDef 1 n_u_law_road_right (xSeq (xSet 1 (xMS joinD (xC (.str "\n")) (xLc (xItT (xVar 0)) xYes (xMS joinD (xC (.str " ")) (xLc (xItT (xVar 3)) xYes (xF reprID (xLook 2)) 2 [2])) 3 [3]))) (xSeq (xSet 4 (xLst (xCons (xCall x_road_text (xgIm (xVar 0) xgNil)) (xCons (xCall x_read_road (xgIm (xVar 1) xgNil)) (xCons (xCall x_road_text (xgIm (xVar 0) xgNil)) (xCons (xCall x_read_road (xgIm (xVar 1) xgNil)) xNil)))))) (xRet (xOp eqD (xF reprD (xLook 4)) (xF reprD (xRepL (xCons (xVar 1) (xCons (xVar 0) xNil)) (xC (.int 2))))))))
theorem k_u_law_road_right : RfF x_u_law_road_right f_u_law_road_right := k_def (k_seq (k_set (k_ms k_c (k_lc (k_itT k_var) k_yes (k_ms k_c (k_lc (k_itT k_var) k_yes (k_f k_look)))))) (k_seq (k_set (k_lst (k_cons (k_call (RfX.calm k_road_text) (k_gim k_var k_gnil)) (k_cons (k_call (RfX.calm k_read_road) (k_gim k_var k_gnil)) (k_cons (k_call (RfX.calm k_road_text) (k_gim k_var k_gnil)) (k_cons (k_call (RfX.calm k_read_road) (k_gim k_var k_gnil)) k_nil)))))) (k_ret (k_op (k_f k_look) (k_f (k_repL (k_cons k_var (k_cons k_var k_nil)) k_c))))))
def x_u_law_book_right : XFn := xDef 1 n_u_law_book_right (xSeq (xSet 1 (xMS joinD (xC (.str "\n")) (xLcT (xItT (xVar 0)) xYes (xOp addD (xOp addD (xLook 2) (xC (.str " "))) (xLook 3)) [2, 3] [2, 3]))) (xSeq (xSet 4 (xLst (xCons (xCall x_book_text (xgIm (xVar 0) xgNil)) (xCons (xCall x_read_book (xgIm (xVar 1) xgNil)) (xCons (xCall x_book_text (xgIm (xVar 0) xgNil)) (xCons (xCall x_read_book (xgIm (xVar 1) xgNil)) xNil)))))) (xRet (xOp eqD (xF reprD (xLook 4)) (xF reprD (xRepL (xCons (xVar 1) (xCons (xVar 0) xNil)) (xC (.int 2))))))))
theorem k_u_law_book_right : RfF x_u_law_book_right f_u_law_book_right := k_def (k_seq (k_set (k_ms k_c (k_lcT (k_itT k_var) k_yes (k_op (k_op k_look k_c) k_look)))) (k_seq (k_set (k_lst (k_cons (k_call (RfX.calm k_book_text) (k_gim k_var k_gnil)) (k_cons (k_call (RfX.calm k_read_book) (k_gim k_var k_gnil)) (k_cons (k_call (RfX.calm k_book_text) (k_gim k_var k_gnil)) (k_cons (k_call (RfX.calm k_read_book) (k_gim k_var k_gnil)) k_nil)))))) (k_ret (k_op (k_f k_look) (k_f (k_repL (k_cons k_var (k_cons k_var k_nil)) k_c))))))
def x_lafba : XS := (xIf (xOr (xNot (xTru (xCall x_u_law_road_right (xgIm (xVar 3) xgNil)))) (xNot (xTru (xCall x_u_law_road_right (xgIm (xVar 4) xgNil))))) (xRet (xC (.bool false))) xNext)
theorem k_lafba : RfS noR x_lafba w_lafba := (k_ifS (k_or (k_not (k_tru (k_call k_u_law_road_right (k_gim k_var k_gnil)))) (k_not (k_tru (k_call k_u_law_road_right (k_gim k_var k_gnil))))) (k_ret k_c) k_next)
def x_lafbba : XS := (xIf (xTst (xOp neD (xOp eqD (xCall x_road_text (xgIm (xVar 3) xgNil)) (xCall x_road_text (xgIm (xVar 4) xgNil))) (xOp eqD (xLook 3) (xLook 4)))) (xRet (xC (.bool false))) xNext)
theorem k_lafbba : RfS noR x_lafbba w_lafbba := (k_ifS (k_tst (k_op (k_op (k_call (RfX.calm k_road_text) (k_gim k_var k_gnil)) (k_call (RfX.calm k_road_text) (k_gim k_var k_gnil))) (k_op k_look k_look))) (k_ret k_c) k_next)
def x_lafbbbba : XS := (xIf (xOr (xNot (xTru (xCall x_u_law_book_right (xgIm (xVar 5) xgNil)))) (xNot (xTru (xCall x_u_law_book_right (xgIm (xVar 6) xgNil))))) (xRet (xC (.bool false))) xNext)
theorem k_lafbbbba : RfS noR x_lafbbbba w_lafbbbba := (k_ifS (k_or (k_not (k_tru (k_call k_u_law_book_right (k_gim k_var k_gnil)))) (k_not (k_tru (k_call k_u_law_book_right (k_gim k_var k_gnil))))) (k_ret k_c) k_next)
def x_lafbbbbb : XS := (xIf (xTst (xOp neD (xOp eqD (xCall x_book_text (xgIm (xVar 5) xgNil)) (xCall x_book_text (xgIm (xVar 6) xgNil))) (xOp eqD (xLook 5) (xLook 6)))) (xRet (xC (.bool false))) xNext)
theorem k_lafbbbbb : RfS noR x_lafbbbbb w_lafbbbbb := (k_ifS (k_tst (k_op (k_op (k_call (RfX.calm k_book_text) (k_gim k_var k_gnil)) (k_call (RfX.calm k_book_text) (k_gim k_var k_gnil))) (k_op k_look k_look))) (k_ret k_c) k_next)
def x_lba : XS := (xSet 7 (xF tupD (xLc (xRng (xC (.int 40))) xYes (xTup (xCons (xC (.int 1000)) (xCons (xOp subD (xC (.int 1000)) (xLook 8)) (xCons (xVar 8) xNil)))) 8 [8])))
theorem k_lba : RfS noR x_lba w_lba := (k_set (k_f (k_lc (k_rng k_c) k_yes (k_tup (k_cons k_c (k_cons (k_op k_c k_look) (k_cons k_var k_nil)))))))
def x_lbba : XS := (xFor (xItT (xTup (xCons (xVar 7) (xCons (xTup (xCons (xTup (xCons (xC (.int 0)) (xCons (xC (.int 1)) (xCons (xC (.int 0)) xNil)))) xNil)) (xCons (xOp repTAD (xTup (xCons (xTup (xCons (xC (.int 0)) (xCons (xC (.int 1)) (xCons (xC (.int 0)) xNil)))) xNil)) (xC (.int 40))) (xCons (xTup (xCons (xTup (xCons (xC (.int 1000)) (xCons (xC (.int 1000)) (xCons (xC (.int 1000)) xNil)))) xNil)) xNil)))))) (xgN 9) (xIf (xNot (xTru (xCall x_u_law_road_right (xgIm (xVar 9) xgNil)))) (xRet (xC (.bool false))) xNext))
theorem k_lbba : RfS noR x_lbba w_lbba := (k_for (k_itT (k_tup (k_cons k_var (k_cons (k_tup (k_cons (k_tup (k_cons k_c (k_cons k_c (k_cons k_c k_nil)))) k_nil)) (k_cons (k_op (k_tup (k_cons (k_tup (k_cons k_c (k_cons k_c (k_cons k_c k_nil)))) k_nil)) k_c) (k_cons (k_tup (k_cons (k_tup (k_cons k_c (k_cons k_c (k_cons k_c k_nil)))) k_nil)) k_nil)))))) k_gN (k_ifS (k_not (k_tru (k_call k_u_law_road_right (k_gim k_var k_gnil)))) (k_ret k_c) k_next))
def x_lbbba : XS := (xSet 10 (xF tupD (xLc (xRng (xC (.int 40))) xYes (xTup (xCons (xOp addD (xC (.str "p")) (xF reprID (xLook 8))) (xCons (xOp addD (xC (.str "c")) (xF reprID (xLook 8))) xNil))) 8 [8])))
theorem k_lbbba : RfS noR x_lbbba w_lbbba := (k_set (k_f (k_lc (k_rng k_c) k_yes (k_tup (k_cons (k_op k_c (k_f k_look)) (k_cons (k_op k_c (k_f k_look)) k_nil))))))
def x_lbbbba : XS := (xFor (xItT (xTup (xCons (xVar 10) (xCons (xTup (xCons (xTup (xCons (xC (.str "a")) (xCons (xC (.str "0")) xNil))) xNil)) (xCons (xTup (xCons (xTup (xCons (xC (.str "abcdefgh")) (xCons (xC (.str "01234")) xNil))) (xCons (xTup (xCons (xC (.str "zzzzzzzz")) (xCons (xC (.str "99999")) xNil))) xNil))) xNil))))) (xgN 11) (xIf (xNot (xTru (xCall x_u_law_book_right (xgIm (xVar 11) xgNil)))) (xRet (xC (.bool false))) xNext))
theorem k_lbbbba : RfS noR x_lbbbba w_lbbbba := (k_for (k_itT (k_tup (k_cons k_var (k_cons (k_tup (k_cons (k_tup (k_cons k_c (k_cons k_c k_nil))) k_nil)) (k_cons (k_tup (k_cons (k_tup (k_cons k_c (k_cons k_c k_nil))) (k_cons (k_tup (k_cons k_c (k_cons k_c k_nil))) k_nil))) k_nil))))) k_gN (k_ifS (k_not (k_tru (k_call k_u_law_book_right (k_gim k_var k_gnil)))) (k_ret k_c) k_next))
def x_lbbbbb : XS := (xRet (xOp eqD (xCall x_book_text (xgIm (xTup (xCons (xTup (xCons (xC (.str "ab1")) (xCons (xC (.str "0")) xNil))) (xCons (xTup (xCons (xC (.str "z")) (xCons (xC (.str "zz")) xNil))) xNil))) xgNil)) (xC (.str "ab1 0\nz zz"))))
theorem k_lbbbbb : RfS noR x_lbbbbb w_lbbbbb := (k_ret (k_op (k_call (RfX.calm k_book_text) (k_gim (k_tup (k_cons (k_tup (k_cons k_c (k_cons k_c k_nil))) (k_cons (k_tup (k_cons k_c (k_cons k_c k_nil))) k_nil))) k_gnil)) k_c))
end Pf

/-! Rp: repr of data, by parts -/
namespace Pf
open PySem L2 HW
def okS (x : Str) : Prop := ∀ c ∈ x.cps.toList, c < 0x110000
theorem okS_add {a b : Str} (ha : okS a) (hb : okS b) : okS (a ++ b) := by
  intro c hc
  have : c ∈ a.cps.toList ++ b.cps.toList := by
    have e : (a ++ b).cps.toList = a.cps.toList ++ b.cps.toList := by
      show (a.cps ++ b.cps).toList = _
      simp
    rwa [e] at hc
  rcases List.mem_append.mp this with z | z
  · exact ha c z
  · exact hb c z
theorem okS_join {s : Str} (hs : okS s) : ∀ {ts : List Str}, (∀ t ∈ ts, okS t) → okS (Str.join s ts)
  | [], _ => by intro c hc; simp [Str.join, Str.empty] at hc
  | [x], h => h x List.mem_cons_self
  | x :: y :: r, h => okS_add (okS_add (h x List.mem_cons_self) hs) (okS_join hs fun t ht => h t (List.mem_cons_of_mem _ ht))
theorem okS_tup {ts : List Str} (h : ∀ t ∈ ts, okS t) : okS (tupleText ts) := by
  unfold tupleText
  refine okS_add (okS_add (by unfold okS; decide) (okS_join (by unfold okS; decide) h)) ?_
  split
  · unfold okS; decide
  · unfold okS; decide
theorem okS_from : ∀ (ts : List Str) (k : Nat) (acc : Str), okS acc → (∀ t ∈ ts, okS t) → okS (textFrom k acc ts)
  | [], k, acc, h, _ => h
  | t :: r, k, acc, h, ht => by
    unfold textFrom
    refine okS_from r _ _ (okS_add ?_ (ht t List.mem_cons_self)) fun x hx => ht x (List.mem_cons_of_mem _ hx)
    split
    · exact okS_add h (by unfold okS; decide)
    · exact h
theorem okS_list {ts : List Str} (h : ∀ t ∈ ts, okS t) : okS (listText ts) := okS_add (okS_from ts 0 _ (by unfold okS; decide) h) (by unfold okS; decide)
theorem okS_int (i : Int) : okS (PyData.int i).shown := fun c hc => by
  by_cases h : c < 0x110000
  · exact h
  · exact absurd hc (PyProof.Rows.shown_int_free' ⟨by omega, .inr (by omega)⟩ i)
theorem okS_shaped {x : Str} (h : okS x) : SeqAt.shaped (.str x) = true := by
  show (PyData.canLay0 (.str x) && decide (PyData.depth (.str x) ≤ 64)) = true
  have : PyData.canLay0 (.str x) = true := by
    show x.cps.all (· < 0x110000) = true
    have : x.cps = x.cps.toList.toArray := by simp
    rw [this]
    simp
    intro c hc
    exact h _ (by simp)
  rw [this]
  rfl
theorem ne_same {x : Str} (h : okS x) : neD (.str x) (.str x) = some (.bool false) := by
  unfold neD
  rw [if_pos ⟨rfl, rfl, okS_shaped h, okS_shaped h⟩]
  show some (PyData.bool (!(x == x))) = _
  simp
/-- what repr wants, by weight and depth -/
structure Rp (d : D) (W dep : Nat) : Prop where
  i : PyData.intsShort 13 d = true
  w : PyData.weight d ≤ W
  s : PyData.showable d = true
  h : PyData.hasDict d = false
  o : okS d.shown
  l : PyData.canLay0 d = true
  f : flt d = true
  d : PyData.depth d ≤ dep
structure RpA (ds : List D) (W dep : Nat) : Prop where
  i : PyData.intsShortAll 13 ds = true
  w : PyData.weightAll ds ≤ W
  s : PyData.showableAll ds = true
  h : PyData.hasDictAll ds = false
  o : ∀ t ∈ PyData.shownAll ds, okS t
  l : PyData.canLayAll0 ds = true
  f : fltA ds = true
  d : PyData.depthAll ds ≤ dep
theorem rp_int {i : Int} (h0 : 0 ≤ i) (h1 : i < 10 ^ 10) : Rp (.int i) 34 0 := by
  have hl : i.natAbs.log2 < 34 := PySem.Flt.log2_lt_of (by decide) (by omega)
  refine ⟨?_, ?_, ?_, rfl, okS_int i, rfl, rfl, Nat.le_refl _⟩
  · show decide ((PyData.int i).shown.length ≤ 13) = true
    rw [PyData.shown_int]
    exact decide_eq_true (Nat.le_trans (PySem.W.KT.len_num h0 h1) (by decide))
  · show (if (i == 0) = true then 0 else i.natAbs.log2 + 1) ≤ 34
    split <;> omega
  · exact decide_eq_true (by omega)
theorem rpA_nil {dep : Nat} : RpA [] 0 dep := ⟨rfl, Nat.le_refl _, rfl, rfl, by intro t ht; simp [PyData.shownAll] at ht, rfl, rfl, Nat.zero_le _⟩
theorem rpA_cons {d : D} {ds : List D} {W W' dep : Nat} (h : Rp d W dep) (r : RpA ds W' dep) : RpA (d :: ds) (W + 1 + W') dep := by
  refine ⟨?_, ?_, ?_, ?_, ?_, ?_, ?_, ?_⟩
  · show (PyData.intsShort 13 d && PyData.intsShortAll 13 ds) = true
    rw [h.i, r.i]; rfl
  · show PyData.weight d + 1 + PyData.weightAll ds ≤ _
    have := h.w; have := r.w; omega
  · show (PyData.showable d && PyData.showableAll ds) = true
    rw [h.s, r.s]; rfl
  · show (PyData.hasDict d || PyData.hasDictAll ds) = false
    rw [h.h, r.h]; rfl
  · intro t ht
    rcases List.mem_cons.mp (show t ∈ PyData.shown d :: PyData.shownAll ds from ht) with z | z
    · rw [z]; exact h.o
    · exact r.o t z
  · show (PyData.canLay0 d && PyData.canLayAll0 ds) = true
    rw [h.l, r.l]; rfl
  · show (flt d && fltA ds) = true
    rw [h.f, r.f]; rfl
  · show max (PyData.depth d) (PyData.depthAll ds) ≤ dep
    have := h.d; have := r.d; omega
theorem rpA_all {W dep : Nat} : ∀ {ds : List D}, (∀ d ∈ ds, Rp d W dep) → RpA ds (ds.length * (W + 1)) dep
  | [], _ => by simpa using rpA_nil
  | d :: r, h => by
    have := rpA_cons (h d List.mem_cons_self) (rpA_all (ds := r) fun x hx => h x (List.mem_cons_of_mem _ hx))
    have e : (d :: r).length * (W + 1) = W + 1 + r.length * (W + 1) := by rw [List.length_cons, Nat.add_mul]; omega
    rw [e]
    exact this
theorem rp_list {ds : List D} {W dep : Nat} (r : RpA ds W dep) : Rp (.list ds) W (dep + 1) := ⟨r.i, r.w, r.s, r.h, okS_list r.o, r.l, r.f, by show PyData.depthAll ds + 1 ≤ _; have := r.d; omega⟩
theorem rp_tup {ds : List D} {W dep : Nat} (r : RpA ds W dep) : Rp (.tuple ds) W (dep + 1) := ⟨r.i, r.w, r.s, r.h, okS_tup r.o, r.l, r.f, by show PyData.depthAll ds + 1 ≤ _; have := r.d; omega⟩
theorem Rp.mono {d : D} {W W' dep dep' : Nat} (h : Rp d W dep) (h1 : W ≤ W') (h2 : dep ≤ dep') : Rp d W' dep' := ⟨h.i, Nat.le_trans h.w h1, h.s, h.h, h.o, h.l, h.f, Nat.le_trans h.d h2⟩
theorem rep_ok {d : D} {W dep : Nat} (h : Rp d W dep) (hr : isRef d = true) (hW : W ≤ 1000000) (hd : dep ≤ 60) : reprD d = some (.str d.shown) ∧ okS d.shown := by
  refine ⟨?_, h.o⟩
  have lay : PyData.layable0 d = true := by
    show (PyData.canLay0 d && decide (PyData.depth d ≤ 64) && decide (PyData.weight d ≤ 2 ^ 20)) = true
    have := h.w
    have := h.d
    rw [h.l, decide_eq_true (by omega), decide_eq_true (by omega)]
    rfl
  have le := PyProof.Rows.shown_le13 lay h.i
  have hL : LIM = 16777216 := rfl
  unfold reprD
  exact if_pos ⟨hr, h.f, h.s, h.h, Nat.le_trans h.d hd, by omega⟩
end Pf

/-! C1: runs put together; draws, loops of words -/
namespace Pf
open PySem L2 HW
section
variable {xs xr : XS} {ρ ρ' : List En} {r : Rs Fl} {d : D} {n : Nat} {N : List Str} {es : List En} {xi : XA} {tg : XTg} {ds : List D}
theorem xdef_rt (h : es.length = n) (e : xs (startE N es) = .ok (.rt d)) : xDef n N xs es = .ok d := by
  show Rs.guard _ _ = _
  unfold Rs.guard
  rw [if_pos h, e]
  rfl
theorem xdef_nx (h : es.length = n) (e : xs (startE N es) = .ok (.nx ρ)) : xDef n N xs es = .ok .none := by
  show Rs.guard _ _ = _
  unfold Rs.guard
  rw [if_pos h, e]
  rfl
theorem xseq_nx (e : xs ρ = .ok (.nx ρ')) (e2 : xr ρ' = r) : xSeq xs xr ρ = r := by
  show (xs ρ).bind _ = _
  rw [e]
  exact e2
theorem xfor_go (I : Nat → List En → Prop) (e : xi ρ = .ok ds) (st : ∀ (i : Nat) (hi : i < ds.length) (ρ : List En), I i ρ → ∃ ρ1 ρ2, tg ds[i] ρ = some ρ1 ∧ xs ρ1 = .ok (.nx ρ2) ∧ I (i + 1) ρ2) (h0 : I 0 ρ) : ∃ ρ', xFor xi tg xs ρ = .ok (.nx ρ') ∧ I ds.length ρ' := by
  have go : ∀ (r : List D) (n : Nat) (ρ : List En), r = ds.drop n → n ≤ ds.length → I n ρ → ∃ ρ', xfor tg xs r ρ = .ok (.nx ρ') ∧ I ds.length ρ' := by
    intro r
    induction r with
    | nil =>
      intro n ρ e hn h
      have hl := congrArg List.length e
      simp at hl
      have : n = ds.length := by omega
      exact ⟨ρ, rfl, this ▸ h⟩
    | cons d r ih =>
      intro n ρ e hn h
      have hlt : n < ds.length := by
        have hl := congrArg List.length e
        simp at hl
        omega
      rw [List.drop_eq_getElem_cons hlt] at e
      injection e with e1 e2
      obtain ⟨ρ1, ρ2, q1, q2, q3⟩ := st n hlt ρ h
      obtain ⟨ρ', q4, q5⟩ := ih (n + 1) ρ2 e2 hlt q3
      refine ⟨ρ', ?_, q5⟩
      rw [← e1] at q1
      simp [q1, q2, q4]
  obtain ⟨ρ', h1, h2⟩ := go ds 0 ρ rfl (Nat.zero_le _) h0
  refine ⟨ρ', ?_, h2⟩
  show lift (xi ρ) ρ _ = _
  rw [e]
  exact h1
theorem xseq_for (I : Nat → List En → Prop) (e : xi ρ = .ok ds) (st : ∀ (i : Nat) (hi : i < ds.length) (ρ : List En), I i ρ → ∃ ρ1 ρ2, tg ds[i] ρ = some ρ1 ∧ xs ρ1 = .ok (.nx ρ2) ∧ I (i + 1) ρ2) (h0 : I 0 ρ) (k : ∀ ρ', I ds.length ρ' → xr ρ' = r) : xSeq (xFor xi tg xs) xr ρ = r := by
  obtain ⟨ρ', e1, h1⟩ := xfor_go I e st h0
  exact xseq_nx e1 (k ρ' h1)
theorem xlc_all {xe : XE} {j : Nat} : ∀ (ds ys : List D), ds.length = ys.length → (∀ (i : Nat) (h : i < ds.length) (h' : i < ys.length), xe (ρ.set j (.im ds[i])) = .ok ys[i]) → xlc xYes xe ρ j ds = .ok ys
  | [], [], _, _ => rfl
  | d :: r, y :: ys, hl, h => by
    have h0 := h 0 (by simp) (by simp)
    have hr := xlc_all r ys (by simpa using hl) fun i hi hi' => by
      have := h (i + 1) (by simp; omega) (by simp; omega)
      simpa using this
    have h0' : xe (ρ.set j (.im d)) = .ok y := by simpa using h0
    simp [h0', hr]
theorem xret_ok {xa : XE} (e : xa ρ = .ok d) : xRet xa ρ = .ok (.rt d) := by
  show lift (xa ρ) ρ _ = _
  rw [e]
  rfl
theorem xset_ok {xa : XE} {i : Nat} (e : xa ρ = .ok d) : xSet i xa ρ = .ok (.nx (ρ.set i (.im d))) := by
  show lift (xa ρ) ρ _ = _
  rw [e]
  rfl
theorem guard_pos {α : Type} {c : Prop} [Decidable c] {r : Rs α} (h : c) : Rs.guard c r = r := if_pos h
theorem xrng_int {x : XE} {i : Int} (e : x ρ = .ok (.int i)) (h1 : -(2 ^ 62) ≤ i) (h2 : i < 2 ^ 62) : xRng x ρ = .ok (rngD 0 i.toNat) := by
  unfold xRng
  rw [e, Rs.bind_ok, iD_i, Rs.ofO_some, Rs.bind_ok]
  exact guard_pos ⟨h1, h2⟩
theorem xrng2_int {x y : XE} {i k : Int} (e : x ρ = .ok (.int i)) (e2 : y ρ = .ok (.int k)) (h : -(2 ^ 62) ≤ i ∧ i < 2 ^ 62 ∧ -(2 ^ 62) ≤ k ∧ k < 2 ^ 62) : xRng2 x y ρ = .ok (rngD i (k - i).toNat) := by
  unfold xRng2
  rw [e, Rs.bind_ok, e2, Rs.bind_ok, iD_i, Rs.ofO_some, Rs.bind_ok, iD_i, Rs.ofO_some, Rs.bind_ok]
  exact guard_pos h
theorem nat_lo (n : Nat) : -(2 ^ 62) ≤ (n : Int) := by omega
theorem nat_hi {n : Nat} (h : n ≤ 1000) : (n : Int) < 2 ^ 62 := by omega
theorem xrng_ok {x : XE} {n : Nat} (e : x ρ = .ok (.int n)) (h : n ≤ 1000) : xRng x ρ = .ok (rngD 0 n) := (xrng_int e (nat_lo n) (nat_hi h)).trans (by rw [Int.toNat_natCast])
theorem xlc_ok {xe : XE} {j : Nat} {vs : List Nat} {ys : List D} (e : xi ρ = .ok ds) (h : ds.length ≤ 1000) (e2 : xlc xYes xe (wipeE ρ vs) j ds = .ok ys) : xLc xi xYes xe j vs ρ = .ok (.list ys) := by
  show (xi ρ).bind _ = _
  rw [e]
  show Rs.guard _ _ = _
  unfold Rs.guard
  rw [if_pos (by omega), e2]
  rfl
end
theorem rng_len (lo : Int) (n : Nat) : (rngD lo n).length = n := by unfold rngD; simp
theorem rng_at {lo : Int} {n i : Nat} (h : i < (rngD lo n).length) : (rngD lo n)[i] = .int (lo + i) := by
  have e : (rngD lo n)[i]? = some (.int (lo + i)) := by
    have hl := rng_len lo n
    unfold rngD
    simp [show i < n by omega]
  rw [List.getElem?_eq_getElem h] at e
  exact Option.some.inj e
theorem le_a {a b : Int} (h : a ≤ b) : leAD (.int a) (.int b) = some (.bool true) := by
  show some (PyData.bool (decide (a ≤ b))) = _
  rw [decide_eq_true h]
theorem tru_t : truD (.bool true) = some true := rfl
theorem add_i (i j : Int) : addD (.int i) (.int j) = some (.int (i + j)) := rfl
theorem sub_i (i j : Int) : subD (.int i) (.int j) = some (.int (i - j)) := rfl
theorem ixT0 {a b c : D} : ixD (.tuple [a, b, c]) (.int 0) = some a := rfl
theorem ixT1 {a b c : D} : ixD (.tuple [a, b, c]) (.int 1) = some b := rfl
theorem ixT2 {a b c : D} : ixD (.tuple [a, b, c]) (.int 2) = some c := rfl
/-- f(0), .., f(n - 1) -/
def li (f : Nat → Int) (n : Nat) : List D := (List.range n).map fun i => .int (f i)
theorem li_len (f : Nat → Int) (n : Nat) : (li f n).length = n := by simp [li]
theorem li_get {f : Nat → Int} {n i : Nat} (h : i < (li f n).length) : (li f n)[i] = .int (f i) := by simp [li]
theorem li_at {f : Nat → Int} {n i : Nat} (h : i < n) : ixD (.list (li f n)) (.int i) = some (.int (f i)) := by
  rw [ixL (li f n) (by rw [li_len]; exact h), li_get]
theorem li_succ (f : Nat → Int) (n : Nat) : li f n ++ [.int (f n)] = li f (n + 1) := by simp [li, List.range_succ]
theorem li_last (f : Nat → Int) (n : Nat) : ixD (.list (li f (n + 1))) (.int (-1)) = some (.int (f n)) := by
  show atI (li f (n + 1)) (-1) = _
  unfold atI ixN
  rw [if_neg (by omega), li_len, if_pos (by omega)]
  have e : (-1 + ((n + 1 : Nat) : Int)).toNat = n := by omega
  show (li f (n + 1))[(-1 + ((n + 1 : Nat) : Int)).toNat]? = _
  rw [e]
  simp [li]
section
variable {xs xr : XS} {ρ ρ' : List En} {r : Rs Fl} {d : D} {n : Nat} {xa xb xc : XE} {ds : List D} {x y z : D}
theorem xop_ok {f : D → D → Option D} (e1 : xa ρ = .ok x) (e2 : xb ρ = .ok y) (e3 : f x y = some z) : xOp f xa xb ρ = .ok z := by
  show (xa ρ).bind _ = _
  rw [e1]
  show (xb ρ).bind _ = _
  rw [e2]
  show Rs.ofO (f x y) = _
  rw [e3]
  rfl
theorem xf_ok {f : D → Option D} (e1 : xa ρ = .ok x) (e3 : f x = some z) : xF f xa ρ = .ok z := by
  show (xa ρ).bind _ = _
  rw [e1]
  show Rs.ofO (f x) = _
  rw [e3]
  rfl
theorem xapp_ok {i : Nat} (e : ρ[i]? = some (.ls ds)) (e1 : xa ρ = .ok d) (h : ds.length < LIM) : xApp i xa ρ = .ok (.nx (ρ.set i (.ls (ds ++ [d])))) := by
  unfold xApp
  rw [e]
  show lift (xa ρ) ρ _ = _
  rw [e1]
  exact guard_pos h
theorem xownl_ok {i : Nat} {xA : XA} (e : xA ρ = .ok ds) (h : ds.length ≤ 1000) : xOwn i (xnLst xA) ρ = .ok (.nx (ρ.set i (.ls ds))) := by
  show lift ((xA ρ).bind _) ρ _ = _
  rw [e]
  show lift (Rs.guard _ _) ρ _ = _
  rw [guard_pos (Nat.le_trans h (by decide))]
  rfl
theorem xcons_ok {xA : XA} (e1 : xa ρ = .ok d) (e2 : xA ρ = .ok ds) : xCons xa xA ρ = .ok (d :: ds) := by
  show (xa ρ).bind _ = _
  rw [e1]
  show (xA ρ).bind _ = _
  rw [e2]
  rfl
theorem xseal_ok {i : Nat} (e : ρ[i]? = some (.ls ds)) (e1 : xs (ρ.set i (.im (.list ds))) = r) : xSeal i xs ρ = r := by
  unfold xSeal
  rw [e]
  exact e1
theorem xcall_ok {x : XFn} {xg : XG} {es : List En} (e : xg ρ = .ok es) (e1 : x es = .ok d) : xCall x xg ρ = .ok d := by
  show (xg ρ).bind _ = _
  rw [e]
  show (x es).calm = _
  rw [e1]
  rfl
theorem xdrop_ok (e1 : xa ρ = .ok d) : xDrop xa ρ = .ok (.nx ρ) := by
  show lift (xa ρ) ρ _ = _
  rw [e1]
  rfl
theorem xcallX_ok {x : XFn} {xg : XG} {es : List En} (e : xg ρ = .ok es) (e1 : x es = .ok d) : xCallX x xg ρ = .ok d := by
  show (xg ρ).bind _ = _
  rw [e]
  exact e1
end
theorem lim40 {n : Nat} (h : n ≤ 1000) : n < LIM := Nat.lt_of_le_of_lt h (by decide)
theorem neg1 : negD (.int 1) = some (.int (-1)) := rfl
theorem cat_nat (i : Nat) : ((i + 1 : Nat) : Int) - 1 = i := by omega
theorem gt_i (i j : Int) : gtD (.int i) (.int j) = some (.bool (decide (j < i))) := rfl
theorem lt_i (i j : Int) : ltD (.int i) (.int j) = some (.bool (decide (i < j))) := rfl
theorem eq_i (i j : Int) : eqD (.int i) (.int j) = some (.bool (i == j)) := eq_intD i j
theorem max_i (i j : Int) : max2D (.int i) (.int j) = some (.int (max i j)) := rfl
section
variable {xs xr : XS} {ρ : List En} {r : Rs Fl} {d x : D} {xa xb : XE} {xt xu : XT} {b : Bool}
theorem xtst_ok (e : xa ρ = .ok (.bool b)) : xTst xa ρ = .ok b := by
  show (xa ρ).bind _ = _
  rw [e]
  rfl
theorem xifT (e : xt ρ = .ok true) (h : xs ρ = r) : xIf xt xs xr ρ = r := by
  show lift (xt ρ) ρ _ = _
  rw [e]
  exact h
theorem xifF (e : xt ρ = .ok false) (h : xr ρ = r) : xIf xt xs xr ρ = r := by
  show lift (xt ρ) ρ _ = _
  rw [e]
  exact h
theorem xifeT (e : xt ρ = .ok true) (h : xa ρ = .ok d) : xIfE xt xa xb ρ = .ok d := by
  show (xt ρ).bind _ = _
  rw [e]
  exact h
theorem xifeF (e : xt ρ = .ok false) (h : xb ρ = .ok d) : xIfE xt xa xb ρ = .ok d := by
  show (xt ρ).bind _ = _
  rw [e]
  exact h
theorem xandT (e : xt ρ = .ok true) (h : xu ρ = .ok b) : xAnd xt xu ρ = .ok b := by
  show (xt ρ).bind _ = _
  rw [e]
  exact h
theorem xandF (e : xt ρ = .ok false) : xAnd xt xu ρ = .ok false := by
  show (xt ρ).bind _ = _
  rw [e]
  rfl
theorem xent_ok {ds : List D} (e : xa ρ = .ok (.tuple ds)) : xEnT xa ρ = .ok (enumD ds) := by
  show (xa ρ).bind _ = _
  rw [e]
  rfl
end
theorem enum_len (ds : List D) : (enumD ds).length = ds.length := by unfold enumD; simp
theorem enum_at {ds : List D} {i : Nat} (h : i < (enumD ds).length) : (enumD ds)[i] = .tuple [.int (i : Nat), ds[i]'(by rw [enum_len] at h; exact h)] := by
  simp [enumD]
section
variable {xs xr : XS} {ρ ρ' : List En} {r : Rs Fl} {d : D} {n : Nat} {xi : XA} {ds ys : List D} {xe : XE}
theorem xlcT_all {js : List Nat} : ∀ (ds ys : List D), ds.length = ys.length → (∀ (i : Nat) (h : i < ds.length) (h' : i < ys.length), ∃ es ρ', ds[i] = .tuple es ∧ gTx js es ρ = some ρ' ∧ xe ρ' = .ok ys[i]) → xlcT xYes xe ρ js ds = .ok ys
  | [], [], _, _ => rfl
  | d :: r, y :: ys, hl, h => by
    obtain ⟨es, ρ', e1, e2, e3⟩ := h 0 (by simp) (by simp)
    have hr := xlcT_all r ys (by simpa using hl) fun i hi hi' => by
      have := h (i + 1) (by simp; omega) (by simp; omega)
      simpa using this
    have e1' : d = .tuple es := by simpa using e1
    have e3' : xe ρ' = .ok y := by simpa using e3
    subst e1'
    simp [e2, e3', hr]
theorem xlcT_ok {js vs : List Nat} (e : xi ρ = .ok ds) (h : ds.length ≤ 1000) (e2 : xlcT xYes xe (wipeE ρ vs) js ds = .ok ys) : xLcT xi xYes xe js vs ρ = .ok (.list ys) := by
  show (xi ρ).bind _ = _
  rw [e]
  show Rs.guard _ _ = _
  unfold Rs.guard
  rw [if_pos (by omega), e2]
  rfl
theorem xlcF_ok {xt : XT} {j : Nat} {vs : List Nat} (e : xi ρ = .ok ds) (h : ds.length ≤ 1000) (e2 : xlc xt xe (wipeE ρ vs) j ds = .ok ys) : xLc xi xt xe j vs ρ = .ok (.list ys) := by
  show (xi ρ).bind _ = _
  rw [e]
  show Rs.guard _ _ = _
  unfold Rs.guard
  rw [if_pos (by omega), e2]
  rfl
theorem xlc_fil {xt : XT} {j : Nat} (p : Nat → Bool) (f : Nat → D) : ∀ (ds : List D) (b : Nat), (∀ (i : Nat) (h : i < ds.length), xt (ρ.set j (.im ds[i])) = .ok (p (b + i)) ∧ (p (b + i) = true → xe (ρ.set j (.im ds[i])) = .ok (f (b + i)))) → xlc xt xe ρ j ds = .ok (((List.range' b ds.length).filter p).map f)
  | [], b, _ => rfl
  | d :: r, b, h => by
    obtain ⟨h1, h2⟩ := h 0 (by simp)
    have hr := xlc_fil p f r (b + 1) fun i hi => by
      have := h (i + 1) (by simp; omega)
      rw [show b + (i + 1) = b + 1 + i by omega] at this
      simpa using this
    have h1' : xt (ρ.set j (.im d)) = .ok (p b) := by simpa using h1
    show ((xt (ρ.set j (.im d))).calm.bind _) = _
    rw [h1']
    show (if p b = true then _ else _) = _
    rw [List.length_cons, List.range'_succ]
    cases hb : p b with
    | true =>
      have h2' : xe (ρ.set j (.im d)) = .ok (f b) := by simpa using h2 (by simpa using hb)
      simp [h2', hr, hb]
    | false => simp [hr, hb]
theorem xcat_ok {xa xb : XE} {u v : List D} (e1 : xa ρ = .ok (.list u)) (e2 : xb ρ = .ok (.list v)) (h : u.length + v.length ≤ 1000) : xOp catD xa xb ρ = .ok (.list (u ++ v)) := by
  refine xop_ok e1 e2 ?_
  show (if u.length + v.length ≤ LIM then some (PyData.list (u ++ v)) else none) = _
  rw [if_pos (Nat.le_trans h (by decide))]
end
theorem xorF {xt xu : XT} {ρ : List En} {b : Bool} (e : xt ρ = .ok false) (h : xu ρ = .ok b) : xOr xt xu ρ = .ok b := by
  show (xt ρ).bind _ = _
  rw [e]
  exact h
theorem xorT {xt xu : XT} {ρ : List En} (e : xt ρ = .ok true) : xOr xt xu ρ = .ok true := by
  show (xt ρ).bind _ = _
  rw [e]
  rfl
theorem xaug_ok {g : Int → Int → Int} {i : Nat} {xa : XE} {ρ : List En} {a b : Int} (e : ρ[i]? = some (.im (.int a))) (e1 : xa ρ = .ok (.int b)) : xAug g i xa ρ = .ok (.nx (ρ.set i (.im (.int (g a b))))) := by
  unfold xAug
  rw [e]
  show lift (xa ρ) ρ _ = _
  rw [e1]
  rfl
theorem xmulA_ok {i : Nat} {xa : XE} {ρ : List En} {a b : Int} (e : ρ[i]? = some (.im (.int a))) (e1 : xa ρ = .ok (.int b)) (h : -(2 ^ 64) < b ∧ b < 2 ^ 64) : xMulA i xa ρ = .ok (.nx (ρ.set i (.im (.int (a * b))))) := by
  unfold xMulA
  rw [e]
  show lift (xa ρ) ρ _ = _
  rw [e1]
  exact guard_pos h
theorem ne_i (i j : Int) : neD (.int i) (.int j) = some (.bool (!(i == j))) := by
  unfold neD
  rw [if_pos ⟨rfl, rfl, rfl, rfl⟩]
  rfl
theorem forGo_inv {tg : WGt} {ws : WS} {dd : Dd} (I : Nat → List En → Nat → Prop) : ∀ (ds : List D) (n : Nat) (ρ : List En) (c : Nat),
    (∀ (i : Nat) (hi : i < ds.length) (ρ : List En) (c : Nat) (dd' : Dd), dd'.rt = dd.rt → I (n + i) ρ c → (∀ ρ' c', I (n + i + 1) ρ' c' → dd'.nx ρ' c') → tg ds[i] ρ fun ρ' => ws dd' ρ' c) →
    I n ρ c → (∀ ρ c, I (n + ds.length) ρ c → dd.nx ρ c) → forGo tg ws ds dd ρ c
  | [], n, ρ, c, _, h0, hn => hn ρ c h0
  | d :: r, n, ρ, c, st, h0, hn => by
    refine st 0 (by simp) ρ c _ rfl h0 fun ρ' c' h' => ?_
    refine forGo_inv I r (n + 1) ρ' c' (fun i hi ρ c dd' e h k => ?_) h' fun ρ c h => hn ρ c ?_
    · have := st (i + 1) (by simp; omega) ρ c dd' e (by rw [show n + (i + 1) = n + 1 + i by omega]; exact h) (by rw [show n + (i + 1) + 1 = n + 1 + i + 1 by omega]; exact k)
      simpa using this
    · rw [List.length_cons, show n + (r.length + 1) = n + 1 + r.length by omega]
      exact h
theorem nxt {x : XS} {w : WS} (k : RfS noR x w) {ρ ρ' : List En} (e : x ρ = .ok (.nx ρ')) {dd : Dd} {c : Nat} (q : dd.nx ρ' c) : w dd ρ c := k dd ρ c (by rw [e]; exact q)
theorem rtn {x : XS} {w : WS} (k : RfS noR x w) {ρ : List En} {d : D} (e : x ρ = .ok (.rt d)) {dd : Dd} {c : Nat} (q : dd.rt d c) : w dd ρ c := k dd ρ c (by rw [e]; exact q)
/-- a number is drawn -/
theorem drw {i : Nat} {ρ : List En} {c : Nat} {Q : D → Nat → Prop} {xa : XE} {wa : WE} (k : RfE (fun _ _ _ => False) xa wa) {t : Int} (e : xa ρ = .ok (.int t)) (h0 : ρ[i]? = some .st) (h1 : 0 < t) (h2 : t < 2 ^ 200) (hc : c < 2 ^ 60) (q : ∀ n : Nat, (n : Int) < t → Q (.int n) (c + 1)) : wCall nextW (gSt i (gIm wa HW.gNil)) ρ c Q :=
  ⟨h0, k ρ c _ (by rw [e]; exact ⟨t, rfl, h1, h2, hc, fun n g0 g1 => by
    obtain ⟨m, rfl⟩ := Int.eq_ofNat_of_zero_le g0
    exact q m g1⟩)⟩
theorem cast1 (k : Nat) : (1 : Int) + (k : Int) = ((k + 1 : Nat) : Int) := by omega
theorem ne_rp {d : D} {W dep : Nat} (h : Rp d W dep) (hd : dep ≤ 60) : neD d d = some (.bool false) := by
  unfold neD
  have sh : SeqAt.shaped d = true := by
    show (PyData.canLay0 d && decide (PyData.depth d ≤ 64)) = true
    have := h.d
    rw [h.l, decide_eq_true (by omega)]
    rfl
  rw [if_pos ⟨h.f, h.f, sh, sh⟩, SeqAt.eqv_refl d h.l]
  rfl
theorem log_small {i : Int} (h0 : 0 ≤ i) (h1 : i < 10 ^ 10) : i.natAbs.log2 < 1920 := Nat.lt_of_lt_of_le (PySem.Flt.log2_lt_of (k := 34) (by decide) (by omega)) (by decide)
theorem repI {i : Int} (h0 : 0 ≤ i) (h1 : i < 10 ^ 10) : reprID (.int i) = some (.str (toString i)) := if_pos (log_small h0 h1)
theorem ne_tos (i : Int) : neD (.str (toString i)) (.str (toString i)) = some (.bool false) := by
  have := okS_int i
  rw [PyData.shown_int] at this
  exact ne_same this
theorem forGo_inv2 {tg : WGt} {ws : WS} {dd : Dd} (I : Nat → List En → Nat → Prop) : ∀ (ds : List D) (n : Nat) (ρ : List En) (c : Nat),
    (∀ (i : Nat) (hi : i < ds.length) (ρ : List En) (c : Nat) (dd' : Dd), dd'.rt = dd.rt → I (n + i) ρ c → (∀ ρ' c', I (n + i + 1) ρ' c' → dd'.nx ρ' c' ∧ dd'.ct ρ' c') → tg ds[i] ρ fun ρ' => ws dd' ρ' c) →
    I n ρ c → (∀ ρ c, I (n + ds.length) ρ c → dd.nx ρ c) → forGo tg ws ds dd ρ c
  | [], n, ρ, c, _, h0, hn => hn ρ c h0
  | d :: r, n, ρ, c, st, h0, hn => by
    refine st 0 (by simp) ρ c _ rfl h0 fun ρ' c' h' => ?_
    have key : forGo tg ws r dd ρ' c' := by
      refine forGo_inv2 I r (n + 1) ρ' c' (fun i hi ρ c dd' e h k => ?_) h' fun ρ c h => hn ρ c ?_
      · have := st (i + 1) (by simp; omega) ρ c dd' e (by rw [show n + (i + 1) = n + 1 + i by omega]; exact h) (by rw [show n + (i + 1) + 1 = n + 1 + i + 1 by omega]; exact k)
        simpa using this
      · rw [List.length_cons, show n + (r.length + 1) = n + 1 + r.length by omega]
        exact h
    exact ⟨key, key⟩
theorem ofA {R : RR} {xA : XA} {wA : WA} (k : RfA R xA wA) {ρ : List En} {ds : List D} (e : xA ρ = .ok ds) {Q : List D → Nat → Prop} {c : Nat} (q : Q ds c) : wA ρ c Q := k ρ c Q (by rw [e]; exact q)
theorem le_i (a b : Int) : leAD (.int a) (.int b) = some (.bool (decide (a ≤ b))) := rfl
theorem ge_i (a b : Int) : geD (.int a) (.int b) = some (.bool (decide (b ≤ a))) := rfl
theorem repN {i : Int} (h0 : 0 ≤ i) (h1 : i < 10 ^ 10) : reprND (.int i) = some (.str (toString i)) := if_pos (log_small h0 h1)
theorem rng_in {i : Int} (h0 : 0 ≤ i) (h1 : i < 1000) : -(2 ^ 62) ≤ i ∧ i < 2 ^ 62 := by omega
end Pf

/-! C2: texts -/
namespace Pf
open PySem L2 HW
def Sm (l : List Nat) : Prop := (∀ c ∈ l, c < 0x110000) ∧ l.length ≤ 1000
theorem lay_S {l : List Nat} (h : ∀ c ∈ l, c < 0x110000) : SeqAt.shaped (.str (S l)) = true := by
  show (PyData.canLay0 (.str (S l)) && decide (PyData.depth (.str (S l)) ≤ 64)) = true
  have : PyData.canLay0 (.str (S l)) = true := by
    show (S l).cps.all (· < 0x110000) = true
    simp [S]
    exact h
  rw [this]
  rfl
theorem eq_S {a b : List Nat} (ha : ∀ c ∈ a, c < 0x110000) (hb : ∀ c ∈ b, c < 0x110000) : eqD (.str (S a)) (.str (S b)) = some (.bool (decide (a = b))) := by
  unfold eqD
  rw [if_pos ⟨rfl, rfl, lay_S ha, lay_S hb⟩]
  show some (PyData.bool (S a == S b)) = _
  rw [S_beq]
theorem ne_S {a b : List Nat} (ha : ∀ c ∈ a, c < 0x110000) (hb : ∀ c ∈ b, c < 0x110000) : neD (.str (S a)) (.str (S b)) = some (.bool (!decide (a = b))) := by
  unfold neD
  rw [if_pos ⟨rfl, rfl, lay_S ha, lay_S hb⟩]
  show some (PyData.bool (!(S a == S b))) = _
  rw [S_beq]
theorem lim {n : Nat} (h : n ≤ 1000) : n ≤ LIM := Nat.le_trans h (by decide)
theorem len_S (l : List Nat) (h : l.length ≤ LIM) : lenD (.str (S l)) = some (.int l.length) := by
  show (if (S l).length ≤ LIM then some (PyData.int (S l).length) else none) = _
  rw [S_len, if_pos h]
abbrev sE (l : List Nat) : En := .im (.str (S l))
theorem tw_all {p : Nat → Bool} : ∀ {l : List Nat}, (∀ c ∈ l, p c = true) → l.takeWhile p = l
  | [], _ => rfl
  | a :: r, h => by rw [List.takeWhile_cons, if_pos (h a List.mem_cons_self), tw_all fun c hc => h c (List.mem_cons_of_mem _ hc)]
theorem sig_at {l : List Nat} {i : Nat} (h : i < (signs (S l)).length) : ∃ h' : i < l.length, (signs (S l))[i] = cD l[i] := by
  have e := signs_S l
  have h1 : i < l.length := by rw [e, List.length_map] at h; exact h
  refine ⟨h1, ?_⟩
  have : (signs (S l))[i]? = (l.map cD)[i]? := by rw [e]
  rw [List.getElem?_eq_getElem h, List.getElem?_map, List.getElem?_eq_getElem h1] at this
  exact Option.some.inj this
theorem strip_all {x y : List Nat} (h : ∀ c ∈ x, c ∈ y) : Txt.stripChars (S x) (S y) = S [] := by
  unfold Txt.stripChars
  rw [PyProof.Rows.stripBy_eq]
  have e : (S x).cps.toList.takeWhile (S y).cps.contains = x := by
    rw [S_cps]
    refine tw_all fun c hc => ?_
    simpa [S] using h c hc
  have lo : stripLo (S y).cps.contains true (S x) = x.length := by
    unfold stripLo
    rw [if_pos rfl, e]
  rw [lo]
  have hi : stripHi (S y).cps.contains true (S x) x.length = x.length := by
    unfold stripHi
    rw [if_pos rfl, S_cps, List.drop_length]
    simp [S_len]
  rw [hi]
  show (⟨(S x).cps.extract x.length x.length⟩ : Str) = S []
  simp [S]
theorem sig_len (l : List Nat) : (signs (S l)).length = l.length := by rw [signs_S, List.length_map]
theorem sl_S (l : List Nat) (lo hi : Option Int) (h : l.length ≤ LIM) : slD (.str (S l)) lo hi = some (.str (S (cutL l lo hi))) := by
  show (if (S l).length ≤ LIM then some (PyData.str (cutS (S l) lo hi)) else none) = _
  rw [S_len, if_pos h]
  unfold cutS cutL
  rw [S_cps, S_len]
  rfl
theorem joinC_S : ∀ ls : List Nat, Str.join (S []) (ls.map fun c => S [c]) = S ls
  | [] => rfl
  | [c] => rfl
  | c :: d :: r => by
    have ih := joinC_S (d :: r)
    show S [c] ++ S [] ++ Str.join (S []) ((d :: r).map fun c => S [c]) = _
    rw [ih, S_add, S_add]
    rfl
theorem joinS (ls : List Nat) (h : ls.length ≤ 1000) : joinD (.str "") (.list (ls.map cD)) = some (.str (S ls)) := by
  show ((some (ls.map cD)).bind strsOf).bind _ = _
  rw [Option.bind_some, show ls.map cD = (ls.map fun c => S [c]).map PyData.str by simp, strsOf_map, Option.bind_some]
  have e1 : ((ls.map fun c => S [c]).map (·.length)).sum = ls.length := by
    rw [List.map_map]
    have : ((fun x : Str => x.length) ∘ fun c => S [c]) = fun _ => 1 := by funext c; exact S_len [c]
    rw [this]
    clear h
    induction ls with
    | nil => rfl
    | cons a r ih => simp [ih]; omega
  rw [e1]
  rw [if_pos (by show ls.length + _ * 0 ≤ _; omega)]
  show some (PyData.str (Builtin.Str.glued (S []) _)) = _
  rw [PySem.StrLaws.glued_eq_join, joinC_S]
theorem cut_one (l : List Nat) {i : Nat} (h : i ≤ l.length) : cutL l (some (i : Int)) (some ((i : Int) + 1)) = (l.drop i).take 1 := by
  unfold cutL
  rw [show (i : Int) + 1 = ((i + 1 : Nat) : Int) by omega, HT.sIx_nat, HT.sIx_nat, show min i l.length = i by omega]
  by_cases h2 : i < l.length
  · rw [show min (i + 1) l.length - i = 1 by omega]
  · rw [List.drop_eq_nil_of_le (by omega)]
    simp
theorem cut_lo (l : List Nat) {i : Nat} (h : i ≤ l.length) : cutL l none (some (i : Int)) = l.take i := by
  unfold cutL
  rw [HT.sIx_nat, HT.sIx_none, show min i l.length - 0 = i by omega]
  rfl
theorem cut_hi (l : List Nat) (i : Nat) : cutL l (some ((i : Int) + 1)) none = l.drop (i + 1) := by
  unfold cutL
  rw [show (i : Int) + 1 = ((i + 1 : Nat) : Int) by omega, HT.sIx_nat, HT.sIx_none]
  by_cases h2 : i + 1 ≤ l.length
  · rw [show min (i + 1) l.length = i + 1 by omega, List.take_of_length_le (by simp)]
  · rw [List.drop_eq_nil_of_le (by omega : l.length ≤ i + 1), List.drop_eq_nil_of_le (by omega)]
    simp
theorem xcatW_ok {xa xb : XE} {ρ : List En} {u v : List D} (e1 : xa ρ = .ok (.list u)) (e2 : xb ρ = .ok (.list v)) (h : u.length + v.length ≤ LIM) : xOp catD xa xb ρ = .ok (.list (u ++ v)) := xop_ok e1 e2 (if_pos h)
theorem xlcW_ok {xi : XA} {xt : XT} {xe : XE} {ρ : List En} {ds ys : List D} {j : Nat} {vs : List Nat} (e : xi ρ = .ok ds) (h : ds.length ≤ 16000000) (e2 : xlc xt xe (wipeE ρ vs) j ds = .ok ys) : xLc xi xt xe j vs ρ = .ok (.list ys) := by
  show (xi ρ).bind _ = _
  rw [e]
  show Rs.guard _ _ = _
  unfold Rs.guard
  rw [if_pos h, e2]
  rfl
theorem xlc_filL {α : Type} {xt : XT} {xe : XE} {ρ : List En} {j : Nat} (p : α → Bool) (f g : α → D) : ∀ (ws : List α), (∀ w ∈ ws, xt (ρ.set j (.im (f w))) = .ok (p w) ∧ (p w = true → xe (ρ.set j (.im (f w))) = .ok (g w))) → xlc xt xe ρ j (ws.map f) = .ok ((ws.filter p).map g)
  | [], _ => rfl
  | w :: r, h => by
    obtain ⟨h1, h2⟩ := h w List.mem_cons_self
    have hr := xlc_filL p f g r fun x hx => h x (List.mem_cons_of_mem _ hx)
    show ((xt (ρ.set j (.im (f w)))).calm.bind _) = _
    rw [h1]
    show (if p w = true then _ else _) = _
    rw [List.filter_cons]
    cases hb : p w with
    | true => simp [h2 hb, hr]
    | false => simp [hr]
theorem xtru_ok {xa : XE} {ρ : List En} {b : Bool} (e : xa ρ = .ok (.bool b)) : xTru xa ρ = .ok b := by
  show (xa ρ).bind _ = _
  rw [e]
  rfl
theorem xitL_ok {xa : XE} {ρ : List En} {ds : List D} (e : xa ρ = .ok (.list ds)) : xItL xa ρ = .ok ds := by
  show (xa ρ).bind _ = _
  rw [e]
  rfl
theorem xitS_ok {xa : XE} {ρ : List En} {l : List Nat} (e : xa ρ = .ok (.str (S l))) : xItS xa ρ = .ok (l.map cD) := by
  show (xa ρ).bind _ = _
  rw [e]
  show Rs.ok (signs (S l)) = _
  rw [signs_S]
theorem xsl_ok {xa : XE} {xl xh : XO} {ρ : List En} {x z : D} {o p : Option Int} (e : xa ρ = .ok x) (e1 : xl ρ = .ok o) (e2 : xh ρ = .ok p) (e3 : slD x o p = some z) : xSl xa xl xh ρ = .ok z := by
  show (xa ρ).bind _ = _
  rw [e]
  show (xl ρ).bind _ = _
  rw [e1]
  show (xh ρ).bind _ = _
  rw [e2]
  show Rs.ofO _ = _
  rw [e3]
  rfl
theorem xso_ok {xa : XE} {ρ : List En} {i : Int} (e : xa ρ = .ok (.int i)) : xSo xa ρ = .ok (some i) := by
  show (xa ρ).bind _ = _
  rw [e]
  rfl
theorem xfind_ok {xa xb xc : XE} {ρ : List En} {s t : Str} {i : Int} (e : xa ρ = .ok (.str s)) (e1 : xb ρ = .ok (.str t)) (e2 : xc ρ = .ok (.int i)) : xFind xa xb xc ρ = .ok (.int (Txt.find3 s t i)) := by
  unfold xFind
  rw [e]
  show (xb ρ).bind _ = _
  rw [e1]
  show (xc ρ).bind _ = _
  rw [e2]
  rfl
end Pf

/-! D1: numbers as texts; texts put together and cut again -/
namespace Pf
open PySem L2 HW
abbrev sD (w : List Nat) : D := .str (S w)
def dg (n : Nat) : List Nat := (PySem.Str.ofString (toString (n : Int))).cps.toList
theorem dg_S (n : Nat) : S (dg n) = PySem.Str.ofString (toString (n : Int)) := by
  unfold dg S
  simp
def chk (n : Nat) : Bool := decide (1 ≤ (dg n).length ∧ (dg n).length ≤ 4) && ((dg n).all (fun c => decide (48 ≤ c ∧ c ≤ 57)) && (decide (n = 0) || decide ((dg n).head? ≠ some 48)))
theorem chk_all : (List.range 1001).all chk = true := by decide +kernel
theorem dg_zero : dg 0 = [48] := by decide +kernel
structure Dg (n : Nat) : Prop where
  l1 : 1 ≤ (dg n).length
  l4 : (dg n).length ≤ 4
  f : ∀ c ∈ dg n, 48 ≤ c ∧ c ≤ 57
  h : n = 0 ∨ (dg n).head? ≠ some 48
theorem dg_ok {n : Nat} (h : n ≤ 1000) : Dg n := by
  have := List.all_eq_true.mp chk_all n (List.mem_range.mpr (by omega))
  unfold chk at this
  simp only [Bool.and_eq_true, Bool.or_eq_true, decide_eq_true_eq, List.all_eq_true] at this
  exact ⟨this.1.1, this.1.2, this.2.1, this.2.2⟩
theorem dg_reads {n : Nat} (h : n ≤ 1000) : PySem.intText? (S (dg n)) = some (n : Int) := by
  rw [dg_S]
  exact PySem.W.KIN.num_reads (by omega) (by omega)
theorem dg_inj {a b : Nat} (ha : a ≤ 1000) (hb : b ≤ 1000) (e : dg a = dg b) : a = b := by
  have h1 := dg_reads ha
  rw [e, dg_reads hb] at h1
  have := Option.some.inj h1
  omega
theorem sx_S (l : List Nat) : SX.S l = S l := rfl
/-- put together -/
theorem tjoin (a : List Nat) (ys : List (List Nat)) : Txt.join (S a) (ys.map S) = S (TL.joinL a ys) := SX.join_S a ys
/-- cut -/
theorem tsplit {c : Nat} (hc : c < 256) {parts : List (List Nat)} (hne : parts ≠ []) (h : ∀ p ∈ parts, c ∉ p) : Txt.split (S (TL.joinL [c] parts)) (S [c]) = parts.map S := by
  have e := SX.split_S (a := TL.joinL [c] parts) (b := [c]) (by simp) (by simpa using hc)
  rw [SX.spl_join hne h] at e
  exact e
theorem joinL_len (c : Nat) : ∀ ys : List (List Nat), (TL.joinL [c] ys).length ≤ (ys.map (·.length)).sum + ys.length
  | [] => Nat.zero_le _
  | [p] => by simp [TL.joinL]
  | p :: q :: r => by
    have := joinL_len c (q :: r)
    show (p ++ ([c] ++ TL.joinL [c] (q :: r))).length ≤ _
    simp only [List.length_append, List.length_cons, List.length_nil, List.map_cons, List.sum_cons] at this ⊢
    omega
theorem joinL_mem {c x : Nat} : ∀ {ys : List (List Nat)}, x ∈ TL.joinL [c] ys → x = c ∨ ∃ y ∈ ys, x ∈ y
  | [], h => by cases h
  | [p], h => .inr ⟨p, List.mem_cons_self, h⟩
  | p :: q :: r, h => by
    have h' : x ∈ p ++ ([c] ++ TL.joinL [c] (q :: r)) := h
    rcases List.mem_append.mp h' with z | z
    · exact .inr ⟨p, List.mem_cons_self, z⟩
    · rcases List.mem_append.mp z with z | z
      · exact .inl (List.mem_singleton.mp z)
      · rcases joinL_mem z with w | ⟨y, hy, w⟩
        · exact .inl w
        · exact .inr ⟨y, List.mem_cons_of_mem _ hy, w⟩
theorem joinL_inj {c : Nat} (hc : c < 256) {xs ys : List (List Nat)} (hx : xs ≠ []) (hy : ys ≠ []) (fx : ∀ p ∈ xs, c ∉ p) (fy : ∀ p ∈ ys, c ∉ p) (e : TL.joinL [c] xs = TL.joinL [c] ys) : xs = ys := by
  have h1 := SX.spl_join (sep := []) hx fx
  have h2 := SX.spl_join (sep := []) hy fy
  rw [e] at h1
  exact h1.symm.trans h2
theorem sum_le {m : Nat} : ∀ {ys : List (List Nat)}, (∀ y ∈ ys, y.length ≤ m) → (ys.map (·.length)).sum ≤ ys.length * m
  | [], _ => Nat.zero_le _
  | y :: r, h => by
    have := sum_le fun x hx => h x (List.mem_cons_of_mem _ hx)
    have := h y List.mem_cons_self
    rw [List.map_cons, List.sum_cons, List.length_cons, Nat.add_mul]
    omega
theorem strs_of : ∀ ps : List (List Nat), strsOf (ps.map sD) = some (ps.map S)
  | [] => rfl
  | p :: r => by
    show (strsOf (r.map sD)).map (S p :: ·) = _
    rw [strs_of r]
    rfl
theorem joinD_sep (c : Nat) {ys : List (List Nat)} {m : Nat} (hl : ys.length ≤ 1000) (hm : ∀ y ∈ ys, y.length ≤ m) (h : m ≤ 1000) : joinD (.str (S [c])) (.list (ys.map sD)) = some (.str (S (TL.joinL [c] ys))) := by
  show ((some (ys.map sD)).bind strsOf).bind _ = _
  rw [Option.bind_some, strs_of, Option.bind_some]
  have e1 : ((ys.map S).map (·.length)).sum = (ys.map (·.length)).sum := by
    rw [List.map_map]
    congr 1
  have s := sum_le hm
  have s2 : ys.length * m ≤ 1000 * 1000 := Nat.mul_le_mul hl h
  rw [e1, if_pos (by
    show (ys.map (·.length)).sum + (ys.map S).length * 1 ≤ _
    rw [List.length_map]
    omega)]
  rw [tjoin]
theorem spD_cut {c : Nat} (hc : c < 256) {ys : List (List Nat)} {m : Nat} (hne : ys ≠ []) (hf : ∀ y ∈ ys, c ∉ y) (hl : ys.length ≤ 1000) (hm : ∀ y ∈ ys, y.length ≤ m) (h : m ≤ 1000) : spD (.str (S (TL.joinL [c] ys))) (.str (S [c])) = some (.list (ys.map sD)) := by
  have s := sum_le hm
  have s2 : ys.length * m ≤ 1000 * 1000 := Nat.mul_le_mul hl h
  have := joinL_len c ys
  have lm : (S (TL.joinL [c] ys)).length + 2 ≤ LIM := by
    rw [S_len]
    have : LIM = 16777216 := rfl
    omega
  refine (if_pos ⟨rfl, lm⟩).trans ?_
  rw [tsplit hc hne hf, List.map_map]
  rfl
end Pf

/-! D2: runs put together -/
namespace Pf
open PySem L2 HW
abbrev codeL : List Nat := [48, 49, 50, 51, 52, 53, 54, 55, 56, 57, 97, 98, 99, 100, 101, 102, 103, 104, 105, 106, 107, 108, 109, 110, 111, 112, 113, 114, 115, 116, 117, 118, 119, 120, 121, 122]
theorem code_eq : ("0123456789abcdefghijklmnopqrstuvwxyz" : Str) = S codeL := rfl
theorem code_lo {c : Nat} (h : c ∈ codeL) : c < 0x110000 := by
  have : ∀ c ∈ codeL, c < 0x110000 := by decide
  exact this c h
section
variable {xa xb xc : XE} {ρ : List En} {a b : Bool} {r : Rs D} {x y z d : D} {f g : D → D → Option D}
theorem xandV_T (e : xa ρ = .ok (.bool true)) (h : xb ρ = r) : xAndV xa xb ρ = r := by
  show (xa ρ).bind _ = _
  rw [e]
  exact h
theorem xandV_F (e : xa ρ = .ok (.bool false)) : xAndV xa xb ρ = .ok (.bool false) := by
  show (xa ρ).bind _ = _
  rw [e]
  rfl
theorem xandV_b (e : xa ρ = .ok (.bool a)) (h : xb ρ = .ok (.bool b)) : xAndV xa xb ρ = .ok (.bool (a && b)) := by
  cases a with
  | true => exact xandV_T e h
  | false => exact xandV_F e
theorem xnotV_b (e : xa ρ = .ok (.bool a)) : xNotV xa ρ = .ok (.bool (!a)) := by
  show (xa ρ).bind _ = _
  rw [e]
  rfl
theorem xlk {i : Nat} (h : ρ[i]? = some (.im d)) : xLook i ρ = .ok d := by
  show Rs.ofO (ρ[i]?.bind En.look) = _
  rw [h]
  rfl
theorem xvr {i : Nat} (h : ρ[i]? = some (.im d)) : xVar i ρ = .ok d := by
  show (match ρ[i]? with | some (.im d) => Rs.ok d | _ => .bad) = _
  rw [h]
theorem xchain_b {i j : Bool} (e1 : xa ρ = .ok x) (e2 : xb ρ = .ok y) (e3 : xc ρ = .ok z) (h1 : f x y = some (.bool i)) (h2 : g y z = some (.bool j)) : xChain f g xa xb xc ρ = .ok (.bool (i && j)) := by
  show (xa ρ).bind _ = _
  rw [e1]
  show (xb ρ).bind _ = _
  rw [e2]
  show (Rs.ofO ((f x y).bind bl)).bind _ = _
  rw [h1]
  cases i with
  | true =>
    show (xc ρ).bind _ = _
    rw [e3]
    show Rs.ofO (g y z) = _
    rw [h2]
    rfl
  | false => rfl
theorem xms_ok {s : Str} (e1 : xa ρ = .ok (.str s)) (e2 : xb ρ = .ok y) (e3 : f (.str s) y = some z) : xMS f xa xb ρ = .ok z := by
  show (xa ρ).bind _ = _
  rw [e1]
  refine (guard_pos (show isStr (.str s) = true from rfl)).trans ?_
  rw [e2]
  show Rs.ofO (f (.str s) y) = _
  rw [e3]
  rfl
theorem xor_b {xt xu : XT} {a b : Bool} (e : xt ρ = .ok a) (h : xu ρ = .ok b) : xOr xt xu ρ = .ok (a || b) := by
  cases a with
  | true => exact xorT e
  | false => exact xorF e h
theorem xnot_b {xt : XT} {b : Bool} (e : xt ρ = .ok b) : xNot xt ρ = .ok (!b) := by
  show (xt ρ).bind _ = _
  rw [e]
  rfl
theorem tru_b {b : Bool} (e : xa ρ = .ok (.bool b)) : xNot (xTru xa) ρ = .ok (!b) := xnot_b (xtru_ok e)
theorem xg1 (e : xa ρ = .ok d) : xgIm xa xgNil ρ = .ok [.im d] := by
  show (xa ρ).bind _ = _
  rw [e]
  rfl
theorem xgc {xg : XG} {es : List En} (e : xa ρ = .ok d) (h : xg ρ = .ok es) : xgIm xa xg ρ = .ok (.im d :: es) := by
  show (xa ρ).bind _ = _
  rw [e]
  show (xg ρ).bind _ = _
  rw [h]
  rfl
theorem xgnil_ok {ρ : List En} : xgNil ρ = .ok [] := rfl
end
theorem xseq_rt {xs xr : XS} {ρ : List En} {d : D} (e : xs ρ = .ok (.rt d)) : xSeq xs xr ρ = .ok (.rt d) := by
  show (xs ρ).bind _ = _
  rw [e]
  rfl
theorem xseq_ex {xs xr : XS} {ρ : List En} {x : Xd} (e : xs ρ = .ex x) : xSeq xs xr ρ = .ex x := by
  show (xs ρ).bind _ = _
  rw [e]
  rfl
def isI (d : D) (a b : Int) : Bool := match d with
  | .int i => decide (a ≤ i) && decide (i ≤ b)
  | _ => false
def tupIn (d : D) (a b : Int) : Bool := match d with
  | .tuple ds => decide (a ≤ ds.length) && decide ((ds.length : Int) ≤ b)
  | _ => false
theorem r_whole (d : D) : x_is_whole [.im d] = .ok (.bool (match d with | .int _ => true | _ => false)) := by cases d <;> rfl
theorem r_isI (d : D) (a b : Int) : x_is_integer [.im d, .im (.int a), .im (.int b)] = .ok (.bool (isI d a b)) := by
  refine xdef_rt rfl (xret_ok ?_)
  cases d with
  | int i => exact xandV_T (xcall_ok (xg1 (xvr rfl)) (r_whole _)) (xchain_b (xlk rfl) (xlk rfl) (xlk rfl) (le_i _ _) (le_i _ _))
  | _ => exact xandV_F (xcall_ok (xg1 (xvr rfl)) (r_whole _))
theorem r_tupIn (d : D) (a b : Int) : x_is_tuple [.im d, .im (.int a), .im (.int b)] = .ok (.bool (tupIn d a b)) := by
  refine xdef_rt rfl (xret_ok ?_)
  cases d with
  | tuple ds => exact xandV_T (xf_ok (xlk rfl) rfl) (xchain_b (xlk rfl) (xf_ok (xlk rfl) rfl) (xlk rfl) (le_i _ _) (le_i _ _))
  | _ => exact xandV_F (xf_ok (xlk rfl) rfl)
theorem xdef_xx {xs : XS} {N : List Str} {n : Nat} {es ρ : List En} {x : Xd} (h : es.length = n) (e : xs (startE N es) = .ok (.xx x ρ)) : xDef n N xs es = .ex x := by
  show Rs.guard _ _ = _
  unfold Rs.guard
  rw [if_pos h, e]
  rfl
theorem xseq_xx {xs xr : XS} {ρ ρ' : List En} {x : Xd} (e : xs ρ = .ok (.xx x ρ')) : xSeq xs xr ρ = .ok (.xx x ρ') := by
  show (xs ρ).bind _ = _
  rw [e]
  rfl
def firstF (p : Nat → Bool) : Nat → Nat → Option Nat
  | _, 0 => none
  | n, k + 1 => if p n = true then firstF p (n + 1) k else some n
theorem xfor_find {tg : XTg} {xs : XS} (I : Nat → List En → Prop) (p : Nat → Bool) (Out : Nat → Fl → Prop) (hO : ∀ i f, Out i f → (∃ d, f = .rt d) ∨ ∃ x ρ, f = .xx x ρ) : ∀ (r : List D) (n : Nat) (ρ : List En),
    (∀ (i : Nat) (hi : i < r.length) (ρ : List En), I (n + i) ρ → ∃ ρ1, tg r[i] ρ = some ρ1 ∧ (p (n + i) = true → ∃ ρ2, xs ρ1 = .ok (.nx ρ2) ∧ I (n + i + 1) ρ2) ∧ (p (n + i) = false → ∃ f, xs ρ1 = .ok f ∧ Out (n + i) f)) → I n ρ →
      (firstF p n r.length = none → ∃ ρ', xfor tg xs r ρ = .ok (.nx ρ') ∧ I (n + r.length) ρ') ∧ (∀ k, firstF p n r.length = some k → ∃ f, xfor tg xs r ρ = .ok f ∧ Out k f)
  | [], n, ρ, _, h => ⟨fun _ => ⟨ρ, rfl, h⟩, fun k e => (by cases e)⟩
  | d :: r, n, ρ, st, h => by
    obtain ⟨ρ1, e1, yes, no⟩ := st 0 (by simp) ρ h
    have e1' : tg d ρ = some ρ1 := e1
    have step : xfor tg xs (d :: r) ρ = (xs ρ1).bind fun f => match f with
      | .nx ρ2 => xfor tg xs r ρ2
      | .ct ρ2 => xfor tg xs r ρ2
      | .bk ρ2 => .ok (.nx ρ2)
      | .rt d => .ok (.rt d)
      | .xx x ρ2 => .ok (.xx x ρ2) := by
      show (Rs.ofO (tg d ρ)).bind _ = _
      rw [e1']
      rfl
    rw [Nat.add_zero] at yes no
    by_cases hp : p n = true
    · obtain ⟨ρ2, e2, h2⟩ := yes hp
      have ih := xfor_find I p Out hO r (n + 1) ρ2 (fun i hi ρ h => by
        have := st (i + 1) (by simp; omega) ρ (by rw [show n + (i + 1) = n + 1 + i by omega]; exact h)
        rw [show n + (i + 1) = n + 1 + i by omega] at this
        simpa using this) h2
      have es : xfor tg xs (d :: r) ρ = xfor tg xs r ρ2 := by rw [step, e2]; rfl
      have ef : firstF p n (d :: r).length = firstF p (n + 1) r.length := if_pos hp
      rw [ef, es, List.length_cons, show n + (r.length + 1) = n + 1 + r.length by omega]
      exact ih
    · have hp' : p n = false := by simpa using hp
      obtain ⟨f, e2, o⟩ := no hp'
      have ef : firstF p n (d :: r).length = some n := if_neg hp
      rw [ef]
      refine ⟨fun e => (by cases e), fun k e => ⟨f, ?_, (Option.some.inj e) ▸ o⟩⟩
      rw [step, e2]
      rcases hO n f o with ⟨d, rfl⟩ | ⟨x, ρ, rfl⟩ <;> rfl
theorem xtup_ok {xA : XA} {ρ : List En} {ds : List D} (e : xA ρ = .ok ds) (h : ds.length ≤ LIM) : xTup xA ρ = .ok (.tuple ds) := by
  show (xA ρ).bind _ = _
  rw [e]
  exact guard_pos h
theorem xlst_ok {xA : XA} {ρ : List En} {ds : List D} (e : xA ρ = .ok ds) (h : ds.length ≤ LIM) : xLst xA ρ = .ok (.list ds) := by
  show (xA ρ).bind _ = _
  rw [e]
  exact guard_pos h
theorem ifRet {xt : XT} {xr : XS} {xa : XE} {ρ : List En} {b : Bool} {v : D} {r : Rs Fl} (e : xt ρ = .ok b) (ha : xa ρ = .ok v) (h : (if b = true then .ok (.rt v) else xr ρ) = r) : xSeq (xIf xt (xRet xa) xNext) xr ρ = r := by
  cases b with
  | true =>
    rw [← h]
    exact xseq_rt (xifT e (xret_ok ha))
  | false =>
    rw [← h]
    exact xseq_nx (xifF e rfl) rfl
theorem ixT {ds : List D} {i : Nat} (h : i < ds.length) : ixD (.tuple ds) (.int i) = some (ds.getD i .none) := by
  show atI ds i = _
  unfold atI ixN
  rw [if_pos (by omega), if_pos (by omega), List.getD_eq_getElem?_getD]
  have : ((i : Int)).toNat = i := by omega
  rw [this]
  simp [h]

theorem xitT_ok' {xa : XE} {ρ : List En} {ds : List D} (e : xa ρ = .ok (.tuple ds)) : xItT xa ρ = .ok ds := by
  show (xa ρ).bind _ = _
  rw [e]
  rfl
theorem xlc_mapL {xe : XE} {ρ : List En} {j : Nat} {g : D → D} : ∀ ds : List D, (∀ d ∈ ds, xe (ρ.set j (.im d)) = .ok (g d)) → xlc xYes xe ρ j ds = .ok (ds.map g)
  | [], _ => rfl
  | d :: r, h => by
    have h0 := h d List.mem_cons_self
    have hr := xlc_mapL r fun x hx => h x (List.mem_cons_of_mem _ hx)
    simp [h0, hr]
theorem xand_b {xt xu : XT} {ρ : List En} {a b : Bool} (e : xt ρ = .ok a) (h : xu ρ = .ok b) : xAnd xt xu ρ = .ok (a && b) := by
  cases a with
  | true => exact xandT e h
  | false => exact xandF e
theorem xdrop_X {xa : XE} {ρ : List En} {d : D} {xr : XS} {r : Rs Fl} (e : xa ρ = .ok d) (k : xr ρ = r) : xSeq (xDrop xa) xr ρ = r := xseq_nx (xdrop_ok e) k
theorem ct_seq {xs xr : XS} {ρ ρ' : List En} (e : xs ρ = .ok (.ct ρ')) : xSeq xs xr ρ = .ok (.ct ρ') := by
  show (xs ρ).bind _ = _
  rw [e]
  rfl
theorem xlkl {i : Nat} {ds : List D} {ρ : List En} (h : ρ[i]? = some (.ls ds)) : xLook i ρ = .ok (.list ds) := by
  show Rs.ofO (ρ[i]?.bind En.look) = _
  rw [h]
  rfl
theorem js_nil {acc : PySem.Str} {ρ : List En} : xJs [] acc ρ = .ok (.str acc) := rfl
theorem js_cons {xa : XE} {xs : List XE} {acc y : List Nat} {ρ : List En} (e : xa ρ = .ok (sD y)) (h : y.length ≤ 1000) (h2 : acc.length ≤ 100000) : xJs (xa :: xs) (S acc) ρ = xJs xs (S (acc ++ y)) ρ := by
  show (xa ρ).bind _ = _
  rw [e]
  show Rs.guard _ _ = _
  rw [S_add]
  refine guard_pos ?_
  simp only [S_len, List.length_append]
  have : LIM = 16777216 := rfl
  omega
/-- two things of the same data are shown alike -/
theorem eq_same {x : PySem.Str} (h : okS x) : eqD (.str x) (.str x) = some (.bool true) := by
  unfold eqD
  rw [if_pos ⟨rfl, rfl, okS_shaped h, okS_shaped h⟩]
  show some (PyData.bool (x == x)) = _
  simp
theorem reprChars : (List.range 128).all (fun c => (Builtin.Str.reprChar 39 c).all (fun y => decide (y < 0x110000)) && (Builtin.Str.reprChar 34 c).all (fun y => decide (y < 0x110000))) = true := by decide +kernel
/-- repr of a text, by signs -/
theorem okS_fold {q : Nat} : ∀ (l : List Nat) (acc : Array Nat), (∀ c ∈ acc.toList, c < 0x110000) → (∀ c ∈ l, ∀ y ∈ Builtin.Str.reprChar q c, y < 0x110000) → ∀ c ∈ (l.foldl (fun out c => out ++ (Builtin.Str.reprChar q c).toArray) acc).toList, c < 0x110000
  | [], acc, h, _ => h
  | a :: r, acc, h, hc => okS_fold r _ (fun c hx => by
      rw [Array.toList_append] at hx
      rcases List.mem_append.mp hx with z | z
      · exact h c z
      · exact hc a List.mem_cons_self c (by simpa using z)) fun c hx => hc c (List.mem_cons_of_mem _ hx)
theorem okS_repr {x : Str} (hc : ∀ c ∈ x.cps.toList, ∀ y ∈ Builtin.Str.reprChar (reprQuote x) c, y < 0x110000) : okS (reprText x) := by
  have hq : reprQuote x < 0x110000 := by
    unfold reprQuote
    split <;> decide
  intro c hx
  unfold reprText at hx
  rw [Array.toList_push, ← Array.foldl_toList] at hx
  rcases List.mem_append.mp hx with z | z
  · exact okS_fold _ _ (fun c hc => by
      have : c = reprQuote x := by simpa using hc
      rw [this]; exact hq) hc c z
  · rw [List.mem_singleton.mp z]; exact hq
theorem rp_txt {l : List Nat} (h : ∀ c ∈ l, c < 128) {W : Nat} (hl : l.length ≤ W) : Rp (sD l) W 0 := by
  have cps : (S l).cps.toList = l := by simp [S]
  have lo : okS (S l) := fun c hc => by
    rw [cps] at hc
    have := h c hc
    omega
  refine ⟨rfl, ?_, rfl, rfl, ?_, ?_, rfl, Nat.le_refl _⟩
  · show (S l).length ≤ W
    rw [S_len]; exact hl
  · rw [PyData.shown_str]
    refine okS_repr fun c hc y hy => ?_
    rw [cps] at hc
    have := List.all_eq_true.mp reprChars c (List.mem_range.mpr (h c hc))
    rw [Bool.and_eq_true, List.all_eq_true, List.all_eq_true] at this
    have hq : reprQuote (S l) = 34 ∨ reprQuote (S l) = 39 := by
      unfold reprQuote
      split <;> simp
    rcases hq with q | q
    · rw [q] at hy; simpa using this.2 y hy
    · rw [q] at hy; simpa using this.1 y hy
  · have e : (PyData.canLay0 (sD l) && decide (PyData.depth (sD l) ≤ 64)) = true := okS_shaped lo
    exact (Bool.and_eq_true_iff.mp e).1
end Pf

/-! D3: roads, there and back -/
namespace Pf
open PySem L2 HW
abbrev Tri := Nat × Nat × Nat
def triD (t : Tri) : D := .tuple [.int (t.1 : Int), .int (t.2.1 : Int), .int (t.2.2 : Int)]
def rdD (ts : List Tri) : D := .tuple (ts.map triD)
def TriOk (t : Tri) : Prop := t.1 ≤ 1000 ∧ (1 ≤ t.2.1 ∧ t.2.1 ≤ 1000) ∧ t.2.2 ≤ 1000
structure RdOk (ts : List Tri) : Prop where
  o : ∀ t ∈ ts, TriOk t
  l1 : 1 ≤ ts.length
  l2 : ts.length ≤ 40
def wds (t : Tri) : List (List Nat) := [dg t.1, dg t.2.1, dg t.2.2]
def lnR (t : Tri) : List Nat := TL.joinL [32] (wds t)
def txR (ts : List Tri) : List Nat := TL.joinL [10] (ts.map lnR)
theorem wds_ok {t : Tri} (h : TriOk t) : ∀ w ∈ wds t, ∃ n, n ≤ 1000 ∧ w = dg n := fun w hw => by
  unfold wds at hw
  simp only [List.mem_cons, List.not_mem_nil, or_false] at hw
  rcases hw with rfl | rfl | rfl
  · exact ⟨_, h.1, rfl⟩
  · exact ⟨_, h.2.1.2, rfl⟩
  · exact ⟨_, h.2.2, rfl⟩
theorem wds_free {t : Tri} (h : TriOk t) : ∀ w ∈ wds t, 32 ∉ w ∧ 10 ∉ w ∧ w.length ≤ 4 ∧ ∀ c ∈ w, c < 128 := fun w hw => by
  obtain ⟨n, hn, rfl⟩ := wds_ok h w hw
  have d := dg_ok hn
  exact ⟨fun m => by have := d.f _ m; omega, fun m => by have := d.f _ m; omega, d.l4, fun c m => by have := d.f _ m; omega⟩
theorem lnR_len {t : Tri} (h : TriOk t) : (lnR t).length ≤ 15 := by
  have := joinL_len 32 (wds t)
  have s := sum_le (m := 4) fun w hw => (wds_free h w hw).2.2.1
  have : (wds t).length = 3 := rfl
  unfold lnR
  omega
theorem lnR_free {t : Tri} (h : TriOk t) : 10 ∉ lnR t := fun m => by
  rcases joinL_mem m with z | ⟨w, hw, z⟩
  · omega
  · exact (wds_free h w hw).2.1 z
theorem lnR_lo {t : Tri} (h : TriOk t) : ∀ c ∈ lnR t, c < 128 := fun c m => by
  rcases joinL_mem m with z | ⟨w, hw, z⟩
  · omega
  · exact (wds_free h w hw).2.2.2 c z
theorem txR_lo {ts : List Tri} (h : RdOk ts) : ∀ c ∈ txR ts, c < 128 := fun c m => by
  rcases joinL_mem m with z | ⟨w, hw, z⟩
  · omega
  · obtain ⟨t, ht, rfl⟩ := List.mem_map.mp hw
    exact lnR_lo (h.o t ht) c z
theorem txR_len {ts : List Tri} (h : RdOk ts) : (txR ts).length ≤ 1000 := by
  have := joinL_len 10 (ts.map lnR)
  have s := sum_le (ys := ts.map lnR) (m := 15) fun w hw => by
    obtain ⟨t, ht, rfl⟩ := List.mem_map.mp hw
    exact lnR_len (h.o t ht)
  have := h.l2
  rw [List.length_map] at *
  unfold txR
  omega
/-- what is due -/
theorem fmt_n {n : Nat} (h : n ≤ 1000) {xa : XE} {ρ : List En} (e : xa ρ = .ok (.int (n : Int))) : xF fmtD xa ρ = .ok (sD (dg n)) := by
  refine xf_ok e ?_
  rw [show sD (dg n) = .str (PySem.Str.ofString (toString (n : Int))) by show PyData.str (S (dg n)) = _; rw [dg_S]]
  exact if_pos (log_small (by omega) (by omega))
theorem rep_n {n : Nat} (h : n ≤ 1000) {xa : XE} {ρ : List En} (e : xa ρ = .ok (.int (n : Int))) : xF reprID xa ρ = .ok (sD (dg n)) := by
  refine xf_ok e ?_
  rw [show sD (dg n) = .str (PySem.Str.ofString (toString (n : Int))) by show PyData.str (S (dg n)) = _; rw [dg_S]]
  exact if_pos (log_small (by omega) (by omega))
theorem isI_ok {n : Nat} {a b : Int} (h1 : a ≤ n) (h2 : (n : Int) ≤ b) : isI (.int (n : Int)) a b = true := by
  show (decide (a ≤ (n : Int)) && decide ((n : Int) ≤ b)) = true
  rw [decide_eq_true h1, decide_eq_true h2]
  rfl
theorem r_triple {t : Tri} (h : TriOk t) : x_is_triple [.im (triD t)] = .ok (.bool true) := by
  have t0 : xNot (xTru (xCall x_is_tuple (xgIm (xVar 0) (xgIm (xC (.int 3)) (xgIm (xC (.int 3)) xgNil))))) [.im (triD t), .un, .un, .un] = .ok false := tru_b (b := true) (xcall_ok (xgc (xvr rfl) (xgc rfl (xg1 rfl))) (r_tupIn _ 3 3))
  refine xdef_rt rfl (xseq_nx (xifF t0 rfl) (xseq_nx (ρ' := [.im (triD t), .im (.int (t.1 : Int)), .im (.int (t.2.1 : Int)), .im (.int (t.2.2 : Int))]) rfl (xret_ok (xandV_T ?_ (xandV_T ?_ ?_)))))
  · exact xcall_ok (xgc (xvr rfl) (xgc rfl (xg1 rfl))) ((r_isI _ _ _).trans (by rw [isI_ok (by omega) (by have := h.1; omega)]))
  · exact xcall_ok (xgc (xvr rfl) (xgc rfl (xg1 rfl))) ((r_isI _ _ _).trans (by rw [isI_ok (by have := h.2.1.1; omega) (by have := h.2.1.2; omega)]))
  · exact xcall_ok (xgc (xvr rfl) (xgc rfl (xg1 rfl))) ((r_isI _ _ _).trans (by rw [isI_ok (by omega) (by have := h.2.2; omega)]))
theorem r_road {ts : List Tri} (h : RdOk ts) : x_need_road [.im (rdD ts)] = .ok (rdD ts) := by
  have l1 := h.l1
  have l2 := h.l2
  have t0 : xNot (xTru (xCall x_is_tuple (xgIm (xVar 0) (xgIm (xC (.int 1)) (xgIm (xC (.int 40)) xgNil))))) [.im (rdD ts), .un] = .ok false := by
    refine tru_b (b := true) (xcall_ok (xgc (xvr rfl) (xgc rfl (xg1 rfl))) ((r_tupIn _ 1 40).trans ?_))
    show Rs.ok (PyData.bool (decide ((1 : Int) ≤ (ts.map triD).length) && decide (((ts.map triD).length : Int) ≤ 40))) = _
    rw [List.length_map, decide_eq_true (by omega), decide_eq_true (by omega)]
    rfl
  refine xdef_rt rfl (xseq_nx (xifF t0 rfl) ?_)
  refine xseq_for (fun i ρ => ∃ e1, ρ = [.im (rdD ts), e1]) (ds := rngD 0 ts.length) (xrng_ok (xf_ok (xlk rfl) (show _ = some (PyData.int (ts.length : Int)) from by show some (PyData.int ((ts.map triD).length : Int)) = _; rw [List.length_map])) (by omega)) (fun i hi ρ hI => ?_) ⟨_, rfl⟩ ?_
  · obtain ⟨e1, rfl⟩ := hI
    rw [rng_len] at hi
    rw [rng_at, show (0 : Int) + (i : Nat) = (i : Nat) by omega]
    refine ⟨_, _, rfl, xifF (tru_b (b := true) (xcall_ok (xg1 (xop_ok (xlk rfl) (xlk rfl) (HW.ixT (ts.map triD) (by rw [List.length_map]; exact hi)))) ?_)) rfl, _, rfl⟩
    rw [List.getElem_map]
    exact r_triple (h.o _ (List.getElem_mem hi))
  · rintro ρ ⟨e1, rfl⟩
    exact xret_ok (xvr rfl)
theorem r_roadtext {ts : List Tri} (h : RdOk ts) : x_road_text [.im (rdD ts)] = .ok (sD (txR ts)) := by
  have l2 := h.l2
  refine xdef_rt rfl (xdrop_X (xcallX_ok (xg1 (xvr rfl)) (r_road h)) (xret_ok ?_))
  have lc : xLcT (xItT (xVar 0)) xYes (xJoin [(xF fmtD (xLook 1)), (xC (.str " ")), (xF fmtD (xLook 2)), (xC (.str " ")), (xF fmtD (xLook 3))]) [1, 2, 3] [1, 2, 3] [.im (rdD ts), .un, .un, .un] = .ok (.list ((ts.map lnR).map sD)) := by
    refine xlcT_ok (xitT_ok' (ds := ts.map triD) (xvr rfl)) (by rw [List.length_map]; omega) (xlcT_all _ _ (by simp) fun i hi hi' => ?_)
    rw [List.length_map] at hi
    have o := h.o _ (List.getElem_mem hi)
    refine ⟨[.int (ts[i].1 : Int), .int (ts[i].2.1 : Int), .int (ts[i].2.2 : Int)], [.im (rdD ts), .im (.int (ts[i].1 : Int)), .im (.int (ts[i].2.1 : Int)), .im (.int (ts[i].2.2 : Int))], by rw [List.getElem_map]; rfl, rfl, ?_⟩
    rw [List.getElem_map, List.getElem_map]
    have d1 := (dg_ok o.1).l4
    have d2 := (dg_ok o.2.1.2).l4
    have d3 := (dg_ok o.2.2).l4
    show xJs _ (S []) _ = _
    rw [js_cons (fmt_n o.1 (xlk rfl)) (by omega) (by simp), js_cons (y := [32]) rfl (by simp) (by simp; omega), js_cons (fmt_n o.2.1.2 (xlk rfl)) (by omega) (by simp; omega), js_cons (y := [32]) rfl (by simp) (by simp; omega), js_cons (fmt_n o.2.2 (xlk rfl)) (by omega) (by simp; omega), js_nil]
    have : [] ++ dg ts[i].1 ++ [32] ++ dg ts[i].2.1 ++ [32] ++ dg ts[i].2.2 = lnR ts[i] := by simp [lnR, wds, TL.joinL]
    rw [this]
  exact xms_ok rfl lc (joinD_sep 10 (m := 15) (by rw [List.length_map]; omega) (fun y hy => by
    obtain ⟨t, ht, rfl⟩ := List.mem_map.mp hy
    exact lnR_len (h.o t ht)) (by decide))
/-- rows of words -/
theorem r_rows {ls : List (List (List Nat))} (hne : ls ≠ []) (hl : ls.length ≤ 1000) (h : ∀ ws ∈ ls, ws ≠ [] ∧ ws.length ≤ 3 ∧ ∀ w ∈ ws, 32 ∉ w ∧ 10 ∉ w ∧ w.length ≤ 10) : x_u_rows_of [.im (sD (TL.joinL [10] (ls.map (TL.joinL [32]))))] = .ok (.list (ls.map fun ws => .tuple (ws.map sD))) := by
  have jl : ∀ ws ∈ ls, (TL.joinL [32] ws).length ≤ 40 := fun ws hws => by
    obtain ⟨_, h2, h3⟩ := h ws hws
    have := joinL_len 32 ws
    have := sum_le (ys := ws) (m := 10) fun w hw => (h3 w hw).2.2
    omega
  refine xdef_rt rfl (xseq_nx (xifF (tru_b (b := true) (xf_ok (xlk rfl) rfl)) rfl) (xret_ok ?_))
  have cut : xMS spD (xLook 0) (xC (.str "\n")) [.im (sD (TL.joinL [10] (ls.map (TL.joinL [32])))), .un] = .ok (.list ((ls.map (TL.joinL [32])).map sD)) := by
    refine xms_ok (xlk rfl) rfl (spD_cut (c := 10) (by decide) (m := 40) (by simpa using hne) (fun y hy => ?_) (by rw [List.length_map]; exact hl) (fun y hy => ?_) (by decide))
    · obtain ⟨ws, hws, rfl⟩ := List.mem_map.mp hy
      intro m
      rcases joinL_mem m with z | ⟨w, hw, z⟩
      · omega
      · exact ((h ws hws).2.2 w hw).2.1 z
    · obtain ⟨ws, hws, rfl⟩ := List.mem_map.mp hy
      exact jl ws hws
  refine xlc_ok (xitL_ok cut) (by rw [List.length_map, List.length_map]; exact hl) (xlc_all _ _ (by simp) fun i hi hi' => ?_)
  simp only [List.length_map] at hi
  simp only [List.getElem_map]
  obtain ⟨h1, h2, h3⟩ := h _ (List.getElem_mem hi)
  refine xf_ok (xms_ok (xlk rfl) rfl (spD_cut (c := 32) (by decide) (m := 10) h1 (fun w hw => (h3 w hw).1) (by omega) (fun w hw => (h3 w hw).2.2) (by decide))) rfl
/-- a number read -/
theorem eqS {a b : List Nat} (ha : ∀ c ∈ a, c < 128) (hb : ∀ c ∈ b, c < 128) : eqD (sD a) (sD b) = some (.bool (decide (a = b))) := eq_S (fun c h => by have := ha c h; omega) fun c h => by have := hb c h; omega
theorem neS {a b : List Nat} (ha : ∀ c ∈ a, c < 128) (hb : ∀ c ∈ b, c < 128) : neD (sD a) (sD b) = some (.bool (!decide (a = b))) := ne_S (fun c h => by have := ha c h; omega) fun c h => by have := hb c h; omega
theorem r_wordG {l sg : List Nat} (h1 : 1 ≤ l.length) (h2 : l.length ≤ 1000) (hm : ∀ c ∈ l, c ∈ sg) (hlo : ∀ c ∈ l, c < 128) : x_is_word [.im (sD l), .im (.str (S sg))] = .ok (.bool true) := by
  refine xdef_rt rfl (xret_ok (xandV_T (xf_ok (xlk rfl) rfl) (xandV_T ?_ ?_)))
  · refine (xop_ok (xlk rfl) rfl (neS (b := []) hlo (by simp))).trans ?_
    rw [decide_eq_false (fun z => by rw [z] at h1; simp at h1)]
    rfl
  · refine xop_ok (xms_ok (xlk rfl) (xlk rfl) (show scD (sD l) (sD sg) = some (.str (S [])) from ?_)) rfl (eqS (a := []) (b := []) (by simp) (by simp))
    refine (if_pos (by rw [S_len]; exact lim h2)).trans ?_
    rw [strip_all hm]
theorem r_shortG {l sg : List Nat} {m : Nat} (h1 : 1 ≤ l.length) (h2 : l.length ≤ m) (h3 : m ≤ 1000) (hm : ∀ c ∈ l, c ∈ sg) (hlo : ∀ c ∈ l, c < 128) : x_is_short_word [.im (sD l), .im (.str (S sg)), .im (.int (m : Int))] = .ok (.bool true) := by
  refine xdef_rt rfl (xret_ok (xandV_T (xcall_ok (xgc (xvr rfl) (xg1 (xvr rfl))) (r_wordG h1 (by omega) hm hlo)) ?_))
  refine (xop_ok (xf_ok (xlk rfl) (len_S l (lim (by omega)))) (xlk rfl) (le_i _ _)).trans ?_
  rw [decide_eq_true (by omega)]
abbrev figL : List Nat := [48, 49, 50, 51, 52, 53, 54, 55, 56, 57]
theorem r_number {n : Nat} (h : n ≤ 1000) : x_read_number [.im (sD (dg n)), .im (.int 4)] = .ok (.int (n : Int)) := by
  have d := dg_ok h
  have hlo : ∀ c ∈ dg n, c < 128 := fun c m => by have := d.f c m; omega
  have fm : ∀ c ∈ dg n, c ∈ figL := fun c m => by
    have := d.f c m
    have : ∀ c, 48 ≤ c → c ≤ 57 → c ∈ figL := by
      intro c c1 c2
      have : c = 48 ∨ c = 49 ∨ c = 50 ∨ c = 51 ∨ c = 52 ∨ c = 53 ∨ c = 54 ∨ c = 55 ∨ c = 56 ∨ c = 57 := by omega
      rcases this with rfl | rfl | rfl | rfl | rfl | rfl | rfl | rfl | rfl | rfl <;> decide
    exact this c (d.f c m).1 (d.f c m).2
  have l4 := d.l4
  have l1 := d.l1
  have t0 : xNot (xTru (xCall x_is_short_word (xgIm (xVar 0) (xgIm (xC (.str "0123456789")) (xgIm (xVar 1) xgNil))))) [.im (sD (dg n)), .im (.int 4)] = .ok false := tru_b (b := true) (xcall_ok (xgc (xvr rfl) (xgc rfl (xg1 (xvr rfl)))) (r_shortG (sg := figL) (m := 4) l1 l4 (by decide) fm hlo))
  have hx : ixD (sD (dg n)) (.int 0) = some (cD ((dg n)[0]'(by omega))) := ixS (dg n) (i := 0) (by omega) (lim (by omega))
  have t1 := xtst_ok (xop_ok (ρ := [.im (sD (dg n)), .im (.int 4)]) (xop_ok (xa := xLook 0) (xb := xC (.int 0)) (xlk rfl) rfl hx) (xb := xC (.str "0")) rfl (eqS (a := [(dg n)[0]'(by omega)]) (b := [48]) (fun c m => by rw [List.mem_singleton.mp m]; exact hlo _ (List.getElem_mem _)) (by simp)))
  have t2 := xtst_ok (xop_ok (ρ := [.im (sD (dg n)), .im (.int 4)]) (xa := xLook 0) (xlk rfl) (xb := xC (.str "0")) rfl (neS (b := [48]) hlo (by simp)))
  have t3 : xAnd (xTst (xOp eqD (xOp ixD (xLook 0) (xC (.int 0))) (xC (.str "0")))) (xTst (xOp neD (xLook 0) (xC (.str "0")))) [.im (sD (dg n)), .im (.int 4)] = .ok false := by
    refine (xand_b t1 t2).trans ?_
    rcases d.h with rfl | q
    · rw [decide_eq_true dg_zero]; simp
    · rw [decide_eq_false (fun z => q ?_)]
      · rfl
      · have : (dg n)[0]'(by omega) = 48 := by simpa using z
        rw [List.head?_eq_getElem?, List.getElem?_eq_getElem (by omega), this]
  refine xdef_rt rfl (xseq_nx (xifF t0 rfl) (xseq_nx (xifF t3 rfl) (xret_ok (xf_ok (xlk rfl) ?_))))
  refine (if_pos (by rw [S_len]; omega)).trans ?_
  rw [dg_reads h]
  rfl
/-- a road read -/
theorem r_readroad {ts : List Tri} (h : RdOk ts) : x_read_road [.im (sD (txR ts))] = .ok (rdD ts) := by
  have l1 := h.l1
  have l2 := h.l2
  have rows : x_u_rows_of [.im (sD (txR ts))] = .ok (.list (ts.map fun t => .tuple ((wds t).map sD))) := by
    have := r_rows (ls := ts.map wds) (by simp; intro z; rw [z] at l1; simp at l1) (by rw [List.length_map]; omega) fun ws hws => by
      obtain ⟨t, ht, rfl⟩ := List.mem_map.mp hws
      refine ⟨by simp [wds], by simp [wds], fun w hw => ?_⟩
      obtain ⟨a, b, c, _⟩ := wds_free (h.o t ht) w hw
      exact ⟨a, b, by omega⟩
    rw [List.map_map, List.map_map] at this
    exact this
  refine xdef_rt rfl (xseq_nx (ρ' := [.im (sD (txR ts)), .ls [], .un, .un, .un]) rfl ?_)
  refine xseq_for (fun i ρ => ∃ e2 e3 e4, ρ = [.im (sD (txR ts)), .ls ((ts.take i).map triD), e2, e3, e4]) (ds := ts.map fun t => .tuple ((wds t).map sD)) (xitL_ok (xcall_ok (xg1 (xvr rfl)) rows)) (fun i hi ρ hI => ?_) ⟨_, _, _, rfl⟩ ?_
  · obtain ⟨e2, e3, e4, rfl⟩ := hI
    rw [List.length_map] at hi
    rw [List.getElem_map]
    have o := h.o _ (List.getElem_mem hi)
    have num : xF tupD (xLc (xItT (xVar 2)) xYes (xCall x_read_number (xgIm (xVar 4) (xgIm (xC (.int 4)) xgNil))) 4 [4]) [.im (sD (txR ts)), .ls ((ts.take i).map triD), .im (.tuple ((wds ts[i]).map sD)), e3, e4] = .ok (triD ts[i]) := by
      refine xf_ok (z := triD ts[i]) (xlc_ok (ds := (wds ts[i]).map sD) (ys := [.int (ts[i].1 : Int), .int (ts[i].2.1 : Int), .int (ts[i].2.2 : Int)]) (xitT_ok' (xvr rfl)) (by simp [wds]) ?_) rfl
      refine xlc_all _ _ rfl fun j hj hj' => ?_
      have hj3 : j < 3 := hj'
      match j, hj3 with
      | 0, _ => exact xcall_ok (xgc (xvr rfl) (xg1 rfl)) (r_number o.1)
      | 1, _ => exact xcall_ok (xgc (xvr rfl) (xg1 rfl)) (r_number o.2.1.2)
      | 2, _ => exact xcall_ok (xgc (xvr rfl) (xg1 rfl)) (r_number o.2.2)
    have tl : ((ts.take i).map triD).length = i := by
      rw [List.length_map, List.length_take]
      omega
    have t1 : xTst (xOp eqD (xF lenD (xLook 1)) (xC (.int 40))) [.im (sD (txR ts)), .ls ((ts.take i).map triD), .im (.tuple ((wds ts[i]).map sD)), .im (triD ts[i]), e4] = .ok false := by
      refine xtst_ok ((xop_ok (x := .int (i : Int)) (xf_ok (xlkl rfl) (by show some (PyData.int (((ts.take i).map triD).length : Int)) = _; rw [tl])) rfl (eq_i _ _)).trans ?_)
      rw [show ((i : Int) == 40) = false by simp only [beq_eq_false_iff_ne]; omega]
    have t2 : xNot (xTru (xCall x_is_triple (xgIm (xVar 3) xgNil))) [.im (sD (txR ts)), .ls ((ts.take i).map triD), .im (.tuple ((wds ts[i]).map sD)), .im (triD ts[i]), e4] = .ok false := tru_b (b := true) (xcall_ok (xg1 (xvr rfl)) (r_triple o))
    refine ⟨_, [.im (sD (txR ts)), .ls ((ts.take (i + 1)).map triD), .im (.tuple ((wds ts[i]).map sD)), .im (triD ts[i]), e4], rfl, xseq_nx (xset_ok num) (xseq_nx (xifF (xorF t1 t2) rfl) ?_), _, _, _, rfl⟩
    refine (xapp_ok (i := 1) rfl (xvr rfl) (by rw [tl]; exact lim40 (by omega))).trans ?_
    rw [List.take_succ, List.getElem?_eq_getElem hi, List.map_append]
    rfl
  · rintro ρ ⟨e2, e3, e4, rfl⟩
    refine xret_ok (xf_ok (xlkl rfl) ?_)
    rw [List.length_map, List.take_length]
    rfl
theorem txR_inj {s t : List Tri} (hs : RdOk s) (ht : RdOk t) (e : txR s = txR t) : s = t := by
  have h1 := r_readroad hs
  rw [e, r_readroad ht] at h1
  have h2 : PyData.tuple (t.map triD) = .tuple (s.map triD) := by
    injection h1
  injection h2 with h3
  have inj : ∀ a b : Tri, triD a = triD b → a = b := fun a b z => by
    unfold triD at z
    injection z with z
    injection z with z1 z
    injection z with z2 z
    injection z with z3 _
    injection z1 with z1
    injection z2 with z2
    injection z3 with z3
    obtain ⟨a1, a2, a3⟩ := a
    obtain ⟨b1, b2, b3⟩ := b
    simp only at z1 z2 z3
    have q1 : a1 = b1 := by omega
    have q2 : a2 = b2 := by omega
    have q3 : a3 = b3 := by omega
    rw [q1, q2, q3]
  clear h1 e hs ht
  induction s generalizing t with
  | nil => cases t with
    | nil => rfl
    | cons _ _ => cases h3
  | cons a r ih => cases t with
    | nil => cases h3
    | cons b q =>
      rw [List.map_cons, List.map_cons] at h3
      injection h3 with z1 z2
      rw [inj _ _ z1, ih z2]
theorem rp_tri {t : Tri} (h : TriOk t) : Rp (triD t) 200 1 := by
  have h1 := h.1
  have h2 := h.2.1.2
  have h3 := h.2.2
  exact (rp_tup (rpA_cons (rp_int (by omega) (by omega)) (rpA_cons (rp_int (by omega) (by omega)) (rpA_cons (rp_int (by omega) (by omega)) rpA_nil)))).mono (by decide) (by decide)
theorem rp_rd {ts : List Tri} (h : RdOk ts) : Rp (rdD ts) 10000 2 := by
  refine (rp_tup (rpA_all (W := 200) (dep := 1) fun x hx => ?_)).mono (by rw [List.length_map]; have := h.l2; omega) (by decide)
  obtain ⟨t, ht, rfl⟩ := List.mem_map.mp hx
  exact rp_tri (h.o t ht)
theorem r_roadright {ts : List Tri} (h : RdOk ts) : x_u_law_road_right [.im (rdD ts)] = .ok (.bool true) := by
  have l2 := h.l2
  have due : xMS joinD (xC (.str "\n")) (xLc (xItT (xVar 0)) xYes (xMS joinD (xC (.str " ")) (xLc (xItT (xVar 3)) xYes (xF reprID (xLook 2)) 2 [2])) 3 [3]) [.im (rdD ts), .un, .un, .un, .un] = .ok (sD (txR ts)) := by
    have lc : xLc (xItT (xVar 0)) xYes (xMS joinD (xC (.str " ")) (xLc (xItT (xVar 3)) xYes (xF reprID (xLook 2)) 2 [2])) 3 [3] [.im (rdD ts), .un, .un, .un, .un] = .ok (.list ((ts.map lnR).map sD)) := by
      refine xlc_ok (xitT_ok' (ds := ts.map triD) (xvr rfl)) (by rw [List.length_map]; omega) (xlc_all _ _ (by simp) fun i hi hi' => ?_)
      rw [List.length_map] at hi
      simp only [List.getElem_map]
      have o := h.o _ (List.getElem_mem hi)
      refine xms_ok rfl (xlc_ok (ds := [.int (ts[i].1 : Int), .int (ts[i].2.1 : Int), .int (ts[i].2.2 : Int)]) (ys := (wds ts[i]).map sD) (xitT_ok' (xvr rfl)) (show 3 ≤ 1000 by decide) (xlc_all _ _ rfl fun j hj hj' => ?_)) (joinD_sep 32 (m := 4) (show 3 ≤ 1000 by decide) (fun w hw => (wds_free o w hw).2.2.1) (by decide))
      have hj3 : j < 3 := hj
      match j, hj3 with
      | 0, _ => exact rep_n o.1 (xlk rfl)
      | 1, _ => exact rep_n o.2.1.2 (xlk rfl)
      | 2, _ => exact rep_n o.2.2 (xlk rfl)
    exact xms_ok rfl lc (joinD_sep 10 (m := 15) (by rw [List.length_map]; omega) (fun y hy => by
      obtain ⟨t, ht, rfl⟩ := List.mem_map.mp hy
      exact lnR_len (h.o t ht)) (by decide))
  refine xdef_rt rfl (xseq_nx (xset_ok due) ?_)
  have c1 : ∀ {ρ : List En}, ρ[0]? = some (.im (rdD ts)) → xCall x_road_text (xgIm (xVar 0) xgNil) ρ = .ok (sD (txR ts)) := fun e => xcall_ok (xg1 (xvr e)) (r_roadtext h)
  have c2 : ∀ {ρ : List En}, ρ[1]? = some (.im (sD (txR ts))) → xCall x_read_road (xgIm (xVar 1) xgNil) ρ = .ok (rdD ts) := fun e => xcall_ok (xg1 (xvr e)) (r_readroad h)
  refine xseq_nx (xset_ok (xlst_ok (xcons_ok (c1 rfl) (xcons_ok (c2 rfl) (xcons_ok (c1 rfl) (xcons_ok (c2 rfl) rfl)))) (show 4 ≤ LIM by decide))) ?_
  have rp : Rp (.list [sD (txR ts), rdD ts, sD (txR ts), rdD ts]) 30000 3 := by
    have a := (rp_txt (txR_lo h) (txR_len h)).mono (Nat.le_refl _) (show 0 ≤ 2 by decide)
    have b := rp_rd h
    exact (rp_list (rpA_cons a (rpA_cons b (rpA_cons a (rpA_cons b rpA_nil))))).mono (by decide) (by decide)
  obtain ⟨q1, q2⟩ := rep_ok rp rfl (by decide) (by decide)
  refine xret_ok (xop_ok (xf_ok (xlk rfl) q1) (xf_ok (x := .list [sD (txR ts), rdD ts, sD (txR ts), rdD ts]) ?_ q1) (eq_same q2))
  show (xCons (xVar 1) (xCons (xVar 0) xNil) _).bind _ = _
  rw [xcons_ok (xvr (d := sD (txR ts)) rfl) (xcons_ok (xvr (d := rdD ts) rfl) rfl)]
  rfl
end Pf

/-! D4: books, there and back -/
namespace Pf
open PySem L2 HW
abbrev Pr := List Nat × List Nat
def prD (p : Pr) : D := .tuple [sD p.1, sD p.2]
def nbD (ps : List Pr) : D := .tuple (ps.map prD)
structure WB (l : List Nat) (m : Nat) : Prop where
  l1 : 1 ≤ l.length
  l2 : l.length ≤ m
  c : ∀ c ∈ l, c ∈ codeL
theorem code_in {c : Nat} (h : c ∈ codeL) : c < 128 ∧ c ≠ 32 ∧ c ≠ 10 := by
  have : ∀ c ∈ codeL, c < 128 ∧ c ≠ 32 ∧ c ≠ 10 := by decide
  exact this c h
theorem WB.lo {l : List Nat} {m : Nat} (h : WB l m) : ∀ c ∈ l, c < 128 := fun c hc => (code_in (h.c c hc)).1
theorem WB.fr {l : List Nat} {m : Nat} (h : WB l m) : 32 ∉ l ∧ 10 ∉ l := ⟨fun z => (code_in (h.c _ z)).2.1 rfl, fun z => (code_in (h.c _ z)).2.2 rfl⟩
structure BkOk (ps : List Pr) : Prop where
  w : ∀ p ∈ ps, WB p.1 8 ∧ WB p.2 5
  n1 : (ps.map (·.1)).Nodup
  n2 : (ps.map (·.2)).Nodup
structure Bk (ps : List Pr) : Prop extends BkOk ps where
  l1 : 1 ≤ ps.length
  l2 : ps.length ≤ 40
theorem r_isP {p : Pr} (h : WB p.1 8 ∧ WB p.2 5) : x_is_pair [.im (prD p)] = .ok (.bool true) := by
  have t0 : xNot (xTru (xCall x_is_tuple (xgIm (xVar 0) (xgIm (xC (.int 2)) (xgIm (xC (.int 2)) xgNil))))) [.im (prD p)] = .ok false := tru_b (b := true) (xcall_ok (xgc (xvr rfl) (xgc rfl (xg1 rfl))) (r_tupIn _ 2 2))
  refine xdef_rt rfl (xseq_nx (xifF t0 rfl) (xret_ok (xandV_T ?_ ?_)))
  · exact xcall_ok (xgc (xop_ok (x := prD p) (y := .int 0) (xlk rfl) rfl rfl) (xgc rfl (xg1 rfl))) (r_shortG (sg := codeL) (m := 8) h.1.l1 h.1.l2 (by decide) h.1.c h.1.lo)
  · exact xcall_ok (xgc (xop_ok (x := prD p) (y := .int 1) (xlk rfl) rfl rfl) (xgc rfl (xg1 rfl))) (r_shortG (sg := codeL) (m := 5) h.2.l1 h.2.l2 (by decide) h.2.c h.2.lo)
def kvL (ws : List (List Nat)) : List (D × D) := ws.map fun w => (sD w, .bool true)
theorem S_inj {a b : List Nat} : (S a = S b) ↔ a = b := by
  constructor
  · intro h
    have := congrArg (fun s : PySem.Str => s.cps.toList) h
    simpa [S] using this
  · rintro rfl; rfl
theorem keyS {w v : List Nat} : (keyOf (sD w) = some (.inr (S v))) ↔ w = v := by
  show (some (Sum.inr (S w)) : Option Key) = some (.inr (S v)) ↔ _
  exact ⟨fun z => S_inj.mp (Sum.inr.inj (Option.some.inj z)), fun e => by rw [e]⟩
theorem look_no {w : List Nat} : ∀ {ws : List (List Nat)}, w ∉ ws → lookK (kvL ws) (.inr (S w)) = none
  | [], _ => rfl
  | v :: r, h => by
    show (if keyOf (sD v) = some (.inr (S w)) then some (PyData.bool true) else lookK (kvL r) (.inr (S w))) = none
    rw [if_neg (fun z => h (by rw [keyS.mp z]; exact List.mem_cons_self))]
    exact look_no fun z => h (List.mem_cons_of_mem _ z)
theorem any_look {α : Type} (k : Key) : ∀ acc : List (D × α), (acc.any fun p => decide (keyOf p.1 = some k)) = (lookK acc k).isSome
  | [] => rfl
  | (d, x) :: r => by
    rw [List.any_cons, any_look k r]
    show (decide (keyOf d = some k) || _) = (if keyOf d = some k then some x else lookK r k).isSome
    by_cases h : keyOf d = some k
    · rw [if_pos h, decide_eq_true h]; rfl
    · rw [if_neg h, decide_eq_false h]; rfl
theorem put_no {w : List Nat} {ws : List (List Nat)} (h : w ∉ ws) : putD' (kvL ws) (.inr (S w)) (.bool true) = kvL (ws ++ [w]) := by
  unfold putD'
  rw [any_look, look_no h]
  refine (if_neg (by simp)).trans ?_
  unfold kvL
  rw [List.map_append]
  rfl
theorem xinK_no {xa xb : XE} {ρ : List En} {w : List Nat} {ws : List (List Nat)} (e1 : xa ρ = .ok (sD w)) (e2 : xb ρ = .ok (.dict (kvL ws))) (h : w ∉ ws) : xTst (xInK false xa xb) ρ = .ok false := by
  refine xtst_ok ?_
  show (xa ρ).bind _ = _
  rw [e1]
  show (xb ρ).bind _ = _
  rw [e2]
  show Rs.ok (PyData.bool (lookK (kvL ws) (.inr (S w))).isSome) = _
  rw [look_no h]
  rfl
theorem xlkd {i : Nat} {kvs : List (D × D)} {ρ : List En} (h : ρ[i]? = some (.dc kvs)) : xLook i ρ = .ok (.dict kvs) := by
  show Rs.ofO (ρ[i]?.bind En.look) = _
  rw [h]
  rfl
theorem xdput_no {i : Nat} {xb : XE} {ρ : List En} {w : List Nat} {ws : List (List Nat)} (e : ρ[i]? = some (.dc (kvL ws))) (e1 : xb ρ = .ok (sD w)) (h : w ∉ ws) (hl : ws.length ≤ 1000) : xDput i (xC (.bool true)) xb ρ = .ok (.nx (ρ.set i (.dc (kvL (ws ++ [w]))))) := by
  show (Rs.ofO (ρ[i]?.bind dcE)).bind _ = _
  rw [e]
  show lift (xb ρ) ρ _ = _
  rw [e1]
  rw [← put_no h]
  exact guard_pos (by unfold kvL; rw [List.length_map]; exact lim40 hl)
section
variable {ps : List Pr}
abbrev f1 (ps : List Pr) (i : Nat) : List (List Nat) := (ps.take i).map (·.1)
abbrev f2 (ps : List Pr) (i : Nat) : List (List Nat) := (ps.take i).map (·.2)
theorem nin {α : Type} {l : List α} (h : l.Nodup) {i : Nat} (hi : i < l.length) : l[i] ∉ l.take i := fun z => by
  obtain ⟨j, hj, e⟩ := List.getElem_of_mem z
  rw [List.length_take] at hj
  rw [List.getElem_take] at e
  exact (List.pairwise_iff_getElem.mp h j i (by omega) hi (by omega)) e
theorem nin1 (h : BkOk ps) {i : Nat} (hi : i < ps.length) : ps[i].1 ∉ f1 ps i := by
  have := nin h.n1 (i := i) (by rw [List.length_map]; exact hi)
  rw [List.getElem_map, ← List.map_take] at this
  exact this
theorem nin2 (h : BkOk ps) {i : Nat} (hi : i < ps.length) : ps[i].2 ∉ f2 ps i := by
  have := nin h.n2 (i := i) (by rw [List.length_map]; exact hi)
  rw [List.getElem_map, ← List.map_take] at this
  exact this
theorem f1_s {i : Nat} (hi : i < ps.length) : f1 ps i ++ [ps[i].1] = f1 ps (i + 1) := by
  unfold f1
  rw [List.take_succ, List.getElem?_eq_getElem hi, List.map_append]
  rfl
theorem f2_s {i : Nat} (hi : i < ps.length) : f2 ps i ++ [ps[i].2] = f2 ps (i + 1) := by
  unfold f2
  rw [List.take_succ, List.getElem?_eq_getElem hi, List.map_append]
  rfl
theorem f1_len {i : Nat} (h : ps.length ≤ 40) : (f1 ps i).length ≤ 1000 := by rw [List.length_map, List.length_take]; omega
theorem f2_len {i : Nat} (h : ps.length ≤ 40) : (f2 ps i).length ≤ 1000 := by rw [List.length_map, List.length_take]; omega
theorem nb_len {ρ : List En} (e : ρ[0]? = some (.im (nbD ps))) : xF lenD (xLook 0) ρ = .ok (.int (ps.length : Int)) := xf_ok (xlk e) (show _ = some (PyData.int (ps.length : Int)) from by
  show some (PyData.int ((ps.map prD).length : Int)) = _
  rw [List.length_map])
theorem r_book (h : Bk ps) : x_need_book [.im (nbD ps)] = .ok (nbD ps) := by
  have l1 := h.l1
  have l2 := h.l2
  have t0 : xNot (xTru (xCall x_is_tuple (xgIm (xVar 0) (xgIm (xC (.int 1)) (xgIm (xC (.int 40)) xgNil))))) [.im (nbD ps), .un, .un, .un, .un, .un] = .ok false := by
    refine tru_b (b := true) (xcall_ok (xgc (xvr rfl) (xgc rfl (xg1 rfl))) ((r_tupIn _ 1 40).trans ?_))
    show Rs.ok (PyData.bool (decide ((1 : Int) ≤ (ps.map prD).length) && decide (((ps.map prD).length : Int) ≤ 40))) = _
    rw [List.length_map, decide_eq_true (by omega), decide_eq_true (by omega)]
    rfl
  refine xdef_rt rfl (xseq_nx (xifF t0 rfl) (xseq_nx rfl (xseq_nx (ρ' := [.im (nbD ps), .dc (kvL (f1 ps 0)), .dc (kvL (f2 ps 0)), .un, .un, .un]) rfl ?_)))
  refine xseq_for (fun i ρ => ∃ e3 e4 e5, ρ = [.im (nbD ps), .dc (kvL (f1 ps i)), .dc (kvL (f2 ps i)), e3, e4, e5]) (ds := rngD 0 ps.length) (xrng_ok (nb_len rfl) (by omega)) (fun i hi ρ hI => ?_) ⟨_, _, _, rfl⟩ ?_
  · obtain ⟨e3, e4, e5, rfl⟩ := hI
    rw [rng_len] at hi
    rw [rng_at, show (0 : Int) + (i : Nat) = (i : Nat) by omega]
    have w := h.w _ (List.getElem_mem hi)
    have ix : ∀ {ρ : List En}, ρ[0]? = some (.im (nbD ps)) → ρ[3]? = some (.im (.int (i : Int))) → xOp ixD (xLook 0) (xLook 3) ρ = .ok (prD ps[i]) := fun a b => xop_ok (xlk a) (xlk b) ((HW.ixT (ps.map prD) (by rw [List.length_map]; exact hi)).trans (by rw [List.getElem_map]))
    have asg : xAsg (xOp ixD (xLook 0) (xLook 3)) (xgT [4, 5]) [.im (nbD ps), .dc (kvL (f1 ps i)), .dc (kvL (f2 ps i)), .im (.int (i : Int)), e4, e5] = .ok (.nx [.im (nbD ps), .dc (kvL (f1 ps i)), .dc (kvL (f2 ps i)), .im (.int (i : Int)), .im (sD ps[i].1), .im (sD ps[i].2)]) := by
      show lift (xOp ixD (xLook 0) (xLook 3) _) _ _ = _
      rw [ix rfl rfl]
      rfl
    refine ⟨_, _, rfl, xseq_nx (xifF (tru_b (b := true) (xcall_ok (xg1 (ix rfl rfl)) (r_isP w))) rfl) (xseq_nx asg (xseq_nx (xifF (xorF (xinK_no (xlk rfl) (xlkd rfl) (nin1 h.toBkOk hi)) (xinK_no (xlk rfl) (xlkd rfl) (nin2 h.toBkOk hi))) rfl) (xseq_nx (xdput_no (i := 1) rfl (xlk rfl) (nin1 h.toBkOk hi) (f1_len l2)) (xdput_no (i := 2) rfl (xlk rfl) (nin2 h.toBkOk hi) (f2_len l2))))), .im (.int (i : Int)), .im (sD ps[i].1), .im (sD ps[i].2), ?_⟩
    rw [f1_s hi, f2_s hi]
    rfl
  · rintro ρ ⟨e3, e4, e5, rfl⟩
    exact xret_ok (xvr rfl)
def wdB (p : Pr) : List (List Nat) := [p.1, p.2]
def lnB (p : Pr) : List Nat := TL.joinL [32] (wdB p)
def txB (ps : List Pr) : List Nat := TL.joinL [10] (ps.map lnB)
theorem wdB_ok {p : Pr} (h : WB p.1 8 ∧ WB p.2 5) : ∀ w ∈ wdB p, 32 ∉ w ∧ 10 ∉ w ∧ w.length ≤ 10 ∧ ∀ c ∈ w, c < 128 := fun w hw => by
  unfold wdB at hw
  simp only [List.mem_cons, List.not_mem_nil, or_false] at hw
  rcases hw with rfl | rfl
  · exact ⟨h.1.fr.1, h.1.fr.2, by have := h.1.l2; omega, h.1.lo⟩
  · exact ⟨h.2.fr.1, h.2.fr.2, by have := h.2.l2; omega, h.2.lo⟩
theorem lnB_eq (p : Pr) : lnB p = p.1 ++ [32] ++ p.2 := by simp [lnB, wdB, TL.joinL]
theorem lnB_len {p : Pr} (h : WB p.1 8 ∧ WB p.2 5) : (lnB p).length ≤ 14 := by
  have := h.1.l2
  have := h.2.l2
  rw [lnB_eq]
  simp
  omega
theorem lnB_lo {p : Pr} (h : WB p.1 8 ∧ WB p.2 5) : ∀ c ∈ lnB p, c < 128 := fun c m => by
  rcases joinL_mem m with z | ⟨w, hw, z⟩
  · omega
  · exact (wdB_ok h w hw).2.2.2 c z
theorem txB_lo (h : Bk ps) : ∀ c ∈ txB ps, c < 128 := fun c m => by
  rcases joinL_mem m with z | ⟨w, hw, z⟩
  · omega
  · obtain ⟨p, hp, rfl⟩ := List.mem_map.mp hw
    exact lnB_lo (h.w p hp) c z
theorem txB_len (h : Bk ps) : (txB ps).length ≤ 1000 := by
  have := joinL_len 10 (ps.map lnB)
  have s := sum_le (ys := ps.map lnB) (m := 14) fun w hw => by
    obtain ⟨p, hp, rfl⟩ := List.mem_map.mp hw
    exact lnB_len (h.w p hp)
  have := h.l2
  rw [List.length_map] at *
  unfold txB
  omega
theorem fmt_s {l : List Nat} {xa : XE} {ρ : List En} (h : l.length ≤ 1000) (e : xa ρ = .ok (sD l)) : xF fmtD xa ρ = .ok (sD l) := xf_ok e (if_pos (by rw [S_len]; exact lim h))
theorem joinB (h : Bk ps) : joinD (.str (S [10])) (.list ((ps.map lnB).map sD)) = some (.str (S (txB ps))) := joinD_sep 10 (m := 14) (by rw [List.length_map]; have := h.l2; omega) (fun y hy => by
    obtain ⟨p, hp, rfl⟩ := List.mem_map.mp hy
    exact lnB_len (h.w p hp)) (by decide)
theorem r_booktext (h : Bk ps) : x_book_text [.im (nbD ps)] = .ok (sD (txB ps)) := by
  have l2 := h.l2
  refine xdef_rt rfl (xdrop_X (xcallX_ok (xg1 (xvr rfl)) (r_book h)) (xret_ok ?_))
  have lc : xLcT (xItT (xVar 0)) xYes (xJoin [(xF fmtD (xLook 1)), (xC (.str " ")), (xF fmtD (xLook 2))]) [1, 2] [1, 2] [.im (nbD ps), .un, .un] = .ok (.list ((ps.map lnB).map sD)) := by
    refine xlcT_ok (xitT_ok' (ds := ps.map prD) (xvr rfl)) (by rw [List.length_map]; omega) (xlcT_all _ _ (by simp) fun i hi hi' => ?_)
    rw [List.length_map] at hi
    have o := h.w _ (List.getElem_mem hi)
    refine ⟨[sD ps[i].1, sD ps[i].2], [.im (nbD ps), .im (sD ps[i].1), .im (sD ps[i].2)], by rw [List.getElem_map]; rfl, rfl, ?_⟩
    rw [List.getElem_map, List.getElem_map]
    have d1 := o.1.l2
    have d2 := o.2.l2
    show xJs _ (S []) _ = _
    rw [js_cons (fmt_s (by omega) (xlk (d := sD ps[i].1) rfl)) (by omega) (by simp), js_cons (y := [32]) rfl (by simp) (by simp; omega), js_cons (fmt_s (by omega) (xlk (d := sD ps[i].2) rfl)) (by omega) (by simp; omega), js_nil]
    rw [lnB_eq]
    rfl
  exact xms_ok rfl lc (joinB h)
theorem r_readbook (h : Bk ps) : x_read_book [.im (sD (txB ps))] = .ok (nbD ps) := by
  have l1 := h.l1
  have l2 := h.l2
  have rows : x_u_rows_of [.im (sD (txB ps))] = .ok (.list (ps.map prD)) := by
    have := r_rows (ls := ps.map wdB) (by simp; intro z; rw [z] at l1; simp at l1) (by rw [List.length_map]; omega) fun ws hws => by
      obtain ⟨p, hp, rfl⟩ := List.mem_map.mp hws
      refine ⟨by simp [wdB], by simp [wdB], fun w hw => ?_⟩
      obtain ⟨a, b, c, _⟩ := wdB_ok (h.w p hp) w hw
      exact ⟨a, b, c⟩
    rw [List.map_map, List.map_map] at this
    exact this
  refine xdef_rt rfl (xseq_nx rfl (xseq_nx rfl (xseq_nx (ρ' := [.im (sD (txB ps)), .ls ((ps.take 0).map prD), .dc (kvL (f1 ps 0)), .dc (kvL (f2 ps 0)), .un]) rfl ?_)))
  refine xseq_for (fun i ρ => ∃ e4, ρ = [.im (sD (txB ps)), .ls ((ps.take i).map prD), .dc (kvL (f1 ps i)), .dc (kvL (f2 ps i)), e4]) (ds := ps.map prD) (xitL_ok (xcall_ok (xg1 (xvr rfl)) rows)) (fun i hi ρ hI => ?_) ⟨_, rfl⟩ ?_
  · obtain ⟨e4, rfl⟩ := hI
    rw [List.length_map] at hi
    rw [List.getElem_map]
    have w := h.w _ (List.getElem_mem hi)
    have tl : ((ps.take i).map prD).length = i := by
      rw [List.length_map, List.length_take]
      omega
    have p0 : ∀ {ρ : List En}, ρ[4]? = some (.im (prD ps[i])) → xOp ixD (xLook 4) (xC (.int 0)) ρ = .ok (sD ps[i].1) := fun e => xop_ok (xlk e) rfl rfl
    have p1 : ∀ {ρ : List En}, ρ[4]? = some (.im (prD ps[i])) → xOp ixD (xLook 4) (xC (.int 1)) ρ = .ok (sD ps[i].2) := fun e => xop_ok (xlk e) rfl rfl
    have t1 : xTst (xOp eqD (xF lenD (xLook 1)) (xC (.int 40))) [.im (sD (txB ps)), .ls ((ps.take i).map prD), .dc (kvL (f1 ps i)), .dc (kvL (f2 ps i)), .im (prD ps[i])] = .ok false := by
      refine xtst_ok ((xop_ok (x := .int (i : Int)) (xf_ok (xlkl rfl) (by show some (PyData.int (((ps.take i).map prD).length : Int)) = _; rw [tl])) rfl (eq_i _ _)).trans ?_)
      rw [show ((i : Int) == 40) = false by simp only [beq_eq_false_iff_ne]; omega]
    refine ⟨_, _, rfl, xseq_nx (xifF (xorF t1 (xorF (tru_b (b := true) (xcall_ok (xg1 (xvr rfl)) (r_isP w))) (xorF (xinK_no (p0 rfl) (xlkd rfl) (nin1 h.toBkOk hi)) (xinK_no (p1 rfl) (xlkd rfl) (nin2 h.toBkOk hi))))) rfl) (xseq_nx (xdput_no (i := 2) rfl (p0 rfl) (nin1 h.toBkOk hi) (f1_len l2)) (xseq_nx (xdput_no (i := 3) rfl (p1 rfl) (nin2 h.toBkOk hi) (f2_len l2)) (xapp_ok (i := 1) rfl (xvr rfl) (by rw [tl]; exact lim40 (by omega))))), .im (prD ps[i]), ?_⟩
    rw [f1_s hi, f2_s hi, List.take_succ, List.getElem?_eq_getElem hi, List.map_append]
    rfl
  · rintro ρ ⟨e4, rfl⟩
    refine xret_ok (xf_ok (xlkl rfl) ?_)
    rw [List.length_map, List.take_length]
    rfl
theorem pr_inj {a b : Pr} (z : prD a = prD b) : a = b := by
  unfold prD at z
  injection z with z
  injection z with z1 z
  injection z with z2 _
  injection z1 with z1
  injection z2 with z2
  obtain ⟨a1, a2⟩ := a
  obtain ⟨b1, b2⟩ := b
  rw [show a1 = b1 from S_inj.mp z1, show a2 = b2 from S_inj.mp z2]
theorem map_inj {α β : Type} {f : α → β} (hf : ∀ a b, f a = f b → a = b) : ∀ {s t : List α}, s.map f = t.map f → s = t
  | [], [], _ => rfl
  | [], _ :: _, h => by cases h
  | _ :: _, [], h => by cases h
  | a :: r, b :: q, h => by
    rw [List.map_cons, List.map_cons] at h
    injection h with z1 z2
    rw [hf _ _ z1, map_inj hf z2]
theorem txB_inj {s t : List Pr} (hs : Bk s) (ht : Bk t) (e : txB s = txB t) : s = t := by
  have h1 := r_readbook hs
  rw [e, r_readbook ht] at h1
  have h2 : PyData.tuple (t.map prD) = .tuple (s.map prD) := by
    injection h1
  injection h2 with h3
  exact (map_inj (fun a b => pr_inj) h3).symm
theorem rp_pr {p : Pr} (h : WB p.1 8 ∧ WB p.2 5) : Rp (prD p) 200 1 := by
  have a := rp_txt (W := 10) h.1.lo (by have := h.1.l2; omega)
  have b := rp_txt (W := 10) h.2.lo (by have := h.2.l2; omega)
  exact (rp_tup (rpA_cons a (rpA_cons b rpA_nil))).mono (by decide) (by decide)
theorem rp_nb (h : Bk ps) : Rp (nbD ps) 10000 2 := by
  refine (rp_tup (rpA_all (W := 200) (dep := 1) fun x hx => ?_)).mono (by rw [List.length_map]; have := h.l2; omega) (by decide)
  obtain ⟨t, ht, rfl⟩ := List.mem_map.mp hx
  exact rp_pr (h.w t ht)
theorem r_bookright (h : Bk ps) : x_u_law_book_right [.im (nbD ps)] = .ok (.bool true) := by
  have l2 := h.l2
  have due : xMS joinD (xC (.str "\n")) (xLcT (xItT (xVar 0)) xYes (xOp addD (xOp addD (xLook 2) (xC (.str " "))) (xLook 3)) [2, 3] [2, 3]) [.im (nbD ps), .un, .un, .un, .un] = .ok (sD (txB ps)) := by
    refine xms_ok rfl (xlcT_ok (ys := (ps.map lnB).map sD) (xitT_ok' (ds := ps.map prD) (xvr rfl)) (by rw [List.length_map]; omega) (xlcT_all _ _ (by simp) fun i hi hi' => ?_)) (joinB h)
    rw [List.length_map] at hi
    have o := h.w _ (List.getElem_mem hi)
    have d1 := o.1.l2
    have d2 := o.2.l2
    refine ⟨[sD ps[i].1, sD ps[i].2], [.im (nbD ps), .un, .im (sD ps[i].1), .im (sD ps[i].2), .un], by rw [List.getElem_map]; rfl, rfl, ?_⟩
    rw [List.getElem_map, List.getElem_map, lnB_eq]
    exact xop_ok (xop_ok (xlk rfl) rfl (add_S _ [32] (lim (by simp; omega)))) (xlk rfl) (add_S _ _ (lim (by simp; omega)))
  refine xdef_rt rfl (xseq_nx (xset_ok due) ?_)
  have c1 : ∀ {ρ : List En}, ρ[0]? = some (.im (nbD ps)) → xCall x_book_text (xgIm (xVar 0) xgNil) ρ = .ok (sD (txB ps)) := fun e => xcall_ok (xg1 (xvr e)) (r_booktext h)
  have c2 : ∀ {ρ : List En}, ρ[1]? = some (.im (sD (txB ps))) → xCall x_read_book (xgIm (xVar 1) xgNil) ρ = .ok (nbD ps) := fun e => xcall_ok (xg1 (xvr e)) (r_readbook h)
  refine xseq_nx (xset_ok (xlst_ok (xcons_ok (c1 rfl) (xcons_ok (c2 rfl) (xcons_ok (c1 rfl) (xcons_ok (c2 rfl) rfl)))) (show 4 ≤ LIM by decide))) ?_
  have rp : Rp (.list [sD (txB ps), nbD ps, sD (txB ps), nbD ps]) 30000 3 := by
    have a := (rp_txt (txB_lo h) (txB_len h)).mono (Nat.le_refl _) (show 0 ≤ 2 by decide)
    have b := rp_nb h
    exact (rp_list (rpA_cons a (rpA_cons b (rpA_cons a (rpA_cons b rpA_nil))))).mono (by decide) (by decide)
  obtain ⟨q1, q2⟩ := rep_ok rp rfl (by decide) (by decide)
  refine xret_ok (xop_ok (xf_ok (xlk rfl) q1) (xf_ok (x := .list [sD (txB ps), nbD ps, sD (txB ps), nbD ps]) ?_ q1) (eq_same q2))
  show (xCons (xVar 1) (xCons (xVar 0) xNil) _).bind _ = _
  rw [xcons_ok (xvr (d := sD (txB ps)) rfl) (xcons_ok (xvr (d := nbD ps) rfl) rfl)]
  rfl
end
end Pf

/-! D5: drawn roads, drawn books -/
namespace Pf
open PySem L2 HW
abbrev fR : RR := fun _ _ _ => False
theorem ofE {R : RR} {xa : XE} {wa : WE} (k : RfE R xa wa) {ρ : List En} {d : D} (e : xa ρ = .ok d) {Q : D → Nat → Prop} {c : Nat} (q : Q d c) : wa ρ c Q := k ρ c Q (by rw [e]; exact q)
/-- one of some things -/
theorem l_ofM {ds : List D} {c : Nat} {Q : D → Nat → Prop} (h1 : 1 ≤ ds.length) (h2 : ds.length ≤ 1000) (hc : c < 2 ^ 60) (q : ∀ d ∈ ds, Q d (c + 1)) : f_u_law_of [.st, .im (.list ds)] c Q := by
  refine ⟨rfl, _, _, rfl, rfl, ?_⟩
  refine drw (i := 0) (k_f k_look) (t := (ds.length : Int)) rfl rfl (by omega) (by omega) hc fun n hn => ?_
  have hn' : n < ds.length := by omega
  refine ⟨ds[n], ?_, q _ (List.getElem_mem _)⟩
  show atI ds n = _
  unfold atI ixN
  rw [if_pos (by omega), if_pos (by omega)]
  have : ((n : Int)).toNat = n := by omega
  rw [this]
  simp [hn']
/-- one sign of some -/
theorem l_ofS {l : List Nat} {c : Nat} {Q : D → Nat → Prop} (h : 0 < l.length) (h2 : l.length ≤ 1000) (hc : c < 2 ^ 60) (q : ∀ x ∈ l, Q (cD x) (c + 1)) : f_u_law_of [.st, sE l] c Q := by
  refine ⟨rfl, ?_⟩
  refine ⟨_, _, rfl, rfl, ?_⟩
  refine drw (i := 0) (k_f k_look) (t := l.length) (xf_ok rfl (len_S l (lim h2))) rfl (by omega) (by omega) hc fun n hn => ?_
  have hl : n < l.length := by omega
  exact ⟨_, ixS l hl (lim h2), q _ (List.getElem_mem hl)⟩
/-- a road -/
theorem l_road {most wide : Nat} (hm : 1 ≤ most) (hm2 : most ≤ 40) (hw : 2 ≤ wide) (hw2 : wide ≤ 1001) {c : Nat} {Q : D → Nat → Prop} (hc : c < 2 ^ 58) (q : ∀ ts c', RdOk ts → c ≤ c' → c' ≤ c + 200 → Q (rdD ts) c') : f_u_law_road [.st, .im (.int (most : Int)), .im (.int (wide : Int))] c Q := by
  refine ⟨rfl, ?_⟩
  refine nxt k_u_law_road_a (ρ' := [.st, .im (.int (most : Int)), .im (.int (wide : Int)), .ls [], .un]) rfl ?_
  refine drw (i := 0) k_var (t := (most : Int)) rfl rfl (by omega) (by omega) (by omega) fun g hg => ⟨_, add_i _ _, _, rfl, (rng_in (by omega) (by omega)).1, (rng_in (by omega) (by omega)).2, ?_⟩
  have e2 : ((1 : Int) + (g : Int)).toNat = g + 1 := by omega
  rw [e2]
  refine forGo_inv (fun i ρ c' => c ≤ c' ∧ c' ≤ c + 1 + 3 * i ∧ ∃ (ts : List Tri) (e4 : En), ts.length = i ∧ (∀ t ∈ ts, TriOk t) ∧ ρ = [.st, .im (.int (most : Int)), .im (.int (wide : Int)), .ls (ts.map triD), e4]) _ 0 _ _ ?_ ⟨by omega, by omega, [], .un, rfl, (fun t ht => by cases ht), rfl⟩ ?_
  · rintro i hi ρ c1 dd' ed ⟨k0, k1, ts, e4, hl, ho, rfl⟩ k
    rw [rng_len] at hi
    simp only [Nat.zero_add] at k1 k hl
    refine ⟨⟨_, rfl⟩, ?_⟩
    refine drw (i := 0) k_var (t := (wide : Int)) rfl rfl (by omega) (by omega) (by omega) fun a ha => ?_
    refine drw (i := 0) (k_op k_look k_c) (t := (wide : Int) - 1) (xop_ok (xlk rfl) rfl (sub_i _ _)) rfl (by omega) (by omega) (by omega) fun b hb => ⟨_, add_i _ _, ?_⟩
    refine drw (i := 0) k_var (t := (wide : Int)) rfl rfl (by omega) (by omega) (by omega) fun d hd => ⟨(show 3 ≤ LIM by decide), _, rfl, by rw [List.length_map, hl]; exact lim40 (by omega), ?_⟩
    refine k _ _ ⟨by omega, by omega, ts ++ [(a, b + 1, d)], .im ((rngD 0 (g + 1))[i]'(by rw [rng_len]; exact hi)), by rw [List.length_append, hl]; rfl, fun t ht => ?_, ?_⟩
    · rcases List.mem_append.mp ht with z | z
      · exact ho t z
      · rw [List.mem_singleton.mp z]
        exact ⟨show a ≤ 1000 by omega, ⟨show 1 ≤ b + 1 by omega, show b + 1 ≤ 1000 by omega⟩, show d ≤ 1000 by omega⟩
    · rw [cast1, List.map_append]
      rfl
  · rintro ρ c1 ⟨k0, k1, ts, e4, hl, ho, rfl⟩
    rw [rng_len] at hl k1
    exact rtn k_u_law_road_bb (d := rdD ts) (xret_ok (xf_ok (xlkl rfl) rfl)) (q ts c1 ⟨ho, by omega, by omega⟩ k0 (by omega))
/-- a word -/
theorem wd_go {ls : List Nat} (h1 : 0 < ls.length) (h2 : ls.length ≤ 1000) {e1 e3 : En} {Q : D → Nat → Prop} : ∀ (ds : List D) (acc : List Nat) (c : Nat), c + ds.length < 2 ^ 60 → (∀ r : List Nat, r.length = ds.length → (∀ x ∈ r, x ∈ ls) → Q (.list ((acc ++ r).map cD)) (c + ds.length)) → lcGo wYes (wCall f_u_law_of (gSt 0 (gIm (wVar 2) HW.gNil))) [.st, e1, sE ls, e3] 3 ds (acc.map cD) c Q
  | [], acc, c, _, q => by have := q [] rfl (by simp); rwa [List.append_nil] at this
  | d :: r, acc, c, hc, q => by
    rw [List.length_cons] at hc
    refine iteT (B := lcGo wYes (wCall f_u_law_of (gSt 0 (gIm (wVar 2) HW.gNil))) [.st, e1, sE ls, e3] 3 r (acc.map cD) c Q) ⟨rfl, _, rfl, l_ofS h1 h2 (by omega) fun x hx => ?_⟩
    have := wd_go h1 h2 (e1 := e1) (e3 := e3) (Q := Q) r (acc ++ [x]) (c + 1) (by omega) fun r' hl hr' => by
      have := q (x :: r') (by rw [List.length_cons, hl, List.length_cons]) (by
        intro y hy
        rcases List.mem_cons.mp hy with rfl | z
        · exact hx
        · exact hr' y z)
      rw [List.length_cons] at this
      rw [List.append_assoc, show c + 1 + r.length = c + (r.length + 1) by omega]
      exact this
    rw [List.map_append] at this
    exact this
theorem l_word {ls : List Nat} (h1 : 0 < ls.length) (h2 : ls.length ≤ 1000) (hls : ∀ c ∈ ls, c ∈ codeL) {c : Nat} {Q : D → Nat → Prop} (hc : c < 2 ^ 59) (q : ∀ r c', WB r 4 → c ≤ c' → c' ≤ c + 10 → Q (sD r) c') : f_u_law_word [.st, .im (.int 4), sE ls] c Q := by
  refine ⟨rfl, ⟨⟨"", rfl⟩, ?_⟩⟩
  refine drw (i := 0) k_var (t := 4) rfl rfl (by omega) (by omega) (by omega) fun g hg => ⟨_, add_i _ _, _, rfl, (rng_in (by omega) (by omega)).1, (rng_in (by omega) (by omega)).2, ?_⟩
  rw [cast1, Int.toNat_natCast]
  refine ⟨by rw [rng_len]; omega, ?_⟩
  refine wd_go h1 h2 _ [] _ (by rw [rng_len]; omega) fun r hl hr => ?_
  rw [rng_len] at hl
  rw [rng_len, List.nil_append]
  exact ⟨_, joinS r (by omega), q r _ ⟨by omega, by omega, fun c hc => hls c (hr c hc)⟩ (by omega) (by omega)⟩
/-- a book -/
theorem nin_ok (p : List Nat) (ps : List (List Nat)) : inD true (sD p) (.list (ps.map sD)) = some (.bool (!decide (p ∈ ps))) := by
  have : inB (sD p) (.list (ps.map sD)) = some (decide (p ∈ ps)) := by
    show (some (ps.map sD)).bind (fun ds => (strsOf ds).map fun xs => decide (S p ∈ xs)) = _
    show (strsOf (ps.map sD)).map (fun xs => decide (S p ∈ xs)) = _
    rw [strs_of]
    show some (decide (S p ∈ ps.map S)) = _
    congr 1
    refine decide_eq_decide.mpr ⟨fun h => ?_, fun h => List.mem_map.mpr ⟨p, h, rfl⟩⟩
    obtain ⟨q, hq, e⟩ := List.mem_map.mp h
    rw [← S_inj.mp e]
    exact hq
  unfold inD
  rw [this]
  rfl
abbrev bkE (most : Int) (ls sg : List Nat) (ps : List Pr) (e6 e7 e8 : En) : List En := [.st, .im (.int most), sE ls, sE sg, .ls ((ps.map (·.1)).map sD), .ls ((ps.map (·.2)).map sD), e6, e7, e8]
theorem zip_nb (ps : List Pr) : zipD ((ps.map (·.1)).map sD) ((ps.map (·.2)).map sD) = ps.map prD := by
  unfold zipD
  induction ps with
  | nil => rfl
  | cons p r ih =>
    simp only [List.map_cons, List.zipWith_cons_cons, ih]
    rfl
theorem bk_put {most : Int} {ls sg : List Nat} {ps : List Pr} {p q : List Nat} {e6 : En} (hb : BkOk ps) (hp : WB p 4) (hq : WB q 4) (hl : ps.length ≤ 100) : ∃ ps', x_u_law_book_bafb (bkE most ls sg ps e6 (.im (sD p)) (.im (sD q))) = .ok (.nx (bkE most ls sg ps' e6 (.im (sD p)) (.im (sD q)))) ∧ BkOk ps' ∧ ps.length ≤ ps'.length ∧ ps'.length ≤ ps.length + 1 ∧ 1 ≤ ps'.length := by
  have t1 : xTst (xOp (inD true) (xLook 7) (xLook 4)) (bkE most ls sg ps e6 (.im (sD p)) (.im (sD q))) = .ok (!decide (p ∈ ps.map (·.1))) := xtst_ok (xop_ok (xlk rfl) (xlkl rfl) (nin_ok _ _))
  have t2 : xTst (xOp (inD true) (xLook 8) (xLook 5)) (bkE most ls sg ps e6 (.im (sD p)) (.im (sD q))) = .ok (!decide (q ∈ ps.map (·.2))) := xtst_ok (xop_ok (xlk rfl) (xlkl rfl) (nin_ok _ _))
  have keep : (∃ z ∈ ps.map (·.1), z = p) ∨ (∃ z ∈ ps.map (·.2), z = q) → 1 ≤ ps.length := fun h => by
    cases ps with
    | nil => rcases h with ⟨z, hz, _⟩ | ⟨z, hz, _⟩ <;> cases hz
    | cons _ _ => simp
  by_cases h1 : p ∈ ps.map (·.1)
  · exact ⟨ps, xifF (xandF (by rw [t1, decide_eq_true h1]; rfl)) rfl, hb, Nat.le_refl _, by omega, keep (.inl ⟨p, h1, rfl⟩)⟩
  · by_cases h2 : q ∈ ps.map (·.2)
    · exact ⟨ps, xifF (xandT (by rw [t1, decide_eq_false h1]; rfl) (by rw [t2, decide_eq_true h2]; rfl)) rfl, hb, Nat.le_refl _, by omega, keep (.inr ⟨q, h2, rfl⟩)⟩
    · have new : BkOk (ps ++ [(p, q)]) := by
        refine ⟨fun x hx => ?_, ?_, ?_⟩
        · rcases List.mem_append.mp hx with z | z
          · exact hb.w x z
          · rw [List.mem_singleton.mp z]
            exact ⟨⟨hp.l1, Nat.le_trans hp.l2 (show 4 ≤ 8 by decide), hp.c⟩, ⟨hq.l1, Nat.le_trans hq.l2 (show 4 ≤ 5 by decide), hq.c⟩⟩
        · rw [List.map_append]
          exact List.nodup_append.mpr ⟨hb.n1, by simp, fun a ha b hb' => by rw [List.mem_singleton.mp hb']; exact fun z => h1 (show p ∈ ps.map (·.1) from (show a = p from z) ▸ ha)⟩
        · rw [List.map_append]
          exact List.nodup_append.mpr ⟨hb.n2, by simp, fun a ha b hb' => by rw [List.mem_singleton.mp hb']; exact fun z => h2 (show q ∈ ps.map (·.2) from (show a = q from z) ▸ ha)⟩
      refine ⟨ps ++ [(p, q)], ?_, new, by simp, by simp, by simp⟩
      refine xifT (xandT (by rw [t1, decide_eq_false h1]; rfl) (by rw [t2, decide_eq_false h2]; rfl)) ?_
      refine xseq_nx (xapp_ok (i := 4) (d := sD p) rfl (xvr rfl) (by rw [List.length_map, List.length_map]; exact lim40 (by omega))) ?_
      refine (xapp_ok (i := 5) (ds := (ps.map (·.2)).map sD) (d := sD q) rfl (xvr rfl) (by rw [List.length_map, List.length_map]; exact lim40 (by omega))).trans ?_
      unfold bkE
      rw [List.map_append, List.map_append, List.map_append, List.map_append]
      rfl
theorem l_book {most : Nat} {ls sg : List Nat} (hm : 1 ≤ most) (hm2 : most ≤ 40) (l1 : 0 < ls.length) (l2 : ls.length ≤ 1000) (l3 : ∀ c ∈ ls, c ∈ codeL) (g1 : 0 < sg.length) (g2 : sg.length ≤ 1000) (g3 : ∀ c ∈ sg, c ∈ codeL) {c : Nat} {Q : D → Nat → Prop} (hc : c < 2 ^ 58) (q : ∀ ps c', Bk ps → c ≤ c' → c' ≤ c + 1000 → Q (nbD ps) c') : f_u_law_book [.st, .im (.int (most : Int)), sE ls, sE sg] c Q := by
  refine ⟨rfl, ?_⟩
  refine nxt k_u_law_book_a (ρ' := bkE (most : Int) ls sg [] .un .un .un) rfl ?_
  refine drw (i := 0) k_var (t := (most : Int)) rfl rfl (by omega) (by omega) (by omega) fun g hg => ⟨_, add_i _ _, _, rfl, (rng_in (by omega) (by omega)).1, (rng_in (by omega) (by omega)).2, ?_⟩
  have e2 : ((1 : Int) + (g : Int)).toNat = g + 1 := by omega
  rw [e2]
  refine forGo_inv (fun i ρ c' => c ≤ c' ∧ c' ≤ c + 1 + 20 * i ∧ ∃ (ps : List Pr) (e6 e7 e8 : En), BkOk ps ∧ ps.length ≤ i ∧ (1 ≤ i → 1 ≤ ps.length) ∧ ρ = bkE (most : Int) ls sg ps e6 e7 e8) _ 0 _ _ ?_ ⟨by omega, by omega, [], .un, .un, .un, ⟨(fun p hp => by cases hp), List.Pairwise.nil, List.Pairwise.nil⟩, by simp, by omega, rfl⟩ ?_
  · rintro i hi ρ c1 dd' ed ⟨k0, k1, ps, e6, e7, e8, hb, hl, hl2, rfl⟩ k
    rw [rng_len] at hi
    simp only [Nat.zero_add] at k1 k hl
    refine ⟨rfl, _, rfl, l_word l1 l2 l3 (by omega) fun p c2 hp j0 j1 => ?_⟩
    refine ⟨rfl, _, rfl, l_word g1 g2 g3 (by omega) fun q2 c3 hq j2 j3 => ?_⟩
    obtain ⟨ps', e, hb', n1, n2, n3⟩ := bk_put (most := (most : Int)) (ls := ls) (sg := sg) (e6 := .im ((rngD 0 (g + 1))[i]'(by rw [rng_len]; exact hi))) hb hp hq (by omega)
    exact nxt k_u_law_book_bafb e (k _ _ ⟨by omega, by omega, ps', _, _, _, hb', by omega, fun _ => n3, rfl⟩)
  · rintro ρ c1 ⟨k0, k1, ps, e6, e7, e8, hb, hl, hl2, rfl⟩
    rw [rng_len] at hl hl2 k1
    have hq := q ps c1 ⟨hb, hl2 (by omega), by omega⟩ k0 (by omega)
    refine rtn k_u_law_book_bb (d := nbD ps) (xret_ok ?_) hq
    show (xLook 4 _).bind _ = _
    rw [xlkl (ds := (ps.map (·.1)).map sD) rfl, Rs.bind_ok, xlkl (ds := (ps.map (·.2)).map sD) rfl]
    refine (guard_pos ⟨by simp, by rw [List.length_map, List.length_map]; exact lim (by omega)⟩).trans ?_
    rw [zip_nb]
    rfl
/-! alike -/
theorem eqvA_map {α : Type} [DecidableEq α] {f : α → D} (hf : ∀ a b, PyData.eqv (f a) (f b) = decide (a = b)) : ∀ s t : List α, PyData.eqvAll (s.map f) (t.map f) = decide (s = t)
  | [], [] => rfl
  | [], _ :: _ => rfl
  | _ :: _, [] => rfl
  | a :: r, b :: q => by
    show (PyData.eqv (f a) (f b) && PyData.eqvAll (r.map f) (q.map f)) = _
    rw [hf, eqvA_map hf r q, ← Bool.decide_and]
    exact decide_eq_decide.mpr (by simp)
theorem eqv_tri (s t : Tri) : PyData.eqv (triD s) (triD t) = decide (s = t) := by
  show (((s.1 : Int) == (t.1 : Int)) && (((s.2.1 : Int) == (t.2.1 : Int)) && (((s.2.2 : Int) == (t.2.2 : Int)) && true))) = _
  rw [Bool.eq_iff_iff]
  obtain ⟨a, b, c⟩ := s
  obtain ⟨x, y, z⟩ := t
  simp
  omega
theorem eqv_pr (s t : Pr) : PyData.eqv (prD s) (prD t) = decide (s = t) := by
  show ((S s.1 == S t.1) && ((S s.2 == S t.2) && true)) = _
  rw [S_beq, S_beq, Bool.and_true, ← Bool.decide_and]
  obtain ⟨a, b⟩ := s
  obtain ⟨x, y⟩ := t
  exact decide_eq_decide.mpr (by simp)
theorem eq_rp {x y : D} {W dep : Nat} {b : Bool} (hx : Rp x W dep) (hy : Rp y W dep) (hd : dep ≤ 60) (h : PyData.eqv x y = b) : eqD x y = some (.bool b) := by
  have sh : ∀ {d : D}, Rp d W dep → SeqAt.shaped d = true := fun {d} r => by
    show (PyData.canLay0 d && decide (PyData.depth d ≤ 64)) = true
    have := r.d
    rw [r.l, decide_eq_true (by omega)]
    rfl
  unfold eqD
  rw [if_pos ⟨hx.f, hy.f, sh hx, sh hy⟩, h]
theorem ne_bb (b : Bool) : neD (.bool b) (.bool b) = some (.bool false) := by cases b <;> rfl
end Pf

/-! D6: the law's own words hold -/
namespace Pf
open PySem L2 HW
abbrev lE (e0 e2 e3 e4 e5 e6 e7 e8 e9 e10 e11 : En) : List En := [e0, .st, e2, e3, e4, e5, e6, e7, e8, e9, e10, e11]
section
variable {e0 e2 e3 e4 e5 e6 e7 e8 e9 e10 e11 : En}
theorem p_roads {s t : List Tri} (hs : RdOk s) (ht : RdOk t) : x_lafba (lE e0 e2 (.im (rdD s)) (.im (rdD t)) e5 e6 e7 e8 e9 e10 e11) = .ok (.nx (lE e0 e2 (.im (rdD s)) (.im (rdD t)) e5 e6 e7 e8 e9 e10 e11)) :=
  xifF (xorF (tru_b (b := true) (xcall_ok (xg1 (xvr rfl)) (r_roadright hs))) (tru_b (b := true) (xcall_ok (xg1 (xvr rfl)) (r_roadright ht)))) rfl
theorem p_rtexts {s t : List Tri} (hs : RdOk s) (ht : RdOk t) : x_lafbba (lE e0 e2 (.im (rdD s)) (.im (rdD t)) e5 e6 e7 e8 e9 e10 e11) = .ok (.nx (lE e0 e2 (.im (rdD s)) (.im (rdD t)) e5 e6 e7 e8 e9 e10 e11)) := by
  have a1 : xOp eqD (xCall x_road_text (xgIm (xVar 3) xgNil)) (xCall x_road_text (xgIm (xVar 4) xgNil)) (lE e0 e2 (.im (rdD s)) (.im (rdD t)) e5 e6 e7 e8 e9 e10 e11) = .ok (.bool (decide (s = t))) := by
    refine (xop_ok (xcall_ok (xg1 (xvr rfl)) (r_roadtext hs)) (xcall_ok (xg1 (xvr rfl)) (r_roadtext ht)) (eqS (txR_lo hs) (txR_lo ht))).trans ?_
    rw [show decide (txR s = txR t) = decide (s = t) from decide_eq_decide.mpr ⟨txR_inj hs ht, fun e => by rw [e]⟩]
  have a2 : xOp eqD (xLook 3) (xLook 4) (lE e0 e2 (.im (rdD s)) (.im (rdD t)) e5 e6 e7 e8 e9 e10 e11) = .ok (.bool (decide (s = t))) := xop_ok (xlk rfl) (xlk rfl) (eq_rp (rp_rd hs) (rp_rd ht) (by decide) (eqvA_map eqv_tri s t))
  exact xifF (xtst_ok (b := false) (xop_ok a1 a2 (ne_bb _))) rfl
theorem p_books {s t : List Pr} (hs : Bk s) (ht : Bk t) : x_lafbbbba (lE e0 e2 e3 e4 (.im (nbD s)) (.im (nbD t)) e7 e8 e9 e10 e11) = .ok (.nx (lE e0 e2 e3 e4 (.im (nbD s)) (.im (nbD t)) e7 e8 e9 e10 e11)) :=
  xifF (xorF (tru_b (b := true) (xcall_ok (xg1 (xvr rfl)) (r_bookright hs))) (tru_b (b := true) (xcall_ok (xg1 (xvr rfl)) (r_bookright ht)))) rfl
theorem p_btexts {s t : List Pr} (hs : Bk s) (ht : Bk t) : x_lafbbbbb (lE e0 e2 e3 e4 (.im (nbD s)) (.im (nbD t)) e7 e8 e9 e10 e11) = .ok (.nx (lE e0 e2 e3 e4 (.im (nbD s)) (.im (nbD t)) e7 e8 e9 e10 e11)) := by
  have a1 : xOp eqD (xCall x_book_text (xgIm (xVar 5) xgNil)) (xCall x_book_text (xgIm (xVar 6) xgNil)) (lE e0 e2 e3 e4 (.im (nbD s)) (.im (nbD t)) e7 e8 e9 e10 e11) = .ok (.bool (decide (s = t))) := by
    refine (xop_ok (xcall_ok (xg1 (xvr rfl)) (r_booktext hs)) (xcall_ok (xg1 (xvr rfl)) (r_booktext ht)) (eqS (txB_lo hs) (txB_lo ht))).trans ?_
    rw [show decide (txB s = txB t) = decide (s = t) from decide_eq_decide.mpr ⟨txB_inj hs ht, fun e => by rw [e]⟩]
  have a2 : xOp eqD (xLook 5) (xLook 6) (lE e0 e2 e3 e4 (.im (nbD s)) (.im (nbD t)) e7 e8 e9 e10 e11) = .ok (.bool (decide (s = t))) := xop_ok (xlk rfl) (xlk rfl) (eq_rp (rp_nb hs) (rp_nb ht) (by decide) (eqvA_map eqv_pr s t))
  exact xifF (xtst_ok (b := false) (xop_ok a1 a2 (ne_bb _))) rfl
/-! what is written in the law -/
def grL : List Tri := (List.range 40).map fun k => (1000, 1000 - k, k)
def rdB (ts : List Tri) : Bool := decide (1 ≤ ts.length ∧ ts.length ≤ 40) && ts.all fun t => decide (t.1 ≤ 1000 ∧ (1 ≤ t.2.1 ∧ t.2.1 ≤ 1000) ∧ t.2.2 ≤ 1000)
theorem rdB_ok {ts : List Tri} (h : rdB ts = true) : RdOk ts := by
  unfold rdB at h
  rw [Bool.and_eq_true, decide_eq_true_eq, List.all_eq_true] at h
  exact ⟨fun t ht => (of_decide_eq_true (h.2 t ht) : t.1 ≤ 1000 ∧ (1 ≤ t.2.1 ∧ t.2.1 ≤ 1000) ∧ t.2.2 ≤ 1000), h.1.1, h.1.2⟩
def roads4 : List (List Tri) := [grL, [(0, 1, 0)], List.replicate 40 (0, 1, 0), [(1000, 1000, 1000)]]
theorem roads4_ok : ∀ ts ∈ roads4, RdOk ts := fun ts h => rdB_ok (List.all_eq_true.mp (show roads4.all rdB = true by decide +kernel) ts h)
def wbB (l : List Nat) (m : Nat) : Bool := decide (1 ≤ l.length ∧ l.length ≤ m) && l.all fun c => decide (c ∈ codeL)
theorem wbB_ok {l : List Nat} {m : Nat} (h : wbB l m = true) : WB l m := by
  unfold wbB at h
  rw [Bool.and_eq_true, decide_eq_true_eq, List.all_eq_true] at h
  exact ⟨h.1.1, h.1.2, fun c hc => of_decide_eq_true (h.2 c hc)⟩
def bkB (ps : List Pr) : Bool := decide (1 ≤ ps.length ∧ ps.length ≤ 40) && ((ps.all fun p => wbB p.1 8 && wbB p.2 5) && (decide (ps.map (·.1)).Nodup && decide (ps.map (·.2)).Nodup))
theorem bkB_ok {ps : List Pr} (h : bkB ps = true) : Bk ps := by
  unfold bkB at h
  rw [Bool.and_eq_true, Bool.and_eq_true, Bool.and_eq_true, decide_eq_true_eq, decide_eq_true_eq, decide_eq_true_eq, List.all_eq_true] at h
  exact ⟨⟨fun p hp => by
    have := h.2.1 p hp
    rw [Bool.and_eq_true] at this
    exact ⟨wbB_ok this.1, wbB_ok this.2⟩, h.2.2.1, h.2.2.2⟩, h.1.1, h.1.2⟩
def rowL : List Pr := (List.range 40).map fun k => (112 :: dg k, 99 :: dg k)
def books3 : List (List Pr) := [rowL, [([97], [48])], [([97, 98, 99, 100, 101, 102, 103, 104], [48, 49, 50, 51, 52]), ([122, 122, 122, 122, 122, 122, 122, 122], [57, 57, 57, 57, 57])]]
theorem books3_ok : ∀ ps ∈ books3, Bk ps := fun ps h => bkB_ok (List.all_eq_true.mp (show books3.all bkB = true by decide +kernel) ps h)
theorem p_great : x_lba (lE e0 e2 e3 e4 e5 e6 e7 e8 e9 e10 e11) = .ok (.nx (lE e0 e2 e3 e4 e5 e6 (.im (rdD grL)) e8 e9 e10 e11)) := xset_ok (by kernel_rfl)
theorem p_four : ∃ e9', x_lbba (lE e0 e2 e3 e4 e5 e6 (.im (rdD grL)) e8 e9 e10 e11) = .ok (.nx (lE e0 e2 e3 e4 e5 e6 (.im (rdD grL)) e8 e9' e10 e11)) := by
  obtain ⟨ρ', e1, f9, rfl⟩ := xfor_go (xi := xItT (xTup (xCons (xVar 7) (xCons (xTup (xCons (xTup (xCons (xC (.int 0)) (xCons (xC (.int 1)) (xCons (xC (.int 0)) xNil)))) xNil)) (xCons (xOp repTAD (xTup (xCons (xTup (xCons (xC (.int 0)) (xCons (xC (.int 1)) (xCons (xC (.int 0)) xNil)))) xNil)) (xC (.int 40))) (xCons (xTup (xCons (xTup (xCons (xC (.int 1000)) (xCons (xC (.int 1000)) (xCons (xC (.int 1000)) xNil)))) xNil)) xNil)))))) (tg := xgN 9) (xs := (xIf (xNot (xTru (xCall x_u_law_road_right (xgIm (xVar 9) xgNil)))) (xRet (xC (.bool false))) xNext)) (ds := roads4.map rdD) (ρ := lE e0 e2 e3 e4 e5 e6 (.im (rdD grL)) e8 e9 e10 e11) (fun _ ρ => ∃ e9, ρ = lE e0 e2 e3 e4 e5 e6 (.im (rdD grL)) e8 e9 e10 e11) (by kernel_rfl) (fun i hi ρ hI => by
    obtain ⟨f9, rfl⟩ := hI
    rw [List.length_map] at hi
    rw [List.getElem_map]
    exact ⟨_, _, rfl, xifF (tru_b (b := true) (xcall_ok (xg1 (xvr rfl)) (r_roadright (roads4_ok _ (List.getElem_mem hi))))) rfl, _, rfl⟩) ⟨_, rfl⟩
  exact ⟨_, e1⟩
theorem p_rows : x_lbbba (lE e0 e2 e3 e4 e5 e6 e7 e8 e9 e10 e11) = .ok (.nx (lE e0 e2 e3 e4 e5 e6 e7 e8 e9 (.im (nbD rowL)) e11)) := xset_ok (by kernel_rfl)
theorem p_three : ∃ e11', x_lbbbba (lE e0 e2 e3 e4 e5 e6 e7 e8 e9 (.im (nbD rowL)) e11) = .ok (.nx (lE e0 e2 e3 e4 e5 e6 e7 e8 e9 (.im (nbD rowL)) e11')) := by
  obtain ⟨ρ', e1, f11, rfl⟩ := xfor_go (xi := xItT (xTup (xCons (xVar 10) (xCons (xTup (xCons (xTup (xCons (xC (.str "a")) (xCons (xC (.str "0")) xNil))) xNil)) (xCons (xTup (xCons (xTup (xCons (xC (.str "abcdefgh")) (xCons (xC (.str "01234")) xNil))) (xCons (xTup (xCons (xC (.str "zzzzzzzz")) (xCons (xC (.str "99999")) xNil))) xNil))) xNil))))) (tg := xgN 11) (xs := (xIf (xNot (xTru (xCall x_u_law_book_right (xgIm (xVar 11) xgNil)))) (xRet (xC (.bool false))) xNext)) (ds := books3.map nbD) (ρ := lE e0 e2 e3 e4 e5 e6 e7 e8 e9 (.im (nbD rowL)) e11) (fun _ ρ => ∃ e11, ρ = lE e0 e2 e3 e4 e5 e6 e7 e8 e9 (.im (nbD rowL)) e11) (by kernel_rfl) (fun i hi ρ hI => by
    obtain ⟨f11, rfl⟩ := hI
    rw [List.length_map] at hi
    rw [List.getElem_map]
    exact ⟨_, _, rfl, xifF (tru_b (b := true) (xcall_ok (xg1 (xvr rfl)) (r_bookright (books3_ok _ (List.getElem_mem hi))))) rfl, _, rfl⟩) ⟨_, rfl⟩
  exact ⟨_, e1⟩
def lastL : List Pr := [([97, 98, 49], [48]), ([122], [122, 122])]
theorem p_last : x_lbbbbb (lE e0 e2 e3 e4 e5 e6 e7 e8 e9 e10 e11) = .ok (.rt (.bool true)) := by
  have h : Bk lastL := bkB_ok (by decide +kernel)
  have t : (.str "ab1 0\nz zz" : D) = sD (txB lastL) := by kernel_rfl
  refine xret_ok (xop_ok (xcall_ok (es := [.im (nbD lastL)]) ?_ (r_booktext h)) (y := sD (txB lastL)) (congrArg Rs.ok t) ((eqS (txB_lo h) (txB_lo h)).trans (by rw [decide_eq_true rfl])))
  rfl
end
abbrev body : WS := (wSeq w_lafa (wSeq w_lafba (wSeq w_lafbba (wSeq w_lafbbba (wSeq w_lafbbbba w_lafbbbbb)))))
theorem l_body {e0 e2 e3 e4 e5 e6 e7 e8 e9 e10 e11 : En} {dd : Dd} {c : Nat} (hc : c ≤ 10 ^ 7) (q : ∀ e3 e4 e5 e6 c', c' ≤ c + 5000 → dd.nx (lE e0 e2 e3 e4 e5 e6 e7 e8 e9 e10 e11) c') : body dd (lE e0 e2 e3 e4 e5 e6 e7 e8 e9 e10 e11) c := by
  show wCall f_u_law_road (gSt 1 (gIm (wC (.int 6)) (gIm (wCall f_u_law_of (gSt 1 (gIm (wLst (wCons (wC (.int 3)) (wCons (wC (.int 1001)) wNil))) HW.gNil))) HW.gNil))) (lE e0 e2 e3 e4 e5 e6 e7 e8 e9 e10 e11) c _
  refine ⟨rfl, rfl, ?_⟩
  refine ofE (R := fR) (xa := xLst (xCons (xC (.int 3)) (xCons (xC (.int 1001)) xNil))) (ρ := lE e0 e2 e3 e4 e5 e6 e7 e8 e9 e10 e11) (d := .list [.int 3, .int 1001]) (k_lst (k_cons k_c (k_cons k_c k_nil))) (xlst_ok rfl (by decide : 2 ≤ LIM)) ?_
  refine l_ofM (by decide) (by decide) (by omega) fun x hx => ?_
  obtain ⟨wide, rfl, w1, w2⟩ : ∃ wide : Nat, x = .int (wide : Int) ∧ 2 ≤ wide ∧ wide ≤ 1001 := by
    simp only [List.mem_cons, List.not_mem_nil, or_false] at hx
    rcases hx with rfl | rfl
    · exact ⟨3, rfl, by decide, by decide⟩
    · exact ⟨1001, rfl, by decide, by decide⟩
  refine l_road (most := 6) (by decide) (by decide) w1 w2 (by omega) fun s c1 hs k0 k1 => ?_
  refine ⟨rfl, l_road (most := 2) (wide := 3) (by decide) (by decide) (by decide) (by decide) (by omega) fun t c2 ht k2 k3 => ?_⟩
  show w_lafba _ (lE e0 e2 (.im (rdD s)) (.im (rdD t)) e5 e6 e7 e8 e9 e10 e11) c2
  refine nxt k_lafba (p_roads hs ht) ?_
  refine nxt k_lafbba (p_rtexts hs ht) ?_
  show w_lafbbba _ (lE e0 e2 (.im (rdD s)) (.im (rdD t)) e5 e6 e7 e8 e9 e10 e11) c2
  have lt : ∀ l : List Nat, (l.all fun c => decide (c ∈ codeL)) = true → ∀ c ∈ l, c ∈ codeL := fun l h c hc => of_decide_eq_true (List.all_eq_true.mp h c hc)
  refine ⟨rfl, l_book (most := 8) (ls := [97, 98, 99, 120, 121, 122, 48, 49, 57]) (sg := [97, 98, 122, 48, 57]) (by decide) (by decide) (by decide) (by decide) (lt _ (by decide)) (by decide) (by decide) (lt _ (by decide)) (by omega) fun m c3 hm k4 k5 => ?_⟩
  refine ⟨rfl, l_book (most := 2) (ls := [97, 98]) (sg := [97, 98]) (by decide) (by decide) (by decide) (by decide) (lt _ (by decide)) (by decide) (by decide) (lt _ (by decide)) (by omega) fun y c4 hy k6 k7 => ?_⟩
  show w_lafbbbba _ (lE e0 e2 (.im (rdD s)) (.im (rdD t)) (.im (nbD m)) (.im (nbD y)) e7 e8 e9 e10 e11) c4
  refine nxt k_lafbbbba (p_books hm hy) ?_
  exact nxt k_lafbbbbb (p_btexts hm hy) (q _ _ _ _ _ (by omega))
theorem lenI (ns : List Int) : lenD (.list (dI ns)) = some (.int ns.length) := by
  show some (PyData.int ((dI ns).length : Int)) = _
  rw [show (dI ns).length = ns.length by simp [dI]]
theorem min_i (i j : Int) : minD (.int i) (.int j) = some (.int (min i j)) := by
  show some (PyData.int (if j < i then j else i)) = _
  congr 2
  split <;> omega
theorem math (ns : List Int) (h : ns.length ≤ 63) : w_law { nx := fun _ _ => False, rt := fun d _ => d = .bool true } ((startE n_law [.im (.list (dI ns))]).set 1 .st) 0 := by
  show w_la _ ((startE n_law [.im (.list (dI ns))]).set 1 .st) 0
  refine ⟨_, _, rfl, rfl, _, lenI ns, _, min_i _ _, _, add_i _ _, _, rfl, (rng_in (by omega) (by omega)).1, (rng_in (by omega) (by omega)).2, ?_⟩
  refine forGo_inv (fun i ρ c => c ≤ i * 5000 ∧ ∃ e2 e3 e4 e5 e6 e7 e8 e9 e10 e11, ρ = lE (.im (.list (dI ns))) e2 e3 e4 e5 e6 e7 e8 e9 e10 e11) _ 0 _ _ ?_ ⟨by omega, _, _, _, _, _, _, _, _, _, _, rfl⟩ ?_
  · rintro i hi ρ c dd' ed ⟨k0, e2, e3, e4, e5, e6, e7, e8, e9, e10, e11, rfl⟩ k
    rw [rng_len] at hi
    exact l_body (by omega) fun f3 f4 f5 f6 c' h1 => k _ _ ⟨by omega, _, _, _, _, _, _, _, _, _, _, rfl⟩
  · rintro ρ c ⟨_, e2, e3, e4, e5, e6, e7, e8, e9, e10, e11, rfl⟩
    refine nxt k_lba p_great ?_
    obtain ⟨g9, q1⟩ := p_four (e0 := .im (.list (dI ns))) (e2 := e2) (e3 := e3) (e4 := e4) (e5 := e5) (e6 := e6) (e8 := e8) (e9 := e9) (e10 := e10) (e11 := e11)
    refine nxt k_lbba q1 ?_
    refine nxt k_lbbba p_rows ?_
    obtain ⟨g11, q2⟩ := p_three (e0 := .im (.list (dI ns))) (e2 := e2) (e3 := e3) (e4 := e4) (e5 := e5) (e6 := e6) (e7 := .im (rdD grL)) (e8 := e8) (e9 := g9) (e11 := e11)
    refine nxt k_lbbbba q2 ?_
    exact rtn (d := .bool true) (dd := { nx := fun _ _ => False, rt := fun d _ => d = .bool true }) k_lbbbbb p_last (show PyData.bool true = .bool true from rfl)
end Pf

open PySem PySem.W PyProof.Rows
set_option maxRecDepth 100000 in
set_option maxHeartbeats 0 in
theorem PySem.Challenge.cw_towerline_k88_whole_texts_there_and_back_holds : PySem.Challenge.rw_towerline_k88_whole_texts_there_and_back.Holds := by
  w_on; o_law; k_head; (case hw => w_witness2)
  k_fill
  refine HW.walkG (l := PySem.Challenge.rw_towerline_k88_whole_texts_there_and_back) (k := 7) (x := "script") (sp := HW.lawSp) rfl (by decide) rfl ⟨rfl, by decide, by decide⟩ (fun w h Y => PySem.W.kIn_of Y) ?F (fun K T a ns h _ sq => HW.law_start h sq)
  case F =>
    intro w mg fa h KX G hmg
    refine' Pf.all_mk KX G hmg ?a0 ?l0 ?c0 ?k0 ?a1 ?l1 ?c1 ?k1 ?a2 ?l2 ?c2 ?k2 ?a3 ?l3 ?c3 ?k3 ?a4 ?l4 ?c4 ?k4 ?a5 ?l5 ?c5 ?k5 ?a6 ?l6 ?c6 ?k6 ?a7 ?l7 ?c7 ?k7 ?a8 ?l8 ?c8 ?k8 ?a9 ?l9 ?c9 ?k9 ?a10 ?l10 ?c10 ?k10 ?a11 ?l11 ?c11 ?k11 ?a12 ?l12 ?c12 ?k12 ?a13 ?l13 ?c13 ?k13 ?a14 ?l14 ?c14 ?k14 ?a15 ?l15 ?c15 ?k15 ?a16 ?l16 ?c16 ?k16 ?a17 ?l17 ?c17 ?k17 ?a18 ?l18 ?c18 ?k18 ?a19 ?l19 ?c19 ?k19 ?a20 ?l20 ?c20 ?k20 ?a21 ?l21 ?c21 ?k21 ?a22 ?l22 ?c22 ?k22 ?a23 ?l23 ?c23 ?k23 ?z0 ?z1 ?z2 ?z3 ?z4 ?z5 ?z6 ?z7 ?z8 ?z9 ?z10 ?z11 ?y0 ?y1 ?y2 ?y3 ?y4 ?y5 ?y6 ?y7 ?vV ?A0 ?X0 ?S0 ?V0 ?W0 ?B0 ?J0 ?T0 ?L0 ?E0 ?K0 ?P0 ?Q0 ?R0 ?H0 ?A1 ?X1 ?S1 ?V1 ?W1 ?B1 ?J1 ?T1 ?L1 ?E1 ?K1 ?P1 ?Q1 ?R1 ?H1 ?A2 ?X2 ?S2 ?V2 ?W2 ?B2 ?J2 ?T2 ?L2 ?E2 ?K2 ?P2 ?Q2 ?R2 ?H2 Pf.math
    (case a0 => k_is); (case l0 => k_is); (case c0 => k_is); (case k0 => k_is); (case a1 => k_is); (case l1 => k_is); (case c1 => k_is); (case k1 => k_is); (case a2 => k_is); (case l2 => k_is); (case c2 => k_is); (case k2 => k_is); (case a3 => k_is); (case l3 => k_is); (case c3 => k_is); (case k3 => k_is); (case a4 => k_is); (case l4 => k_is); (case c4 => k_is); (case k4 => k_is); (case a5 => k_is); (case l5 => k_is); (case c5 => k_is); (case k5 => k_is); (case a6 => k_is); (case l6 => k_is); (case c6 => k_is); (case k6 => k_is); (case a7 => k_is); (case l7 => k_is); (case c7 => k_is); (case k7 => k_is); (case a8 => k_is); (case l8 => k_is); (case c8 => k_is); (case k8 => k_is); (case a9 => k_is); (case l9 => k_is); (case c9 => k_is); (case k9 => k_is); (case a10 => k_is); (case l10 => k_is); (case c10 => k_is); (case k10 => k_is); (case a11 => k_is); (case l11 => k_is); (case c11 => k_is); (case k11 => k_is); (case a12 => k_is); (case l12 => k_is); (case c12 => k_is); (case k12 => k_is); (case a13 => k_is); (case l13 => k_is); (case c13 => k_is); (case k13 => k_is); (case a14 => k_is); (case l14 => k_is); (case c14 => k_is); (case k14 => k_is); (case a15 => k_is); (case l15 => k_is); (case c15 => k_is); (case k15 => k_is); (case a16 => k_is); (case l16 => k_is); (case c16 => k_is); (case k16 => k_is); (case a17 => k_is); (case l17 => k_is); (case c17 => k_is); (case k17 => k_is); (case a18 => k_is); (case l18 => k_is); (case c18 => k_is); (case k18 => k_is); (case a19 => k_is); (case l19 => k_is); (case c19 => k_is); (case k19 => k_is); (case a20 => k_is); (case l20 => k_is); (case c20 => k_is); (case k20 => k_is); (case a21 => k_is); (case l21 => k_is); (case c21 => k_is); (case k21 => k_is); (case a22 => k_is); (case l22 => k_is); (case c22 => k_is); (case k22 => k_is); (case a23 => k_is); (case l23 => k_is); (case c23 => k_is); (case k23 => k_is); (case z0 => k_is); (case z1 => k_is); (case z2 => k_is); (case z3 => k_is); (case z4 => k_is); (case z5 => k_is); (case z6 => k_is); (case z7 => k_is); (case z8 => k_is); (case z9 => k_is); (case z10 => k_is); (case z11 => k_is); (case y0 => k_is); (case y1 => k_is); (case y2 => k_is); (case y3 => k_is); (case y4 => k_is); (case y5 => k_is); (case y6 => k_is); (case y7 => k_is); (case vV => k_is); (case A0 => k_is); (case X0 => k_is); (case S0 => k_is); (case V0 => k_is); (case W0 => k_is); (case B0 => k_is); (case J0 => k_is); (case T0 => k_is); (case L0 => k_is); (case E0 => k_is); (case K0 => k_is); (case P0 => k_is); (case Q0 => k_is); (case R0 => k_is); (case H0 => k_is); (case A1 => k_is); (case X1 => k_is); (case S1 => k_is); (case V1 => k_is); (case W1 => k_is); (case B1 => k_is); (case J1 => k_is); (case T1 => k_is); (case L1 => k_is); (case E1 => k_is); (case K1 => k_is); (case P1 => k_is); (case Q1 => k_is); (case R1 => k_is); (case H1 => k_is); (case A2 => k_is); (case X2 => k_is); (case S2 => k_is); (case V2 => k_is); (case W2 => k_is); (case B2 => k_is); (case J2 => k_is); (case T2 => k_is); (case L2 => k_is); (case E2 => k_is); (case K2 => k_is); (case P2 => k_is); (case Q2 => k_is); (case R2 => k_is); (case H2 => k_is)
