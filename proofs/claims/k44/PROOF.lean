import PyProof.Rows.All
import Wide.All
import OpenK.AllK
import Wide.FinOn
import HandS.ForMost
import HandS.Codes
import HandS.IsInst
import HandS.StrMore
import HandS.Records
import HandS.SetKeys
import HandS.TupAny
import HandS.Conv
import PyProof.ReprRoads
import KE.GoesMore
import HandS.Ends
import HandS.DictComp
import HandS.ExcInit
import HandS.ExcField
import HandS.TryMany
import HandS.Strs
import HandS.SetFor
import PyProof.TupleOfSeq
import PyProof.Rows.SortShellAny
import PyProof.Rows.StrMeet
import HandS.FStr
import HandS.ExcIs
import HandS.TupMul
import PyProof.StrBlock2
import HandS.Wide
import HandS.Flt
import HandS.Zip
import HandS.RaiseMore
import HandS.SortRule
import KE.KMathGC
import HandS.Gcd
import HandS.Style
import HandS.Lambda
import KE.KDflt
import PyProof.Rules3
import KE.KExcIs
import HandS.EndBits
import KE.KRevSl
import PySem.Challenge.RW_towerline_k44_books_checked
import PyProof.Rows.ReprOcc
import KE.KxText
import PyProof.Rows.StrCut
set_option Elab.async false
set_option linter.all false
set_option maxRecDepth 100000
set_option maxHeartbeats 4000000
/-! HW: readings without a heap. D: data; Dv: a value bears a datum; W: what is known of the heap; tE, tB, tS: readings by a word over data alone -/
namespace HW
open PySem L2

abbrev D := PyData
/-- keys as data -/
def kD : Key → D
  | .inl i => .int i
  | .inr x => .str x

/-- a list, a tuple of the written part -/
def KLs (K : PySem.W.Frag) (a : Addr) (vs : List V) : Prop := ∃ (o : Obj) (its : Array Value) (n : Nat), K.lookup a = some o ∧ o.cls = .type "list" ∧ o.dict = none ∧ o.data = .seq its n ∧ its.size ≤ sizeLine ∧ Vals vs its.toList
def KTp (K : PySem.W.Frag) (a : Addr) (vs : List V) : Prop := ∃ (o : Obj) (its : Array Value) (n : Nat), K.lookup a = some o ∧ o.cls = .type "tuple" ∧ o.data = .seq its n ∧ its.size ≤ sizeLine ∧ Vals vs its.toList
def PLs (K : PySem.W.Frag) (P : Addr → Prop) (H : Hp) (a : Addr) (vs : List V) : Prop := (P a ∧ Rd H a (.lst vs)) ∨ KLs K a vs
def PTu (K : PySem.W.Frag) (P : Addr → Prop) (H : Hp) (a : Addr) (vs : List V) : Prop := (P a ∧ Rd H a (.tup vs)) ∨ KTp K a vs
theorem PLs.sq {K : PySem.W.Frag} {P : Addr → Prop} {H : Hp} {a : Addr} {vs : List V} (h : PLs K P H a vs) : SqL K H a vs := h.elim (fun z => .inl z.2) .inr
theorem PTu.sq {K : PySem.W.Frag} {P : Addr → Prop} {H : Hp} {a : Addr} {vs : List V} (h : PTu K P H a vs) : SqT K H a vs := h.elim (fun z => .inl z.2) .inr
theorem rd_up {H H' : Hp} {a : Addr} {u : HO} (h : Rd H a u) (k : ∀ o, H a = some o → H' a = some o) : Rd H' a u := by
  rcases h with h | ⟨o, h⟩
  · exact .inl (k _ h)
  · exact .inr ⟨o, k _ h⟩
theorem PLs.up {K : PySem.W.Frag} {P P' : Addr → Prop} {H H' : Hp} {a : Addr} {vs : List V} (h : PLs K P H a vs) (hp : P a → P' a) (k : ∀ o, P a → H a = some o → H' a = some o) : PLs K P' H' a vs := h.imp (fun z => ⟨hp z.1, rd_up z.2 fun o => k o z.1⟩) fun z => z
theorem PTu.up {K : PySem.W.Frag} {P P' : Addr → Prop} {H H' : Hp} {a : Addr} {vs : List V} (h : PTu K P H a vs) (hp : P a → P' a) (k : ∀ o, P a → H a = some o → H' a = some o) : PTu K P' H' a vs := h.imp (fun z => ⟨hp z.1, rd_up z.2 fun o => k o z.1⟩) fun z => z

mutual
/-- the value v bears the datum d, all its objects lying in P -/
inductive Dv (K : PySem.W.Frag) (P : Addr → Prop) (H : Hp) : V → D → Prop
  | non : Dv K P H .non .none
  | bl (b : Bool) : Dv K P H (.bl b) (.bool b)
  | int (i : Int) : Dv K P H (.int i) (.int i)
  | str (x : Str) : Dv K P H (.str x) (.str x)
  | lst {a : Addr} {vs : List V} {ds : List D} : PLs K P H a vs → DvA K P H vs ds → Dv K P H (.ref a) (.list ds)
  | tup {a : Addr} {vs : List V} {ds : List D} : PTu K P H a vs → DvA K P H vs ds → Dv K P H (.ref a) (.tuple ds)
  | dic {a : Addr} {kvs : List (Key × V)} {ds : List (D × D)} : P a → Rd H a (.dK kvs) → DvK K P H kvs ds → Dv K P H (.ref a) (.dict ds)
inductive DvA (K : PySem.W.Frag) (P : Addr → Prop) (H : Hp) : List V → List D → Prop
  | nil : DvA K P H [] []
  | cons {v : V} {vs : List V} {d : D} {ds : List D} : Dv K P H v d → DvA K P H vs ds → DvA K P H (v :: vs) (d :: ds)
inductive DvK (K : PySem.W.Frag) (P : Addr → Prop) (H : Hp) : List (Key × V) → List (D × D) → Prop
  | nil : DvK K P H [] []
  | cons {k : Key} {v : V} {r : List (Key × V)} {d : D} {s : List (D × D)} : Dv K P H v d → DvK K P H r s → DvK K P H ((k, v) :: r) ((kD k, d) :: s)
end

section
variable {K : PySem.W.Frag} {P P' : Addr → Prop} {H H' : Hp}
mutual
theorem Dv.up (hp : ∀ a, P a → P' a) (k : ∀ a o, P a → H a = some o → H' a = some o) : ∀ {v : V} {d : D}, Dv K P H v d → Dv K P' H' v d
  | _, _, .non => .non
  | _, _, .bl b => .bl b
  | _, _, .int i => .int i
  | _, _, .str x => .str x
  | _, _, .lst h2 h3 => .lst (h2.up (hp _) fun o => k _ o) (DvA.up hp k h3)
  | _, _, .tup h2 h3 => .tup (h2.up (hp _) fun o => k _ o) (DvA.up hp k h3)
  | _, _, .dic h1 h2 h3 => .dic (hp _ h1) (rd_up h2 fun o => k _ o h1) (DvK.up hp k h3)
theorem DvA.up (hp : ∀ a, P a → P' a) (k : ∀ a o, P a → H a = some o → H' a = some o) : ∀ {vs : List V} {ds : List D}, DvA K P H vs ds → DvA K P' H' vs ds
  | _, _, .nil => .nil
  | _, _, .cons h1 h2 => .cons (Dv.up hp k h1) (DvA.up hp k h2)
theorem DvK.up (hp : ∀ a, P a → P' a) (k : ∀ a o, P a → H a = some o → H' a = some o) : ∀ {vs : List (Key × V)} {ds : List (D × D)}, DvK K P H vs ds → DvK K P' H' vs ds
  | _, _, .nil => .nil
  | _, _, .cons h1 h2 => .cons (Dv.up hp k h1) (DvK.up hp k h2)
end
theorem DvA.length : ∀ {vs : List V} {ds : List D}, DvA K P H vs ds → vs.length = ds.length
  | _, _, .nil => rfl
  | _, _, .cons _ h => congrArg (· + 1) h.length
theorem DvA.get : ∀ {vs : List V} {ds : List D} {i : Nat} {d : D}, DvA K P H vs ds → ds[i]? = some d → ∃ v, vs[i]? = some v ∧ Dv K P H v d
  | _, _, _, _, .nil, e => by simp at e
  | _, _, 0, _, .cons h _, e => by simp at e; subst e; exact ⟨_, rfl, h⟩
  | _, _, i + 1, d, .cons _ h, e => by
    obtain ⟨v, h1, h2⟩ := DvA.get (i := i) (d := d) h (by simpa using e)
    exact ⟨v, by simpa using h1, h2⟩
theorem DvA.get' : ∀ {vs : List V} {ds : List D} {i : Nat} {v : V}, DvA K P H vs ds → vs[i]? = some v → ∃ d, ds[i]? = some d ∧ Dv K P H v d
  | _, _, _, _, .nil, e => by simp at e
  | _, _, 0, _, .cons h _, e => by simp at e; subst e; exact ⟨_, rfl, h⟩
  | _, _, i + 1, v, .cons _ h, e => by
    obtain ⟨d, h1, h2⟩ := DvA.get' (i := i) (v := v) h (by simpa using e)
    exact ⟨d, by simpa using h1, h2⟩
theorem DvA.app : ∀ {vs ws : List V} {ds es : List D}, DvA K P H vs ds → DvA K P H ws es → DvA K P H (vs ++ ws) (ds ++ es)
  | _, _, _, _, .nil, h => h
  | _, _, _, _, .cons h1 h2, h => .cons h1 (h2.app h)
theorem DvA.set {v : V} {d : D} (hv : Dv K P H v d) : ∀ {vs : List V} {ds : List D} (i : Nat), DvA K P H vs ds → DvA K P H (vs.set i v) (ds.set i d)
  | _, _, _, .nil => .nil
  | _, _, 0, .cons _ t => .cons hv t
  | _, _, i + 1, .cons q t => .cons q (DvA.set hv i t)
theorem DvA.take : ∀ {vs : List V} {ds : List D} (n : Nat), DvA K P H vs ds → DvA K P H (vs.take n) (ds.take n)
  | _, _, 0, _ => .nil
  | _, _, _ + 1, .nil => .nil
  | _, _, n + 1, .cons r t => .cons r (DvA.take n t)
theorem DvA.drop : ∀ {vs : List V} {ds : List D} (n : Nat), DvA K P H vs ds → DvA K P H (vs.drop n) (ds.drop n)
  | _, _, 0, r => r
  | _, _, _ + 1, .nil => .nil
  | _, _, n + 1, .cons _ t => DvA.drop n t
/-- lists of texts, of ints, of bools -/
theorem DvA.strs : ∀ {vs : List V} {xs : List Str}, DvA K P H vs (xs.map PyData.str) → vs = xs.map V.str
  | _, [], .nil => rfl
  | _, _ :: _, .cons (.str _) h => congrArg _ h.strs
theorem DvA.ints : ∀ {vs : List V} {xs : List Int}, DvA K P H vs (xs.map PyData.int) → vs = xs.map V.int
  | _, [], .nil => rfl
  | _, _ :: _, .cons (.int _) h => congrArg _ h.ints
theorem DvA.bls : ∀ {vs : List V} {xs : List Bool}, DvA K P H vs (xs.map PyData.bool) → vs = xs.map V.bl
  | _, [], .nil => rfl
  | _, _ :: _, .cons (.bl _) h => congrArg _ h.bls
theorem DvA.of_strs : ∀ (xs : List Str), DvA K P H (xs.map V.str) (xs.map PyData.str)
  | [] => .nil
  | x :: r => .cons (.str x) (DvA.of_strs r)
theorem DvA.of_ints : ∀ (xs : List Int), DvA K P H (xs.map V.int) (xs.map PyData.int)
  | [] => .nil
  | x :: r => .cons (.int x) (DvA.of_ints r)
end

/-! ### what is known of the heap -/
/-- F: the objects that never change again; R: the draws' own objects; c: how many draws there were; mo: where the draws stand -/
structure W where
  F : Addr → Prop
  R : List Addr
  H : Hp
  c : Nat
  mo : Option Addr
/-- the draws' invariant, by the objects that it looks at -/
structure MI where
  I : Hp → Addr → Nat → List Addr → Prop
  st : ∀ {H H' : Hp} {a : Addr} {c : Nat} {R : List Addr}, I H a c R → (∀ b ∈ R, H' b = H b) → I H' a c R
  /-- whether the draws have begun for good -/
  must : Prop
structure Gd (M : MI) (w : W) : Prop where
  mi : ∀ a, w.mo = some a → M.I w.H a w.c w.R
  r0 : w.mo = none → w.R = []
  nz : M.must → w.mo ≠ none
  tr : ∀ b ∈ w.R, w.H b ≠ none ∧ ¬ w.F b
  tf : ∀ a, w.F a → w.H a ≠ none
/-- one world leads to another one: what is tracked stays, but the draws' own -/
structure Stp (w w' : W) : Prop where
  f1 : ∀ a, w.F a → w'.F a
  f2 : ∀ a, w'.F a → w.F a ∨ w.H a = none
  k : ∀ a o, w.H a = some o → a ∉ w.R → w'.H a = some o
  t : ∀ a, w.H a ≠ none → w'.H a ≠ none
  r : ∀ a ∈ w'.R, a ∈ w.R ∨ w.H a = none
  m : ∀ a, w.mo = some a → w'.mo = some a
theorem Stp.refl (w : W) : Stp w w := ⟨fun _ h => h, fun _ h => .inl h, fun _ _ h _ => h, fun _ h => h, fun _ h => .inl h, fun _ h => h⟩
theorem nn {w w' : W} (s : Stp w w') {a : Addr} (h : w'.H a = none) : w.H a = none := by
  cases e : w.H a with
  | none => rfl
  | some o => exact absurd h (s.t a (by rw [e]; simp))
theorem Stp.trans {w w1 w2 : W} (a : Stp w w1) (b : Stp w1 w2) : Stp w w2 where
  f1 := fun x h => b.f1 x (a.f1 x h)
  f2 := fun x h => (b.f2 x h).elim (a.f2 x) fun n => .inr (nn a n)
  k := fun x o h hr => b.k x o (a.k x o h hr) fun z => (a.r x z).elim hr fun n => by rw [h] at n; cases n
  t := fun x h => b.t x (a.t x h)
  r := fun x h => (b.r x h).elim (a.r x) fun n => .inr (nn a n)
  m := fun x h => b.m x (a.m x h)
/-- what stays, across statements -/
structure Fk (w w' : W) : Prop where
  f1 : ∀ a, w.F a → w'.F a
  k : ∀ a o, w.F a → w.H a = some o → w'.H a = some o
  m : ∀ a, w.mo = some a → w'.mo = some a
theorem Fk.refl (w : W) : Fk w w := ⟨fun _ h => h, fun _ _ _ h => h, fun _ h => h⟩
theorem Fk.trans {w w1 w2 : W} (a : Fk w w1) (b : Fk w1 w2) : Fk w w2 := ⟨fun x h => b.f1 x (a.f1 x h), fun x o f h => b.k x o (a.f1 x f) (a.k x o f h), fun x h => b.m x (a.m x h)⟩
section
variable {K : PySem.W.Frag} {M : MI} {w w' : W}
theorem Stp.fk (s : Stp w w') (g : Gd M w) : Fk w w' := ⟨s.f1, fun a o f h => s.k a o h fun z => (g.tr a z).2 f, s.m⟩
theorem Dv.fk {v : V} {d : D} (s : Fk w w') (h : Dv K w.F w.H v d) : Dv K w'.F w'.H v d := h.up s.f1 s.k
theorem DvA.fk {v : List V} {d : List D} (s : Fk w w') (h : DvA K w.F w.H v d) : DvA K w'.F w'.H v d := h.up s.f1 s.k
theorem DvK.fk {v : List (Key × V)} {d : List (D × D)} (s : Fk w w') (h : DvK K w.F w.H v d) : DvK K w'.F w'.H v d := h.up s.f1 s.k
/-- a datum that may be looked at: its root may be an object that still changes -/
inductive DvB (K : PySem.W.Frag) (w : W) : V → D → Prop
  | of {v : V} {d : D} : Dv K w.F w.H v d → DvB K w v d
  | lst {a : Addr} {vs : List V} {ds : List D} : w.H a = some (.lst vs) → a ∉ w.R → DvA K w.F w.H vs ds → DvB K w (.ref a) (.list ds)
  | dic {a : Addr} {kvs : List (Key × V)} {ds : List (D × D)} : w.H a = some (.dK kvs) → a ∉ w.R → DvK K w.F w.H kvs ds → DvB K w (.ref a) (.dict ds)
theorem r_up (s : Stp w w') {a : Addr} {o : HO} (h : w.H a = some o) (n : a ∉ w.R) : a ∉ w'.R := fun z => (s.r a z).elim n fun e => by rw [h] at e; cases e
theorem DvB.stp {v : V} {d : D} (s : Stp w w') (g : Gd M w) : DvB K w v d → DvB K w' v d
  | .of h => .of (h.fk (s.fk g))
  | .lst h n e => .lst (s.k _ _ h n) (r_up s h n) (e.fk (s.fk g))
  | .dic h n e => .dic (s.k _ _ h n) (r_up s h n) (e.fk (s.fk g))
theorem DvB.seqL {v : V} {ds : List D} (h : DvB K w v (.list ds)) : ∃ a vs, v = .ref a ∧ SqL K w.H a vs ∧ DvA K w.F w.H vs ds := by
  cases h with
  | of h => cases h with | lst h2 h3 => exact ⟨_, _, rfl, h2.sq, h3⟩
  | lst h _ e => exact ⟨_, _, rfl, .of h, e⟩
theorem DvB.seqT {v : V} {ds : List D} (h : DvB K w v (.tuple ds)) : ∃ a vs, v = .ref a ∧ SqT K w.H a vs ∧ DvA K w.F w.H vs ds := by
  cases h with
  | of h => cases h with | tup h2 h3 => exact ⟨_, _, rfl, h2.sq, h3⟩
theorem DvB.dict {v : V} {ds : List (D × D)} (h : DvB K w v (.dict ds)) : ∃ a kvs, v = .ref a ∧ Rd w.H a (.dK kvs) ∧ DvK K w.F w.H kvs ds := by
  cases h with
  | of h => cases h with | dic _ h2 h3 => exact ⟨_, _, rfl, h2, h3⟩
  | dic h _ e => exact ⟨_, _, rfl, .inl h, e⟩
theorem DvB.str {v : V} {x : Str} (h : DvB K w v (.str x)) : v = .str x := by
  cases h with
  | of h => cases h; rfl
theorem DvB.int {v : V} {x : Int} (h : DvB K w v (.int x)) : v = .int x := by
  cases h with
  | of h => cases h; rfl
theorem DvB.bl {v : V} {x : Bool} (h : DvB K w v (.bool x)) : v = .bl x := by
  cases h with
  | of h => cases h; rfl
theorem DvB.non {v : V} (h : DvB K w v .none) : v = .non := by
  cases h with
  | of h => cases h; rfl
end
/-- a new object, never to change again -/
def W.new (w : W) (p : Addr) (o : HO) : W := { w with F := fun a => w.F a ∨ a = p, H := upd w.H p o }
/-- a new object -/
def W.own (w : W) (p : Addr) (o : HO) : W := { w with H := upd w.H p o }
section
variable {M : MI} {w : W} {p : Addr} {o : HO}
theorem r_free (g : Gd M w) (h : w.H p = none) : p ∉ w.R := fun z => (g.tr p z).1 h
theorem upd_some {H : Hp} {p a : Addr} {o : HO} (h : H a ≠ none) : upd H p o a ≠ none := by
  by_cases z : a = p
  · rw [z, upd_same]; simp
  · rw [upd_ne z]; exact h
theorem gd_own (g : Gd M w) (h : w.H p = none) : Gd M (w.own p o) :=
  ⟨fun a e => M.st (g.mi a e) fun b hb => upd_ne fun z => r_free g h (z ▸ hb), g.r0, g.nz, fun b hb => ⟨upd_some (g.tr b hb).1, (g.tr b hb).2⟩, fun a f => upd_some (g.tf a f)⟩
theorem stp_own (h : w.H p = none) : Stp w (w.own p o) :=
  ⟨fun _ f => f, fun _ f => .inl f, fun a u e _ => by show upd w.H p o a = _; rw [upd_ne (ne_of_none e h)]; exact e,
   fun a e => upd_some e, fun _ f => .inl f, fun _ f => f⟩
theorem gd_new (g : Gd M w) (h : w.H p = none) : Gd M (w.new p o) := by
  have q := gd_own (o := o) g h
  exact ⟨q.mi, q.r0, q.nz, fun b hb => ⟨(q.tr b hb).1, fun z => z.elim (q.tr b hb).2 fun e => r_free g h (e ▸ hb)⟩, fun a f => f.elim (q.tf a) fun e => by rw [e]; show upd w.H p o p ≠ none; rw [upd_same]; simp⟩
theorem stp_new (h : w.H p = none) : Stp w (w.new p o) := by
  have q := stp_own (o := o) h
  exact ⟨fun _ f => .inl f, fun a f => f.elim .inl fun e => .inr (e ▸ h), q.k, q.t, fun _ f => .inl f, fun _ f => f⟩
theorem new_at : (w.new p o).H p = some o := upd_same
theorem own_at : (w.own p o).H p = some o := upd_same
theorem new_F : (w.new p o).F p := .inr rfl
end
end HW

namespace HW
open PySem L2
/-- what a slot bears: unknown; a datum; a list, a dict of the def's own, which may still change; the draws -/
inductive En where
  | un
  | im (d : D)
  | ls (ds : List D)
  | dc (ds : List (D × D))
  | dl (ds : List (D × List D))
  | dt (ds : List (List Key × D))
  | st
def En.mut : En → Bool
  | .ls _ => true
  | .dc _ => true
  | .dl _ => true
  | .dt _ => true
  | _ => false
def En.look : En → Option D
  | .im d => some d
  | .ls ds => some (.list ds)
  | .dc ds => some (.dict ds)
  | _ => none
/-- the lists of a dict of one's own lists -/
inductive DlOk (K : PySem.W.Frag) (w : W) : List (Key × V) → List (D × List D) → Prop
  | nil : DlOk K w [] []
  | cons {k : Key} {b : Addr} {us : List V} {es : List D} {r : List (Key × V)} {s : List (D × List D)} : w.H b = some (.lst us) → ¬ w.F b → b ∉ w.R → DvA K w.F w.H us es → (∀ k', (k', V.ref b) ∉ r) → DlOk K w r s → DlOk K w ((k, .ref b) :: r) ((kD k, es) :: s)
section
variable (K : PySem.W.Frag) (w : W)
def EnOk (s : Option (Option V)) : En → Prop
  | .un => True
  | .im d => ∃ v, s = some (some v) ∧ Dv K w.F w.H v d
  | .ls ds => ∃ a vs, s = some (some (.ref a)) ∧ w.H a = some (.lst vs) ∧ ¬ w.F a ∧ a ∉ w.R ∧ DvA K w.F w.H vs ds
  | .dc ds => ∃ a kvs, s = some (some (.ref a)) ∧ w.H a = some (.dK kvs) ∧ ¬ w.F a ∧ a ∉ w.R ∧ DvK K w.F w.H kvs ds
  | .dt ds => ∃ a kvs, s = some (some (.ref a)) ∧ w.H a = some (.dT kvs) ∧ ¬ w.F a ∧ a ∉ w.R ∧ (kvs.map Prod.fst = ds.map Prod.fst ∧ DvA K w.F w.H (kvs.map Prod.snd) (ds.map Prod.snd))
  | .dl ds => ∃ a kvs, s = some (some (.ref a)) ∧ w.H a = some (.dK kvs) ∧ ¬ w.F a ∧ a ∉ w.R ∧ DlOk K w kvs ds
  | .st => ∃ a, s = some (some (.ref a)) ∧ w.mo = some a
/-- the objects that hang on what stands in a slot -/
def Sub (e : En) (p a : Addr) : Prop := a = p ∨ ∃ ds kvs k, e = .dl ds ∧ w.H p = some (.dK kvs) ∧ (k, V.ref a) ∈ kvs
def Own (σ : L2.St) (ρ : List En) (i : Nat) (a : Addr) : Prop := ∃ p e, σ[i]? = some (some (.ref p)) ∧ ρ[i]? = some e ∧ e.mut = true ∧ Sub w e p a
structure EnvOk (σ : L2.St) (ρ : List En) : Prop where
  len : σ.length = ρ.length
  ok : ∀ (i : Nat) (e : En), ρ[i]? = some e → EnOk K w σ[i]? e
  ap : ∀ (i j : Nat) (a : Addr), Own w σ ρ i a → Own w σ ρ j a → i = j
end
section
variable {K : PySem.W.Frag} {M : MI} {w w' : W} {σ : L2.St} {ρ : List En}
theorem DlOk.stp (st : Stp w w') (g : Gd M w) : ∀ {kvs : List (Key × V)} {ds : List (D × List D)}, DlOk K w kvs ds → DlOk K w' kvs ds
  | _, _, .nil => .nil
  | _, _, .cons h1 h2 h3 h4 h5 h6 => .cons (st.k _ _ h1 h3) (fun z => (st.f2 _ z).elim h2 fun n => (by rw [h1] at n; cases n)) (r_up st h1 h3) (h4.fk (st.fk g)) h5 (h6.stp st g)
theorem DlOk.dvk (hf : ∀ a, w.F a → w.H a ≠ none) (w2 : W) (e : w2.H = w.H) (f : ∀ a, w.F a → w2.F a) : ∀ {kvs : List (Key × V)} {ds : List (D × List D)}, DlOk K w kvs ds → (∀ k b, (k, V.ref b) ∈ kvs → w2.F b) → DvK K w2.F w2.H kvs (ds.map fun p => (p.1, PyData.list p.2))
  | _, _, .nil, _ => .nil
  | _, _, .cons h1 h2 h3 h4 h5 h6, h => .cons (.lst (.inl ⟨h _ _ List.mem_cons_self, by rw [e]; exact .of h1⟩) (h4.up f fun a o _ q => by rw [e]; exact q)) (DlOk.dvk hf w2 e f h6 fun k b m => h k b (List.mem_cons_of_mem _ m))
theorem EnOk.stp {s : Option (Option V)} {e : En} (st : Stp w w') (g : Gd M w) (h : EnOk K w s e) : EnOk K w' s e := by
  cases e with
  | un => exact True.intro
  | im d => obtain ⟨v, h1, h2⟩ := h; exact ⟨v, h1, h2.fk (st.fk g)⟩
  | ls ds =>
    obtain ⟨a, vs, h1, h2, h3, h4, h5⟩ := h
    exact ⟨a, vs, h1, st.k _ _ h2 h4, (fun z => (st.f2 a z).elim h3 fun n => (by rw [h2] at n; cases n)), r_up st h2 h4, h5.fk (st.fk g)⟩
  | dc ds =>
    obtain ⟨a, vs, h1, h2, h3, h4, h5⟩ := h
    exact ⟨a, vs, h1, st.k _ _ h2 h4, (fun z => (st.f2 a z).elim h3 fun n => (by rw [h2] at n; cases n)), r_up st h2 h4, h5.fk (st.fk g)⟩
  | dl ds =>
    obtain ⟨a, vs, h1, h2, h3, h4, h5⟩ := h
    exact ⟨a, vs, h1, st.k _ _ h2 h4, (fun z => (st.f2 a z).elim h3 fun n => (by rw [h2] at n; cases n)), r_up st h2 h4, h5.stp st g⟩
  | dt ds =>
    obtain ⟨a, vs, h1, h2, h3, h4, h5, h6⟩ := h
    exact ⟨a, vs, h1, st.k _ _ h2 h4, (fun z => (st.f2 a z).elim h3 fun n => (by rw [h2] at n; cases n)), r_up st h2 h4, h5, h6.fk (st.fk g)⟩
  | st => obtain ⟨a, h1, h2⟩ := h; exact ⟨a, h1, st.m a h2⟩
/-- what hangs on a slot does so in a later world -/
theorem Own.back (h : ∀ (i : Nat) (e : En), ρ[i]? = some e → EnOk K w σ[i]? e) (st : Stp w w') {i : Nat} {a : Addr} (o : Own w' σ ρ i a) : Own w σ ρ i a := by
  obtain ⟨p, e, h1, h2, h3, h4⟩ := o
  refine ⟨p, e, h1, h2, h3, ?_⟩
  rcases h4 with h4 | ⟨ds, kvs, k, rfl, h5, h6⟩
  · exact .inl h4
  · obtain ⟨q, kv, e1, e2, _, e4, _⟩ := h i _ h2
    rw [h1] at e1
    cases e1
    have e5 := st.k _ _ e2 e4
    rw [h5] at e5
    cases e5
    exact .inr ⟨ds, kvs, k, rfl, e2, h6⟩
theorem EnvOk.stp (st : Stp w w') (g : Gd M w) (h : EnvOk K w σ ρ) : EnvOk K w' σ ρ := ⟨h.len, fun i e q => (h.ok i e q).stp st g, fun i j a o1 o2 => h.ap i j a (Own.back h.ok st o1) (Own.back h.ok st o2)⟩
theorem EnvOk.look {i : Nat} {e : En} {d : D} (h : EnvOk K w σ ρ) (q : ρ[i]? = some e) (l : e.look = some d) : ∃ v, σ[i]? = some (some v) ∧ DvB K w v d := by
  have z := h.ok i e q
  cases e with
  | un => cases l
  | im d' => cases l; obtain ⟨v, h1, h2⟩ := z; exact ⟨v, h1, .of h2⟩
  | ls ds => cases l; obtain ⟨a, vs, h1, h2, h3, h4, h5⟩ := z; exact ⟨_, h1, .lst h2 h4 h5⟩
  | dc ds => cases l; obtain ⟨a, vs, h1, h2, h3, h4, h5⟩ := z; exact ⟨_, h1, .dic h2 h4 h5⟩
  | dl ds => cases l
  | dt ds => cases l
  | st => cases l
end

/-! ### readings by words over data -/
abbrev WE := List En → Nat → (D → Nat → Prop) → Prop
abbrev WT := List En → Nat → (Bool → Nat → Prop) → Prop
abbrev WA := List En → Nat → (List D → Nat → Prop) → Prop
section
variable (M : MI) (K : PySem.W.Frag)
def tE (we : WE) : TE := fun σ H Q => ∃ (w : W) (ρ : List En) (Qd : D → Nat → Prop), w.H = H ∧ EnvOk K w σ ρ ∧ Gd M w ∧ we ρ w.c Qd ∧
  ∀ (w' : W) (v : V) (d : D), Stp w w' → Gd M w' → Dv K w'.F w'.H v d → Qd d w'.c → Q v w'.H
def tB (we : WE) : TE := fun σ H Q => ∃ (w : W) (ρ : List En) (Qd : D → Nat → Prop), w.H = H ∧ EnvOk K w σ ρ ∧ Gd M w ∧ we ρ w.c Qd ∧
  ∀ (w' : W) (v : V) (d : D), Stp w w' → Gd M w' → DvB K w' v d → Qd d w'.c → Q v w'.H
def tT (wt : WT) : TT := fun σ H Q => ∃ (w : W) (ρ : List En) (Qd : Bool → Nat → Prop), w.H = H ∧ EnvOk K w σ ρ ∧ Gd M w ∧ wt ρ w.c Qd ∧
  ∀ (w' : W) (b : Bool), Stp w w' → Gd M w' → Qd b w'.c → Q b w'.H
def tAs (wa : WA) : TA := fun σ H Q => ∃ (w : W) (ρ : List En) (Qd : List D → Nat → Prop), w.H = H ∧ EnvOk K w σ ρ ∧ Gd M w ∧ wa ρ w.c Qd ∧
  ∀ (w' : W) (vs : List V) (ds : List D), Stp w w' → Gd M w' → DvA K w'.F w'.H vs ds → Qd ds w'.c → Q vs w'.H
end
theorem PE.imp {X : Cx} {e : Expr} {t t' : TE} (h : PE X e t) (i : ∀ σ H Q, t' σ H Q → t σ H Q) : PE X e t' := ⟨fun p s σ H Q I q => h.run p s σ H Q I (i σ H Q q)⟩
theorem PT.imp {X : Cx} {e : Expr} {t t' : TT} (h : PT X e t) (i : ∀ σ H Q, t' σ H Q → t σ H Q) : PT X e t' := ⟨fun p s σ H Q I q => h.run p s σ H Q I (i σ H Q q)⟩
theorem PW.imp {X : Cx} {e : Expr} {t t' : TT} (h : PW X e t) (i : ∀ σ H Q, t' σ H Q → t σ H Q) : PW X e t' := ⟨fun wh p s σ H Q I q => h.run wh p s σ H Q I (i σ H Q q)⟩
theorem PA.imp {X : Cx} {e : List Expr} {t t' : TA} (h : PA X e t) (i : ∀ σ H Q, t' σ H Q → t σ H Q) : PA X e t' := ⟨fun po p s σ H Q I q => h.run po p s σ H Q I (i σ H Q q)⟩
theorem PS.imp {X : Cx} {e : Stmt} {t t' : TS} (h : PS X e t) (i : ∀ D σ H, t' D σ H → t D σ H) : PS X e t' := ⟨fun p s σ H Q I q => h.run p s σ H Q I (i Q σ H q)⟩
theorem PSs.imp {X : Cx} {e : List Stmt} {t t' : TS} (h : PSs X e t) (i : ∀ D σ H, t' D σ H → t D σ H) : PSs X e t' := ⟨fun p s σ H Q I q => h.run p s σ H Q I (i Q σ H q)⟩
theorem PI.imp {X : Cx} {tg e : Expr} {t t' : TI} (h : PI X tg e t) (i : ∀ σ H R, t' σ H R → t σ H R) : PI X tg e t' := ⟨fun p s σ H R I q => h.run p s σ H R I (i σ H R q)⟩

section
variable {X : Cx} {M : MI} {e a b : Expr} {we wa wb : WE} {pos : Pos}
/-! ### names and constants -/
def wVar (i : Nat) : WE := fun ρ c Q => ∃ d, ρ[i]? = some (.im d) ∧ Q d c
def wLook (i : Nat) : WE := fun ρ c Q => ∃ e d, ρ[i]? = some e ∧ e.look = some d ∧ Q d c
def wC (d : D) : WE := fun _ c Q => Q d c
theorem e_var {x : Str} {i : Nat} (h : PE X (.Name x pos) (tVar i)) : PE X (.Name x pos) (tE M X.K (wVar i)) := PE.imp h fun σ H Q ⟨w, ρ, Qd, eh, ev, g, ⟨d, q, qd⟩, k⟩ => by
  obtain ⟨v, h1, h2⟩ := ev.ok i _ q
  subst eh
  exact ⟨v, h1, k w v d (Stp.refl w) g h2 qd⟩
theorem b_var {x : Str} {i : Nat} (h : PE X (.Name x pos) (tVar i)) : PE X (.Name x pos) (tB M X.K (wLook i)) := PE.imp h fun σ H Q ⟨w, ρ, Qd, eh, ev, g, ⟨en, d, q, l, qd⟩, k⟩ => by
  obtain ⟨v, h1, h2⟩ := ev.look q l
  subst eh
  exact ⟨v, h1, k w v d (Stp.refl w) g h2 qd⟩
theorem toB (h : PE X e (tE M X.K we)) : PE X e (tB M X.K we) := PE.imp h fun σ H Q ⟨w, ρ, Qd, eh, ev, g, hw, k⟩ => ⟨w, ρ, Qd, eh, ev, g, hw, fun w' v d s g' dv qd => k w' v d s g' (.of dv) qd⟩
theorem e_c {v : V} {d : D} (h : PE X e (tC v)) (hd : ∀ P H, Dv X.K P H v d) : PE X e (tE M X.K (wC d)) := PE.imp h fun σ H Q ⟨w, ρ, Qd, eh, ev, g, qd, k⟩ => by
  subst eh
  exact k w v d (Stp.refl w) g (hd _ _) qd
theorem e_int {i j} : PE X (.Constant (.int i) j pos) (tE M X.K (wC (.int i))) := e_c pe_int fun _ _ => .int i
theorem e_bl {i j} : PE X (.Constant (.bool i) j pos) (tE M X.K (wC (.bool i))) := e_c pe_bl fun _ _ => .bl i
theorem e_non {j} : PE X (.Constant .none j pos) (tE M X.K (wC .none)) := e_c pe_non fun _ _ => .non
theorem e_str {x j} : PE X (.Constant (.str x) j pos) (tE M X.K (wC (.str x))) := e_c pe_str fun _ _ => .str x
theorem e_gint {x : Str} {i : Int} (hg : Gl X x) (hm : ∃ t, X.mg x = some (.int i t)) (hd : (x == ("__debug__" : Str)) = false := by decide) : PE X (.Name x pos) (tE M X.K (wC (.int i))) := by
  obtain ⟨t, hm⟩ := hm
  exact e_c (pe_glob hg hm (v := .int i) ⟨t, rfl⟩ hd) fun _ _ => .int i
theorem e_gstr {x : Str} {i : Str} (hg : Gl X x) (hm : ∃ t, X.mg x = some (.str i t)) (hd : (x == ("__debug__" : Str)) = false := by decide) : PE X (.Name x pos) (tE M X.K (wC (.str i))) := by
  obtain ⟨t, hm⟩ := hm
  exact e_c (pe_glob hg hm (v := .str i) ⟨t, rfl⟩ hd) fun _ _ => .str i

/-! ### operators of two values -/
def wOp (f : D → D → Option D) (wa wb : WE) : WE := fun ρ c Q => wa ρ c fun x c1 => wb ρ c1 fun y c2 => ∃ z, f x y = some z ∧ Q z c2
/-- r serves f -/
def OpD (M : MI) (K : PySem.W.Frag) (r : R2) (f : D → D → Option D) : Prop := ∀ (w : W) (x y : V) (dx dy z : D) (Q : VK), Gd M w → DvB K w x dx → DvB K w y dy → f dx dy = some z →
  (∀ (w' : W) (v : V), Stp w w' → Gd M w' → Dv K w'.F w'.H v z → w'.c = w.c → Q v w'.H) → r x y w.H Q
theorem r_op {r : R2} {f : D → D → Option D} (hf : OpD M X.K r f) : ∀ (σ : L2.St) (H : Hp) (Q : VK), tE M X.K (wOp f wa wb) σ H Q → tOp r (tB M X.K wa) (tB M X.K wb) σ H Q := by
  rintro σ H Q ⟨w, ρ, Qd, eh, ev, g, hw, k⟩
  refine ⟨w, ρ, _, eh, ev, g, hw, fun w1 x dx s1 g1 bx q1 => ?_⟩
  refine ⟨w1, ρ, _, rfl, ev.stp s1 g, g1, q1, fun w2 y dy s2 g2 by' q2 => ?_⟩
  obtain ⟨z, ez, qz⟩ := q2
  refine hf w2 x y dx dy z Q g2 (bx.stp s2 g1) by' ez fun w3 v s3 g3 dv ec => ?_
  exact k w3 v z ((s1.trans s2).trans s3) g3 dv (by rw [ec]; exact qz)
theorem e_op {op : Operator} {r : R2} {f : D → D → Option D} (ho : OpR X (binaryOp op) r) (hf : OpD M X.K r f) (ha : PE X a (tB M X.K wa)) (hb : PE X b (tB M X.K wb)) : PE X (.BinOp a op b pos) (tE M X.K (wOp f wa wb)) :=
  PE.imp (pe_op ho ha hb) (r_op hf)
theorem e_cmp {op : CmpOp} {r : R2} {f : D → D → Option D} (ho : OpR X (compareOp op) r) (hf : OpD M X.K r f) (hm : behindInMarks op b = false) (ha : PE X a (tB M X.K wa)) (hb : PE X b (tB M X.K wb)) : PE X (.Compare a [op] [b] pos) (tE M X.K (wOp f wa wb)) :=
  PE.imp (pe_cmpR ho ha hb hm) (r_op hf)
def wTst (we : WE) : WT := fun ρ c Q => we ρ c fun d c1 => ∃ b, d = .bool b ∧ Q b c1
theorem t_cmp {op : CmpOp} {r : R2} {f : D → D → Option D} (ho : OpR X (compareOp op) r) (hf : OpD M X.K r f) (hm : behindInMarks op b = false) (ha : PE X a (tB M X.K wa)) (hb : PE X b (tB M X.K wb)) : PT X (.Compare a [op] [b] pos) (tT M X.K (wTst (wOp f wa wb))) := by
  refine PT.imp (pt_cmpR ho ha hb hm) ?_
  rintro σ H Q ⟨w, ρ, Qd, eh, ev, g, hw, k⟩
  have z := r_op (X := X) (wa := wa) (wb := wb) hf σ H (fun x H1 => ∃ c, x = .bl c ∧ Q c H1) ⟨w, ρ, _, eh, ev, g, hw, fun w' v d s g' dv ⟨b, ed, qd⟩ => by subst ed; cases dv; exact ⟨b, rfl, k w' b s g' qd⟩⟩
  exact z
/-- a subscript -/
theorem e_ix {r : R2} {f : D → D → Option D} (hr : IxR X r) (hf : OpD M X.K r f) (ha : PE X a (tB M X.K wa)) (hb : PE X b (tB M X.K wb)) (hs : PlainIx b) : PE X (.Subscript a b pos) (tE M X.K (wOp f wa wb)) :=
  PE.imp (pe_ix hr ha hb hs) (r_op hf)
theorem opR_or {f : Value → Value → Sem Value} {r r' : R2} (h : OpR X f r) (h' : OpR X f r') : OpR X f (fun x y H Q => r x y H Q ∨ r' x y H Q) := fun p s σ H x y v u Q I rx ry q => q.elim (h p s σ H x y v u Q I rx ry) (h' p s σ H x y v u Q I rx ry)
theorem ixR_or {r r' : R2} (h : IxR X r) (h' : IxR X r') : IxR X (fun x y H Q => r x y H Q ∨ r' x y H Q) := fun va sl p s σ H x y v u Q I rx ry q e => q.elim (fun q => h va sl p s σ H x y v u Q I rx ry q e) (fun q => h' va sl p s σ H x y v u Q I rx ry q e)
end
end HW

namespace HW
open PySem L2
/-! ### operators over data -/
abbrev LIM : Nat := 16777216
theorem lim_size {n : Nat} (h : n ≤ LIM) : n ≤ sizeLine := by rw [sizeLine_eq]; exact h
section
variable {K : PySem.W.Frag} {M : MI}
/-- a value without a new object -/
theorem keepQ {w : W} {z : D} {v : V} {Q : VK} (g : Gd M w) (hv : Dv K w.F w.H v z) (k : ∀ (w' : W) (v : V), Stp w w' → Gd M w' → Dv K w'.F w'.H v z → w'.c = w.c → Q v w'.H) : Q v w.H := k w v (Stp.refl w) g hv rfl
/-- a new object -/
theorem newQ {w : W} {z : D} {p : Addr} {o : HO} {Q : VK} (g : Gd M w) (hp : w.H p = none) (hv : Dv K (w.new p o).F (w.new p o).H (.ref p) z) (k : ∀ (w' : W) (v : V), Stp w w' → Gd M w' → Dv K w'.F w'.H v z → w'.c = w.c → Q v w'.H) : Q (.ref p) (upd w.H p o) :=
  k (w.new p o) (.ref p) (stp_new hp) (gd_new g hp) hv rfl
theorem new_lst {w : W} {p : Addr} {vs : List V} {ds : List D} (g : Gd M w) (hp : w.H p = none) (h : DvA K w.F w.H vs ds) : Dv K (w.new p (.lst vs)).F (w.new p (.lst vs)).H (.ref p) (.list ds) :=
  .lst (.inl ⟨new_F, .of new_at⟩) (h.fk ((stp_new hp).fk g))
theorem new_tup {w : W} {p : Addr} {vs : List V} {ds : List D} (g : Gd M w) (hp : w.H p = none) (h : DvA K w.F w.H vs ds) : Dv K (w.new p (.tup vs)).F (w.new p (.tup vs)).H (.ref p) (.tuple ds) :=
  .tup (.inl ⟨new_F, .of new_at⟩) (h.fk ((stp_new hp).fk g))

/-! + -/
def addD : D → D → Option D
  | .int i, .int j => some (.int (i + j))
  | .str a, .str b => if a.length + b.length ≤ LIM then some (.str (a ++ b)) else none
  | _, _ => none
def rAdd : R2 := fun x y H Q => rI0 (fun i j => .int (i + j)) x y H Q ∨ ∃ i j, x = .str i ∧ y = .str j ∧ i.length + j.length ≤ sizeLine ∧ Q (.str (i ++ j)) H
theorem o_add {X : Cx} : OpR X (binaryOp .Add) rAdd := opR_or op_add op_add_str
theorem d_add : OpD M K rAdd addD := fun w x y dx dy z Q g hx hy e k => by
  cases dx <;> cases dy <;> simp only [addD, reduceCtorEq] at e
  · cases e; cases hx.int; cases hy.int
    exact .inl ⟨_, _, rfl, rfl, keepQ g (.int _) k⟩
  · split at e
    · cases e; cases hx.str; cases hy.str
      exact .inr ⟨_, _, rfl, rfl, lim_size (by assumption), keepQ g (.str _) k⟩
    · cases e
/-- lists -/
def catD : D → D → Option D
  | .list a, .list b => if a.length + b.length ≤ LIM then some (.list (a ++ b)) else none
  | _, _ => none
theorem d_cat : OpD M K (fun x y H Q => ∃ l b xs zs, x = .ref l ∧ y = .ref b ∧ SqL K H l xs ∧ SqL K H b zs ∧ xs.length + zs.length ≤ sizeLine ∧ ∀ p, H p = none → Q (.ref p) (upd H p (.lst (xs ++ zs)))) catD := fun w x y dx dy z Q g hx hy e k => by
  cases dx <;> cases dy <;> simp only [catD, reduceCtorEq] at e
  split at e
  · cases e
    obtain ⟨a, vs, rfl, h1, h2⟩ := hx.seqL
    obtain ⟨b, us, rfl, h3, h4⟩ := hy.seqL
    refine ⟨a, b, vs, us, rfl, rfl, h1, h3, lim_size (by rw [h2.length, h4.length]; assumption), fun p hp => newQ g hp (new_lst g hp (h2.app h4)) k⟩
  · cases e

/-! - * % // ** -/
def subD : D → D → Option D
  | .int i, .int j => some (.int (i - j))
  | _, _ => none
theorem d_sub : OpD M K (rI0 fun i j => .int (i - j)) subD := fun w x y dx dy z Q g hx hy e k => by
  cases dx <;> cases dy <;> simp only [subD, reduceCtorEq] at e
  cases e; cases hx.int; cases hy.int
  exact ⟨_, _, rfl, rfl, keepQ g (.int _) k⟩
def mulD : D → D → Option D
  | .int i, .int j => if (-(2 ^ 64) < i ∧ i < 2 ^ 64) ∨ (-(2 ^ 64) < j ∧ j < 2 ^ 64) then some (.int (i * j)) else none
  | _, _ => none
theorem d_mul : OpD M K (rI CMul fun i j => .int (i * j)) mulD := fun w x y dx dy z Q g hx hy e k => by
  cases dx <;> cases dy <;> simp only [mulD, reduceCtorEq] at e
  split at e
  · cases e; cases hx.int; cases hy.int
    exact ⟨_, _, rfl, rfl, by assumption, keepQ g (.int _) k⟩
  · cases e
def modD : D → D → Option D
  | .int i, .int j => if 0 < j then some (.int (i % j)) else none
  | _, _ => none
theorem d_mod : OpD M K (rI (fun _ j => 0 < j) fun i j => .int (i % j)) modD := fun w x y dx dy z Q g hx hy e k => by
  cases dx <;> cases dy <;> simp only [modD, reduceCtorEq] at e
  split at e
  · cases e; cases hx.int; cases hy.int
    exact ⟨_, _, rfl, rfl, by assumption, keepQ g (.int _) k⟩
  · cases e
def powD : D → D → Option D
  | .int i, .int j => if 0 ≤ j ∧ j ≤ 1000000 ∧ i.natAbs < 2 ^ 64 then some (.int (i ^ j.toNat)) else none
  | _, _ => none
theorem d_pow : OpD M K (rI CPow fun i j => .int (i ^ j.toNat)) powD := fun w x y dx dy z Q g hx hy e k => by
  cases dx <;> cases dy <;> simp only [powD, reduceCtorEq] at e
  split at e
  · cases e; cases hx.int; cases hy.int
    exact ⟨_, _, rfl, rfl, by assumption, keepQ g (.int _) k⟩
  · cases e

/-! < <= > >= -/
def ltD : D → D → Option D
  | .int i, .int j => some (.bool (decide (i < j)))
  | .str a, .str b => some (.bool (decide (a.cps.toList < b.cps.toList)))
  | _, _ => none
def leD : D → D → Option D
  | .int i, .int j => some (.bool (decide (i ≤ j)))
  | _, _ => none
def gtD : D → D → Option D
  | .int i, .int j => some (.bool (decide (j < i)))
  | _, _ => none
def geD : D → D → Option D
  | .int i, .int j => some (.bool (decide (j ≤ i)))
  | _, _ => none
def rLt : R2 := fun x y H Q => rI0 (fun i j => .bl (decide (i < j))) x y H Q ∨ ∃ i j, x = .str i ∧ y = .str j ∧ Q (.bl (decide (i.cps.toList < j.cps.toList))) H
theorem o_lt {X : Cx} : OpR X (compareOp .Lt) rLt := opR_or op_lt op_lt_str
theorem d_lt : OpD M K rLt ltD := fun w x y dx dy z Q g hx hy e k => by
  cases dx <;> cases dy <;> simp only [ltD, reduceCtorEq] at e
  · cases e; cases hx.int; cases hy.int
    exact .inl ⟨_, _, rfl, rfl, keepQ g (.bl _) k⟩
  · cases e; cases hx.str; cases hy.str
    exact .inr ⟨_, _, rfl, rfl, keepQ g (.bl _) k⟩
theorem d_le : OpD M K (rI0 fun i j => .bl (decide (i ≤ j))) leD := fun w x y dx dy z Q g hx hy e k => by
  cases dx <;> cases dy <;> simp only [leD, reduceCtorEq] at e
  cases e; cases hx.int; cases hy.int
  exact ⟨_, _, rfl, rfl, keepQ g (.bl _) k⟩
theorem d_gt : OpD M K (rI0 fun i j => .bl (decide (j < i))) gtD := fun w x y dx dy z Q g hx hy e k => by
  cases dx <;> cases dy <;> simp only [gtD, reduceCtorEq] at e
  cases e; cases hx.int; cases hy.int
  exact ⟨_, _, rfl, rfl, keepQ g (.bl _) k⟩
theorem d_ge : OpD M K (rI0 fun i j => .bl (decide (j ≤ i))) geD := fun w x y dx dy z Q g hx hy e k => by
  cases dx <;> cases dy <;> simp only [geD, reduceCtorEq] at e
  cases e; cases hx.int; cases hy.int
  exact ⟨_, _, rfl, rfl, keepQ g (.bl _) k⟩

/-! == != -/
mutual
/-- without a dict -/
def flt : D → Bool
  | .list xs => fltA xs
  | .tuple xs => fltA xs
  | .dict _ => false
  | _ => true
def fltA : List D → Bool
  | [] => true
  | d :: r => flt d && fltA r
end
mutual
theorem Dv.dp {P : Addr → Prop} {H : Hp} : ∀ {v : V} {d : D}, Dv K P H v d → flt d = true → Dp K H v d
  | _, _, .non, _ => .non
  | _, _, .bl b, _ => .bl b
  | _, _, .int b, _ => .int b
  | _, _, .str b, _ => .str b
  | _, _, .lst h2 h3, h => .lst h2.sq (DvA.dp h3 (by simpa only [flt] using h))
  | _, _, .tup h2 h3, h => .tup h2.sq (DvA.dp h3 (by simpa only [flt] using h))
  | _, _, .dic _ _ _, h => by simp only [flt, Bool.false_eq_true] at h
theorem DvA.dp {P : Addr → Prop} {H : Hp} : ∀ {v : List V} {d : List D}, DvA K P H v d → fltA d = true → DpAll K H v d
  | _, _, .nil, _ => .nil
  | _, _, .cons h1 h2, h => by
    simp only [fltA, Bool.and_eq_true] at h
    exact .cons (Dv.dp h1 h.1) (DvA.dp h2 h.2)
end
theorem DvB.dp {w : W} {v : V} {d : D} (h : DvB K w v d) (f : flt d = true) : Dp K w.H v d := by
  cases h with
  | of h => exact h.dp f
  | lst h1 _ h3 => exact .lst (.of h1) (h3.dp (by simpa only [flt] using f))
  | dic _ _ _ => simp only [flt, Bool.false_eq_true] at f
def eqD (x y : D) : Option D := if flt x = true ∧ flt y = true ∧ SeqAt.shaped x = true ∧ SeqAt.shaped y = true then some (.bool (PyData.eqv x y)) else none
def neD (x y : D) : Option D := if flt x = true ∧ flt y = true ∧ SeqAt.shaped x = true ∧ SeqAt.shaped y = true then some (.bool (!PyData.eqv x y)) else none
theorem d_eq : OpD M K (rEqD K) eqD := fun w x y dx dy z Q g hx hy e k => by
  unfold eqD at e
  split at e
  · rename_i h
    cases e
    exact ⟨dx, dy, hx.dp h.1, hy.dp h.2.1, h.2.2.1, h.2.2.2, keepQ g (.bl _) k⟩
  · cases e
theorem d_ne : OpD M K (rNeD K) neD := fun w x y dx dy z Q g hx hy e k => by
  unfold neD at e
  split at e
  · rename_i h
    cases e
    exact ⟨dx, dy, hx.dp h.1, hy.dp h.2.1, h.2.2.1, h.2.2.2, keepQ g (.bl _) k⟩
  · cases e
/-! is None -/
def isNn : D → Bool
  | .none => true
  | _ => false
theorem Dv.non_iff {P : Addr → Prop} {H : Hp} {v : V} {d : D} (h : Dv K P H v d) : decide (v = V.non) = isNn d := by
  cases h <;> rfl
theorem DvB.non_iff {w : W} {v : V} {d : D} (h : DvB K w v d) : decide (v = V.non) = isNn d := by
  cases h with
  | of h => exact h.non_iff
  | lst _ _ _ => rfl
  | dic _ _ _ => rfl
def isD (neg : Bool) (x y : D) : Option D := if isNn y = true then some (.bool (if neg then !isNn x else isNn x)) else none
theorem d_is : OpD M K (fun x y H Q => y = .non ∧ Q (.bl (decide (x = .non))) H) (isD false) := fun w x y dx dy z Q g hx hy e k => by
  unfold isD at e
  split at e
  · rename_i h
    cases e
    have h2 : y = .non := by have := hy.non_iff; rw [h] at this; exact of_decide_eq_true this
    refine ⟨h2, ?_⟩
    rw [hx.non_iff]
    exact keepQ g (.bl _) k
  · cases e
theorem d_isn : OpD M K (fun x y H Q => y = .non ∧ Q (.bl (!decide (x = .non))) H) (isD true) := fun w x y dx dy z Q g hx hy e k => by
  unfold isD at e
  split at e
  · rename_i h
    cases e
    have h2 : y = .non := by have := hy.non_iff; rw [h] at this; exact of_decide_eq_true this
    refine ⟨h2, ?_⟩
    rw [hx.non_iff]
    exact keepQ g (.bl _) k
  · cases e
/-! in -/
def inS (a b : Str) : Bool := !(Builtin.Str.occurrences b a 0 b.length 1).isEmpty
theorem inS_one (c : Nat) (z : Str) : inS ⟨#[c]⟩ z = decide (c ∈ z.cps.toList) := (PySem.StrLaws.found_one z c)
def strsOf : List D → Option (List Str)
  | [] => some []
  | .str x :: r => (strsOf r).map (x :: ·)
  | _ :: _ => none
def intsOf : List D → Option (List Int)
  | [] => some []
  | .int x :: r => (intsOf r).map (x :: ·)
  | _ :: _ => none
theorem strsOf_some : ∀ {ds : List D} {xs : List Str}, strsOf ds = some xs → ds = xs.map PyData.str
  | [], xs, h => by cases h; rfl
  | d :: r, xs, h => by
    cases d <;> simp only [strsOf, reduceCtorEq] at h
    obtain ⟨ys, h1, h2⟩ := Option.map_eq_some_iff.mp h
    subst h2
    rw [strsOf_some h1]
    rfl
theorem intsOf_some : ∀ {ds : List D} {xs : List Int}, intsOf ds = some xs → ds = xs.map PyData.int
  | [], xs, h => by cases h; rfl
  | d :: r, xs, h => by
    cases d <;> simp only [intsOf, reduceCtorEq] at h
    obtain ⟨ys, h1, h2⟩ := Option.map_eq_some_iff.mp h
    subst h2
    rw [intsOf_some h1]
    rfl
theorem strsOf_map : ∀ (xs : List Str), strsOf (xs.map PyData.str) = some xs
  | [] => rfl
  | x :: r => by show (strsOf (r.map PyData.str)).map (x :: ·) = _; rw [strsOf_map r]; rfl
theorem intsOf_map : ∀ (xs : List Int), intsOf (xs.map PyData.int) = some xs
  | [] => rfl
  | x :: r => by show (intsOf (r.map PyData.int)).map (x :: ·) = _; rw [intsOf_map r]; rfl
theorem inV_str (a : Str) : ∀ xs : List Str, inV (.str a) (xs.map V.str) = decide (a ∈ xs)
  | [] => by simp [inV]
  | x :: r => by
    have h := inV_str a r
    unfold inV at h ⊢
    rw [List.map_cons, List.any_cons, h]
    by_cases e : x = a
    · subst e; simp [eqV]
    · have e' : ¬ a = x := fun z => e z.symm
      simp [eqV, e, e']
theorem inV_int (a : Int) : ∀ xs : List Int, inV (.int a) (xs.map V.int) = decide (a ∈ xs)
  | [] => by simp [inV]
  | x :: r => by
    have h := inV_int a r
    unfold inV at h ⊢
    rw [List.map_cons, List.any_cons, h]
    by_cases e : x = a
    · subst e; simp [eqV]
    · have e' : ¬ a = x := fun z => e z.symm
      simp [eqV, e, e']
theorem flat_strs (xs : List Str) : (xs.map V.str).all flatV = true := by simp [flatV]
theorem flat_ints (xs : List Int) : (xs.map V.int).all flatV = true := by simp [flatV]
def seqD : D → Option (List D)
  | .list xs => some xs
  | .tuple xs => some xs
  | _ => none
theorem DvB.seq {w : W} {v : V} {d : D} {ds : List D} (h : DvB K w v d) (e : seqD d = some ds) : ∃ a vs, v = .ref a ∧ (SqL K w.H a vs ∨ SqT K w.H a vs) ∧ DvA K w.F w.H vs ds := by
  cases d <;> simp only [seqD, reduceCtorEq] at e
  · cases e; obtain ⟨a, vs, h1, h2, h3⟩ := h.seqL; exact ⟨a, vs, h1, .inl h2, h3⟩
  · cases e; obtain ⟨a, vs, h1, h2, h3⟩ := h.seqT; exact ⟨a, vs, h1, .inr h2, h3⟩
/-- x in xs: a text among texts, an int among ints; a text in a text -/
def inB : D → D → Option Bool
  | .str a, .str b => some (inS a b)
  | .str a, y => (seqD y).bind fun ds => (strsOf ds).map fun xs => decide (a ∈ xs)
  | .int a, y => (seqD y).bind fun ds => (intsOf ds).map fun xs => decide (a ∈ xs)
  | _, _ => none
def inD (neg : Bool) (x y : D) : Option D := (inB x y).map fun b => .bool (if neg then !b else b)
def rInA (K : PySem.W.Frag) (neg : Bool) : R2 := fun x y H Q => rIn K neg x y H Q ∨ ∃ i j, x = .str i ∧ y = .str j ∧ Q (.bl (if neg then !inS i j else inS i j)) H
theorem o_in {X : Cx} : OpR X (compareOp .In) (rInA X.K false) := opR_or op_in_seq op_in_str
theorem o_nin {X : Cx} : OpR X (compareOp .NotIn) (rInA X.K true) := opR_or op_notIn_seq L2.op_notin_str
theorem d_in {neg : Bool} : OpD M K (rInA K neg) (inD neg) := fun w x y dx dy z Q g hx hy e k => by
  obtain ⟨b, e1, rfl⟩ := Option.map_eq_some_iff.mp e
  have seqS : ∀ (a : Str) (ds : List D) (xs : List Str), dx = .str a → seqD dy = some ds → strsOf ds = some xs → b = decide (a ∈ xs) → rInA K neg x y w.H Q := fun a ds xs e2 e3 e4 e5 => by
    subst e2
    cases hx.str
    obtain ⟨p, vs, rfl, h1, h2⟩ := hy.seq e3
    rw [strsOf_some e4] at h2
    have h3 := h2.strs
    subst h3
    refine .inl ⟨p, _, rfl, h1, rfl, flat_strs xs, ?_⟩
    rw [inV_str, ← e5]
    exact keepQ g (.bl _) k
  have seqI : ∀ (a : Int) (ds : List D) (xs : List Int), dx = .int a → seqD dy = some ds → intsOf ds = some xs → b = decide (a ∈ xs) → rInA K neg x y w.H Q := fun a ds xs e2 e3 e4 e5 => by
    subst e2
    cases hx.int
    obtain ⟨p, vs, rfl, h1, h2⟩ := hy.seq e3
    rw [intsOf_some e4] at h2
    have h3 := h2.ints
    subst h3
    refine .inl ⟨p, _, rfl, h1, rfl, flat_ints xs, ?_⟩
    rw [inV_int, ← e5]
    exact keepQ g (.bl _) k
  cases dx with
  | str a =>
    cases dy with
    | str b' =>
      cases e1; cases hx.str; cases hy.str
      exact .inr ⟨_, _, rfl, rfl, keepQ g (.bl _) k⟩
    | list ds =>
      obtain ⟨xs, h1, h2⟩ := Option.map_eq_some_iff.mp (show (strsOf ds).map _ = some b from e1)
      exact seqS a ds xs rfl rfl h1 h2.symm
    | tuple ds =>
      obtain ⟨xs, h1, h2⟩ := Option.map_eq_some_iff.mp (show (strsOf ds).map _ = some b from e1)
      exact seqS a ds xs rfl rfl h1 h2.symm
    | _ => simp [inB, seqD] at e1
  | int a =>
    cases dy with
    | list ds =>
      obtain ⟨xs, h1, h2⟩ := Option.map_eq_some_iff.mp (show (intsOf ds).map _ = some b from e1)
      exact seqI a ds xs rfl rfl h1 h2.symm
    | tuple ds =>
      obtain ⟨xs, h1, h2⟩ := Option.map_eq_some_iff.mp (show (intsOf ds).map _ = some b from e1)
      exact seqI a ds xs rfl rfl h1 h2.symm
    | _ => simp [inB, seqD] at e1
  | _ => simp [inB] at e1

/-! subscripts -/
def ixD : D → D → Option D
  | .list xs, .int i => atI xs i
  | .tuple xs, .int i => atI xs i
  | .str z, .int i => if z.length ≤ LIM then (atI z.cps.toList i).map fun c => .str ⟨#[c]⟩ else none
  | _, _ => none
def rIx (K : PySem.W.Frag) : R2 := fun x y H Q => rIxL K x y H Q ∨ (rIxT K x y H Q ∨ rIxS x y H Q)
theorem o_ix {X : Cx} : IxR X (rIx X.K) := ixR_or ix_list (ixR_or ix_tup ix_str)
theorem atI_dv {w : W} {vs : List V} {ds : List D} {i : Int} {z : D} (h : DvA K w.F w.H vs ds) (e : atI ds i = some z) : ∃ v, atI vs i = some v ∧ Dv K w.F w.H v z := by
  unfold atI at e ⊢
  obtain ⟨j, e1, e2⟩ := Option.bind_eq_some_iff.mp e
  obtain ⟨v, h1, h2⟩ := h.get e2
  exact ⟨v, by rw [h.length, e1]; exact h1, h2⟩
theorem d_ix : OpD M K (rIx K) ixD := fun w x y dx dy z Q g hx hy e k => by
  cases dy with
  | int i =>
    cases hy.int
    cases dx with
    | list xs =>
      obtain ⟨a, vs, rfl, h1, h2⟩ := hx.seqL
      obtain ⟨v, h3, h4⟩ := atI_dv h2 (show atI xs i = some z from e)
      exact .inl ⟨a, vs, i, v, rfl, rfl, h1, h3, keepQ g h4 k⟩
    | tuple xs =>
      obtain ⟨a, vs, rfl, h1, h2⟩ := hx.seqT
      obtain ⟨v, h3, h4⟩ := atI_dv h2 (show atI xs i = some z from e)
      exact .inr (.inl ⟨a, vs, i, v, rfl, rfl, h1, h3, keepQ g h4 k⟩)
    | str s =>
      cases hx.str
      simp only [ixD] at e
      split at e
      · obtain ⟨c, e1, e2⟩ := Option.map_eq_some_iff.mp e
        subst e2
        exact .inr (.inr ⟨s, i, c, rfl, rfl, lim_size (by assumption), e1, keepQ g (.str _) k⟩)
      · cases e
    | _ => simp [ixD] at e
  | _ => cases dx <;> simp [ixD] at e
end
end HW

namespace HW
open PySem L2
/-! ### tests, and, or, not -/
section
variable {X : Cx} {M : MI} {e a b c : Expr} {rest : List Expr} {we wa wb wc : WE} {wt wu : WT} {pos : Pos}
def truD : D → Option Bool
  | .none => some false
  | .bool b => some b
  | .int i => some (i != 0)
  | .str x => if x.length ≤ LIM then some ((x.length : Int) != 0) else none
  | .list xs => some (!xs.isEmpty)
  | .tuple xs => some (!xs.isEmpty)
  | .dict kvs => some (!kvs.isEmpty)
theorem DvA.emp {K : PySem.W.Frag} {P : Addr → Prop} {H : Hp} {vs : List V} {ds : List D} (h : DvA K P H vs ds) : (!ds.isEmpty) = !vs.isEmpty := by cases h <;> rfl
theorem DvK.emp {K : PySem.W.Frag} {P : Addr → Prop} {H : Hp} {vs : List (Key × V)} {ds : List (D × D)} (h : DvK K P H vs ds) : (!ds.isEmpty) = !vs.isEmpty := by cases h <;> rfl
def rTru (K : PySem.W.Frag) : V → Hp → (Bool → Hp → Prop) → Prop := fun x H Q => (∃ k, TruV K x H k ∧ Q k H) ∨ ∃ a kvs, x = .ref a ∧ Rd H a (.dK kvs) ∧ Q (!kvs.isEmpty) H
theorem tru_rd {X : Cx} : TruR X (rTru X.K) := fun pins s σ H x v Q I rx h => by
  rcases h with h | ⟨a, kvs, rfl, hd, q⟩
  · exact tru_ok pins s σ H x v Q I rx h
  · obtain rfl : v = Value.ref a := rx
    exact d_truth I hd fun s' I' => ⟨H, I', q⟩
theorem DvB.tru {K : PySem.W.Frag} {w : W} {v : V} {d : D} {k : Bool} (h : DvB K w v d) (e : truD d = some k) : TruV K v w.H k ∨ ∃ a kvs, v = .ref a ∧ Rd w.H a (.dK kvs) ∧ k = !kvs.isEmpty := by
  cases d with
  | none => cases h.non; cases e; exact .inl rfl
  | bool b => cases h.bl; cases e; exact .inl rfl
  | int i => cases h.int; cases e; exact .inl rfl
  | str x =>
    cases h.str
    simp only [truD] at e
    split at e
    · cases e; exact .inl ⟨lim_size (by assumption), rfl⟩
    · cases e
  | list xs => obtain ⟨a, vs, rfl, h1, h2⟩ := h.seqL; cases e; exact .inl (.inl ⟨vs, h1, h2.emp⟩)
  | tuple xs => obtain ⟨a, vs, rfl, h1, h2⟩ := h.seqT; cases e; exact .inl (.inr (.inl ⟨vs, h1, h2.emp⟩))
  | dict xs => obtain ⟨a, vs, rfl, h1, h2⟩ := h.dict; cases e; exact .inr ⟨a, vs, rfl, h1, h2.emp⟩
def wTru (we : WE) : WT := fun ρ c Q => we ρ c fun d c1 => ∃ b, truD d = some b ∧ Q b c1
theorem t_tru (h : PE X e (tB M X.K we)) (he : ∀ whole, isTrue e X.env whole = (do let v ← whole; standAt e.pos; holding [v] (truthy v)) := by intro _; rfl) : PT X e (tT M X.K (wTru we)) := by
  refine PT.imp (pt_truthR h tru_rd he) ?_
  rintro σ H Q ⟨w, ρ, Qd, eh, ev, g, hw, k⟩
  refine ⟨w, ρ, _, eh, ev, g, hw, fun w1 v d s1 g1 dv q1 => ?_⟩
  obtain ⟨b, e1, q1⟩ := q1
  rcases dv.tru e1 with z | ⟨a, kvs, ea, hd, eb⟩
  · exact .inl ⟨b, z, k w1 b s1 g1 q1⟩
  · exact .inr ⟨a, kvs, ea, hd, by rw [← eb]; exact k w1 b s1 g1 q1⟩
def wAnd (wt wu : WT) : WT := fun ρ c Q => wt ρ c fun b c1 => if b = true then wu ρ c1 Q else Q false c1
def wOr (wt wu : WT) : WT := fun ρ c Q => wt ρ c fun b c1 => if b = true then Q true c1 else wu ρ c1 Q
def wNot (wt : WT) : WT := fun ρ c Q => wt ρ c fun b c1 => Q (!b) c1
theorem t_and1 {pos : Pos} (h : PT X a (tT M X.K wt)) : PW X (.BoolOp .And [a] pos) (tT M X.K wt) := pw_and1 h
theorem t_or1 (h : PT X a (tT M X.K wt)) : PW X (.BoolOp .Or [a] pos) (tT M X.K wt) := pw_or1 h
theorem t_and (h : PT X a (tT M X.K wt)) (h' : PW X (.BoolOp .And (b :: rest) pos) (tT M X.K wu)) : PW X (.BoolOp .And (a :: b :: rest) pos) (tT M X.K (wAnd wt wu)) := by
  refine PW.imp (pw_and h h') ?_
  rintro σ H Q ⟨w, ρ, Qd, eh, ev, g, hw, k⟩
  refine ⟨w, ρ, _, eh, ev, g, hw, fun w1 b s1 g1 q1 => ?_⟩
  cases b with
  | true => exact iteT ⟨w1, ρ, Qd, rfl, ev.stp s1 g, g1, q1, fun w2 b2 s2 g2 q2 => k w2 b2 (s1.trans s2) g2 q2⟩
  | false => exact iteF (k w1 false s1 g1 q1)
theorem t_or (h : PT X a (tT M X.K wt)) (h' : PW X (.BoolOp .Or (b :: rest) pos) (tT M X.K wu)) : PW X (.BoolOp .Or (a :: b :: rest) pos) (tT M X.K (wOr wt wu)) := by
  refine PW.imp (pw_or h h') ?_
  rintro σ H Q ⟨w, ρ, Qd, eh, ev, g, hw, k⟩
  refine ⟨w, ρ, _, eh, ev, g, hw, fun w1 b s1 g1 q1 => ?_⟩
  cases b with
  | true => exact iteT (k w1 true s1 g1 q1)
  | false => exact iteF ⟨w1, ρ, Qd, rfl, ev.stp s1 g, g1, q1, fun w2 b2 s2 g2 q2 => k w2 b2 (s1.trans s2) g2 q2⟩
theorem t_not (h : PT X a (tT M X.K wt)) : PT X (.UnaryOp .Not a pos) (tT M X.K (wNot wt)) := by
  refine PT.imp (pt_not h) ?_
  rintro σ H Q ⟨w, ρ, Qd, eh, ev, g, hw, k⟩
  exact ⟨w, ρ, _, eh, ev, g, hw, fun w1 b s1 g1 q1 => k w1 _ s1 g1 q1⟩
/-- as values -/
theorem e_one {op} (h : PE X a (tE M X.K we)) : PE X (.BoolOp op [a] pos) (tE M X.K we) := pe_one h
def wAndV (wa wb : WE) : WE := fun ρ c Q => wa ρ c fun d c1 => ∃ k, d = .bool k ∧ if k = true then wb ρ c1 Q else Q (.bool false) c1
def wOrV (wa wb : WE) : WE := fun ρ c Q => wa ρ c fun d c1 => ∃ k, d = .bool k ∧ if k = true then Q (.bool true) c1 else wb ρ c1 Q
def wNotV (wa : WE) : WE := fun ρ c Q => wa ρ c fun d c1 => ∃ k, d = .bool k ∧ Q (.bool (!k)) c1
theorem e_and (ha : PE X a (tB M X.K wa)) (hb : PE X (.BoolOp .And (b :: rest) pos) (tE M X.K wb)) : PE X (.BoolOp .And (a :: b :: rest) pos) (tE M X.K (wAndV wa wb)) := by
  refine PE.imp (pe_and ha hb) ?_
  rintro σ H Q ⟨w, ρ, Qd, eh, ev, g, hw, k⟩
  refine ⟨w, ρ, _, eh, ev, g, hw, fun w1 v d s1 g1 dv q1 => ?_⟩
  obtain ⟨b, rfl, q1⟩ := q1
  cases dv.bl
  refine ⟨b, rfl, ?_⟩
  cases b with
  | true => exact iteT ⟨w1, ρ, Qd, rfl, ev.stp s1 g, g1, q1, fun w2 v d s2 g2 dv q2 => k w2 v d (s1.trans s2) g2 dv q2⟩
  | false => exact iteF (k w1 _ _ s1 g1 (.bl false) q1)
theorem e_or (ha : PE X a (tB M X.K wa)) (hb : PE X (.BoolOp .Or (b :: rest) pos) (tE M X.K wb)) : PE X (.BoolOp .Or (a :: b :: rest) pos) (tE M X.K (wOrV wa wb)) := by
  refine PE.imp (pe_or ha hb) ?_
  rintro σ H Q ⟨w, ρ, Qd, eh, ev, g, hw, k⟩
  refine ⟨w, ρ, _, eh, ev, g, hw, fun w1 v d s1 g1 dv q1 => ?_⟩
  obtain ⟨b, rfl, q1⟩ := q1
  cases dv.bl
  refine ⟨b, rfl, ?_⟩
  cases b with
  | true => exact iteT (k w1 _ _ s1 g1 (.bl true) q1)
  | false => exact iteF ⟨w1, ρ, Qd, rfl, ev.stp s1 g, g1, q1, fun w2 v d s2 g2 dv q2 => k w2 v d (s1.trans s2) g2 dv q2⟩
theorem e_not (ha : PE X a (tB M X.K wa)) : PE X (.UnaryOp .Not a pos) (tE M X.K (wNotV wa)) := by
  refine PE.imp (pe_not ha) ?_
  rintro σ H Q ⟨w, ρ, Qd, eh, ev, g, hw, k⟩
  refine ⟨w, ρ, _, eh, ev, g, hw, fun w1 v d s1 g1 dv q1 => ?_⟩
  obtain ⟨b, rfl, q1⟩ := q1
  cases dv.bl
  exact ⟨b, rfl, k w1 _ _ s1 g1 (.bl _) q1⟩
def wIfE (wt : WT) (wa wb : WE) : WE := fun ρ c Q => wt ρ c fun k c1 => if k = true then wa ρ c1 Q else wb ρ c1 Q
theorem e_if (hc : PT X c (tT M X.K wt)) (ha : PE X a (tE M X.K wa)) (hb : PE X b (tE M X.K wb)) : PE X (.IfExp c a b pos) (tE M X.K (wIfE wt wa wb)) := by
  refine PE.imp (pe_ifExp hc ha hb) ?_
  rintro σ H Q ⟨w, ρ, Qd, eh, ev, g, hw, k⟩
  refine ⟨w, ρ, _, eh, ev, g, hw, fun w1 b s1 g1 q1 => ?_⟩
  cases b with
  | true => exact iteT ⟨w1, ρ, Qd, rfl, ev.stp s1 g, g1, q1, fun w2 v d s2 g2 dv q2 => k w2 v d (s1.trans s2) g2 dv q2⟩
  | false => exact iteF ⟨w1, ρ, Qd, rfl, ev.stp s1 g, g1, q1, fun w2 v d s2 g2 dv q2 => k w2 v d (s1.trans s2) g2 dv q2⟩
/-- a < b < c -/
def wChain (f f' : D → D → Option D) (wa wb wc : WE) : WE := fun ρ c Q => wa ρ c fun x c1 => wb ρ c1 fun y c2 => ∃ k, f x y = some (.bool k) ∧ if k = true then wc ρ c2 (fun z c3 => ∃ r, f' y z = some r ∧ Q r c3) else Q (.bool false) c2
theorem r_chain {r r' : R2} {f f' : D → D → Option D} (hf : OpD M X.K r f) (hf' : OpD M X.K r' f') : ∀ (σ : L2.St) (H : Hp) (Q : VK), tE M X.K (wChain f f' wa wb wc) σ H Q → tChain r r' (tB M X.K wa) (tB M X.K wb) (tB M X.K wc) σ H Q := by
  rintro σ H Q ⟨w, ρ, Qd, eh, ev, g, hw, k⟩
  refine ⟨w, ρ, _, eh, ev, g, hw, fun w1 x dx s1 g1 bx q1 => ?_⟩
  refine ⟨w1, ρ, _, rfl, ev.stp s1 g, g1, q1, fun w2 y dy s2 g2 by' q2 => ?_⟩
  obtain ⟨b, eb, q2⟩ := q2
  refine hf w2 x y dx dy (.bool b) _ g2 (bx.stp s2 g1) by' eb fun w3 v s3 g3 dv ec => ?_
  cases dv
  refine ⟨b, rfl, ?_⟩
  cases b with
  | true =>
    refine iteT ⟨w3, ρ, _, rfl, ((ev.stp s1 g).stp s2 g1).stp s3 g2, g3, (by rw [ec]; exact q2), fun w4 z dz s4 g4 bz q4 => ?_⟩
    obtain ⟨r0, er, q4⟩ := q4
    exact hf' w4 y z dy dz r0 Q g4 ((by'.stp s3 g2).stp s4 g3) bz er fun w5 v5 s5 g5 dv5 e5 => k w5 v5 r0 ((((s1.trans s2).trans s3).trans s4).trans s5) g5 dv5 (by rw [e5]; exact q4)
  | false => exact iteF (k w3 _ _ ((s1.trans s2).trans s3) g3 (.bl false) (by rw [ec]; exact q2))
theorem e_chain {op op' : CmpOp} {r r' : R2} {f f' : D → D → Option D} (ho : OpR X (compareOp op) r) (ho' : OpR X (compareOp op') r') (hf : OpD M X.K r f) (hf' : OpD M X.K r' f') (ha : PE X a (tB M X.K wa)) (hb : PE X b (tB M X.K wb)) (hc : PE X c (tB M X.K wc))
    (hm : lastMarks [op, op'] [b, c] = false := by with_unfolding_all rfl) : PE X (.Compare a [op, op'] [b, c] pos) (tE M X.K (wChain f f' wa wb wc)) := PE.imp (pe_chain ho ho' ha hb hc hm) (r_chain hf hf')
theorem t_chain {op op' : CmpOp} {r r' : R2} {f f' : D → D → Option D} (ho : OpR X (compareOp op) r) (ho' : OpR X (compareOp op') r') (hf : OpD M X.K r f) (hf' : OpD M X.K r' f') (ha : PE X a (tB M X.K wa)) (hb : PE X b (tB M X.K wb)) (hc : PE X c (tB M X.K wc))
    (hm : lastMarks [op, op'] [b, c] = false := by with_unfolding_all rfl) : PT X (.Compare a [op, op'] [b, c] pos) (tT M X.K (wTst (wChain f f' wa wb wc))) := by
  refine PT.imp (pt_chain ho ho' ha hb hc hm) ?_
  rintro σ H Q ⟨w, ρ, Qd, eh, ev, g, hw, k⟩
  exact r_chain (X := X) (wa := wa) (wb := wb) (wc := wc) hf hf' σ H (fun x H1 => ∃ c, x = .bl c ∧ Q c H1) ⟨w, ρ, _, eh, ev, g, hw, fun w' v d s g' dv ⟨b, ed, qd⟩ => by subst ed; cases dv; exact ⟨b, rfl, k w' b s g' qd⟩⟩
end

/-! ### displays -/
section
variable {X : Cx} {M : MI} {e : Expr} {es : List Expr} {we : WE} {wa : WA} {pos : Pos}
def wNil : WA := fun _ c Q => Q [] c
def wCons (we : WE) (wa : WA) : WA := fun ρ c Q => we ρ c fun d c1 => wa ρ c1 fun ds c2 => Q (d :: ds) c2
theorem a_nil : PA X [] (tAs M X.K wNil) := PA.imp pa_nil fun σ H Q ⟨w, ρ, Qd, eh, ev, g, hw, k⟩ => by
  subst eh
  exact k w [] [] (Stp.refl w) g .nil hw
theorem a_cons (he : PE X e (tE M X.K we)) (ha : PA X es (tAs M X.K wa)) (hs : starEach (e :: es) X.env = (false, eval e X.env) :: starEach es X.env := by rfl) : PA X (e :: es) (tAs M X.K (wCons we wa)) := by
  refine PA.imp (pa_cons he ha hs) ?_
  rintro σ H Q ⟨w, ρ, Qd, eh, ev, g, hw, k⟩
  refine ⟨w, ρ, _, eh, ev, g, hw, fun w1 v d s1 g1 dv q1 => ?_⟩
  exact ⟨w1, ρ, _, rfl, ev.stp s1 g, g1, q1, fun w2 vs ds s2 g2 dvs q2 => k w2 (v :: vs) (d :: ds) (s1.trans s2) g2 (.cons (dv.fk (s2.fk g1)) dvs) q2⟩
def wTup (wa : WA) : WE := fun ρ c Q => wa ρ c fun ds c1 => ds.length ≤ LIM ∧ Q (.tuple ds) c1
def wLst (wa : WA) : WE := fun ρ c Q => wa ρ c fun ds c1 => ds.length ≤ LIM ∧ Q (.list ds) c1
theorem e_tup {x1} (ha : PA X es (tAs M X.K wa)) : PE X (.Tuple es x1 pos) (tE M X.K (wTup wa)) := by
  refine PE.imp (pe_tup ha) ?_
  rintro σ H Q ⟨w, ρ, Qd, eh, ev, g, hw, k⟩
  refine ⟨w, ρ, _, eh, ev, g, hw, fun w1 vs ds s1 g1 dvs q1 => ⟨lim_size (by rw [dvs.length]; exact q1.1), fun p hp => ?_⟩⟩
  exact k (w1.new p (.tup vs)) _ _ (s1.trans (stp_new hp)) (gd_new g1 hp) (new_tup g1 hp dvs) q1.2
theorem e_lst (ha : PA X es (tAs M X.K wa)) : PE X (.List es pos) (tE M X.K (wLst wa)) := by
  refine PE.imp (pe_lst ha) ?_
  rintro σ H Q ⟨w, ρ, Qd, eh, ev, g, hw, k⟩
  refine ⟨w, ρ, _, eh, ev, g, hw, fun w1 vs ds s1 g1 dvs q1 => ⟨lim_size (by rw [dvs.length]; exact q1.1), fun p hp => ?_⟩⟩
  exact k (w1.new p (.lst vs)) _ _ (s1.trans (stp_new hp)) (gd_new g1 hp) (new_lst g1 hp dvs) q1.2
end

/-! ### built-in functions of one datum, of two -/
section
variable {X : Cx} {M : MI} {e e2 o : Expr} {we we2 wo : WE} {p pos apos : Pos} {x : Str} {id T : String}
def wF (f : D → Option D) (we : WE) : WE := fun ρ c Q => we ρ c fun x c1 => ∃ z, f x = some z ∧ Q z c1
/-- r serves f: one argument -/
def FnD (M : MI) (K : PySem.W.Frag) (r : List V → Hp → VK → Prop) (f : D → Option D) : Prop := ∀ (w : W) (x : V) (dx z : D) (Q : VK), Gd M w → DvB K w x dx → f dx = some z →
  (∀ (w' : W) (v : V), Stp w w' → Gd M w' → Dv K w'.F w'.H v z → w'.c = w.c → Q v w'.H) → r [x] w.H Q
def FnD2 (M : MI) (K : PySem.W.Frag) (r : List V → Hp → VK → Prop) (f : D → D → Option D) : Prop := ∀ (w : W) (x y : V) (dx dy z : D) (Q : VK), Gd M w → DvB K w x dx → DvB K w y dy → f dx dy = some z →
  (∀ (w' : W) (v : V), Stp w w' → Gd M w' → Dv K w'.F w'.H v z → w'.c = w.c → Q v w'.H) → r [x, y] w.H Q
theorem r_fn {r : List V → Hp → VK → Prop} {f : D → Option D} (hf : FnD M X.K r f) : ∀ (σ : L2.St) (H : Hp) (Q : VK), tE M X.K (wF f we) σ H Q → tCB r (tCons (tB M X.K we) tNil) σ H Q := by
  rintro σ H Q ⟨w, ρ, Qd, eh, ev, g, hw, k⟩
  refine ⟨w, ρ, _, eh, ev, g, hw, fun w1 x dx s1 g1 bx q1 => ?_⟩
  obtain ⟨z, ez, qz⟩ := q1
  exact hf w1 x dx z Q g1 bx ez fun w3 v s3 g3 dv ec => k w3 v z (s1.trans s3) g3 dv (by rw [ec]; exact qz)
theorem r_fn2 {r : List V → Hp → VK → Prop} {f : D → D → Option D} (hf : FnD2 M X.K r f) : ∀ (σ : L2.St) (H : Hp) (Q : VK), tE M X.K (wOp f we we2) σ H Q → tCB r (tCons (tB M X.K we) (tCons (tB M X.K we2) tNil)) σ H Q := by
  rintro σ H Q ⟨w, ρ, Qd, eh, ev, g, hw, k⟩
  refine ⟨w, ρ, _, eh, ev, g, hw, fun w1 x dx s1 g1 bx q1 => ?_⟩
  refine ⟨w1, ρ, _, rfl, ev.stp s1 g, g1, q1, fun w2 y dy s2 g2 by' q2 => ?_⟩
  obtain ⟨z, ez, qz⟩ := q2
  exact hf w2 x y dx dy z Q g2 (bx.stp s2 g1) by' ez fun w3 v s3 g3 dv ec => k w3 v z ((s1.trans s2).trans s3) g3 dv (by rw [ec]; exact qz)
theorem e_fn {r : List V → Hp → VK → Prop} {f : D → Option D} (hr : CallR X (.builtin id) r) (hf : FnD M X.K r f) (hg : Gl X x) (hm : X.mg x = none) (hv : bootBuiltins x = some (.builtin id)) (he : PE X e (tB M X.K we)) (hn : x ≠ "__name__" := by decide) (hdb : (x == ("__debug__" : Str)) = false := by decide)
    (hs : starEach [e] X.env = (false, eval e X.env) :: starEach [] X.env := by rfl) : PE X (.Call (.Name x p) [e] [] pos) (tE M X.K (wF f we)) := PE.imp (pe_callB hr hg hm hv (pa_cons he pa_nil hs) hn hdb hs (by rfl)) (r_fn hf)
theorem e_fnT {r : List V → Hp → VK → Prop} {f : D → Option D} (hr : CallR X (.type T) r) (hf : FnD M X.K r f) (hg : Gl X x) (hm : X.mg x = none) (hv : bootBuiltins x = some (.type T)) (he : PE X e (tB M X.K we)) (hn : x ≠ "__name__" := by decide) (hdb : (x == ("__debug__" : Str)) = false := by decide)
    (hs : starEach [e] X.env = (false, eval e X.env) :: starEach [] X.env := by rfl) : PE X (.Call (.Name x p) [e] [] pos) (tE M X.K (wF f we)) := PE.imp (pe_callTy hr hg hm hv (pa_cons he pa_nil hs) hn hdb hs (by rfl)) (r_fn hf)
theorem e_fn2 {r : List V → Hp → VK → Prop} {f : D → D → Option D} (hr : CallR X (.builtin id) r) (hf : FnD2 M X.K r f) (hg : Gl X x) (hm : X.mg x = none) (hv : bootBuiltins x = some (.builtin id)) (he : PE X e (tB M X.K we)) (he2 : PE X e2 (tB M X.K we2)) (hn : x ≠ "__name__" := by decide) (hdb : (x == ("__debug__" : Str)) = false := by decide)
    (hs : starEach [e, e2] X.env = (false, eval e X.env) :: starEach [e2] X.env := by rfl) (hs2 : starEach [e2] X.env = (false, eval e2 X.env) :: starEach [] X.env := by rfl) (hpl : (backTo pos (starEach [e2] X.env)).any (·.1) = false := by rfl) : PE X (.Call (.Name x p) [e, e2] [] pos) (tE M X.K (wOp f we we2)) :=
  PE.imp (pe_callB hr hg hm hv (pa_cons he (pa_cons he2 pa_nil hs2) hs) hn hdb hs hpl) (r_fn2 hf)
/-! isinstance(x, T), T a built-in class -/
def tyName : D → String
  | .none => "NoneType"
  | .bool _ => "bool"
  | .int _ => "int"
  | .str _ => "str"
  | .list _ => "list"
  | .tuple _ => "tuple"
  | .dict _ => "dict"
theorem DvB.tyx {K : PySem.W.Frag} {w : W} {v : V} {d : D} (h : DvB K w v d) : TyX K w.H v (.type (tyName d)) := by
  have lst : ∀ {a : Addr} {vs : List V}, SqL K w.H a vs → TyX K w.H (.ref a) (.type "list") := fun {a vs} h => by
    rcases h with (h | ⟨o, h⟩) | ⟨o, its, n, h1, h2, _⟩
    · exact .base (.lst h)
    · exact .base (.frz h)
    · exact .kList h1 h2
  have tup : ∀ {a : Addr} {vs : List V}, SqT K w.H a vs → TyX K w.H (.ref a) (.type "tuple") := fun {a vs} h => by
    rcases h with (h | ⟨o, h⟩) | ⟨o, its, n, h1, h2, _⟩
    · exact .base (.tup h)
    · exact .fTuple h
    · exact .kTuple h1 h2
  cases d with
  | none => cases h.non; exact .base .non
  | bool b => cases h.bl; exact .base (.bl b)
  | int i => cases h.int; exact .base (.int i)
  | str x => cases h.str; exact .base (.str x)
  | list xs => obtain ⟨a, vs, rfl, h1, h2⟩ := h.seqL; exact lst h1
  | tuple xs => obtain ⟨a, vs, rfl, h1, h2⟩ := h.seqT; exact tup h1
  | dict xs => obtain ⟨a, vs, rfl, h1, h2⟩ := h.dict; exact h1.elim (fun z => .base (.dK z)) fun ⟨o, z⟩ => .fDict z
def isiD (T : String) (d : D) : Option D := (kitB (tyName d) T).map .bool
theorem e_isi {T : String} {y : Str} {q : Pos} (hg : Gl X "isinstance") (hm : X.mg "isinstance" = none) (hg2 : Gl X y) (hm2 : X.mg y = none) (hv2 : bootBuiltins y = some (.type T)) (he : PE X e (tB M X.K we)) (hn : y ≠ "__name__" := by decide) (hdb : (y == ("__debug__" : Str)) = false := by decide)
    (hs : starEach [e, .Name y q] X.env = (false, eval e X.env) :: starEach [.Name y q] X.env := by rfl) : PE X (.Call (.Name "isinstance" p) [e, .Name y q] [] pos) (tE M X.K (wF (isiD T) we)) := by
  refine PE.imp (pe_callB call_isi hg hm (by decide +kernel) (pa_cons he (pa_cons (pe_bltn hg2 hm2 hv2 (v := .ty T) rfl hn hdb) pa_nil (by rfl)) hs) (by decide) (by decide) hs (by rfl)) ?_
  rintro σ H Q ⟨w, ρ, Qd, eh, ev, g, hw, k⟩
  refine ⟨w, ρ, _, eh, ev, g, hw, fun w1 v d s1 g1 bv q1 => ?_⟩
  obtain ⟨z, ez, qz⟩ := q1
  obtain ⟨b, e1, e2⟩ := Option.map_eq_some_iff.mp ez
  subst e2
  exact ⟨v, .ty T, _, _, b, rfl, .ty T, bv.tyx, kit_ty e1, k w1 _ _ s1 g1 (.bl b) qz⟩
/-! len, list, tuple, all, any, int, sorted -/
def lenD : D → Option D
  | .list xs => some (.int xs.length)
  | .tuple xs => some (.int xs.length)
  | .str x => if x.length ≤ LIM then some (.int x.length) else none
  | .dict kvs => some (.int kvs.length)
  | _ => none
theorem DvK.length {K : PySem.W.Frag} {P : Addr → Prop} {H : Hp} : ∀ {vs : List (Key × V)} {ds : List (D × D)}, DvK K P H vs ds → vs.length = ds.length
  | _, _, .nil => rfl
  | _, _, .cons _ h => congrArg (· + 1) h.length
theorem callR_or {f : Value} {r r' : List V → Hp → VK → Prop} (h : CallR X f r) (h' : CallR X f r') : CallR X f (fun x H Q => r x H Q ∨ r' x H Q) := fun p s σ H xs us Q I rx q => q.elim (h p s σ H xs us Q I rx) (h' p s σ H xs us Q I rx)
def rLen (K : PySem.W.Frag) : List V → Hp → VK → Prop := fun xs H Q => (∃ p ys, xs = [.ref p] ∧ (SqL K H p ys ∨ SqT K H p ys) ∧ Q (.int ys.length) H) ∨ ((∃ z, xs = [.str z] ∧ z.length ≤ sizeLine ∧ Q (.int z.length) H) ∨ ∃ a kvs, xs = [V.ref a] ∧ Rd H a (.dK kvs) ∧ Q (.int kvs.length) H)
theorem len_rd {X : Cx} : CallR X (.builtin "len") (fun xs H Q => ∃ a kvs, xs = [V.ref a] ∧ Rd H a (.dK kvs) ∧ Q (.int kvs.length) H) := fun pins s σ H xs us Q I r h => by
  obtain ⟨a, kvs, rfl, ha, q⟩ := h
  obtain ⟨u, rfl, ru⟩ := vals1 r
  cases ru
  exact L2.d_len I ha fun t s' I' => ⟨.int kvs.length, H, I', ⟨t, rfl⟩, q⟩
theorem d_len : FnD M X.K (rLen X.K) lenD := fun w x dx z Q g hx e k => by
  cases dx with
  | list xs => obtain ⟨a, vs, rfl, h1, h2⟩ := hx.seqL; cases e; refine .inl ⟨a, vs, rfl, .inl h1, ?_⟩; rw [h2.length]; exact keepQ g (.int _) k
  | tuple xs => obtain ⟨a, vs, rfl, h1, h2⟩ := hx.seqT; cases e; refine .inl ⟨a, vs, rfl, .inr h1, ?_⟩; rw [h2.length]; exact keepQ g (.int _) k
  | str s =>
    cases hx.str
    simp only [lenD] at e
    split at e
    · cases e; exact .inr (.inl ⟨s, rfl, lim_size (by assumption), keepQ g (.int _) k⟩)
    · cases e
  | dict xs => obtain ⟨a, vs, rfl, h1, h2⟩ := hx.dict; cases e; refine .inr (.inr ⟨a, vs, rfl, h1, ?_⟩); rw [h2.length]; exact keepQ g (.int _) k
  | _ => simp [lenD] at e
def tupD (d : D) : Option D := (seqD d).map .tuple
def lstD (d : D) : Option D := (seqD d).map .list
theorem d_tup : FnD M X.K (fun xs H Q => ∃ p ys, xs = [.ref p] ∧ ((SqL X.K H p ys ∧ ∀ l, H l = none → Q (.ref l) (upd H l (.tup ys))) ∨ (SqT X.K H p ys ∧ Q (.ref p) H))) tupD := fun w x dx z Q g hx e k => by
  cases dx with
  | list xs => obtain ⟨a, vs, rfl, h1, h2⟩ := hx.seqL; cases e; exact ⟨a, vs, rfl, .inl ⟨h1, fun p hp => newQ g hp (new_tup g hp h2) k⟩⟩
  | tuple xs =>
    cases e
    cases hx with
    | of h =>
      cases h with
      | tup h2 h3 => exact ⟨_, _, rfl, .inr ⟨h2.sq, keepQ g (.tup h2 h3) k⟩⟩
  | _ => simp [tupD, seqD] at e
theorem d_lst : FnD M X.K (fun xs H Q => ∃ p ys, xs = [.ref p] ∧ (SqL X.K H p ys ∨ SqT X.K H p ys) ∧ ∀ l, H l = none → Q (.ref l) (upd H l (.lst ys))) lstD := fun w x dx z Q g hx e k => by
  obtain ⟨ds, e1, e2⟩ := Option.map_eq_some_iff.mp e
  subst e2
  obtain ⟨a, vs, rfl, h1, h2⟩ := hx.seq e1
  exact ⟨a, vs, rfl, h1, fun p hp => newQ g hp (new_lst g hp h2) k⟩
def blsOf : List D → Option (List Bool)
  | [] => some []
  | .bool x :: r => (blsOf r).map (x :: ·)
  | _ :: _ => none
theorem blsOf_some : ∀ {ds : List D} {xs : List Bool}, blsOf ds = some xs → ds = xs.map PyData.bool
  | [], xs, h => by cases h; rfl
  | d :: r, xs, h => by
    cases d <;> simp only [blsOf, reduceCtorEq] at h
    obtain ⟨ys, h1, h2⟩ := Option.map_eq_some_iff.mp h
    subst h2
    rw [blsOf_some h1]
    rfl
theorem blsOf_map : ∀ (xs : List Bool), blsOf (xs.map PyData.bool) = some xs
  | [] => rfl
  | x :: r => by show (blsOf (r.map PyData.bool)).map (x :: ·) = _; rw [blsOf_map r]; rfl
def lsD : D → Option (List D)
  | .list xs => some xs
  | _ => none
def allD (d : D) : Option D := ((lsD d).bind blsOf).map fun bs => .bool (bs.all _root_.id)
def anyD (d : D) : Option D := ((lsD d).bind blsOf).map fun bs => .bool (bs.any _root_.id)
theorem bls_get {K : PySem.W.Frag} {w : W} {x : V} {dx : D} {bs : List Bool} (hx : DvB K w x dx) (e : (lsD dx).bind blsOf = some bs) : ∃ a, x = .ref a ∧ SqL K w.H a (bs.map V.bl) := by
  obtain ⟨ds, e1, e2⟩ := Option.bind_eq_some_iff.mp e
  cases dx <;> simp only [lsD, reduceCtorEq] at e1
  cases e1
  obtain ⟨a, vs, rfl, h1, h2⟩ := hx.seqL
  rw [blsOf_some e2] at h2
  have h3 := h2.bls
  subst h3
  exact ⟨a, rfl, h1⟩
theorem d_all : FnD M X.K (rAll X.K) allD := fun w x dx z Q g hx e k => by
  obtain ⟨bs, e1, e2⟩ := Option.map_eq_some_iff.mp e
  subst e2
  obtain ⟨a, rfl, h⟩ := bls_get hx e1
  exact ⟨a, bs, rfl, h, keepQ g (.bl _) k⟩
theorem d_any : FnD M X.K (rAny X.K) anyD := fun w x dx z Q g hx e k => by
  obtain ⟨bs, e1, e2⟩ := Option.map_eq_some_iff.mp e
  subst e2
  obtain ⟨a, rfl, h⟩ := bls_get hx e1
  exact ⟨a, bs, rfl, h, keepQ g (.bl _) k⟩
def intD : D → Option D
  | .int i => some (.int i)
  | .bool b => some (.int (if b then 1 else 0))
  | _ => none
theorem d_int : FnD M X.K (fun xs H Q => (∃ i, xs = [.int i] ∧ Q (.int i) H) ∨ ∃ k, xs = [.bl k] ∧ Q (.int (if k then 1 else 0)) H) intD := fun w x dx z Q g hx e k => by
  cases dx <;> simp only [intD, reduceCtorEq] at e
  · cases e; cases hx.bl; exact .inr ⟨_, rfl, keepQ g (.int _) k⟩
  · cases e; cases hx.int; exact .inl ⟨_, rfl, keepQ g (.int _) k⟩
def minD : D → D → Option D
  | .int i, .int j => some (.int (if j < i then j else i))
  | _, _ => none
theorem d_min2 : FnD2 M X.K (fun xs H Q => ∃ i j, xs = [.int i, .int j] ∧ Q (.int (if j < i then j else i)) H) minD := fun w x y dx dy z Q g hx hy e k => by
  cases dx <;> cases dy <;> simp only [minD, reduceCtorEq] at e
  cases e; cases hx.int; cases hy.int
  exact ⟨_, _, rfl, keepQ g (.int _) k⟩
def maxD : D → D → Option D
  | .int i, .int j => some (.int (if j > i then j else i))
  | _, _ => none
/-- sorted of few texts: some arrangement that is in order -/
def wSortS (we : WE) : WE := fun ρ c Q => we ρ c fun x c1 => ∃ ds xs, lsD x = some ds ∧ strsOf ds = some xs ∧ xs.length < 64 ∧ ∀ ys : List Str, ys.Perm xs → PyProof.Rows.sortedS ys = true → Q (.list (ys.map .str)) c1
theorem e_sortS (hg : Gl X "sorted") (hm : X.mg "sorted" = none) (he : PE X e (tB M X.K we)) (hs : starEach [e] X.env = (false, eval e X.env) :: starEach [] X.env := by rfl) : PE X (.Call (.Name "sorted" p) [e] [] pos) (tE M X.K (wSortS we)) := by
  refine PE.imp (pe_callB cr_sortedS hg hm (by decide +kernel) (pa_cons he pa_nil hs) (by decide) (by decide) hs (by rfl)) ?_
  rintro σ H Q ⟨w, ρ, Qd, eh, ev, g, hw, k⟩
  refine ⟨w, ρ, _, eh, ev, g, hw, fun w1 v d s1 g1 bv q1 => ?_⟩
  obtain ⟨ds, xs, e1, e2, hl, q1⟩ := q1
  cases d <;> simp only [lsD, reduceCtorEq] at e1
  cases e1
  obtain ⟨a, vs, rfl, h1, h2⟩ := bv.seqL
  rw [strsOf_some e2] at h2
  have h3 := h2.strs
  subst h3
  refine ⟨a, xs, rfl, h1, hl, fun ys p hp hso hn => ?_⟩
  exact k (w1.new p (.lst (ys.map V.str))) _ _ (s1.trans (stp_new hn)) (gd_new g1 hn) (new_lst g1 hn (DvA.of_strs ys)) (q1 ys hp hso)
/-! methods of texts -/
def FnM (M : MI) (K : PySem.W.Frag) (r : V → List V → Hp → VK → Prop) (f : D → D → Option D) : Prop := ∀ (w : W) (x : Str) (y : V) (dy z : D) (Q : VK), Gd M w → DvB K w y dy → f (.str x) dy = some z →
  (∀ (w' : W) (v : V), Stp w w' → Gd M w' → Dv K w'.F w'.H v z → w'.c = w.c → Q v w'.H) → r (.str x) [y] w.H Q
/-- s.m(e), s a text -/
def wMS (f : D → D → Option D) (wo we : WE) : WE := fun ρ c Q => wo ρ c fun x c1 => (∃ s, x = .str s) ∧ we ρ c1 fun y c2 => ∃ z, f x y = some z ∧ Q z c2
theorem r_ms {r : V → List V → Hp → VK → Prop} {f : D → D → Option D} (hf : FnM M X.K r f) : ∀ (σ : L2.St) (H : Hp) (Q : VK), tE M X.K (wMS f wo we) σ H Q → tM1 r (tB M X.K wo) (tB M X.K we) σ H Q := by
  rintro σ H Q ⟨w, ρ, Qd, eh, ev, g, hw, k⟩
  refine ⟨w, ρ, _, eh, ev, g, hw, fun w1 x dx s1 g1 bx q1 => ?_⟩
  obtain ⟨⟨s, rfl⟩, q1⟩ := q1
  cases bx.str
  refine ⟨⟨s, rfl⟩, w1, ρ, _, rfl, ev.stp s1 g, g1, q1, fun w2 y dy s2 g2 by' q2 => ?_⟩
  obtain ⟨z, ez, qz⟩ := q2
  exact hf w2 s y dy z Q g2 by' ez fun w3 v s3 g3 dv ec => k w3 v z ((s1.trans s2).trans s3) g3 dv (by rw [ec]; exact qz)
theorem e_ms {id : String} {name : Str} {r : V → List V → Hp → VK → Prop} {f : D → D → Option D} (slot : Slot "str" name id) (ty : typeOf (.builtin id) = pure (.type "method_descriptor")) (rule : MtR X id r) (hf : FnM M X.K r f) (ho : PE X o (tB M X.K wo)) (he : PE X e (tB M X.K we))
    (hs : starEach [e] X.env = [(false, eval e X.env)] := by rfl) (hbase : attributeBase o name X.env (eval o X.env) = eval o X.env := by rfl) (hline : (apos.endLine == pos.line) = true := by rfl) : PE X (.Call (.Attribute o name apos) [e] [] pos) (tE M X.K (wMS f wo we)) :=
  PE.imp (pe_m1 slot ty rule ho he hs hbase hline) (r_ms hf)
def rpD : D → D → Option D
  | .str a, .str b => if a.length ≤ LIM then some (.str (Txt.removeprefix a b)) else none
  | _, _ => none
def rsD : D → D → Option D
  | .str a, .str b => if a.length ≤ LIM then some (.str (Txt.removesuffix a b)) else none
  | _, _ => none
theorem d_rp : FnM M X.K (fun x xs H Q => ∃ a b, x = .str a ∧ xs = [.str b] ∧ a.length ≤ sizeLine ∧ Q (.str (Txt.removeprefix a b)) H) rpD := fun w x y dy z Q g hy e k => by
  cases dy <;> simp only [rpD, reduceCtorEq] at e
  split at e
  · cases e; cases hy.str; exact ⟨x, _, rfl, rfl, lim_size (by assumption), keepQ g (.str _) k⟩
  · cases e
theorem d_rs : FnM M X.K (fun x xs H Q => ∃ a b, x = .str a ∧ xs = [.str b] ∧ a.length ≤ sizeLine ∧ Q (.str (Txt.removesuffix a b)) H) rsD := fun w x y dy z Q g hy e k => by
  cases dy <;> simp only [rsD, reduceCtorEq] at e
  split at e
  · cases e; cases hy.str; exact ⟨x, _, rfl, rfl, lim_size (by assumption), keepQ g (.str _) k⟩
  · cases e
def joinD : D → D → Option D
  | .str a, y => ((seqD y).bind strsOf).bind fun ys => if (ys.map (·.length)).sum + ys.length * a.length ≤ 16777216 then some (.str (Txt.join a ys)) else none
  | _, _ => none
theorem d_join : FnM M X.K (fun x xs H Q => ∃ a p, ∃ ys : List Str, x = .str a ∧ xs = [.ref p] ∧ (SqL X.K H p (ys.map V.str) ∨ SqT X.K H p (ys.map V.str)) ∧ (ys.map (·.length)).sum + ys.length * a.length ≤ 16777216 ∧ Q (.str (Txt.join a ys)) H) joinD := fun w x y dy z Q g hy e k => by
  obtain ⟨ys, e1, e2⟩ := Option.bind_eq_some_iff.mp e
  obtain ⟨ds, e3, e4⟩ := Option.bind_eq_some_iff.mp e1
  obtain ⟨a, vs, rfl, h1, h2⟩ := hy.seq e3
  rw [strsOf_some e4] at h2
  have h3 := h2.strs
  subst h3
  split at e2
  · cases e2; exact ⟨x, a, ys, rfl, rfl, h1, by assumption, keepQ g (.str _) k⟩
  · cases e2
/-! slices -/
abbrev WO := List En → Nat → (Option Int → Nat → Prop) → Prop
def tO (M : MI) (K : PySem.W.Frag) (wo : WO) : TO := fun σ H Q => ∃ (w : W) (ρ : List En) (Qd : Option Int → Nat → Prop), w.H = H ∧ EnvOk K w σ ρ ∧ Gd M w ∧ wo ρ w.c Qd ∧
  ∀ (w' : W) (o : Option Int), Stp w w' → Gd M w' → Qd o w'.c → Q o w'.H
def wNo : WO := fun _ c Q => Q none c
def wSo (we : WE) : WO := fun ρ c Q => we ρ c fun d c1 => ∃ i, d = .int i ∧ Q (some i) c1
theorem PO.imp {e : Option Expr} {t t' : TO} (h : PO X e t) (i : ∀ σ H Q, t' σ H Q → t σ H Q) : PO X e t' := ⟨fun p s σ H Q I q => h.run p s σ H Q I (i σ H Q q)⟩
theorem o_no : PO X none (tO M X.K wNo) := PO.imp po_none fun σ H Q ⟨w, ρ, Qd, eh, ev, g, hw, k⟩ => by subst eh; exact k w none (Stp.refl w) g hw
theorem o_so (h : PE X e (tB M X.K we)) : PO X (some e) (tO M X.K (wSo we)) := PO.imp (po_some h) fun σ H Q ⟨w, ρ, Qd, eh, ev, g, hw, k⟩ =>
  ⟨w, ρ, _, eh, ev, g, hw, fun w1 v d s1 g1 bv ⟨i, ed, q⟩ => by subst ed; cases bv.int; exact ⟨i, rfl, k w1 _ s1 g1 q⟩⟩
/-- a part of a list -/
def cutL {α : Type} (xs : List α) (lo hi : Option Int) : List α := (xs.drop (HT.sIx xs.length 0 lo)).take (HT.sIx xs.length xs.length hi - HT.sIx xs.length 0 lo)
def slD : D → Option Int → Option Int → Option D
  | .list xs, lo, hi => some (.list (cutL xs lo hi))
  | .str x, lo, hi => if x.length ≤ LIM then some (.str (cutS x lo hi)) else none
  | _, _, _ => none
theorem slR_or {r r' : V → Option Int → Option Int → Hp → VK → Prop} (h : SlR X r) (h' : SlR X r') : SlR X (fun x l u H Q => r x l u H Q ∨ r' x l u H Q) := by
  intro pins s σ H x v vl vu lo hi sl Q I rx hs pl pu q
  exact q.elim (h pins s σ H x v vl vu lo hi sl Q I rx hs pl pu) (h' pins s σ H x v vl vu lo hi sl Q I rx hs pl pu)
theorem DvA.cut {K : PySem.W.Frag} {P : Addr → Prop} {H : Hp} {vs : List V} {ds : List D} (h : DvA K P H vs ds) (lo hi : Option Int) : DvA K P H (cutV vs lo hi) (cutL ds lo hi) := by
  unfold cutV cutL
  rw [h.length]
  exact (h.drop _).take _
def wSl (we : WE) (wl wu : WO) : WE := fun ρ c Q => we ρ c fun x c1 => wl ρ c1 fun l c2 => wu ρ c2 fun u c3 => ∃ z, slD x l u = some z ∧ Q z c3
theorem e_sl {lo hi : Option Expr} {wl wu : WO} {p2 : Pos} (he : PE X e (tB M X.K we)) (hl : PO X lo (tO M X.K wl)) (hu : PO X hi (tO M X.K wu)) : PE X (.Subscript e (.Slice lo hi none p2) pos) (tE M X.K (wSl we wl wu)) := by
  refine PE.imp (pe_slice (slR_or sl_list sl_str) he hl hu) ?_
  rintro σ H Q ⟨w, ρ, Qd, eh, ev, g, hw, k⟩
  refine ⟨w, ρ, _, eh, ev, g, hw, fun w1 x dx s1 g1 bx q1 => ?_⟩
  refine ⟨w1, ρ, _, rfl, ev.stp s1 g, g1, q1, fun w2 l s2 g2 q2 => ?_⟩
  refine ⟨w2, ρ, _, rfl, (ev.stp s1 g).stp s2 g1, g2, q2, fun w3 u s3 g3 q3 => ?_⟩
  obtain ⟨z, ez, qz⟩ := q3
  have bx3 := (bx.stp s2 g1).stp s3 g2
  have s03 := (s1.trans s2).trans s3
  cases dx with
  | list xs =>
    cases ez
    obtain ⟨a, vs, rfl, h1, h2⟩ := bx3.seqL
    exact .inl ⟨a, vs, rfl, h1, fun p hp => k (w3.new p _) _ _ (s03.trans (stp_new hp)) (gd_new g3 hp) (new_lst g3 hp (h2.cut l u)) qz⟩
  | str s =>
    cases bx3.str
    simp only [slD] at ez
    split at ez
    · cases ez; exact .inr ⟨s, rfl, lim_size (by assumption), k w3 _ _ s03 g3 (.str _) qz⟩
    · cases ez
  | _ => simp [slD] at ez
end
end HW

namespace HW
open PySem L2
/-! ### slots stored, forgotten -/
section
variable {K : PySem.W.Frag} {M : MI} {w w' : W} {σ : L2.St} {ρ : List En}
theorem own_set {i : Nat} {u : Option V} {en : En} (hm : en.mut = false) {j : Nat} {a : Addr} (o : Own w (σ.set i u) (ρ.set i en) j a) : Own w σ ρ j a := by
  obtain ⟨p, e, h1, h2, h3, h4⟩ := o
  by_cases ij : i = j
  · subst ij
    rw [List.getElem?_set] at h2
    simp at h2
    obtain ⟨_, rfl⟩ := h2
    rw [hm] at h3
    cases h3
  · rw [List.getElem?_set_ne ij] at h1 h2
    exact ⟨p, e, h1, h2, h3, h4⟩
theorem EnvOk.setE {i : Nat} {u : Option V} {en : En} (h : EnvOk K w σ ρ) (hm : en.mut = false) (hv : EnOk K w (some u) en) : EnvOk K w (σ.set i u) (ρ.set i en) := by
  refine ⟨by rw [List.length_set, List.length_set]; exact h.len, fun j e q => ?_, fun j k a o1 o2 => h.ap j k a (own_set hm o1) (own_set hm o2)⟩
  by_cases ij : i = j
  · subst ij
    have hi : i < ρ.length := by
      by_cases hi : i < ρ.length
      · exact hi
      · rw [List.getElem?_eq_none (by simpa using hi)] at q; cases q
    rw [List.getElem?_set_self hi] at q
    cases q
    rw [List.getElem?_set_self (by rw [h.len]; exact hi)]
    exact hv
  · rw [List.getElem?_set_ne ij] at q ⊢
    exact h.ok j e q
theorem EnvOk.setIm {i : Nat} {v : V} {d : D} (h : EnvOk K w σ ρ) (hv : Dv K w.F w.H v d) : EnvOk K w (σ.set i (some v)) (ρ.set i (.im d)) := h.setE rfl ⟨v, rfl, hv⟩
theorem EnvOk.setUn {i : Nat} {u : Option V} (h : EnvOk K w σ ρ) : EnvOk K w (σ.set i u) (ρ.set i .un) := h.setE rfl True.intro
def wipeE (ρ : List En) : List Nat → List En
  | [] => ρ
  | v :: vs => (wipeE ρ vs).set v .un
theorem EnvOk.wipe (h : EnvOk K w σ ρ) : ∀ vs : List Nat, EnvOk K w (L2.wipe σ vs) (wipeE ρ vs)
  | [] => h
  | v :: vs => (EnvOk.wipe h vs).setUn
theorem wipe_at : ∀ {vs : List Nat} {σ : L2.St} {j : Nat}, j ∈ vs → j < σ.length → (L2.wipe σ vs)[j]? = some none
  | v :: vs, σ, j, h, hl => by
    unfold L2.wipe
    by_cases e : v = j
    · subst e
      exact List.getElem?_set_self (by rw [wipe_length]; exact hl)
    · rw [List.getElem?_set_ne e]
      exact wipe_at ((List.mem_cons.mp h).resolve_left fun z => e z.symm) hl
theorem wipe_wipe : ∀ {vs : List Nat} {σ τ : L2.St}, σ.length = τ.length → (∀ i, i ∉ vs → σ[i]? = τ[i]?) → L2.wipe σ vs = L2.wipe τ vs := fun {vs σ τ} hl h => by
  apply List.ext_getElem?
  intro i
  by_cases hi : i ∈ vs
  · by_cases hz : i < σ.length
    · rw [wipe_at hi hz, wipe_at hi (hl ▸ hz)]
    · rw [List.getElem?_eq_none (by rw [wipe_length]; omega), List.getElem?_eq_none (by rw [wipe_length]; omega)]
  · have go : ∀ (vs : List Nat) (σ : L2.St), i ∉ vs → (L2.wipe σ vs)[i]? = σ[i]? := by
      intro vs
      induction vs with
      | nil => intro σ _; rfl
      | cons v vs ih =>
        intro σ hn
        unfold L2.wipe
        rw [List.getElem?_set_ne (fun z => hn (List.mem_cons.mpr (.inl z.symm)))]
        exact ih σ fun z => hn (List.mem_cons.mpr (.inr z))
    rw [go vs σ hi, go vs τ hi]
    exact h i hi
theorem wipe_no : ∀ {vs : List Nat} {σ : L2.St} {i : Nat}, i ∉ vs → (L2.wipe σ vs)[i]? = σ[i]?
  | [], _, _, _ => rfl
  | v :: vs, σ, i, hn => by
    unfold L2.wipe
    rw [List.getElem?_set_ne (fun z => hn (List.mem_cons.mpr (.inl z.symm)))]
    exact wipe_no fun z => hn (List.mem_cons.mpr (.inr z))
theorem wipe_set {vs : List Nat} {σ : L2.St} {j : Nat} {x : Option V} (h : j ∈ vs) : L2.wipe ((L2.wipe σ vs).set j x) vs = L2.wipe σ vs := by
  refine wipe_wipe (by rw [List.length_set, wipe_length]) fun i hi => ?_
  have hji : j ≠ i := fun z => hi (z ▸ h)
  rw [List.getElem?_set_ne hji, wipe_no hi]
end
/-! ### an object of one's own changes, or changes no more -/
def W.frz (w : W) (p : Addr) : W := { w with F := fun a => w.F a ∨ a = p }
section
variable {K : PySem.W.Frag} {M : MI} {w w0 : W} {p : Addr} {o : HO}
theorem gd_put (g : Gd M w) (h : w.H p ≠ none) (n : p ∉ w.R) : Gd M (w.own p o) := by
  exact ⟨fun a e => M.st (g.mi a e) fun b hb => upd_ne fun z => n (z ▸ hb), g.r0, g.nz, fun b hb => ⟨upd_some (g.tr b hb).1, (g.tr b hb).2⟩, fun a f => upd_some (g.tf a f)⟩
theorem fk_put (f : ¬ w.F p) : Fk w (w.own p o) := ⟨fun _ h => h, fun a u fa e => by
  have ne : a ≠ p := fun z => f (z ▸ fa)
  show upd w.H p o a = _
  rw [upd_ne ne]; exact e, fun _ h => h⟩
theorem stp_put (s : Stp w0 w) (h0 : w0.H p = none) : Stp w0 (w.own p o) :=
  ⟨s.f1, s.f2, fun a u e r => by
    show upd w.H p o a = _
    rw [upd_ne (ne_of_none e h0)]; exact s.k a u e r, fun a e => upd_some (s.t a e), s.r, s.m⟩
theorem gd_frz (g : Gd M w) (h : w.H p ≠ none) (n : p ∉ w.R) : Gd M (w.frz p) := ⟨g.mi, g.r0, g.nz, fun b hb => ⟨(g.tr b hb).1, fun z => z.elim (g.tr b hb).2 fun e => n (e ▸ hb)⟩, fun a f => f.elim (g.tf a) fun e => e ▸ h⟩
theorem stp_frz (s : Stp w0 w) (h0 : w0.H p = none) : Stp w0 (w.frz p) := ⟨fun a h => .inl (s.f1 a h), fun a h => h.elim (s.f2 a) fun e => .inr (e ▸ h0), s.k, s.t, s.r, s.m⟩
theorem fk_frz : Fk w (w.frz p) := ⟨fun _ h => .inl h, fun _ _ _ h => h, fun _ h => h⟩
end

/-! ### what is walked -/
abbrev WI := List En → Nat → (List D → Nat → Prop) → Prop
structure Jok (M : MI) (K : PySem.W.Frag) (Rel : W → W → Prop) (w1 : W) (J : It) (ds : List D) : Prop where
  go : ∀ (w' : W) (i : Nat) (d : D), Rel w1 w' → Gd M w' → ds[i]? = some d → J.go i w'.H ∧ ∀ x H', J.yld i w'.H x H' → ∃ w'' : W, w''.H = H' ∧ w''.c = w'.c ∧ Stp w' w'' ∧ Gd M w'' ∧ Dv K w''.F w''.H x d
  stop : ∀ (w' : W) (i : Nat), Rel w1 w' → Gd M w' → ds.length ≤ i → J.stop i w'.H
def tI (M : MI) (K : PySem.W.Frag) (Rel : W → W → Prop) (wi : WI) : TI := fun σ H R => ∃ (w : W) (ρ : List En) (Qd : List D → Nat → Prop), w.H = H ∧ EnvOk K w σ ρ ∧ Gd M w ∧ wi ρ w.c Qd ∧
  ∀ (w1 : W) (J : It) (ds : List D), Stp w w1 → Gd M w1 → Jok M K Rel w1 J ds → Qd ds w1.c → R J w1.H
section
variable {K : PySem.W.Frag} {M : MI} {Rel : W → W → Prop} {w1 : W}
theorem jok_list {a : Addr} {vs : List V} {ds : List D} (h : ∀ w', Rel w1 w' → SqL K w'.H a vs ∧ DvA K w'.F w'.H vs ds) : Jok M K Rel w1 (Itl K a) ds where
  go := fun w' i d r g e => by
    obtain ⟨h1, h2⟩ := h w' r
    obtain ⟨v, e1, e2⟩ := h2.get e
    refine ⟨⟨vs, v, h1, e1⟩, fun x H' y => ?_⟩
    obtain ⟨rfl, y⟩ := y
    have e3 := y vs h1
    rw [e1] at e3
    cases e3
    exact ⟨w', rfl, rfl, Stp.refl w', g, e2⟩
  stop := fun w' i r g hi => by
    obtain ⟨h1, h2⟩ := h w' r
    exact ⟨vs, h1, by rw [h2.length]; exact hi⟩
theorem jok_tup {a : Addr} {vs : List V} {ds : List D} (h : ∀ w', Rel w1 w' → SqT K w'.H a vs ∧ DvA K w'.F w'.H vs ds) : Jok M K Rel w1 (Itt K a) ds where
  go := fun w' i d r g e => by
    obtain ⟨h1, h2⟩ := h w' r
    obtain ⟨v, e1, e2⟩ := h2.get e
    refine ⟨⟨vs, v, h1, e1⟩, fun x H' y => ?_⟩
    obtain ⟨rfl, y⟩ := y
    have e3 := y vs h1
    rw [e1] at e3
    cases e3
    exact ⟨w', rfl, rfl, Stp.refl w', g, e2⟩
  stop := fun w' i r g hi => by
    obtain ⟨h1, h2⟩ := h w' r
    exact ⟨vs, h1, by rw [h2.length]; exact hi⟩
/-- the signs of a text -/
def signs (x : Str) : List D := x.cps.toList.map fun c => .str ⟨#[c]⟩
theorem jok_str {x : Str} : Jok M K Rel w1 (Its x) (signs x) where
  go := fun w' i d r g e => by
    unfold signs at e
    rw [List.getElem?_map] at e
    obtain ⟨c, e1, e2⟩ := Option.map_eq_some_iff.mp e
    subst e2
    have e1' : x.cps[i]? = some c := by simpa using e1
    have hi : i < x.cps.size := (Array.getElem?_eq_some_iff.mp e1').1
    refine ⟨hi, fun v H' y => ?_⟩
    obtain ⟨rfl, c', e3, rfl⟩ := y
    rw [e1'] at e3
    cases e3
    exact ⟨w', rfl, rfl, Stp.refl w', g, .str _⟩
  stop := fun w' i r g hi => by
    unfold signs at hi
    show x.cps.size ≤ i
    simpa using hi
def rngD (lo : Int) (n : Nat) : List D := (List.range n).map fun i => .int (lo + (i : Nat))
theorem rngD_get {lo : Int} {n i : Nat} {d : D} (e : (rngD lo n)[i]? = some d) : i < n ∧ d = .int (lo + (i : Nat)) := by
  unfold rngD at e
  rw [List.getElem?_map] at e
  obtain ⟨c, e1, e2⟩ := Option.map_eq_some_iff.mp e
  obtain ⟨h1, h2⟩ := List.getElem?_eq_some_iff.mp e1
  rw [List.length_range] at h1
  rw [List.getElem_range] at h2
  subst h2
  exact ⟨h1, e2.symm⟩
theorem jok_rng {lo : Int} {n : Nat} : Jok M K Rel w1 (Itr lo n) (rngD lo n) where
  go := fun w' i d r g e => by
    obtain ⟨hi, rfl⟩ := rngD_get e
    refine ⟨hi, fun v H' y => ?_⟩
    obtain ⟨rfl, rfl⟩ := y
    exact ⟨w', rfl, rfl, Stp.refl w', g, .int _⟩
  stop := fun w' i r g hi => by
    unfold rngD at hi
    show n ≤ i
    simpa using hi
end
section
variable {X : Cx} {M : MI} {tg e e2 : Expr} {we we2 : WE} {p pos : Pos}
def wItL (we : WE) : WI := fun ρ c Q => we ρ c fun d c1 => ∃ ds, d = .list ds ∧ Q ds c1
def wItT (we : WE) : WI := fun ρ c Q => we ρ c fun d c1 => ∃ ds, d = .tuple ds ∧ Q ds c1
def wItS (we : WE) : WI := fun ρ c Q => we ρ c fun d c1 => ∃ x, d = .str x ∧ Q (signs x) c1
def wRng (we : WE) : WI := fun ρ c Q => we ρ c fun d c1 => ∃ n : Int, d = .int n ∧ -(2 ^ 62) ≤ n ∧ n < 2 ^ 62 ∧ Q (rngD 0 n.toNat) c1
def wRng2 (we we2 : WE) : WI := fun ρ c Q => we ρ c fun d c1 => we2 ρ c1 fun d2 c2 => ∃ i n : Int, d = .int i ∧ d2 = .int n ∧ (-(2 ^ 62) ≤ i ∧ i < 2 ^ 62 ∧ -(2 ^ 62) ≤ n ∧ n < 2 ^ 62) ∧ Q (rngD i (n - i).toNat) c2
/-- for a loop: what is walked changes no more -/
theorem i_listF (he : PE X e (tE M X.K we)) : PI X tg e (tI M X.K Fk (wItL we)) := by
  refine PI.imp (pi_list he) ?_
  rintro σ H R ⟨w, ρ, Qd, eh, ev, g, hw, k⟩
  refine ⟨w, ρ, _, eh, ev, g, hw, fun w1 v d s1 g1 dv q1 => ?_⟩
  obtain ⟨ds, rfl, q1⟩ := q1
  cases dv with
  | @lst a vs _ h2 h3 => exact ⟨a, rfl, ⟨vs, h2.sq⟩, k w1 _ ds s1 g1 (jok_list fun w' r => ⟨(h2.up (r.f1 a) fun o f => r.k a o f).sq, h3.fk r⟩) q1⟩
theorem i_tupF (he : PE X e (tE M X.K we)) : PI X tg e (tI M X.K Fk (wItT we)) := by
  refine PI.imp (pi_tup he) ?_
  rintro σ H R ⟨w, ρ, Qd, eh, ev, g, hw, k⟩
  refine ⟨w, ρ, _, eh, ev, g, hw, fun w1 v d s1 g1 dv q1 => ?_⟩
  obtain ⟨ds, rfl, q1⟩ := q1
  cases dv with
  | @tup a vs _ h2 h3 => exact ⟨a, rfl, ⟨vs, h2.sq⟩, k w1 _ ds s1 g1 (jok_tup fun w' r => ⟨(h2.up (r.f1 a) fun o f => r.k a o f).sq, h3.fk r⟩) q1⟩
theorem i_str {Rel : W → W → Prop} (he : PE X e (tB M X.K we)) : PI X tg e (tI M X.K Rel (wItS we)) := by
  refine PI.imp (pi_str he) ?_
  rintro σ H R ⟨w, ρ, Qd, eh, ev, g, hw, k⟩
  refine ⟨w, ρ, _, eh, ev, g, hw, fun w1 v d s1 g1 dv q1 => ?_⟩
  obtain ⟨x, rfl, q1⟩ := q1
  cases dv.str
  exact ⟨x, rfl, k w1 _ _ s1 g1 jok_str q1⟩
theorem i_rng {Rel : W → W → Prop} (hg : Gl X "range") (hm : X.mg "range" = none) (he : PE X e (tB M X.K we)) (hs : starEach [e] X.env = [(false, eval e X.env)] := by rfl) : PI X tg (.Call (.Name "range" p) [e] [] pos) (tI M X.K Rel (wRng we)) := by
  refine PI.imp (pi_range1 hg hm (pa_cons he pa_nil hs) hs) ?_
  rintro σ H R ⟨w, ρ, Qd, eh, ev, g, hw, k⟩
  refine ⟨w, ρ, _, eh, ev, g, hw, fun w1 v d s1 g1 dv q1 => ?_⟩
  obtain ⟨n, rfl, h1, h2, q1⟩ := q1
  cases dv.int
  exact ⟨n, rfl, h1, h2, k w1 _ _ s1 g1 jok_rng q1⟩
theorem i_rng2 {Rel : W → W → Prop} (hg : Gl X "range") (hm : X.mg "range" = none) (he : PE X e (tB M X.K we)) (he2 : PE X e2 (tB M X.K we2)) (hs : starEach [e, e2] X.env = [(false, eval e X.env), (false, eval e2 X.env)] := by rfl) (hs2 : starEach [e2] X.env = [(false, eval e2 X.env)] := by rfl) : PI X tg (.Call (.Name "range" p) [e, e2] [] pos) (tI M X.K Rel (wRng2 we we2)) := by
  refine PI.imp (pi_range2 hg hm (pa_cons he (pa_cons he2 pa_nil hs2) (by rw [hs, hs2])) hs hs2) ?_
  rintro σ H R ⟨w, ρ, Qd, eh, ev, g, hw, k⟩
  refine ⟨w, ρ, _, eh, ev, g, hw, fun w1 v d s1 g1 dv q1 => ?_⟩
  refine ⟨w1, ρ, _, rfl, ev.stp s1 g, g1, q1, fun w2 v2 d2 s2 g2 dv2 q2 => ?_⟩
  obtain ⟨i, n, rfl, rfl, hb, q2⟩ := q2
  cases (dv.stp s2 g1).int
  cases dv2.int
  exact ⟨i, n, rfl, hb, k w2 _ _ (s1.trans s2) g2 jok_rng q2⟩
/-- for a comprehension -/
theorem i_S {wi : WI} (h : PI X tg e (tI M X.K Fk wi)) : PI X tg e (tI M X.K Stp wi) := PI.imp h fun σ H R ⟨w, ρ, Qd, eh, ev, g, hw, k⟩ =>
  ⟨w, ρ, Qd, eh, ev, g, hw, fun w1 J ds s1 g1 jk q1 => k w1 J ds s1 g1 ⟨fun w' i d r g' e => jk.go w' i d (r.fk g1) g' e, fun w' i r g' hi => jk.stop w' i (r.fk g1) g' hi⟩ q1⟩
theorem i_listS (he : PE X e (tB M X.K we)) : PI X tg e (tI M X.K Stp (wItL we)) := by
  refine PI.imp (pi_list he) ?_
  rintro σ H R ⟨w, ρ, Qd, eh, ev, g, hw, k⟩
  refine ⟨w, ρ, _, eh, ev, g, hw, fun w1 v d s1 g1 dv q1 => ?_⟩
  obtain ⟨ds, rfl, q1⟩ := q1
  cases dv with
  | of dv =>
    cases dv with
    | @lst a vs _ h2 h3 => exact ⟨a, rfl, ⟨vs, h2.sq⟩, k w1 _ ds s1 g1 (jok_list fun w' r => ⟨(h2.up ((r.fk g1).f1 a) fun o f => (r.fk g1).k a o f).sq, h3.fk (r.fk g1)⟩) q1⟩
  | @lst a vs _ h n h3 => exact ⟨a, rfl, ⟨vs, .of h⟩, k w1 _ ds s1 g1 (jok_list fun w' r => ⟨.of (r.k a _ h n), h3.fk (r.fk g1)⟩) q1⟩
end

/-! ### list comprehensions -/
def lcGo (wt : WT) (we : WE) (ρ : List En) (j : Nat) : List D → List D → Nat → (D → Nat → Prop) → Prop
  | [], acc, c, Q => Q (.list acc) c
  | d :: r, acc, c, Q => wt (ρ.set j (.im d)) c fun b c1 => if b = true then we (ρ.set j (.im d)) c1 (fun y c2 => lcGo wt we ρ j r (acc ++ [y]) c2 Q) else lcGo wt we ρ j r acc c1 Q
def wYes : WT := fun _ c Q => Q true c
def wLc (wi : WI) (wt : WT) (we : WE) (j : Nat) (vs : List Nat) : WE := fun ρ c Q => wi ρ c fun ds c1 => ds.length ≤ 16000000 ∧ lcGo wt we (wipeE ρ vs) j ds [] c1 Q
section
variable {X : Cx} {M : MI}
theorem PTs.imp {ifs : List Expr} {t t' : TT} (h : PTs X ifs t) (i : ∀ σ H Q, t' σ H Q → t σ H Q) : PTs X ifs t' := ⟨fun p s σ H Q I q => h.run p s σ H Q I (i σ H Q q)⟩
theorem ts_nil : PTs X [] (tT M X.K wYes) := PTs.imp pts_nil fun σ H Q ⟨w, ρ, Qd, eh, ev, g, hw, k⟩ => by subst eh; exact k w true (Stp.refl w) g hw
theorem ts_one {c : Expr} {wt : WT} (h : PT X c (tT M X.K wt)) : PTs X [c] (tT M X.K wt) := pts_one h
/-- the reading of a comprehension -/
theorem r_lc {wi : WI} {wt : WT} {we : WE} {j : Nat} {vs : List Nat} (hj : j ∈ vs) : ∀ (σ : L2.St) (H : Hp) (Q : VK), tE M X.K (wLc wi wt we j vs) σ H Q → tLc (tI M X.K Stp wi) (gName j) (tT M X.K wt) (tE M X.K we) vs σ H Q := by
  rintro σ H Q ⟨w, ρ, Qd, eh, ev, g, hw, k⟩
  refine ⟨w, ρ, _, eh, ev, g, hw, fun w1 J ds s1 g1 jk q1 Dl hD => ?_⟩
  obtain ⟨hl, q1⟩ := q1
  have nF : ¬ w1.F Dl := fun f => g1.tf Dl f hD
  have nR : Dl ∉ w1.R := r_free g1 hD
  refine ⟨fun i m H' => ∃ (w' : W) (acc : List D) (us : List V), w'.H = H' ∧ m = ds.length - i ∧ i ≤ ds.length ∧ Stp w1 w' ∧ Gd M w' ∧ w'.H Dl = some (.lst us) ∧ ¬ w'.F Dl ∧ Dl ∉ w'.R ∧ DvA X.K w'.F w'.H us acc ∧ acc.length ≤ i ∧ lcGo wt we (wipeE ρ vs) j (ds.drop i) acc w'.c Qd,
    ⟨ds.length, w1.own Dl (.lst []), [], [], rfl, by simp, Nat.zero_le _, stp_own hD, gd_own g1 hD, upd_same, nF, nR, .nil, Nat.le_refl _, q1⟩, ?_⟩
  rintro i m H' ⟨w', acc, us, rfl, rfl, hi, s', g', hDl, nf, nr, da, hal, q⟩
  have ev' := (ev.stp s1 g).stp s' g1
  by_cases hlt : i < ds.length
  · have ed : ds[i]? = some ds[i] := by simp [hlt]
    obtain ⟨jg, jy⟩ := jk.go w' i _ s' g' ed
    refine .inr ⟨jg, fun H2 => ∃ (w2 : W) (acc : List D) (us : List V), w2.H = H2 ∧ Stp w1 w2 ∧ Gd M w2 ∧ w2.H Dl = some (.lst us) ∧ ¬ w2.F Dl ∧ Dl ∉ w2.R ∧ DvA X.K w2.F w2.H us acc ∧ acc.length ≤ i + 1 ∧ lcGo wt we (wipeE ρ vs) j (ds.drop (i + 1)) acc w2.c Qd, ?_, fun x H2 y => ?_⟩
    · rintro H2 ⟨w2, acc2, us2, h⟩
      exact ⟨ds.length - (i + 1), by omega, w2, acc2, us2, h.1, rfl, hlt, h.2⟩
    · obtain ⟨w2, rfl, ec, s2, g2, dx⟩ := jy x H2 y
      have q2 : lcGo wt we (wipeE ρ vs) j (ds[i] :: ds.drop (i + 1)) acc w2.c Qd := by
        rw [ec, ← List.drop_eq_getElem_cons hlt]; exact q
      have keepD : ∀ {w3 : W}, Stp w2 w3 → w3.H Dl = some (.lst us) ∧ ¬ w3.F Dl ∧ Dl ∉ w3.R := fun {w3} s3 => by
        have h2 := s2.k _ _ hDl nr
        have n2 := r_up s2 hDl nr
        have f2 : ¬ w2.F Dl := fun z => (s2.f2 Dl z).elim nf fun e => by rw [hDl] at e; cases e
        exact ⟨s3.k _ _ h2 n2, (fun z => (s3.f2 Dl z).elim f2 fun e => (by rw [h2] at e; cases e)), r_up s3 h2 n2⟩
      refine ⟨wipe_set hj, w2, _, _, rfl, ((ev'.stp s2 g').wipe vs).setIm dx, g2, q2, fun w3 b s3 g3 q3 => ?_⟩
      have s13 := (s'.trans s2).trans s3
      have da3 := da.fk ((s2.trans s3).fk g')
      obtain ⟨h3, f3, n3⟩ := keepD s3
      cases b with
      | true =>
        refine iteT ⟨w3, _, _, rfl, (((ev'.stp s2 g').wipe vs).setIm dx).stp s3 g2, g3, q3, fun w4 v d s4 g4 dv q4 => ?_⟩
        obtain ⟨h4, f4, n4⟩ := keepD (s3.trans s4)
        have da4 := da3.fk (s4.fk g3)
        have z : w4.H Dl ≠ none := by rw [h4]; simp
        refine ⟨us, h4, (by rw [sizeLine_eq, da4.length]; omega), ?_⟩
        exact ⟨w4.own Dl (.lst (us ++ [v])), acc ++ [d], us ++ [v], rfl, stp_put (s13.trans s4) hD, gd_put g4 z n4, upd_same, f4, n4,
          (da4.app (.cons dv .nil)).fk (fk_put f4), by rw [List.length_append]; show acc.length + 1 ≤ i + 1; omega, q4⟩
      | false => exact iteF ⟨w3, acc, us, rfl, s13, g3, h3, f3, n3, da3, by omega, q3⟩
  · have e : i = ds.length := by omega
    subst e
    refine .inl ⟨jk.stop w' _ s' g' (Nat.le_refl _), ?_⟩
    rw [List.drop_length] at q
    have hDw : w.H Dl = none := nn s1 hD
    exact k (w'.frz Dl) _ _ (stp_frz (s1.trans s') hDw) (gd_frz g' (by rw [hDl]; simp) nr) (.lst (.inl ⟨.inr rfl, .of hDl⟩) (da.fk fk_frz)) q
/-- [elt for target in iter if ..] -/
theorem e_lc {elt tg iter : Expr} {ifs : List Expr} {scope : Scope} {own : List (Str × Nat)} {pos : Pos} {wi : WI} {wt : WT} {we : WE} {j : Nat} (hj : j ∈ own.map (·.2)) (hc : X.calm = true) (hN : X.N.Nodup) (hi : PI X tg iter (tI M X.K Stp wi)) (ok : BlkOk X.N X.env.scope scope own)
    (hg : ∀ (s : Shared) (H : Hp) (C : Addr) (cl : List (Str × Addr)) (fp : List Addr), PG (X.blk s H scope (compEnvC scope cl C X.env) fp) tg (gName j)) (ht : ∀ (s : Shared) (H : Hp) (C : Addr) (cl : List (Str × Addr)) (fp : List Addr), PTs (X.blk s H scope (compEnvC scope cl C X.env) fp) ifs (tT M X.K wt))
    (he : ∀ (s : Shared) (H : Hp) (C : Addr) (cl : List (Str × Addr)) (fp : List Addr), PE (X.blk s H scope (compEnvC scope cl C X.env) fp) elt (tE M X.K we)) (hs : ∀ x, foldedSetIterable iter X.env x = pure x := by intro _; rfl) :
    PE X (.ListComp elt [⟨tg, iter, ifs, 0⟩] scope pos) (tE M X.K (wLc wi wt we j (own.map (·.2)))) := PE.imp (pe_lc hc hN hi ok hg ht he hs) (r_lc hj)
end
end HW

namespace HW
open PySem L2
/-! ### defs that are called where nothing is being shown (repr) -/
structure FnG (P : Program) (w : World) (K : PySem.W.Frag) (mg : Str → Option Value) (base : Heap) (CX : CXT) (k : Nat) (f : Addr) (fd : FuncData) (ps : List Str) (sp : Sp) : Prop where
  len : ∀ vs H Q E, sp vs H Q E → vs.length = ps.length
  run : ∀ (A : Around) (outer : List Env) (s : Shared) (H : Hp) (args : Args) (us : List Value) (vs : List V) (Q : VK) (E : XK), A.guards = some [] → Room k A → Env0 P w K mg base A outer s H → BindsTo s fd args (ps.zip us) → Vals vs us →
    sp vs H Q E → codeAny (model P w) A (.call (.ref f) args) (CR CX outer P w H s Q E) s
section
variable {P : Program} {w : World} {K : PySem.W.Frag} {mg : Str → Option Value} {base : Heap} {CX : CXT} {k : Nat} {f : Addr} {fd : FuncData} {ps : List Str} {sp sp' : Sp}
theorem FnG.of (F : FnOk P w K mg base CX k f fd ps sp) : FnG P w K mg base CX k f fd ps sp := ⟨F.len, fun A outer s H args us vs Q E _ => F.run A outer s H args us vs Q E⟩
theorem FnG.imp (F : FnG P w K mg base CX k f fd ps sp) (h : ∀ vs H Q E, sp' vs H Q E → sp vs H Q E) : FnG P w K mg base CX k f fd ps sp' :=
  ⟨fun vs H Q E q => F.len vs H Q E (h _ _ _ _ q), fun A outer s H args us vs Q E hg hr he hb hv hs => F.run A outer s H args us vs Q E hg hr he hb hv (h _ _ _ _ hs)⟩
/-- a def by its body -/
theorem fnG {x qual : Str} {st : Stmt} {N : List Str} (F : L2.Fun K x qual st f fd) (S : FnScope N ps (defScope st)) (len : ∀ vs H Q E, sp vs H Q E → vs.length = ps.length)
    (hbody : ∀ (cdv : Value) (A : Around) (outer : List Env) (s : Shared) (H : Hp) (vs : List V) (Q : VK) (E : XK), (A.deeper (PyProof.Rows.envOfC qual (defScope st) s.heap.objs.size f cdv)).guards = some [] → Room k (A.deeper (PyProof.Rows.envOfC qual (defScope st) s.heap.objs.size f cdv)) → sp vs H Q E →
      ∃ t, PSs (cxOf CX P w K mg base N qual (defScope st) f cdv A outer s H E) (defBody st) t ∧ t { nx := fun _ H' => Q .non H', rt := Q } (L2.start N vs) H) : FnG P w K mg base CX (k + 1) f fd ps sp := by
  obtain ⟨oc, od, kV, doc, pm, an, cdv, ct, osl, rfl, look, code⟩ := F.ex
  refine ⟨len, fun A outer s0 H0 args us vs Q E gds room e0 bnd rel want => ?_⟩
  have inK : K.In s0.heap := e0.mod.kin.keeps fun a o h => (e0.bs a o h).1
  have kinds : ∀ q ∈ ps.zip us, (defScope st).names.lookup q.1 = some .local ∨ ((defScope st).names.lookup q.1 = some .cell ∧
      ((cellsFrom (s0.heap.objs.size + 1) (defScope st).names []).lookup q.1).isSome = true) := fun q hq =>
    (S.par q.1 (List.of_mem_zip (show (q.1, q.2) ∈ ps.zip us from hq)).1).imp (fun z => z) fun z => ⟨z, PySem.W.cellsFrom_some _ _ _ (.inl z)⟩
  refine codeAny_call_function room.depth (inK _ _ look) rfl S.co S.gen rfl
    (PySem.W.codeRec_of inK code) (bnd _ _ _ _ (wpAny_newFunctionEnv_cells S.kind kinds fun env henv s1 made => ?_))
  subst henv
  have lim : s0.heap.NoLimit := e0.mod.nolimit.keeps fun a o h => (e0.bs a o h).1
  refine ⟨lim.keeps made.toInCall.keep, codeAny_func ?_⟩
  obtain ⟨t, run, q0⟩ := hbody cdv A outer s0 H0 vs Q E gds (room.deeper _) want
  have I0 := inv_start (CX := CX) (P := P) (w := w) (K := K) (mg := mg) (base := base) (E := E)
    S room.hd e0 (len _ _ _ _ want) rel made
  refine wpAny_mono (run.run [] s1 _ H0 _ I0 q0) (fun fl s2 h2 => ?_) fun _ _ h2 => h2
  cases fl with
  | ret u => exact let ⟨v, _, H2, J, rv, q⟩ := h2; ⟨v, H2, J.os, J.bare, J.base, J.hok, rv, q⟩
  | next => exact let ⟨_, H2, J, q⟩ := h2; ⟨V.non, H2, J.os, J.bare, J.base, J.hok, rfl, q⟩
  | brk => exact let ⟨_, _, _, q⟩ := h2; q.elim
  | cont => exact let ⟨_, _, _, q⟩ := h2; q.elim
end
/-- a def of the module that may be called by its name -/
structure CalG (P : Program) (w : World) (K : PySem.W.Frag) (mg : Str → Option Value) (base : Heap) (k : Nat) (x : Str) (sp : Sp) : Prop where
  ex : ∃ (f : Addr) (fd : FuncData) (ps : List Str), FnG P w K mg base CX0 k f fd ps sp ∧ mg x = some (.ref f) ∧ PySem.W.keepIn K (.ref f) = true ∧ Binds K fd ps []
theorem CalG.imp {P : Program} {w : World} {K : PySem.W.Frag} {mg : Str → Option Value} {base : Heap} {k : Nat} {x : Str} {sp sp' : Sp} (C : CalG P w K mg base k x sp) (h : ∀ vs H Q E, sp' vs H Q E → sp vs H Q E) : CalG P w K mg base k x sp' := by
  obtain ⟨f, fd, ps, F, h1, h2, h3⟩ := C.ex
  exact ⟨f, fd, ps, F.imp h, h1, h2, h3⟩
section
variable {X : Cx} {k j : Nat} {x : Str} {sp : Sp} {p pos : Pos} {e : Expr} {es : List Expr} {t : TA}
theorem pe_g (C : CalG X.prog X.w X.K X.mg X.base k x sp) (hr : Room j X.A) (hk : k ≤ j) (gds : X.A.guards = some []) (hg : Gl X x) (ha : PA X (e :: es) t)
    (hdb : (x == ("__debug__" : Str)) = false := by decide) (he : starEach (e :: es) X.env = (false, eval e X.env) :: starEach es X.env := by rfl) (hpl : (backTo pos (starEach es X.env)).any (·.1) = false := by rfl) :
    PE X (.Call (.Name x p) (e :: es) [] pos) (tCall sp [] E0 t) := by
  obtain ⟨f, fd, ps, F, hm, kp, b⟩ := C.ex
  refine ⟨fun pins s σ H Q I h => wpAny_Call_Name_kw (ld_glob I hg hm ?_ hdb)⟩
  refine PySem.W.callWith_K (h₀ := X.base) I.ok.mod.kin kp (thn (ha.run pos pins s σ H _ I h) fun us s1 hh => ?_) he hpl
  obtain ⟨vs, H1, I1, r, q⟩ := hh
  rw [List.append_nil] at q
  have hl : (us ++ []).length = ps.length := by rw [List.append_nil, ← r.length]; exact F.len _ _ _ _ q
  have bd := b s1 us I1.kIn hl
  rw [List.append_nil] at bd
  refine ⟨I1.kIn, wpAny_call (codeAny_mono (F.run X.A X.stack s1 H1 ⟨us, []⟩ us vs Q E0 gds (hr.mono hk) I1.env0 bd r q) fun r2 s2 h2 => ?_)⟩
  cases r2 with
  | error er => exact False.elim h2
  | ok fl =>
    cases fl with
    | ret u => exact I1.after h2
    | next => exact False.elim h2
    | brk => exact False.elim h2
    | cont => exact False.elim h2
end

/-! ### what is handed to a def of one's own: data, the draws -/
inductive ArgsOk (K : PySem.W.Frag) (w : W) : List V → List En → Prop
  | nil : ArgsOk K w [] []
  | im {v : V} {vs : List V} {d : D} {es : List En} : Dv K w.F w.H v d → ArgsOk K w vs es → ArgsOk K w (v :: vs) (.im d :: es)
  | st {a : Addr} {vs : List V} {es : List En} : w.mo = some a → ArgsOk K w vs es → ArgsOk K w (.ref a :: vs) (.st :: es)
theorem ArgsOk.length {K : PySem.W.Frag} {w : W} : ∀ {vs : List V} {es : List En}, ArgsOk K w vs es → vs.length = es.length
  | _, _, .nil => rfl
  | _, _, .im _ h => congrArg (· + 1) h.length
  | _, _, .st _ h => congrArg (· + 1) h.length
abbrev WG := List En → Nat → (List En → Nat → Prop) → Prop
abbrev FW := List En → Nat → (D → Nat → Prop) → Prop
def tG (M : MI) (K : PySem.W.Frag) (wg : WG) : TA := fun σ H Q => ∃ (w : W) (ρ : List En) (Qd : List En → Nat → Prop), w.H = H ∧ EnvOk K w σ ρ ∧ Gd M w ∧ wg ρ w.c Qd ∧
  ∀ (w' : W) (vs : List V) (es : List En), Stp w w' → Gd M w' → ArgsOk K w' vs es → Qd es w'.c → Q vs w'.H
def fnSp (M : MI) (K : PySem.W.Frag) (f : FW) : Sp := fun vs H Q _ => ∃ (w : W) (es : List En) (Qd : D → Nat → Prop), w.H = H ∧ Gd M w ∧ ArgsOk K w vs es ∧ f es w.c Qd ∧
  ∀ (w' : W) (v : V) (d : D), Stp w w' → Gd M w' → Dv K w'.F w'.H v d → Qd d w'.c → Q v w'.H
theorem fnSp_imp {M : MI} {K : PySem.W.Frag} {f f' : FW} (h : ∀ es c Q, f' es c Q → f es c Q) : ∀ vs H Q E, fnSp M K f' vs H Q E → fnSp M K f vs H Q E :=
  fun vs H Q E ⟨w, es, Qd, eh, g, a, hf, k⟩ => ⟨w, es, Qd, eh, g, a, h _ _ _ hf, k⟩
section
variable {X : Cx} {M : MI} {e : Expr} {es : List Expr} {we : WE} {wg : WG} {x : Str} {p pos : Pos}
def gNil : WG := fun _ c Q => Q [] c
def gIm (we : WE) (wg : WG) : WG := fun ρ c Q => we ρ c fun d c1 => wg ρ c1 fun es c2 => Q (.im d :: es) c2
def gSt (i : Nat) (wg : WG) : WG := fun ρ c Q => ρ[i]? = some .st ∧ wg ρ c fun es c2 => Q (.st :: es) c2
theorem g_nil : PA X [] (tG M X.K gNil) := PA.imp pa_nil fun σ H Q ⟨w, ρ, Qd, eh, ev, g, hw, k⟩ => by
  subst eh
  exact k w [] [] (Stp.refl w) g .nil hw
theorem ArgsOk.up {K : PySem.W.Frag} {w w' : W} (s : Fk w w') : ∀ {vs : List V} {es : List En}, ArgsOk K w vs es → ArgsOk K w' vs es
  | _, _, .nil => .nil
  | _, _, .im d h => .im (d.fk s) (h.up s)
  | _, _, .st d h => .st (s.m _ d) (h.up s)
theorem g_im (he : PE X e (tE M X.K we)) (ha : PA X es (tG M X.K wg)) (hs : starEach (e :: es) X.env = (false, eval e X.env) :: starEach es X.env := by rfl) : PA X (e :: es) (tG M X.K (gIm we wg)) := by
  refine PA.imp (pa_cons he ha hs) ?_
  rintro σ H Q ⟨w, ρ, Qd, eh, ev, g, hw, k⟩
  refine ⟨w, ρ, _, eh, ev, g, hw, fun w1 v d s1 g1 dv q1 => ?_⟩
  exact ⟨w1, ρ, _, rfl, ev.stp s1 g, g1, q1, fun w2 vs ds s2 g2 dvs q2 => k w2 (v :: vs) _ (s1.trans s2) g2 (.im (dv.fk (s2.fk g1)) dvs) q2⟩
theorem g_st {i : Nat} (h : PE X (.Name x pos) (tVar i)) (ha : PA X es (tG M X.K wg)) (hs : starEach (.Name x pos :: es) X.env = (false, eval (.Name x pos) X.env) :: starEach es X.env := by rfl) : PA X (.Name x pos :: es) (tG M X.K (gSt i wg)) := by
  refine PA.imp (pa_cons h ha hs) ?_
  rintro σ H Q ⟨w, ρ, Qd, eh, ev, g, ⟨q, hw⟩, k⟩
  obtain ⟨a, h1, h2⟩ := ev.ok i _ q
  subst eh
  exact ⟨_, h1, w, ρ, _, rfl, ev, g, hw, fun w2 vs ds s2 g2 dvs q2 => k w2 _ _ s2 g2 (.st (s2.m a h2) dvs) q2⟩
def wCall (f : FW) (wg : WG) : WE := fun ρ c Q => wg ρ c fun es c1 => f es c1 Q
theorem e_call {f : FW} {k j : Nat} (C : CalG X.prog X.w X.K X.mg X.base k x (fnSp M X.K f)) (hr : Room j X.A) (hk : k ≤ j) (gds : X.A.guards = some []) (hg : Gl X x) (ha : PA X (e :: es) (tG M X.K wg))
    (hdb : (x == ("__debug__" : Str)) = false := by decide) (he : starEach (e :: es) X.env = (false, eval e X.env) :: starEach es X.env := by rfl) (hpl : (backTo pos (starEach es X.env)).any (·.1) = false := by rfl) :
    PE X (.Call (.Name x p) (e :: es) [] pos) (tE M X.K (wCall f wg)) := by
  refine PE.imp (pe_g C hr hk gds hg ha hdb he hpl) ?_
  rintro σ H Q ⟨w, ρ, Qd, eh, ev, g, hw, k⟩
  refine ⟨w, ρ, _, eh, ev, g, hw, fun w1 vs es s1 g1 ok q1 => ?_⟩
  show fnSp M X.K f (vs ++ []) w1.H Q E0
  rw [List.append_nil]
  exact ⟨w1, es, Qd, rfl, g1, ok, q1, fun w2 v d s2 g2 dv q2 => k w2 v d (s1.trans s2) g2 dv q2⟩
end

/-! ### statements -/
structure Dd where
  nx : List En → Nat → Prop
  rt : D → Nat → Prop
  bk : List En → Nat → Prop := fun _ _ => False
  ct : List En → Nat → Prop := fun _ _ => False
abbrev WS := Dd → List En → Nat → Prop
structure SOk (M : MI) (K : PySem.W.Frag) (w0 w : W) (σ : L2.St) (ρ : List En) : Prop where
  ev : EnvOk K w σ ρ
  gd : Gd M w
  st : Stp w0 w
  ow : ∀ i a, Own w σ ρ i a → w0.H a = none
structure Cont (M : MI) (K : PySem.W.Frag) (w0 w : W) (dd : Dd) (D : Ends) : Prop where
  nx : ∀ (w' : W) (σ' : L2.St) (ρ' : List En), Fk w w' → SOk M K w0 w' σ' ρ' → dd.nx ρ' w'.c → D.nx σ' w'.H
  rt : ∀ (w' : W) (v : V) (d : HW.D), Stp w0 w' → Gd M w' → Dv K w'.F w'.H v d → dd.rt d w'.c → D.rt v w'.H
  bk : ∀ (w' : W) (σ' : L2.St) (ρ' : List En), Fk w w' → SOk M K w0 w' σ' ρ' → dd.bk ρ' w'.c → D.bk σ' w'.H
  ct : ∀ (w' : W) (σ' : L2.St) (ρ' : List En), Fk w w' → SOk M K w0 w' σ' ρ' → dd.ct ρ' w'.c → D.ct σ' w'.H
theorem Cont.mono {M : MI} {K : PySem.W.Frag} {w0 w w1 : W} {dd : Dd} {D : Ends} (h : Cont M K w0 w dd D) (f : Fk w w1) : Cont M K w0 w1 dd D :=
  ⟨fun w' σ' ρ' g => h.nx w' σ' ρ' (f.trans g), h.rt, fun w' σ' ρ' g => h.bk w' σ' ρ' (f.trans g), fun w' σ' ρ' g => h.ct w' σ' ρ' (f.trans g)⟩
def tS (M : MI) (K : PySem.W.Frag) (w0 : W) (ws : WS) : TS := fun D σ H => ∃ (w : W) (ρ : List En) (dd : Dd), w.H = H ∧ SOk M K w0 w σ ρ ∧ ws dd ρ w.c ∧ Cont M K w0 w dd D
theorem SOk.stp {M : MI} {K : PySem.W.Frag} {w0 w w' : W} {σ : L2.St} {ρ : List En} (h : SOk M K w0 w σ ρ) (s : Stp w w') (g : Gd M w') : SOk M K w0 w' σ ρ := ⟨h.ev.stp s h.gd, g, h.st.trans s, fun i a o => h.ow i a (Own.back h.ev.ok s o)⟩
theorem SOk.setIm {M : MI} {K : PySem.W.Frag} {w0 w : W} {σ : L2.St} {ρ : List En} {i : Nat} {v : V} {d : D} (h : SOk M K w0 w σ ρ) (hv : Dv K w.F w.H v d) : SOk M K w0 w (σ.set i (some v)) (ρ.set i (.im d)) :=
  ⟨h.ev.setIm hv, h.gd, h.st, fun j a o => h.ow j a (own_set rfl o)⟩
section
variable {X : Cx} {M : MI} {w0 : W} {e : Expr} {st : Stmt} {rest sts : List Stmt} {ws wr : WS} {we : WE} {wt : WT} {pos : Pos}
def wSeq (ws wr : WS) : WS := fun dd ρ c => ws { dd with nx := fun ρ' c' => wr dd ρ' c' } ρ c
def wNext : WS := fun dd ρ c => dd.nx ρ c
theorem s_nil : PSs X [] (tS M X.K w0 wNext) := PSs.imp pss_nil fun D σ H ⟨w, ρ, dd, eh, so, hw, k⟩ => by subst eh; exact k.nx w σ ρ (Fk.refl w) so hw
theorem s_one (h : PS X st (tS M X.K w0 ws)) : PSs X [st] (tS M X.K w0 ws) := pss_one h
theorem s_cons (h : PS X st (tS M X.K w0 ws)) (h' : PSs X rest (tS M X.K w0 wr)) : PSs X (st :: rest) (tS M X.K w0 (wSeq ws wr)) := by
  refine PSs.imp (pss_cons h h') ?_
  rintro D σ H ⟨w, ρ, dd, eh, so, hw, k⟩
  exact ⟨w, ρ, _, eh, so, hw, fun w' σ' ρ' f so' q => ⟨w', ρ', dd, rfl, so', q, k.mono f⟩, k.rt, k.bk, k.ct⟩
def wRet (we : WE) : WS := fun dd ρ c => we ρ c dd.rt
theorem s_ret (h : PE X e (tE M X.K we)) : PS X (.Return (some e) pos) (tS M X.K w0 (wRet we)) := by
  refine PS.imp (ps_ret h) ?_
  rintro D σ H ⟨w, ρ, dd, eh, so, hw, k⟩
  exact ⟨w, ρ, _, eh, so.ev, so.gd, hw, fun w' v d s g dv q => k.rt w' v d (so.st.trans s) g dv q⟩
def wRetN : WS := fun dd _ c => dd.rt .none c
theorem s_retN : PS X (.Return none pos) (tS M X.K w0 wRetN) := PS.imp ps_retN fun D σ H ⟨w, ρ, dd, eh, so, hw, k⟩ => by subst eh; exact k.rt w .non .none so.st so.gd .non hw
/-- a list, a dict of one's own handed back -/
def wRetO (i : Nat) : WS := fun dd ρ c => ∃ en d, ρ[i]? = some en ∧ en.look = some d ∧ dd.rt d c
theorem s_retO {x : Str} {i : Nat} {p : Pos} (h : PE X (.Name x p) (tVar i)) : PS X (.Return (some (.Name x p)) pos) (tS M X.K w0 (wRetO i)) := by
  refine PS.imp (ps_ret h) ?_
  rintro D σ H ⟨w, ρ, dd, eh, so, ⟨en, d, q, l, hw⟩, k⟩
  subst eh
  have z := so.ev.ok i _ q
  cases en with
  | un => cases l
  | st => cases l
  | dl ds => cases l
  | dt ds => cases l
  | im d' => cases l; obtain ⟨v, h1, h2⟩ := z; exact ⟨v, h1, k.rt w v _ so.st so.gd h2 hw⟩
  | ls ds =>
    cases l
    obtain ⟨a, vs, h1, h2, h3, h4, h5⟩ := z
    have h0 := so.ow i a ⟨a, _, h1, q, rfl, .inl rfl⟩
    exact ⟨_, h1, k.rt (w.frz a) _ _ (stp_frz so.st h0) (gd_frz so.gd (by rw [h2]; simp) h4) (.lst (.inl ⟨.inr rfl, .of h2⟩) (h5.fk fk_frz)) hw⟩
  | dc ds =>
    cases l
    obtain ⟨a, vs, h1, h2, h3, h4, h5⟩ := z
    have h0 := so.ow i a ⟨a, _, h1, q, rfl, .inl rfl⟩
    exact ⟨_, h1, k.rt (w.frz a) _ _ (stp_frz so.st h0) (gd_frz so.gd (by rw [h2]; simp) h4) (.dic (.inr rfl) (.inl h2) (h5.fk fk_frz)) hw⟩
def wDrop (we : WE) : WS := fun dd ρ c => we ρ c fun _ c1 => dd.nx ρ c1
theorem s_expr (h : PE X e (tE M X.K we)) (hs : swapsWith e none pos.line X.env = pure false := by rfl) : PS X (.Expr e pos) (tS M X.K w0 (wDrop we)) := by
  refine PS.imp (ps_expr h hs) ?_
  rintro D σ H ⟨w, ρ, dd, eh, so, hw, k⟩
  exact ⟨w, ρ, _, eh, so.ev, so.gd, hw, fun w' v d s g dv q => k.nx w' σ ρ (s.fk so.gd) (so.stp s g) q⟩
def wSet (i : Nat) (we : WE) : WS := fun dd ρ c => we ρ c fun d c1 => dd.nx (ρ.set i (.im d)) c1
theorem r_set {i : Nat} : ∀ (D : Ends) (σ : L2.St) (H : Hp), tS M X.K w0 (wSet i we) D σ H → tAsg (tE M X.K we) (gName i) D σ H := by
  rintro D σ H ⟨w, ρ, dd, eh, so, hw, k⟩
  exact ⟨w, ρ, _, eh, so.ev, so.gd, hw, fun w' v d s g dv q => k.nx w' _ _ (s.fk so.gd) ((so.stp s g).setIm dv) q⟩
theorem s_set {i : Nat} {x : Str} {pos' : Pos} (hN : X.N.Nodup) (hi : X.N[i]? = some x) (hx : Loc X.env.scope x) (he : PE X e (tE M X.K we)) (hs : swapsWith e (some (.Name x pos')) pos.line X.env = pure false := by rfl) (hf : X.fn x = true ∨ X.env.scope.names.lookup x = some .local := by first | exact .inl rfl | exact .inr rfl | assumption) :
    PS X (.Assign [.Name x pos'] e pos) (tS M X.K w0 (wSet i we)) := PS.imp (ps_set hN hi hx he hs hf) r_set
def wIf (wt : WT) (ws wr : WS) : WS := fun dd ρ c => wt ρ c fun b c1 => if b = true then ws dd ρ c1 else wr dd ρ c1
theorem s_if {c : Expr} {a b : List Stmt} (hc : L2.PT X c (tT M X.K wt)) (ha : PSs X a (tS M X.K w0 ws)) (hb : PSs X b (tS M X.K w0 wr)) : PS X (.If c a b pos) (tS M X.K w0 (wIf wt ws wr)) := by
  refine PS.imp (ps_if hc ha hb) ?_
  rintro D σ H ⟨w, ρ, dd, eh, so, hw, k⟩
  refine ⟨w, ρ, _, eh, so.ev, so.gd, hw, fun w' b s g q => ?_⟩
  cases b with
  | true => exact iteT ⟨w', ρ, dd, rfl, so.stp s g, q, k.mono (s.fk so.gd)⟩
  | false => exact iteF ⟨w', ρ, dd, rfl, so.stp s g, q, k.mono (s.fk so.gd)⟩
def wPass : WS := fun dd ρ c => dd.nx ρ c
def wBrk : WS := fun dd ρ c => dd.bk ρ c
def wCnt : WS := fun dd ρ c => dd.ct ρ c
def wNev : WS := fun _ _ _ => False
theorem s_pass : PS X (.Pass pos) (tS M X.K w0 wPass) := PS.imp ps_pass fun D σ H ⟨w, ρ, dd, eh, so, hw, k⟩ => by subst eh; exact k.nx w σ ρ (Fk.refl w) so hw
theorem s_brk : PS X (.Break pos) (tS M X.K w0 wBrk) := PS.imp ps_break fun D σ H ⟨w, ρ, dd, eh, so, hw, k⟩ => by subst eh; exact k.bk w σ ρ (Fk.refl w) so hw
theorem s_cnt : PS X (.Continue pos) (tS M X.K w0 wCnt) := PS.imp ps_continue fun D σ H ⟨w, ρ, dd, eh, so, hw, k⟩ => by subst eh; exact k.ct w σ ρ (Fk.refl w) so hw
/-- never reached -/
theorem s_nev : PS X st (tS M X.K w0 wNev) := PS.imp ps_never fun D σ H ⟨w, ρ, dd, eh, so, hw, k⟩ => hw
/-! for -/
def forGo (tg : D → List En → (List En → Prop) → Prop) (ws : WS) : List D → Dd → List En → Nat → Prop
  | [], dd, ρ, c => dd.nx ρ c
  | d :: r, dd, ρ, c => tg d ρ fun ρ' => ws { dd with nx := fun ρ2 c2 => forGo tg ws r dd ρ2 c2, ct := fun ρ2 c2 => forGo tg ws r dd ρ2 c2, bk := dd.nx } ρ' c
/-- a target: what it makes of the slots -/
abbrev WGt := D → List En → (List En → Prop) → Prop
def TgOk (M : MI) (K : PySem.W.Frag) (w0 : W) (g : TG) (tg : WGt) : Prop := ∀ (w : W) (σ : L2.St) (ρ : List En) (v : V) (d : D) (Qd : List En → Prop) (Q : L2.St → Hp → Prop), SOk M K w0 w σ ρ → Dv K w.F w.H v d → tg d ρ Qd →
  (∀ σ' ρ', SOk M K w0 w σ' ρ' → Qd ρ' → Q σ' w.H) → g v σ w.H Q
def gN (i : Nat) : WGt := fun d ρ Q => Q (ρ.set i (.im d))
theorem tg_name {K : PySem.W.Frag} {i : Nat} : TgOk M K w0 (gName i) (gN i) := fun w σ ρ v d Qd Q so dv hq k => k _ _ (so.setIm dv) hq
/-- a, b, .. = a tuple -/
def gTs : List Nat → List D → List En → (List En → Prop) → Prop
  | [], [], ρ, Q => Q ρ
  | i :: is, d :: ds, ρ, Q => gTs is ds (ρ.set i (.im d)) Q
  | _, _, _, _ => False
def gT (is : List Nat) : WGt := fun d ρ Q => ∃ ds, d = .tuple ds ∧ gTs is ds ρ Q
def gNames : List Nat → TGs
  | [] => L2.gNil
  | i :: is => gCons (gName i) (gNames is)
theorem gTs_len : ∀ {is : List Nat} {ds : List D} {ρ : List En} {Q : List En → Prop}, gTs is ds ρ Q → ds.length = is.length
  | [], [], _, _, _ => rfl
  | _ :: _, _ :: _, _, _, h => congrArg (· + 1) (gTs_len (by simpa only [gTs] using h))
  | [], _ :: _, _, _, h => by simp only [gTs] at h
  | _ :: _, [], _, _, h => by simp only [gTs] at h
theorem tg_tup {K : PySem.W.Frag} {is : List Nat} : TgOk M K w0 (gTup K is.length (gNames is)) (gT is) := fun w σ ρ v d Qd Q so dv hq k => by
  obtain ⟨ds, rfl, hq⟩ := hq
  cases dv with
  | @tup a vs _ h1 h2 =>
    refine ⟨a, vs, rfl, h1.sq, by rw [h2.length, gTs_len hq], ?_⟩
    clear h1
    induction is generalizing vs ds σ ρ with
    | nil =>
      cases h2 with
      | nil => exact ⟨rfl, k σ ρ so (by simpa only [gTs] using hq)⟩
      | cons _ _ => simp only [gTs] at hq
    | cons i is ih =>
      cases h2 with
      | nil => simp only [gTs] at hq
      | cons hv hr => exact ⟨_, _, rfl, ih _ _ (so.setIm hv) _ (by simpa only [gTs] using hq) hr⟩
def wFor (wi : WI) (tg : WGt) (ws : WS) : WS := fun dd ρ c => wi ρ c fun ds c1 => forGo tg ws ds dd ρ c1
theorem s_for {iter tgt : Expr} {body : List Stmt} {wi : WI} {g : TG} {tg : WGt} (hp : PassesOwn (model X.prog X.w) X.A X.env X.xe) (hc : X.calm = true) (hi : PI X tgt iter (tI M X.K Fk wi)) (hg : PG X tgt g) (ht : TgOk M X.K w0 g tg) (hb : PSs X body (tS M X.K w0 ws))
    (hs : ∀ x, foldedSetIterable iter X.env x = pure x := by intro _; rfl) : PS X (.For tgt iter body [] pos) (tS M X.K w0 (wFor wi tg ws)) := by
  refine PS.imp (ps_for hp hc hi hg hb hs) ?_
  rintro D σ H ⟨w, ρ, dd, eh, so, hw, k⟩
  refine ⟨w, ρ, _, eh, so.ev, so.gd, hw, fun w1 J ds s1 g1 jk q1 => ?_⟩
  refine ⟨fun i m σ' H' => ∃ (w' : W) (ρ' : List En), w'.H = H' ∧ m = ds.length - i ∧ i ≤ ds.length ∧ Fk w1 w' ∧ SOk M X.K w0 w' σ' ρ' ∧ forGo tg ws (ds.drop i) dd ρ' w'.c,
    ⟨ds.length, w1, ρ, rfl, by simp, Nat.zero_le _, Fk.refl w1, so.stp s1 g1, q1⟩, ?_⟩
  rintro i m σ' H' ⟨w', ρ', rfl, rfl, hi, f', so', q⟩
  have fw := (s1.fk so.gd).trans f'
  by_cases hlt : i < ds.length
  · have ed : ds[i]? = some ds[i] := by simp [hlt]
    obtain ⟨jg, jy⟩ := jk.go w' i _ f' so'.gd ed
    refine .inr ⟨jg, fun σ2 H2 => ∃ (w2 : W) (ρ2 : List En), w2.H = H2 ∧ Fk w1 w2 ∧ SOk M X.K w0 w2 σ2 ρ2 ∧ forGo tg ws (ds.drop (i + 1)) dd ρ2 w2.c, ?_, fun x H2 y => ?_⟩
    · rintro σ2 H2 ⟨w2, ρ2, h⟩
      exact ⟨ds.length - (i + 1), by omega, w2, ρ2, h.1, rfl, hlt, h.2⟩
    · obtain ⟨w2, rfl, ec, s2, g2, dx⟩ := jy x H2 y
      have q2 : forGo tg ws (ds[i] :: ds.drop (i + 1)) dd ρ' w2.c := by
        rw [ec, ← List.drop_eq_getElem_cons hlt]; exact q
      have f2 := f'.trans (s2.fk so'.gd)
      refine ht w2 σ' ρ' x _ _ _ (so'.stp s2 g2) dx q2 fun σ3 ρ3 so3 q3 => ?_
      exact ⟨w2, ρ3, _, rfl, so3, q3, fun w4 σ4 ρ4 f4 so4 q4 => ⟨w4, ρ4, rfl, f2.trans f4, so4, q4⟩, k.rt, fun w4 σ4 ρ4 f4 so4 q4 => k.nx w4 σ4 ρ4 ((s1.fk so.gd).trans (f2.trans f4)) so4 q4,
        fun w4 σ4 ρ4 f4 so4 q4 => ⟨w4, ρ4, rfl, f2.trans f4, so4, q4⟩⟩
  · have e : i = ds.length := by omega
    subst e
    rw [List.drop_length] at q
    exact .inl ⟨jk.stop w' _ f' so'.gd (Nat.le_refl _), k.nx w' σ' ρ' fw so' q⟩
/-- a target, assigned -/
def wAsg (we : WE) (tg : WGt) : WS := fun dd ρ c => we ρ c fun d c1 => tg d ρ fun ρ' => dd.nx ρ' c1
theorem s_asg {tgt : Expr} {g : TG} {tg : WGt} (he : PE X e (tE M X.K we)) (hg : PG X tgt g) (ht : TgOk M X.K w0 g tg) (hs : swapsWithSole [tgt] e pos.line X.env = pure false := by rfl) (hw : swappedStores [tgt] e X.env = pure none := by rfl)
    (h1 : (assignEach [tgt] X.env).map (·.2) = [assign tgt X.env] := by rfl) : PS X (.Assign [tgt] e pos) (tS M X.K w0 (wAsg we tg)) := by
  refine PS.imp (ps_asg he hg hs hw h1) ?_
  rintro D σ H ⟨w, ρ, dd, eh, so, hw, k⟩
  exact ⟨w, ρ, _, eh, so.ev, so.gd, hw, fun w' v d s g dv q => ht w' σ ρ v d _ _ (so.stp s g) dv q fun σ' ρ' so' q' => k.nx w' σ' ρ' (s.fk so.gd) so' q'⟩
end

/-! ### a def of one's own by its body's word -/
def startE (N : List Str) (es : List En) : List En := es ++ List.replicate (N.length - es.length) .un
def wDef (N : List Str) (ws : WS) : FW := fun es c Q => ws { nx := fun _ c' => Q .none c', rt := Q } (startE N es) c
theorem args_env {K : PySem.W.Frag} {w : W} : ∀ {vs : List V} {es : List En}, ArgsOk K w vs es → ∀ (i : Nat) (e : En), es[i]? = some e → EnOk K w ((vs.map some)[i]?) e ∧ e.mut = false
  | _, _, .nil, i, e, h => by simp at h
  | _, _, .im d h, 0, e, q => by simp at q; subst q; exact ⟨⟨_, rfl, d⟩, rfl⟩
  | _, _, .st d h, 0, e, q => by simp at q; subst q; exact ⟨⟨_, rfl, d⟩, rfl⟩
  | _, _, .im d h, i + 1, e, q => by simpa using args_env h i e (by simpa using q)
  | _, _, .st d h, i + 1, e, q => by simpa using args_env h i e (by simpa using q)
theorem start_ok {K : PySem.W.Frag} {M : MI} {w : W} {N : List Str} {vs : List V} {es : List En} (g : Gd M w) (a : ArgsOk K w vs es) : SOk M K w w (L2.start N vs) (startE N es) := by
  have hl := a.length
  have no : ∀ i b, ¬ Own w (L2.start N vs) (startE N es) i b := fun i b ⟨p, e, _, o, hm, _⟩ => by
    unfold startE at o
    by_cases hi : i < es.length
    · rw [List.getElem?_append_left hi] at o
      rw [(args_env a i _ o).2] at hm
      cases hm
    · rw [List.getElem?_append_right (by omega), List.getElem?_replicate] at o
      split at o
      · cases o; cases hm
      · cases o
  refine ⟨⟨?_, fun i e q => ?_, fun i j b o => (no i b o).elim⟩, g, Stp.refl w, fun i b o => (no i b o).elim⟩
  · unfold L2.start startE
    rw [List.length_append, List.length_append, List.length_map, List.length_replicate, List.length_replicate, hl]
  · unfold startE at q
    unfold L2.start
    by_cases hi : i < es.length
    · rw [List.getElem?_append_left hi] at q
      rw [List.getElem?_append_left (by rw [List.length_map, hl]; exact hi)]
      exact (args_env a i e q).1
    · rw [List.getElem?_append_right (by omega), List.getElem?_replicate] at q
      split at q
      · cases q; exact True.intro
      · cases q
theorem def_g {P : Program} {w : World} {K : PySem.W.Frag} {mg : Str → Option Value} {base : Heap} {k : Nat} {f : Addr} {fd : FuncData} {x qual : Str} {st : Stmt} {N ps : List Str} {M : MI} {ws : WS} {fw : FW} (F : L2.Fun K x qual st f fd) (S : FnScope N ps (defScope st))
    (hb : ∀ (cdv : Value) (A : Around) (outer : List Env) (s : Shared) (H : Hp) (E : XK) (w0 : W), (A.deeper (PyProof.Rows.envOfC qual (defScope st) s.heap.objs.size f cdv)).guards = some [] → Room k (A.deeper (PyProof.Rows.envOfC qual (defScope st) s.heap.objs.size f cdv)) →
      PSs (cxOf CX0 P w K mg base N qual (defScope st) f cdv A outer s H E).nox (defBody st) (tS M K w0 ws))
    (hf : ∀ es c Q, fw es c Q → es.length = ps.length ∧ wDef N ws es c Q) : FnG P w K mg base CX0 (k + 1) f fd ps (fnSp M K fw) := by
  refine fnG F S (fun vs H Q E h => ?_) fun cdv A outer s H vs Q E gds room h => ?_
  · obtain ⟨w, es, Qd, eh, g, a, hw, k⟩ := h
    rw [a.length]; exact (hf _ _ _ hw).1
  · obtain ⟨w1, es, Qd, eh, g, a, hw, k⟩ := h
    refine ⟨tS M K w1 ws, (hb cdv A outer s H E w1 gds room).nox, w1, startE N es, _, eh, start_ok g a, (hf _ _ _ hw).2, ?_⟩
    exact ⟨fun w' σ' ρ' _ so q => k w' .non .none so.st so.gd .non q, fun w' v d s g dv q => k w' v d s g dv q, fun _ _ _ _ _ q => q, fun _ _ _ _ _ q => q⟩
end HW

namespace HW
open PySem L2
/-! ### objects of one's own -/
section
variable {K : PySem.W.Frag} {M : MI} {w w' w0 : W} {σ : L2.St} {ρ : List En}
theorem EnOk.tracked {p a : Addr} {e : En} (h : EnOk K w (some (some (.ref p))) e) (hm : e.mut = true) (s : Sub w e p a) : w.H a ≠ none ∧ ¬ w.F a ∧ a ∉ w.R := by
  have dl : ∀ {kvs : List (Key × V)} {ds : List (D × List D)}, DlOk K w kvs ds → ∀ k b, (k, V.ref b) ∈ kvs → w.H b ≠ none ∧ ¬ w.F b ∧ b ∉ w.R := by
    intro kvs ds h
    induction h with
    | nil => intro k b m; simp at m
    | @cons k0 b0 us es r s h1 h2 h3 h4 h5 h6 ih =>
      intro k b m
      rcases List.mem_cons.mp m with z | z
      · cases z; exact ⟨by rw [h1]; simp, h2, h3⟩
      · exact ih k b z
  cases e with
  | un => cases hm
  | im d => cases hm
  | st => cases hm
  | ls ds =>
    obtain ⟨q, vs, h1, h2, h3, h4, h5⟩ := h
    cases h1
    rcases s with rfl | ⟨_, _, _, z, _⟩
    · exact ⟨by rw [h2]; simp, h3, h4⟩
    · cases z
  | dc ds =>
    obtain ⟨q, vs, h1, h2, h3, h4, h5⟩ := h
    cases h1
    rcases s with rfl | ⟨_, _, _, z, _⟩
    · exact ⟨by rw [h2]; simp, h3, h4⟩
    · cases z
  | dt ds =>
    obtain ⟨q, vs, h1, h2, h3, h4, h5⟩ := h
    cases h1
    rcases s with rfl | ⟨_, _, _, z, _⟩
    · exact ⟨by rw [h2]; simp, h3, h4⟩
    · cases z
  | dl ds =>
    obtain ⟨q, vs, h1, h2, h3, h4, h5⟩ := h
    cases h1
    rcases s with rfl | ⟨_, kvs, k, z, h6, h7⟩
    · exact ⟨by rw [h2]; simp, h3, h4⟩
    · cases z
      rw [h2] at h6
      cases h6
      exact dl h5 k a h7
theorem EnvOk.tracked {i : Nat} {a : Addr} (h : EnvOk K w σ ρ) (o : Own w σ ρ i a) : w.H a ≠ none ∧ ¬ w.F a ∧ a ∉ w.R := by
  obtain ⟨p, e, h1, h2, h3, h4⟩ := o
  have z := h.ok i e h2
  rw [h1] at z
  exact z.tracked h3 h4
/-- a new object of one's own is stored -/
theorem SOk.setOwn {i : Nat} {p : Addr} {en : En} (h : SOk M K w0 w σ ρ) (hm : en.mut = true) (he : EnOk K w (some (some (.ref p))) en) (h0 : ∀ a, Sub w en p a → w0.H a = none ∧ ∀ j, ¬ Own w σ ρ j a) : SOk M K w0 w (σ.set i (some (.ref p))) (ρ.set i en) := by
  have old : ∀ {j : Nat} {a : Addr}, i ≠ j → Own w (σ.set i (some (.ref p))) (ρ.set i en) j a → Own w σ ρ j a := fun {j a} ij o => by
    obtain ⟨q, e, h1, h2, h3, h4⟩ := o
    rw [List.getElem?_set_ne ij] at h1 h2
    exact ⟨q, e, h1, h2, h3, h4⟩
  have new : ∀ {a : Addr}, Own w (σ.set i (some (.ref p))) (ρ.set i en) i a → Sub w en p a := fun {a} o => by
    obtain ⟨q, e, h1, h2, h3, h4⟩ := o
    rw [List.getElem?_set] at h1 h2
    simp at h1 h2
    obtain ⟨_, rfl⟩ := h1
    obtain ⟨_, rfl⟩ := h2
    exact h4
  refine ⟨⟨by rw [List.length_set, List.length_set]; exact h.ev.len, fun j e q => ?_, fun j k a o1 o2 => ?_⟩, h.gd, h.st, fun j a o => ?_⟩
  · by_cases ij : i = j
    · subst ij
      have hi : i < ρ.length := by
        by_cases hi : i < ρ.length
        · exact hi
        · rw [List.getElem?_eq_none (by simpa using hi)] at q; cases q
      rw [List.getElem?_set_self hi] at q
      cases q
      rw [List.getElem?_set_self (by rw [h.ev.len]; exact hi)]
      exact he
    · rw [List.getElem?_set_ne ij] at q ⊢
      exact h.ev.ok j e q
  · by_cases ij : i = j
    · subst ij
      by_cases ik : i = k
      · exact ik
      · exact absurd (old ik o2) ((h0 a (new o1)).2 k)
    · by_cases ik : i = k
      · subst ik
        exact absurd (old ij o1) ((h0 a (new o2)).2 j)
      · exact h.ev.ap j k a (old ij o1) (old ik o2)
  · by_cases ij : i = j
    · subst ij
      exact (h0 a (new o)).1
    · exact h.ow j a (old ij o)
theorem DlOk.put {a : Addr} {o : HO} (f : ¬ w.F a) : ∀ {kvs : List (Key × V)} {ds : List (D × List D)}, DlOk K w kvs ds → (∀ k, (k, V.ref a) ∉ kvs) → DlOk K (w.own a o) kvs ds
  | _, _, .nil, _ => .nil
  | _, _, .cons (b := b) h1 h2 h3 h4 h5 h6, n => by
    have ne : b ≠ a := fun z => n _ (by rw [z]; exact List.mem_cons_self)
    exact .cons ((upd_ne ne).trans h1) h2 h3 (h4.fk (fk_put f)) h5 (DlOk.put f h6 fun k m => n k (List.mem_cons_of_mem _ m))
/-- another slot, where the object at a changes -/
theorem EnOk.put {s : Option (Option V)} {e : En} {a : Addr} {o : HO} (f : ¬ w.F a) (h : EnOk K w s e) (n : ∀ p, s = some (some (.ref p)) → e.mut = true → ¬ Sub w e p a) : EnOk K (w.own a o) s e := by
  cases e with
  | un => exact True.intro
  | im d => obtain ⟨v, h1, h2⟩ := h; exact ⟨v, h1, h2.fk (fk_put f)⟩
  | st => exact h
  | ls ds =>
    obtain ⟨p, vs, h1, h2, h3, h4, h5⟩ := h
    have ne : p ≠ a := fun z => n p h1 rfl (.inl z.symm)
    exact ⟨p, vs, h1, (upd_ne ne).trans h2, h3, h4, h5.fk (fk_put f)⟩
  | dc ds =>
    obtain ⟨p, vs, h1, h2, h3, h4, h5⟩ := h
    have ne : p ≠ a := fun z => n p h1 rfl (.inl z.symm)
    exact ⟨p, vs, h1, (upd_ne ne).trans h2, h3, h4, h5.fk (fk_put f)⟩
  | dt ds =>
    obtain ⟨p, vs, h1, h2, h3, h4, h5, h6⟩ := h
    have ne : p ≠ a := fun z => n p h1 rfl (.inl z.symm)
    exact ⟨p, vs, h1, (upd_ne ne).trans h2, h3, h4, h5, h6.fk (fk_put f)⟩
  | dl ds =>
    obtain ⟨p, vs, h1, h2, h3, h4, h5⟩ := h
    have ne : p ≠ a := fun z => n p h1 rfl (.inl z.symm)
    exact ⟨p, vs, h1, (upd_ne ne).trans h2, h3, h4, h5.put f fun k m => n p h1 rfl (.inr ⟨ds, vs, k, rfl, h2, m⟩)⟩
/-- the object at a, which hangs on slot i alone, changes; slot i then bears en -/
theorem SOk.put {i : Nat} {a p : Addr} {o : HO} {en en' : En} (h : SOk M K w0 w σ ρ) (hs : σ[i]? = some (some (.ref p))) (hr : ρ[i]? = some en) (hm : en.mut = true) (sa : Sub w en p a) (hm' : en'.mut = true) (he : EnOk K (w.own a o) (some (some (.ref p))) en')
    (sub : ∀ b, Sub (w.own a o) en' p b → Sub w en p b) : SOk M K w0 (w.own a o) σ (ρ.set i en') := by
  have oa : Own w σ ρ i a := ⟨p, en, hs, hr, hm, sa⟩
  obtain ⟨t1, t2, t3⟩ := h.ev.tracked oa
  have hi : i < ρ.length := (List.getElem?_eq_some_iff.mp hr).1
  have back : ∀ {j : Nat} {b : Addr}, Own (w.own a o) σ (ρ.set i en') j b → Own w σ ρ j b := fun {j b} ob => by
    obtain ⟨q, e, h1, h2, h3, h4⟩ := ob
    by_cases ij : i = j
    · subst ij
      rw [List.getElem?_set_self hi] at h2
      cases h2
      rw [hs] at h1
      cases h1
      exact ⟨p, en, hs, hr, hm, sub b h4⟩
    · rw [List.getElem?_set_ne ij] at h2
      refine ⟨q, e, h1, h2, h3, ?_⟩
      rcases h4 with h4 | ⟨ds, kvs, k, rfl, h5, h6⟩
      · exact .inl h4
      · have ne : q ≠ a := fun z => ij (h.ev.ap i j a oa ⟨q, _, h1, h2, h3, .inl z.symm⟩)
        exact .inr ⟨ds, kvs, k, rfl, (upd_ne ne).symm.trans h5, h6⟩
  refine ⟨⟨by rw [List.length_set]; exact h.ev.len, fun j e q => ?_, fun j k b o1 o2 => h.ev.ap j k b (back o1) (back o2)⟩, gd_put h.gd t1 t3, stp_put h.st (h.ow i a oa), fun j b ob => h.ow j b (back ob)⟩
  by_cases ij : i = j
  · subst ij
    rw [List.getElem?_set_self hi] at q
    cases q
    rw [hs]
    exact he
  · rw [List.getElem?_set_ne ij] at q
    exact (h.ev.ok j e q).put t2 fun q' h1 h2 h3 => ij (h.ev.ap i j a oa ⟨q', e, h1, q, h2, h3⟩)
end
abbrev WN := List En → Nat → (En → Nat → Prop) → Prop
def tN (M : MI) (K : PySem.W.Frag) (wn : WN) : TE := fun σ H Q => ∃ (w : W) (ρ : List En) (Qd : En → Nat → Prop), w.H = H ∧ EnvOk K w σ ρ ∧ Gd M w ∧ wn ρ w.c Qd ∧
  ∀ (w' : W) (p : Addr) (en : En), Stp w w' → Gd M w' → en.mut = true → EnOk K w' (some (some (.ref p))) en → (∀ a, Sub w' en p a → w.H a = none) → Qd en w'.c → Q (.ref p) w'.H
section
variable {X : Cx} {M : MI} {w0 : W} {e k o a b : Expr} {es : List Expr} {we wk wd : WE} {wa : WA} {wn : WN} {pos : Pos}
theorem SOk.setNew {K : PySem.W.Frag} {w w' : W} {σ : L2.St} {ρ : List En} {i : Nat} {p : Addr} {en : En} (so : SOk M K w0 w σ ρ) (s : Stp w w') (g : Gd M w') (hm : en.mut = true) (he : EnOk K w' (some (some (.ref p))) en) (fr : ∀ a, Sub w' en p a → w.H a = none) : SOk M K w0 w' (σ.set i (some (.ref p))) (ρ.set i en) :=
  (so.stp s g).setOwn hm he fun a sa => ⟨nn so.st (fr a sa), fun j oj => (so.ev.tracked (Own.back so.ev.ok s oj)).1 (fr a sa)⟩
def wOwn (i : Nat) (wn : WN) : WS := fun dd ρ c => wn ρ c fun en c1 => dd.nx (ρ.set i en) c1
/-- name = a new list, dict of one's own -/
theorem s_own {i : Nat} {x : Str} {pos' : Pos} (hN : X.N.Nodup) (hi : X.N[i]? = some x) (hx : Loc X.env.scope x) (he : PE X e (tN M X.K wn)) (hs : swapsWith e (some (.Name x pos')) pos.line X.env = pure false := by rfl) (hf : X.fn x = true ∨ X.env.scope.names.lookup x = some .local := by first | exact .inl rfl | exact .inr rfl | assumption) :
    PS X (.Assign [.Name x pos'] e pos) (tS M X.K w0 (wOwn i wn)) := by
  refine PS.imp (ps_set hN hi hx he hs hf) ?_
  rintro D σ H ⟨w, ρ, dd, eh, so, hw, k⟩
  exact ⟨w, ρ, _, eh, so.ev, so.gd, hw, fun w' p en s g hm he fr q => k.nx w' _ _ (s.fk so.gd) (so.setNew s g hm he fr) q⟩
/-- a, b = e, a new object: two local names -/
def wParN (i j : Nat) (we : WE) (wn : WN) : WS := fun dd ρ c => we ρ c fun d c1 => wn ρ c1 fun en c2 => dd.nx ((ρ.set i (.im d)).set j en) c2
theorem s_parN {i j : Nat} {x y : Str} {px py pt : Pos} {kt k2 pt2} (hc : X.calm = true) (hN : X.N.Nodup) (hi : X.N[i]? = some x) (hj : X.N[j]? = some y) (hij : i ≠ j) (hx : X.env.scope.names.lookup x = some .local) (hy : X.env.scope.names.lookup y = some .local) (ha : PE X a (tE M X.K we)) (hb : PE X b (tN M X.K wn))
    (hw : swappedStores [.Tuple [.Name x px, .Name y py] kt pt] (.Tuple [a, b] k2 pt2) X.env = pure (some [x, y]) := by rfl) (h1 : starEach [a, b] X.env = (false, eval a X.env) :: starEach [b] X.env := by rfl) (h2 : starEach [b] X.env = (false, eval b X.env) :: starEach [] X.env := by rfl) (hs : swapsWithSole [.Tuple [.Name x px, .Name y py] kt pt] (.Tuple [a, b] k2 pt2) pos.line X.env = pure false := by rfl) :
    PS X (.Assign [.Tuple [.Name x px, .Name y py] kt pt] (.Tuple [a, b] k2 pt2) pos) (tS M X.K w0 (wParN i j we wn)) := by
  refine PS.imp (ps_par hc hN hi hj hij hx hy (pa_cons ha (pa_cons hb pa_nil h2) h1) hw hs) ?_
  rintro D σ H ⟨w, ρ, dd, eh, so, hw, k⟩
  refine ⟨w, ρ, _, eh, so.ev, so.gd, hw, fun w1 v d s1 g1 dv q1 => ?_⟩
  refine ⟨w1, ρ, _, rfl, so.ev.stp s1 so.gd, g1, q1, fun w2 p en s2 g2 hm he fr q2 => ?_⟩
  refine ⟨v, .ref p, rfl, ?_⟩
  have so1 := ((so.stp s1 g1).stp s2 g2).setIm (i := i) (dv.fk (s2.fk g1))
  refine k.nx w2 _ _ ((s1.trans s2).fk so.gd) (so1.setOwn hm he fun a sa => ⟨nn (so.st.trans s1) (fr a sa), fun j' oj => ?_⟩) q2
  have o1 : Own w2 σ ρ j' a := own_set rfl oj
  have so2 := so.stp s1 g1
  exact (so2.ev.tracked (Own.back so2.ev.ok s2 o1)).1 (fr a sa)
/-- a, b = e, f: two local names -/
def wPar (i j : Nat) (we wk : WE) : WS := fun dd ρ c => we ρ c fun d c1 => wk ρ c1 fun d2 c2 => dd.nx ((ρ.set i (.im d)).set j (.im d2)) c2
theorem s_par {i j : Nat} {x y : Str} {px py pt : Pos} {kt k2 pt2} (hc : X.calm = true) (hN : X.N.Nodup) (hi : X.N[i]? = some x) (hj : X.N[j]? = some y) (hij : i ≠ j) (hx : X.env.scope.names.lookup x = some .local) (hy : X.env.scope.names.lookup y = some .local) (ha : PE X a (tE M X.K we)) (hb : PE X b (tE M X.K wk))
    (hw : swappedStores [.Tuple [.Name x px, .Name y py] kt pt] (.Tuple [a, b] k2 pt2) X.env = pure (some [x, y]) := by rfl) (h1 : starEach [a, b] X.env = (false, eval a X.env) :: starEach [b] X.env := by rfl) (h2 : starEach [b] X.env = (false, eval b X.env) :: starEach [] X.env := by rfl) (hs : swapsWithSole [.Tuple [.Name x px, .Name y py] kt pt] (.Tuple [a, b] k2 pt2) pos.line X.env = pure false := by rfl) :
    PS X (.Assign [.Tuple [.Name x px, .Name y py] kt pt] (.Tuple [a, b] k2 pt2) pos) (tS M X.K w0 (wPar i j we wk)) := by
  refine PS.imp (ps_par hc hN hi hj hij hx hy (pa_cons ha (pa_cons hb pa_nil h2) h1) hw hs) ?_
  rintro D σ H ⟨w, ρ, dd, eh, so, hw, k⟩
  refine ⟨w, ρ, _, eh, so.ev, so.gd, hw, fun w1 v d s1 g1 dv q1 => ?_⟩
  refine ⟨w1, ρ, _, rfl, so.ev.stp s1 so.gd, g1, q1, fun w2 v2 d2 s2 g2 dv2 q2 => ?_⟩
  exact ⟨v, v2, rfl, k.nx w2 _ _ ((s1.trans s2).fk so.gd) ((((so.stp s1 g1).stp s2 g2).setIm (i := i) (dv.fk (s2.fk g1))).setIm dv2) q2⟩
/-! what makes one -/
def nLst (wa : WA) : WN := fun ρ c Q => wa ρ c fun ds c1 => ds.length ≤ LIM ∧ Q (.ls ds) c1
theorem new_ls {K : PySem.W.Frag} {w w1 : W} {vs : List V} {ds : List D} {p : Addr} (s : Stp w w1) (g : Gd M w1) (hp : w1.H p = none) (dv : DvA K w1.F w1.H vs ds) : Stp w (w1.own p (.lst vs)) ∧ Gd M (w1.own p (.lst vs)) ∧ EnOk K (w1.own p (.lst vs)) (some (some (.ref p))) (.ls ds) ∧ ∀ a, Sub (w1.own p (.lst vs)) (.ls ds) p a → w.H a = none :=
  have nR : p ∉ w1.R := r_free g hp
  ⟨s.trans (stp_own hp), gd_own g hp, ⟨p, vs, rfl, upd_same, fun f => g.tf p f hp, nR, dv.fk ((stp_own hp).fk g)⟩, fun a sa => by
    rcases sa with rfl | ⟨_, _, _, z, _⟩
    · exact nn s hp
    · cases z⟩
theorem n_lst (ha : PA X es (tAs M X.K wa)) : PE X (.List es pos) (tN M X.K (nLst wa)) := by
  refine PE.imp (pe_lst ha) ?_
  rintro σ H Q ⟨w, ρ, Qd, eh, ev, g, hw, k⟩
  refine ⟨w, ρ, _, eh, ev, g, hw, fun w1 vs ds s1 g1 dvs q1 => ⟨lim_size (by rw [dvs.length]; exact q1.1), fun p hp => ?_⟩⟩
  obtain ⟨h1, h2, h3, h4⟩ := new_ls s1 g1 hp dvs
  exact k _ p _ h1 h2 rfl h3 h4 q1.2
end
end HW

namespace HW
open PySem L2
section
variable {X : Cx} {M : MI} {w0 : W} {e k o a b c : Expr} {es : List Expr} {we wk wd wa wb : WE} {wn : WN} {p pos apos : Pos}
/-! list(s), list(xs) -/
theorem sign_vals {x : Str} {acc : Array Value} (h : ItemsOf (SignAt x) acc x.cps.size) : Vals (x.cps.toList.map fun c => V.str ⟨#[c]⟩) acc.toList := by
  obtain ⟨h1, h2⟩ := h
  have go : ∀ (l : List Nat) (vs : List Value), l.length = vs.length → (∀ (j : Nat) (v : Value), vs[j]? = some v → ∃ (c : Nat) (u : Tok), l[j]? = some c ∧ v = Value.str ⟨#[c]⟩ u) → Vals (l.map fun c => V.str ⟨#[c]⟩) vs := by
    intro l
    induction l with
    | nil =>
      intro vs hl _
      cases vs with
      | nil => exact .nil
      | cons _ _ => simp at hl
    | cons c l ih =>
      intro vs hl hv
      cases vs with
      | nil => simp at hl
      | cons v vs =>
        obtain ⟨c', u, e1, e2⟩ := hv 0 v rfl
        cases e1
        exact .cons ⟨u, e2⟩ (ih vs (by simpa using hl) fun j v hj => by simpa using hv (j + 1) v (by simpa using hj))
  refine go _ _ (by rw [Array.length_toList, Array.length_toList, h1]) fun j v hj => ?_
  obtain ⟨c', u, e1, e2⟩ := h2 j v (by simpa using hj)
  exact ⟨c', u, by simpa using e1, e2⟩
theorem call_listS (hc : X.calm = true) : CallR X (.type "list") (fun xs H Q => ∃ x : Str, xs = [.str x] ∧ x.length ≤ sizeLine ∧ ∀ l, H l = none → Q (.ref l) (upd H l (.lst (x.cps.toList.map fun c => V.str ⟨#[c]⟩)))) := by
  intro pins s σ H xs us Q I r h
  obtain ⟨x, rfl, hz, q⟩ := h
  cases r with
  | cons r1 r2 =>
    cases r2
    obtain ⟨t, rfl⟩ := r1
    refine call_list_str (I.ok.hd hc) x t (fun h' tk acc n kp ho it => ?_) hz
    have hn := I.hok.fresh (Nat.le_refl s.heap.objs.size)
    refine ⟨.ref s.heap.objs.size, _, I.laid (a := s.heap.objs.size) (t' := tk) kp (Nat.le_refl _) ?_, rfl, q _ hn⟩
    have v := sign_vals it
    exact ⟨by rw [List.length_map, Array.length_toList]; exact hz, acc.toList, n, v, by simpa using ho⟩
theorem DvA.signs {K : PySem.W.Frag} {P : Addr → Prop} {H : Hp} (x : Str) : DvA K P H (x.cps.toList.map fun c => V.str ⟨#[c]⟩) (signs x) := by
  unfold HW.signs
  induction x.cps.toList with
  | nil => exact .nil
  | cons c l ih => exact .cons (.str _) ih
def itD : D → Option (List D)
  | .list xs => some xs
  | .tuple xs => some xs
  | .str x => if x.length ≤ LIM then some (signs x) else none
  | .dict kvs => some (kvs.map (·.1))
  | _ => none
def rListA (K : PySem.W.Frag) : List V → Hp → VK → Prop := fun xs H Q => (∃ p ys, xs = [.ref p] ∧ (SqL K H p ys ∨ SqT K H p ys) ∧ ∀ l, H l = none → Q (.ref l) (upd H l (.lst ys))) ∨
  ((∃ x : Str, xs = [.str x] ∧ x.length ≤ sizeLine ∧ ∀ l, H l = none → Q (.ref l) (upd H l (.lst (x.cps.toList.map fun c => V.str ⟨#[c]⟩)))) ∨
    ∃ (a : Addr) (kvs : List (Key × V)), xs = [.ref a] ∧ Rd H a (.dK kvs) ∧ ∀ p, H p = none → Q (.ref p) (upd H p (.lst (kvs.map fun kv => kV kv.1))))
theorem DvK.keys {K : PySem.W.Frag} {P : Addr → Prop} {H : Hp} : ∀ {kvs : List (Key × V)} {ds : List (D × D)}, DvK K P H kvs ds → DvA K P H (kvs.map fun kv => kV kv.1) (ds.map (·.1))
  | _, _, .nil => .nil
  | _, _, .cons (k := k) _ h => .cons (by cases k <;> constructor) h.keys
theorem r_listA {K : PySem.W.Frag} {w1 : W} {v : V} {d : D} {ds : List D} {Q : VK} (bv : DvB K w1 v d) (e : itD d = some ds) (q : ∀ us p, DvA K w1.F w1.H us ds → w1.H p = none → Q (.ref p) (upd w1.H p (.lst us))) : rListA K [v] w1.H Q := by
  cases d with
  | list xs => cases e; obtain ⟨a, vs, rfl, h1, h2⟩ := bv.seqL; exact .inl ⟨a, vs, rfl, .inl h1, fun p hp => q vs p h2 hp⟩
  | tuple xs => cases e; obtain ⟨a, vs, rfl, h1, h2⟩ := bv.seqT; exact .inl ⟨a, vs, rfl, .inr h1, fun p hp => q vs p h2 hp⟩
  | str x =>
    cases bv.str
    simp only [itD] at e
    split at e
    · cases e; exact .inr (.inl ⟨x, rfl, lim_size (by assumption), fun p hp => q _ p (DvA.signs x) hp⟩)
    · cases e
  | dict kvs => cases e; obtain ⟨a, vs, rfl, h1, h2⟩ := bv.dict; exact .inr (.inr ⟨a, vs, rfl, h1, fun p hp => q _ p h2.keys hp⟩)
  | _ => simp [itD] at e
theorem list_rd (hc : X.calm = true) : CallR X (.type "list") (fun xs H Q => ∃ p kvs, xs = [.ref p] ∧ Rd H p (.dK kvs) ∧ ∀ q, H q = none → Q (.ref q) (upd H q (.lst (kvs.map fun kv => kV kv.1)))) := by
  intro pins s σ H xs us Q I r h
  obtain ⟨p, kvs, rfl, hk, q⟩ := h
  obtain ⟨u, rfl, rx⟩ := vals1 r
  obtain rfl : u = Value.ref p := rx
  have ob : ObjOk X.prog X.w H s.heap p (.dK kvs) := rd_of I.hok hk
  obtain ⟨z, lo, vs, rk, hd⟩ := ob
  obtain ⟨ep, hat⟩ := hd.dictAt
  have ln : kvs.length = vs.length := Paired.length rk
  refine PySem.W.kdl_call (PySem.W.kdl_dict (knd := mixKind X.prog X.w) (kvs := vs) (ep := ep) lo) (I.ok.hd hc) hat (by rw [← ln]; exact z) fun h' tk as n keep new its => ?_
  have keys : (kvs.map fun kv => kV kv.1) = (kvs.map (·.1)).map kV := by rw [List.map_map]; rfl
  have ok : ObjOk X.prog X.w (upd H s.heap.objs.size (.lst (kvs.map fun kv => kV kv.1))) h' s.heap.objs.size (.lst (kvs.map fun kv => kV kv.1)) := by
    refine ⟨by rw [List.length_map]; exact z, as.toList, n, ?_, ?_⟩
    · refine vals_of_at (by rw [List.length_map, ln, ← its.1]; exact (Array.length_toList).symm) fun j x v g1 g2 => ?_
      obtain ⟨k, y, hky, hi⟩ := its.2 j v (by rw [← Array.getElem?_toList]; exact g2)
      have e1 : (kvs.map (·.1))[j]? = some k := by rw [KV.keys rk, List.getElem?_map, hky]; rfl
      rw [keys, List.getElem?_map, e1] at g1
      cases g1
      exact keyIs_rel hi
    · rw [Array.toArray_toList]; exact new
  exact ⟨.ref s.heap.objs.size, _, I.laid keep (Nat.le_refl _) ok, rfl, q _ (I.hok.fresh (Nat.le_refl _))⟩
theorem o_listA (hc : X.calm = true) : CallR X (.type "list") (rListA X.K) := callR_or call_list_of (callR_or (call_listS hc) (list_rd hc))
def wList (we : WE) : WE := fun ρ c Q => we ρ c fun d c1 => ∃ ds, itD d = some ds ∧ Q (.list ds) c1
def nList (we : WE) : WN := fun ρ c Q => we ρ c fun d c1 => ∃ ds, itD d = some ds ∧ Q (.ls ds) c1
theorem bt_list : bootBuiltins "list" = some (.type "list") := by decide +kernel
theorem e_list (hc : X.calm = true) (hg : Gl X "list") (hm : X.mg "list" = none) (he : PE X e (tB M X.K we)) (hs : starEach [e] X.env = (false, eval e X.env) :: starEach [] X.env := by rfl) : PE X (.Call (.Name "list" p) [e] [] pos) (tE M X.K (wList we)) := by
  refine PE.imp (pe_callTy (o_listA hc) hg hm bt_list (pa_cons he pa_nil hs) (by decide) (by decide) hs (by rfl)) ?_
  rintro σ H Q ⟨w, ρ, Qd, eh, ev, g, hw, k⟩
  refine ⟨w, ρ, _, eh, ev, g, hw, fun w1 v d s1 g1 bv q1 => ?_⟩
  obtain ⟨ds, e1, q1⟩ := q1
  exact r_listA bv e1 fun us p h hp => k (w1.new p (.lst us)) _ _ (s1.trans (stp_new hp)) (gd_new g1 hp) (new_lst g1 hp h) q1
theorem n_list (hc : X.calm = true) (hg : Gl X "list") (hm : X.mg "list" = none) (he : PE X e (tB M X.K we)) (hs : starEach [e] X.env = (false, eval e X.env) :: starEach [] X.env := by rfl) : PE X (.Call (.Name "list" p) [e] [] pos) (tN M X.K (nList we)) := by
  refine PE.imp (pe_callTy (o_listA hc) hg hm bt_list (pa_cons he pa_nil hs) (by decide) (by decide) hs (by rfl)) ?_
  rintro σ H Q ⟨w, ρ, Qd, eh, ev, g, hw, k⟩
  refine ⟨w, ρ, _, eh, ev, g, hw, fun w1 v d s1 g1 bv q1 => ?_⟩
  obtain ⟨ds, e1, q1⟩ := q1
  refine r_listA bv e1 fun us p h hp => ?_
  obtain ⟨h1, h2, h3, h4⟩ := new_ls s1 g1 hp h
  exact k _ p _ h1 h2 rfl h3 h4 q1
/-! {} -/
def nDc : WN := fun _ c Q => Q (.dc []) c
def nDl : WN := fun _ c Q => Q (.dl []) c
theorem n_dict {en : En} (hm : en = .dc [] ∨ en = .dl []) : PE X (.Dict [] [] pos) (tN M X.K (fun _ c Q => Q en c)) := by
  refine PE.imp pe_dnewK ?_
  rintro σ H Q ⟨w, ρ, Qd, eh, ev, g, hw, k⟩
  subst eh
  intro p hp
  have nR : p ∉ w.R := r_free g hp
  have nF : ¬ w.F p := fun f => g.tf p f hp
  refine k (w.own p (.dK [])) p en (stp_own hp) (gd_own g hp) (by rcases hm with rfl | rfl <;> rfl) ?_ (fun a sa => ?_) hw
  · rcases hm with rfl | rfl
    · exact ⟨p, [], rfl, upd_same, nF, nR, .nil⟩
    · exact ⟨p, [], rfl, upd_same, nF, nR, .nil⟩
  · rcases sa with rfl | ⟨ds, kvs, k', _, h5, h6⟩
    · exact hp
    · rw [show (w.own p (HO.dK [])).H p = some (.dK []) from upd_same] at h5
      cases h5
      cases h6
/-! xs.append(e), xs[i] = e -/
def wApp (i : Nat) (we : WE) : WS := fun dd ρ c => we ρ c fun d c1 => ∃ ds, ρ[i]? = some (.ls ds) ∧ ds.length < LIM ∧ dd.nx (ρ.set i (.ls (ds ++ [d]))) c1
theorem tyL {K : PySem.W.Frag} {H : Hp} {a : Addr} {vs : List V} (h : H a = some (.lst vs)) : tyV K "list" (.ref a) H := .inl ⟨rfl, vs, .of h⟩
theorem ls_same {w : W} {a b : Addr} {o : HO} {ds : List D} (s : Sub (w.own a o) (.ls ds) a b) {e : En} : Sub w e a b := by
  rcases s with rfl | ⟨_, _, _, z, _⟩
  · exact .inl rfl
  · cases z
theorem s_app {x : Str} {i : Nat} {nm p1 p2 : Pos} (hx : PE X (.Name x p1) (tVar i)) (he : PE X e (tE M X.K we)) (hbase : attributeBase (.Name x p1) "append" X.env (eval (.Name x p1) X.env) = eval (.Name x p1) X.env := by rfl)
    (hfew : ((backTo p2 (starEach [e] X.env)).all (fun x => !x.1) && (backToKw p2 (keywordEach [] X.env)).all (fun x => x.1.isSome) && decide (([e] : List Expr).length + ([] : List Keyword).length + (if ([] : List Keyword).isEmpty then 0 else 1) < 30)) = true := by rfl)
    (hline : (nm.endLine == p2.line) = true := by rfl) (hs : starEach [e] X.env = (false, eval e X.env) :: starEach [] X.env := by rfl) (hsw : swapsWith (.Call (.Attribute (.Name x p1) "append" nm) [e] [] p2) none pos.line X.env = pure false := by rfl) :
    PS X (.Expr (.Call (.Attribute (.Name x p1) "append" nm) [e] [] p2) pos) (tS M X.K w0 (fun dd ρ c => (∃ ds, ρ[i]? = some (.ls ds)) ∧ wApp i we dd ρ c)) := by
  refine PS.imp (ps_expr (pe_bm PySem.F.plainAttrs_list PySem.F.slot_list_append PySem.F.type_list_append mt_append hx (pa_cons he pa_nil hs) hbase hfew hline hs (by rfl)) hsw) ?_
  rintro D σ H ⟨w, ρ, dd, eh, so, ⟨⟨ds0, r0⟩, hw⟩, k⟩
  obtain ⟨p0, vs0, e1, e2, _⟩ := so.ev.ok i _ r0
  subst eh
  refine ⟨_, e1, tyL e2, w, ρ, _, rfl, so.ev, so.gd, hw, fun w1 v d s1 g1 dv q1 => ?_⟩
  obtain ⟨ds, r1, hl, q1⟩ := q1
  have so1 := so.stp s1 g1
  obtain ⟨p, vs, e3, e4, e5, e6, e7⟩ := so1.ev.ok i _ r1
  rw [e1] at e3
  cases e3
  refine ⟨p0, vs, v, rfl, rfl, e4, (by rw [sizeLine_eq, e7.length]; exact hl), ?_⟩
  exact k.nx (w1.own p0 (.lst (vs ++ [v]))) σ _ ((s1.fk so.gd).trans (fk_put e5)) (so1.put (en' := .ls _) e1 r1 rfl (.inl rfl) rfl ⟨p0, vs ++ [v], rfl, upd_same, e5, e6, (e7.app (.cons dv .nil)).fk (fk_put e5)⟩ fun b sb => ls_same sb) q1
def wSetIx (i : Nat) (we wk : WE) : WS := fun dd ρ c => we ρ c fun d c1 => (∃ ds, ρ[i]? = some (.ls ds)) ∧ wk ρ c1 fun y c2 => ∃ ds z j, ρ[i]? = some (.ls ds) ∧ y = .int z ∧ ixN ds.length z = some j ∧ dd.nx (ρ.set i (.ls (ds.set j d))) c2
theorem s_setix {x : Str} {i : Nat} {p1 p2 : Pos} (hx : PE X (.Name x p1) (tVar i)) (hk : PE X k (tB M X.K wk)) (he : PE X e (tE M X.K we)) (ha : ∀ v, assign (.Subscript (.Name x p1) k p2) X.env v = (do
      let ov ← holding [v] (eval (.Name x p1) X.env)
      let iv ← holding [v, ov] (eval k X.env)
      standAt p2
      holding [v, ov, iv] (setItem ov iv v)
      release [v, ov, iv] []) := by intro _; rfl) (hs : swapsWithSole [.Subscript (.Name x p1) k p2] e pos.line X.env = pure false := by rfl) (hw : swappedStores [.Subscript (.Name x p1) k p2] e X.env = pure none := by rfl)
    (h1 : (assignEach [.Subscript (.Name x p1) k p2] X.env).map (·.2) = [assign (.Subscript (.Name x p1) k p2) X.env] := by rfl) : PS X (.Assign [.Subscript (.Name x p1) k p2] e pos) (tS M X.K w0 (wSetIx i we wk)) := by
  refine PS.imp (ps_asg he (pg_sub hx hk set_list ha) hs hw h1) ?_
  rintro D σ H ⟨w, ρ, dd, eh, so, hw, k⟩
  refine ⟨w, ρ, _, eh, so.ev, so.gd, hw, fun w1 v d s1 g1 dv q1 => ?_⟩
  obtain ⟨⟨ds0, r0⟩, q1⟩ := q1
  have so1 := so.stp s1 g1
  obtain ⟨p0, vs0, e1, e2, _⟩ := so1.ev.ok i _ r0
  refine ⟨_, e1, w1, ρ, _, rfl, so1.ev, g1, q1, fun w2 y dy s2 g2 by' q2 => ?_⟩
  obtain ⟨ds, z, j, r1, rfl, ej, q2⟩ := q2
  cases by'.int
  have so2 := so1.stp s2 g2
  obtain ⟨p, vs, e3, e4, e5, e6, e7⟩ := so2.ev.ok i _ r1
  rw [e1] at e3
  cases e3
  refine ⟨p0, vs, z, j, rfl, rfl, e4, by rw [e7.length]; exact ej, ?_⟩
  exact k.nx (w2.own p0 (.lst (vs.set j v))) σ _ (((s1.trans s2).fk so.gd).trans (fk_put e5)) (so2.put (en' := .ls _) e1 r1 rfl (.inl rfl) rfl ⟨p0, _, rfl, upd_same, e5, e6, ((e7.set (dv.fk (s2.fk g1)) j)).fk (fk_put e5)⟩ fun b sb => ls_same sb) q2
/-! dicts with keys that are ints and texts -/
def keyOf : D → Option Key
  | .int i => some (.inl i)
  | .str x => some (.inr x)
  | _ => none
theorem keyOf_kD (k : Key) : keyOf (kD k) = some k := by cases k <;> rfl
theorem kV_of {K : PySem.W.Frag} {w : W} {v : V} {d : D} {k : Key} (h : DvB K w v d) (e : keyOf d = some k) : v = kV k := by
  cases d <;> simp only [keyOf, reduceCtorEq] at e
  · cases e; exact h.int
  · cases e; exact h.str
def lookK {α : Type} : List (D × α) → Key → Option α
  | [], _ => none
  | (d, x) :: r, k => if keyOf d = some k then some x else lookK r k
def putD {α : Type} : List (D × α) → Key → α → List (D × α)
  | [], k, v => [(kD k, v)]
  | (d, x) :: r, k, v => if keyOf d = some k then (d, v) :: r else (d, x) :: putD r k v
theorem DvK.look {K : PySem.W.Frag} {P : Addr → Prop} {H : Hp} {k : Key} : ∀ {kvs : List (Key × V)} {ds : List (D × D)}, DvK K P H kvs ds → (lookK ds k = none ∧ valV kvs k = none) ∨ ∃ v d, lookK ds k = some d ∧ valV kvs k = some v ∧ Dv K P H v d
  | _, _, .nil => .inl ⟨rfl, rfl⟩
  | _, _, .cons (k := k0) (v := v) (d := d) h1 h2 => by
    by_cases e : k0 = k
    · subst e
      exact .inr ⟨v, d, (if_pos (keyOf_kD k0)), valV_pos (p := (k0, v)) rfl, h1⟩
    · have ne : ¬ keyOf (kD k0) = some k := fun z => e (by rw [keyOf_kD] at z; exact Option.some.inj z)
      rw [valV_neg (p := (k0, v)) e]
      rcases h2.look (k := k) with ⟨z1, z2⟩ | ⟨v', d', z1, z2, z3⟩
      · exact .inl ⟨(if_neg ne).trans z1, z2⟩
      · exact .inr ⟨v', d', (if_neg ne).trans z1, z2, z3⟩
theorem dget_rd {H : Hp} {a : Addr} {kvs : List (Key × V)} {k : Key} (e : Rd H a (.dK kvs)) : DGet H a (kV k) (valV kvs k) := .inl ⟨kvs, k, e, rfl, rfl⟩
def wGet2 (wd wk wx : WE) : WE := fun ρ c Q => wd ρ c fun d c1 => (∃ kvs, d = .dict kvs) ∧ wk ρ c1 fun y c2 => wx ρ c2 fun z c3 => ∃ kvs k, d = .dict kvs ∧ keyOf y = some k ∧ Q ((lookK kvs k).getD z) c3
theorem e_get2 {f : Expr} {wx : WE} {cpos : Pos} (hu : X.A.units + 1 < cLine) (ho : PE X o (tB M X.K wd)) (he : PE X e (tB M X.K wk)) (hf : PE X f (tE M X.K wx)) (m : M2 X o "get" apos e f cpos) : PE X (.Call (.Attribute o "get" apos) [e, f] [] cpos) (tE M X.K (wGet2 wd wk wx)) := by
  refine PE.imp (pe_dget2 hu ho he hf m) ?_
  rintro σ H Q ⟨w, ρ, Qd, eh, ev, g, hw, kk⟩
  refine ⟨w, ρ, _, eh, ev, g, hw, fun w1 v d s1 g1 bv q1 => ?_⟩
  obtain ⟨⟨kvs, rfl⟩, q1⟩ := q1
  obtain ⟨a, ks, rfl, h1, h2⟩ := bv.dict
  refine ⟨a, rfl, .inl ⟨ks, h1⟩, w1, ρ, _, rfl, ev.stp s1 g, g1, q1, fun w2 y dy s2 g2 by' q2 => ?_⟩
  refine ⟨w2, ρ, _, rfl, (ev.stp s1 g).stp s2 g1, g2, q2, fun w3 z dz s3 g3 dvz q3 => ?_⟩
  obtain ⟨kvs', key, e1, e2, q3⟩ := q3
  cases e1
  obtain ⟨a', ks', ea, h3, h4⟩ := ((bv.stp s2 g1).stp s3 g2).dict
  cases ea
  refine ⟨valV ks' key, ?_, ?_⟩
  · rw [kV_of (by'.stp s3 g2) e2]
    exact dget_rd h3
  · rcases h4.look (k := key) with ⟨z1, z2⟩ | ⟨v', d', z1, z2, z3⟩
    · rw [z2]; rw [z1] at q3
      exact kk w3 z dz ((s1.trans s2).trans s3) g3 dvz q3
    · rw [z2]; rw [z1] at q3
      exact kk w3 v' d' ((s1.trans s2).trans s3) g3 z3 q3
/-- k in d -/
def wInK (neg : Bool) (wk wd : WE) : WE := fun ρ c Q => wk ρ c fun y c1 => wd ρ c1 fun d c2 => ∃ kvs k, d = .dict kvs ∧ keyOf y = some k ∧ Q (.bool (if neg then !(lookK kvs k).isSome else (lookK kvs k).isSome)) c2
theorem look_some {K : PySem.W.Frag} {P : Addr → Prop} {H : Hp} {k : Key} {kvs : List (Key × V)} {ds : List (D × D)} (h : DvK K P H kvs ds) : (valV kvs k).isSome = (lookK ds k).isSome := by
  rcases h.look (k := k) with ⟨z1, z2⟩ | ⟨v', d', z1, z2, z3⟩ <;> rw [z1, z2] <;> rfl
theorem e_inK (hu : X.A.units + 1 < cLine) (hk : PE X k (tB M X.K wk)) (hd : PE X o (tB M X.K wd)) (h1 : behindInMarks .In o = false := by rfl) : PE X (.Compare k [.In] [o] pos) (tE M X.K (wInK false wk wd)) := by
  refine PE.imp (pe_cmp (pc_din hu hk hd) h1) ?_
  rintro σ H Q ⟨w, ρ, Qd, eh, ev, g, hw, kk⟩
  refine ⟨w, ρ, _, eh, ev, g, hw, fun w1 y dy s1 g1 by' q1 => ?_⟩
  refine ⟨w1, ρ, _, rfl, ev.stp s1 g, g1, q1, fun w2 v d s2 g2 bv q2 => ?_⟩
  obtain ⟨kvs, key, rfl, e2, q2⟩ := q2
  obtain ⟨a, ks, rfl, h3, h4⟩ := bv.dict
  refine ⟨a, valV ks key, rfl, by rw [kV_of (by'.stp s2 g1) e2]; exact dget_rd h3, ?_⟩
  rw [look_some h4]
  exact kk w2 _ _ (s1.trans s2) g2 (.bl _) q2
theorem e_ninK (hu : X.A.units + 1 < cLine) (hk : PE X k (tB M X.K wk)) (hd : PE X o (tB M X.K wd)) (h1 : behindInMarks .NotIn o = false := by rfl) : PE X (.Compare k [.NotIn] [o] pos) (tE M X.K (wInK true wk wd)) := by
  refine PE.imp (pe_cmp (pc_dnotin hu hk hd) h1) ?_
  rintro σ H Q ⟨w, ρ, Qd, eh, ev, g, hw, kk⟩
  refine ⟨w, ρ, _, eh, ev, g, hw, fun w1 y dy s1 g1 by' q1 => ?_⟩
  refine ⟨w1, ρ, _, rfl, ev.stp s1 g, g1, q1, fun w2 v d s2 g2 bv q2 => ?_⟩
  obtain ⟨kvs, key, rfl, e2, q2⟩ := q2
  obtain ⟨a, ks, rfl, h3, h4⟩ := bv.dict
  refine ⟨a, valV ks key, rfl, by rw [kV_of (by'.stp s2 g1) e2]; exact dget_rd h3, ?_⟩
  rw [look_some h4]
  exact kk w2 _ _ (s1.trans s2) g2 (.bl _) q2
theorem t_inK (hu : X.A.units + 1 < cLine) (hk : PE X k (tB M X.K wk)) (hd : PE X o (tB M X.K wd)) (h1 : behindInMarks .In o = false := by rfl) : L2.PT X (.Compare k [.In] [o] pos) (tT M X.K (wTst (wInK false wk wd))) := by
  refine PT.imp (pt_cmp (pc_din hu hk hd) h1) ?_
  rintro σ H Q ⟨w, ρ, Qd, eh, ev, g, hw, kk⟩
  refine ⟨w, ρ, _, eh, ev, g, hw, fun w1 y dy s1 g1 by' q1 => ?_⟩
  refine ⟨w1, ρ, _, rfl, ev.stp s1 g, g1, q1, fun w2 v d s2 g2 bv q2 => ?_⟩
  obtain ⟨kvs, key, rfl, e2, b, eb, q2⟩ := q2
  obtain ⟨a, ks, rfl, h3, h4⟩ := bv.dict
  cases eb
  refine ⟨a, valV ks key, rfl, (by rw [kV_of (by'.stp s2 g1) e2]; exact dget_rd h3), _, rfl, ?_⟩
  rw [look_some h4]
  exact kk w2 _ (s1.trans s2) g2 q2
theorem t_ninK (hu : X.A.units + 1 < cLine) (hk : PE X k (tB M X.K wk)) (hd : PE X o (tB M X.K wd)) (h1 : behindInMarks .NotIn o = false := by rfl) : L2.PT X (.Compare k [.NotIn] [o] pos) (tT M X.K (wTst (wInK true wk wd))) := by
  refine PT.imp (pt_cmp (pc_dnotin hu hk hd) h1) ?_
  rintro σ H Q ⟨w, ρ, Qd, eh, ev, g, hw, kk⟩
  refine ⟨w, ρ, _, eh, ev, g, hw, fun w1 y dy s1 g1 by' q1 => ?_⟩
  refine ⟨w1, ρ, _, rfl, ev.stp s1 g, g1, q1, fun w2 v d s2 g2 bv q2 => ?_⟩
  obtain ⟨kvs, key, rfl, e2, b, eb, q2⟩ := q2
  obtain ⟨a, ks, rfl, h3, h4⟩ := bv.dict
  cases eb
  refine ⟨a, valV ks key, rfl, (by rw [kV_of (by'.stp s2 g1) e2]; exact dget_rd h3), _, rfl, ?_⟩
  rw [look_some h4]
  exact kk w2 _ (s1.trans s2) g2 q2
end
end HW

namespace HW
open PySem L2
section
variable {X : Cx} {M : MI} {w0 : W} {e k o a b c : Expr} {es : List Expr} {we wk wd wa wb wv : WE} {wn : WN} {p pos apos : Pos}
/-! -a -/
def negD : D → Option D
  | .int i => some (.int (-i))
  | _ => none
theorem e_neg (h : PE X e (tB M X.K we)) : PE X (.UnaryOp .USub e pos) (tE M X.K (wF negD we)) := by
  refine PE.imp (pe_un un_neg h) ?_
  rintro σ H Q ⟨w, ρ, Qd, eh, ev, g, hw, k⟩
  refine ⟨w, ρ, _, eh, ev, g, hw, fun w1 v d s1 g1 bv q1 => ?_⟩
  obtain ⟨z, ez, qz⟩ := q1
  cases d <;> simp only [negD, reduceCtorEq] at ez
  cases ez; cases bv.int
  exact ⟨_, rfl, k w1 _ _ s1 g1 (.int _) qz⟩
/-! tuples joined -/
def catTD : D → D → Option D
  | .tuple a, .tuple b => if a.length + b.length ≤ LIM then some (.tuple (a ++ b)) else none
  | _, _ => none
theorem emp_of {K : PySem.W.Frag} {P : Addr → Prop} {H : Hp} {ds : List D} (h : DvA K P H [] ds) : ds = [] := by cases h; rfl
theorem DvB.tup1 {K : PySem.W.Frag} {w : W} {v : V} {ds : List D} (h : DvB K w v (.tuple ds)) : Dv K w.F w.H v (.tuple ds) := by
  cases h with
  | of h => exact h
theorem d_catT {K : PySem.W.Frag} : OpD M K (rCatA K) catTD := fun w x y dx dy z Q g hx hy e k => by
  cases dx <;> cases dy <;> simp only [catTD, reduceCtorEq] at e
  split at e
  · cases e
    have hx1 := hx.tup1
    have hy1 := hy.tup1
    obtain ⟨a, vs, rfl, h1, h2⟩ := hx.seqT
    obtain ⟨b, us, rfl, h3, h4⟩ := hy.seqT
    refine ⟨a, b, vs, us, rfl, rfl, h1, h3, lim_size (by rw [h2.length, h4.length]; assumption), fun ev => ?_, fun _ eu => ?_, fun _ _ p hp => newQ g hp (new_tup g hp (h2.app h4)) k⟩
    · subst ev
      have := emp_of h2
      subst this
      exact keepQ g hy1 k
    · subst eu
      have := emp_of h4
      subst this
      refine keepQ g ?_ k
      rw [List.append_nil]
      exact hx1
  · cases e
/-! d[k] = v, d of one's own -/
def putD' (ds : List (D × D)) (k : Key) (v : D) : List (D × D) := if (ds.any fun p => decide (keyOf p.1 = some k)) = true then ds.map (fun p => if keyOf p.1 = some k then (p.1, v) else p) else ds ++ [(kD k, v)]
theorem DvK.any {K : PySem.W.Frag} {P : Addr → Prop} {H : Hp} {k : Key} : ∀ {kvs : List (Key × V)} {ds : List (D × D)}, DvK K P H kvs ds → (kvs.any fun kv => decide (kv.1 = k)) = ds.any fun p => decide (keyOf p.1 = some k)
  | _, _, .nil => rfl
  | _, _, .cons (k := k0) _ h => by
    rw [List.any_cons, List.any_cons, h.any]
    congr 1
    show decide (k0 = k) = decide (keyOf (kD k0) = some k)
    rw [keyOf_kD]
    simp
theorem DvK.map {K : PySem.W.Frag} {P : Addr → Prop} {H : Hp} {k : Key} {v : V} {d : D} (hv : Dv K P H v d) : ∀ {kvs : List (Key × V)} {ds : List (D × D)}, DvK K P H kvs ds → DvK K P H (kvs.map fun kv => if kv.1 = k then (kv.1, v) else kv) (ds.map fun p => if keyOf p.1 = some k then (p.1, d) else p)
  | _, _, .nil => .nil
  | _, _, .cons (k := k0) h1 h => by
    rw [List.map_cons, List.map_cons]
    by_cases e : k0 = k
    · subst e
      rw [if_pos rfl, if_pos (keyOf_kD _)]
      exact .cons hv (h.map hv)
    · have ne : ¬ keyOf (kD k0) = some k := fun z => e (by rw [keyOf_kD] at z; exact Option.some.inj z)
      rw [if_neg e, if_neg ne]
      exact .cons h1 (h.map hv)
theorem DvK.app {K : PySem.W.Frag} {P : Addr → Prop} {H : Hp} {k : Key} {v : V} {d : D} (hv : Dv K P H v d) : ∀ {kvs : List (Key × V)} {ds : List (D × D)}, DvK K P H kvs ds → DvK K P H (kvs ++ [(k, v)]) (ds ++ [(kD k, d)])
  | _, _, .nil => .cons hv .nil
  | _, _, .cons h1 h => .cons h1 (h.app hv)
theorem DvK.put {K : PySem.W.Frag} {P : Addr → Prop} {H : Hp} {k : Key} {v : V} {d : D} (hv : Dv K P H v d) {kvs : List (Key × V)} {ds : List (D × D)} (h : DvK K P H kvs ds) : DvK K P H (putK kvs k v) (putD' ds k d) := by
  unfold putK putD'
  rw [h.any]
  split
  · exact h.map hv
  · exact h.app hv
theorem dc_same {w : W} {a b : Addr} {o : HO} {ds : List (D × D)} (s : Sub (w.own a o) (.dc ds) a b) {e : En} : Sub w e a b := by
  rcases s with rfl | ⟨_, _, _, z, _⟩
  · exact .inl rfl
  · cases z
def wDput (i : Nat) (we wk : WE) : WS := fun dd ρ c => we ρ c fun d c1 => (∃ kvs, ρ[i]? = some (.dc kvs)) ∧ wk ρ c1 fun y c2 => ∃ kvs k, ρ[i]? = some (.dc kvs) ∧ keyOf y = some k ∧ kvs.length < LIM ∧ dd.nx (ρ.set i (.dc (putD' kvs k d))) c2
theorem s_dput {x : Str} {i : Nat} {p1 p2 : Pos} (hu : X.A.units + 1 < cLine) (hx : PE X (.Name x p1) (tVar i)) (hk : PE X k (tB M X.K wk)) (he : PE X e (tE M X.K we)) (hs : swapsWith e (some (.Subscript (.Name x p1) k p2)) pos.line X.env = pure false := by rfl) :
    PS X (.Assign [.Subscript (.Name x p1) k p2] e pos) (tS M X.K w0 (wDput i we wk)) := by
  refine PS.imp (ps_dput hu hx hk he hs) ?_
  rintro D σ H ⟨w, ρ, dd, eh, so, hw, k⟩
  refine ⟨w, ρ, _, eh, so.ev, so.gd, hw, fun w1 v d s1 g1 dv q1 => ?_⟩
  obtain ⟨⟨kvs0, r0⟩, q1⟩ := q1
  have so1 := so.stp s1 g1
  obtain ⟨p0, ks0, e1, e2, _⟩ := so1.ev.ok i _ r0
  refine ⟨_, e1, w1, ρ, _, rfl, so1.ev, g1, q1, fun w2 y dy s2 g2 by' q2 => ?_⟩
  obtain ⟨kvs, key, r1, ek, hl, q2⟩ := q2
  have so2 := so1.stp s2 g2
  obtain ⟨p, ks, e3, e4, e5, e6, e7⟩ := so2.ev.ok i _ r1
  rw [e1] at e3
  cases e3
  refine ⟨p0, _, rfl, (by rw [kV_of by' ek]; exact .k e4 (by rw [sizeLine_eq, e7.length]; exact hl)), ?_⟩
  exact k.nx (w2.own p0 (.dK (putK ks key v))) σ _ (((s1.trans s2).fk so.gd).trans (fk_put e5)) (so2.put (en' := .dc _) e1 r1 rfl (.inl rfl) rfl ⟨p0, _, rfl, upd_same, e5, e6, (e7.put (dv.fk (s2.fk g1))).fk (fk_put e5)⟩ fun b sb => dc_same sb) q2
/-! xs.setdefault(k, []).append(v), xs a dict of one's own lists -/
def insL (ds : List (D × List D)) (k : Key) : List (D × List D) := if (lookK ds k).isSome = true then ds else ds ++ [(kD k, [])]
def appL : List (D × List D) → Key → D → List (D × List D)
  | [], _, _ => []
  | (x, l) :: r, k, d => if keyOf x = some k then (x, l ++ [d]) :: r else (x, l) :: appL r k d
theorem DlOk.look {K : PySem.W.Frag} {w : W} {k : Key} : ∀ {kvs : List (Key × V)} {ds : List (D × List D)}, DlOk K w kvs ds → (lookK ds k = none ∧ valV kvs k = none) ∨ ∃ b us l, lookK ds k = some l ∧ valV kvs k = some (.ref b) ∧ (k, V.ref b) ∈ kvs ∧ w.H b = some (.lst us) ∧ DvA K w.F w.H us l
  | _, _, .nil => .inl ⟨rfl, rfl⟩
  | _, _, .cons (k := k0) (b := b0) (us := us) (es := es) h1 h2 h3 h4 h5 h6 => by
    by_cases e : k0 = k
    · subst e
      exact .inr ⟨b0, us, es, (if_pos (keyOf_kD k0)), valV_pos (p := (k0, V.ref b0)) rfl, List.mem_cons_self, h1, h4⟩
    · have ne : ¬ keyOf (kD k0) = some k := fun z => e (by rw [keyOf_kD] at z; exact Option.some.inj z)
      rw [valV_neg (p := (k0, V.ref b0)) e]
      rcases h6.look (k := k) with ⟨z1, z2⟩ | ⟨b, us, l, z1, z2, z3, z4⟩
      · exact .inl ⟨(if_neg ne).trans z1, z2⟩
      · exact .inr ⟨b, us, l, (if_neg ne).trans z1, z2, List.mem_cons_of_mem _ z3, z4⟩
theorem DlOk.snoc {K : PySem.W.Frag} {w : W} {k : Key} {b : Addr} {us : List V} {l : List D} (h1 : w.H b = some (.lst us)) (h2 : ¬ w.F b) (h3 : b ∉ w.R) (h4 : DvA K w.F w.H us l) : ∀ {kvs : List (Key × V)} {ds : List (D × List D)}, DlOk K w kvs ds → (∀ k', (k', V.ref b) ∉ kvs) → DlOk K w (kvs ++ [(k, .ref b)]) (ds ++ [(kD k, l)])
  | _, _, .nil, _ => .cons h1 h2 h3 h4 (by simp) .nil
  | _, _, .cons (b := b0) g1 g2 g3 g4 g5 g6, n => .cons g1 g2 g3 g4 (fun k' m => by
      rcases List.mem_append.mp m with m | m
      · exact g5 k' m
      · have z := List.mem_singleton.mp m
        cases z
        exact n _ List.mem_cons_self) (DlOk.snoc h1 h2 h3 h4 g6 fun k' m => n k' (List.mem_cons_of_mem _ m))
theorem DlOk.app {K : PySem.W.Frag} {w : W} {k : Key} {b : Addr} {us : List V} {v : V} {d : D} (f : ¬ w.F b) (hb : w.H b = some (.lst us)) (hv : Dv K w.F w.H v d) : ∀ {kvs : List (Key × V)} {ds : List (D × List D)}, DlOk K w kvs ds → valV kvs k = some (.ref b) → DlOk K (w.own b (.lst (us ++ [v]))) kvs (appL ds k d)
  | _, _, .nil, e => by cases e
  | _, _, .cons (k := k0) (b := b0) (us := us0) (r := r0) h1 h2 h3 h4 h5 h6, e => by
    by_cases ek : k0 = k
    · subst ek
      rw [valV_pos (p := (k0, V.ref b0)) rfl] at e
      cases e
      rw [h1] at hb
      cases hb
      show DlOk K _ _ (if keyOf (kD k0) = some k0 then _ else _)
      rw [if_pos (keyOf_kD k0)]
      exact .cons upd_same h2 h3 ((h4.app (.cons hv .nil)).fk (fk_put f)) h5 (h6.put f h5)
    · have ne : ¬ keyOf (kD k0) = some k := fun z => ek (by rw [keyOf_kD] at z; exact Option.some.inj z)
      rw [valV_neg (p := (k0, V.ref b0)) ek] at e
      have mem : ∃ k' : Key, (k', V.ref b) ∈ r0 := by
        rcases h6.look (k := k) with ⟨z1, z2⟩ | ⟨b', us', l, z1, z2, z3, z4⟩
        · rw [z2] at e; cases e
        · rw [z2] at e; cases e; exact ⟨_, z3⟩
      obtain ⟨k', mem⟩ := mem
      have nb : b0 ≠ b := fun z => h5 k' (z ▸ mem)
      show DlOk K _ _ (if keyOf (kD k0) = some k then _ else _)
      rw [if_neg ne]
      exact .cons ((upd_ne nb).trans h1) h2 h3 (h4.fk (fk_put f)) h5 (DlOk.app f hb hv h6 e)
theorem DlOk.lsts {K : PySem.W.Frag} {w : W} {k : Key} {a : Addr} : ∀ {kvs : List (Key × V)} {ds : List (D × List D)}, DlOk K w kvs ds → (k, V.ref a) ∈ kvs → ∃ us, w.H a = some (.lst us)
  | _, _, .nil, m => by cases m
  | _, _, .cons h1 _ _ _ _ h6, m => by
    rcases List.mem_cons.mp m with z | z
    · cases z; exact ⟨_, h1⟩
    · exact h6.lsts z
/-- .. where a new object comes to hang on the slot -/
theorem SOk.put2 {K : PySem.W.Frag} {w0 w : W} {σ : L2.St} {ρ : List En} {i : Nat} {p : Addr} {o : HO} {en en' : En} (h : SOk M K w0 w σ ρ) (hs : σ[i]? = some (some (.ref p))) (hr : ρ[i]? = some en) (hm : en.mut = true) (hm' : en'.mut = true) (he : EnOk K (w.own p o) (some (some (.ref p))) en')
    (sub : ∀ b, Sub (w.own p o) en' p b → Sub w en p b ∨ (w0.H b = none ∧ ∀ j, ¬ Own w σ ρ j b)) : SOk M K w0 (w.own p o) σ (ρ.set i en') := by
  have oa : Own w σ ρ i p := ⟨p, en, hs, hr, hm, .inl rfl⟩
  obtain ⟨t1, t2, t3⟩ := h.ev.tracked oa
  have hi : i < ρ.length := (List.getElem?_eq_some_iff.mp hr).1
  have back : ∀ {j : Nat} {b : Addr}, Own (w.own p o) σ (ρ.set i en') j b → Own w σ ρ j b ∨ (j = i ∧ w0.H b = none ∧ ∀ j, ¬ Own w σ ρ j b) := fun {j b} ob => by
    obtain ⟨q, e, h1, h2, h3, h4⟩ := ob
    by_cases ij : i = j
    · subst ij
      rw [List.getElem?_set_self hi] at h2
      cases h2
      rw [hs] at h1
      cases h1
      rcases sub b h4 with z | z
      · exact .inl ⟨p, en, hs, hr, hm, z⟩
      · exact .inr ⟨rfl, z⟩
    · rw [List.getElem?_set_ne ij] at h2
      refine .inl ⟨q, e, h1, h2, h3, ?_⟩
      rcases h4 with h4 | ⟨ds, kvs, k, rfl, h5, h6⟩
      · exact .inl h4
      · have ne : q ≠ p := fun z => ij (h.ev.ap i j p oa ⟨q, _, h1, h2, h3, .inl z.symm⟩)
        exact .inr ⟨ds, kvs, k, rfl, (upd_ne ne).symm.trans h5, h6⟩
  refine ⟨⟨by rw [List.length_set]; exact h.ev.len, fun j e q => ?_, fun j k b o1 o2 => ?_⟩, gd_put h.gd t1 t3, stp_put h.st (h.ow i p oa), fun j b ob => ?_⟩
  · by_cases ij : i = j
    · subst ij
      rw [List.getElem?_set_self hi] at q
      cases q
      rw [hs]
      exact he
    · rw [List.getElem?_set_ne ij] at q
      exact (h.ev.ok j e q).put t2 fun q' h1 h2 h3 => ij (h.ev.ap i j p oa ⟨q', e, h1, q, h2, h3⟩)
  · rcases back o1 with z1 | ⟨z1, _, z3⟩
    · rcases back o2 with y1 | ⟨y1, _, y3⟩
      · exact h.ev.ap j k b z1 y1
      · exact absurd z1 (y3 j)
    · rcases back o2 with y1 | ⟨y1, _, y3⟩
      · exact absurd y1 (z3 k)
      · rw [z1, y1]
  · rcases back ob with z | ⟨_, z, _⟩
    · exact h.ow j b z
    · exact z
theorem DlOk.len {K : PySem.W.Frag} {w : W} : ∀ {kvs : List (Key × V)} {ds : List (D × List D)}, DlOk K w kvs ds → kvs.length = ds.length
  | _, _, .nil => rfl
  | _, _, .cons _ _ _ _ _ h => congrArg (· + 1) h.len
def wSdApp (i : Nat) (wk wv : WE) : WS := fun dd ρ c => (∃ ds, ρ[i]? = some (.dl ds)) ∧ wk ρ c fun y c1 => ∃ ds k, ρ[i]? = some (.dl ds) ∧ keyOf y = some k ∧ ds.length < LIM ∧
  wv (ρ.set i (.dl (insL ds k))) c1 fun d c2 => (∀ l, lookK (insL ds k) k = some l → l.length < LIM) ∧ dd.nx (ρ.set i (.dl (appL (insL ds k) k d))) c2
theorem s_sdapp {x : Str} {i : Nat} {v : Expr} {p1 p3 nm ap cp p2 : Pos} (hx : PE X (.Name x p1) (tVar i)) (hk : PE X k (tB M X.K wk)) (hv : PE X v (tE M X.K wv)) (m : M2 X (.Name x p1) "setdefault" ap k (.List [] p3) cp)
    (hbase : attributeBase (.Call (.Attribute (.Name x p1) "setdefault" ap) [k, .List [] p3] [] cp) "append" X.env (eval (.Call (.Attribute (.Name x p1) "setdefault" ap) [k, .List [] p3] [] cp) X.env) = eval (.Call (.Attribute (.Name x p1) "setdefault" ap) [k, .List [] p3] [] cp) X.env := by rfl)
    (hfew : ((backTo p2 (starEach [v] X.env)).all (fun x => !x.1) && (backToKw p2 (keywordEach [] X.env)).all (fun x => x.1.isSome) && decide (([v] : List Expr).length + ([] : List Keyword).length + (if ([] : List Keyword).isEmpty then 0 else 1) < 30)) = true := by rfl)
    (hline : (nm.endLine == p2.line) = true := by rfl) (hs : starEach [v] X.env = (false, eval v X.env) :: starEach [] X.env := by rfl) (hsw : swapsWith (.Call (.Attribute (.Call (.Attribute (.Name x p1) "setdefault" ap) [k, .List [] p3] [] cp) "append" nm) [v] [] p2) none pos.line X.env = pure false := by rfl) :
    PS X (.Expr (.Call (.Attribute (.Call (.Attribute (.Name x p1) "setdefault" ap) [k, .List [] p3] [] cp) "append" nm) [v] [] p2) pos) (tS M X.K w0 (wSdApp i wk wv)) := by
  refine PS.imp (ps_expr (pe_bm PySem.F.plainAttrs_list PySem.F.slot_list_append PySem.F.type_list_append mt_append (pe_dsetd hx hk (pe_lst pa_nil) m) (pa_cons hv pa_nil hs) hbase hfew hline hs (by rfl)) hsw) ?_
  rintro D σ H ⟨w, ρ, dd, eh, so, ⟨⟨ds0, r0⟩, hw⟩, kk⟩
  obtain ⟨p0, ks0, e1, e2, _⟩ := so.ev.ok i _ r0
  subst eh
  refine ⟨_, e1, p0, rfl, .inl ⟨ks0, .inl e2⟩, w, ρ, _, rfl, so.ev, so.gd, hw, fun w1 y dy s1 g1 by' q1 => ?_⟩
  obtain ⟨ds, key, r1, ek, hl, q1⟩ := q1
  have so1 := so.stp s1 g1
  obtain ⟨p, ks, e3, e4, e5, e6, e7⟩ := so1.ev.ok i _ r1
  rw [e1] at e3
  cases e3
  have ne0 : w1.H p0 ≠ none := by rw [e4]; simp
  refine ⟨(by show 0 ≤ sizeLine; exact Nat.zero_le _), fun b hb => ?_⟩
  have nb : p0 ≠ b := fun z => ne0 (z ▸ hb)
  have h0b : (w1.own b (.lst [])).H p0 = some (.dK ks) := (upd_ne nb).trans e4
  have sw : Stp w1 (w1.own b (.lst [])) := stp_own hb
  have gw : Gd M (w1.own b (.lst [])) := gd_own g1 hb
  have so2 := so1.stp sw gw
  have nbR : b ∉ w1.R := r_free g1 hb
  have nbF : ¬ w1.F b := fun f => g1.tf b f hb
  -- behind the key's place is made sure, the value is looked at, then appended
  have tail : ∀ (w2 : W) (ks2 : List (Key × V)) (b2 : Addr) (us2 : List V), Fk w1 w2 → SOk M X.K w0 w2 σ (ρ.set i (.dl (insL ds key))) → w2.c = w1.c → w2.H p0 = some (.dK ks2) → valV ks2 key = some (.ref b2) → w2.H b2 = some (.lst us2) → (key, V.ref b2) ∈ ks2 →
      tyV X.K "list" (.ref b2) w2.H ∧ (tE M X.K wv σ w2.H fun y H1 => rAppend (.ref b2) [y] H1 fun _ H2 => D.nx σ H2) := by
    intro w2 ks2 b2 us2 fk2 so3 ec h2 hval hb2 hmem
    have hi : i < ρ.length := (List.getElem?_eq_some_iff.mp r1).1
    have rs : (ρ.set i (.dl (insL ds key)))[i]? = some (.dl (insL ds key)) := List.getElem?_set_self hi
    refine ⟨tyL hb2, w2, _, _, rfl, so3.ev, so3.gd, by rw [ec]; exact q1, fun w3 v3 d3 s3 g3 dv3 q3 => ?_⟩
    obtain ⟨hlen, q3⟩ := q3
    have so4 := so3.stp s3 g3
    obtain ⟨p4, ks4, f1, f2, f3, f4, f5⟩ := so4.ev.ok i _ rs
    rw [e1] at f1
    cases f1
    have hR2 : p0 ∉ w2.R := by
      obtain ⟨_, _, y1, _, _, y4, _⟩ := so3.ev.ok i _ rs
      rw [e1] at y1; cases y1
      exact y4
    have eks : ks4 = ks2 := by
      have := s3.k _ _ h2 hR2
      rw [f2] at this
      cases this
      rfl
    subst eks
    rcases f5.look (k := key) with ⟨z1, z2⟩ | ⟨b4, us4, l4, z1, z2, z3, z4, z5⟩
    · rw [z2] at hval; cases hval
    · rw [z2] at hval
      cases hval
      have own4 : Sub w3 (.dl (insL ds key)) p0 b2 := .inr ⟨_, _, _, rfl, f2, z3⟩
      obtain ⟨t1, t2, t3⟩ := so4.ev.tracked ⟨p0, _, e1, rs, rfl, own4⟩
      refine ⟨b2, us4, v3, rfl, rfl, z4, (by rw [sizeLine_eq, z5.length]; exact hlen l4 z1), ?_⟩
      have np : p0 ≠ b2 := fun z => by rw [z, z4] at f2; cases f2
      have fin := so4.put (i := i) (a := b2) (o := .lst (us4 ++ [v3])) (en' := .dl (appL (insL ds key) key d3)) e1 rs rfl own4 rfl ⟨p0, ks4, rfl, (upd_ne np).trans f2, f3, f4, f5.app t2 z4 dv3 z2⟩ (fun b5 sb => by
        rcases sb with rfl | ⟨ds', kvs', k', z6, z7, z8⟩
        · exact .inl rfl
        · rw [show (w3.own b2 (HO.lst (us4 ++ [v3]))).H p0 = some (.dK ks4) from (upd_ne np).trans f2] at z7
          cases z7
          exact .inr ⟨_, _, k', rfl, f2, z8⟩)
      rw [List.set_set] at fin
      exact kk.nx _ σ _ ((s1.fk so.gd).trans (fk2.trans ((s3.fk so3.gd).trans (fk_put t2)))) fin q3
  refine ⟨ks, key, h0b, kV_of by' ek, by rw [sizeLine_eq, e7.len]; exact hl, fun v' hv' => ?_, fun hno => ?_⟩
  · -- the key is there
    rcases e7.look (k := key) with ⟨z1, z2⟩ | ⟨b4, us4, l4, z1, z2, z3, z4, z5⟩
    · rw [z2] at hv'; cases hv'
    · rw [z2] at hv'
      cases hv'
      have ei : insL ds key = ds := by unfold insL; rw [z1]; rfl
      have es : ρ.set i (.dl (insL ds key)) = ρ := by
        rw [ei]
        apply List.ext_getElem?
        intro j
        by_cases ij : i = j
        · subst ij; rw [List.getElem?_set_self (List.getElem?_eq_some_iff.mp r1).1, r1]
        · rw [List.getElem?_set_ne ij]
      have nb4 : b4 ≠ b := fun z => by rw [z, hb] at z4; cases z4
      exact tail (w1.own b (.lst [])) ks b4 us4 (sw.fk g1) (by rw [es]; exact so2) rfl h0b z2 ((upd_ne nb4).trans z4) z3
  · -- it is not: the new list comes in
    have hlk : lookK ds key = none := by
      rcases e7.look (k := key) with ⟨z1, z2⟩ | ⟨b4, us4, l4, z1, z2, z3, z4, z5⟩
      · exact z1
      · rw [z2] at hno; cases hno
    have ei : insL ds key = ds ++ [(kD key, [])] := by unfold insL; rw [hlk]; rfl
    have nmem : ∀ k', (k', V.ref b) ∉ ks := fun k' m => by
      obtain ⟨us, z⟩ := e7.lsts m
      rw [hb] at z
      cases z
    have pmem : ∀ k', (k', V.ref p0) ∉ ks := fun k' m => by
      obtain ⟨us, z⟩ := e7.lsts m
      rw [e4] at z
      cases z
    have nO : ∀ j, ¬ Own (w1.own b (.lst [])) σ ρ j b := fun j oj => (so1.ev.tracked (Own.back so1.ev.ok sw oj)).1 hb
    have put : putK ks key (V.ref b) = ks ++ [(key, .ref b)] := putK_new _ hno
    have hd2 : ((w1.own b (.lst [])).own p0 (.dK (putK ks key (.ref b)))).H b = some (.lst []) := (upd_ne (Ne.symm nb)).trans upd_same
    have e8 := (e7.stp sw g1).put (a := p0) (o := .dK (putK ks key (.ref b))) (show ¬ (w1.own b (.lst [])).F p0 from e5) pmem
    have e9 : EnOk X.K ((w1.own b (.lst [])).own p0 (.dK (putK ks key (.ref b)))) (some (some (.ref p0))) (.dl (insL ds key)) := by
      refine ⟨p0, _, rfl, upd_same, e5, e6, ?_⟩
      rw [put, ei]
      rw [put] at e8 hd2
      exact e8.snoc hd2 nbF nbR .nil nmem
    have so3 := so2.put2 (i := i) (p := p0) (o := .dK (putK ks key (.ref b))) (en' := .dl (insL ds key)) e1 r1 rfl rfl e9 fun b5 sb => by
      rcases sb with rfl | ⟨ds', kvs', k', z6, z7, z8⟩
      · exact .inl (.inl rfl)
      · rw [show ((w1.own b (.lst [])).own p0 (.dK (putK ks key (.ref b)))).H p0 = some (.dK (putK ks key (.ref b))) from upd_same] at z7
        cases z7
        rw [put] at z8
        rcases List.mem_append.mp z8 with m | m
        · exact .inl (.inr ⟨_, ks, k', rfl, h0b, m⟩)
        · have z := List.mem_singleton.mp m
          cases z
          exact .inr ⟨nn so1.st hb, nO⟩
    refine tail _ (putK ks key (.ref b)) b [] ((sw.fk g1).trans (fk_put e5)) so3 rfl upd_same ?_ hd2 ?_
    · rw [valV_put, if_pos rfl]
    · rw [put]
      exact List.mem_append_right _ (List.mem_singleton.mpr rfl)
/-- a dict of one's own lists handed back -/
def wRetDl (i : Nat) : WS := fun dd ρ c => ∃ ds, ρ[i]? = some (.dl ds) ∧ dd.rt (.dict (ds.map fun p => (p.1, .list p.2))) c
theorem s_retDl {x : Str} {i : Nat} {p : Pos} (h : PE X (.Name x p) (tVar i)) : PS X (.Return (some (.Name x p)) pos) (tS M X.K w0 (wRetDl i)) := by
  refine PS.imp (ps_ret h) ?_
  rintro D σ H ⟨w, ρ, dd, eh, so, ⟨ds, q, hw⟩, k⟩
  subst eh
  obtain ⟨a, kvs, h1, h2, h3, h4, h5⟩ := so.ev.ok i _ q
  have tr : ∀ b, Sub w (.dl ds) a b → (w.H b ≠ none ∧ ¬ w.F b ∧ b ∉ w.R) ∧ w0.H b = none := fun b sb => ⟨so.ev.tracked ⟨a, _, h1, q, rfl, sb⟩, so.ow i b ⟨a, _, h1, q, rfl, sb⟩⟩
  refine ⟨_, h1, k.rt { w with F := fun b => w.F b ∨ Sub w (.dl ds) a b } _ _ ?_ ?_ (.dic (.inr (.inl rfl)) (.inl h2) (h5.dvk so.gd.tf { w with F := fun b => w.F b ∨ Sub w (.dl ds) a b } rfl (fun _ f => .inl f) fun k' b m => .inr (.inr ⟨ds, kvs, k', rfl, h2, m⟩))) hw⟩
  · exact ⟨fun b f => .inl (so.st.f1 b f), fun b f => f.elim (so.st.f2 b) fun sb => .inr (tr b sb).2, so.st.k, so.st.t, so.st.r, so.st.m⟩
  · exact ⟨so.gd.mi, so.gd.r0, so.gd.nz, fun b hb => ⟨(so.gd.tr b hb).1, fun f => f.elim (so.gd.tr b hb).2 fun sb => (tr b sb).1.2.2 hb⟩, fun b f => f.elim (so.gd.tf b) fun sb => (tr b sb).1.1⟩
/-! repr of a list, of a tuple -/
def isRef : D → Bool
  | .list _ => true
  | .tuple _ => true
  | _ => false
def reprD (d : D) : Option D := if isRef d = true ∧ flt d = true ∧ d.showable = true ∧ d.hasDict = false ∧ d.depth ≤ 60 ∧ d.shown.length ≤ LIM then some (.str d.shown) else none
theorem e_repr {j : Nat} (hr : Room j X.A) (gds : X.A.guards = some []) (hg : Gl X "repr") (hm : X.mg "repr" = none) (he : PE X e (tB M X.K we)) (hs : starEach [e] X.env = (false, eval e X.env) :: starEach [] X.env := by rfl) : PE X (.Call (.Name "repr" p) [e] [] pos) (tE M X.K (wF reprD we)) := by
  have call : CallR X (.builtin "repr") (fun xs H Q => ∃ v d, xs = [v] ∧ isRef d = true ∧ Dp X.K H v d ∧ d.showable = true ∧ d.hasDict = false ∧ d.depth ≤ 60 ∧ d.shown.length ≤ sizeLine ∧ Q (.str d.shown) H) := by
    intro pins s σ H xs us Q I r h
    obtain ⟨v, d, rfl, hd, dp, h1, h2, h3, h4, q⟩ := h
    cases r with
    | cons r1 r2 =>
      rename_i u us
      cases r2
      obtain ⟨as, rd⟩ := Dp.reads I d v u dp r1
      have hu := hr.units
      have key : ∀ a, u = Value.ref a → wpAny (model X.prog X.w) X.A (call (.builtin "repr") [u]) (EP X pins σ Q) X.xe s := fun a ea => by
        subst ea
        exact PySem.repr_of_reads' rd h1 (PyData.noDict_hsm h2) gds (by omega) (fun _ _ z => z) (fun h' t tk kp => ⟨.str d.shown, H, I.kept (t' := tk) kp, ⟨t, rfl⟩, q⟩) h4
      cases rd with
      | list _ _ _ _ => exact key _ rfl
      | tuple _ _ _ _ => exact key _ rfl
      | _ => cases hd
  refine PE.imp (pe_callB call hg hm PyProof.Rows.boot_repr (pa_cons he pa_nil hs) (by decide) (by decide) hs (by rfl)) ?_
  rintro σ H Q ⟨w, ρ, Qd, eh, ev, g, hw, k⟩
  refine ⟨w, ρ, _, eh, ev, g, hw, fun w1 v d s1 g1 bv q1 => ?_⟩
  obtain ⟨z, ez, qz⟩ := q1
  unfold reprD at ez
  split at ez
  · rename_i h
    cases ez
    exact ⟨v, d, rfl, h.1, bv.dp h.2.1, h.2.2.1, h.2.2.2.1, h.2.2.2.2.1, lim_size h.2.2.2.2.2, k w1 _ _ s1 g1 (.str _) qz⟩
  · cases ez
end
end HW

/-! lists joined; enumerate over a tuple -/
namespace HW
open PySem L2 PySem.Spec PyProof.Rows
section
variable {prog : Program} {w : World} {A : Around} {E : Value → Shared → Prop} {s : Shared}
theorem list_addG (l b : Addr) (xs ys : Array Value) (n m : Nat) (sl sl2 : Array (Option Value)) (hc0 : xs.size + ys.size ≤ sizeLine) :
    Meets (Builtin.«list.__add__» ⟨[.ref l, .ref b], []⟩) (fun _ R s => s.heap.get? l = some { cls := .type "list", dict := none, data := .seq xs n, slots := sl } ∧ s.heap.get? b = some { cls := .type "list", dict := none, data := .seq ys m, slots := sl2 } ∧
      R (.ok (.ret (Value.ref s.heap.objs.size))) { s with heap := s.heap.push { cls := Value.type "list", data := Data.seq (xs ++ ys) } }) :=
  .of_wp fun prog w A R s h => by
    obtain ⟨hp, g, d, k0, os⟩ := s
    obtain ⟨hl, hb, h⟩ := h
    have g1 := AutoSeq1.idx_int
    have g3 := AutoSeq1.sub_list_list
    wp_walk using AutoSeq1.wpAny_loadPart' hl, AutoSeq1.wpAny_loadPart' hb
    exact ⟨_, rfl, h⟩
theorem add_plain {Q : Value → Shared → Prop} {l b : Addr} {xs ys : Array Value} (hl : PlainL s.heap l xs) (hb : PlainL s.heap b ys) (hz : xs.size + ys.size ≤ sizeLine)
    (h : Q (.ref s.heap.objs.size) { s with heap := s.heap.push { cls := .type "list", data := .seq (xs ++ ys) } }) : wpAny (model prog w) A (binaryOp .Add (.ref l) (.ref b)) Q E s := by
  obtain ⟨⟨c1, d1, t1, sl⟩, n, ho, hc, hd, ht⟩ := hl
  obtain ⟨⟨c2, d2, t2, sl2⟩, m, ho2, hc2, hd2, ht2⟩ := hb
  simp only at hc hd ht hc2 hd2 ht2
  subst hc hd ht hc2 hd2 ht2
  exact concat_meets ⟨_, ho, rfl⟩ ⟨_, ho2, rfl⟩ noFill_list_add seq_list_add F.slot_list_add F.entry_list_add (F.args_list_add_2 _ _) (list_addG l b xs ys n m sl sl2 hz) ⟨ho, ho2, h⟩
end
section
variable {X : Cx}
theorem o_cat : OpR X (binaryOp .Add) (fun x y H Q => ∃ l b xs zs, x = .ref l ∧ y = .ref b ∧ SqL X.K H l xs ∧ SqL X.K H b zs ∧ xs.length + zs.length ≤ sizeLine ∧ ∀ p, H p = none → Q (.ref p) (upd H p (.lst (xs ++ zs)))) := by
  intro pins s σ H x y v u Q I rx ry h
  obtain ⟨l, b, xs, zs, rfl, rfl, hH, hB, hz, q⟩ := h
  cases rx
  cases ry
  obtain ⟨its, r, p1, _⟩ := I.list hH
  obtain ⟨its2, r2, p2, _⟩ := I.list hB
  refine add_plain p1 p2 (by rw [List.size_toArray, List.size_toArray, ← r.length, ← r2.length]; exact hz) ?_
  have ea : its.toArray ++ its2.toArray = (its ++ its2).toArray := by simp
  rw [ea]
  exact ⟨.ref _, _, I.lnew (t' := s.toks) (r.append r2) (by rw [List.length_append]; omega), rfl, q _ I.fresh⟩
end

/-! ### enumerate(tuple) -/
theorem new_enumT (l : Addr) (xs : Array Value) (n : Nat) (dct : Option Addr) (sl : Array (Option Value)) :
    Meets (Builtin.«enumerate.__new__» ⟨[.type "enumerate", .ref l], []⟩) (fun _ R s => s.heap.get? l = some { cls := .type "tuple", dict := dct, data := .seq xs n, slots := sl } ∧
      R (.ok (.ret (.ref (s.heap.push { cls := .type "tuple_iterator", data := .fields #[.ref l, .int 0 0] }).objs.size)))
        { s with heap := (s.heap.push { cls := .type "tuple_iterator", data := .fields #[.ref l, .int 0 0] }).push { cls := .type "enumerate", data := .fields #[.none, .bool false, .ref s.heap.objs.size, rawInt 0, .none, .none] } }) :=
  .of_wp fun prog w A R s h => by
    obtain ⟨hp, g, d, k0, os⟩ := s
    obtain ⟨hl, h⟩ := h
    have g1 := sub_enumerate
    have hT : Heap.IsTuple (Shared.heap ⟨hp, g, d, k0, os⟩) l xs := ⟨_, hl, rfl, n, rfl⟩
    wp_walk using AutoSeq1.wpAny_loadPart' hl
    refine wpAny_stack_any fun st => wpAny_pure ?_
    split
    · rename_i c _ _ _ _ _
      cases (c == Value.type "enumerate")
      · wp_walk using AutoSeq1.wpAny_loadPart' hl, wpAny_pyIter_tuple hT
        exact ⟨_, rfl, h⟩
      · wp_walk using AutoSeq1.wpAny_loadPart' hl, wpAny_pyIter_tuple hT
        exact ⟨_, rfl, h⟩
    · wp_walk using AutoSeq1.wpAny_loadPart' hl, wpAny_pyIter_tuple hT
      exact ⟨_, rfl, h⟩
theorem call_enumT {prog : Program} {w : World} {A : Around} {E : Value → Shared → Prop} {s : Shared} {l : Addr} {xs : Array Value} {Q : Value → Shared → Prop} (hL : s.heap.IsTuple l xs)
    (h : ∀ h', IsEnum h' (s.heap.objs.size + 1) s.heap.objs.size 0 .none → h'.IsTupleIter s.heap.objs.size l 0 → h'.objs.size = s.heap.objs.size + 2 →
      (∀ b o, s.heap.get? b = some o → h'.get? b = some o) → Q (.ref (s.heap.objs.size + 1)) { s with heap := h' }) :
    wpAny (model prog w) A (call (.type "enumerate") [.ref l]) Q E s := by
  obtain ⟨⟨c, dct, dt, sl⟩, hl, hc, n, hd⟩ := hL
  simp only at hc hd
  subst hc hd
  refine callType_new F.called_enumerate (by decide) (F.typeCall_enumerate_1 _) (F.newCall_enumerate_1 _) (fun obj => F.args_object_init_2 obj _) F.entry_enumerate_new
    (new_enumT l xs n dct sl) ⟨hl, ?_⟩
  generalize hg : s.heap.push { cls := .type "tuple_iterator", data := .fields #[.ref l, .int 0 0] } = g1
  have hz : g1.objs.size = s.heap.objs.size + 1 := by rw [← hg]; exact Heap.size_push ..
  have e0 : g1.get? s.heap.objs.size = some { cls := .type "tuple_iterator", data := .fields #[.ref l, .int 0 0] } := by rw [← hg]; exact Heap.get?_push_size _ rfl
  have up : ∀ b o, s.heap.get? b = some o → g1.get? b = some o := fun b o x => by rw [← hg]; exact Heap.get?_push_of_some _ x
  show _ ∧ _
  rw [hz]
  have he : IsEnum (g1.push { cls := .type "enumerate", data := .fields #[.none, .bool false, .ref s.heap.objs.size, rawInt 0, .none, .none] }) (s.heap.objs.size + 1) s.heap.objs.size 0 .none := by
    have z := Heap.get?_push_size g1 (o := { cls := .type "enumerate", data := .fields #[.none, .bool false, .ref s.heap.objs.size, rawInt 0, .none, .none] }) rfl
    rw [hz] at z; exact z
  exact ⟨⟨_, he, rfl⟩, h _ he ⟨_, Heap.get?_push_of_some _ e0, rfl, rfl⟩ (by rw [Heap.size_push, hz]) fun b o x => Heap.get?_push_of_some _ (up b o x)⟩
/-- the tuple at a as it stands at each turn, each item in a new pair -/
def IteT (K : PySem.W.Frag) (a : Addr) : It :=
  ⟨fun i H => ∃ (xs : List V) (x : V), SqT K H a xs ∧ xs[i]? = some x, fun i H v H' => ∃ T x, v = .ref T ∧ H T = none ∧ H' = upd H T (.tup [.int (i : Nat), x]) ∧ ∀ xs, SqT K H a xs → xs[i]? = some x, fun i H => ∃ xs : List V, SqT K H a xs ∧ xs.length ≤ i⟩
theorem turn_enumT {P : Program} {w : World} {K : PySem.W.Frag} {elts : List Expr} {kk : Nat} {tpos : Pos} (a e it : Addr) :
    Turn P w K (.Tuple elts kk tpos) (IteT K a) [e, it] e (fun i h => (∃ old, IsEnum h e it ((i : Nat) : Int) old) ∧ h.IsTupleIter it a i ∧ e ≠ it) where
  mem := by simp
  obj := fun i h st b hb => by
    obtain ⟨⟨old, he⟩, ⟨o, ho, hc, hd⟩, _⟩ := st
    rcases (show b = e ∨ b = it by simpa using hb) with z | z
    · rw [z]; exact ⟨_, he, fun v q => nomatch q⟩
    · rw [z]; exact ⟨o, ho, fun v q => by rw [hd] at q; cases q⟩
  keep := fun i h h' st k => let ⟨⟨old, he⟩, hi, hne⟩ := st; ⟨⟨old, k e (by simp) _ he⟩, hi.at fun o q => k it (by simp) o q, hne⟩
  item := by
    intro X hP hw hK hc i pins s σ H E I hf st hg
    subst hP hw hK
    obtain ⟨⟨old, he⟩, hit, hne⟩ := st
    obtain ⟨xs, x, hq, hx⟩ := hg
    obtain ⟨its, rv, p, hz⟩ := I.tuple hq
    obtain ⟨u, hu, ru⟩ := rv.get hx
    have p' : s.heap.IsTuple a its.toArray := p
    have hel : e < s.heap.objs.size := Heap.lt_size he
    have hil : it < s.heap.objs.size := by obtain ⟨_, q, _⟩ := hit; exact Heap.lt_size q
    have hea : e ≠ a := fun z => by
      obtain ⟨o, ho, hcl, _⟩ := p'
      rw [← z] at ho
      have := he.symm.trans ho
      cases this
      simp at hcl
    have hta : a ≠ it := fun z => by
      obtain ⟨o, ho, hcl, _⟩ := p'
      obtain ⟨o2, ho2, hcl2, _⟩ := hit
      rw [z, ho2] at ho
      cases ho
      rw [hcl] at hcl2
      simp at hcl2
    have hlt : i < its.toArray.size := by
      have := (List.getElem?_eq_some_iff.mp hu).1
      simpa using this
    refine wpAny_pyNext_enum_itemD (Draws.tuple (A := X.A.in1) (I.ok.hd hc) it a hta its.toArray) he ⟨hit, p'⟩ hlt hne (by simp [hne, hea]) fun u' h' tk pu ho hst' hT hsz hk => ?_
    have eu : u' = u := by
      have z : its[i]? = some u' := by simpa using pu
      rw [hu] at z
      cases z
      rfl
    subst eu
    refine ⟨_, rfl, wpAny_letOwnedTupleGo_enum (s := { s with heap := h', toks := tk + 1 }) ho fun h'' he' sb => ?_⟩
    have hT2 : h''.get? s.heap.objs.size = some { cls := .type "tuple", data := .seq #[.int i tk, u'] } := (sb.2 _ (Nat.ne_of_gt hel)).trans hT
    have new : ObjOk X.prog X.w (upd H s.heap.objs.size (.tup [.int (i : Nat), x])) h'' s.heap.objs.size (.tup [.int (i : Nat), x]) :=
      ⟨by show 2 ≤ sizeLine; decide, [.int i tk, u'], .cons ⟨_, rfl⟩ (.cons ru .nil), ⟨_, hT2, rfl, _, rfl⟩⟩
    have I1 : Inv X pins σ (upd H s.heap.objs.size (.tup [.int (i : Nat), x])) { s with heap := h'', toks := tk + 1 } :=
      I.turnedNew (ch := [e, it]) (fun b ob hb q => (sb.2 b (fun z => hb (by simp [z]))).trans (hk b ob (fun z => hb (by simp [z])) (fun z => hb (by simp [z])) q)) hf (Nat.le_refl _) new
    refine ⟨.ref s.heap.objs.size, _, I1, rfl, ⟨_, x, rfl, I.hok.fresh (Nat.le_refl _), rfl, fun ys hy => by rw [I.tuple_inj hy hq]; exact hx⟩, ⟨⟨u', ?_⟩, hst'.1.at fun o q => (sb.2 it (Ne.symm hne)).trans q, hne⟩, fun b hb => ?_⟩
    · rw [show ((i + 1 : Nat) : Int) = (i : Int) + 1 by omega]; exact he'
    · have hb' : b < s.heap.objs.size := by
        rcases (show b = e ∨ b = it by simpa using hb) with z | z
        · rw [z]; exact hel
        · rw [z]; exact hil
      rw [upd_ne (Nat.ne_of_lt hb')]
      exact (hf b hb).1
  done := by
    intro X hP hw hK hc i pins s σ H E I hf st hg
    subst hP hw hK
    obtain ⟨⟨old, he⟩, hit, hne⟩ := st
    obtain ⟨xs, hq, hx⟩ := hg
    obtain ⟨its, rv, p, hz⟩ := I.tuple hq
    have p' : s.heap.IsTuple a its.toArray := p
    obtain ⟨f0, f1, f2, f3, f4, f5⟩ := hf it (by simp)
    have hl := rv.length
    have hta : a ≠ it := fun z => by
      obtain ⟨o, ho, hcl, _⟩ := p'
      obtain ⟨o2, ho2, hcl2, _⟩ := hit
      rw [z, ho2] at ho
      cases ho
      rw [hcl] at hcl2
      simp at hcl2
    have D : Draws X.prog X.w X.A.in1 it [it, a] i (fun j v => False) (fun j h => h.IsTupleIter it a i ∧ h.IsTuple a its.toArray ∧ i ≤ j) :=
      { live := fun j h q => let ⟨o, ho, _⟩ := q.1; ⟨o, ho⟩
        frame := fun j h h' q k => ⟨q.1.at fun o e => k it (by simp) o e, q.2.1.at fun o e => k a (by simp) o e, q.2.2⟩
        item := fun j s Q E hj q _ => absurd q.2.2 (by omega)
        done := fun s Q E q hE => wpAny_nextOf_tuple_end (I.ok.hd hc) q.1 q.2.1 (by simp; omega) hE }
    exact wpAny_pyNext_enum_endD D he ⟨hit, p', Nat.le_refl _⟩ fun h' eb => ⟨rfl, I.turned (t' := s.toks) (fun b o hb q => eb b o hb q) f0 f1 f3 f4 f5⟩
  self := fun A i s Q E st h => let ⟨⟨_, he⟩, _⟩ := st; wpAny_pyIter_enum he h
def iEnumT (K : PySem.W.Frag) (ta : TA) : TI := fun σ H R => ta σ H fun vs H1 => ∃ a xs, vs = [.ref a] ∧ SqT K H1 a xs ∧ R (IteT K a) H1
theorem pi_enumT {X : Cx} {e : Expr} {ta : TA} {p pos tpos : Pos} {elts : List Expr} {kk : Nat} (hg : Gl X "enumerate") (hm : X.mg "enumerate" = none) (ha : PA X [e] ta) (hs : starEach [e] X.env = [(false, eval e X.env)] := by rfl) :
    PI X (.Tuple elts kk tpos) (.Call (.Name "enumerate" p) [e] [] pos) (iEnumT X.K ta) := by
  refine ⟨fun pins s σ H R I h => ?_⟩
  refine Call_ (ld_blt I hg hm boot_enumerate (PyProof.Rows.callWith_type1 (thn (ha.run pos pins s σ H _ I h) fun us s1 ⟨vs, H1, I1, r1, q1⟩ => ?_) hs rfl))
  obtain ⟨a, xs, ex, hq, q⟩ := q1
  subst ex
  cases r1 with
  | cons r rr =>
    cases rr
    cases r
    obtain ⟨its, rv, p', hz⟩ := I1.tuple hq
    have p' : s1.heap.IsTuple a its.toArray := p'
    refine call_enumT p' fun h' he hit hsz hk => wpAny_pyIter_enum he ?_
    have I2 : Inv X pins σ H1 { s1 with heap := h' } := I1.kept (t' := s1.toks) hk
    refine ⟨s1.heap.objs.size + 1, [s1.heap.objs.size + 1, s1.heap.objs.size], _, _, H1, rfl, I2, turn_enumT a (s1.heap.objs.size + 1) s1.heap.objs.size, ⟨⟨.none, he⟩, hit, Nat.succ_ne_self _⟩, fun b hb => ?_, q⟩
    have hle : s1.heap.objs.size ≤ b := by
      rcases (show b = s1.heap.objs.size + 1 ∨ b = s1.heap.objs.size by simpa using hb) with z | z
      · rw [z]; exact Nat.le_add_right _ _
      · rw [z]; exact Nat.le_refl _
    exact I1.fpOk hle (I1.hok.fresh hle)
def enumD (ds : List D) : List D := ds.mapIdx fun i d => .tuple [.int (i : Nat), d]
section
variable {X : Cx} {M : MI} {e : Expr} {we : WE} {p pos tpos : Pos} {elts : List Expr} {kk : Nat}
def wEnT (we : WE) : WI := fun ρ c Q => we ρ c fun d c1 => ∃ ds, d = .tuple ds ∧ Q (enumD ds) c1
theorem i_enumT (hg : Gl X "enumerate") (hm : X.mg "enumerate" = none) (he : PE X e (tE M X.K we)) (hs : starEach [e] X.env = [(false, eval e X.env)] := by rfl) : PI X (.Tuple elts kk tpos) (.Call (.Name "enumerate" p) [e] [] pos) (tI M X.K Fk (wEnT we)) := by
  refine PI.imp (pi_enumT hg hm (pa_cons he pa_nil hs) hs) ?_
  rintro σ H R ⟨w, ρ, Qd, eh, ev, g, hw, k⟩
  refine ⟨w, ρ, _, eh, ev, g, hw, fun w1 v d s1 g1 dv q1 => ?_⟩
  obtain ⟨ds, rfl, q1⟩ := q1
  cases dv with
  | @tup a vs _ h2 h3 =>
    refine ⟨a, vs, rfl, h2.sq, k w1 _ (enumD ds) s1 g1 ⟨fun w' i d r g' e => ?_, fun w' i r g' hi => ?_⟩ q1⟩
    · unfold enumD at e
      rw [List.getElem?_mapIdx] at e
      obtain ⟨d0, e1, e2⟩ := Option.map_eq_some_iff.mp e
      subst e2
      have hq := (h2.up (r.f1 a) fun o f => r.k a o f).sq
      obtain ⟨v0, ev0, dv0⟩ := (h3.fk r).get e1
      refine ⟨⟨vs, v0, hq, ev0⟩, fun x H' y => ?_⟩
      obtain ⟨T, v1, rfl, hT, rfl, hv⟩ := y
      have := hv vs hq
      rw [ev0] at this
      cases this
      exact ⟨w'.new T _, rfl, rfl, stp_new hT, gd_new g' hT, new_tup g' hT (.cons (.int _) (.cons dv0 .nil))⟩
    · unfold enumD at hi
      rw [List.length_mapIdx] at hi
      exact ⟨vs, (h2.up (r.f1 a) fun o f => r.k a o f).sq, by rw [h3.length]; exact hi⟩
end
end HW

/-! comprehensions assigned; comprehensions of two clauses; calls that look at an object of one's own -/
namespace HW
open PySem L2
section
variable {X : Cx} {M : MI} {w0 : W}
/-- name = [elt for target in iter if ..] -/
theorem s_setLc {elt tg iter : Expr} {ifs : List Expr} {scope : Scope} {own : List (Str × Nat)} {pos spos py : Pos} {wi : WI} {wt : WT} {we : WE} {i j : Nat} {y : Str} (hj : j ∈ own.map (·.2)) (hc : X.calm = true) (hN : X.N.Nodup) (hy : X.N[i]? = some y) (hyl : X.env.scope.names.lookup y = some .local)
    (hi : PI X tg iter (tI M X.K Stp wi)) (ok : BlkOk X.N X.env.scope scope own)
    (hg : ∀ (s : Shared) (H : Hp) (C : Addr) (cl : List (Str × Addr)) (fp : List Addr), PG (X.blk s H scope (compEnvC scope cl C X.env) fp) tg (gName j)) (ht : ∀ (s : Shared) (H : Hp) (C : Addr) (cl : List (Str × Addr)) (fp : List Addr), PTs (X.blk s H scope (compEnvC scope cl C X.env) fp) ifs (tT M X.K wt))
    (he : ∀ (s : Shared) (H : Hp) (C : Addr) (cl : List (Str × Addr)) (fp : List Addr), PE (X.blk s H scope (compEnvC scope cl C X.env) fp) elt (tE M X.K we)) (hsw : swapsWith (.ListComp elt [⟨tg, iter, ifs, 0⟩] scope pos) (some (.Name y py)) spos.line X.env = pure true := by rfl) (hs : ∀ x, foldedSetIterable iter X.env x = pure x := by intro _; rfl) :
    PS X (.Assign [.Name y py] (.ListComp elt [⟨tg, iter, ifs, 0⟩] scope pos) spos) (tS M X.K w0 (wSet i (wLc wi wt we j (own.map (·.2))))) := by
  refine PS.imp (ps_setLc hc hN hy hyl hsw hi ok hg ht he hs) ?_
  intro D σ H h
  have z := r_set D σ H h
  exact r_lc hj σ H _ z
/-! two clauses -/
def lcIn (wt : WT) (we : WE) (ρ : List En) (j : Nat) : List D → List D → Nat → (List D → Nat → Prop) → Prop
  | [], acc, c, Q => Q acc c
  | d :: r, acc, c, Q => wt (ρ.set j (.im d)) c fun b c1 => if b = true then we (ρ.set j (.im d)) c1 (fun y c2 => lcIn wt we ρ j r (acc ++ [y]) c2 Q) else lcIn wt we ρ j r acc c1 Q
def lcGo2 (wt : WT) (wi1 : WI) (wt1 : WT) (we : WE) (ρ : List En) (j j1 : Nat) : List D → List D → Nat → (D → Nat → Prop) → Prop
  | [], acc, c, Q => Q (.list acc) c
  | d :: r, acc, c, Q => wt (ρ.set j (.im d)) c fun b c1 => if b = true then wi1 (ρ.set j (.im d)) c1 (fun ds c2 => acc.length + ds.length ≤ 16000000 ∧ lcIn wt1 we (wipeE (ρ.set j (.im d)) [j1]) j1 ds acc c2 fun acc' c3 => lcGo2 wt wi1 wt1 we ρ j j1 r acc' c3 Q) else lcGo2 wt wi1 wt1 we ρ j j1 r acc c1 Q
def wLc2 (wi : WI) (wt : WT) (wi1 : WI) (wt1 : WT) (we : WE) (j j1 : Nat) (vs : List Nat) : WE := fun ρ c Q => wi ρ c fun ds c1 => lcGo2 wt wi1 wt1 we (wipeE ρ vs) j j1 ds [] c1 Q
theorem r_lc2 {wi wi1 : WI} {wt wt1 : WT} {we : WE} {j j1 : Nat} {vs : List Nat} (hj : j ∈ vs) : ∀ (σ : L2.St) (H : Hp) (Q : VK), tE M X.K (wLc2 wi wt wi1 wt1 we j j1 vs) σ H Q →
    tLc2 (tI M X.K Stp wi) (gName j) (tT M X.K wt) (tI M X.K Fk wi1) (gName j1) (tT M X.K wt1) (tE M X.K we) vs [j1] σ H Q := by
  rintro σ H Q ⟨w, ρ, Qd, eh, ev, g, hw, k⟩
  refine ⟨w, ρ, _, eh, ev, g, hw, fun w1 J ds s1 g1 jk q1 Dl hD => ?_⟩
  have nF : ¬ w1.F Dl := fun f => g1.tf Dl f hD
  have nR : Dl ∉ w1.R := r_free g1 hD
  refine ⟨fun i m H' => ∃ (w' : W) (acc : List D) (us : List V), w'.H = H' ∧ m = ds.length - i ∧ i ≤ ds.length ∧ Stp w1 w' ∧ Gd M w' ∧ w'.H Dl = some (.lst us) ∧ ¬ w'.F Dl ∧ Dl ∉ w'.R ∧ DvA X.K w'.F w'.H us acc ∧ lcGo2 wt wi1 wt1 we (wipeE ρ vs) j j1 (ds.drop i) acc w'.c Qd,
    ⟨ds.length, w1.own Dl (.lst []), [], [], rfl, by simp, Nat.zero_le _, stp_own hD, gd_own g1 hD, upd_same, nF, nR, .nil, q1⟩, ?_⟩
  rintro i m H' ⟨w', acc, us, rfl, rfl, hi, s', g', hDl, nf, nr, da, q⟩
  have ev1 := ev.stp s1 g
  have ev' := ev1.stp s' g1
  by_cases hlt : i < ds.length
  · have ed : ds[i]? = some ds[i] := by simp [hlt]
    obtain ⟨jg, jy⟩ := jk.go w' i _ s' g' ed
    refine .inr ⟨jg, fun H2 => ∃ (w2 : W) (acc : List D) (us : List V), w2.H = H2 ∧ Stp w1 w2 ∧ Gd M w2 ∧ w2.H Dl = some (.lst us) ∧ ¬ w2.F Dl ∧ Dl ∉ w2.R ∧ DvA X.K w2.F w2.H us acc ∧ lcGo2 wt wi1 wt1 we (wipeE ρ vs) j j1 (ds.drop (i + 1)) acc w2.c Qd, ?_, fun x H2 y => ?_⟩
    · rintro H2 ⟨w2, acc2, us2, h⟩
      exact ⟨ds.length - (i + 1), by omega, w2, acc2, us2, h.1, rfl, hlt, h.2⟩
    · obtain ⟨w2, rfl, ec, s2, g2, dx⟩ := jy x H2 y
      have q2 : lcGo2 wt wi1 wt1 we (wipeE ρ vs) j j1 (ds[i] :: ds.drop (i + 1)) acc w2.c Qd := by
        rw [ec, ← List.drop_eq_getElem_cons hlt]; exact q
      have keepD : ∀ {wa wb : W} {us : List V}, Stp wa wb → wa.H Dl = some (.lst us) → ¬ wa.F Dl → Dl ∉ wa.R → wb.H Dl = some (.lst us) ∧ ¬ wb.F Dl ∧ Dl ∉ wb.R := fun {wa wb us} s3 h2 f2 n2 =>
        ⟨s3.k _ _ h2 n2, (fun z => (s3.f2 Dl z).elim f2 fun e => (by rw [h2] at e; cases e)), r_up s3 h2 n2⟩
      obtain ⟨hD2, nf2, nr2⟩ := keepD s2 hDl nf nr
      have ev2 := ((ev'.stp s2 g').wipe vs).setIm (i := j) dx
      refine ⟨wipe_set hj, w2, _, _, rfl, ev2, g2, q2, fun w3 b s3 g3 q3 => ?_⟩
      have s13 := (s'.trans s2).trans s3
      obtain ⟨hD3, nf3, nr3⟩ := keepD s3 hD2 nf2 nr2
      have da3 := da.fk ((s2.trans s3).fk g')
      cases b with
      | false => exact iteF ⟨w3, acc, us, rfl, s13, g3, hD3, nf3, nr3, da3, q3⟩
      | true =>
        refine iteT ⟨w3, _, _, rfl, ev2.stp s3 g2, g3, q3, fun w4 J1 es s4 g4 jk1 q4 => ?_⟩
        obtain ⟨hsz, q4⟩ := q4
        obtain ⟨hD4, nf4, nr4⟩ := keepD s4 hD3 nf3 nr3
        have s14 := s13.trans s4
        have da4 := da3.fk (s4.fk g3)
        have dx4 := dx.fk ((s3.trans s4).fk g2)
        refine ⟨fun a m H' => ∃ (w5 : W) (acc5 : List D) (us : List V), w5.H = H' ∧ m = es.length - a ∧ a ≤ es.length ∧ Stp w1 w5 ∧ Fk w4 w5 ∧ Gd M w5 ∧ w5.H Dl = some (.lst us) ∧ ¬ w5.F Dl ∧ Dl ∉ w5.R ∧ DvA X.K w5.F w5.H us acc5 ∧ acc5.length ≤ acc.length + a ∧
            lcIn wt1 we (wipeE ((wipeE ρ vs).set j (.im ds[i])) [j1]) j1 (es.drop a) acc5 w5.c fun acc' c3 => lcGo2 wt wi1 wt1 we (wipeE ρ vs) j j1 (ds.drop (i + 1)) acc' c3 Qd,
          ⟨es.length, w4, acc, us, rfl, by simp, Nat.zero_le _, s14, Fk.refl _, g4, hD4, nf4, nr4, da4, Nat.le_refl _, q4⟩, ?_⟩
        rintro a m H5 ⟨w5, acc5, us5, rfl, rfl, ha, s5, f5, g5, hD5, nf5, nr5, da5, hal, q5⟩
        by_cases hlt1 : a < es.length
        · have ed1 : es[a]? = some es[a] := by simp [hlt1]
          obtain ⟨jg1, jy1⟩ := jk1.go w5 a _ f5 g5 ed1
          refine .inr ⟨jg1, fun H6 => ∃ (w6 : W) (acc6 : List D) (us : List V), w6.H = H6 ∧ Stp w1 w6 ∧ Fk w4 w6 ∧ Gd M w6 ∧ w6.H Dl = some (.lst us) ∧ ¬ w6.F Dl ∧ Dl ∉ w6.R ∧ DvA X.K w6.F w6.H us acc6 ∧ acc6.length ≤ acc.length + (a + 1) ∧
            lcIn wt1 we (wipeE ((wipeE ρ vs).set j (.im ds[i])) [j1]) j1 (es.drop (a + 1)) acc6 w6.c fun acc' c3 => lcGo2 wt wi1 wt1 we (wipeE ρ vs) j j1 (ds.drop (i + 1)) acc' c3 Qd, ?_, fun x1 H6 y1 => ?_⟩
          · rintro H6 ⟨w6, acc6, us6, h⟩
            exact ⟨es.length - (a + 1), by omega, w6, acc6, us6, h.1, rfl, hlt1, h.2⟩
          · obtain ⟨w6, rfl, ec6, s6, g6, dx6⟩ := jy1 x1 H6 y1
            have q6 : lcIn wt1 we (wipeE ((wipeE ρ vs).set j (.im ds[i])) [j1]) j1 (es[a] :: es.drop (a + 1)) acc5 w6.c fun acc' c3 => lcGo2 wt wi1 wt1 we (wipeE ρ vs) j j1 (ds.drop (i + 1)) acc' c3 Qd := by
              rw [ec6, ← List.drop_eq_getElem_cons hlt1]; exact q5
            obtain ⟨hD6, nf6, nr6⟩ := keepD s6 hD5 nf5 nr5
            have s16 := s5.trans s6
            have f46 := f5.trans (s6.fk g5)
            have ev6 := (((((ev1.stp s16 g1).wipe vs).setIm (i := j) (dx4.fk f46))).wipe [j1]).setIm (i := j1) dx6
            refine ⟨wipe_set (List.mem_singleton.mpr rfl), w6, _, _, rfl, ev6, g6, q6, fun w7 b7 s7 g7 q7 => ?_⟩
            obtain ⟨hD7, nf7, nr7⟩ := keepD s7 hD6 nf6 nr6
            have s17 := s16.trans s7
            have f47 := f46.trans (s7.fk g6)
            have da7 := da5.fk ((s6.trans s7).fk g5)
            cases b7 with
            | false => exact iteF ⟨w7, acc5, us5, rfl, s17, f47, g7, hD7, nf7, nr7, da7, by omega, q7⟩
            | true =>
              refine iteT ⟨w7, _, _, rfl, ev6.stp s7 g6, g7, q7, fun w8 v d s8 g8 dv q8 => ?_⟩
              obtain ⟨hD8, nf8, nr8⟩ := keepD s8 hD7 nf7 nr7
              have da8 := da7.fk (s8.fk g7)
              have z : w8.H Dl ≠ none := by rw [hD8]; simp
              refine ⟨us5, hD8, (by rw [sizeLine_eq, da8.length]; omega), ?_⟩
              exact ⟨w8.own Dl (.lst (us5 ++ [v])), acc5 ++ [d], us5 ++ [v], rfl, stp_put (s17.trans s8) hD, (f47.trans (s8.fk g7)).trans (fk_put nf8), gd_put g8 z nr8, upd_same, nf8, nr8,
                (da8.app (.cons dv .nil)).fk (fk_put nf8), by rw [List.length_append]; show acc5.length + 1 ≤ _; omega, q8⟩
        · have e : a = es.length := by omega
          subst e
          rw [List.drop_length] at q5
          exact .inl ⟨jk1.stop w5 _ f5 g5 (Nat.le_refl _), w5, acc5, us5, rfl, s5, g5, hD5, nf5, nr5, da5, q5⟩
  · have e : i = ds.length := by omega
    subst e
    refine .inl ⟨jk.stop w' _ s' g' (Nat.le_refl _), ?_⟩
    rw [List.drop_length] at q
    have hDw : w.H Dl = none := nn s1 hD
    exact k (w'.frz Dl) _ _ (stp_frz (s1.trans s') hDw) (gd_frz g' (by rw [hDl]; simp) nr) (.lst (.inl ⟨.inr rfl, .of hDl⟩) (da.fk fk_frz)) q
section
variable {elt tg iter tg1 iter1 : Expr} {ifs ifs1 : List Expr} {scope : Scope} {own : List (Str × Nat)} {pos : Pos} {wi wi1 : WI} {wt wt1 : WT} {we : WE} {j j1 : Nat}
theorem e_lc2 (hj : j ∈ own.map (·.2)) (hj1 : j1 ∈ own.map (·.2)) (hc : X.calm = true) (hN : X.N.Nodup) (hi : PI X tg iter (tI M X.K Stp wi)) (ok : BlkOk X.N X.env.scope scope own)
    (hg : ∀ (s : Shared) (H : Hp) (C : Addr) (cl : List (Str × Addr)) (fp : List Addr), PG (X.blk s H scope (compEnvC scope cl C X.env) fp) tg (gName j)) (ht : ∀ (s : Shared) (H : Hp) (C : Addr) (cl : List (Str × Addr)) (fp : List Addr), PTs (X.blk s H scope (compEnvC scope cl C X.env) fp) ifs (tT M X.K wt))
    (hi1 : ∀ (s : Shared) (H : Hp) (C : Addr) (cl : List (Str × Addr)) (fp : List Addr), PI (X.blk s H scope (compEnvC scope cl C X.env) fp) tg1 iter1 (tI M X.K Fk wi1))
    (hg1 : ∀ (s : Shared) (H : Hp) (C : Addr) (cl : List (Str × Addr)) (fp : List Addr), PG (X.blk s H scope (compEnvC scope cl C X.env) fp) tg1 (gName j1)) (ht1 : ∀ (s : Shared) (H : Hp) (C : Addr) (cl : List (Str × Addr)) (fp : List Addr), PTs (X.blk s H scope (compEnvC scope cl C X.env) fp) ifs1 (tT M X.K wt1))
    (he : ∀ (s : Shared) (H : Hp) (C : Addr) (cl : List (Str × Addr)) (fp : List Addr), PE (X.blk s H scope (compEnvC scope cl C X.env) fp) elt (tE M X.K we)) (hs : ∀ x, foldedSetIterable iter X.env x = pure x := by intro _; rfl) (hs1 : ∀ env x, foldedSetIterable iter1 env x = pure x := by intro _ _; rfl) :
    PE X (.ListComp elt [⟨tg, iter, ifs, 0⟩, ⟨tg1, iter1, ifs1, 0⟩] scope pos) (tE M X.K (wLc2 wi wt wi1 wt1 we j j1 (own.map (·.2)))) :=
  PE.imp (pe_lc2 (vs1 := [j1]) hc hN hi ok (fun i h => by rw [List.mem_singleton.mp h]; exact hj1) hg ht hi1 hg1 ht1 he hs hs1) (r_lc2 hj)
theorem s_setLc2 {i : Nat} {y : Str} {py spos : Pos} (hj : j ∈ own.map (·.2)) (hj1 : j1 ∈ own.map (·.2)) (hc : X.calm = true) (hN : X.N.Nodup) (hy : X.N[i]? = some y) (hyl : X.env.scope.names.lookup y = some .local) (hi : PI X tg iter (tI M X.K Stp wi)) (ok : BlkOk X.N X.env.scope scope own)
    (hg : ∀ (s : Shared) (H : Hp) (C : Addr) (cl : List (Str × Addr)) (fp : List Addr), PG (X.blk s H scope (compEnvC scope cl C X.env) fp) tg (gName j)) (ht : ∀ (s : Shared) (H : Hp) (C : Addr) (cl : List (Str × Addr)) (fp : List Addr), PTs (X.blk s H scope (compEnvC scope cl C X.env) fp) ifs (tT M X.K wt))
    (hi1 : ∀ (s : Shared) (H : Hp) (C : Addr) (cl : List (Str × Addr)) (fp : List Addr), PI (X.blk s H scope (compEnvC scope cl C X.env) fp) tg1 iter1 (tI M X.K Fk wi1))
    (hg1 : ∀ (s : Shared) (H : Hp) (C : Addr) (cl : List (Str × Addr)) (fp : List Addr), PG (X.blk s H scope (compEnvC scope cl C X.env) fp) tg1 (gName j1)) (ht1 : ∀ (s : Shared) (H : Hp) (C : Addr) (cl : List (Str × Addr)) (fp : List Addr), PTs (X.blk s H scope (compEnvC scope cl C X.env) fp) ifs1 (tT M X.K wt1))
    (he : ∀ (s : Shared) (H : Hp) (C : Addr) (cl : List (Str × Addr)) (fp : List Addr), PE (X.blk s H scope (compEnvC scope cl C X.env) fp) elt (tE M X.K we)) (hsw : swapsWith (.ListComp elt [⟨tg, iter, ifs, 0⟩, ⟨tg1, iter1, ifs1, 0⟩] scope pos) (some (.Name y py)) spos.line X.env = pure true := by rfl) (hs : ∀ x, foldedSetIterable iter X.env x = pure x := by intro _; rfl) (hs1 : ∀ env x, foldedSetIterable iter1 env x = pure x := by intro _ _; rfl) :
    PS X (.Assign [.Name y py] (.ListComp elt [⟨tg, iter, ifs, 0⟩, ⟨tg1, iter1, ifs1, 0⟩] scope pos) spos) (tS M X.K w0 (wSet i (wLc2 wi wt wi1 wt1 we j j1 (own.map (·.2))))) := by
  refine PS.imp (ps_setLc2 (vs1 := [j1]) hc hN hy hyl hsw hi ok (fun i h => by rw [List.mem_singleton.mp h]; exact hj1) hg ht hi1 hg1 ht1 he hs hs1) ?_
  intro D σ H h
  exact r_lc2 hj σ H _ (r_set D σ H h)
end
end
/-! ### calls that look at an object of one's own; what comes back is flat -/
def flatD : D → Bool
  | .none => true
  | .bool _ => true
  | .int _ => true
  | .str _ => true
  | _ => false
theorem flat_any {K : PySem.W.Frag} {P P' : Addr → Prop} {H H' : Hp} {v : V} {d : D} (h : Dv K P H v d) (f : flatD d = true) : Dv K P' H' v d := by
  cases h with
  | non => exact .non
  | bl b => exact .bl b
  | int i => exact .int i
  | str x => exact .str x
  | _ => simp [flatD] at f
/-- with the objects S lent -/
def W.lend (w : W) (S : Addr → Prop) : W := { w with F := fun a => w.F a ∨ S a }
abbrev Lent (w : W) (S : Addr → Prop) : Prop := ∀ a, S a → w.H a ≠ none ∧ ¬ w.F a ∧ a ∉ w.R
def tL (M : MI) (K : PySem.W.Frag) (wg : WG) : TA := fun σ H Q => ∃ (w : W) (ρ : List En) (Qd : List En → Nat → Prop), w.H = H ∧ EnvOk K w σ ρ ∧ Gd M w ∧ wg ρ w.c Qd ∧
  ∀ (w' : W) (vs : List V) (es : List En) (S : Addr → Prop), Stp w w' → Gd M w' → Lent w' S → ArgsOk K (w'.lend S) vs es → Qd es w'.c → Q vs w'.H
section
variable {X : Cx} {M : MI} {e : Expr} {es : List Expr} {we : WE} {wg : WG} {x : Str} {p pos : Pos}
theorem fk_lend {w w' : W} {S : Addr → Prop} (s : Fk w w') : Fk w (w'.lend S) := ⟨fun a f => .inl (s.f1 a f), s.k, s.m⟩
theorem l_nil : PA X [] (tL M X.K gNil) := PA.imp pa_nil fun σ H Q ⟨w, ρ, Qd, eh, ev, g, hw, k⟩ => by
  subst eh
  exact k w [] [] (fun _ => False) (Stp.refl w) g (fun _ h => h.elim) .nil hw
theorem l_im (he : PE X e (tE M X.K we)) (ha : PA X es (tL M X.K wg)) (hs : starEach (e :: es) X.env = (false, eval e X.env) :: starEach es X.env := by rfl) : PA X (e :: es) (tL M X.K (gIm we wg)) := by
  refine PA.imp (pa_cons he ha hs) ?_
  rintro σ H Q ⟨w, ρ, Qd, eh, ev, g, hw, k⟩
  refine ⟨w, ρ, _, eh, ev, g, hw, fun w1 v d s1 g1 dv q1 => ?_⟩
  exact ⟨w1, ρ, _, rfl, ev.stp s1 g, g1, q1, fun w2 vs ds S s2 g2 le dvs q2 => k w2 (v :: vs) _ S (s1.trans s2) g2 le (.im (dv.fk (fk_lend (s2.fk g1))) dvs) q2⟩
theorem l_st {i : Nat} (h : PE X (.Name x pos) (tVar i)) (ha : PA X es (tL M X.K wg)) (hs : starEach (.Name x pos :: es) X.env = (false, eval (.Name x pos) X.env) :: starEach es X.env := by rfl) : PA X (.Name x pos :: es) (tL M X.K (gSt i wg)) := by
  refine PA.imp (pa_cons h ha hs) ?_
  rintro σ H Q ⟨w, ρ, Qd, eh, ev, g, ⟨q, hw⟩, k⟩
  obtain ⟨a, h1, h2⟩ := ev.ok i _ q
  subst eh
  exact ⟨_, h1, w, ρ, _, rfl, ev, g, hw, fun w2 vs ds S s2 g2 le dvs q2 => k w2 _ _ S s2 g2 le (.st (s2.m a h2) dvs) q2⟩
/-- a list of one's own, looked at -/
def gLs (i : Nat) (wg : WG) : WG := fun ρ c Q => ∃ ds, ρ[i]? = some (.ls ds) ∧ wg ρ c fun es c2 => Q (.im (.list ds) :: es) c2
theorem ArgsOk.lend {K : PySem.W.Frag} {w : W} {S S' : Addr → Prop} (h : ∀ a, S a → S' a) : ∀ {vs : List V} {es : List En}, ArgsOk K (w.lend S) vs es → ArgsOk K (w.lend S') vs es
  | _, _, .nil => .nil
  | _, _, .im d r => .im (d.up (fun a f => f.elim .inl fun z => .inr (h a z)) fun _ _ _ e => e) (r.lend h)
  | _, _, .st d r => .st d (r.lend h)
theorem l_ls {i : Nat} (h : PE X (.Name x pos) (tVar i)) (ha : PA X es (tL M X.K wg)) (hs : starEach (.Name x pos :: es) X.env = (false, eval (.Name x pos) X.env) :: starEach es X.env := by rfl) : PA X (.Name x pos :: es) (tL M X.K (gLs i wg)) := by
  refine PA.imp (pa_cons h ha hs) ?_
  rintro σ H Q ⟨w, ρ, Qd, eh, ev, g, ⟨ds, q, hw⟩, k⟩
  obtain ⟨a, us, h1, h2, h3, h4, h5⟩ := ev.ok i _ q
  subst eh
  refine ⟨_, h1, w, ρ, _, rfl, ev, g, hw, fun w2 vs es S s2 g2 le dvs q2 => ?_⟩
  have e2 := s2.k _ _ h2 h4
  refine k w2 _ _ (fun b => S b ∨ b = a) s2 g2 (fun b sb => sb.elim (le b) fun z => ?_) (.im (.lst (.inl ⟨.inr (.inr rfl), .of e2⟩) (h5.fk (fk_lend (s2.fk g)))) (dvs.lend fun b sb => .inl sb)) q2
  subst z
  exact ⟨by rw [e2]; simp, (fun z => (s2.f2 _ z).elim h3 fun n => (by rw [h2] at n; cases n)), r_up s2 h2 h4⟩
def wCallF (f : FW) (wg : WG) : WE := fun ρ c Q => wg ρ c fun es c1 => f es c1 fun d c2 => flatD d = true ∧ Q d c2
theorem e_callF {f : FW} {k j : Nat} (C : CalG X.prog X.w X.K X.mg X.base k x (fnSp M X.K f)) (hr : Room j X.A) (hk : k ≤ j) (gds : X.A.guards = some []) (hg : Gl X x) (ha : PA X (e :: es) (tL M X.K wg))
    (hdb : (x == ("__debug__" : Str)) = false := by decide) (he : starEach (e :: es) X.env = (false, eval e X.env) :: starEach es X.env := by rfl) (hpl : (backTo pos (starEach es X.env)).any (·.1) = false := by rfl) :
    PE X (.Call (.Name x p) (e :: es) [] pos) (tE M X.K (wCallF f wg)) := by
  refine PE.imp (pe_g C hr hk gds hg ha hdb he hpl) ?_
  rintro σ H Q ⟨w, ρ, Qd, eh, ev, g, hw, k⟩
  refine ⟨w, ρ, _, eh, ev, g, hw, fun w1 vs es S s1 g1 le ok q1 => ?_⟩
  show fnSp M X.K f (vs ++ []) w1.H Q E0
  rw [List.append_nil]
  have g1' : Gd M (w1.lend S) := ⟨g1.mi, g1.r0, g1.nz, fun b hb => ⟨(g1.tr b hb).1, fun z => z.elim (g1.tr b hb).2 fun sb => (le b sb).2.2 hb⟩, fun a f => f.elim (g1.tf a) fun sb => (le a sb).1⟩
  refine ⟨w1.lend S, es, _, rfl, g1', ok, q1, fun w2 v d s2 g2 dv q2 => ?_⟩
  refine k { w2 with F := fun a => w2.F a ∧ ¬ S a } v d (s1.trans ?_) ?_ (flat_any dv q2.1) q2.2
  · exact ⟨fun a f => ⟨s2.f1 a (.inl f), fun sa => (le a sa).2.1 f⟩, fun a f => (s2.f2 a f.1).elim (fun z => z.elim .inl fun sa => absurd sa f.2) .inr, s2.k, s2.t, s2.r, s2.m⟩
  · exact ⟨g2.mi, g2.r0, g2.nz, fun b hb => ⟨(g2.tr b hb).1, fun z => (g2.tr b hb).2 z.1⟩, fun a f => g2.tf a f.1⟩
end
end HW

/-! d[k], i // j; new lists of one's own by a slice, by a comprehension -/
namespace HW
open PySem L2
section
variable {X : Cx} {M : MI} {o e i : Expr} {wd wk we : WE} {pos : Pos}
/-- d[k], k in d -/
def wDix (wd wk : WE) : WE := fun ρ c Q => wd ρ c fun d c1 => wk ρ c1 fun y c2 => ∃ kvs k z, d = .dict kvs ∧ keyOf y = some k ∧ lookK kvs k = some z ∧ Q z c2
theorem e_dix (hu : X.A.units + 1 < cLine) (ho : PE X o (tB M X.K wd)) (hi : PE X i (tB M X.K wk)) (hs : NoSl i) : PE X (.Subscript o i pos) (tE M X.K (wDix wd wk)) := by
  refine PE.imp (pe_dget hu ho hi hs) ?_
  rintro σ H Q ⟨w, ρ, Qd, eh, ev, g, hw, kk⟩
  refine ⟨w, ρ, _, eh, ev, g, hw, fun w1 v d s1 g1 bv q1 => ?_⟩
  refine ⟨w1, ρ, _, rfl, ev.stp s1 g, g1, q1, fun w2 y dy s2 g2 by' q2 => ?_⟩
  obtain ⟨kvs, key, z, rfl, e2, e3, q2⟩ := q2
  obtain ⟨a, ks, rfl, h3, h4⟩ := (bv.stp s2 g1).dict
  rcases h4.look (k := key) with ⟨z1, _⟩ | ⟨v', d', z1, z2, z3⟩
  · rw [e3] at z1; cases z1
  · rw [e3] at z1
    cases z1
    refine ⟨a, v', rfl, ?_, kk w2 v' z (s1.trans s2) g2 z3 q2⟩
    rw [kV_of by' e2, ← z2]
    exact dget_rd h3
def fdvD : D → D → Option D
  | .int i, .int j => if 0 < j ∧ j < 1073741824 then some (.int (i / j)) else none
  | _, _ => none
theorem d_fdv {K : PySem.W.Frag} : OpD M K (rI CDiv fun i j => .int (i / j)) fdvD := fun w x y dx dy z Q g hx hy e k => by
  cases dx <;> cases dy <;> simp only [fdvD, reduceCtorEq] at e
  split at e
  · cases e; cases hx.int; cases hy.int
    exact ⟨_, _, rfl, rfl, by assumption, keepQ g (.int _) k⟩
  · cases e
def nSl (we : WE) (wl wu : WO) : WN := fun ρ c Q => we ρ c fun x c1 => wl ρ c1 fun l c2 => wu ρ c2 fun u c3 => ∃ xs, x = .list xs ∧ Q (.ls (cutL xs l u)) c3
theorem n_sl {lo hi : Option Expr} {wl wu : WO} {p2 : Pos} (he : PE X e (tB M X.K we)) (hl : PO X lo (tO M X.K wl)) (hu : PO X hi (tO M X.K wu)) : PE X (.Subscript e (.Slice lo hi none p2) pos) (tN M X.K (nSl we wl wu)) := by
  refine PE.imp (pe_slice sl_list he hl hu) ?_
  rintro σ H Q ⟨w, ρ, Qd, eh, ev, g, hw, k⟩
  refine ⟨w, ρ, _, eh, ev, g, hw, fun w1 x dx s1 g1 bx q1 => ?_⟩
  refine ⟨w1, ρ, _, rfl, ev.stp s1 g, g1, q1, fun w2 l s2 g2 q2 => ?_⟩
  refine ⟨w2, ρ, _, rfl, (ev.stp s1 g).stp s2 g1, g2, q2, fun w3 u s3 g3 q3 => ?_⟩
  obtain ⟨xs, rfl, qz⟩ := q3
  obtain ⟨a, vs, rfl, h1, h2⟩ := ((bx.stp s2 g1).stp s3 g2).seqL
  refine ⟨a, vs, rfl, h1, fun p hp => ?_⟩
  obtain ⟨y1, y2, y3, y4⟩ := new_ls ((s1.trans s2).trans s3) g3 hp (h2.cut l u)
  exact k _ p _ y1 y2 rfl y3 y4 qz
/-- the reading of a comprehension that makes a list of one's own -/
def lcGoN (wt : WT) (we : WE) (ρ : List En) (j : Nat) : List D → List D → Nat → (En → Nat → Prop) → Prop
  | [], acc, c, Q => Q (.ls acc) c
  | d :: r, acc, c, Q => wt (ρ.set j (.im d)) c fun b c1 => if b = true then we (ρ.set j (.im d)) c1 (fun y c2 => lcGoN wt we ρ j r (acc ++ [y]) c2 Q) else lcGoN wt we ρ j r acc c1 Q
def nLc (wi : WI) (wt : WT) (we : WE) (j : Nat) (vs : List Nat) : WN := fun ρ c Q => wi ρ c fun ds c1 => ds.length ≤ 16000000 ∧ lcGoN wt we (wipeE ρ vs) j ds [] c1 Q
theorem r_lcN {wi : WI} {wt : WT} {j : Nat} {vs : List Nat} (hj : j ∈ vs) : ∀ (σ : L2.St) (H : Hp) (Q : VK), tN M X.K (nLc wi wt we j vs) σ H Q → tLc (tI M X.K Stp wi) (gName j) (tT M X.K wt) (tE M X.K we) vs σ H Q := by
  rintro σ H Q ⟨w, ρ, Qd, eh, ev, g, hw, k⟩
  refine ⟨w, ρ, _, eh, ev, g, hw, fun w1 J ds s1 g1 jk q1 Dl hD => ?_⟩
  obtain ⟨hl, q1⟩ := q1
  have nF : ¬ w1.F Dl := fun f => g1.tf Dl f hD
  have nR : Dl ∉ w1.R := r_free g1 hD
  refine ⟨fun i m H' => ∃ (w' : W) (acc : List D) (us : List V), w'.H = H' ∧ m = ds.length - i ∧ i ≤ ds.length ∧ Stp w1 w' ∧ Gd M w' ∧ w'.H Dl = some (.lst us) ∧ ¬ w'.F Dl ∧ Dl ∉ w'.R ∧ DvA X.K w'.F w'.H us acc ∧ acc.length ≤ i ∧ lcGoN wt we (wipeE ρ vs) j (ds.drop i) acc w'.c Qd,
    ⟨ds.length, w1.own Dl (.lst []), [], [], rfl, by simp, Nat.zero_le _, stp_own hD, gd_own g1 hD, upd_same, nF, nR, .nil, Nat.le_refl _, q1⟩, ?_⟩
  rintro i m H' ⟨w', acc, us, rfl, rfl, hi, s', g', hDl, nf, nr, da, hal, q⟩
  have ev' := (ev.stp s1 g).stp s' g1
  by_cases hlt : i < ds.length
  · have ed : ds[i]? = some ds[i] := by simp [hlt]
    obtain ⟨jg, jy⟩ := jk.go w' i _ s' g' ed
    refine .inr ⟨jg, fun H2 => ∃ (w2 : W) (acc : List D) (us : List V), w2.H = H2 ∧ Stp w1 w2 ∧ Gd M w2 ∧ w2.H Dl = some (.lst us) ∧ ¬ w2.F Dl ∧ Dl ∉ w2.R ∧ DvA X.K w2.F w2.H us acc ∧ acc.length ≤ i + 1 ∧ lcGoN wt we (wipeE ρ vs) j (ds.drop (i + 1)) acc w2.c Qd, ?_, fun x H2 y => ?_⟩
    · rintro H2 ⟨w2, acc2, us2, h⟩
      exact ⟨ds.length - (i + 1), by omega, w2, acc2, us2, h.1, rfl, hlt, h.2⟩
    · obtain ⟨w2, rfl, ec, s2, g2, dx⟩ := jy x H2 y
      have q2 : lcGoN wt we (wipeE ρ vs) j (ds[i] :: ds.drop (i + 1)) acc w2.c Qd := by
        rw [ec, ← List.drop_eq_getElem_cons hlt]; exact q
      have keepD : ∀ {w3 : W}, Stp w2 w3 → w3.H Dl = some (.lst us) ∧ ¬ w3.F Dl ∧ Dl ∉ w3.R := fun {w3} s3 => by
        have h2 := s2.k _ _ hDl nr
        have n2 := r_up s2 hDl nr
        have f2 : ¬ w2.F Dl := fun z => (s2.f2 Dl z).elim nf fun e => by rw [hDl] at e; cases e
        exact ⟨s3.k _ _ h2 n2, (fun z => (s3.f2 Dl z).elim f2 fun e => (by rw [h2] at e; cases e)), r_up s3 h2 n2⟩
      refine ⟨wipe_set hj, w2, _, _, rfl, ((ev'.stp s2 g').wipe vs).setIm dx, g2, q2, fun w3 b s3 g3 q3 => ?_⟩
      have s13 := (s'.trans s2).trans s3
      have da3 := da.fk ((s2.trans s3).fk g')
      obtain ⟨h3, f3, n3⟩ := keepD s3
      cases b with
      | true =>
        refine iteT ⟨w3, _, _, rfl, (((ev'.stp s2 g').wipe vs).setIm dx).stp s3 g2, g3, q3, fun w4 v d s4 g4 dv q4 => ?_⟩
        obtain ⟨h4, f4, n4⟩ := keepD (s3.trans s4)
        have da4 := da3.fk (s4.fk g3)
        have z : w4.H Dl ≠ none := by rw [h4]; simp
        refine ⟨us, h4, (by rw [sizeLine_eq, da4.length]; omega), ?_⟩
        exact ⟨w4.own Dl (.lst (us ++ [v])), acc ++ [d], us ++ [v], rfl, stp_put (s13.trans s4) hD, gd_put g4 z n4, upd_same, f4, n4,
          (da4.app (.cons dv .nil)).fk (fk_put f4), by rw [List.length_append]; show acc.length + 1 ≤ i + 1; omega, q4⟩
      | false => exact iteF ⟨w3, acc, us, rfl, s13, g3, h3, f3, n3, da3, by omega, q3⟩
  · have e : i = ds.length := by omega
    subst e
    refine .inl ⟨jk.stop w' _ s' g' (Nat.le_refl _), ?_⟩
    rw [List.drop_length] at q
    have hDw : w.H Dl = none := nn s1 hD
    exact k w' Dl (.ls acc) (s1.trans s') g' rfl ⟨Dl, us, rfl, hDl, nf, nr, da⟩ (fun a sa => sa.elim (fun z => z ▸ hDw) fun ⟨_, _, _, z, _⟩ => by cases z) q
theorem n_lc {elt tg iter : Expr} {ifs : List Expr} {scope : Scope} {own : List (Str × Nat)} {wi : WI} {wt : WT} {j : Nat} (hj : j ∈ own.map (·.2)) (hc : X.calm = true) (hN : X.N.Nodup) (hi : PI X tg iter (tI M X.K Stp wi)) (ok : BlkOk X.N X.env.scope scope own)
    (hg : ∀ (s : Shared) (H : Hp) (C : Addr) (cl : List (Str × Addr)) (fp : List Addr), PG (X.blk s H scope (compEnvC scope cl C X.env) fp) tg (gName j)) (ht : ∀ (s : Shared) (H : Hp) (C : Addr) (cl : List (Str × Addr)) (fp : List Addr), PTs (X.blk s H scope (compEnvC scope cl C X.env) fp) ifs (tT M X.K wt))
    (he : ∀ (s : Shared) (H : Hp) (C : Addr) (cl : List (Str × Addr)) (fp : List Addr), PE (X.blk s H scope (compEnvC scope cl C X.env) fp) elt (tE M X.K we)) (hs : ∀ x, foldedSetIterable iter X.env x = pure x := by intro _; rfl) :
    PE X (.ListComp elt [⟨tg, iter, ifs, 0⟩] scope pos) (tN M X.K (nLc wi wt we j (own.map (·.2)))) := PE.imp (pe_lc hc hN hi ok hg ht he hs) (r_lcN hj)
end
end HW

/-! the draws -/
namespace HW
open PySem L2
def dI (xs : List Int) : List D := xs.map .int
/-- the draws' state: its cells, what is left, the count -/
structure Sv (H : Hp) (a c1 l : Addr) (cs ls : List Int) (k : Nat) : Prop where
  hm : H a = some (.dK [(.inr "cells", .ref c1), (.inr "great", .ref l), (.inr "spot", .int k)])
  hc : H c1 = some (.lst (cs.map V.int))
  hl : H l = some (.lst (ls.map V.int))
  hn : c1 ≠ l
theorem Sv.up {H H' : Hp} {a c1 l : Addr} {cs ls : List Int} {k : Nat} (h : Sv H a c1 l cs ls k) (u : ∀ b ∈ [a, c1, l], H' b = H b) : Sv H' a c1 l cs ls k :=
  ⟨(u _ (by simp)).trans h.hm, (u _ (by simp)).trans h.hc, (u _ (by simp)).trans h.hl, h.hn⟩
theorem Sv.ac {H : Hp} {a c1 l : Addr} {cs ls : List Int} {k : Nat} (h : Sv H a c1 l cs ls k) : a ≠ c1 := fun z => by have := h.hm; rw [z, h.hc] at this; cases this
theorem Sv.al {H : Hp} {a c1 l : Addr} {cs ls : List Int} {k : Nat} (h : Sv H a c1 l cs ls k) : a ≠ l := fun z => by have := h.hm; rw [z, h.hl] at this; cases this
def MD : MI := ⟨fun H a c R => ∃ c1 l cs ls k, R = [a, c1, l] ∧ Sv H a c1 l cs ls k ∧ k ≤ c, fun {H H' a c R} ⟨c1, l, cs, ls, k, e, s, h⟩ u => ⟨c1, l, cs, ls, k, e, s.up fun b hb => u b (by rw [e]; exact hb), h⟩, False⟩
def M0 : MI := ⟨fun _ _ _ _ => True, fun _ _ => True.intro, False⟩
def stD (cs ls : List Int) (k : Nat) : D := .dict [(.str "cells", .list (dI cs)), (.str "great", .list (dI ls)), (.str "spot", .int k)]
/-- within the def: where its state stands, and its slots -/
structure At (K : PySem.W.Frag) (w0 : W) (a c1 : Addr) (σ : L2.St) (H : Hp) (ρ : List En) (l : Addr) (cs ls : List Int) (k : Nat) : Prop where
  sv : Sv H a c1 l cs ls k
  len : σ.length = ρ.length
  s0 : σ[0]? = some (some (.ref a))
  r0 : ρ[0]? = some .un
  sl : ∀ (i : Nat) (e : En), ρ[i]? = some e → e = .un ∨ ∃ (d : D) (v : V), e = .im d ∧ flatD d = true ∧ σ[i]? = some (some v) ∧ ∀ P H, Dv K P H v d
  keep : ∀ b o, w0.H b = some o → b ∉ w0.R → H b = some o
  live : ∀ b, w0.H b ≠ none → H b ≠ none
  l0 : l ∈ w0.R ∨ w0.H l = none
  ra : a ∈ w0.R
section
variable {K : PySem.W.Frag} {w0 : W} {a c1 l : Addr} {σ : L2.St} {H H' : Hp} {ρ : List En} {cs ls : List Int} {k : Nat}
theorem At.up (h : At K w0 a c1 σ H ρ l cs ls k) (u : ∀ b o, H b = some o → H' b = some o) : At K w0 a c1 σ H' ρ l cs ls k where
  sv := ⟨u _ _ h.sv.hm, u _ _ h.sv.hc, u _ _ h.sv.hl, h.sv.hn⟩
  len := h.len
  s0 := h.s0
  r0 := h.r0
  sl := h.sl
  keep := fun b o e r => u _ _ (h.keep b o e r)
  live := fun b e => by
    cases q : H b with
    | none => exact absurd q (h.live b e)
    | some o => rw [u _ _ q]; simp
  l0 := h.l0
  ra := h.ra
/-- the state lent -/
def wl (a c1 l : Addr) (H : Hp) : W := ⟨fun b => b = a ∨ b = c1 ∨ b = l, [], H, 0, none⟩
theorem dvk_st (h : Sv H a c1 l cs ls k) : Dv K (wl a c1 l H).F H (.ref a) (stD cs ls k) := by
  have li : ∀ (b : Addr) (xs : List Int), (wl a c1 l H).F b → H b = some (.lst (xs.map V.int)) → Dv K (wl a c1 l H).F H (.ref b) (.list (dI xs)) := fun b xs f e => .lst (.inl ⟨f, .of e⟩) (DvA.of_ints xs)
  exact .dic (.inl rfl) (.inl h.hm) (.cons (k := .inr "cells") (li _ _ (.inr (.inl rfl)) h.hc) (.cons (k := .inr "great") (li _ _ (.inr (.inr rfl)) h.hl) (.cons (k := .inr "spot") (.int _) .nil)))
theorem At.env (h : At K w0 a c1 σ H ρ l cs ls k) : EnvOk K (wl a c1 l H) σ (ρ.set 0 (.im (stD cs ls k))) := by
  have at' : ∀ i e, (ρ.set 0 (.im (stD cs ls k)))[i]? = some e → (i = 0 ∧ e = .im (stD cs ls k)) ∨ ρ[i]? = some e := fun i e q => by
    by_cases z : 0 = i
    · subst z
      rw [List.getElem?_set] at q
      simp at q
      exact .inl ⟨rfl, q.2.symm⟩
    · rw [List.getElem?_set_ne z] at q
      exact .inr q
  refine ⟨by rw [List.length_set]; exact h.len, fun i e q => ?_, fun i j b o1 _ => ?_⟩
  · rcases at' i e q with ⟨rfl, rfl⟩ | q
    · exact ⟨_, h.s0, dvk_st h.sv⟩
    · rcases h.sl i e q with rfl | ⟨d, v, rfl, _, e1, e2⟩
      · exact True.intro
      · exact ⟨v, e1, e2 _ _⟩
  · obtain ⟨p, e, _, q, hm, _⟩ := o1
    rcases at' i e q with ⟨rfl, rfl⟩ | q
    · cases hm
    · rcases h.sl i e q with rfl | ⟨d, v, rfl, _⟩ <;> cases hm
theorem At.gd (h : At K w0 a c1 σ H ρ l cs ls k) : Gd M0 (wl a c1 l H) := by
  refine ⟨fun _ e => True.intro, fun _ => rfl, fun z => z.elim, fun b hb => ?_, fun b f => ?_⟩
  · exact absurd (show b ∈ ([] : List Addr) from hb) (by simp)
  · rcases (show b = a ∨ b = c1 ∨ b = l from f) with rfl | rfl | rfl
    · show H _ ≠ none; rw [h.sv.hm]; simp
    · show H _ ≠ none; rw [h.sv.hc]; simp
    · show H _ ≠ none; rw [h.sv.hl]; simp
theorem At.next (h : At K w0 a c1 σ H ρ l cs ls k) {w' : W} (s : Stp (wl a c1 l H) w') : At K w0 a c1 σ w'.H ρ l cs ls k := h.up fun b o e => s.k b o e fun z => absurd (show b ∈ ([] : List Addr) from z) (by simp)
theorem At.E {we : WE} {Q : VK} {Qd : D → Nat → Prop} (h : At K w0 a c1 σ H ρ l cs ls k) (q : we (ρ.set 0 (.im (stD cs ls k))) 0 Qd)
    (kk : ∀ H' v d c, At K w0 a c1 σ H' ρ l cs ls k → (flatD d = true → ∀ P H2, Dv K P H2 v d) → Qd d c → Q v H') : tE M0 K we σ H Q :=
  ⟨wl a c1 l H, _, Qd, rfl, h.env, h.gd, q, fun w' v d s g dv qd => kk _ v d _ (h.next s) (fun f P H2 => flat_any dv f) qd⟩
theorem At.T {wt : WT} {Q : Bool → Hp → Prop} {Qd : Bool → Nat → Prop} (h : At K w0 a c1 σ H ρ l cs ls k) (q : wt (ρ.set 0 (.im (stD cs ls k))) 0 Qd)
    (kk : ∀ H' b c, At K w0 a c1 σ H' ρ l cs ls k → Qd b c → Q b H') : tT M0 K wt σ H Q :=
  ⟨wl a c1 l H, _, Qd, rfl, h.env, h.gd, q, fun w' b s g qd => kk _ b _ (h.next s) qd⟩
theorem At.N {wn : WN} {Q : VK} {xs : List Int} (h : At K w0 a c1 σ H ρ l cs ls k) (q : wn (ρ.set 0 (.im (stD cs ls k))) 0 fun en _ => en = .ls (dI xs))
    (kk : ∀ H' p, At K w0 a c1 σ H' ρ l cs ls k → H p = none → H' p = some (.lst (xs.map V.int)) → Q (.ref p) H') : tN M0 K wn σ H Q :=
  ⟨wl a c1 l H, _, _, rfl, h.env, h.gd, q, fun w' p en s g hm he fr qd => by
    subst qd
    obtain ⟨p', vs, e1, e2, _, _, e5⟩ := he
    cases e1
    have e6 := e5.ints
    subst e6
    exact kk _ _ (h.next s) (fr _ (.inl rfl)) e2⟩
theorem At.set {i : Nat} {d : D} {v : V} (h : At K w0 a c1 σ H ρ l cs ls k) (hi : i ≠ 0) (f : flatD d = true) (hv : ∀ P H, Dv K P H v d) : At K w0 a c1 (σ.set i (some v)) H (ρ.set i (.im d)) l cs ls k where
  sv := h.sv
  len := by rw [List.length_set, List.length_set]; exact h.len
  s0 := by rw [List.getElem?_set_ne hi]; exact h.s0
  r0 := by rw [List.getElem?_set_ne hi]; exact h.r0
  sl := fun j e q => by
    by_cases z : i = j
    · subst z
      rw [List.getElem?_set] at q
      simp at q
      obtain ⟨q1, q2⟩ := q
      exact .inr ⟨d, v, q2.symm, f, by rw [List.getElem?_set_self (by rw [h.len]; exact q1)], hv⟩
    · rw [List.getElem?_set_ne z] at q ⊢
      exact h.sl j e q
  keep := h.keep
  live := h.live
  l0 := h.l0
  ra := h.ra
end
/-- n is drawn -/
def nextW : FW := fun es c Q => ∃ t : Int, es = [.st, .im (.int t)] ∧ 0 < t ∧ t < 2 ^ 200 ∧ c < 2 ^ 60 ∧ ∀ n : Int, 0 ≤ n → n < t → Q (.int n) (c + 1)
theorem o_len {X : Cx} : CallR X (.builtin "len") (rLen X.K) := callR_or call_len_seq (callR_or call_len_str len_rd)
theorem fltA_dI : ∀ xs : List Int, fltA (dI xs) = true
  | [] => rfl
  | x :: r => by show (flt (.int x) && fltA (dI r)) = true; rw [fltA_dI r]; rfl
theorem layA_dI : ∀ xs : List Int, PyData.canLayAll0 (dI xs) = true
  | [] => rfl
  | x :: r => by show (PyData.canLay0 (.int x) && PyData.canLayAll0 (dI r)) = true; rw [layA_dI r]; rfl
theorem depA_dI : ∀ xs : List Int, PyData.depthAll (dI xs) = 0
  | [] => rfl
  | x :: r => by show max (PyData.depth (.int x)) (PyData.depthAll (dI r)) = 0; rw [depA_dI r]; rfl
theorem shaped_dI (xs : List Int) : SeqAt.shaped (.list (dI xs)) = true := by
  show (PyData.canLayAll0 (dI xs) && decide (PyData.depthAll (dI xs) + 1 ≤ 64)) = true
  rw [layA_dI, depA_dI]
  rfl
theorem ne_nilD (xs : List Int) : neD (.list (dI xs)) (.list []) = some (.bool (!xs.isEmpty)) := by
  unfold neD
  rw [if_pos ⟨fltA_dI xs, rfl, shaped_dI xs, rfl⟩]
  cases xs <;> rfl
theorem eq_intD (i j : Int) : eqD (.int i) (.int j) = some (.bool (i == j)) := by
  unfold eqD
  rw [if_pos ⟨rfl, rfl, rfl, rfl⟩]
  rfl
theorem Sv.put {H : Hp} {a c1 l p : Addr} {cs ls xs : List Int} {k : Nat} (h : Sv H a c1 l cs ls k) (hp : H p = some (.lst (xs.map V.int))) (hc : c1 ≠ p) : Sv (upd H a (.dK (putK [(.inr "cells", .ref c1), (.inr "great", .ref l), (.inr "spot", .int k)] (.inr "great") (.ref p)))) a c1 p cs xs k where
  hm := by rw [upd_same]; rfl
  hc := by rw [upd_ne (Ne.symm h.ac)]; exact h.hc
  hl := by
    rw [upd_ne]
    · exact hp
    · intro z
      have := h.hm
      rw [← z, hp] at this
      cases this
  hn := hc
theorem Sv.at' {H : Hp} {a c1 l : Addr} {cs ls : List Int} {k : Nat} (h : Sv H a c1 l cs ls k) : Sv (upd H a (.dK (putK [(.inr "cells", .ref c1), (.inr "great", .ref l), (.inr "spot", .int k)] (.inr "spot") (.int ((k + 1 : Nat) : Int))))) a c1 l cs ls (k + 1) where
  hm := by rw [upd_same]; rfl
  hc := by rw [upd_ne (Ne.symm h.ac)]; exact h.hc
  hl := by rw [upd_ne (Ne.symm h.al)]; exact h.hl
  hn := h.hn
theorem Sv.first {H : Hp} {a c1 l : Addr} {cs r : List Int} {x y : Int} {k : Nat} (h : Sv H a c1 l cs (x :: r) k) : Sv (upd H l (.lst ((.int y :: r.map V.int)))) a c1 l cs (y :: r) k where
  hm := by rw [upd_ne h.al]; exact h.hm
  hc := by rw [upd_ne h.hn]; exact h.hc
  hl := by rw [upd_same]; rfl
  hn := h.hn
theorem w_key {ρ : List En} {cs ls : List Int} {k : Nat} {x : Str} {z : D} {c : Nat} {Q : D → Nat → Prop} (hr : ρ[0]? = some .un) (hl : lookK [(PyData.str "cells", PyData.list (dI cs)), (.str "great", .list (dI ls)), (.str "spot", .int k)] (.inr x) = some z) (q : Q z c) : wDix (wLook 0) (wC (.str x)) (ρ.set 0 (.im (stD cs ls k))) c Q :=
  ⟨.im (stD cs ls k), _, List.getElem?_set_self (List.getElem?_eq_some_iff.mp hr).1, rfl, _, .inr x, z, rfl, rfl, hl, q⟩
theorem w_left {ρ : List En} {cs ls : List Int} {k c : Nat} {Q : D → Nat → Prop} (hr : ρ[0]? = some .un) (q : Q (.list (dI ls)) c) : wDix (wLook 0) (wC (.str "great")) (ρ.set 0 (.im (stD cs ls k))) c Q := w_key hr rfl q
theorem w_cells {ρ : List En} {cs ls : List Int} {k c : Nat} {Q : D → Nat → Prop} (hr : ρ[0]? = some .un) (q : Q (.list (dI cs)) c) : wDix (wLook 0) (wC (.str "cells")) (ρ.set 0 (.im (stD cs ls k))) c Q := w_key hr rfl q
theorem w_at {ρ : List En} {cs ls : List Int} {k c : Nat} {Q : D → Nat → Prop} (hr : ρ[0]? = some .un) (q : Q (.int k) c) : wDix (wLook 0) (wC (.str "spot")) (ρ.set 0 (.im (stD cs ls k))) c Q := w_key hr rfl q
section
variable {K : PySem.W.Frag} {w0 : W} {a c1 l : Addr} {σ : L2.St} {H H' : Hp} {ρ : List En} {cs ls : List Int} {k : Nat}
theorem At.change {o : HO} {b l' : Addr} {ls' : List Int} {k' : Nat} (h : At K w0 a c1 σ H ρ l cs ls k) (hb : b ∈ w0.R ∨ w0.H b = none) (hl : l' ∈ w0.R ∨ w0.H l' = none) (sv : Sv (upd H b o) a c1 l' cs ls' k') : At K w0 a c1 σ (upd H b o) ρ l' cs ls' k' where
  sv := sv
  len := h.len
  s0 := h.s0
  r0 := h.r0
  sl := h.sl
  keep := fun d u e r => by
    have ne : d ≠ b := fun z => by
      rcases hb with y | y
      · exact r (z ▸ y)
      · rw [z, y] at e; cases e
    rw [upd_ne ne]
    exact h.keep d u e r
  live := fun d e => upd_some (h.live d e)
  l0 := hl
  ra := h.ra
theorem At.putL {p : Addr} {xs : List Int} (h : At K w0 a c1 σ H' ρ l cs ls k) (h0 : w0.H p = none) (hp : H' p = some (.lst (xs.map V.int))) (hn : c1 ≠ p) : At K w0 a c1 σ (upd H' a (.dK (putK [(.inr "cells", .ref c1), (.inr "great", .ref l), (.inr "spot", .int k)] (.inr "great") (.ref p)))) ρ p cs xs k :=
  h.change (.inl h.ra) (.inr h0) (h.sv.put hp hn)
theorem At.putAt (h : At K w0 a c1 σ H ρ l cs ls k) : At K w0 a c1 σ (upd H a (.dK (putK [(.inr "cells", .ref c1), (.inr "great", .ref l), (.inr "spot", .int k)] (.inr "spot") (.int ((k + 1 : Nat) : Int))))) ρ l cs ls (k + 1) :=
  h.change (.inl h.ra) h.l0 h.sv.at'
theorem At.put0 {x y : Int} {r : List Int} (h : At K w0 a c1 σ H ρ l cs (x :: r) k) : At K w0 a c1 σ (upd H l (.lst (.int y :: r.map V.int))) ρ l cs (y :: r) k :=
  h.change h.l0 h.l0 h.sv.first
end
theorem ix0 (x : Int) (r : List Int) : ixD (.list (dI (x :: r))) (.int 0) = some (.int x) := by
  show (ixN (dI (x :: r)).length 0).bind (fun j => (dI (x :: r))[j]?) = _
  unfold ixN
  rw [if_pos (by omega), if_pos (by show (0 : Int) < ((dI (x :: r)).length : Nat); simp [dI])]
  rfl
theorem ix_any (xs : List Int) {i : Int} (h0 : 0 ≤ i) (h1 : i < xs.length) : ∃ y, ixD (.list (dI xs)) (.int i) = some (.int y) := by
  have hl : (dI xs).length = xs.length := by simp [dI]
  show ∃ y, (ixN (dI xs).length i).bind (fun j => (dI xs)[j]?) = _
  unfold ixN
  rw [if_pos h0, if_pos (by rw [hl]; exact h1)]
  have h2 : i.toNat < xs.length := by omega
  exact ⟨xs[i.toNat], by simp [dI, h2]⟩
theorem cut1 (ls : List Int) (h : ls ≠ []) : cutL (dI ls) (some 1) none = dI (ls.drop 1) := by
  cases ls with
  | nil => exact absurd rfl h
  | cons x r =>
    unfold cutL HT.sIx
    simp [dI]
    exact List.take_of_length_le (by simp)
theorem mod_i {i j : Int} (h : 0 < j) : modD (.int i) (.int j) = some (.int (i % j)) := if_pos h
theorem fdv_i {i j : Int} (h : 0 < j) (h1 : j < 1073741824) : fdvD (.int i) (.int j) = some (.int (i / j)) := if_pos ⟨h, h1⟩
theorem mul_l {i j : Int} (h : -(2 ^ 64) < i ∧ i < 2 ^ 64) : mulD (.int i) (.int j) = some (.int (i * j)) := if_pos (.inl h)
theorem mul_r {i j : Int} (h : -(2 ^ 64) < j ∧ j < 2 ^ 64) : mulD (.int i) (.int j) = some (.int (i * j)) := if_pos (.inr h)
theorem ixN0 {n : Nat} (h : 0 < n) : ixN n 0 = some 0 := by
  unfold ixN
  rw [if_pos (by omega), if_pos (by omega)]
  rfl
theorem pow_i {i j : Int} (h : 0 ≤ j ∧ j ≤ 1000000 ∧ i.natAbs < 2 ^ 64) : powD (.int i) (.int j) = some (.int (i ^ j.toNat)) := if_pos h
end HW

/-! the law's own call, where nothing is being shown -/
namespace HW
open PySem L2 PySem.Spec PyProof.Rows
theorem law_callG {P : Program} {w : World} {K : PySem.W.Frag} {mg mb : Str → Option Value} {k : Nat} {fa a : Addr} {fd : FuncData} {x : Str} {sp : Sp} {t : Shared} {us : List Value} {ns : List Int}
    (inK : K.In t.heap) (nsM : t.heap.Ns mainGlobals mg) (nsB : t.heap.Ns builtinsNs mb) (boot : ∀ x : Str, x ≠ "__name__" → mb x = bootBuiltins x) (noLim : t.heap.NoLimit) (noGen : t.gens = #[])
    (at_a : t.heap.get? a = some { cls := .type "list", data := .seq us.toArray }) (intsA : IntsAre us ns) (len : ns.length ≤ sizeLine) (room : Room k callerA)
    (F : ∀ base : Heap, K.In base → base.Ns mainGlobals mg → FnG P w K mg base CX0 k fa fd [x] sp) (bind : ∀ (s : Shared) (u : Value), BindsTo s fd ⟨[u], []⟩ [(x, u)])
    (want : ∀ T : Hp, Only T → SqL K T a (ns.map V.int) → sp [.ref a] T (fun v _ => v = .bl true) fun _ _ _ => False) :
    codeAny (model P w) callerA (.call (.ref fa) ⟨[.ref a], []⟩) (fun r s' => r = .ok (.ret (.bool true)) ∧ OldK t.heap s'.heap ∧ s'.os = t.os ∧ AllBare s'.gens) t := by
  have vi := vals_ints intsA
  have li := intsA.length
  have go : ∀ T : Hp, Only T → SqL K T a (ns.map V.int) → HOk P w T t.heap → (∀ b, T b ≠ none → b = a) → (T a ≠ none → K.lookup a = none) →
      codeAny (model P w) callerA (.call (.ref fa) ⟨[.ref a], []⟩) (fun r s' => r = .ok (.ret (.bool true)) ∧ OldK t.heap s'.heap ∧ s'.os = t.os ∧ AllBare s'.gens) t := by
    intro T only sq hok one free
    have stays : ∀ {b : Addr} {o : Obj}, t.heap.get? b = some o → T b = none → (hidT t.heap T).get? b = some o := fun e n => hidT_get e n
    have dicts : ∀ {b : Addr} {o : Obj} {es : Array DictEntry} {ep : Nat}, t.heap.get? b = some o → o.data = .dict es ep → T b = none := by
      intro b o es ep e d
      by_cases q : T b = none
      · exact q
      · have eb := one b q
        subst eb
        rw [at_a] at e
        cases e
        exact absurd d (by intro z; cases z)
    have nss : ∀ {b : Addr} {m : Str → Option Value}, t.heap.Ns b m → (hidT t.heap T).Ns b m := by
      rintro b m ⟨o, es, ep, e, d, r⟩
      exact ⟨o, es, ep, stays e (dicts e d), d, r⟩
    have kIn : K.In (hidT t.heap T) := by
      intro b o e
      refine stays (inK b o e) ?_
      by_cases q : T b = none
      · exact q
      · have eb := one b q
        subst eb
        rw [free q] at e
        cases e
    obtain ⟨mc, l1, l2⟩ := noLim
    have md : Mod K mg (hidT t.heap T) := ⟨kIn, nss nsM, ⟨mb, nss nsB, boot⟩, mc, nss l1, l2⟩
    have env : Env0 P w K mg (hidT t.heap T) callerA [] t T :=
      ⟨rfl, md, fun b o e => of_hidT e, Nat.le_of_eq (hidT_size _ _), trivial, fun b hb => absurd (show b ∈ ([] : List Addr) from hb) (by simp), hok, .of_eq noGen⟩
    have run := (F _ kIn (nss nsM)).run callerA [] t T ⟨[.ref a], []⟩ [.ref a] [.ref a] _ _ rfl room env (bind t (.ref a)) (.cons rfl .nil) (want T only sq)
    refine codeAny_mono run fun r s' h => ?_
    cases r with
    | error e => exact False.elim h
    | ok fl =>
      cases fl with
      | ret u =>
        obtain ⟨v, T', os, bare, un, hok', rv, q⟩ := h
        obtain rfl : v = .bl true := q
        obtain rfl : u = Value.bool true := rv
        refine ⟨rfl, OldK.of_keep fun b o e => ?_, os, bare⟩
        by_cases q : T b = none
        · exact un.keep b o e q (fun z => absurd (show b ∈ ([] : List Addr) from z) (by simp)) (by simp)
        · rcases only b with z | ⟨ob, xs, z⟩
          · exact absurd z q
          · obtain ⟨e1, _⟩ := hok b _ z
            obtain ⟨e2, _⟩ := hok' b _ (un.frzs b ob _ z)
            rw [e] at e1
            cases e1
            exact e2
      | next => exact False.elim h
      | brk => exact False.elim h
      | cont => exact False.elim h
  by_cases hk : K.lookup a = none
  · refine go (fun b => if b = a then some (.frz { cls := .type "list", data := .seq us.toArray } (.lst (ns.map V.int))) else none) (fun b => ?_) (.inl (.inr ⟨_, if_pos rfl⟩)) (fun b u z => ?_) (fun b z => ?_) fun _ => hk
    · by_cases q : b = a
      · exact .inr ⟨_, _, if_pos q⟩
      · exact .inl (if_neg q)
    · by_cases q : b = a
      · have y := (if_pos q).symm.trans z
        cases y
        subst q
        exact ⟨at_a, (by rw [List.length_map]; exact len), us, _, vi, at_a⟩
      · have y := (if_neg q).symm.trans z
        cases y
    · by_cases q : b = a
      · exact q
      · exact absurd (if_neg q) z
  · obtain ⟨o, hk⟩ := Option.ne_none_iff_exists'.mp hk
    have e := inK a o hk
    rw [at_a] at e
    cases e
    exact go (fun _ => none) (fun _ => .inl rfl) (.inr ⟨_, us.toArray, _, hk, rfl, rfl, rfl, (by rw [List.size_toArray, li]; exact len), (by simpa using vi)⟩) (fun b u z => by cases z) (fun b z => absurd rfl z) fun z => absurd rfl z
theorem walkG {l : PySem.W.OpenLaw} {n k : Nat} {q : Program} {loose : List Str} {XP : (Str → Option Value) → Heap → Prop} {YP : World → Heap → Prop} {d : DefRec} {K : Params → PySem.W.Frag} {sp : PySem.W.Frag → Sp} {x : Str}
    (hn : l.most = some n) (small : n ≤ sizeLine) (nodf : d.params.defaults = []) (room : Room k callerA) (isIn : ∀ (w : World) (h : Heap), YP w h → (K w.params).In h)
    (F : ∀ (w : World) (mg : Str → Option Value) (fa : Addr) (h : Heap), (K w.params).In h → h.Ns mainGlobals mg → mg d.name = some (.ref fa) → ∃ fd : FuncData, (∀ (s : Shared) (u : Value), BindsTo s fd ⟨[u], []⟩ [(x, u)]) ∧
      ∀ base : Heap, (K w.params).In base → base.Ns mainGlobals mg → FnG l.prog w (K w.params) mg base CX0 k fa fd [x] (sp (K w.params)))
    (want : ∀ (K : PySem.W.Frag) (T : Hp) (a : Addr) (ns : List Int), ns.length ≤ n → Only T → SqL K T a (ns.map V.int) → sp K [.ref a] T (fun v _ => v = .bl true) fun _ _ _ => False) :
    PySem.W.WalkO q loose XP YP l.row.toRowW d [] (fun f vs => PySem.call f vs) := by
  refine Att.attach_call hn nodf fun w s₀ t mg mb fa o pm cd doc a us ns G Y _ _ _ hm at_a intsA len noGen => ?_
  have inK := isIn w _ Y
  obtain ⟨fd, hb, hF⟩ := F w mg fa _ inK G.T.g hm
  exact law_callG inK G.T.g G.T.b G.T.builtins G.T.nolimit noGen at_a intsA (Nat.le_trans len small) room hF hb fun T hO hS => want _ T a ns len hO hS
/-- the law's promise -/
def lawSp (K : PySem.W.Frag) : Sp := fun vs H Q _ => ∃ (v : V) (ns : List Int) (w : W), vs = [v] ∧ w.H = H ∧ w.mo = none ∧ w.c = 0 ∧ Gd MD w ∧ Dv K w.F w.H v (.list (dI ns)) ∧ ns.length ≤ 63 ∧ ∀ H', Q (.bl true) H'
theorem law_start {K : PySem.W.Frag} {T : Hp} {a : Addr} {ns : List Int} (h : ns.length ≤ 63) (sq : SqL K T a (ns.map V.int)) : lawSp K [.ref a] T (fun v _ => v = .bl true) fun _ _ _ => False := by
  refine ⟨.ref a, ns, ⟨fun b => T b ≠ none, [], T, 0, none⟩, rfl, rfl, rfl, rfl, ⟨fun b e => (by cases e), fun _ => rfl, fun z => z.elim, fun b hb => ?_, fun b f => f⟩, ?_, h, fun _ => rfl⟩
  · exact absurd (show b ∈ ([] : List Addr) from hb) (by simp)
  · refine .lst ?_ (DvA.of_ints ns)
    rcases sq with z | z
    · refine .inl ⟨?_, z⟩
      show T a ≠ none
      rcases z with z | ⟨o, z⟩ <;> rw [z] <;> simp
    · exact .inr z
/-- the draws begin -/
def begSp (K : PySem.W.Frag) : Sp := fun vs H Q _ => ∃ (w : W) (v : V) (xs : List Int), vs = [v] ∧ w.H = H ∧ w.mo = none ∧ Gd MD w ∧ Dv K w.F w.H v (.list (dI xs)) ∧ xs.length ≤ 1000 ∧
  ∀ (w' : W) (a : Addr), Stp w w' → Gd MD w' → w'.mo = some a → w'.c = w.c → Q (.ref a) w'.H
theorem PSs.ex {X : Cx} {sts : List Stmt} {α : Type} {t : α → TS} (h : ∀ a, PSs X sts (t a)) : PSs X sts (fun D σ H => ∃ a, t a D σ H) := ⟨fun p s σ H Q I ⟨a, q⟩ => (h a).run p s σ H Q I q⟩
/-- m = the draws' begin, then the rest by its word -/
def tLaw (K : PySem.W.Frag) (ws : WS) : TS := tSeq (tAsg (tCall (begSp K) [] E0 (tCons (tVar 0) tNil)) (gName 1)) (fun D σ H => ∃ w0, tS MD K w0 ws D σ H)
theorem law_run {K : PySem.W.Frag} {N : List Str} {ws : WS} {H : Hp} {vs : List V} {Q : VK} {E : XK} (hN : 2 ≤ N.length) (h : lawSp K vs H Q E)
    (math : ∀ ns : List Int, ns.length ≤ 63 → ws { nx := fun _ _ => False, rt := fun d _ => d = .bool true } ((startE N [.im (.list (dI ns))]).set 1 .st) 0) : tLaw K ws { nx := fun _ H' => Q .non H', rt := Q } (L2.start N vs) H := by
  obtain ⟨v, ns, w, rfl, rfl, mo, c0, g, dv, hl, k⟩ := h
  have a0 : ArgsOk K w [v] [.im (.list (dI ns))] := .im dv .nil
  have so := start_ok (N := N) g a0
  refine ⟨v, rfl, w, v, ns, rfl, rfl, mo, g, dv, by omega, fun w' a s' g' mo' c' => ?_⟩
  have so' := so.stp s' g'
  refine ⟨w, w', (startE N [.im (.list (dI ns))]).set 1 .st, _, rfl, ⟨so'.ev.setE rfl ⟨a, rfl, mo'⟩, g', s', fun i b o => so'.ow i b (own_set rfl o)⟩, (by rw [c', c0]; exact math ns hl), ?_⟩
  exact ⟨fun _ _ _ _ _ q => q.elim, fun w2 v2 d2 _ _ dv2 q => (by
    obtain rfl : d2 = .bool true := q
    cases dv2
    exact k _), fun _ _ _ _ _ q => q.elim, fun _ _ _ _ _ q => q.elim⟩
end HW

/-! {key: value for name in iter if ..} -/
namespace HW
open PySem L2
def dcGo (wt : WT) (wk we : WE) (ρ : List En) (j : Nat) : List D → List (D × D) → Nat → (List (D × D) → Nat → Prop) → Prop
  | [], acc, c, Q => Q acc c
  | d :: r, acc, c, Q => wt (ρ.set j (.im d)) c fun b c1 => if b = true then wk (ρ.set j (.im d)) c1 (fun y c2 => we (ρ.set j (.im d)) c2 fun z c3 => ∃ k, HW.keyOf y = some k ∧ dcGo wt wk we ρ j r (putD' acc k z) c3 Q) else dcGo wt wk we ρ j r acc c1 Q
theorem putD'_len (ds : List (D × D)) (k : Key) (v : D) : (putD' ds k v).length ≤ ds.length + 1 := by
  unfold putD'
  split
  · rw [List.length_map]; omega
  · rw [List.length_append]; exact Nat.le_refl _
section
variable {X : Cx} {M : MI}
theorem r_dcG {wi : WI} {wt : WT} {wk we : WE} {j : Nat} {vs : List Nat} (hj : j ∈ vs) {σ : L2.St} {Q : VK} {w : W} {ρ : List En} {Qd : List (D × D) → Nat → Prop} (ev : EnvOk X.K w σ ρ) (g : Gd M w)
    (hw : wi ρ w.c fun ds c1 => ds.length ≤ 16000000 ∧ dcGo wt wk we (wipeE ρ vs) j ds [] c1 Qd)
    (k : ∀ (w' : W) (Dl : Addr) (kvs : List (Key × V)) (acc : List (D × D)), Stp w w' → Gd M w' → w'.H Dl = some (.dK kvs) → ¬ w'.F Dl → Dl ∉ w'.R → DvK X.K w'.F w'.H kvs acc → w.H Dl = none → Qd acc w'.c → Q (.ref Dl) w'.H) :
    tDc (tI M X.K Stp wi) (gName j) (tT M X.K wt) (tB M X.K wk) (tE M X.K we) vs σ w.H Q := by
  refine ⟨w, ρ, _, rfl, ev, g, hw, fun w1 J ds s1 g1 jk q1 Dl hD => ?_⟩
  obtain ⟨hl, q1⟩ := q1
  have nF : ¬ w1.F Dl := fun f => g1.tf Dl f hD
  have nR : Dl ∉ w1.R := r_free g1 hD
  have hDw : w.H Dl = none := nn s1 hD
  refine ⟨fun i m H' => ∃ (w' : W) (acc : List (D × D)) (us : List (Key × V)), w'.H = H' ∧ m = ds.length - i ∧ i ≤ ds.length ∧ Stp w1 w' ∧ Gd M w' ∧ w'.H Dl = some (.dK us) ∧ ¬ w'.F Dl ∧ Dl ∉ w'.R ∧ DvK X.K w'.F w'.H us acc ∧ acc.length ≤ i ∧ dcGo wt wk we (wipeE ρ vs) j (ds.drop i) acc w'.c Qd,
    ⟨ds.length, w1.own Dl (.dK []), [], [], rfl, by simp, Nat.zero_le _, stp_own hD, gd_own g1 hD, upd_same, nF, nR, .nil, Nat.le_refl _, q1⟩, ?_⟩
  rintro i m H' ⟨w', acc, us, rfl, rfl, hi, s', g', hDl, nf, nr, da, hal, q⟩
  have ev' := (ev.stp s1 g).stp s' g1
  by_cases hlt : i < ds.length
  · have ed : ds[i]? = some ds[i] := by simp [hlt]
    obtain ⟨jg, jy⟩ := jk.go w' i _ s' g' ed
    refine .inr ⟨jg, fun H2 => ∃ (w2 : W) (acc : List (D × D)) (us : List (Key × V)), w2.H = H2 ∧ Stp w1 w2 ∧ Gd M w2 ∧ w2.H Dl = some (.dK us) ∧ ¬ w2.F Dl ∧ Dl ∉ w2.R ∧ DvK X.K w2.F w2.H us acc ∧ acc.length ≤ i + 1 ∧ dcGo wt wk we (wipeE ρ vs) j (ds.drop (i + 1)) acc w2.c Qd, ?_, fun x H2 y => ?_⟩
    · rintro H2 ⟨w2, acc2, us2, h⟩
      exact ⟨ds.length - (i + 1), by omega, w2, acc2, us2, h.1, rfl, hlt, h.2⟩
    · obtain ⟨w2, rfl, ec, s2, g2, dx⟩ := jy x H2 y
      have q2 : dcGo wt wk we (wipeE ρ vs) j (ds[i] :: ds.drop (i + 1)) acc w2.c Qd := by
        rw [ec, ← List.drop_eq_getElem_cons hlt]; exact q
      have keepD : ∀ {w3 : W}, Stp w2 w3 → w3.H Dl = some (.dK us) ∧ ¬ w3.F Dl ∧ Dl ∉ w3.R := fun {w3} s3 => by
        have h2 := s2.k _ _ hDl nr
        have n2 := r_up s2 hDl nr
        have f2 : ¬ w2.F Dl := fun z => (s2.f2 Dl z).elim nf fun e => by rw [hDl] at e; cases e
        exact ⟨s3.k _ _ h2 n2, (fun z => (s3.f2 Dl z).elim f2 fun e => (by rw [h2] at e; cases e)), r_up s3 h2 n2⟩
      have ev2 := ((ev'.stp s2 g').wipe vs).setIm (i := j) dx
      refine ⟨wipe_set hj, w2, _, _, rfl, ev2, g2, q2, fun w3 b s3 g3 q3 => ?_⟩
      have s13 := (s'.trans s2).trans s3
      have da3 := da.fk ((s2.trans s3).fk g')
      obtain ⟨h3, f3, n3⟩ := keepD s3
      have ev3 := ev2.stp s3 g2
      cases b with
      | false => exact iteF ⟨w3, acc, us, rfl, s13, g3, h3, f3, n3, da3, by omega, q3⟩
      | true =>
        refine iteT ⟨w3, _, _, rfl, ev3, g3, q3, fun w4 y dy s4 g4 by' q4 => ?_⟩
        refine ⟨w4, _, _, rfl, ev3.stp s4 g3, g4, q4, fun w5 z dz s5 g5 dvz q5 => ?_⟩
        obtain ⟨kk, ek, q5⟩ := q5
        obtain ⟨h5, f5, n5⟩ := keepD ((s3.trans s4).trans s5)
        have da5 := da3.fk ((s4.trans s5).fk g3)
        have zz : w5.H Dl ≠ none := by rw [h5]; simp
        refine ⟨us, kk, kV_of by' ek, h5, (by rw [sizeLine_eq, da5.length]; omega), ?_⟩
        exact ⟨w5.own Dl (.dK (putK us kk z)), putD' acc kk dz, putK us kk z, rfl, stp_put ((s13.trans s4).trans s5) hD, gd_put g5 zz n5, upd_same, f5, n5,
          (DvK.put dvz da5).fk (fk_put f5), by have := putD'_len acc kk dz; omega, q5⟩
  · have e : i = ds.length := by omega
    subst e
    refine .inl ⟨jk.stop w' _ s' g' (Nat.le_refl _), ?_⟩
    rw [List.drop_length] at q
    exact k w' Dl us acc (s1.trans s') g' hDl nf nr da hDw q
section
variable {kx vx tg iter : Expr} {ifs : List Expr} {scope : Scope} {own : List (Str × Nat)} {pos : Pos} {wi : WI} {wt : WT} {wk we : WE} {j : Nat}
def wDc (wi : WI) (wt : WT) (wk we : WE) (j : Nat) (vs : List Nat) : WE := fun ρ c Q => wi ρ c fun ds c1 => ds.length ≤ 16000000 ∧ dcGo wt wk we (wipeE ρ vs) j ds [] c1 fun acc c2 => Q (.dict acc) c2
def nDcC (wi : WI) (wt : WT) (wk we : WE) (j : Nat) (vs : List Nat) : WN := fun ρ c Q => wi ρ c fun ds c1 => ds.length ≤ 16000000 ∧ dcGo wt wk we (wipeE ρ vs) j ds [] c1 fun acc c2 => Q (.dc acc) c2
theorem e_dc (hj : j ∈ own.map (·.2)) (hc : X.calm = true) (hN : X.N.Nodup) (hi : PI X tg iter (tI M X.K Stp wi)) (ok : BlkOk X.N X.env.scope scope own)
    (hg : ∀ (s : Shared) (H : Hp) (C : Addr) (cl : List (Str × Addr)) (fp : List Addr), PG (X.blk s H scope (compEnvC scope cl C X.env) fp) tg (gName j)) (ht : ∀ (s : Shared) (H : Hp) (C : Addr) (cl : List (Str × Addr)) (fp : List Addr), PTs (X.blk s H scope (compEnvC scope cl C X.env) fp) ifs (tT M X.K wt))
    (hk : ∀ (s : Shared) (H : Hp) (C : Addr) (cl : List (Str × Addr)) (fp : List Addr), PE (X.blk s H scope (compEnvC scope cl C X.env) fp) kx (tB M X.K wk))
    (he : ∀ (s : Shared) (H : Hp) (C : Addr) (cl : List (Str × Addr)) (fp : List Addr), PE (X.blk s H scope (compEnvC scope cl C X.env) fp) vx (tE M X.K we)) (hs : ∀ x, foldedSetIterable iter X.env x = pure x := by intro _; rfl) :
    PE X (.DictComp kx vx [⟨tg, iter, ifs, 0⟩] scope pos) (tE M X.K (wDc wi wt wk we j (own.map (·.2)))) := by
  refine PE.imp (pe_dc hc hN hi ok hg ht hk he hs) ?_
  rintro σ H Q ⟨w, ρ, Qd, rfl, ev, g, hw, k⟩
  exact r_dcG hj ev g hw fun w' Dl kvs acc s g' hD nf nr da hn q => k (w'.frz Dl) _ _ (stp_frz s hn) (gd_frz g' (by rw [hD]; simp) nr) (.dic (.inr rfl) (.inl hD) (da.fk fk_frz)) q
theorem n_dc (hj : j ∈ own.map (·.2)) (hc : X.calm = true) (hN : X.N.Nodup) (hi : PI X tg iter (tI M X.K Stp wi)) (ok : BlkOk X.N X.env.scope scope own)
    (hg : ∀ (s : Shared) (H : Hp) (C : Addr) (cl : List (Str × Addr)) (fp : List Addr), PG (X.blk s H scope (compEnvC scope cl C X.env) fp) tg (gName j)) (ht : ∀ (s : Shared) (H : Hp) (C : Addr) (cl : List (Str × Addr)) (fp : List Addr), PTs (X.blk s H scope (compEnvC scope cl C X.env) fp) ifs (tT M X.K wt))
    (hk : ∀ (s : Shared) (H : Hp) (C : Addr) (cl : List (Str × Addr)) (fp : List Addr), PE (X.blk s H scope (compEnvC scope cl C X.env) fp) kx (tB M X.K wk))
    (he : ∀ (s : Shared) (H : Hp) (C : Addr) (cl : List (Str × Addr)) (fp : List Addr), PE (X.blk s H scope (compEnvC scope cl C X.env) fp) vx (tE M X.K we)) (hs : ∀ x, foldedSetIterable iter X.env x = pure x := by intro _; rfl) :
    PE X (.DictComp kx vx [⟨tg, iter, ifs, 0⟩] scope pos) (tN M X.K (nDcC wi wt wk we j (own.map (·.2)))) := by
  refine PE.imp (pe_dc hc hN hi ok hg ht hk he hs) ?_
  rintro σ H Q ⟨w, ρ, Qd, rfl, ev, g, hw, k⟩
  exact r_dcG hj ev g hw fun w' Dl kvs acc s g' hD nf nr da hn q => k w' Dl (.dc acc) s g' rfl ⟨Dl, kvs, rfl, hD, nf, nr, da⟩ (fun a sa => sa.elim (fun z => z ▸ hn) fun ⟨_, _, _, z, _⟩ => by cases z) q
end
end
end HW

/-! while; texts stripped -/
namespace HW
open PySem L2
section
variable {X : Cx} {M : MI} {w0 : W} {wt : WT} {ws : WS}
def wWhile (wt : WT) (ws : WS) : WS := fun dd ρ c => ∃ I : Nat → List En → Nat → Prop, (∃ n, I n ρ c) ∧ ∀ (n : Nat) (ρ : List En) (c : Nat), I n ρ c → wt ρ c fun b c1 =>
  if b = true then ws { dd with nx := fun ρ' c' => ∃ m, m < n ∧ I m ρ' c', ct := fun ρ' c' => ∃ m, m < n ∧ I m ρ' c', bk := dd.nx } ρ c1 else dd.nx ρ c1
theorem s_while {c : Expr} {body : List Stmt} {pos : Pos} (hp : PassesOwn (model X.prog X.w) X.A X.env X.xe) (hc : L2.PT X c (tT M X.K wt)) (hb : PSs X body (tS M X.K w0 ws)) : PS X (.While c body [] pos) (tS M X.K w0 (wWhile wt ws)) := by
  refine PS.imp (ps_while hp hc hb) ?_
  rintro D σ H ⟨w, ρ, dd, rfl, so, ⟨I, ⟨n0, i0⟩, st⟩, k⟩
  refine ⟨fun m σ' H' => ∃ (w' : W) (ρ' : List En), w'.H = H' ∧ Fk w w' ∧ SOk M X.K w0 w' σ' ρ' ∧ I m ρ' w'.c, ⟨n0, w, ρ, rfl, Fk.refl w, so, i0⟩, ?_⟩
  rintro m σ' H' ⟨w', ρ', rfl, f', so', i'⟩
  refine ⟨w', ρ', _, rfl, so'.ev, so'.gd, st m ρ' w'.c i', fun w1 b s1 g1 q1 => ?_⟩
  have so1 := so'.stp s1 g1
  have f1 := f'.trans (s1.fk so'.gd)
  cases b with
  | true =>
    refine iteT ⟨fun σ2 H2 => ∃ (w2 : W) (ρ2 : List En), w2.H = H2 ∧ Fk w w2 ∧ SOk M X.K w0 w2 σ2 ρ2 ∧ ∃ m2, m2 < m ∧ I m2 ρ2 w2.c, ?_, ?_⟩
    · rintro σ2 H2 ⟨w2, ρ2, e, f2, so2, m2, hm, i2⟩
      exact ⟨m2, hm, w2, ρ2, e, f2, so2, i2⟩
    · refine ⟨w1, ρ', _, rfl, so1, q1, fun w2 σ2 ρ2 f2 so2 q2 => ?_, k.rt, fun w2 σ2 ρ2 f2 so2 q2 => k.nx w2 σ2 ρ2 (f1.trans f2) so2 q2, fun w2 σ2 ρ2 f2 so2 q2 => ?_⟩
      · obtain ⟨m2, hm, i2⟩ := q2
        exact ⟨w2, ρ2, rfl, f1.trans f2, so2, m2, hm, i2⟩
      · obtain ⟨m2, hm, i2⟩ := q2
        exact ⟨w2, ρ2, rfl, f1.trans f2, so2, m2, hm, i2⟩
  | false => exact iteF (k.nx w1 σ' ρ' f1 so1 q1)
/-! texts stripped -/
def lscD : D → D → Option D
  | .str a, .str b => if a.length ≤ LIM then some (.str (Txt.lstripChars a b)) else none
  | _, _ => none
def rscD : D → D → Option D
  | .str a, .str b => if a.length ≤ LIM then some (.str (Txt.rstripChars a b)) else none
  | _, _ => none
def scD : D → D → Option D
  | .str a, .str b => if a.length ≤ LIM then some (.str (Txt.stripChars a b)) else none
  | _, _ => none
theorem d_lsc : FnM M X.K (fun x xs H Q => ∃ a b, x = .str a ∧ xs = [.str b] ∧ a.length ≤ sizeLine ∧ Q (.str (Txt.lstripChars a b)) H) lscD := fun w x y dy z Q g hy e k => by
  cases dy <;> simp only [lscD, reduceCtorEq] at e
  split at e
  · cases e; cases hy.str; exact ⟨x, _, rfl, rfl, lim_size (by assumption), keepQ g (.str _) k⟩
  · cases e
theorem d_rsc : FnM M X.K (fun x xs H Q => ∃ a b, x = .str a ∧ xs = [.str b] ∧ a.length ≤ sizeLine ∧ Q (.str (Txt.rstripChars a b)) H) rscD := fun w x y dy z Q g hy e k => by
  cases dy <;> simp only [rscD, reduceCtorEq] at e
  split at e
  · cases e; cases hy.str; exact ⟨x, _, rfl, rfl, lim_size (by assumption), keepQ g (.str _) k⟩
  · cases e
theorem d_sc : FnM M X.K (fun x xs H Q => ∃ a b, x = .str a ∧ xs = [.str b] ∧ a.length ≤ sizeLine ∧ Q (.str (Txt.stripChars a b)) H) scD := fun w x y dy z Q g hy e k => by
  cases dy <;> simp only [scD, reduceCtorEq] at e
  split at e
  · cases e; cases hy.str; exact ⟨x, _, rfl, rfl, lim_size (by assumption), keepQ g (.str _) k⟩
  · cases e
/-! y = xs.pop(), xs a list of one's own -/
theorem DvA.snoc {K : PySem.W.Frag} {P : Addr → Prop} {H : Hp} {d : D} : ∀ {vs : List V} {ds : List D}, DvA K P H vs (ds ++ [d]) → ∃ us v, vs = us ++ [v] ∧ DvA K P H us ds ∧ Dv K P H v d
  | _, [], .cons h .nil => ⟨[], _, rfl, .nil, h⟩
  | _, _ :: _, .cons h r => by
    obtain ⟨us, v, rfl, h1, h2⟩ := DvA.snoc r
    exact ⟨_ :: us, v, rfl, .cons h h1, h2⟩
def wPop (i k : Nat) : WS := fun dd ρ c => i ≠ k ∧ ∃ ds d, ρ[i]? = some (.ls (ds ++ [d])) ∧ dd.nx ((ρ.set i (.ls ds)).set k (.im d)) c
theorem s_pop {x y : Str} {i k : Nat} {p1 py ap cp pos : Pos} (hN : X.N.Nodup) (hk : X.N[k]? = some y) (hy : Loc X.env.scope y) (hx : PE X (.Name x p1) (tVar i)) (hbase : attributeBase (.Name x p1) "pop" X.env (eval (.Name x p1) X.env) = eval (.Name x p1) X.env := by rfl)
    (hline : (ap.endLine == cp.line) = true := by rfl) (hs : swapsWith (.Call (.Attribute (.Name x p1) "pop" ap) [] [] cp) (some (.Name y py)) pos.line X.env = pure false := by rfl) (hf : X.fn y = true ∨ X.env.scope.names.lookup y = some .local := by first | exact .inl rfl | exact .inr rfl | assumption) :
    PS X (.Assign [.Name y py] (.Call (.Attribute (.Name x p1) "pop" ap) [] [] cp) pos) (tS M X.K w0 (wPop i k)) := by
  refine PS.imp (ps_set hN hk hy (pe_bm0 PySem.F.plainAttrs_list PySem.F.slot_list_pop PySem.F.type_list_pop mt_pop hx hbase hline) hs hf) ?_
  rintro D σ H ⟨w, ρ, dd, rfl, so, ⟨ne, ds, d, r, q⟩, kk⟩
  obtain ⟨a, vs, e1, e2, e3, e4, e5⟩ := so.ev.ok i _ r
  obtain ⟨us, v, rfl, h1, h2⟩ := e5.snoc
  refine ⟨_, e1, tyL e2, a, us ++ [v], v, rfl, rfl, e2, by simp, ?_⟩
  rw [List.dropLast_concat]
  have so1 := so.put (i := i) (a := a) (o := .lst us) (en' := .ls ds) e1 r rfl (.inl rfl) rfl ⟨a, us, rfl, upd_same, e3, e4, h1.fk (fk_put e3)⟩ fun b sb => ls_same sb
  exact kk.nx (w.own a (.lst us)) _ _ (fk_put e3) (so1.setIm (h2.fk (fk_put e3))) q
end
end HW

/-! [elt for a, b in iter if ..] -/
namespace HW
open PySem L2
theorem wipe_put {vs : List Nat} {σ : L2.St} {j : Nat} {x : Option V} (h : j ∈ vs) : L2.wipe (σ.set j x) vs = L2.wipe σ vs := by
  refine wipe_wipe (by rw [List.length_set]) fun i hi => ?_
  have ne : j ≠ i := fun z => hi (by rw [← z]; exact h)
  rw [List.getElem?_set_ne ne]
theorem wipe_twice {vs : List Nat} {σ : L2.St} : L2.wipe (L2.wipe σ vs) vs = L2.wipe σ vs := wipe_wipe (by rw [wipe_length]) fun i hi => wipe_no hi
section
variable {K : PySem.W.Frag} {w : W}
/-- a tuple's items stored in names -/
theorem env_tup : ∀ {js : List Nat} {ds : List D} {xs : List V} {σ : L2.St} {ρ : List En} {vs : List Nat} {Qd : List En → Prop} {Q : L2.St → Hp → Prop}, EnvOk K w σ ρ → DvA K w.F w.H xs ds → (∀ j ∈ js, j ∈ vs) → gTs js ds ρ Qd →
    (∀ σ' ρ', EnvOk K w σ' ρ' → L2.wipe σ' vs = L2.wipe σ vs → Qd ρ' → Q σ' w.H) → gNames js xs σ w.H Q
  | [], [], _, σ, ρ, vs, Qd, Q, ev, .nil, _, h, k => ⟨rfl, k σ ρ ev rfl (by simpa only [gTs] using h)⟩
  | j :: js, d :: ds, _, σ, ρ, vs, Qd, Q, ev, .cons hv hr, hj, h, k => by
    refine ⟨_, _, rfl, ?_⟩
    exact env_tup (ev.setIm (i := j) hv) hr (fun i hi => hj i (List.mem_cons_of_mem _ hi)) (by simpa only [gTs] using h) fun σ' ρ' e1 e2 q => k σ' ρ' e1 (e2.trans (wipe_put (hj j List.mem_cons_self))) q
  | [], _ :: _, _, _, _, _, _, _, _, _, _, h, _ => by simp only [gTs] at h
  | _ :: _, [], _, _, _, _, _, _, _, _, _, h, _ => by simp only [gTs] at h
end
def lcGoT (wt : WT) (we : WE) (ρ : List En) (js : List Nat) : List D → List D → Nat → (D → Nat → Prop) → Prop
  | [], acc, c, Q => Q (.list acc) c
  | d :: r, acc, c, Q => ∃ ds, d = .tuple ds ∧ gTs js ds ρ fun ρ' => wt ρ' c fun b c1 => if b = true then we ρ' c1 (fun y c2 => lcGoT wt we ρ js r (acc ++ [y]) c2 Q) else lcGoT wt we ρ js r acc c1 Q
def wLcT (wi : WI) (wt : WT) (we : WE) (js vs : List Nat) : WE := fun ρ c Q => wi ρ c fun ds c1 => ds.length ≤ 16000000 ∧ lcGoT wt we (wipeE ρ vs) js ds [] c1 Q
section
variable {X : Cx} {M : MI}
theorem r_lcT {wi : WI} {wt : WT} {we : WE} {js vs : List Nat} (hj : ∀ j ∈ js, j ∈ vs) : ∀ (σ : L2.St) (H : Hp) (Q : VK), tE M X.K (wLcT wi wt we js vs) σ H Q → tLc (tI M X.K Stp wi) (gTup X.K js.length (gNames js)) (tT M X.K wt) (tE M X.K we) vs σ H Q := by
  rintro σ H Q ⟨w, ρ, Qd, eh, ev, g, hw, k⟩
  refine ⟨w, ρ, _, eh, ev, g, hw, fun w1 J ds s1 g1 jk q1 Dl hD => ?_⟩
  obtain ⟨hl, q1⟩ := q1
  have nF : ¬ w1.F Dl := fun f => g1.tf Dl f hD
  have nR : Dl ∉ w1.R := r_free g1 hD
  refine ⟨fun i m H' => ∃ (w' : W) (acc : List D) (us : List V), w'.H = H' ∧ m = ds.length - i ∧ i ≤ ds.length ∧ Stp w1 w' ∧ Gd M w' ∧ w'.H Dl = some (.lst us) ∧ ¬ w'.F Dl ∧ Dl ∉ w'.R ∧ DvA X.K w'.F w'.H us acc ∧ acc.length ≤ i ∧ lcGoT wt we (wipeE ρ vs) js (ds.drop i) acc w'.c Qd,
    ⟨ds.length, w1.own Dl (.lst []), [], [], rfl, by simp, Nat.zero_le _, stp_own hD, gd_own g1 hD, upd_same, nF, nR, .nil, Nat.le_refl _, q1⟩, ?_⟩
  rintro i m H' ⟨w', acc, us, rfl, rfl, hi, s', g', hDl, nf, nr, da, hal, q⟩
  have ev' := (ev.stp s1 g).stp s' g1
  by_cases hlt : i < ds.length
  · have ed : ds[i]? = some ds[i] := by simp [hlt]
    obtain ⟨jg, jy⟩ := jk.go w' i _ s' g' ed
    refine .inr ⟨jg, fun H2 => ∃ (w2 : W) (acc : List D) (us : List V), w2.H = H2 ∧ Stp w1 w2 ∧ Gd M w2 ∧ w2.H Dl = some (.lst us) ∧ ¬ w2.F Dl ∧ Dl ∉ w2.R ∧ DvA X.K w2.F w2.H us acc ∧ acc.length ≤ i + 1 ∧ lcGoT wt we (wipeE ρ vs) js (ds.drop (i + 1)) acc w2.c Qd, ?_, fun x H2 y => ?_⟩
    · rintro H2 ⟨w2, acc2, us2, h⟩
      exact ⟨ds.length - (i + 1), by omega, w2, acc2, us2, h.1, rfl, hlt, h.2⟩
    · obtain ⟨w2, rfl, ec, s2, g2, dx⟩ := jy x H2 y
      have q2 : lcGoT wt we (wipeE ρ vs) js (ds[i] :: ds.drop (i + 1)) acc w2.c Qd := by
        rw [ec, ← List.drop_eq_getElem_cons hlt]; exact q
      obtain ⟨es, ee, q2⟩ := q2
      rw [ee] at dx
      have keepD : ∀ {w3 : W}, Stp w2 w3 → w3.H Dl = some (.lst us) ∧ ¬ w3.F Dl ∧ Dl ∉ w3.R := fun {w3} s3 => by
        have h2 := s2.k _ _ hDl nr
        have n2 := r_up s2 hDl nr
        have f2 : ¬ w2.F Dl := fun z => (s2.f2 Dl z).elim nf fun e => by rw [hDl] at e; cases e
        exact ⟨s3.k _ _ h2 n2, (fun z => (s3.f2 Dl z).elim f2 fun e => (by rw [h2] at e; cases e)), r_up s3 h2 n2⟩
      cases dx with
      | @tup a xs _ p1 p2 =>
        refine ⟨a, xs, rfl, p1.sq, by rw [p2.length, gTs_len q2], ?_⟩
        refine env_tup ((ev'.stp s2 g').wipe vs) p2 hj q2 fun σ2 ρ2 ev2 ew q2 => ?_
        refine ⟨ew.trans wipe_twice, w2, ρ2, _, rfl, ev2, g2, q2, fun w3 b s3 g3 q3 => ?_⟩
        have s13 := (s'.trans s2).trans s3
        have da3 := da.fk ((s2.trans s3).fk g')
        obtain ⟨h3, f3, n3⟩ := keepD s3
        cases b with
        | true =>
          refine iteT ⟨w3, ρ2, _, rfl, ev2.stp s3 g2, g3, q3, fun w4 v d s4 g4 dv q4 => ?_⟩
          obtain ⟨h4, f4, n4⟩ := keepD (s3.trans s4)
          have da4 := da3.fk (s4.fk g3)
          have z : w4.H Dl ≠ none := by rw [h4]; simp
          refine ⟨us, h4, (by rw [sizeLine_eq, da4.length]; omega), ?_⟩
          exact ⟨w4.own Dl (.lst (us ++ [v])), acc ++ [d], us ++ [v], rfl, stp_put (s13.trans s4) hD, gd_put g4 z n4, upd_same, f4, n4,
            (da4.app (.cons dv .nil)).fk (fk_put f4), by rw [List.length_append]; show acc.length + 1 ≤ i + 1; omega, q4⟩
        | false => exact iteF ⟨w3, acc, us, rfl, s13, g3, h3, f3, n3, da3, by omega, q3⟩
  · have e : i = ds.length := by omega
    subst e
    refine .inl ⟨jk.stop w' _ s' g' (Nat.le_refl _), ?_⟩
    rw [List.drop_length] at q
    have hDw : w.H Dl = none := nn s1 hD
    exact k (w'.frz Dl) _ _ (stp_frz (s1.trans s') hDw) (gd_frz g' (by rw [hDl]; simp) nr) (.lst (.inl ⟨.inr rfl, .of hDl⟩) (da.fk fk_frz)) q
section
variable {elt tg iter : Expr} {ifs : List Expr} {scope : Scope} {own : List (Str × Nat)} {pos : Pos} {wi : WI} {wt : WT} {we : WE} {js : List Nat} {w0 : W}
theorem e_lcT (hj : ∀ j ∈ js, j ∈ own.map (·.2)) (hc : X.calm = true) (hN : X.N.Nodup) (hi : PI X tg iter (tI M X.K Stp wi)) (ok : BlkOk X.N X.env.scope scope own)
    (hg : ∀ (s : Shared) (H : Hp) (C : Addr) (cl : List (Str × Addr)) (fp : List Addr), PG (X.blk s H scope (compEnvC scope cl C X.env) fp) tg (gTup X.K js.length (gNames js))) (ht : ∀ (s : Shared) (H : Hp) (C : Addr) (cl : List (Str × Addr)) (fp : List Addr), PTs (X.blk s H scope (compEnvC scope cl C X.env) fp) ifs (tT M X.K wt))
    (he : ∀ (s : Shared) (H : Hp) (C : Addr) (cl : List (Str × Addr)) (fp : List Addr), PE (X.blk s H scope (compEnvC scope cl C X.env) fp) elt (tE M X.K we)) (hs : ∀ x, foldedSetIterable iter X.env x = pure x := by intro _; rfl) :
    PE X (.ListComp elt [⟨tg, iter, ifs, 0⟩] scope pos) (tE M X.K (wLcT wi wt we js (own.map (·.2)))) := PE.imp (pe_lc hc hN hi ok hg ht he hs) (r_lcT hj)
theorem s_setLcT {i : Nat} {y : Str} {py spos : Pos} (hj : ∀ j ∈ js, j ∈ own.map (·.2)) (hc : X.calm = true) (hN : X.N.Nodup) (hy : X.N[i]? = some y) (hyl : X.env.scope.names.lookup y = some .local) (hi : PI X tg iter (tI M X.K Stp wi)) (ok : BlkOk X.N X.env.scope scope own)
    (hg : ∀ (s : Shared) (H : Hp) (C : Addr) (cl : List (Str × Addr)) (fp : List Addr), PG (X.blk s H scope (compEnvC scope cl C X.env) fp) tg (gTup X.K js.length (gNames js))) (ht : ∀ (s : Shared) (H : Hp) (C : Addr) (cl : List (Str × Addr)) (fp : List Addr), PTs (X.blk s H scope (compEnvC scope cl C X.env) fp) ifs (tT M X.K wt))
    (he : ∀ (s : Shared) (H : Hp) (C : Addr) (cl : List (Str × Addr)) (fp : List Addr), PE (X.blk s H scope (compEnvC scope cl C X.env) fp) elt (tE M X.K we)) (hsw : swapsWith (.ListComp elt [⟨tg, iter, ifs, 0⟩] scope pos) (some (.Name y py)) spos.line X.env = pure true := by rfl) (hs : ∀ x, foldedSetIterable iter X.env x = pure x := by intro _; rfl) :
    PS X (.Assign [.Name y py] (.ListComp elt [⟨tg, iter, ifs, 0⟩] scope pos) spos) (tS M X.K w0 (wSet i (wLcT wi wt we js (own.map (·.2))))) :=
  PS.imp (ps_setLc hc hN hy hyl hsw hi ok hg ht he hs) fun D σ H h => r_lcT hj σ H _ (r_set D σ H h)
end
end
end HW

/-! x += e, x -= e, ints -/
namespace HW
open PySem L2
section
variable {X : Cx} {M : MI} {w0 : W} {e : Expr} {we : WE}
def wAug (f : Int → Int → Int) (i : Nat) (we : WE) : WS := fun dd ρ c => ∃ a : Int, ρ[i]? = some (.im (.int a)) ∧ we ρ c fun d c1 => ∃ b : Int, d = .int b ∧ dd.nx (ρ.set i (.im (.int (f a b)))) c1
theorem s_aug {f : Int → Int → Int} {i : Nat} {x : Str} {op : Operator} {pos pos' : Pos} (ho : PIp X op (ipI f)) (hN : X.N.Nodup) (hi : X.N[i]? = some x) (hx : Loc X.env.scope x) (he : PE X e (tE M X.K we)) (hf : X.fn x = true ∨ X.env.scope.names.lookup x = some .local := by first | exact .inl rfl | exact .inr rfl | assumption) :
    PS X (.AugAssign (.Name x pos') op e pos) (tS M X.K w0 (wAug f i we)) := by
  refine PS.imp (ps_aug hN hi hx he ho hf) ?_
  rintro D σ H ⟨w, ρ, dd, rfl, so, ⟨a, r, hw⟩, k⟩
  obtain ⟨v, e1, dv⟩ := so.ev.ok i _ r
  cases dv
  refine ⟨_, e1, w, ρ, _, rfl, so.ev, so.gd, hw, fun w1 v1 d1 s1 g1 dv1 q1 => ?_⟩
  obtain ⟨b, rfl, q1⟩ := q1
  cases dv1
  exact ⟨a, b, rfl, rfl, k.nx w1 _ _ (s1.fk so.gd) ((so.stp s1 g1).setIm (.int _)) q1⟩
end
end HW

/-! HW19: defs that may raise: the call's promise, what is raised as data, raising calls in statements -/
namespace HW
open PySem L2 PySem.Spec PyProof.Rows
/-- a def of the module that may be called by its name and may raise -/
structure CalX (P : Program) (w : World) (K : PySem.W.Frag) (mg : Str → Option Value) (base : Heap) (k : Nat) (x : Str) (sp : Sp) : Prop where
  ex : ∃ (f : Addr) (fd : FuncData) (ps : List Str), FnG P w K mg base (L2.CX P w) k f fd ps sp ∧ mg x = some (.ref f) ∧ PySem.W.keepIn K (.ref f) = true ∧ Binds K fd ps []
/-- where it raises nothing it may be called as one that never does -/
theorem CalX.calm {P : Program} {w : World} {K : PySem.W.Frag} {mg : Str → Option Value} {base : Heap} {k : Nat} {x : Str} {sp sp' : Sp} (C : CalX P w K mg base k x sp) (h : ∀ vs H Q E, sp' vs H Q E → sp vs H Q fun _ _ _ => False) : CalG P w K mg base k x sp' := by
  obtain ⟨f, fd, ps, F, h1, h2, h3⟩ := C.ex
  refine ⟨f, fd, ps, ⟨fun vs H Q E q => F.len vs H Q _ (h _ _ _ _ q), fun A outer s H args us vs Q E hg hr he hb hv hs => ?_⟩, h1, h2, h3⟩
  refine codeAny_mono (F.run A outer s H args us vs Q _ hg hr he hb hv (h _ _ _ _ hs)) fun r s' hq => ?_
  cases r with
  | ok fl => cases fl <;> exact hq
  | error e =>
    obtain ⟨a, B, H', cls, d, _, _, _, _, _, _, _, no⟩ := hq
    exact no.elim
section
variable {X : Cx} {k j : Nat} {x : Str} {sp : Sp} {p pos : Pos} {e : Expr} {es : List Expr} {t : TA} {E : L2.St → XK}
theorem pe_gX (C : CalX X.prog X.w X.K X.mg X.base k x sp) (hr : Room j X.A) (hk : k ≤ j) (gds : X.A.guards = some []) (hx : ∀ σ, PassesAt (L2.CX X.prog X.w) X σ (E σ)) (hg : Gl X x) (ha : PA X (e :: es) t)
    (hdb : (x == ("__debug__" : Str)) = false := by decide) (he : starEach (e :: es) X.env = (false, eval e X.env) :: starEach es X.env := by rfl) (hpl : (backTo pos (starEach es X.env)).any (·.1) = false := by rfl) :
    PE X (.Call (.Name x p) (e :: es) [] pos) (tCallS sp E t) := by
  obtain ⟨f, fd, ps, F, hm, kp, b⟩ := C.ex
  refine ⟨fun pins s σ H Q I h => wpAny_Call_Name_kw (ld_glob I hg hm ?_ hdb)⟩
  refine PySem.W.callWith_K (h₀ := X.base) I.ok.mod.kin kp (thn (ha.run pos pins s σ H _ I h) fun us s1 hh => ?_) he hpl
  obtain ⟨vs, H1, I1, r, q⟩ := hh
  have hl : (us ++ []).length = ps.length := by rw [List.append_nil, ← r.length]; exact F.len _ _ _ _ q
  have bd := b s1 us I1.kIn hl
  rw [List.append_nil] at bd
  refine ⟨I1.kIn, wpAny_call (codeAny_mono (F.run X.A X.stack s1 H1 ⟨us, []⟩ us vs Q (E σ) gds (hr.mono hk) I1.env0 bd r q) fun r2 s2 h2 => ?_)⟩
  cases r2 with
  | error er => exact hx σ pins H1 s1 er s2 I1 h2
  | ok fl =>
    cases fl with
    | ret u => exact I1.after h2
    | next => exact False.elim h2
    | brk => exact False.elim h2
    | cont => exact False.elim h2
end
/-- what is raised: the class's name, the error's own attributes -/
structure Xd where
  C : Str
  fs : List (Str × D)
abbrev XR := Xd → Nat → Prop
inductive FsOk (K : PySem.W.Frag) (w : W) : List (Str × V) → List (Str × D) → Prop
  | nil : FsOk K w [] []
  | cons {n : Str} {v : V} {d : D} {fs : List (Str × V)} {ds : List (Str × D)} : Dv K w.F w.H v d → FsOk K w fs ds → FsOk K w ((n, v) :: fs) ((n, d) :: ds)
theorem FsOk.fk {K : PySem.W.Frag} {w w' : W} (s : Fk w w') : ∀ {fs : List (Str × V)} {ds : List (Str × D)}, FsOk K w fs ds → FsOk K w' fs ds
  | _, _, .nil => .nil
  | _, _, .cons h r => .cons (h.fk s) (r.fk s)
theorem FsOk.get {K : PySem.W.Frag} {w : W} {n : Str} {d : D} : ∀ {fs : List (Str × V)} {ds : List (Str × D)}, FsOk K w fs ds → ds.lookup n = some d → ∃ v, fs.lookup n = some v ∧ Dv K w.F w.H v d
  | _, _, .nil, e => by cases e
  | _, _, .cons (n := m) (v := v) h r, e => by
    by_cases z : (n == m) = true
    · simp only [List.lookup_cons, z] at e ⊢
      cases e
      exact ⟨v, rfl, h⟩
    · have z' : (n == m) = false := by simpa using z
      simp only [List.lookup_cons, z'] at e ⊢
      exact r.get e
/-- the error of class cls with its own dict d bears x -/
def XOk (K : PySem.W.Frag) (mg : Str → Option Value) (w : W) (cls : Value) (d : Option Addr) (x : Xd) : Prop :=
  mg x.C = some cls ∧ ((d = none ∧ x.fs = []) ∨ ∃ dd fvs, d = some dd ∧ w.H dd = some (.xd fvs) ∧ dd ∉ w.R ∧ FsOk K w fvs x.fs)
theorem XOk.stp {K : PySem.W.Frag} {M : MI} {mg : Str → Option Value} {w w' : W} {cls : Value} {d : Option Addr} {x : Xd} (s : Stp w w') (g : Gd M w) : XOk K mg w cls d x → XOk K mg w' cls d x
  | ⟨h, .inl e⟩ => ⟨h, .inl e⟩
  | ⟨h, .inr ⟨dd, fvs, e, ed, nr, f⟩⟩ => ⟨h, .inr ⟨dd, fvs, e, s.k _ _ ed nr, r_up s ed nr, f.fk (s.fk g)⟩⟩
/-- the promise of a def that may raise -/
def fnSpX (M : MI) (K : PySem.W.Frag) (mg : Str → Option Value) (f : XR → FW) : Sp := fun vs H Q E => ∃ (w : W) (es : List En) (Qd : D → Nat → Prop) (R : XR), w.H = H ∧ Gd M w ∧ ArgsOk K w vs es ∧ f R es w.c Qd ∧
  (∀ (w' : W) (v : V) (d : D), Stp w w' → Gd M w' → Dv K w'.F w'.H v d → Qd d w'.c → Q v w'.H) ∧
  (∀ (w' : W) (cls : Value) (dd : Option Addr) (x : Xd), Stp w w' → Gd M w' → XOk K mg w' cls dd x → R x w'.c → E cls dd w'.H)
def noX : XR := fun _ _ => False
theorem fnSpX_calm {M : MI} {K : PySem.W.Frag} {mg : Str → Option Value} {f : XR → FW} : ∀ vs H Q E, fnSp M K (f noX) vs H Q E → fnSpX M K mg f vs H Q fun _ _ _ => False :=
  fun _ _ _ _ ⟨w, es, Qd, eh, g, a, hf, k⟩ => ⟨w, es, Qd, noX, eh, g, a, hf, k, fun _ _ _ _ _ _ _ z => z⟩
/-- what is raised in the frame's context is taken by R -/
def TkR (X : Cx) (M : MI) (w0 : W) (R : Xd → List En → Nat → Prop) : Prop := Takes X fun cls d σ H => ∃ (w' : W) (ρ' : List En) (x : Xd), w'.H = H ∧ SOk M X.K w0 w' σ ρ' ∧ XOk X.K X.mg w' cls d x ∧ R x ρ' w'.c
theorem def_gX {P : Program} {w : World} {K : PySem.W.Frag} {mg : Str → Option Value} {base : Heap} {k : Nat} {f : Addr} {fd : FuncData} {x qual : Str} {st : Stmt} {N ps : List Str} {M : MI} {ws : XR → WS} {fw : XR → FW} (F : L2.Fun K x qual st f fd) (S : FnScope N ps (defScope st))
    (hb : ∀ (cdv : Value) (A : Around) (outer : List Env) (s : Shared) (H : Hp) (E : XK) (w0 : W) (R : XR), (A.deeper (PyProof.Rows.envOfC qual (defScope st) s.heap.objs.size f cdv)).guards = some [] → Room k (A.deeper (PyProof.Rows.envOfC qual (defScope st) s.heap.objs.size f cdv)) →
      TkR (cxOf (L2.CX P w) P w K mg base N qual (defScope st) f cdv A outer s H E) M w0 (fun x _ c => R x c) →
      PSs (cxOf (L2.CX P w) P w K mg base N qual (defScope st) f cdv A outer s H E) (defBody st) (tS M K w0 (ws R)))
    (hf : ∀ R es c Q, fw R es c Q → es.length = ps.length ∧ wDef N (ws R) es c Q) : FnG P w K mg base (L2.CX P w) (k + 1) f fd ps (fnSpX M K mg fw) := by
  refine fnG F S (fun vs H Q E h => ?_) fun cdv A outer s H vs Q E gds room h => ?_
  · obtain ⟨w, es, Qd, R, eh, g, a, hw, _⟩ := h
    rw [a.length]; exact (hf _ _ _ _ hw).1
  · obtain ⟨w1, es, Qd, R, eh, g, a, hw, k1, k2⟩ := h
    have tk0 : Takes (cxOf (L2.CX P w) P w K mg base N qual (defScope st) f cdv A outer s H E) (fun cls d _ H' => E cls d H') := takes_of rfl rfl rfl rfl
    refine ⟨tS M K w1 (ws R), hb cdv A outer s H E w1 R gds room (tk0.imp fun c d σ H' ⟨w', ρ', x, e, so, xo, r⟩ => e ▸ k2 w' c d x so.st so.gd xo r), w1, startE N es, _, eh, start_ok g a, (hf _ _ _ _ hw).2, ?_⟩
    exact ⟨fun w' σ' ρ' _ so q => k1 w' .non .none so.st so.gd .non q, fun w' v d s g dv q => k1 w' v d s g dv q, fun _ _ _ _ _ q => q, fun _ _ _ _ _ q => q⟩
/-! ### expressions that may raise, in a statement -/
def tEX (M : MI) (K : PySem.W.Frag) (w0 : W) (we : WE) : TE := fun σ H Q => ∃ (w : W) (ρ : List En) (Qd : D → Nat → Prop), w.H = H ∧ SOk M K w0 w σ ρ ∧ we ρ w.c Qd ∧
  ∀ (w' : W) (v : V) (d : D), Stp w w' → Gd M w' → Dv K w'.F w'.H v d → Qd d w'.c → Q v w'.H
section
variable {X : Cx} {M : MI} {w0 : W} {e a b : Expr} {es : List Expr} {we wa wb : WE} {wt : WT} {wg : WG} {x : Str} {p pos : Pos}
theorem toX (h : PE X e (tE M X.K we)) : PE X e (tEX M X.K w0 we) := PE.imp h fun σ H Q ⟨w, ρ, Qd, eh, so, hw, k⟩ => ⟨w, ρ, Qd, eh, so.ev, so.gd, hw, k⟩
def wCallX (f : XR → FW) (R : Xd → List En → Nat → Prop) (wg : WG) : WE := fun ρ c Q => wg ρ c fun es c1 => f (fun x c2 => R x ρ c2) es c1 Q
theorem x_call {f : XR → FW} {R : Xd → List En → Nat → Prop} {k j : Nat} (C : CalX X.prog X.w X.K X.mg X.base k x (fnSpX M X.K X.mg f)) (tk : TkR X M w0 R) (hr : Room j X.A) (hk : k ≤ j) (gds : X.A.guards = some []) (hg : Gl X x) (ha : PA X (e :: es) (tG M X.K wg))
    (hdb : (x == ("__debug__" : Str)) = false := by decide) (he : starEach (e :: es) X.env = (false, eval e X.env) :: starEach es X.env := by rfl) (hpl : (backTo pos (starEach es X.env)).any (·.1) = false := by rfl) :
    PE X (.Call (.Name x p) (e :: es) [] pos) (tEX M X.K w0 (wCallX f R wg)) := by
  refine PE.imp (pe_gX C hr hk gds (fun σ => passAt tk σ) hg ha hdb he hpl) ?_
  rintro σ H Q ⟨w, ρ, Qd, eh, so, hw, k⟩
  exact ⟨w, ρ, _, eh, so.ev, so.gd, hw, fun w1 vs es s1 g1 ok q1 => ⟨w1, es, Qd, fun x c2 => R x ρ c2, rfl, g1, ok, q1, fun w2 v d s2 g2 dv q2 => k w2 v d (s1.trans s2) g2 dv q2,
    fun w2 cls dd x s2 g2 xo r => ⟨w2, ρ, x, rfl, so.stp (s1.trans s2) g2, xo, r⟩⟩⟩
theorem s_exprX (h : PE X e (tEX M X.K w0 we)) (hs : swapsWith e none pos.line X.env = pure false := by rfl) : PS X (.Expr e pos) (tS M X.K w0 (wDrop we)) := by
  refine PS.imp (ps_expr h hs) ?_
  rintro D σ H ⟨w, ρ, dd, eh, so, hw, k⟩
  exact ⟨w, ρ, _, eh, so, hw, fun w' v d s g dv q => k.nx w' σ ρ (s.fk so.gd) (so.stp s g) q⟩
theorem s_retX (h : PE X e (tEX M X.K w0 we)) : PS X (.Return (some e) pos) (tS M X.K w0 (wRet we)) := by
  refine PS.imp (ps_ret h) ?_
  rintro D σ H ⟨w, ρ, dd, eh, so, hw, k⟩
  exact ⟨w, ρ, _, eh, so, hw, fun w' v d s g dv q => k.rt w' v d (so.st.trans s) g dv q⟩
end
end HW

/-! HW20: own errors over ValueError, raised; try with several clauses, each with or without a name -/
namespace HW
open PySem L2 PySem.Spec PyProof.Rows
/-! ### what __init__ does -/
/-- ValueError.__init__(self, v); self.f = v -/
def spI1 (K : PySem.W.Frag) (C : Addr) (f : Str) : Sp := fun vs H Q _ => ∃ (a : Addr) (v : V), vs = [.ref a, v] ∧ H a = some (exo a C none) ∧ OexC K C ∧ PySem.W.findIn K (.ref C) f = some none ∧ ∀ dx, H dx = none → dx ≠ a → Q .non (upd (upd H dx (exd dx [(f, v)])) a (exo a C (some dx)))
/-- ValueError.__init__(self, v) -/
def spI0 (K : PySem.W.Frag) (C : Addr) : Sp := fun vs H Q _ => ∃ (a : Addr) (v : V), vs = [.ref a, v] ∧ H a = some (exo a C none) ∧ OexC K C ∧ Q .non H
def tI1 (K : PySem.W.Frag) (f : Str) : TS := tSeq (tDrop (tVeI K (tCons (tVar 0) (tCons (tVar 1) tNil)))) (tOst K f (tVar 0) (tVar 1))
def tI0 (K : PySem.W.Frag) : TS := tDrop (tVeI K (tCons (tVar 0) (tCons (tVar 1) tNil)))
theorem run_I1 {K : PySem.W.Frag} {C : Addr} {f x y : Str} {vs : List V} {H : Hp} {Q : VK} {E : XK} (h : spI1 K C f vs H Q E) : tI1 K f { nx := fun _ H' => Q .non H', rt := Q } (L2.start [x, y] vs) H := by
  obtain ⟨a, v, rfl, e, T, nf, q⟩ := h
  exact ⟨_, rfl, _, rfl, a, C, _, rfl, by simp, T, e, _, rfl, _, rfl, a, C, rfl, T, nf, .inl ⟨e, fun dx n ne => q dx n ne⟩⟩
theorem run_I0 {K : PySem.W.Frag} {C : Addr} {x y : Str} {vs : List V} {H : Hp} {Q : VK} {E : XK} (h : spI0 K C vs H Q E) : tI0 K { nx := fun _ H' => Q .non H', rt := Q } (L2.start [x, y] vs) H := by
  obtain ⟨a, v, rfl, e, T, q⟩ := h
  exact ⟨_, rfl, _, rfl, a, C, _, rfl, by simp, T, e, q⟩
/-- what is known of an own error class over ValueError: its name, its own attribute or none -/
structure XcOk (P : Program) (w : World) (K : PySem.W.Frag) (mg : Str → Option Value) (base : Heap) (k : Nat) (n : Str) (f : Option Str) : Prop where
  ex : ∃ (C fI : Addr) (fd : FuncData) (ps : List Str), mg n = some (.ref C) ∧ OexC K C ∧ PySem.W.findIn K (.ref C) "__init__" = some (some (.ref fI)) ∧ PySem.W.typeIn K (.ref fI) = some (.type "function") ∧ Binds K fd ps [] ∧
    (∀ g, f = some g → PySem.W.findIn K (.ref C) g = some none ∧ XfC K C) ∧ FnOk P w K mg base CX0 k fI fd ps (match f with | some g => spI1 K C g | none => spI0 K C)
section
variable {X : Cx} {M : MI} {w0 : W} {e : Expr} {we : WE} {n f : Str} {p pos pos2 : Pos} {k j : Nat} {R : Xd → List En → Nat → Prop}
def wRaise (n : Str) (f : Option Str) (we : WE) (R : Xd → List En → Nat → Prop) : WS := fun _ ρ c => we ρ c fun d c1 => R ⟨n, match f with | some g => [(g, d)] | none => []⟩ ρ c1
theorem s_raise1 (T : XcOk X.prog X.w X.K X.mg X.base k n (some f)) (tk : TkR X M w0 R) (hr : Room j X.A) (hk : k + 1 ≤ j) (hc : X.calm = true) (hg : Gl X n) (he : PE X e (tE M X.K we))
    (hdb : (n == ("__debug__" : Str)) = false := by decide) (hs : starEach (e :: []) X.env = (false, eval e X.env) :: starEach [] X.env := by rfl) (hpl : (backTo pos (starEach [] X.env)).any (·.1) = false := by rfl) :
    PS X (.Raise (some (.Call (.Name n p) [e] [] pos)) none pos2) (tS M X.K w0 (wRaise n (some f) we R)) := by
  obtain ⟨C, fI, fd, ps, gC, T1, iC, tI, b, nf, F1⟩ := T.ex
  refine PS.imp (ps_raise hc tk (pmk_oex (sp := spI1 X.K C f) T1 iC tI F1 (hr.mono hk) b .nil pass0 hg gC (pa_cons he pa_nil hs) hdb hs hpl)) ?_
  rintro D σ H ⟨w, ρ, dd, eh, so, hw, k⟩
  refine ⟨w, ρ, _, eh, so.ev, so.gd, hw, fun w1 v d s1 g1 dv r => ?_⟩
  refine ⟨by simp, fun a ha => ⟨a, v, rfl, upd_same, T1, (nf f rfl).1, fun dx hd ne => ?_⟩⟩
  have hd1 : w1.H dx = none := by rw [upd_ne ne] at hd; exact hd
  refine ⟨rfl, dx, [(f, v)], upd_same, ?_, hd1, ?_⟩
  · rw [upd_ne ne, upd_same]
  · have eH : upd (del (upd (upd (upd w1.H a (exo a C none)) dx (exd dx [(f, v)])) a (exo a C (some dx))) a) dx (.xd [(f, v)]) = (w1.own dx (.xd [(f, v)])).H := by
      funext b
      show _ = upd w1.H dx (.xd [(f, v)]) b
      by_cases h1 : b = dx
      · rw [h1, upd_same, upd_same]
      · rw [upd_ne h1, upd_ne h1]
        by_cases h2 : b = a
        · rw [h2, del_same, ha]
        · rw [del_ne h2, upd_ne h2, upd_ne h1, upd_ne h2]
    have sx := stp_own (o := .xd [(f, v)]) hd1
    have gx := gd_own (o := .xd [(f, v)]) g1 hd1
    exact ⟨w1.own dx (.xd [(f, v)]), ρ, ⟨n, [(f, d)]⟩, eH.symm, (so.stp s1 g1).stp sx gx, ⟨gC, .inr ⟨dx, _, rfl, own_at, (show dx ∉ w1.R from r_free g1 hd1), .cons (dv.fk (sx.fk g1)) .nil⟩⟩, r⟩
end
/-! ### C(e), C's __init__ setting nothing -/
def tMkN (C : Addr) (sp : Sp) (ta : TA) : L2.St → Hp → XK → Prop := fun σ H Q => ta σ H fun vs H1 => vs.length ≤ 1000 ∧ ∀ a, H1 a = none → sp (.ref a :: vs) (upd H1 a (exo a C none))
  (fun v H2 => v = .non ∧ H2 a = some (exo a C none) ∧ Q (.ref C) none (del H2 a)) (fun _ _ _ => False)
section
variable {X : Cx} {e : Expr} {es : List Expr} {ta : TA} {p pos : Pos}
theorem mkN_end {pins : List (Addr × Obj)} {σ : L2.St} {Ha Hb : Hp} {q1 q2 q3 : Heap} {y1 y2 : Array GenState} {z1 z2 : Drawn} {k1 k2 : Nat} {o1 o2 : OsState} {a C : Addr} (I1 : Inv X pins σ Ha ⟨q1, y1, z1, k1, o1⟩)
    (ha : q1.objs.size ≤ a) (k : ∀ b o, q1.get? b = some o → q2.get? b = some o) (un : Un (frs X.stack) [] (upd Ha a (exo a C none)) Hb q2 q3) (hok : HOk X.prog X.w Hb q3) (ho : o2 = o1) (hb : AllBare y2) (ea : Hb a = some (exo a C none)) :
    ∃ (t : Addr) (G : Heap), Inv X pins σ (del Hb a) ⟨G, y2, z2, k2, o2⟩ ∧ (∀ b o, G.get? b = some o → q3.get? b = some o) ∧ G.get? a = none ∧
      q3.get? a = some ({ cls := .ref C, dict := none, data := .fields #[.ref t, .none, .none, .none, .bool false, .none] } : Obj) ∧ (del Hb a) a = none := by
  obtain ⟨t, hoe⟩ := exo_at hok ea
  have hn : Ha a = none := I1.hok.fresh ha
  obtain ⟨G, gk', ge'⟩ := restrict q3 fun b => decide (b ≠ a)
  have gk : ∀ {b}, b ≠ a → G.get? b = q3.get? b := fun {b} z => gk' b (decide_eq_true z)
  have ge : G.get? a = none := ge' a (by simp)
  have far : ∀ {b : Addr} {o : Obj}, q1.get? b = some o → b ≠ a := fun {b o} z => by
    exact Nat.ne_of_lt (Nat.lt_of_lt_of_le (Heap.lt_size z) ha)
  have up0 : ∀ {b : Addr}, b ≠ a → upd Ha a (exo a C none) b = Ha b := fun {b} z => upd_ne z
  have U : Un (frs X.stack) [] Ha (del Hb a) q1 G := by
    constructor
    · intro b o z nb f1 f2
      exact (gk (far z)).trans (un.keep b o (k b o z) ((up0 (far z)).trans nb) f1 f2)
    · intro b o z nb f1 f2
      obtain ⟨sl, y⟩ := un.slot b o (k b o z) ((up0 (far z)).trans nb) f1 f2
      exact ⟨sl, (gk (far z)).trans y⟩
    · intro b o z nb f2
      exact (del_ne (far z)).trans (un.free b o (k b o z) ((up0 (far z)).trans nb) f2)
    · intro b o z f2
      obtain ⟨o', y⟩ := un.there b o (k b o z) f2
      exact ⟨o', (gk (far z)).trans y⟩
    · intro b xs z
      have nb : b ≠ a := ne_of_none z hn
      exact (del_ne nb).trans (un.tups b xs ((up0 nb).trans z))
    · intro b o u z
      have nb : b ≠ a := ne_of_none z hn
      exact (del_ne nb).trans (un.frzs b o u ((up0 nb).trans z))
    · intro b qs z
      have nb : b ≠ a := ne_of_none z hn
      obtain ⟨more, y⟩ := un.tbls b qs ((up0 nb).trans z)
      exact ⟨more, (del_ne nb).trans y⟩
  have hok3 : HOk X.prog X.w (del Hb a) G := by
    intro b o z
    have nb : b ≠ a := fun y => by
      rw [y, del_same] at z
      cases z
    rw [del_ne nb] at z
    have noa : ∀ {c : Addr}, Hb c = some (.own b) → c ≠ a := fun {c} hc => at_ne ea hc exo_own
    refine (hok b o z).stay (fun c v hc y => ?_) (fun c hc => (del_ne (noa hc)).trans hc) (fun c xs hc => (del_ne (at_ne ea hc exo_tup)).trans hc)
    have nc : c ≠ a := hc.elim (fun q => q ▸ nb) noa
    exact (gk nc).trans y
  refine ⟨t, G, I1.call' (ch := []) ho U hok3 hb (fun b z => absurd z (by simp)), fun b o z => ?_, ge, hoe, del_same⟩
  by_cases nb : b = a
  · rw [nb, ge] at z
    cases z
  · exact (gk nb).symm.trans z
theorem pmkN {x : Str} {C fI : Addr} {k : Nat} {fd : FuncData} {ps : List Str} {sp : Sp} (T : OexC X.K C) (iC : PySem.W.findIn X.K (.ref C) "__init__" = some (some (.ref fI))) (tI : PySem.W.typeIn X.K (.ref fI) = some (.type "function"))
    (F1 : FnOk X.prog X.w X.K X.mg X.base CX0 k fI fd ps sp) (hr : Room (k + 1) X.A) (hb : Binds X.K fd ps []) (hg : Gl X x) (hm : X.mg x = some (.ref C)) (ha : PA X (e :: es) ta)
    (hdb : (x == ("__debug__" : Str)) = false := by decide) (he : starEach (e :: es) X.env = (false, eval e X.env) :: starEach es X.env := by rfl) (hpl : (backTo pos (starEach es X.env)).any (·.1) = false := by rfl) :
    PMk X (.Call (.Name x p) (e :: es) [] pos) (tMkN C sp ta) := by
  intro pins s σ H Q I h
  obtain ⟨nm, q, N, bs, bm, sn, sub, ab, col, dd, k0, k1, k2, k3, k5, hC, hbm⟩ := T.cls
  refine wpAny_Call_Name_kw (ld_glob I hg hm ?_ hdb)
  refine PySem.W.callWith_K (h₀ := X.base) I.ok.mod.kin T.kC (thn (ha.run pos pins s σ H _ I h) ?_) he hpl
  rintro us s1 ⟨vs, Ha, I1, r1, hz, q1⟩
  refine ⟨I1.kIn, ?_⟩
  show wpAny _ _ (call (.ref C) us) _ _ _
  obtain ⟨h1, g1, dr, tk, os⟩ := s1
  have hsz : h1.objs.size ≤ h1.objs.size + 1 := Nat.le_succ _
  have hn : Ha (h1.objs.size + 1) = none := I1.hok.fresh hsz
  have hq := q1 (h1.objs.size + 1) hn
  have kk : ∀ b o, h1.get? b = some o → ((h1.push (PySem.W.kdv_tup us)).push (PySem.HandSPX.excO C h1.objs.size)).get? b = some o := fun b o z => Heap.get?_push_of_some _ (Heap.get?_push_of_some _ z)
  have hget : ((h1.push (PySem.W.kdv_tup us)).push (PySem.HandSPX.excO C h1.objs.size)).get? (h1.objs.size + 1) = some (PySem.HandSPX.excO C h1.objs.size) := by heap_get
  have I2 := I1.laid (t' := tk) (a := h1.objs.size + 1) (o := exo (h1.objs.size + 1) C none) (h' := (h1.push (PySem.W.kdv_tup us)).push (PySem.HandSPX.excO C h1.objs.size)) kk hsz (exo_ok hget)
  have r2 : Vals (V.ref (h1.objs.size + 1) :: vs) (Value.ref (h1.objs.size + 1) :: us) := .cons rfl r1
  have hl : (Value.ref (h1.objs.size + 1) :: us ++ []).length = ps.length := by
    rw [List.append_nil, ← r2.length]
    exact F1.len _ _ _ _ hq
  have bd := hb _ (Value.ref (h1.objs.size + 1) :: us) I2.kIn hl
  rw [List.append_nil] at bd
  have hus : us.length ≤ sizeLine := by
    rw [← Paired.length r1, sizeLine_eq]
    omega
  refine wpAny_call (PySem.HandSPX.call_own F.excBase_ValueError (fun Y => PySem.HandSPX.refsVE_contains Y bm hbm) (I1.kIn _ _ hC) (PySem.W.looks_findIn I1.kIn iC) (fun self => PySem.W.bind_fn I1.kIn self tI) hus ?_)
  refine codeAny_mono (F1.run _ X.stack _ _ ⟨Value.ref (h1.objs.size + 1) :: us, []⟩ _ _ _ (fun _ _ _ => False) (hr.make C us []) (I2.env0.make C us []) bd r2 hq) fun r s' hq' => ?_
  cases r with
  | error er => exact hq'.elim
  | ok fl =>
    cases fl with
    | ret u =>
      obtain ⟨v, Hb, os2, bare2, un2, hok2, rv, ev, ea, q2⟩ := hq'
      subst ev
      obtain ⟨h2, g2, d2, t2, os'⟩ := s'
      obtain ⟨t0, G, J, kG, ge, hoe, na⟩ := mkN_end (z2 := d2) (k2 := t2) I1 hsz kk un2 hok2 os2 bare2 ea
      exact ⟨rv, _, _, _, ⟨G, g2, d2, t2, os'⟩, _, .ref C, none, rfl, J, kG, ge, hoe, ⟨rfl, rfl⟩, rfl, rfl, na, rfl, bare2, raises_own T.exC T.tyC, q2⟩
    | next => exact False.elim hq'
    | brk => exact False.elim hq'
    | cont => exact False.elim hq'
end
section
variable {X : Cx} {M : MI} {w0 : W} {e : Expr} {we : WE} {n : Str} {p pos pos2 : Pos} {k j : Nat} {R : Xd → List En → Nat → Prop}
theorem s_raise0 (T : XcOk X.prog X.w X.K X.mg X.base k n none) (tk : TkR X M w0 R) (hr : Room j X.A) (hk : k + 1 ≤ j) (hc : X.calm = true) (hg : Gl X n) (he : PE X e (tE M X.K we))
    (hdb : (n == ("__debug__" : Str)) = false := by decide) (hs : starEach (e :: []) X.env = (false, eval e X.env) :: starEach [] X.env := by rfl) (hpl : (backTo pos (starEach [] X.env)).any (·.1) = false := by rfl) :
    PS X (.Raise (some (.Call (.Name n p) [e] [] pos)) none pos2) (tS M X.K w0 (wRaise n none we R)) := by
  obtain ⟨C, fI, fd, ps, gC, T1, iC, tI, b, nf, F1⟩ := T.ex
  refine PS.imp (ps_raise hc tk (pmkN (sp := spI0 X.K C) T1 iC tI F1 (hr.mono hk) b hg gC (pa_cons he pa_nil hs) hdb hs hpl)) ?_
  rintro D σ H ⟨w, ρ, dd, eh, so, hw, k⟩
  refine ⟨w, ρ, _, eh, so.ev, so.gd, hw, fun w1 v d s1 g1 dv r => ?_⟩
  refine ⟨by simp, fun a ha => ⟨a, v, rfl, upd_same, T1, rfl, upd_same, ?_⟩⟩
  have eH : del (upd w1.H a (exo a C none)) a = w1.H := by
    funext b
    by_cases h2 : b = a
    · rw [h2, del_same, ha]
    · rw [del_ne h2, upd_ne h2]
  exact ⟨w1, ρ, ⟨n, []⟩, eH.symm, so.stp s1 g1, ⟨gC, .inl ⟨rfl, rfl⟩⟩, r⟩
end
end HW

/-! HW21: try with several clauses, each with or without a name -/
namespace HW
open PySem L2 PySem.Spec PyProof.Rows
/-- a clause: its class, the slot of its name, its suite's reading -/
abbrev Cl := Value × Option Nat × (Addr → Value → Option Addr → TS)
/-- the ends behind a suite: its name is gone -/
def gone (D : Ends) : Option Nat → Ends
  | none => D
  | some i => { nx := fun σ H => D.nx (σ.set i none) H, rt := D.rt, bk := fun σ H => D.bk (σ.set i none) H, ct := fun σ H => D.ct (σ.set i none) H }
def held (a : Addr) (σ : L2.St) : Option Nat → L2.St
  | none => σ
  | some i => σ.set i (some (.ref a))
def wCls (K : PySem.W.Frag) (Wo : WX) (D : Ends) : List Cl → WX
  | [] => Wo
  | (c, i, ts) :: r => fun cls d σ H => ∃ b, PySem.W.exmOne K cls c = some b ∧ (b = true → ∀ a, H a = none → ts a cls d (gone D i) (held a σ i) H) ∧ (b = false → wCls K Wo D r cls d σ H)
inductive ClsOk (X : Cx) : List ExceptHandler → List Cl → Prop
  | nil : ClsOk X [] []
  | one {x : Str} {c : Value} {ts : Addr → Value → Option Addr → TS} {b₀ : Stmt} {su : List Stmt} {q1 q2 : Pos} {hds : List ExceptHandler} {l : List Cl} (hc : Names X x c)
      (hsu : ∀ (a : Addr) (oe : Obj) (cls : Value) (d : Option Addr) (pn : List (Addr × Obj)), Zc cls d oe → (∃ vs, oe.data = .fields vs) → PSs (X.suite a ((a, oe) :: pn)) (b₀ :: su) (ts a cls d)) (r : ClsOk X hds l) :
      ClsOk X (.ExceptHandler (some (.Name x q1)) none (b₀ :: su) q2 :: hds) ((c, none, ts) :: l)
  | as {x n : Str} {i : Nat} {c : Value} {ts : Addr → Value → Option Addr → TS} {b₀ : Stmt} {su : List Stmt} {q1 q2 : Pos} {hds : List ExceptHandler} {l : List Cl} (hc : Names X x c) (hi : X.N[i]? = some n) (hl : X.env.kindOf n = some .local)
      (hsu : ∀ (a : Addr) (oe : Obj) (cls : Value) (d : Option Addr) (pn : List (Addr × Obj)), Zc cls d oe → (∃ vs, oe.data = .fields vs) → PSs (X.suite a ((a, oe) :: pn)) (b₀ :: su) (ts a cls d)) (r : ClsOk X hds l) :
      ClsOk X (.ExceptHandler (some (.Name x q1)) (some n) (b₀ :: su) q2 :: hds) ((c, some i, ts) :: l)
section
variable {X : Cx} {body : List Stmt} {c0 : ExceptHandler} {cs : List ExceptHandler} {l : List Cl} {pos : Pos} {tb : WX → TS} {Wo : WX}
/-- what a suite or a body ended in, seen from outside -/
theorem sp_out {Y : Cx} {pn pins : List (Addr × Obj)} {D : Ends} {f : Flow} {s : Shared} (out : ∀ {σ H}, Inv Y pn σ H s → Inv X pins σ H s) (h : SP Y pn D f s) : SP X pins D f s := by
  cases f
  case ret u => obtain ⟨v, σ, H, J, r, q⟩ := h; exact ⟨v, σ, H, out J, r, q⟩
  all_goals (obtain ⟨σ, H, J, q⟩ := h; exact ⟨σ, H, out J, q⟩)
theorem ps_tryN (hs : X.stack = X.env :: X.outer) (hf : X.env.frame = some X.env.locals) (hN : X.N.Nodup) (tk : Takes X Wo)
    (hb : ∀ (W : WX) (pn : List (Addr × Obj)) (xe : Value → Shared → Prop), Takes (X.tr pn xe) W → PassesOwn (model X.prog X.w) X.A X.env xe → PSs (X.tr pn xe) body (tb W))
    (hh : ClsOk X (c0 :: cs) l) : PS X (.Try body (c0 :: cs) [] [] pos) (fun D σ H => tb (wCls X.K Wo D l) D σ H) := by
  refine ⟨fun pins s σ H D I h => ?_⟩
  have ok := I.ok
  have frm : X.A.frames = some (X.env :: X.outer) := ok.frames.trans (congrArg some hs)
  refine wpAny_Try_except (wpAny_mono ((hb (wCls X.K Wo D l) (X.pn ++ pins) (fun e u1 => wpAny (model X.prog X.w) X.A (noteFrame e X.env) (fun _ u2 => wpAny (model X.prog X.w) X.A (setFlight e none) (fun _ u3 =>
    wpAny (model X.prog X.w) X.A (handleBy e X.env (c0 :: cs)) (SP X pins D) X.xe u3) X.xe u2) X.xe u1) (fun u s' air => ?_) PassesOwn.looking).run [] s σ H D (I.toTry _) h) (fun f s1 ends => ?_) (fun e s1 z => z))
  · obtain ⟨a, B, sI, ps', τ, T, cls, d, rfl, Jt, nb, up, sky, na, os, ag, wish⟩ := air
    have J : Inv X pins τ T sI := Jt.ofTry ok
    rw [show (X.tr (X.pn ++ pins) _).stack = X.env :: X.outer from hs] at sky
    show wpAny (model X.prog X.w) X.A (noteFrame (.ref a) X.env) _ _ _
    refine Sky.land Zc.steady frm hf sky fun h3 fl up3 => ?_
    have J3 : Inv X pins τ T { s' with heap := h3 } := J.landed nb fl.1 (up.trans up3) os ag
    obtain ⟨ob, fv, e3, z3, d3⟩ := fl.there
    have out : a ∉ frs (X.env :: X.outer) := fun hm => by
      obtain ⟨_, o', e', no⟩ := fl.2.2.1.mem hm
      rw [e3] at e'
      cases e'
      exact no _ d3
    have nL : a ≠ X.env.locals := fun z => out (List.mem_filterMap.mpr ⟨_, List.mem_cons_self, hf.trans (congrArg some z.symm)⟩)
    have nF : a ∉ X.fs := fun hm => by
      obtain ⟨y, hy, q⟩ := List.mem_filterMap.mp hm
      exact out (List.mem_filterMap.mpr ⟨y, List.mem_cons_of_mem _ hy, q⟩)
    have S3 := J3.suite e3 d3 na nL nF
    have look : PySem.W.Looks (model X.prog X.w) h3 (typeOf (.ref a)) cls := fun A Q E u kp q => wpAny_typeOf_ref (kp _ _ e3) (z3.1 ▸ q)
    have name : ∀ {x : Str} {c : Value} {q1 : Pos} {Q E : Value → Shared → Prop}, Names X x c → Q c { s' with heap := h3 } → wpAny (model X.prog X.w) (X.A.mark (some (.ref a))) (eval (.Name x q1) X.env) Q E { s' with heap := h3 } := by
      rintro x c q1 Q E ⟨g, gd, m | ⟨m, v, nn⟩⟩ q
      · exact ld_glob (X := X.suite a ((a, ob) :: (X.pn ++ pins))) S3 g m q gd
      · exact ld_blt (X := X.suite a ((a, ob) :: (X.pn ++ pins))) S3 g m v q nn gd
    have land : ∀ {Q : Unit → Shared → Prop} {E : Value → Shared → Prop}, (∀ h4 ob4, Inv X pins τ T { s' with heap := h4 } → Zc cls d ob4 → (∃ fv, ob4.data = .fields fv) → Inv (X.suite a ((a, ob4) :: (X.pn ++ pins))) [] τ T { s' with heap := h4 } → Q () { s' with heap := h4 }) →
        wpAny (model X.prog X.w) (X.A.mark (some (.ref a))) (setFlight (.ref a) none) Q E { s' with heap := h3 } := fun {Q E} q => HandSPX.lands_againZ fl fun h4 fl4 up4 => by
      have J4 : Inv X pins τ T { s' with heap := h4 } := J.landed nb fl4.1 ((up.trans up3).trans up4) os ag
      obtain ⟨o4, f4, e4, z4, d4⟩ := fl4.there
      exact q h4 o4 J4 z4 ⟨_, d4⟩ (J4.suite e4 d4 na nL nF)
    have go : ∀ {hds : List ExceptHandler} {l' : List Cl}, ClsOk X hds l' → wCls X.K Wo D l' cls d τ T → wpAny (model X.prog X.w) X.A (handleBy (.ref a) X.env hds) (SP X pins D) X.xe { s' with heap := h3 } := by
      intro hds l' hk
      induction hk with
      | nil =>
        intro w
        refine wpAny_handleBy_nil ?_
        obtain ⟨_, _, _, oe, vs, tb', _, _, he, _, hd, h1, _⟩ := id fl
        unfold PySem.passOn
        refine wpAny_bind (wpAny_field he hd h1 ?_)
        rw [if_neg (show ¬ ((Value.ref tb' == Value.none) = true) from by simp)]
        have fin : wpAny (model X.prog X.w) X.A (setFlight (.ref a) X.env.frame) (fun _ u4 => wpAny (model X.prog X.w) X.A (throw (.ref a) : Sem Flow) (SP X pins D) X.xe u4) X.xe { s' with heap := h3 } := by
          rw [hf]
          exact HandSPX.setFlight_upZ fl fun h4 hh4 up4 => wpAny_throw (tk _ _ ⟨a, B, sI, pins, τ, T, cls, d, rfl, J, nb, (up.trans up3).trans up4, .inr (.inr (by rw [hs]; exact hh4)), na, os, ag, w⟩)
        first
          | exact wpAny_bind (wpAny_pure (wpAny_bind fin))
          | exact wpAny_bind fin
      | @one x c ts b₀ su q1 q2 hds2 l2 hc hsu r ih =>
        rintro ⟨b, hb1, yes, no⟩
        refine wpAny_handleBy_cons (codeAny_handlers_test (name hc ((PySem.W.exm_one (M := model X.prog X.w) J3.kIn look hb1).here ?_))) nofun
        cases b with
        | false => exact ih (no rfl)
        | true =>
          refine codeAny_handlers_suite (land fun h4 o4 J4 z4 d4 S4 => ?_)
          exact wpAny_mono ((hsu a o4 cls d (X.pn ++ pins) z4 d4).run [] _ _ T _ S4 (yes rfl a na)) (fun f u6 q => sp_out (fun S => S.unsuite ok) q) fun _ _ z => False.elim z
      | @as x n i c ts b₀ su q1 q2 hds2 l2 hc hi hl hsu r ih =>
        rintro ⟨b, hb1, yes, no⟩
        refine wpAny_handleBy_cons (codeAny_handlers_test (name hc ((PySem.W.exm_one (M := model X.prog X.w) J3.kIn look hb1).here ?_))) nofun
        cases b with
        | false => exact ih (no rfl)
        | true =>
          refine codeAny_handlers_suite_as (land fun h4 o4 J4 z4 d4 S4 => ?_)
          refine store_ok (X := X.suite a ((a, o4) :: (X.pn ++ pins))) (v := .ref a) S4 hN hi (.inl hl) rfl (fun u5 S5 => ?_) (.inr hl)
          refine wpAny_mono ((hsu a o4 cls d (X.pn ++ pins) z4 d4).run [] u5 _ T _ S5 (yes rfl a na)) (fun f u6 q => ?_) fun _ _ z => False.elim z
          have bye : ∀ {τ6 : L2.St} {T6 : Hp} {Q : Shared → Prop}, Inv (X.suite a ((a, o4) :: (X.pn ++ pins))) [] τ6 T6 u6 → (∀ u7, Inv X pins (τ6.set i none) T6 u7 → Q u7) → wpAny (model X.prog X.w) X.A (do bindName X.env n .none; unbindBehindTheSuite X.env n q2) (fun _ u7 => Q u7) X.xe u6 :=
            fun S6 q6 => gone_ok (S6.unsuite ok) hN hi hl q6
          cases f
          case ret u => obtain ⟨v6, τ6, T6, S6, r6, q6⟩ := q; exact bye S6 fun u7 J7 => ⟨_, _, _, J7, r6, q6⟩
          all_goals (obtain ⟨τ6, T6, S6, q6⟩ := q; exact bye S6 fun u7 J7 => ⟨_, _, J7, q6⟩)
    exact go hh wish
  · have q := sp_out (fun S => Inv.ofTry S ok) ends
    cases f with
    | next => exact wpAny_execs_nil q
    | brk => exact q
    | cont => exact q
    | ret u => exact q
end
end HW

/-! HW22: try by words -/
namespace HW
open PySem L2 PySem.Spec PyProof.Rows
/-- own error classes, none below another one -/
structure ExT (K : PySem.W.Frag) (mg : Str → Option Value) (ns : List Str) : Prop where
  cl : ∀ n ∈ ns, ∃ C : Addr, mg n = some (.ref C)
  ex : ∀ n ∈ ns, ∀ n' ∈ ns, ∀ c c' : Value, mg n = some c → mg n' = some c' → PySem.W.exmOne K c c' = some (decide (n = n'))
/-- an except suite: slot i holds the error at a, which bears x -/
def tSu (M : MI) (K : PySem.W.Frag) (mg : Str → Option Value) (w0 : W) (a : Addr) (cls : Value) (d : Option Addr) (x : Xd) (i : Option Nat) (ws : WS) : TS := fun D σ H =>
  (∀ j, i = some j → j < σ.length → σ[j]? = some (some (.ref a))) ∧ ∃ (w : W) (ρ : List En) (dd : Dd), w.H = H ∧ SOk M K w0 w σ ρ ∧ XOk K mg w cls d x ∧ ws dd ρ w.c ∧ Cont M K w0 w dd D
def goneD (dd : Dd) : Option Nat → Dd
  | none => dd
  | some i => { nx := fun ρ c => dd.nx (ρ.set i .un) c, rt := dd.rt, bk := fun ρ c => dd.bk (ρ.set i .un) c, ct := fun ρ c => dd.ct (ρ.set i .un) c }
def heldE (ρ : List En) : Option Nat → List En
  | none => ρ
  | some i => ρ.set i .un
abbrev WCl := Str × Option Nat × (Xd → WS)
def wHd (x : Xd) (dd : Dd) (ρ : List En) (c : Nat) (rest : Prop) : List WCl → Prop
  | [] => rest
  | (n, i, ws) :: r => if x.C = n then ws x (goneD dd i) (heldE ρ i) c else wHd x dd ρ c rest r
def wTry (ns : List Str) (wb : (Xd → List En → Nat → Prop) → WS) (cl : List WCl) (R : Xd → List En → Nat → Prop) : WS := fun dd ρ c =>
  (∀ e ∈ ρ, En.mut e = false) ∧ wb (fun x ρ' c' => x.C ∈ ns ∧ wHd x dd ρ' c' (R x ρ' c') cl) dd ρ c
theorem EnvOk.setUn' {K : PySem.W.Frag} {w : W} {σ : L2.St} {ρ : List En} {s : Option V} (i : Nat) (h : EnvOk K w σ ρ) : EnvOk K w (σ.set i s) (ρ.set i .un) := by
  have back : ∀ {j : Nat} {b : Addr}, Own w (σ.set i s) (ρ.set i .un) j b → Own w σ ρ j b := by
    rintro j b ⟨p, e, h1, h2, h3, h4⟩
    by_cases z : i = j
    · subst z
      by_cases hl : i < ρ.length
      · rw [List.getElem?_set_self hl] at h2
        cases h2
        cases h3
      · rw [List.getElem?_eq_none (by simpa using hl)] at h2
        cases h2
    · rw [List.getElem?_set_ne z] at h1 h2
      exact ⟨p, e, h1, h2, h3, h4⟩
  refine ⟨by simpa using h.len, fun j e q => ?_, fun j1 j2 b o1 o2 => h.ap j1 j2 b (back o1) (back o2)⟩
  by_cases z : i = j
  · subst z
    by_cases hl : i < ρ.length
    · rw [List.getElem?_set_self hl] at q
      cases q
      exact True.intro
    · rw [List.getElem?_eq_none (by simpa using hl)] at q
      cases q
  · rw [List.getElem?_set_ne z] at q ⊢
    exact h.ok j e q
theorem own_un {w : W} {σ : L2.St} {ρ : List En} {s : Option V} {i j : Nat} {b : Addr} (o : Own w (σ.set i s) (ρ.set i .un) j b) : Own w σ ρ j b := by
  obtain ⟨p, e, h1, h2, h3, h4⟩ := o
  by_cases z : i = j
  · subst z
    by_cases hl : i < ρ.length
    · rw [List.getElem?_set_self hl] at h2
      cases h2
      cases h3
    · rw [List.getElem?_eq_none (by simpa using hl)] at h2
      cases h2
  · rw [List.getElem?_set_ne z] at h1 h2
    exact ⟨p, e, h1, h2, h3, h4⟩
theorem SOk.setUn {M : MI} {K : PySem.W.Frag} {w0 w : W} {σ : L2.St} {ρ : List En} {s : Option V} (i : Nat) (h : SOk M K w0 w σ ρ) : SOk M K w0 w (σ.set i s) (ρ.set i .un) :=
  ⟨h.ev.setUn' i, h.gd, h.st, fun j b o => h.ow j b (own_un o)⟩
theorem SOk.held {M : MI} {K : PySem.W.Frag} {w0 w : W} {σ : L2.St} {ρ : List En} (a : Addr) (i : Option Nat) (h : SOk M K w0 w σ ρ) : SOk M K w0 w (HW.held a σ i) (heldE ρ i) := by
  cases i with
  | none => exact h
  | some i => exact h.setUn i
theorem Cont.gone {M : MI} {K : PySem.W.Frag} {w0 w : W} {dd : Dd} {D : Ends} (i : Option Nat) (h : Cont M K w0 w dd D) : Cont M K w0 w (goneD dd i) (HW.gone D i) := by
  cases i with
  | none => exact h
  | some i => exact ⟨fun w' σ' ρ' f so q => h.nx w' _ _ f (so.setUn i) q, h.rt, fun w' σ' ρ' f so q => h.bk w' _ _ f (so.setUn i) q, fun w' σ' ρ' f so q => h.ct w' _ _ f (so.setUn i) q⟩
section
variable {X : Cx} {M : MI} {w0 : W} {ns : List Str}
/-- the clauses by their words -/
inductive HdOk (X : Cx) (M : MI) (w0 : W) (ns : List Str) : List ExceptHandler → List WCl → Prop
  | nil : HdOk X M w0 ns [] []
  | one {n : Str} {ws : Xd → WS} {b₀ : Stmt} {su : List Stmt} {q1 q2 : Pos} {hds : List ExceptHandler} {l : List WCl} (hn : n ∈ ns) (hg : Gl X n) (hd : (n == ("__debug__" : Str)) = false)
      (hsu : ∀ (a : Addr) (oe : Obj) (cls : Value) (d : Option Addr) (x : Xd) (pn : List (Addr × Obj)), Zc cls d oe → (∃ vs, oe.data = .fields vs) → x.C = n → PSs (X.suite a ((a, oe) :: pn)) (b₀ :: su) (tSu M X.K X.mg w0 a cls d x none (ws x))) (r : HdOk X M w0 ns hds l) :
      HdOk X M w0 ns (.ExceptHandler (some (.Name n q1)) none (b₀ :: su) q2 :: hds) ((n, none, ws) :: l)
  | as {n y : Str} {i : Nat} {ws : Xd → WS} {b₀ : Stmt} {su : List Stmt} {q1 q2 : Pos} {hds : List ExceptHandler} {l : List WCl} (hn : n ∈ ns) (hg : Gl X n) (hd : (n == ("__debug__" : Str)) = false) (hi : X.N[i]? = some y) (hl : X.env.kindOf y = some .local)
      (hsu : ∀ (a : Addr) (oe : Obj) (cls : Value) (d : Option Addr) (x : Xd) (pn : List (Addr × Obj)), Zc cls d oe → (∃ vs, oe.data = .fields vs) → x.C = n → PSs (X.suite a ((a, oe) :: pn)) (b₀ :: su) (tSu M X.K X.mg w0 a cls d x (some i) (ws x))) (r : HdOk X M w0 ns hds l) :
      HdOk X M w0 ns (.ExceptHandler (some (.Name n q1)) (some y) (b₀ :: su) q2 :: hds) ((n, some i, ws) :: l)
/-- the reading of a clause: for whatever is caught -/
def tCl (M : MI) (X : Cx) (w0 : W) (n : Str) (i : Option Nat) (ws : Xd → WS) : Addr → Value → Option Addr → TS := fun a cls d D σ H => ∃ x : Xd, x.C = n ∧ tSu M X.K X.mg w0 a cls d x i (ws x) D σ H
theorem pss_cl {su : List Stmt} {Y : Cx} {n : Str} {t : Xd → TS} (h : ∀ x : Xd, x.C = n → PSs Y su (t x)) : PSs Y su (fun D σ H => ∃ x : Xd, x.C = n ∧ t x D σ H) := ⟨fun p s σ H Q I ⟨x, e, q⟩ => (h x e).run p s σ H Q I q⟩
theorem HdOk.cls (T : ExT X.K X.mg ns) : ∀ {hds : List ExceptHandler} {l : List WCl}, HdOk X M w0 ns hds l → ∃ l' : List Cl, ClsOk X hds l' ∧
    ∀ (Wo : WX) (D : Ends) (dd : Dd) (R : Xd → List En → Nat → Prop) (w : W) (σ : L2.St) (ρ : List En) (cls : Value) (d : Option Addr) (x : Xd), SOk M X.K w0 w σ ρ → XOk X.K X.mg w cls d x → x.C ∈ ns → Cont M X.K w0 w dd D →
      (∀ w' : W, w'.H = w.H → R x ρ w.c → Wo cls d σ w.H) → wHd x dd ρ w.c (R x ρ w.c) l → wCls X.K Wo D l' cls d σ w.H
  | _, _, .nil => ⟨[], .nil, fun Wo D dd R w σ ρ cls d x so xo hx k ko h => ko w rfl h⟩
  | _, _, .one (n := n) (ws := ws) hn hg hd hsu r => by
    obtain ⟨l', ok, go⟩ := HdOk.cls T r
    obtain ⟨C, mC⟩ := T.cl n hn
    refine ⟨(.ref C, none, tCl M X w0 n none ws) :: l', .one ⟨hg, hd, .inl mC⟩ (fun a oe cls d pn z f => pss_cl fun x e => hsu a oe cls d x pn z f e) ok, fun Wo D dd R w σ ρ cls d x so xo hx k ko h => ?_⟩
    refine ⟨decide (x.C = n), T.ex _ hx n hn _ _ xo.1 mC, fun e a ha => ?_, fun e => ?_⟩
    · have e' : x.C = n := of_decide_eq_true e
      refine ⟨x, e', fun j z => (nomatch z), w, ρ, dd, rfl, so, xo, ?_, k⟩
      have h' : (if x.C = n then ws x dd ρ w.c else wHd x dd ρ w.c (R x ρ w.c) _) := h
      rw [if_pos e'] at h'
      exact h'
    · have e' : ¬ x.C = n := of_decide_eq_false e
      have h' : (if x.C = n then ws x dd ρ w.c else wHd x dd ρ w.c (R x ρ w.c) _) := h
      rw [if_neg e'] at h'
      exact go Wo D dd R w σ ρ cls d x so xo hx k ko h'
  | _, _, .as (n := n) (i := i) (ws := ws) hn hg hd hi hl hsu r => by
    obtain ⟨l', ok, go⟩ := HdOk.cls T r
    obtain ⟨C, mC⟩ := T.cl n hn
    refine ⟨(.ref C, some i, tCl M X w0 n (some i) ws) :: l', .as ⟨hg, hd, .inl mC⟩ hi hl (fun a oe cls d pn z f => pss_cl fun x e => hsu a oe cls d x pn z f e) ok, fun Wo D dd R w σ ρ cls d x so xo hx k ko h => ?_⟩
    refine ⟨decide (x.C = n), T.ex _ hx n hn _ _ xo.1 mC, fun e a ha => ?_, fun e => ?_⟩
    · have e' : x.C = n := of_decide_eq_true e
      refine ⟨x, e', fun j z hj => ?_, w, ρ.set i .un, goneD dd (some i), rfl, so.held a (some i), xo, ?_, k.gone (some i)⟩
      · cases z
        have hj' : i < σ.length := by simpa [HW.held] using hj
        exact List.getElem?_set_self hj'
      have h' : (if x.C = n then ws x (goneD dd (some i)) (ρ.set i .un) w.c else wHd x dd ρ w.c (R x ρ w.c) _) := h
      rw [if_pos e'] at h'
      exact h'
    · have e' : ¬ x.C = n := of_decide_eq_false e
      have h' : (if x.C = n then ws x (goneD dd (some i)) (ρ.set i .un) w.c else wHd x dd ρ w.c (R x ρ w.c) _) := h
      rw [if_neg e'] at h'
      exact go Wo D dd R w σ ρ cls d x so xo hx k ko h'
variable {body : List Stmt} {c0 : ExceptHandler} {cs : List ExceptHandler} {cl : List WCl} {pos : Pos} {wb : (Xd → List En → Nat → Prop) → WS} {R : Xd → List En → Nat → Prop}
theorem SOk.lift {K : PySem.W.Frag} {w w' : W} {σ σ' : L2.St} {ρ ρ' : List En} (so : SOk M K w0 w σ ρ) (h : SOk M K w w' σ' ρ') : SOk M K w0 w' σ' ρ' := ⟨h.ev, h.gd, so.st.trans h.st, fun i a o => nn so.st (h.ow i a o)⟩
theorem SOk.fresh {K : PySem.W.Frag} {w : W} {σ : L2.St} {ρ : List En} (so : SOk M K w0 w σ ρ) (n : ∀ e ∈ ρ, En.mut e = false) : SOk M K w w σ ρ := ⟨so.ev, so.gd, Stp.refl w, fun i a ⟨p, e, _, h2, h3, _⟩ => by
  rw [n e (List.mem_of_getElem? h2)] at h3
  cases h3⟩
theorem Cont.lift {K : PySem.W.Frag} {w w1 : W} {σ : L2.St} {ρ : List En} {dd : Dd} {D : Ends} (so : SOk M K w0 w σ ρ) (k : Cont M K w0 w dd D) : Cont M K w w dd D :=
  ⟨fun w' σ' ρ' f s q => k.nx w' σ' ρ' f (so.lift s) q, fun w' v d s g dv q => k.rt w' v d (so.st.trans s) g dv q, fun w' σ' ρ' f s q => k.bk w' σ' ρ' f (so.lift s) q, fun w' σ' ρ' f s q => k.ct w' σ' ρ' f (so.lift s) q⟩
theorem s_try (hs : X.stack = X.env :: X.outer) (hf : X.env.frame = some X.env.locals) (hN : X.N.Nodup) (T : ExT X.K X.mg ns) (tk : TkR X M w0 R)
    (hb : ∀ (w1 : W) (R' : Xd → List En → Nat → Prop) (pn : List (Addr × Obj)) (xe : Value → Shared → Prop), TkR (X.tr pn xe) M w1 R' → PassesOwn (model X.prog X.w) X.A X.env xe → PSs (X.tr pn xe) body (tS M X.K w1 (wb R')))
    (hh : HdOk X M w0 ns (c0 :: cs) cl) : PS X (.Try body (c0 :: cs) [] [] pos) (tS M X.K w0 (wTry ns wb cl R)) := by
  obtain ⟨l', ok, go⟩ := HdOk.cls T hh
  refine PS.imp (ps_tryN hs hf hN tk (tb := fun W D σ H => ∃ (w1 : HW.W) (R' : Xd → List En → Nat → Prop), (∀ (w' : HW.W) (σ' : L2.St) (ρ' : List En) (cls : Value) (d : Option Addr) (x : Xd), SOk M X.K w1 w' σ' ρ' → XOk X.K X.mg w' cls d x → R' x ρ' w'.c → W cls d σ' w'.H) ∧ tS M X.K w1 (wb R') D σ H) (fun W pn xe tkW ps => ?_) ok) ?_
  · refine ⟨fun p s σ H D I ⟨w1, R', hR, q⟩ => (hb w1 R' pn xe (tkW.imp fun c d σ' H' ⟨w', ρ', x, e, so, xo, r⟩ => e ▸ hR w' σ' ρ' c d x so xo r) ps).run p s σ H D I q⟩
  · rintro D σ H ⟨w, ρ, dd, eh, so, ⟨nm, hw⟩, k⟩
    refine ⟨w, _, fun w' σ' ρ' cls d x s' xo ⟨hx, r⟩ => ?_, w, ρ, dd, eh, so.fresh nm, hw, k.lift (w1 := w) so⟩
    exact go _ D dd R w' σ' ρ' cls d x (so.lift s') xo hx (k.mono (s'.st.fk so.gd)) (fun w2 e r2 => ⟨w', ρ', x, rfl, so.lift s', xo, r2⟩) r
/-- a suite that doesn't look at the error -/
theorem su_plain {Y : Cx} {sts : List Stmt} {a : Addr} {cls : Value} {d : Option Addr} {x : Xd} {i : Option Nat} {ws : WS} (h : PSs Y sts (tS M Y.K w0 ws)) : PSs Y sts (tSu M Y.K Y.mg w0 a cls d x i ws) :=
  PSs.imp h fun D σ H ⟨_, w, ρ, dd, eh, so, _, hw, k⟩ => ⟨w, ρ, dd, eh, so, hw, k⟩
/-- y = e.f, e the caught error -/
def wXf (f : Str) (x : Xd) (i j : Nat) : WS := fun dd ρ c => i < ρ.length ∧ ∃ d, x.fs.lookup f = some d ∧ dd.nx (ρ.set j (.im d)) c
theorem su_fld {y z f n : Str} {i j : Nat} {p1 p2 p3 pos : Pos} {a : Addr} {oe : Obj} {cls : Value} {d : Option Addr} {pn : List (Addr × Obj)} {x : Xd} {k : Nat} (T : XcOk X.prog X.w X.K X.mg X.base k n (some f)) (hz : Zc cls d oe) (hv : ∃ vs, oe.data = .fields vs) (hx : x.C = n)
    (he : PE (X.suite a ((a, oe) :: pn)) (.Name y p1) (tVar i)) (hN : X.N.Nodup) (hi : X.N[j]? = some z) (hL : Loc X.env.scope z) (hb : attributeBase (.Name y p1) f X.env (eval (.Name y p1) X.env) = eval (.Name y p1) X.env := by rfl)
    (hsw : swapsWith (.Attribute (.Name y p1) f p2) (some (.Name z p3)) pos.line X.env = pure false := by rfl) (hf : X.fn z = true ∨ X.env.scope.names.lookup z = some .local := by first | exact .inl rfl | exact .inr rfl | assumption) :
    PS (X.suite a ((a, oe) :: pn)) (.Assign [.Name z p3] (.Attribute (.Name y p1) f p2) pos) (tSu M X.K X.mg w0 a cls d x (some i) (wXf f x i j)) := by
  obtain ⟨C, fI, fd, ps, gC, T1, iC, tI, b, nf, F1⟩ := T.ex
  refine PS.imp (ps_set (X := X.suite a ((a, oe) :: pn)) (i := j) hN hi hL (pe_xf (nf f rfl).2 (nf f rfl).1 hz hv he hb) hsw hf) ?_
  rintro D σ H ⟨hs, w, ρ, dd, eh, so, xo, ⟨hl', dv, el, q⟩, kk⟩
  have hσ : i < σ.length := by rw [so.ev.len]; exact hl'
  refine ⟨_, hs i rfl hσ, rfl, ?_⟩
  have ec : cls = .ref C := by
    have := xo.1
    rw [hx, gC] at this
    exact (Option.some.inj this).symm
  rcases xo.2 with ⟨_, e0⟩ | ⟨dd', fvs, e1, e2, e3, e4⟩
  · rw [e0] at el
    cases el
  · obtain ⟨v, lv, hdv⟩ := e4.get el
    subst eh
    exact ⟨ec, dd', fvs, v, e1, e2, lv, kk.nx w _ _ (Fk.refl w) (so.setIm hdv) q⟩
end
end HW

/-! HW23: len(set(texts)) of any length; texts cut with a step -/
namespace SetS
open PySem PySem.Spec PyProof.Rows
/-- the texts, each once -/
def once (xs : List Str) : List Str := xs.foldl (fun acc x => if x ∈ acc then acc else acc ++ [x]) []
theorem once_snoc (xs : List Str) (x : Str) : once (xs ++ [x]) = if x ∈ once xs then once xs else once xs ++ [x] := by
  unfold once
  rw [List.foldl_append]
  rfl
theorem mem_once (k : Str) : ∀ xs : List Str, k ∈ once xs ↔ k ∈ xs := by
  have go : ∀ r : List Str, k ∈ once r.reverse ↔ k ∈ r.reverse := by
    intro r
    induction r with
    | nil => exact Iff.rfl
    | cons x r ih =>
      rw [List.reverse_cons, once_snoc]
      by_cases h : x ∈ once r.reverse
      · rw [if_pos h]
        constructor
        · intro z; exact List.mem_append_left _ (ih.mp z)
        · intro z
          rcases List.mem_append.mp z with z | z
          · exact ih.mpr z
          · rw [List.mem_singleton.mp z]; exact h
      · rw [if_neg h, List.mem_append, List.mem_append, ih]
  intro xs
  have := go xs.reverse
  rwa [List.reverse_reverse] at this
theorem once_len (xs : List Str) : (once xs).length ≤ xs.length := by
  have go : ∀ r : List Str, (once r.reverse).length ≤ r.length := by
    intro r
    induction r with
    | nil => exact Nat.le_refl 0
    | cons x r ih =>
      rw [List.reverse_cons, once_snoc]
      split
      · exact Nat.le_trans ih (Nat.le_succ _)
      · rw [List.length_append]; exact Nat.succ_le_succ ih
  have := go xs.reverse
  rwa [List.reverse_reverse, List.length_reverse] at this
section
variable {prog : Program} {w : World} {A : Around} {R : Result → Shared → Prop} {I : Addr} {fp wr : List Addr} {G : Array GenState → Array GenState → Prop} {n : Nat} {Pv : Nat → Value → Prop} {St : Nat → Shared → Prop}
abbrev At' (prog : Program) (w : World) (h : Heap) (S : Addr) (xs : List Str) : Prop := h.SetOf (PySem.strKind prog w) S (fun k => decide (k ∈ xs)) (once xs).length
theorem go_on (W : WalksS prog w A.in1 I fp wr G n Pv St) {S : Addr} (nS : S ∉ fp) {xs : List Str} (e : n = xs.length) (room : xs.length + 1 < scanBound) (val : ∀ i v, Pv i v → ∃ t, v = .str (xs.getD i Str.empty) t) :
    ∀ (left i : Nat) (s : Shared), n - i = left → i ≤ n → St i s → At' prog w s.heap S (xs.take i) → (∀ s', Moved (S :: wr) G s s' → At' prog w s'.heap S xs → R (.ok (.ret .none)) s') →
      codeAny (model prog w) A (.builtin "set.update.loop" ⟨[.ref S, .ref I], []⟩) R s
  | 0, i, s, hl, hi, st, at1, out => by
    have ei : i = n := by omega
    subst ei
    refine (codeAny_builtin PyProof.Rows.F.entry_set_update_loop ?_)
    rw [Around.under_plainId PyProof.Rows.F.plain_set_update_loop _]
    refine (show wpAny _ A.in1 (pyNext (.ref I) >>= _) _ _ s from wpAny_bind (W.done s _ _ st fun s' mv => ?_))
    refine (show wpAny _ A.in1 (ret Value.none) _ _ s' from wpAny_pure (out s' (mv.mono fun b hb => List.mem_cons_of_mem _ hb) ?_))
    rw [List.take_of_length_le (by omega)] at at1
    obtain ⟨o, es, ep, tb, ho, rest⟩ := at1
    exact ⟨o, es, ep, tb, mv.heap S _ (fun h => nS (W.sub _ h)) ho, rest⟩
  | left + 1, i, s, hl, hi, st, at1, out => by
    have lt : i < n := by omega
    refine (codeAny_builtin PyProof.Rows.F.entry_set_update_loop ?_)
    rw [Around.under_plainId PyProof.Rows.F.plain_set_update_loop _]
    refine (show wpAny _ A.in1 (pyNext (.ref I) >>= _) _ _ s from wpAny_bind (W.item i s _ _ lt st fun v s' hP st' mv => ?_))
    obtain ⟨t, rfl⟩ := val i v hP
    have at2 : At' prog w s'.heap S (xs.take i) := by
      obtain ⟨o, es, ep, tb, ho, rest⟩ := at1
      exact ⟨o, es, ep, tb, mv.heap S _ (fun h => nS (W.sub _ h)) ho, rest⟩
    have lx : i < xs.length := by omega
    have ex : xs.getD i Str.empty = xs[i] := by simp [lx]
    have ll : (once (xs.take i)).length ≤ i := Nat.le_trans (once_len _) (by rw [List.length_take]; omega)
    rw [ex]
    refine (show wpAny _ A.in1 (holding [Value.str xs[i] t] (setAdd S (.str xs[i] t)) >>= _) _ _ s' from wpAny_bind (wpAny_holding ?_))
    unfold setAdd
    refine wpAny_holding (wpAny_bind ((PySem.strKind prog w).pyHash (k := xs[i]) (strKind_is _ _ _ _) ?_))
    refine wpAny_setAddHashed_of (knd := PySem.strKind prog w) (s := { s' with toks := s'.toks + 1 }) (strKind_is _ _ _ _) rfl at2 (by omega) fun h' sb at3 => ?_
    have tk : xs.take (i + 1) = xs.take i ++ [xs[i]] := by rw [List.take_add_one, List.getElem?_eq_getElem lx]; rfl
    have at4 : At' prog w h' S (xs.take (i + 1)) := by
      refine SetOf_congr at3 (fun k' => ?_) ?_
      · have z : k' ∈ List.take i xs ++ [xs[i]] ↔ (k' ∈ List.take i xs ∨ k' = xs[i]) := by rw [List.mem_append, List.mem_singleton]
        rw [tk, decide_eq_decide.mpr z, Bool.decide_or]
      · rw [tk, once_snoc]
        by_cases z : xs[i] ∈ xs.take i
        · rw [if_pos (by simpa using z), if_pos ((mem_once _ _).mpr z)]
        · rw [if_neg (by simpa using z), if_neg (fun y => z ((mem_once _ _).mp y)), List.length_append]; rfl
    refine wpAny_pure ⟨plainId_quiet PyProof.Rows.F.plain_set_update_loop _, go_on W nS e room val left (i + 1) _ (by omega) lt (W.frame _ s' _ _ st' (Nat.le_succ _) fun b hb o z => ?_) at4 fun s2 mv2 at5 => ?_⟩
    · exact (sb.2 b (fun y : b = S => nS (y ▸ hb))).trans z
    · refine out s2 (Moved.trans W.gtrans ((mv.mono fun b hb => List.mem_cons_of_mem _ hb).then_heap (Nat.le_succ _) fun b o hb z => ?_) mv2) at5
      exact (sb.2 b (fun y : b = S => hb (y ▸ List.mem_cons_self))).trans z
end
section
variable {prog : Program} {w : World} {A : Around} {E : Value → Shared → Prop} {s : Shared}
abbrev fresh0 (led : Bool) : Obj := { cls := .type "set", dict := none, data := .set #[] 0 (.fresh 0 0 led) }
theorem call_set_tupleN {l : Addr} {items : Array Value} {xs : List Str} {Q : Value → Shared → Prop} (hh : A.handled = none) (hl : s.heap.IsTuple l items) (hi : PyProof.Rows.StrsAre items.toList xs) (room : xs.length + 1 < scanBound)
    (h : ∀ (h' : Heap) (tk : Nat), At' prog w h' s.heap.objs.size xs → (∀ b o, s.heap.get? b = some o → h'.get? b = some o) → Q (.ref s.heap.objs.size) { s with heap := h', toks := tk }) :
    wpAny (model prog w) A (call (.type "set") [.ref l]) Q E s := by
  have sz : items.size = xs.length := by rw [← StrsAre.len_eq hi, Array.length_toList]
  obtain ⟨c, tl, hmro⟩ := PySem.F.called_set.mro
  have m1 := PySem.F.called_set.made
  have m2 := PySem.F.called_set.sub
  refine (wpAny_call (codeAny_of_tree ?_))
  refine (show wpAny _ _ (callAny (.type "set") _) _ _ _ from wpAny_pure ⟨Code.quiet_builtin _ (by decide +kernel), codeAny_builtin PySem.F.entry_type_call ?_⟩)
  rw [Around.under_plain (weight_type_call_type "set" [.ref l] []) rfl]
  have m3 := PySem.F.called_set.notType
  have m4 := PySem.F.called_set.canCreate
  have m5 := PySem.F.typeCall_set_1 (.ref l)
  (repeat (any_goals (first | assumption | wp_step)))
  refine codeAny_mono (code_set_new_1 (.ref l) (E := E) (Q₁ := fun obj s₁ => ∃ led : Bool, obj = .ref s.heap.objs.size ∧ s₁ = { s with heap := s.heap.push (fresh0 led) }) fun led => ⟨led, rfl, rfl⟩) fun r s₁ hr => ?_
  cases r with
  | error e => exact hr
  | ok fl =>
    cases fl with
    | ret obj =>
      obtain ⟨led, rfl, rfl⟩ := hr
      have hS : (s.heap.push (fresh0 led)).get? s.heap.objs.size = some (fresh0 led) := Heap.get?_push_size _ rfl
      have hT : Shared.TypeIs { s with heap := s.heap.push (fresh0 led) } (.ref s.heap.objs.size) "set" := ⟨_, hS, rfl⟩
      have i1 := PySem.F.called_set.init.lookup
      have i2 := PySem.F.called_set.init.bind (.ref s.heap.objs.size)
      (repeat (any_goals (first | assumption | wp_step)))
      refine codeAny_mono (codeAny_call_builtin (R := wants (fun r s₂ => r = .none ∧ ∃ h' tk, s₂ = { s with heap := h', toks := tk } ∧ At' prog w h' s.heap.objs.size xs ∧ (∀ b o, s.heap.get? b = some o → h'.get? b = some o)) E) PySem.F.called_set.init.plain PySem.F.entry_set_init (check_set_init_1 hT ?_)) fun r₂ s₂ hr₂ => ?_
      · obtain ⟨ol, hol, hcl, nl, hdl⟩ := hl
        obtain ⟨ocls, odict, odata, oslots⟩ := ol
        simp only at hcl hdl
        subst hcl; subst hdl
        have hol' : (s.heap.push (fresh0 led)).get? l = some { cls := .type "tuple", dict := odict, data := .seq items nl, slots := oslots } := Heap.get?_push_of_some _ hol
        have j1 := PySem.F.sub_tuple_set
        have j2 := PySem.F.sub_tuple_frozenset
        have j3 : (Value.type "tuple" == Value.type "dict") = false := by decide
        have hl1 : (s.heap.push (fresh0 led)).IsTuple l items := ⟨_, hol', rfl, nl, rfl⟩
        unfold Builtin.«set.__init__» noKeywords Builtin.Frozenset.updateFrom
        generalize hPI : pyIter = PI
        wp_walk
        subst hPI
        refine wpAny_pyIter_tuple hl1 (wpAny_bind (wpAny_runValue ?_))
        have lS : l < s.heap.objs.size := Heap.lt_size hol
        have h3 : A.in1.in1.in1.handled = none := by simp [hh]
        have nI : l ≠ (s.heap.push (fresh0 led)).objs.size := by rw [Heap.size_push]; exact Nat.ne_of_lt (Nat.lt_succ_of_lt lS)
        have nS : s.heap.objs.size ∉ [(s.heap.push (fresh0 led)).objs.size, l] := by
          rw [Heap.size_push]; simp only [List.mem_cons, List.mem_singleton, List.not_mem_nil, or_false, not_or]; exact ⟨Nat.ne_of_lt (Nat.lt_succ_self _), Nat.ne_of_gt lS⟩
        refine go_on ((Walks.tuple h3 _ l nI items).toS) nS sz room (fun i v hv => SS.strs_at hi i v (by rw [Array.getElem?_toList]; exact hv)) (items.size - 0) 0 _ (by omega) (Nat.zero_le _) ⟨⟨_, Heap.get?_push_size _ rfl, rfl, rfl⟩, (hl1.push _)⟩ ?hS0 ?hR
        case hS0 =>
          have hget : ((s.heap.push (fresh0 led)).push { cls := .type "tuple_iterator", data := .fields #[.ref l, .int 0 0] }).get? s.heap.objs.size = some (fresh0 led) := Heap.get?_push_of_some _ hS
          exact PyProof.Rows.SetOf_congr ((PyProof.Rows.setObjOf_fresh (knd := PySem.strKind prog w) led).setOf hget (by unfold scanBound; omega)) (fun _ => rfl) rfl
        case hR =>
          intro s' mv at1
          obtain ⟨h', g', d', tk', os'⟩ := s'
          obtain rfl : g' = s.gens := mv.gens
          obtain rfl : d' = s.drawn := mv.drawn
          obtain rfl : os' = s.os := mv.os
          refine wpAny_pure (show wpAny _ _ (ret Value.none) _ _ _ from wpAny_pure ⟨rfl, h', tk', rfl, at1, fun b o z => ?_⟩)
          have lb := Heap.lt_size z
          have n2 : b ≠ (s.heap.push (fresh0 led)).objs.size := by rw [Heap.size_push]; exact Nat.ne_of_lt (Nat.lt_succ_of_lt lb)
          exact mv.heap b o (by simp only [List.mem_cons, List.mem_singleton, List.not_mem_nil, or_false, not_or]; exact ⟨Nat.ne_of_lt lb, n2⟩) (Heap.get?_push_of_some _ (Heap.get?_push_of_some _ z))
      · cases r₂ with
        | error e => exact hr₂
        | ok fl₂ =>
          cases fl₂ with
          | ret r =>
            obtain ⟨rfl, h', tk, rfl, q1, q2⟩ := hr₂
            (repeat (any_goals (first | assumption | wp_step)))
            exact h _ _ q1 q2
          | _ => exact hr₂.elim
    | _ => exact hr.elim
theorem call_set_listN {l : Addr} {items : Array Value} {xs : List Str} {Q : Value → Shared → Prop} (hh : A.handled = none) (hl : s.heap.IsList l items) (hi : PyProof.Rows.StrsAre items.toList xs) (room : xs.length + 1 < scanBound)
    (h : ∀ (h' : Heap) (tk : Nat), At' prog w h' s.heap.objs.size xs → (∀ b o, s.heap.get? b = some o → h'.get? b = some o) → Q (.ref s.heap.objs.size) { s with heap := h', toks := tk }) :
    wpAny (model prog w) A (call (.type "set") [.ref l]) Q E s := by
  have sz : items.size = xs.length := by rw [← StrsAre.len_eq hi, Array.length_toList]
  obtain ⟨c, tl, hmro⟩ := PySem.F.called_set.mro
  have m1 := PySem.F.called_set.made
  have m2 := PySem.F.called_set.sub
  refine (wpAny_call (codeAny_of_tree ?_))
  refine (show wpAny _ _ (callAny (.type "set") _) _ _ _ from wpAny_pure ⟨Code.quiet_builtin _ (by decide +kernel), codeAny_builtin PySem.F.entry_type_call ?_⟩)
  rw [Around.under_plain (weight_type_call_type "set" [.ref l] []) rfl]
  have m3 := PySem.F.called_set.notType
  have m4 := PySem.F.called_set.canCreate
  have m5 := PySem.F.typeCall_set_1 (.ref l)
  (repeat (any_goals (first | assumption | wp_step)))
  refine codeAny_mono (code_set_new_1 (.ref l) (E := E) (Q₁ := fun obj s₁ => ∃ led : Bool, obj = .ref s.heap.objs.size ∧ s₁ = { s with heap := s.heap.push (fresh0 led) }) fun led => ⟨led, rfl, rfl⟩) fun r s₁ hr => ?_
  cases r with
  | error e => exact hr
  | ok fl =>
    cases fl with
    | ret obj =>
      obtain ⟨led, rfl, rfl⟩ := hr
      have hS : (s.heap.push (fresh0 led)).get? s.heap.objs.size = some (fresh0 led) := Heap.get?_push_size _ rfl
      have hT : Shared.TypeIs { s with heap := s.heap.push (fresh0 led) } (.ref s.heap.objs.size) "set" := ⟨_, hS, rfl⟩
      have i1 := PySem.F.called_set.init.lookup
      have i2 := PySem.F.called_set.init.bind (.ref s.heap.objs.size)
      (repeat (any_goals (first | assumption | wp_step)))
      refine codeAny_mono (codeAny_call_builtin (R := wants (fun r s₂ => r = .none ∧ ∃ h' tk, s₂ = { s with heap := h', toks := tk } ∧ At' prog w h' s.heap.objs.size xs ∧ (∀ b o, s.heap.get? b = some o → h'.get? b = some o)) E) PySem.F.called_set.init.plain PySem.F.entry_set_init (check_set_init_1 hT ?_)) fun r₂ s₂ hr₂ => ?_
      · obtain ⟨ol, hol, hcl, nl, hdl⟩ := hl
        obtain ⟨ocls, odict, odata, oslots⟩ := ol
        simp only at hcl hdl
        subst hcl; subst hdl
        have hol' : (s.heap.push (fresh0 led)).get? l = some { cls := .type "list", dict := odict, data := .seq items nl, slots := oslots } := Heap.get?_push_of_some _ hol
        have j1 := PySem.F.sub_list_set
        have j2 := PySem.F.sub_list_frozenset
        have j3 : (Value.type "list" == Value.type "dict") = false := by decide
        have hl1 : (s.heap.push (fresh0 led)).IsList l items := ⟨_, hol', rfl, nl, rfl⟩
        unfold Builtin.«set.__init__» noKeywords Builtin.Frozenset.updateFrom
        generalize hPI : pyIter = PI
        wp_walk
        subst hPI
        refine wpAny_pyIter_list hl1 (wpAny_bind (wpAny_runValue ?_))
        have lS : l < s.heap.objs.size := Heap.lt_size hol
        have h3 : A.in1.in1.in1.handled = none := by simp [hh]
        have nI : l ≠ (s.heap.push (fresh0 led)).objs.size := by rw [Heap.size_push]; exact Nat.ne_of_lt (Nat.lt_succ_of_lt lS)
        have nS : s.heap.objs.size ∉ [(s.heap.push (fresh0 led)).objs.size, l] := by
          rw [Heap.size_push]; simp only [List.mem_cons, List.mem_singleton, List.not_mem_nil, or_false, not_or]; exact ⟨Nat.ne_of_lt (Nat.lt_succ_self _), Nat.ne_of_gt lS⟩
        refine go_on ((Walks.list h3 _ l nI items).toS) nS sz room (fun i v hv => SS.strs_at hi i v (by rw [Array.getElem?_toList]; exact hv)) (items.size - 0) 0 _ (by omega) (Nat.zero_le _) ⟨⟨_, Heap.get?_push_size _ rfl, rfl, rfl⟩, (hl1.push _)⟩ ?hS0 ?hR
        case hS0 =>
          have hget : ((s.heap.push (fresh0 led)).push { cls := .type "list_iterator", data := .fields #[.ref l, .int 0 0] }).get? s.heap.objs.size = some (fresh0 led) := Heap.get?_push_of_some _ hS
          exact PyProof.Rows.SetOf_congr ((PyProof.Rows.setObjOf_fresh (knd := PySem.strKind prog w) led).setOf hget (by unfold scanBound; omega)) (fun _ => rfl) rfl
        case hR =>
          intro s' mv at1
          obtain ⟨h', g', d', tk', os'⟩ := s'
          obtain rfl : g' = s.gens := mv.gens
          obtain rfl : d' = s.drawn := mv.drawn
          obtain rfl : os' = s.os := mv.os
          refine wpAny_pure (show wpAny _ _ (ret Value.none) _ _ _ from wpAny_pure ⟨rfl, h', tk', rfl, at1, fun b o z => ?_⟩)
          have lb := Heap.lt_size z
          have n2 : b ≠ (s.heap.push (fresh0 led)).objs.size := by rw [Heap.size_push]; exact Nat.ne_of_lt (Nat.lt_succ_of_lt lb)
          exact mv.heap b o (by simp only [List.mem_cons, List.mem_singleton, List.not_mem_nil, or_false, not_or]; exact ⟨Nat.ne_of_lt lb, n2⟩) (Heap.get?_push_of_some _ (Heap.get?_push_of_some _ z))
      · cases r₂ with
        | error e => exact hr₂
        | ok fl₂ =>
          cases fl₂ with
          | ret r =>
            obtain ⟨rfl, h', tk, rfl, q1, q2⟩ := hr₂
            (repeat (any_goals (first | assumption | wp_step)))
            exact h _ _ q1 q2
          | _ => exact hr₂.elim
    | _ => exact hr.elim
end
end SetS

/-! HW24: len(set(texts)); texts cut with a step -/
namespace L2
open PySem PySem.Spec PyProof.Rows
def tLenS (K : PySem.W.Frag) (ta : TE) : TE := fun σ H Q => ta σ H fun x H1 => ∃ (l : Addr) (xs : List Str), x = .ref l ∧ (SqL K H1 l (xs.map V.str) ∨ SqT K H1 l (xs.map V.str)) ∧ xs.length ≤ 4000 ∧ Q (.int (SetS.once xs).length) H1
theorem pe_lenS {X : Cx} {a : Expr} {ta : TE} {p p2 q pos : Pos} (hc : X.calm = true) (hg : Gl X "len") (hm : X.mg "len" = none) (hg2 : Gl X "set") (hm2 : X.mg "set" = none) (ha : PE X a ta)
    (na : starEach [a] X.env = (false, eval a X.env) :: starEach [] X.env := by rfl) : PE X (.Call (.Name "len" p) [.Call (.Name "set" p2) [a] [] q] [] pos) (tLenS X.K ta) := by
  refine ⟨fun pins s σ H Q I h => Call_ (ld_blt I hg hm boot_len (PyProof.Rows.callWith_builtin1 (PyProof.Rows.args_cons ?_ rfl) rfl rfl))⟩
  refine Call_ (ld_blt I hg2 hm2 boot_set (PyProof.Rows.callWith_type1 (PyProof.Rows.args_cons (thn (ha.run pins s σ H _ I h) ?_) na) na rfl))
  rintro v s1 ⟨x, H1, I1, r1, l, xs, rfl, hq, hl, q1⟩
  refine (PyProof.Rows.args_nil ?_)
  cases r1
  have room : xs.length + 1 < scanBound := by unfold scanBound; omega
  have fin : ∀ (h' : Heap) (tk : Nat), SetS.At' X.prog X.w h' s1.heap.objs.size xs → (∀ b o, s1.heap.get? b = some o → h'.get? b = some o) →
      wpAny (model X.prog X.w) X.A (spliced (backTo pos (starEach [] X.env))) (fun vs s₂ => wpAny (model X.prog X.w) X.A (call (.builtin "len") (Value.ref s1.heap.objs.size :: vs)) (EP X pins σ Q) X.xe s₂) X.xe { s1 with heap := h', toks := tk } := by
    rintro h' tk ⟨o, es, ep, t, ho, hex, hd, _, _, _, hf, hn⟩ hk
    have le := SetS.once_len xs
    exact PyProof.Rows.args_nil (call_len_set ho hex hd hf (by rw [hn] <;> omega) ⟨.int (SetS.once xs).length, H1, (I1.kept hk).tok _, ⟨_, by rw [hn]⟩, q1⟩)
  rcases hq with hq | hq
  · obtain ⟨its, r, pl, hz⟩ := I1.list hq
    exact SetS.call_set_listN (I1.ok.hd hc) pl.isList (by simpa using strsAre_of r) room fin
  · obtain ⟨its, r, pl, hz⟩ := I1.tuple hq
    exact SetS.call_set_tupleN (I1.ok.hd hc) pl (by simpa using strsAre_of r) room fin
/-- the signs of z from lo on, every k-th -/
def stepS (z : Str) (lo hi : Option Int) (k : Int) : Str := ⟨((Builtin.Str.strSliceIndices lo hi k z.length).filterMap (z.cps[·]?)).toArray⟩
def tSlK (te : TE) (tl th tk : TO) : TE := fun σ H Q => te σ H fun x H1 => tl σ H1 fun l H2 => th σ H2 fun u H3 => tk σ H3 fun k H4 => ∃ z i, x = .str z ∧ k = some i ∧ i ≠ 0 ∧ i ≠ 1 ∧ (stepS z l u i).length ≤ sizeLine ∧ Q (.str (stepS z l u i)) H4
theorem pe_slK {X : Cx} {e : Expr} {lo hi : Option Expr} {st : Expr} {te : TE} {tl th tk : TO} {p2 pos : Pos} (he : PE X e te) (hl : PO X lo tl) (hu : PO X hi th) (hk : PO X (some st) tk) : PE X (.Subscript e (.Slice lo hi (some st) p2) pos) (tSlK te tl th tk) := by
  refine ⟨fun pins s σ H Q I h => Subscript_ (thn (he.run pins s σ H _ I h) ?_)⟩
  rintro v s1 ⟨x, H1, I1, r1, q1⟩
  refine wpAny_Slice (thn (hl.run pins s1 σ H1 _ I1 q1) ?_)
  rintro vl s2 ⟨l, H2, I2, pl, q2⟩
  refine (thn (hu.run pins s2 σ H2 _ I2 q2) ?_)
  rintro vu s3 ⟨u, H3, I3, pu, q3⟩
  refine (thn (hk.run pins s3 σ H3 _ I3 q3) ?_)
  rintro vk s4 ⟨k, H4, I4, pk, z, i, rfl, rfl, i0, i1, hz, q⟩
  obtain ⟨t, rfl⟩ := r1
  have I5 : Inv X pins σ H4 { s4 with heap := s4.heap.push { cls := .type "slice", data := .fields #[vl, vu, vk] } } := I4.kept (t' := s4.toks) fun b ob q => Heap.get?_push_of_some _ q
  obtain ⟨os, hos, hcs, hds⟩ := Heap.IsSliceOf.new s4.heap vl vu vk
  obtain ⟨l', rfl, rfl⟩ := IsPart.raw pl
  obtain ⟨u', rfl, rfl⟩ := IsPart.raw pu
  obtain ⟨k', rfl, ek⟩ := IsPart.raw pk
  refine (show wpAny (model X.prog X.w) X.A (subscriptTail e (.Slice lo hi (some st) p2) (.str z t) (.ref s4.heap.objs.size)) (EP X pins σ Q) X.xe { s4 with heap := s4.heap.push { cls := .type "slice", data := .fields #[partValue l', partValue u', partValue k'] } } from
    tail_any (ops := [.str z t, .ref s4.heap.objs.size]) (typeIs_str _ _ _) PySem.F.slot_str_getitem.lookup (wpAny_getItem_str_slice (l := l') (u := u') (st := k') ⟨os, hos, hcs, hds⟩ ?_ ?_) (by with_unfolding_all rfl))
  · rw [ek]
    exact beq_false_of_ne i0
  · have em : sliceMade z t l' u' k' = Made.str (stepS z (l'.map (·.1)) (u'.map (·.1)) i) := by
      unfold sliceMade slicePicked stepS
      rw [ek]
      show (if (i == 1 && _) = true then _ else _) = _
      rw [beq_false_of_ne i1, Bool.false_and, if_neg (by decide)]
      rfl
    rw [em]
    exact ⟨hz, .str _, H4, I5.tok _, ⟨_, rfl⟩, q⟩
end L2
namespace HW
open PySem L2
def lenSetD (d : D) : Option D := ((seqD d).bind strsOf).bind fun xs => if xs.length ≤ 4000 then some (.int (SetS.once xs).length) else none
theorem lenSetD_some {d z : D} (h : lenSetD d = some z) : ∃ ds xs, seqD d = some ds ∧ ds = xs.map PyData.str ∧ xs.length ≤ 4000 ∧ z = .int (SetS.once xs).length := by
  unfold lenSetD at h
  cases e : seqD d with
  | none => rw [e] at h; cases h
  | some ds =>
    rw [e] at h
    cases es : strsOf ds with
    | none => simp only [Option.bind_some, es, Option.bind_none, reduceCtorEq] at h
    | some xs =>
      simp only [Option.bind_some, es] at h
      split at h
      · cases h; exact ⟨ds, xs, rfl, strsOf_some es, by assumption, rfl⟩
      · cases h
section
variable {X : Cx} {M : MI} {a e : Expr} {we : WE} {wl wu wk : WO} {lo hi : Option Expr} {st : Expr} {p p2 q pos : Pos}
theorem e_lenS (hc : X.calm = true) (hg : Gl X "len") (hm : X.mg "len" = none) (hg2 : Gl X "set") (hm2 : X.mg "set" = none) (ha : PE X a (tB M X.K we)) (na : starEach [a] X.env = (false, eval a X.env) :: starEach [] X.env := by rfl) :
    PE X (.Call (.Name "len" p) [.Call (.Name "set" p2) [a] [] q] [] pos) (tE M X.K (wF lenSetD we)) := by
  refine PE.imp (pe_lenS hc hg hm hg2 hm2 ha na) ?_
  rintro σ H Q ⟨w, ρ, Qd, eh, ev, g, hw, k⟩
  refine ⟨w, ρ, _, eh, ev, g, hw, fun w1 v d s1 g1 dv q1 => ?_⟩
  obtain ⟨z, ez, qz⟩ := q1
  obtain ⟨ds, xs, es, rfl, hl, rfl⟩ := lenSetD_some ez
  cases d <;> simp only [seqD, reduceCtorEq, Option.some.injEq] at es
  · subst es
    obtain ⟨b, vs, rfl, sq, da⟩ := dv.seqL
    rw [da.strs] at sq
    exact ⟨b, xs, rfl, .inl sq, hl, k w1 _ _ s1 g1 (.int _) qz⟩
  · subst es
    obtain ⟨b, vs, rfl, sq, da⟩ := dv.seqT
    rw [da.strs] at sq
    exact ⟨b, xs, rfl, .inr sq, hl, k w1 _ _ s1 g1 (.int _) qz⟩
def stepD (x : D) (l u : Option Int) (i : Int) : Option D := match x with
  | .str z => if i ≠ 0 ∧ i ≠ 1 ∧ (stepS z l u i).length ≤ LIM then some (.str (stepS z l u i)) else none
  | _ => none
def wSlK (we : WE) (wl wu wk : WO) : WE := fun ρ c Q => we ρ c fun x c1 => wl ρ c1 fun l c2 => wu ρ c2 fun u c3 => wk ρ c3 fun k c4 => ∃ i z, k = some i ∧ stepD x l u i = some z ∧ Q z c4
theorem e_slK (he : PE X e (tB M X.K we)) (hl : PO X lo (tO M X.K wl)) (hu : PO X hi (tO M X.K wu)) (hk : PO X (some st) (tO M X.K wk)) : PE X (.Subscript e (.Slice lo hi (some st) p2) pos) (tE M X.K (wSlK we wl wu wk)) := by
  refine PE.imp (pe_slK he hl hu hk) ?_
  rintro σ H Q ⟨w, ρ, Qd, eh, ev, g, hw, k⟩
  refine ⟨w, ρ, _, eh, ev, g, hw, fun w1 v d s1 g1 dv q1 => ?_⟩
  refine ⟨w1, ρ, _, rfl, ev.stp s1 g, g1, q1, fun w2 l s2 g2 q2 => ?_⟩
  refine ⟨w2, ρ, _, rfl, (ev.stp s1 g).stp s2 g1, g2, q2, fun w3 u s3 g3 q3 => ?_⟩
  refine ⟨w3, ρ, _, rfl, ((ev.stp s1 g).stp s2 g1).stp s3 g2, g3, q3, fun w4 i s4 g4 q4 => ?_⟩
  obtain ⟨n, z, rfl, ez, qz⟩ := q4
  cases d <;> simp only [stepD, reduceCtorEq] at ez
  split at ez
  · rename_i h
    cases ez
    obtain rfl := dv.str
    exact ⟨_, n, rfl, rfl, h.1, h.2.1, lim_size h.2.2, k w4 _ _ (((s1.trans s2).trans s3).trans s4) g4 (.str _) qz⟩
  · cases ez
end
end HW

/-! HW25: sorted of texts, a list or a tuple, of any length -/
namespace SortT
open PySem PySem.Spec PyProof.Rows
section
variable {prog : Program} {w : World} {A : Around} {E : Value → Shared → Prop} {s : Shared}
abbrev laid (h : Heap) (items : Array Value) : Heap := (h.push (seqObj "list" #[] 0)).update h.objs.size (Obj.mapSeq (· ++ items))
theorem laid_size {h : Heap} {items : Array Value} : (laid h items).objs.size = h.objs.size + 1 := by
  rw [Heap.size_update, size_push']
theorem collectX {l : Addr} {T : String} {o : Obj} {items : Array Value} {n : Nat} {Q : List Value → Shared → Prop} (hT : T = "list" ∨ T = "tuple") (ho : s.heap.get? l = some o) (hc : o.cls = .type T) (hd : o.data = .seq items n) (hz : items.size ≤ sizeLine)
    (hQ : Q items.toList { s with heap := laid s.heap items }) : wpAny (model prog w) A (collect (.ref l)) Q E s := by
  unfold collect
  refine (wpAny_bind (wpAny_runValue (codeAny_builtin PySem.F.entry_proto_collect ?_)))
  rw [Around.under_plainId PySem.F.plain_proto_collect _]
  refine (show wpAny _ A.in1 (newList [] >>= fun y => again (.builtin "list.__iadd__" ⟨[y, .ref l], []⟩)) _ _ s from wpAny_bind (wpAny_newObj_type (wpAny_pure ⟨plainId_quiet PySem.F.plain_list_iadd _, codeAny_builtin PySem.F.entry_list_iadd ?_⟩)))
  rw [Around.under_plainId PySem.F.plain_list_iadd _]
  have h0 : (s.heap.push { cls := .type "list", data := .seq ([] : List Value).toArray }).get? s.heap.objs.size = some { cls := .type "list", data := .seq #[] 0 } := Heap.get?_push_size _ rfl
  have h1 := Heap.get?_update_self (Obj.mapSeq (· ++ items)) h0 rfl
  have fin : wpAny (model prog w) A (load s.heap.objs.size >>= fun u => match u.data with
          | Data.seq xs _ => pure xs.toList
          | _ => unsupported "internal:collect") Q E { s with heap := laid s.heap items } := by
    refine wpAny_bind (wpAny_load h1 (wpAny_pure ?_))
    rw [show ((#[] : Array Value) ++ items).toList = items.toList by simp]
    exact hQ
  refine (show wpAny _ A.in1 (Builtin.List.listExtendWith (.ref s.heap.objs.size) (.ref l) (.ref s.heap.objs.size)) _ _ _ from
    wpAny_mono (wpAny_extend_seq (hsz := hz) (A := A) (R := fun r s' => r = .ok (.ret (.ref s.heap.objs.size)) ∧ s' = { s with heap := laid s.heap items }) (s := { s with heap := s.heap.push { cls := .type "list", data := .seq ([] : List Value).toArray } })
      _ l _ 0 hT h0 (Heap.get?_push_of_some _ ho) hc hd ⟨rfl, rfl⟩) (fun f s' h => ?_) (fun e s' h => ?_))
  · cases f with
    | done f =>
      obtain ⟨e, rfl⟩ := h
      cases e
      exact fin
    | again c' => exact ⟨h.1, codeAny_mono h.2 fun r s2 hr => by obtain ⟨rfl, rfl⟩ := hr; exact fin⟩
  · exact absurd h.1 (by simp)
theorem sorted_seq {l : Addr} {vs : List Value} {ss : List Str} {T : String} {o : Obj} {n : Nat} {Q : Value → Shared → Prop} (hT : T = "list" ∨ T = "tuple") (ho : s.heap.get? l = some o) (hc : o.cls = .type T) (hd : o.data = .seq vs.toArray n) (hS : StrsAre vs ss) (hL : vs.length ≤ sizeLine)
    (h : ∀ (out : Array Value) (ss' : List Str), StrsAre out.toList ss' → ss'.Perm ss → sortedS ss' = true → Q (.ref (s.heap.objs.size + 1)) { s with heap := sortedAll s.heap vs out }) : wpAny (model prog w) A (call (.builtin "sorted") [.ref l]) Q E s := by
  refine (Calls.call_function_entry kind_sorted plain_sorted entry_sorted (args_sorted1 _) ?_)
  unfold Builtin.«sorted»
  refine wpAny_bind (m := checkCount "sorted" 1 1 _) (wpAny_pure (wpAny_bind (collectX hT ho hc hd (by simpa using hL) (wpAny_bind (wpAny_newList ?_ (by simpa using hL))))))
  have at1 : ((laid s.heap vs.toArray).push (seqObj "list" vs.toArray 0)).get? (s.heap.objs.size + 1) = some (seqObj "list" vs.toArray 0) := by
    rw [← laid_size (items := vs.toArray)]
    exact Heap.get?_push_size _ rfl
  refine (show wpAny _ _ _ _ _ { s with heap := (laid s.heap vs.toArray).push (seqObj "list" vs.toArray 0) } from ?_)
  rw [show (laid s.heap vs.toArray).objs.size = s.heap.objs.size + 1 from laid_size]
  refine wpAny_bind (wpAny_holding (wpAny_call_entry slot_list_sort ⟨_, at1, rfl⟩ entry_list_sort (list_sort_treeKAny strKind_oneLt at1 hS.keysOf (fun v₁ v₂ rest e => keyKind_strs (by rw [← e]; exact hS)) hL fun st' a1 a2 => ⟨_, rfl, ?_⟩) (args_list_sort _)))
  obtain ⟨ss', b1, b2, b3⟩ := sorted_out_str hS a1 a2
  exact wpAny_pure ⟨_, rfl, h _ ss' b1 b2 b3⟩
end
end SortT
namespace L2
open PySem PySem.Spec PyProof.Rows
def rSortT (K : PySem.W.Frag) : List V → Hp → VK → Prop := fun vs H Q => ∃ (a : Addr) (xs : List Str), vs = [V.ref a] ∧ (SqL K H a (xs.map V.str) ∨ SqT K H a (xs.map V.str)) ∧ ∀ (ys : List Str) (p : Addr), ys.Perm xs → sortedS ys = true → H p = none → Q (.ref p) (upd H p (.lst (ys.map V.str)))
theorem cr_sortT {X : Cx} : CallR X (.builtin "sorted") (rSortT X.K) := by
  intro pins s σ H vs us Q I r h
  obtain ⟨a, xs, rfl, hs, q⟩ := h
  rw [Vals.ref1 r]
  have fin : ∀ (its : List Value), Vals (xs.map V.str) its → its.length ≤ sizeLine → ∀ (out : Array Value) (ys : List Str), StrsAre out.toList ys → ys.Perm xs → sortedS ys = true → EP X pins σ Q (.ref (s.heap.objs.size + 1)) { s with heap := sortedAll s.heap its out } := by
    intro its rv hz out ys h1 h2 h3
    obtain ⟨ep, at1⟩ := PyProof.Rows.sortedAll_at s.heap its out
    have e0 := rv.length
    rw [List.length_map] at e0
    have e1 := h2.length_eq
    have hlen : (ys.map V.str).length ≤ sizeLine := by rw [List.length_map, e1, e0]; exact hz
    exact ⟨.ref _, upd H (s.heap.objs.size + 1) (.lst (ys.map V.str)), I.laid (t' := s.toks) (fun _ _ => PyProof.Rows.sortedAll_old) (Nat.le_succ _) ⟨hlen, out.toList, ep, vals_of_strs h1, at1⟩, rfl, q ys _ h2 h3 (I.hok.fresh (Nat.le_succ _))⟩
  rcases hs with hs | hs
  · obtain ⟨its, rv, hl, hz⟩ := I.list hs
    obtain ⟨o, ho, hc, n, hd⟩ := hl.isList
    have hz' : its.length ≤ sizeLine := by rw [← rv.length]; exact hz
    exact SortT.sorted_seq (.inl rfl) ho hc hd rv.strs hz' fun out ys => fin its rv hz' out ys
  · obtain ⟨its, rv, hl, hz⟩ := I.tuple hs
    obtain ⟨o, ho, hc, n, hd⟩ := hl
    have hz' : its.length ≤ sizeLine := by rw [← rv.length]; exact hz
    exact SortT.sorted_seq (.inr rfl) ho hc hd rv.strs hz' fun out ys => fin its rv hz' out ys
end L2
namespace HW
open PySem L2
/-! the order of texts -/
def leL (a b : List Nat) : Bool := !decide (b < a)
def insS (x : Str) : List Str → List Str
  | [] => [x]
  | y :: r => if leL x.cps.toList y.cps.toList = true then x :: y :: r else y :: insS x r
def sortL : List Str → List Str
  | [] => []
  | x :: r => insS x (sortL r)
theorem lt_irr (a : List Nat) : ¬ a < a := List.lt_irrefl a
theorem leL_tot (a b : List Nat) : leL a b = true ∨ leL b a = true := by
  unfold leL
  by_cases h : b < a
  · exact .inr (by simpa using List.lt_asymm h)
  · exact .inl (by simpa using h)
theorem leL_iff {a b : List Nat} : leL a b = true ↔ a ≤ b := by
  unfold leL
  rw [Bool.not_eq_true', decide_eq_false_iff_not]
  exact Iff.rfl
theorem leL_tr {a b c : List Nat} (h1 : leL a b = true) (h2 : leL b c = true) : leL a c = true := leL_iff.mpr (List.le_trans (leL_iff.mp h1) (leL_iff.mp h2))
theorem leL_as {a b : List Nat} (h1 : leL a b = true) (h2 : leL b a = true) : a = b := List.le_antisymm (leL_iff.mp h1) (leL_iff.mp h2)
abbrev leS (x y : Str) : Prop := leL x.cps.toList y.cps.toList = true
theorem insS_perm (x : Str) : ∀ r : List Str, (insS x r).Perm (x :: r)
  | [] => .refl _
  | y :: r => by
    unfold insS
    split
    · exact .refl _
    · exact ((insS_perm x r).cons y).trans (.swap x y r)
theorem sortL_perm : ∀ r : List Str, (sortL r).Perm r
  | [] => .refl _
  | x :: r => (insS_perm x _).trans ((sortL_perm r).cons x)
theorem insS_srt (x : Str) : ∀ r : List Str, r.Pairwise leS → (insS x r).Pairwise leS
  | [], _ => List.pairwise_singleton _ _
  | y :: r, h => by
    obtain ⟨h1, h2⟩ := List.pairwise_cons.mp h
    unfold insS
    split
    · rename_i c
      refine List.pairwise_cons.mpr ⟨fun z hz => ?_, h⟩
      rcases List.mem_cons.mp hz with rfl | hz
      · exact c
      · exact leL_tr c (h1 z hz)
    · rename_i c
      refine List.pairwise_cons.mpr ⟨fun z hz => ?_, insS_srt x r h2⟩
      rcases List.mem_cons.mp ((insS_perm x r).mem_iff.mp hz) with rfl | hz
      · exact (leL_tot _ _).resolve_left c
      · exact h1 z hz
theorem sortL_srt : ∀ r : List Str, (sortL r).Pairwise leS
  | [] => .nil
  | x :: r => insS_srt x _ (sortL_srt r)
theorem rising_pw : ∀ (r : List Str) (x : Str), PyProof.Rows.risingS x r = true → (x :: r).Pairwise leS
  | [], x, _ => List.pairwise_singleton _ _
  | y :: r, x, h => by
    simp only [PyProof.Rows.risingS, Bool.and_eq_true, PyProof.Rows.ltCps_eq] at h
    have ih := rising_pw r y h.2
    refine List.pairwise_cons.mpr ⟨fun z hz => ?_, ih⟩
    have xy : leS x y := h.1
    rcases List.mem_cons.mp hz with rfl | hz
    · exact xy
    · exact leL_tr xy ((List.pairwise_cons.mp ih).1 z hz)
theorem sorted_pw {ys : List Str} (h : PyProof.Rows.sortedS ys = true) : ys.Pairwise leS := by
  cases ys with
  | nil => exact .nil
  | cons x r => exact rising_pw r x h
theorem sort_uniq : ∀ {xs ys : List Str}, xs.Perm ys → xs.Pairwise leS → ys.Pairwise leS → xs = ys
  | [], ys, p, _, _ => (List.nil_perm.mp p).symm
  | x :: xs, [], p, _, _ => absurd (List.perm_nil.mp p) (by simp)
  | x :: xs, y :: ys, p, h1, h2 => by
    obtain ⟨a1, a2⟩ := List.pairwise_cons.mp h1
    obtain ⟨b1, b2⟩ := List.pairwise_cons.mp h2
    have refl : ∀ z : Str, leS z z := fun z => (leL_tot _ _).elim _root_.id _root_.id
    have xy : leS x y := by
      rcases List.mem_cons.mp (p.mem_iff.mpr List.mem_cons_self) with rfl | h
      · exact refl _
      · exact a1 _ h
    have yx : leS y x := by
      rcases List.mem_cons.mp (p.mem_iff.mp List.mem_cons_self) with rfl | h
      · exact refl _
      · exact b1 _ h
    have e : x = y := by
      have := leL_as xy yx
      cases x with
      | mk a => cases y with
        | mk b => exact congrArg Str.mk (Array.toList_inj.mp this)
    subst e
    rw [sort_uniq p.cons_inv a2 b2]
theorem sort_is {xs ys : List Str} (p : ys.Perm xs) (h : PyProof.Rows.sortedS ys = true) : ys = sortL xs := sort_uniq (p.trans (sortL_perm xs).symm) (sorted_pw h) (sortL_srt xs)
def sortD (d : D) : Option D := ((seqD d).bind strsOf).map fun xs => .list ((sortL xs).map .str)
section
variable {X : Cx} {M : MI} {e : Expr} {we : WE} {p pos : Pos}
theorem e_sortT (hg : Gl X "sorted") (hm : X.mg "sorted" = none) (he : PE X e (tB M X.K we)) (hs : starEach [e] X.env = (false, eval e X.env) :: starEach [] X.env := by rfl) : PE X (.Call (.Name "sorted" p) [e] [] pos) (tE M X.K (wF sortD we)) := by
  refine PE.imp (pe_callB cr_sortT hg hm (by decide +kernel) (pa_cons he pa_nil hs) (by decide) (by decide) hs (by rfl)) ?_
  rintro σ H Q ⟨w, ρ, Qd, eh, ev, g, hw, k⟩
  refine ⟨w, ρ, _, eh, ev, g, hw, fun w1 v d s1 g1 bv ⟨z, ez, qz⟩ => ?_⟩
  unfold sortD at ez
  cases es : seqD d with
  | none => rw [es] at ez; cases ez
  | some ds =>
    rw [es] at ez
    cases ess : strsOf ds with
    | none => simp only [Option.bind_some, ess, Option.map_none, reduceCtorEq] at ez
    | some xs =>
      simp only [Option.bind_some, ess, Option.map_some, Option.some.injEq] at ez
      subst ez
      have hd := strsOf_some ess
      have fin : ∀ (ys : List Str) (p : Addr), ys.Perm xs → PyProof.Rows.sortedS ys = true → w1.H p = none → Q (.ref p) (upd w1.H p (.lst (ys.map V.str))) := fun ys p hp hso hn => by
        rw [← sort_is hp hso] at qz
        exact k (w1.new p (.lst (ys.map V.str))) _ _ (s1.trans (stp_new hn)) (gd_new g1 hn) (new_lst g1 hn (DvA.of_strs ys)) qz
      cases d <;> simp only [seqD, reduceCtorEq, Option.some.injEq] at es
      · subst es
        obtain ⟨a, vs, rfl, sq, da⟩ := bv.seqL
        rw [hd] at da
        rw [da.strs] at sq
        exact ⟨a, xs, rfl, .inl sq, fin⟩
      · subst es
        obtain ⟨a, vs, rfl, sq, da⟩ := bv.seqT
        rw [hd] at da
        rw [da.strs] at sq
        exact ⟨a, xs, rfl, .inr sq, fin⟩
end
end HW

/-! HW26: f-strings; x = a call that may raise; raising expressions by cases -/
namespace HW
open PySem L2
def fmtD : D → Option D
  | .str y => if y.length ≤ LIM then some (.str y) else none
  | .int i => if i.natAbs.log2 < 1920 then some (.str (toString i)) else none
  | _ => none
section
variable {X : Cx} {M : MI} {w0 : W} {e v1 v2 : Expr} {we : WE} {ws : List WE} {pos : Pos}
theorem e_fmt (he : PE X e (tB M X.K we)) : PE X (.FormattedValue e (-1) none pos) (tE M X.K (wF fmtD we)) := by
  refine PE.imp (pe_fmt he) ?_
  rintro σ H Q ⟨w, ρ, Qd, eh, ev, g, hw, k⟩
  refine ⟨w, ρ, _, eh, ev, g, hw, fun w1 v d s1 g1 bv ⟨z, ez, qz⟩ => ?_⟩
  cases d <;> simp only [fmtD, reduceCtorEq] at ez
  · split at ez
    · cases ez
      exact .inr ⟨_, bv.int, by assumption, k w1 _ _ s1 g1 (.str _) qz⟩
    · cases ez
  · split at ez
    · cases ez
      exact .inl ⟨_, bv.str, lim_size (by assumption), k w1 _ _ s1 g1 (.str _) qz⟩
    · cases ez
/-- the parts, one behind the other -/
def wJs : List WE → Str → List En → Nat → (D → Nat → Prop) → Prop
  | [], acc, _, c, Q => Q (.str acc) c
  | we :: r, acc, ρ, c, Q => we ρ c fun d c1 => ∃ y, d = .str y ∧ (acc ++ y).length ≤ LIM ∧ wJs r (acc ++ y) ρ c1 Q
def wJoin (ws : List WE) : WE := fun ρ c Q => wJs ws Str.empty ρ c Q
theorem js_ok {K : PySem.W.Frag} {σ : L2.St} {ρ : List En} {Qd : D → Nat → Prop} {Q : Str → Hp → Prop} : ∀ (ws : List WE) (acc : Str) (w : W), EnvOk K w σ ρ → Gd M w → wJs ws acc ρ w.c Qd → (∀ (w' : W) (y : Str), Stp w w' → Gd M w' → Qd (.str y) w'.c → Q y w'.H) → tJs (ws.map (tE M K)) acc σ w.H Q
  | [], acc, w, ev, g, h, k => k w acc (Stp.refl w) g h
  | we :: r, acc, w, ev, g, h, k => by
    refine ⟨w, ρ, _, rfl, ev, g, h, fun w1 v d s1 g1 dv q1 => ?_⟩
    obtain ⟨y, rfl, hl, q⟩ := q1
    cases dv
    exact ⟨y, rfl, lim_size hl, js_ok r (acc ++ y) w1 (ev.stp s1 g) g1 q fun w' z s' g' => k w' z (s1.trans s') g'⟩
theorem e_joined {rest : List Expr} (h : PJ X (v1 :: v2 :: rest) (ws.map (tE M X.K))) : PE X (.JoinedStr (v1 :: v2 :: rest) pos) (tE M X.K (wJoin ws)) := by
  refine PE.imp (pe_joined h) ?_
  rintro σ H Q ⟨w, ρ, Qd, eh, ev, g, hw, k⟩
  subst eh
  exact js_ok ws _ w ev g hw fun w' y s' g' q => k w' _ _ s' g' (.str y) q
theorem s_setX {i : Nat} {x : Str} {pos' : Pos} (hN : X.N.Nodup) (hi : X.N[i]? = some x) (hx : Loc X.env.scope x) (he : PE X e (tEX M X.K w0 we)) (hs : swapsWith e (some (.Name x pos')) pos.line X.env = pure false := by rfl) (hf : X.fn x = true ∨ X.env.scope.names.lookup x = some .local := by first | exact .inl rfl | exact .inr rfl | assumption) :
    PS X (.Assign [.Name x pos'] e pos) (tS M X.K w0 (wSet i we)) := by
  refine PS.imp (ps_set hN hi hx he hs hf) ?_
  rintro D σ H ⟨w, ρ, dd, eh, so, hw, k⟩
  exact ⟨w, ρ, _, eh, so, hw, fun w' v d s g dv q => k.nx w' _ _ (s.fk so.gd) ((so.stp s g).setIm dv) q⟩
theorem x_if {c a b : Expr} {wt : WT} {wa wb : WE} (hc : L2.PT X c (tT M X.K wt)) (ha : PE X a (tEX M X.K w0 wa)) (hb : PE X b (tEX M X.K w0 wb)) : PE X (.IfExp c a b pos) (tEX M X.K w0 (wIfE wt wa wb)) := by
  refine PE.imp (pe_ifExp hc ha hb) ?_
  rintro σ H Q ⟨w, ρ, Qd, eh, so, hw, k⟩
  refine ⟨w, ρ, _, eh, so.ev, so.gd, hw, fun w1 b s1 g1 q1 => ?_⟩
  cases b with
  | true => exact iteT ⟨w1, ρ, Qd, rfl, so.stp s1 g1, q1, fun w2 v d s2 g2 dv q2 => k w2 v d (s1.trans s2) g2 dv q2⟩
  | false => exact iteF ⟨w1, ρ, Qd, rfl, so.stp s1 g1, q1, fun w2 v d s2 g2 dv q2 => k w2 v d (s1.trans s2) g2 dv q2⟩
end
end HW
namespace HW
open PySem L2
abbrev wAppG (i : Nat) (we : WE) : WS := fun dd ρ c => (∃ ds, ρ[i]? = some (.ls ds)) ∧ wApp i we dd ρ c
theorem tk_no {X : Cx} {M : MI} {w0 : W} : TkR X M w0 (fun _ _ _ => False) := takes_none5.imp fun _ _ _ _ ⟨_, _, _, _, _, _, z⟩ => z
theorem ext_of {K : PySem.W.Frag} {mg : Str → Option Value} {ns : List Str} {ps : List (Str × Addr)} (e : ns = ps.map (·.1)) (h1 : ∀ p ∈ ps, mg p.1 = some (.ref p.2)) (h2 : ∀ p ∈ ps, ∀ p' ∈ ps, PySem.W.exmOne K (.ref p.2) (.ref p'.2) = some (decide (p.1 = p'.1))) : ExT K mg ns := by
  subst e
  refine ⟨fun n hn => ?_, fun n hn n' hn' c c' hc hc' => ?_⟩
  · obtain ⟨p, hp, rfl⟩ := List.mem_map.mp hn
    exact ⟨p.2, h1 p hp⟩
  · obtain ⟨p, hp, rfl⟩ := List.mem_map.mp hn
    obtain ⟨p', hp', rfl⟩ := List.mem_map.mp hn'
    rw [h1 p hp] at hc
    rw [h1 p' hp'] at hc'
    cases hc
    cases hc'
    exact h2 p hp p' hp'
end HW

namespace HW
open PySem L2
abbrev noR : Xd → List En → Nat → Prop := fun _ _ _ => False
theorem op_isB {X : Cx} : OpR X (compareOp .Is) (fun x y H Q => ∃ a b, x = .bl a ∧ y = .bl b ∧ Q (.bl (a == b)) H) := by
  intro pins s σ H x y v u Q I rx ry h
  obtain ⟨a, b, rfl, rfl, q⟩ := h
  cases rx
  cases ry
  refine (show wpAny (model X.prog X.w) X.A (isSame (.bool a) (.bool b) >>= fun r => pure (Value.bool r)) (EP X pins σ Q) X.xe s from wpAny_bind (wpAny_pure (wpAny_pure ⟨.bl (a == b), H, I, ?_, q⟩)))
  cases a <;> cases b <;> rfl
theorem op_isnB {X : Cx} : OpR X (compareOp .IsNot) (fun x y H Q => ∃ a b, x = .bl a ∧ y = .bl b ∧ Q (.bl (!(a == b))) H) := by
  intro pins s σ H x y v u Q I rx ry h
  obtain ⟨a, b, rfl, rfl, q⟩ := h
  cases rx
  cases ry
  refine (show wpAny (model X.prog X.w) X.A (isSame (.bool a) (.bool b) >>= fun r => pure (Value.bool (!r))) (EP X pins σ Q) X.xe s from wpAny_bind (wpAny_pure (wpAny_pure ⟨.bl (!(a == b)), H, I, ?_, q⟩)))
  cases a <;> cases b <;> rfl
def isBD (neg : Bool) : D → D → Option D
  | .bool a, .bool b => some (.bool (if neg then !(a == b) else (a == b)))
  | _, _ => none
theorem d_isB {M : MI} {K : PySem.W.Frag} : OpD M K (fun x y H Q => ∃ a b, x = .bl a ∧ y = .bl b ∧ Q (.bl (a == b)) H) (isBD false) := fun w x y dx dy z Q g hx hy e k => by
  cases dx <;> cases dy <;> simp only [isBD, reduceCtorEq] at e
  cases e
  exact ⟨_, _, hx.bl, hy.bl, k w _ (Stp.refl w) g (.bl _) rfl⟩
theorem d_isnB {M : MI} {K : PySem.W.Frag} : OpD M K (fun x y H Q => ∃ a b, x = .bl a ∧ y = .bl b ∧ Q (.bl (!(a == b))) H) (isBD true) := fun w x y dx dy z Q g hx hy e k => by
  cases dx <;> cases dy <;> simp only [isBD, reduceCtorEq] at e
  cases e
  exact ⟨_, _, hx.bl, hy.bl, k w _ (Stp.refl w) g (.bl _) rfl⟩
end HW

/-! HW27: cuts of tuples; texts, tuples, written lists times an int -/
namespace HW
open PySem L2
theorem DvA.rep {K : PySem.W.Frag} {P : Addr → Prop} {H : Hp} {vs : List V} {ds : List D} (h : DvA K P H vs ds) : ∀ n : Nat, DvA K P H (List.replicate n vs).flatten (List.replicate n ds).flatten
  | 0 => .nil
  | n + 1 => by
    rw [List.replicate_succ, List.replicate_succ, List.flatten_cons, List.flatten_cons]
    exact h.app (h.rep n)
def repTD : D → D → Option D
  | .tuple ds, .int k => if ds ≠ [] ∧ 2 ≤ k ∧ k ≤ 1000 ∧ ds.length ≤ 1000 then some (.tuple (List.replicate k.toNat ds).flatten) else none
  | _, _ => none
theorem d_repT {M : MI} {K : PySem.W.Frag} : OpD M K (rRepT K) repTD := fun w x y dx dy z Q g hx hy e k => by
  cases dx <;> cases dy <;> simp only [repTD, reduceCtorEq] at e
  split at e
  · rename_i h
    obtain ⟨h1, h2, h3, h4⟩ := h
    cases e
    obtain ⟨a, vs, rfl, sq, da⟩ := hx.seqT
    refine ⟨a, _, vs, rfl, hy.int, sq, fun z => h1 ?_, h2, h3, by rw [da.length]; exact h4, fun p hp => newQ g hp (new_tup g hp (da.rep _)) k⟩
    subst z
    cases da
    rfl
  · cases e
theorem op_mulS {X : Cx} : OpR X (binaryOp .Mult) (fun x y H Q => ∃ a n, x = .str a ∧ y = .int n ∧ 0 ≤ n ∧ n ≤ 1000 ∧ a.length ≤ 1000 ∧ Q (.str (PySem.Txt.mul a n)) H) := by
  intro pins s σ H x y v u Q I rx ry h
  obtain ⟨a, n, rfl, rfl, h0, h1, h2, q⟩ := h
  obtain ⟨t, rfl⟩ := rx
  obtain ⟨t2, rfl⟩ := ry
  refine PySem.SB.mul ⟨?_, fun c1 c2 => ?_, fun c1 c2 => ?_⟩ fun t' k => ⟨.str _, H, I.tok _, ⟨_, rfl⟩, q⟩
  · rw [decide_eq_false (by omega), decide_eq_false (by omega)]
    rfl
  · have b1 : (1000 : Int) * 1000 ≤ 2 ^ 63 - 1 := by decide
    have b2 : (a.length : Int) * n ≤ 1000 * 1000 := Int.mul_le_mul (by omega) h1 h0 (by decide)
    have b3 : (a.length : Int) ≤ (2 ^ 63 - 1) / n := (Int.le_ediv_iff_mul_le (by omega)).mpr (by omega)
    omega
  · have b2 : a.length * n.toNat ≤ 1000 * 1000 := Nat.mul_le_mul h2 (by omega)
    show PySem.Builtin.Str.tooLong _ = false
    unfold PySem.Builtin.Str.tooLong
    rw [sizeLine_eq]
    exact decide_eq_false (by omega)
def mulSD : D → D → Option D
  | .str a, .int n => if 0 ≤ n ∧ n ≤ 1000 ∧ a.length ≤ 1000 then some (.str (PySem.Txt.mul a n)) else none
  | _, _ => none
theorem d_mulS {M : MI} {K : PySem.W.Frag} : OpD M K (fun x y H Q => ∃ a n, x = .str a ∧ y = .int n ∧ 0 ≤ n ∧ n ≤ 1000 ∧ a.length ≤ 1000 ∧ Q (.str (PySem.Txt.mul a n)) H) mulSD := fun w x y dx dy z Q g hx hy e k => by
  cases dx <;> cases dy <;> simp only [mulSD, reduceCtorEq] at e
  split at e
  · rename_i h
    cases e
    exact ⟨_, _, hx.str, hy.int, h.1, h.2.1, h.2.2, k w _ (Stp.refl w) g (.str _) rfl⟩
  · cases e
section
variable {X : Cx} {M : MI} {e b : Expr} {es : List Expr} {wa : WA} {we wb : WE} {pos p2 : Pos}
/-- [..] * n -/
def wRepL (wa : WA) (wb : WE) : WE := fun ρ c Q => wa ρ c fun ds c1 => ds.length ≤ LIM ∧ wb ρ c1 fun d c2 => ∃ n : Int, d = .int n ∧ -(2 ^ 62) ≤ n ∧ n ≤ 2 ^ 62 ∧ ds.length * n.toNat ≤ LIM ∧ Q (.list (List.replicate n.toNat ds).flatten) c2
theorem e_repL (ha : PA X es (tAs M X.K wa)) (hb : PE X b (tB M X.K wb)) : PE X (.BinOp (.List es p2) .Mult b pos) (tE M X.K (wRepL wa wb)) := by
  refine PE.imp (pe_op op_rep (pe_lst ha) hb) ?_
  rintro σ H Q ⟨w, ρ, Qd, eh, ev, g, hw, k⟩
  refine ⟨w, ρ, _, eh, ev, g, hw, fun w1 vs ds s1 g1 da q1 => ⟨lim_size (by rw [da.length]; exact q1.1), fun p hp => ?_⟩⟩
  have sp := stp_own (o := .lst vs) hp
  have gp := gd_own (o := .lst vs) g1 hp
  refine ⟨w1.own p (.lst vs), ρ, _, rfl, (ev.stp s1 g).stp sp g1, gp, q1.2, fun w2 y d s2 g2 bv q2 => ?_⟩
  obtain ⟨n, rfl, n1, n2, n3, q⟩ := q2
  have at2 := s2.k _ _ own_at (show p ∉ w1.R from r_free g1 hp)
  have da2 := (da.fk (sp.fk g1)).fk (s2.fk gp)
  exact ⟨p, n, vs, rfl, bv.int, at2, by omega, by omega, by rw [da.length]; exact lim_size n3, fun p' hp' => k (w2.new p' _) _ _ (((s1.trans sp).trans s2).trans (stp_new hp')) (gd_new g2 hp') (new_lst g2 hp' (da2.rep _)) q⟩
theorem cutL_all {α : Type} {xs : List α} {lo hi : Option Int} (h : HT.sIx xs.length 0 lo = 0 ∧ HT.sIx xs.length xs.length hi = xs.length) : cutL xs lo hi = xs := by
  unfold cutL
  rw [h.1, h.2, List.drop_zero, Nat.sub_zero, List.take_length]
/-- a tuple's cut -/
def wSlT (we : WE) (wl wu : WO) : WE := fun ρ c Q => we ρ c fun x c1 => wl ρ c1 fun l c2 => wu ρ c2 fun u c3 => ∃ xs, x = .tuple xs ∧ Q (.tuple (cutL xs l u)) c3
theorem e_slT {lo hi : Option Expr} {wl wu : WO} (he : PE X e (tB M X.K we)) (hl : PO X lo (tO M X.K wl)) (hu : PO X hi (tO M X.K wu)) : PE X (.Subscript e (.Slice lo hi none p2) pos) (tE M X.K (wSlT we wl wu)) := by
  refine PE.imp (pe_slice sl_tupA he hl hu) ?_
  rintro σ H Q ⟨w, ρ, Qd, eh, ev, g, hw, k⟩
  refine ⟨w, ρ, _, eh, ev, g, hw, fun w1 x dx s1 g1 bx q1 => ?_⟩
  refine ⟨w1, ρ, _, rfl, ev.stp s1 g, g1, q1, fun w2 l s2 g2 q2 => ?_⟩
  refine ⟨w2, ρ, _, rfl, (ev.stp s1 g).stp s2 g1, g2, q2, fun w3 u s3 g3 q3 => ?_⟩
  obtain ⟨xs, rfl, qz⟩ := q3
  have bx3 := (bx.stp s2 g1).stp s3 g2
  have s03 := (s1.trans s2).trans s3
  have dv := bx3.tup1
  obtain ⟨a, vs, rfl, h1, h2⟩ := bx3.seqT
  refine ⟨a, vs, rfl, h1, fun wh => ?_, fun _ p hp => k (w3.new p _) _ _ (s03.trans (stp_new hp)) (gd_new g3 hp) (new_tup g3 hp (h2.cut l u)) qz⟩
  rw [h2.length] at wh
  rw [cutL_all wh] at qz
  exact k w3 _ _ s03 g3 dv qz
end
end HW
namespace HW
open PySem L2
def leAD : D → D → Option D
  | .int i, .int j => some (.bool (decide (i ≤ j)))
  | .str a, .str b => some (.bool (!decide (b.cps.toList < a.cps.toList)))
  | _, _ => none
def rLeA : R2 := fun x y H Q => rI0 (fun i j => .bl (decide (i ≤ j))) x y H Q ∨ ∃ i j, x = .str i ∧ y = .str j ∧ Q (.bl (!decide (j.cps.toList < i.cps.toList))) H
theorem o_leA {X : Cx} : OpR X (compareOp .LtE) rLeA := opR_or op_le op_le_str
theorem d_leA {M : MI} {K : PySem.W.Frag} : OpD M K rLeA leAD := fun w x y dx dy z Q g hx hy e k => by
  cases dx <;> cases dy <;> simp only [leAD, reduceCtorEq] at e
  · cases e; cases hx.int; cases hy.int
    exact .inl ⟨_, _, rfl, rfl, keepQ g (.bl _) k⟩
  · cases e; cases hx.str; cases hy.str
    exact .inr ⟨_, _, rfl, rfl, keepQ g (.bl _) k⟩
end HW

/-! // by great divisors; max, min of several, of a list; sum; own lists that change no more; targets in targets -/
namespace HW
open PySem L2
section
variable {K : PySem.W.Frag} {M : MI} {X : Cx}
def fdvWD : D → D → Option D
  | .int i, .int j => if 0 < j ∧ j < 2 ^ 200 then some (.int (i / j)) else none
  | _, _ => none
theorem d_fdvW : OpD M K (rI CDivW fun i j => .int (i / j)) fdvWD := fun w x y dx dy z Q g hx hy e k => by
  cases dx <;> cases dy <;> simp only [fdvWD, reduceCtorEq] at e
  split at e
  · rename_i h
    cases e; cases hx.int; cases hy.int
    exact ⟨_, _, rfl, rfl, wide_div (b := 200) h.1 (by omega) (by decide) (by decide), keepQ g (.int _) k⟩
  · cases e
theorem fdvW_i {i j : Int} (h : 0 < j) (h1 : j < 2 ^ 200) : fdvWD (.int i) (.int j) = some (.int (i / j)) := if_pos ⟨h, h1⟩
def max2D : D → D → Option D
  | .int i, .int j => some (.int (max i j))
  | _, _ => none
theorem d_max2 : FnD2 M K (fun xs H Q => ∃ i j, xs = [.int i, .int j] ∧ Q (.int (if j > i then j else i)) H) max2D := fun w x y dx dy z Q g hx hy e k => by
  cases dx <;> cases dy <;> simp only [max2D, reduceCtorEq] at e
  rename_i i j
  cases e; cases hx.int; cases hy.int
  refine ⟨_, _, rfl, ?_⟩
  rw [show (if j > i then j else i) = max i j by omega]
  exact keepQ g (.int _) k
/-- three arguments -/
def FnD3 (M : MI) (K : PySem.W.Frag) (r : List V → Hp → VK → Prop) (f : D → D → D → Option D) : Prop := ∀ (w : W) (x y u : V) (dx dy du z : D) (Q : VK), Gd M w → DvB K w x dx → DvB K w y dy → DvB K w u du → f dx dy du = some z →
  (∀ (w' : W) (v : V), Stp w w' → Gd M w' → Dv K w'.F w'.H v z → w'.c = w.c → Q v w'.H) → r [x, y, u] w.H Q
def wOp3 (f : D → D → D → Option D) (wa wb wc : WE) : WE := fun ρ c Q => wa ρ c fun x c1 => wb ρ c1 fun y c2 => wc ρ c2 fun u c3 => ∃ z, f x y u = some z ∧ Q z c3
def max3D : D → D → D → Option D
  | .int i, .int j, .int k => some (.int (max (max i j) k))
  | _, _, _ => none
theorem d_max3 : FnD3 M K (rNuC3 nuMax3) max3D := fun w x y u dx dy du z Q g hx hy hu e k => by
  cases dx <;> cases dy <;> cases du <;> simp only [max3D, reduceCtorEq] at e
  rename_i i j l
  cases e; cases hx.int; cases hy.int; cases hu.int
  refine ⟨_, _, _, .int (max (max i j) l), rfl, ?_, keepQ g (.int _) k⟩
  have h2 : ∀ a b : Int, nuMax2 (.int a) (.int b) = some (.int (max a b)) := fun a b => by
    show some (if decide (a < b) = true then V.int b else V.int a) = _
    by_cases h : a < b
    · rw [if_pos (by simpa using h)]; congr 2; omega
    · rw [if_neg (by simpa using h)]; congr 2; omega
  show (nuMax2 (.int i) (.int j)).bind _ = _
  rw [h2]
  exact h2 _ _
theorem r_fn3 {r : List V → Hp → VK → Prop} {f : D → D → D → Option D} {we we2 we3 : WE} (hf : FnD3 M X.K r f) : ∀ (σ : L2.St) (H : Hp) (Q : VK), tE M X.K (wOp3 f we we2 we3) σ H Q → tCB r (tCons (tB M X.K we) (tCons (tB M X.K we2) (tCons (tB M X.K we3) tNil))) σ H Q := by
  rintro σ H Q ⟨w, ρ, Qd, eh, ev, g, hw, k⟩
  refine ⟨w, ρ, _, eh, ev, g, hw, fun w1 x dx s1 g1 bx q1 => ?_⟩
  refine ⟨w1, ρ, _, rfl, ev.stp s1 g, g1, q1, fun w2 y dy s2 g2 by' q2 => ?_⟩
  refine ⟨w2, ρ, _, rfl, (ev.stp s1 g).stp s2 g1, g2, q2, fun w3 u du s3 g3 bu q3 => ?_⟩
  obtain ⟨z, ez, qz⟩ := q3
  exact hf w3 x y u dx dy du z Q g3 ((bx.stp s2 g1).stp s3 g2) (by'.stp s3 g2) bu ez fun w4 v s4 g4 dv ec => k w4 v z (((s1.trans s2).trans s3).trans s4) g4 dv (by rw [ec]; exact qz)
theorem e_fn3 {r : List V → Hp → VK → Prop} {f : D → D → D → Option D} {x : Str} {id : String} {e e2 e3 : Expr} {we we2 we3 : WE} {p pos : Pos} (hr : CallR X (.builtin id) r) (hf : FnD3 M X.K r f) (hg : Gl X x) (hm : X.mg x = none) (hv : bootBuiltins x = some (.builtin id)) (he : PE X e (tB M X.K we)) (he2 : PE X e2 (tB M X.K we2)) (he3 : PE X e3 (tB M X.K we3)) (hn : x ≠ "__name__" := by decide) (hdb : (x == ("__debug__" : Str)) = false := by decide)
    (hs : starEach [e, e2, e3] X.env = (false, eval e X.env) :: starEach [e2, e3] X.env := by rfl) (hs2 : starEach [e2, e3] X.env = (false, eval e2 X.env) :: starEach [e3] X.env := by rfl) (hs3 : starEach [e3] X.env = (false, eval e3 X.env) :: starEach [] X.env := by rfl) (hpl : (backTo pos (starEach [e2, e3] X.env)).any (·.1) = false := by rfl) : PE X (.Call (.Name x p) [e, e2, e3] [] pos) (tE M X.K (wOp3 f we we2 we3)) :=
  PE.imp (pe_callB hr hg hm hv (pa_cons he (pa_cons he2 (pa_cons he3 pa_nil hs3) hs2) hs) hn hdb hs hpl) (r_fn3 hf)
/-! of a list of ints -/
def intsD : List D → Option (List Int)
  | [] => some []
  | .int i :: r => (intsD r).map (i :: ·)
  | _ :: _ => none
theorem intsD_some : ∀ {ds : List D} {ns : List Int}, intsD ds = some ns → ds = ns.map .int
  | [], ns, e => by cases e; rfl
  | d :: r, ns, e => by
    cases d <;> simp only [intsD, reduceCtorEq] at e
    obtain ⟨ms, e1, e2⟩ := Option.map_eq_some_iff.mp e
    subst e2
    rw [List.map_cons, ← intsD_some e1]
theorem intsD_map : ∀ ns : List Int, intsD (ns.map PyData.int) = some ns
  | [] => rfl
  | i :: r => by show (intsD (r.map PyData.int)).map _ = _; rw [intsD_map r]; rfl
def maxI (i : Int) (r : List Int) : Int := r.foldl max i
theorem foldl_max : ∀ (r : List Int) (i : Int), i ≤ r.foldl max i ∧ (∀ y ∈ r, y ≤ r.foldl max i) ∧ (r.foldl max i = i ∨ r.foldl max i ∈ r)
  | [], i => ⟨Int.le_refl _, fun y h => (by cases h), .inl rfl⟩
  | a :: r, i => by
    obtain ⟨h1, h2, h3⟩ := foldl_max r (max i a)
    refine ⟨?_, fun y hy => ?_, ?_⟩
    · show i ≤ r.foldl max (max i a); omega
    · show y ≤ r.foldl max (max i a)
      rcases List.mem_cons.mp hy with rfl | hy
      · omega
      · exact h2 y hy
    · show r.foldl max (max i a) = i ∨ r.foldl max (max i a) ∈ a :: r
      rcases h3 with h3 | h3
      · rcases Int.le_total i a with h | h
        · right; rw [h3]; rw [show max i a = a by omega]; exact List.mem_cons_self
        · left; rw [h3]; omega
      · exact .inr (List.mem_cons_of_mem _ h3)
def maxLD : D → Option D
  | .list ds => (intsD ds).bind fun ns => match ns with
    | [] => none
    | i :: r => some (.int (maxI i r))
  | _ => none
theorem d_maxL : FnD M K (rMax K) maxLD := fun w x dx z Q g hx e k => by
  cases dx <;> simp only [maxLD, reduceCtorEq] at e
  rename_i ds
  cases en : intsD ds with
  | none => rw [en] at e; cases e
  | some ns =>
    rw [en] at e
    have ed := intsD_some en
    subst ed
    cases ns with
    | nil => cases e
    | cons i r =>
      cases e
      obtain ⟨a, vs, rfl, h1, h2⟩ := hx.seqL
      have ev := h2.ints
      subst ev
      refine ⟨a, i :: r, rfl, h1, by simp, fun m hm hle => ?_⟩
      obtain ⟨g1, g2, g3⟩ := foldl_max r i
      have e1 : m ≤ maxI i r := by
        rcases List.mem_cons.mp hm with rfl | hm
        · exact g1
        · exact g2 m hm
      have e2 : maxI i r ≤ m := by
        rcases g3 with g3 | g3
        · show r.foldl max i ≤ m; rw [g3]; exact hle i List.mem_cons_self
        · exact hle _ (List.mem_cons_of_mem _ g3)
      rw [Int.le_antisymm e1 e2]
      exact keepQ g (.int _) k
end
/-! a list of one's own that changes no more -/
section
variable {K : PySem.W.Frag} {M : MI} {w w0 : W} {σ : L2.St} {ρ : List En} {a : Addr}
theorem DlOk.frz : ∀ {kvs : List (Key × V)} {ds : List (D × List D)}, DlOk K w kvs ds → (∀ k, (k, V.ref a) ∉ kvs) → DlOk K (w.frz a) kvs ds
  | _, _, .nil, _ => .nil
  | _, _, .cons (b := b) h1 h2 h3 h4 h5 h6, n => .cons h1 (fun z => z.elim h2 fun e => n _ (by rw [← e]; exact List.mem_cons_self)) h3 (h4.fk fk_frz) h5 (h6.frz fun k m => n k (List.mem_cons_of_mem _ m))
theorem EnOk.frz {s : Option (Option V)} {e : En} (h : EnOk K w s e) (n : ∀ p, s = some (some (.ref p)) → e.mut = true → ¬ Sub w e p a) : EnOk K (w.frz a) s e := by
  cases e with
  | un => exact True.intro
  | im d => obtain ⟨v, h1, h2⟩ := h; exact ⟨v, h1, h2.fk fk_frz⟩
  | st => exact h
  | ls ds =>
    obtain ⟨p, vs, h1, h2, h3, h4, h5⟩ := h
    exact ⟨p, vs, h1, h2, (fun z => z.elim h3 fun e => n p h1 rfl (.inl e.symm)), h4, h5.fk fk_frz⟩
  | dc ds =>
    obtain ⟨p, vs, h1, h2, h3, h4, h5⟩ := h
    exact ⟨p, vs, h1, h2, (fun z => z.elim h3 fun e => n p h1 rfl (.inl e.symm)), h4, h5.fk fk_frz⟩
  | dt ds =>
    obtain ⟨p, vs, h1, h2, h3, h4, h5, h6⟩ := h
    exact ⟨p, vs, h1, h2, (fun z => z.elim h3 fun e => n p h1 rfl (.inl e.symm)), h4, h5, h6.fk fk_frz⟩
  | dl ds =>
    obtain ⟨p, vs, h1, h2, h3, h4, h5⟩ := h
    exact ⟨p, vs, h1, h2, (fun z => z.elim h3 fun e => n p h1 rfl (.inl e.symm)), h4, h5.frz fun k m => n p h1 rfl (.inr ⟨ds, vs, k, rfl, h2, m⟩)⟩
theorem SOk.seal {i : Nat} {ds : List D} (so : SOk M K w0 w σ ρ) (q : ρ[i]? = some (.ls ds)) : ∃ a, SOk M K w0 (w.frz a) σ (ρ.set i (.im (.list ds))) := by
  obtain ⟨a, vs, h1, h2, h3, h4, h5⟩ := so.ev.ok i _ q
  have oa : Own w σ ρ i a := ⟨a, _, h1, q, rfl, .inl rfl⟩
  have h0 := so.ow i a oa
  have hi : i < ρ.length := (List.getElem?_eq_some_iff.mp q).1
  have back : ∀ {j : Nat} {b : Addr}, Own (w.frz a) σ (ρ.set i (.im (.list ds))) j b → Own w σ ρ j b := fun {j b} ob => by
    obtain ⟨p, e, g1, g2, g3, g4⟩ := ob
    by_cases ij : i = j
    · subst ij
      rw [List.getElem?_set_self hi] at g2
      cases g2
      cases g3
    · rw [List.getElem?_set_ne ij] at g2
      exact ⟨p, e, g1, g2, g3, g4⟩
  refine ⟨a, ⟨by rw [List.length_set]; exact so.ev.len, fun j e qj => ?_, fun j k b o1 o2 => so.ev.ap j k b (back o1) (back o2)⟩, gd_frz so.gd (by rw [h2]; simp) h4, stp_frz so.st h0, fun j b ob => so.ow j b (back ob)⟩
  by_cases ij : i = j
  · subst ij
    rw [List.getElem?_set_self hi] at qj
    cases qj
    exact ⟨_, h1, .lst (.inl ⟨.inr rfl, .of h2⟩) (h5.fk fk_frz)⟩
  · rw [List.getElem?_set_ne ij] at qj
    exact (so.ev.ok j e qj).frz fun p g1 g2 g3 => ij (so.ev.ap i j a oa ⟨p, e, g1, qj, g2, g3⟩)
end
section
variable {X : Cx} {M : MI} {w0 : W} {st : Stmt} {ws : WS}
/-- the list in slot i changes no more -/
def wSeal (i : Nat) (ws : WS) : WS := fun dd ρ c => ∃ ds, ρ[i]? = some (.ls ds) ∧ ws dd (ρ.set i (.im (.list ds))) c
theorem s_seal {i : Nat} (h : PS X st (tS M X.K w0 ws)) : PS X st (tS M X.K w0 (wSeal i ws)) := by
  refine PS.imp h ?_
  rintro D σ H ⟨w, ρ, dd, eh, so, ⟨ds, q, hw⟩, k⟩
  obtain ⟨a, so1⟩ := so.seal q
  exact ⟨w.frz a, _, dd, eh, so1, hw, k.mono fk_frz⟩
/-! targets in targets -/
def gTsG : List WGt → List D → List En → (List En → Prop) → Prop
  | [], [], ρ, Q => Q ρ
  | t :: ts, d :: ds, ρ, Q => t d ρ fun ρ' => gTsG ts ds ρ' Q
  | _, _, _, _ => False
def gTG (ts : List WGt) : WGt := fun d ρ Q => ∃ ds, d = .tuple ds ∧ ds.length = ts.length ∧ gTsG ts ds ρ Q
inductive TgsOk (M : MI) (K : PySem.W.Frag) (w0 : W) : TGs → List WGt → Prop
  | nil : TgsOk M K w0 L2.gNil []
  | cons {g : TG} {t : WGt} {gs : TGs} {ts : List WGt} : TgOk M K w0 g t → TgsOk M K w0 gs ts → TgsOk M K w0 (gCons g gs) (t :: ts)
theorem TgsOk.go {K : PySem.W.Frag} {gs : TGs} {ts : List WGt} (h : TgsOk M K w0 gs ts) : ∀ (w : W) (σ : L2.St) (ρ : List En) (vs : List V) (ds : List D) (Qd : List En → Prop) (Q : L2.St → Hp → Prop), SOk M K w0 w σ ρ → DvA K w.F w.H vs ds → gTsG ts ds ρ Qd →
    (∀ σ' ρ', SOk M K w0 w σ' ρ' → Qd ρ' → Q σ' w.H) → gs vs σ w.H Q := by
  induction h with
  | nil =>
    intro w σ ρ vs ds Qd Q so dv hq k
    cases dv with
    | nil => exact ⟨rfl, k σ ρ so hq⟩
    | cons _ _ => exact hq.elim
  | @cons g t gs ts h1 h2 ih =>
    intro w σ ρ vs ds Qd Q so dv hq k
    cases dv with
    | nil => exact hq.elim
    | cons hv hr =>
      refine ⟨_, _, rfl, h1 w σ ρ _ _ _ _ so hv hq fun σ' ρ' so' q' => ?_⟩
      exact ih w σ' ρ' _ _ _ _ so' hr q' k
theorem tg_tupG {K : PySem.W.Frag} {gs : TGs} {ts : List WGt} {n : Nat} (h : TgsOk M K w0 gs ts) (hn : n = ts.length := by rfl) : TgOk M K w0 (gTup K n gs) (gTG ts) := fun w σ ρ v d Qd Q so dv hq k => by
  obtain ⟨ds, rfl, hl, hq⟩ := hq
  cases dv with
  | @tup a vs _ h1 h2 => exact ⟨a, vs, rfl, h1.sq, by rw [h2.length, hl, hn], h.go w σ ρ vs ds Qd Q so h2 hq k⟩
end
end HW

/-! tuple * 1 -/
namespace HW
open PySem L2 PySem.Spec PyProof.Rows
theorem tuple_mul1 (l : Addr) (items : Array Value) (n : Nat) (dd : Option Addr) (sl : Array (Option Value)) (x : Int) (u : Tok) (c0 : (decide (x < -(2 ^ 63)) || decide (x ≥ 2 ^ 63)) = false) (c1 : (items.isEmpty || x == 1) = true) :
    Meets (Builtin.«tuple.__mul__» ⟨[.ref l, .int x u], []⟩) (fun _ R s => s.heap.get? l = some { cls := .type "tuple", dict := dd, data := .seq items n, slots := sl } ∧ R (.ok (.ret (Value.ref l))) s) :=
  .of_wp fun prog w A R s h => by
    obtain ⟨hp, g, d, tk, os⟩ := s
    obtain ⟨hl, h⟩ := h
    have f1 := AutoSeq1.idx_int
    wp_walk using wpAny_loadPart' hl
    repeat (first
      | (refine wpAny_ite_false (decide_eq_false (by rw [c0]; exact Bool.false_ne_true)) ?_; wp_walk using wpAny_loadPart' hl)
      | (refine wpAny_ite_true (decide_eq_true c1) ?_; wp_walk using wpAny_loadPart' hl))
    exact ⟨_, rfl, h⟩
def rRep1 (K : PySem.W.Frag) : R2 := fun x y H Q => ∃ l xs, x = .ref l ∧ y = .int 1 ∧ SqT K H l xs ∧ xs ≠ [] ∧ Q (.ref l) H
theorem op_rep1 {X : Cx} : OpR X (binaryOp .Mult) (rRep1 X.K) := by
  intro pins s σ H x y v u Q I rx ry h
  obtain ⟨l, xs, rfl, rfl, hT, hne, q⟩ := h
  cases rx
  obtain ⟨t, rfl⟩ := ry
  obtain ⟨its, r, ⟨⟨cls, dd, data, sl⟩, ho, hc, n, hd⟩, hs⟩ := I.tuple hT
  simp only at hc hd
  subst hc hd
  have c0 : (decide ((1 : Int) < -(2 ^ 63)) || decide ((1 : Int) ≥ 2 ^ 63)) = false := by decide
  have c1 : (its.toArray.isEmpty || (1 : Int) == 1) = true := by simp
  refine wpAny_binaryOp_repeat_ref (T := "tuple") (U := "int") (by decide) ⟨_, ho, rfl⟩ (fun s' => typeIs_int s' 1 t) noFill_tuple_mul F.fills_int_mul F.slot_int_rmul repeat_tuple F.slot_int_index.lookup
    (call_meets F.slot_int_rmul (typeIs_int s 1 t) F.entry_int_rmul (F.args_int_rmul_2 _ _) (int_rmul_tuple 1 t l its.toArray n dd sl)
      ⟨ho, rfl, ⟨_, ho, rfl⟩, call_meets F.slot_tuple_mul ⟨_, ho, rfl⟩ F.entry_tuple_mul (F.args_tuple_mul_2 _ _) (tuple_mul1 l its.toArray n dd sl 1 t c0 c1) ⟨ho, ?_⟩⟩)
  exact ⟨.ref l, _, I, rfl, q⟩
def rRepA (K : PySem.W.Frag) : R2 := fun x y H Q => rRepT K x y H Q ∨ rRep1 K x y H Q
theorem op_repA {X : Cx} : OpR X (binaryOp .Mult) (rRepA X.K) := opR_or op_repT op_rep1
def repTAD : D → D → Option D
  | .tuple ds, .int k => if ds ≠ [] ∧ 1 ≤ k ∧ k ≤ 1000 ∧ ds.length ≤ 1000 then some (.tuple (List.replicate k.toNat ds).flatten) else none
  | _, _ => none
theorem d_repTA {M : MI} {K : PySem.W.Frag} : OpD M K (rRepA K) repTAD := fun w x y dx dy z Q g hx hy e k => by
  cases dx <;> cases dy <;> simp only [repTAD, reduceCtorEq] at e
  rename_i ds i
  split at e
  · rename_i h
    obtain ⟨h1, h2, h3, h4⟩ := h
    by_cases hi : i = 1
    · subst hi
      have e' : z = .tuple ds := by
        have e2 := Option.some.inj e
        rw [show (1 : Int).toNat = 1 from rfl] at e2
        simpa using e2.symm
      subst e'
      have hx1 := hx.tup1
      obtain ⟨a, vs, rfl, sq, da⟩ := hx.seqT
      refine .inr ⟨a, vs, rfl, hy.int, sq, fun z => h1 ?_, keepQ g hx1 k⟩
      subst z
      cases da
      rfl
    · refine .inl (d_repT w x y _ _ z Q g hx hy ?_ k)
      show (if ds ≠ [] ∧ 2 ≤ i ∧ i ≤ 1000 ∧ ds.length ≤ 1000 then _ else none) = _
      rw [if_pos ⟨h1, by omega, h3, h4⟩]
      exact e
  · cases e
end HW

/-! zip; repr of an int; sorted of pairs (int, text) -/
namespace HW
open PySem L2
/-! zip of two lists, of two tuples -/
def zipD (xs ys : List D) : List D := List.zipWith (fun a b => PyData.tuple [a, b]) xs ys
theorem zipD_get {xs ys : List D} {i : Nat} {d : D} (e : (zipD xs ys)[i]? = some d) : ∃ a b, xs[i]? = some a ∧ ys[i]? = some b ∧ d = .tuple [a, b] := by
  unfold zipD at e
  rw [List.getElem?_zipWith] at e
  cases ex : xs[i]? with
  | none => rw [ex] at e; cases e
  | some a =>
    cases ey : ys[i]? with
    | none => rw [ex, ey] at e; cases e
    | some b => rw [ex, ey] at e; exact ⟨a, b, rfl, rfl, by cases e; rfl⟩
section
variable {X : Cx} {M : MI} {e e2 : Expr} {we we2 : WE} {p pos tpos : Pos} {elts : List Expr} {kk : Nat}
def wZip (we we2 : WE) : WI := fun ρ c Q => we ρ c fun d c1 => we2 ρ c1 fun d2 c2 => ∃ xs ys, ((d = .list xs ∧ d2 = .list ys) ∨ (d = .tuple xs ∧ d2 = .tuple ys)) ∧ Q (zipD xs ys) c2
theorem i_zipF (hg : Gl X "zip") (hm : X.mg "zip" = none) (he : PE X e (tE M X.K we)) (he2 : PE X e2 (tE M X.K we2)) (hs : starEach [e, e2] X.env = (false, eval e X.env) :: starEach [e2] X.env := by rfl) (hs2 : starEach [e2] X.env = (false, eval e2 X.env) :: starEach [] X.env := by rfl) (hpl : (backTo pos (starEach [e2] X.env)).any (·.1) = false := by rfl) :
    PI X (.Tuple elts kk tpos) (.Call (.Name "zip" p) [e, e2] [] pos) (tI M X.K Fk (wZip we we2)) := by
  refine PI.imp (RZ.pi_zipA hg hm (pa_cons he (pa_cons he2 pa_nil hs2) hs) hs hpl) ?_
  rintro σ H R ⟨w, ρ, Qd, eh, ev, g, hw, k⟩
  refine ⟨w, ρ, _, eh, ev, g, hw, fun w1 v d s1 g1 dv q1 => ?_⟩
  refine ⟨w1, ρ, _, rfl, ev.stp s1 g, g1, q1, fun w2 v2 d2 s2 g2 dv2 q2 => ?_⟩
  obtain ⟨xs, ys, hd, q2⟩ := q2
  have dv1 := dv.fk (s2.fk g1)
  have zl : (zipD xs ys).length = min xs.length ys.length := by unfold zipD; simp
  rcases hd with ⟨rfl, rfl⟩ | ⟨rfl, rfl⟩
  · cases dv1 with
    | @lst a us _ h2 h3 =>
      cases dv2 with
      | @lst b vs _ h5 h6 =>
        refine ⟨a, b, us, vs, rfl, .inl ⟨h2.sq, h5.sq, k w2 _ (zipD xs ys) (s1.trans s2) g2 ⟨fun w' i d r g' ed => ?_, fun w' i r g' hi => ?_⟩ q2⟩⟩
        · obtain ⟨x0, y0, ex, ey, rfl⟩ := zipD_get ed
          have qa := (h2.up (r.f1 a) fun o f => r.k a o f).sq
          have qb := (h5.up (r.f1 b) fun o f => r.k b o f).sq
          obtain ⟨va, eva, dva⟩ := (h3.fk r).get ex
          obtain ⟨vb, evb, dvb⟩ := (h6.fk r).get ey
          refine ⟨⟨us, vs, va, vb, qa, qb, eva, evb⟩, fun x H' y => ?_⟩
          obtain ⟨T, x1, y1, rfl, hT, rfl, hx, hy⟩ := y
          have e1 := hx us qa
          have e2 := hy vs qb
          rw [eva] at e1
          rw [evb] at e2
          cases e1
          cases e2
          exact ⟨w'.new T _, rfl, rfl, stp_new hT, gd_new g' hT, new_tup g' hT (.cons dva (.cons dvb .nil))⟩
        · rw [zl] at hi
          exact ⟨us, vs, (h2.up (r.f1 a) fun o f => r.k a o f).sq, (h5.up (r.f1 b) fun o f => r.k b o f).sq, by rw [h3.length, h6.length]; omega⟩
  · cases dv1 with
    | @tup a us _ h2 h3 =>
      cases dv2 with
      | @tup b vs _ h5 h6 =>
        refine ⟨a, b, us, vs, rfl, .inr ⟨h2.sq, h5.sq, k w2 _ (zipD xs ys) (s1.trans s2) g2 ⟨fun w' i d r g' ed => ?_, fun w' i r g' hi => ?_⟩ q2⟩⟩
        · obtain ⟨x0, y0, ex, ey, rfl⟩ := zipD_get ed
          have qa := (h2.up (r.f1 a) fun o f => r.k a o f).sq
          have qb := (h5.up (r.f1 b) fun o f => r.k b o f).sq
          obtain ⟨va, eva, dva⟩ := (h3.fk r).get ex
          obtain ⟨vb, evb, dvb⟩ := (h6.fk r).get ey
          refine ⟨⟨us, vs, va, vb, qa, qb, eva, evb⟩, fun x H' y => ?_⟩
          obtain ⟨T, x1, y1, rfl, hT, rfl, hx, hy⟩ := y
          have e1 := hx us qa
          have e2 := hy vs qb
          rw [eva] at e1
          rw [evb] at e2
          cases e1
          cases e2
          exact ⟨w'.new T _, rfl, rfl, stp_new hT, gd_new g' hT, new_tup g' hT (.cons dva (.cons dvb .nil))⟩
        · rw [zl] at hi
          exact ⟨us, vs, (h2.up (r.f1 a) fun o f => r.k a o f).sq, (h5.up (r.f1 b) fun o f => r.k b o f).sq, by rw [h3.length, h6.length]; omega⟩
end
/-! repr of an int -/
def reprID : D → Option D
  | .int i => if i.natAbs.log2 < 1920 then some (.str (toString i)) else none
  | _ => none
theorem d_reprI {M : MI} {K : PySem.W.Frag} : FnD M K (fun xs H Q => ∃ i, xs = [.int i] ∧ i.natAbs.log2 < 1920 ∧ Q (.str (toString i)) H) reprID := fun w x dx z Q g hx e k => by
  cases dx <;> simp only [reprID, reduceCtorEq] at e
  split at e
  · cases e; cases hx.int
    exact ⟨_, rfl, by assumption, keepQ g (.str _) k⟩
  · cases e
end HW

/-! sorted of pairs (int, text), any number of them -/
namespace SortPS
open PySem PySem.Spec PyProof.Rows
abbrev ltS (a b : PySem.Str) : Prop := a.cps.toList < b.cps.toList
theorem ltS_asym {a b : PySem.Str} (h : ltS a b) : ¬ ltS b a := fun z => absurd (List.lt_trans h z) (List.lt_irrefl _)
theorem ltS_tr {a b c : PySem.Str} (h1 : ¬ ltS b a) (h2 : ¬ ltS c b) : ¬ ltS c a := List.not_lt.mpr (List.le_trans (List.not_lt.mp h1) (List.not_lt.mp h2))
def lexS (p q : Int × PySem.Str) : Bool := if p.1 = q.1 then decide (ltS p.2 q.2) else decide (p.1 < q.1)
theorem lexS_iff {p q : Int × PySem.Str} : lexS p q = true ↔ p.1 < q.1 ∨ (p.1 = q.1 ∧ ltS p.2 q.2) := by
  unfold lexS
  by_cases e : p.1 = q.1
  · rw [if_pos e, decide_eq_true_eq]
    exact ⟨fun h => .inr ⟨e, h⟩, fun h => h.elim (fun z => absurd e (by omega)) fun z => z.2⟩
  · rw [if_neg e, decide_eq_true_eq]
    exact ⟨.inl, fun h => h.elim id fun z => absurd z.1 e⟩
theorem lexS_no {p q : Int × PySem.Str} : lexS p q = false ↔ ¬ (p.1 < q.1 ∨ (p.1 = q.1 ∧ ltS p.2 q.2)) := by
  rw [← lexS_iff]
  cases lexS p q <;> simp
theorem swo_lexS {α : Type} (k : α → Int × PySem.Str) : SrtO.Swo fun v u => lexS (k v) (k u) := by
  refine ⟨fun x y h => ?_, fun x y z h1 h2 => ?_⟩
  · have a := lexS_iff.mp h
    refine lexS_no.mpr fun b => ?_
    rcases a with a | ⟨a1, a2⟩
    · rcases b with b | ⟨b1, b2⟩ <;> omega
    · rcases b with b | ⟨b1, b2⟩
      · omega
      · exact ltS_asym a2 b2
  · have a := lexS_no.mp h1
    have b := lexS_no.mp h2
    refine lexS_no.mpr fun c => ?_
    have a1 : ¬ (k y).1 < (k x).1 := fun z => a (.inl z)
    have b1 : ¬ (k z).1 < (k y).1 := fun z => b (.inl z)
    rcases c with c | ⟨c1, c2⟩
    · omega
    · have e1 : (k y).1 = (k x).1 := by omega
      have e2 : (k z).1 = (k y).1 := by omega
      exact ltS_tr (fun z => a (.inr ⟨e1, z⟩)) (fun z => b (.inr ⟨e2, z⟩)) c2
/-- a pair (int, text) in the heap -/
def IsPS (h : Heap) (v : Value) (x : Int) (y : PySem.Str) : Prop := ∃ a o t u n, v = .ref a ∧ h.get? a = some o ∧ o.cls = .type "tuple" ∧ o.data = .seq #[.int x t, .str y u] n
theorem IsPS.keeps {h h' : Heap} {v : Value} {x : Int} {y : PySem.Str} (p : IsPS h v x y) (k : ∀ b o, h.get? b = some o → o.cls = .type "tuple" → h'.get? b = some o) : IsPS h' v x y := by
  obtain ⟨a, o, t, u, n, e, ho, hc, hd⟩ := p
  exact ⟨a, o, t, u, n, e, k _ _ ho hc, hc, hd⟩
theorem firsts {h : Heap} : ∀ {vs : List Value}, (∀ v ∈ vs, ∃ x y, IsPS h v x y) → ∃ fs : List Value, PySem.W.KatTups h vs fs ∧ fs.length = vs.length ∧ ∀ f ∈ fs, ∃ x t, f = Value.int x t
  | [], _ => ⟨[], PySem.W.KatTups.nil, rfl, fun _ hm => by simp at hm⟩
  | v :: vs, hp => by
    obtain ⟨fs, h1, h2, h3⟩ := firsts (vs := vs) fun v' hm => hp v' (List.mem_cons_of_mem _ hm)
    obtain ⟨x, y, a, o, t, u, n, e, ho, hc, hd⟩ := hp v (List.mem_cons_self ..)
    subst e
    refine ⟨.int x t :: fs, PySem.W.KatTups.cons ho hc hd rfl h1, by rw [List.length_cons, List.length_cons, h2], fun f hm => ?_⟩
    rcases List.mem_cons.mp hm with rfl | hm
    · exact ⟨x, t, rfl⟩
    · exact h3 f hm
section
variable {prog : Program} {w : World} {A : Around} {E : Value → Shared → Prop} {s : Shared}
theorem ps_cmp {vs : List Value} {k : Value → Int × PySem.Str} (hp : ∀ v ∈ vs, IsPS s.heap v (k v).1 (k v).2) : SrtO.Cmp prog w A s (tuples' true) (fun p => p.1 ∈ vs) (SrtO.lt2 fun v u => lexS (k v) (k u)) := by
  intro p q hm hm'
  have h1 := hp _ hm
  have h2 := hp _ hm'
  show wpAny (model prog w) A (keyLt' (tuples' true) p.1 q.1) (fun r s' => s' = s ∧ r = lexS (k p.1) (k q.1)) (fun _ _ => False) s
  unfold lexS
  generalize (k p.1).1 = x at h1 ⊢
  generalize (k p.1).2 = y at h1 ⊢
  generalize (k q.1).1 = x' at h2 ⊢
  generalize (k q.1).2 = y' at h2 ⊢
  obtain ⟨a, o, t, u, n, e, ho, hc, hd⟩ := h1
  obtain ⟨a', o', t', u', n', e', ho', hc', hd'⟩ := h2
  rw [e, e']
  refine PySem.W.kat_lt ho hd ho' hd' ?_
  show PySem.W.KatLex prog w A true (decide (2 < 2)) _ [(.int x t, .int x' t'), (.str y u, .str y' u')] 0 s
  refine PySem.W.kat_cons (SeqAt.EqAt.int_int x t x' t' prog w _ _ ?_)
  refine PySem.W.kat_go (fun e1 => ?_) (fun e1 => ?_)
  · have ex : x = x' := by simpa using e1
    refine PySem.W.kat_yes (PySem.W.kat_cons (SeqAt.EqAt.str_str y u y' u' prog w _ _ ?_))
    refine PySem.W.kat_go (fun e2 => ?_) (fun e2 => ?_)
    · have ey : y = y' := by simpa using e2
      have e3 : (if x = x' then decide (ltS y y') else decide (x < x')) = false := by
        rw [if_pos ex, ey]
        exact decide_eq_false (List.lt_irrefl _)
      exact PySem.W.kat_yes (PySem.W.kat_nil ⟨rfl, e3.symm⟩)
    · have e3 : (if x = x' then decide (ltS y y') else decide (x < x')) = decide (ltS y y') := if_pos ex
      refine PySem.W.kat_no (PySem.W.kat_one _ _ (PyProof.Rows.lt_str ?_))
      exact (show s = s ∧ decide (ltS y y') = (if x = x' then decide (ltS y y') else decide (x < x')) from ⟨rfl, e3.symm⟩)
  · have ex : ¬ x = x' := by simpa using e1
    have e3 : (if x = x' then decide (ltS y y') else decide (x < x')) = decide (x < x') := if_neg ex
    exact PySem.W.kat_no (oneLt_int ⟨rfl, e3.symm⟩)
theorem ps_sortable {a : Addr} {vs : List Value} {k : Value → Int × PySem.Str} (h0 : 0 < vs.length) (hp : ∀ v ∈ vs, IsPS s.heap v (k v).1 (k v).2) (ha : ∀ o, s.heap.get? a = some o → o.cls ≠ .type "tuple") : SrtO.SortableO prog w A s a vs fun v u => lexS (k v) (k u) := by
  intro h' keep
  have hp' : ∀ v ∈ vs, IsPS h' v (k v).1 (k v).2 := fun v hm => (hp v hm).keeps fun b o e c => keep b o (fun z => by subst z; exact ha o e c) e
  obtain ⟨fs, h1, h2, h3⟩ := firsts fun v hm => ⟨_, _, hp' v hm⟩
  refine ⟨tuples' true, fun Q E hq => ?_, ps_cmp hp'⟩
  refine PySem.W.kat_kind (T := .type "int") h1 (by omega) (fun f hm => ?_) (by rfl) ?_
  · obtain ⟨x, t, rfl⟩ := h3 f hm
    exact PySem.W.Looks.now
  · have e : (Value.type "int" != Value.type "tuple") = true := by first | decide +kernel | rfl | decide
    rw [e]
    exact hq
theorem sorted_ps {l : Addr} {vs : List Value} {k : Value → Int × PySem.Str} {Q : Value → Shared → Prop} (hl : s.heap.IsList l vs.toArray) (hz : vs.length ≤ sizeLine) (hp : ∀ v ∈ vs, IsPS s.heap v (k v).1 (k v).2)
    (h : ∀ (h' : Heap) (d : Addr) (out : List Value), SrtO.Srtd (fun v u => lexS (k v) (k u)) out → SrtO.Stb (fun v u => lexS (k v) (k u)) out vs → (∀ b o, s.heap.get? b = some o → h'.get? b = some o) → s.heap.objs.size ≤ d → (∃ n, h'.get? d = some (seqObj "list" out.toArray n)) → Q (.ref d) { s with heap := h' }) :
    wpAny (model prog w) A (call (.builtin "sorted") [.ref l]) Q E s := by
  refine SrtO.sorted_ord (swo_lexS k) hl hz (fun h2 h₁ a ha kk => ?_) fun out hs hb => ?_
  · refine ps_sortable (s := { s with heap := h₁ }) (by omega) (fun v hm => (hp v hm).keeps fun b o e _ => (kk b o e).2) fun o e => ?_
    have e' : some o = some (seqObj "list" vs.toArray 0) := e.symm.trans ha
    cases e'
    intro c
    exact absurd (Value.type.inj c) (by decide)
  · exact h _ _ out hs hb (fun b o e => sortedAll_old e) (Nat.le_succ _) (sortedAll_at s.heap vs out.toArray)
end
end SortPS
namespace L2
open PySem PySem.Spec PyProof.Rows
theorem perm_map_lift {α β : Type} {f : α → β} {m l : List β} (h : m.Perm l) : ∀ {zs : List α}, l = zs.map f → ∃ zs' : List α, zs'.Perm zs ∧ zs'.map f = m := by
  induction h with
  | nil => intro zs e; cases zs with
    | nil => exact ⟨[], .refl _, rfl⟩
    | cons _ _ => cases e
  | @cons x l1 l2 h ih =>
    intro zs e
    cases zs with
    | nil => cases e
    | cons z zs =>
      injection e with e1 e2
      obtain ⟨zs', p, e3⟩ := ih e2
      exact ⟨z :: zs', p.cons z, by rw [List.map_cons, e3, e1]⟩
  | swap x y l =>
    intro zs e
    cases zs with
    | nil => cases e
    | cons z zs =>
      injection e with e1 e2
      cases zs with
      | nil => cases e2
      | cons z2 zs =>
        injection e2 with e2 e3
        exact ⟨z2 :: z :: zs, .swap _ _ _, by rw [List.map_cons, List.map_cons, ← e1, ← e2, ← e3]⟩
  | trans h1 h2 ih1 ih2 =>
    intro zs e
    obtain ⟨zs2, p2, e2⟩ := ih2 e
    obtain ⟨zs1, p1, e1⟩ := ih1 e2.symm
    exact ⟨zs1, p1.trans p2, e1⟩
theorem ips_det {h : Heap} {v : Value} {x x' : Int} {y y' : PySem.Str} (a : SortPS.IsPS h v x y) (b : SortPS.IsPS h v x' y') : x = x' ∧ y = y' := by
  obtain ⟨p, o, t, u, n, e, ho, hc, hd⟩ := a
  obtain ⟨p', o', t', u', n', e', ho', hc', hd'⟩ := b
  rw [e] at e'
  cases e'
  rw [ho] at ho'
  cases ho'
  rw [hd] at hd'
  simp at hd'
  exact ⟨hd'.1.1.1, hd'.1.2.1⟩
noncomputable def keyPS (h : Heap) (v : Value) : Int × PySem.Str := by
  classical
  exact if e : ∃ p : Int × PySem.Str, SortPS.IsPS h v p.1 p.2 then Classical.choose e else (0, "")
theorem keyPS_eq {h : Heap} {v : Value} {p : Int × PySem.Str} (a : SortPS.IsPS h v p.1 p.2) : keyPS h v = p := by
  have e : ∃ p : Int × PySem.Str, SortPS.IsPS h v p.1 p.2 := ⟨p, a⟩
  have : keyPS h v = Classical.choose e := by
    unfold keyPS
    simp [e]
  rw [this]
  obtain ⟨h1, h2⟩ := ips_det (Classical.choose_spec e) a
  exact Prod.ext h1 h2
/-- sorted(xs), xs a list of pairs (int, text) of any length: zs says which -/
def rSortPS (K : PySem.W.Frag) : List V → Hp → VK → Prop := fun vs H Q => ∃ (a : Addr) (zs : List (V × (Int × PySem.Str))), vs = [V.ref a] ∧ SqL K H a (zs.map (·.1)) ∧ (∀ z ∈ zs, ∃ t, z.1 = V.ref t ∧ SqT K H t [.int z.2.1, .str z.2.2]) ∧
  ∀ (zs' : List (V × (Int × PySem.Str))) (p : Addr), zs'.Perm zs → zs'.Pairwise (fun x y => SortPS.lexS y.2 x.2 = false) → H p = none → Q (.ref p) (upd H p (.lst (zs'.map (·.1))))
section
variable {X : Cx}
theorem cr_sortPS : CallR X (.builtin "sorted") (rSortPS X.K) := by
  intro pins s σ H vs us Q I r h
  obtain ⟨a, zs, rfl, hs, hx, q⟩ := h
  obtain ⟨its, rv, hl, hz⟩ := I.list hs
  obtain ⟨u, rfl, ru⟩ := vals1 r
  obtain rfl : u = Value.ref a := ru
  obtain ⟨e1, e2⟩ := refs_back rv fun x m => by
    obtain ⟨z, hz, rfl⟩ := List.mem_map.mp m
    obtain ⟨t, e, _⟩ := hx z hz
    exact ⟨t, e⟩
  let fv : V × (Int × PySem.Str) → Value := fun z => match z.1 with
    | .ref t => .ref t
    | _ => .none
  have fb : ∀ z ∈ zs, ∃ t, fv z = .ref t ∧ z.1 = .ref t ∧ SortPS.IsPS s.heap (fv z) z.2.1 z.2.2 := fun z hz => by
    obtain ⟨t, e, ht⟩ := hx z hz
    obtain ⟨its2, r2, ⟨o, ho, hc, n, hd⟩, _⟩ := I.tuple ht
    obtain ⟨u1, u2, rfl, ri, rj⟩ := vals2 r2
    obtain ⟨t1, rfl⟩ := ri
    obtain ⟨t2, rfl⟩ := rj
    have ef : fv z = .ref t := by show (match z.1 with | .ref t => Value.ref t | _ => .none) = _; rw [e]
    exact ⟨t, ef, e, t, o, t1, t2, n, ef, ho, hc, hd⟩
  have ei : its = zs.map fv := by
    have q1 : (zs.map (·.1)) = its.map backV := e1
    have q2 : ∀ (l : List (V × (Int × PySem.Str))) (m : List Value), (∀ z ∈ l, ∃ t, fv z = .ref t ∧ z.1 = .ref t) → (∀ u ∈ m, ∃ t, u = Value.ref t) → l.map (·.1) = m.map backV → m = l.map fv := by
      intro l
      induction l with
      | nil => intro m _ _ e; cases m with
        | nil => rfl
        | cons _ _ => cases e
      | cons z l ih =>
        intro m h1 h2 e
        cases m with
        | nil => cases e
        | cons u m =>
          injection e with f1 f2
          obtain ⟨t, g1, g2⟩ := h1 z List.mem_cons_self
          obtain ⟨t', rfl⟩ := h2 u List.mem_cons_self
          have f1 : z.1 = V.ref t' := f1
          have : t = t' := by rw [g2] at f1; exact V.ref.inj f1
          subst this
          rw [List.map_cons, g1, ← ih m (fun z hz => h1 z (List.mem_cons_of_mem _ hz)) (fun u hu => h2 u (List.mem_cons_of_mem _ hu)) f2]
    exact q2 zs its (fun z hz => let ⟨t, g1, g2, _⟩ := fb z hz; ⟨t, g1, g2⟩) (fun u hu => e2 u hu) q1
  refine SortPS.sorted_ps (k := keyPS s.heap) hl.isList (by rw [← rv.length]; exact hz) (fun v hv => ?_) fun h' d out h1 h2 kp hd hn => ?_
  · rw [ei] at hv
    obtain ⟨z, hz, rfl⟩ := List.mem_map.mp hv
    obtain ⟨t, _, _, g3⟩ := fb z hz
    rw [keyPS_eq g3]
    exact g3
  · obtain ⟨zs', pz, ez⟩ := perm_map_lift h2.perm ei
    have fb' : ∀ z ∈ zs', ∃ t, fv z = .ref t ∧ z.1 = .ref t ∧ SortPS.IsPS s.heap (fv z) z.2.1 z.2.2 := fun z hz => fb z (pz.mem_iff.mp hz)
    have hv : Vals (zs'.map (·.1)) out := by
      rw [← ez]
      have : ∀ l : List (V × (Int × PySem.Str)), (∀ z ∈ l, ∃ t, fv z = .ref t ∧ z.1 = .ref t) → Vals (l.map (·.1)) (l.map fv) := by
        intro l
        induction l with
        | nil => intro _; exact .nil
        | cons z l ih =>
          intro h
          obtain ⟨t, g1, g2⟩ := h z List.mem_cons_self
          refine .cons ?_ (ih fun z hz => h z (List.mem_cons_of_mem _ hz))
          show RelV z.1 (fv z)
          rw [g1, g2]
          exact rfl
      exact this zs' fun z hz => let ⟨t, g1, g2, _⟩ := fb' z hz; ⟨t, g1, g2⟩
    obtain ⟨n, hn⟩ := hn
    have hs' : zs'.Pairwise (fun x y => SortPS.lexS y.2 x.2 = false) := by
      rw [← ez] at h1
      have h3 : (zs'.map fv).Pairwise (fun x y => SortPS.lexS (keyPS s.heap y) (keyPS s.heap x) = false) := h1
      rw [List.pairwise_map] at h3
      refine List.Pairwise.imp_of_mem (fun {x y} hx hy h => ?_) h3
      obtain ⟨_, _, _, gx⟩ := fb' x hx
      obtain ⟨_, _, _, gy⟩ := fb' y hy
      rw [keyPS_eq gx, keyPS_eq gy] at h
      exact h
    refine ⟨.ref d, upd H d (.lst (zs'.map (·.1))), I.laid (t' := s.toks) kp hd ⟨?_, out, n, hv, hn⟩, rfl, q _ d pz hs' (I.hok.fresh hd)⟩
    rw [List.length_map, pz.length_eq, ← List.length_map (f := fun z : V × (Int × PySem.Str) => z.1)]
    exact hz
end
end L2
namespace HW
open PySem L2
def psD (p : Int × Str) : D := .tuple [.int p.1, .str p.2]
def psOf : D → Option (Int × Str)
  | .tuple [.int i, .str x] => some (i, x)
  | _ => none
theorem psOf_some {d : D} {p : Int × Str} (h : psOf d = some p) : d = psD p := by
  unfold psOf at h
  split at h
  · cases h; rfl
  · cases h
def psAll : List D → Option (List (Int × Str))
  | [] => some []
  | d :: r => (psOf d).bind fun p => (psAll r).map (p :: ·)
theorem psAll_some : ∀ {ds : List D} {ps : List (Int × Str)}, psAll ds = some ps → ds = ps.map psD
  | [], ps, e => by cases e; rfl
  | d :: r, ps, e => by
    obtain ⟨p, e1, e2⟩ := Option.bind_eq_some_iff.mp e
    obtain ⟨qs, e3, rfl⟩ := Option.map_eq_some_iff.mp e2
    rw [List.map_cons, ← psAll_some e3, psOf_some e1]
theorem psAll_map : ∀ ps : List (Int × Str), psAll (ps.map psD) = some ps
  | [] => rfl
  | p :: r => by show (some p).bind _ = _; show (psAll (r.map psD)).map _ = _; rw [psAll_map r]; rfl
abbrev leP (a b : Int × Str) : Bool := !SortPS.lexS b a
theorem leP_trans (a b c : Int × Str) (h1 : leP a b = true) (h2 : leP b c = true) : leP a c = true := by
  have o := SortPS.swo_lexS (α := Int × Str) id
  have a1 : SortPS.lexS b a = false := by simpa [leP] using h1
  have a2 : SortPS.lexS c b = false := by simpa [leP] using h2
  have := o.tr a b c a1 a2
  show (!SortPS.lexS c a) = true
  rw [show SortPS.lexS c a = false from this]
  rfl
theorem leP_total (a b : Int × Str) : (leP a b || leP b a) = true := by
  have o := SortPS.swo_lexS (α := Int × Str) id
  show (!SortPS.lexS b a || !SortPS.lexS a b) = true
  cases e : SortPS.lexS b a with
  | false => rfl
  | true => rw [show SortPS.lexS a b = false from o.asym b a e]; rfl
theorem leP_anti {a b : Int × Str} (h1 : SortPS.lexS b a = false) (h2 : SortPS.lexS a b = false) : a = b := by
  have q1 := SortPS.lexS_no.mp h1
  have q2 := SortPS.lexS_no.mp h2
  have e1 : a.1 = b.1 := by
    rcases Int.lt_trichotomy a.1 b.1 with z | z | z
    · exact absurd (.inl z) q2
    · exact z
    · exact absurd (.inl z) q1
  have e2 : a.2.cps.toList = b.2.cps.toList := List.le_antisymm (List.not_lt.mp fun z => q1 (.inr ⟨e1.symm, z⟩)) (List.not_lt.mp fun z => q2 (.inr ⟨e1, z⟩))
  have e3 : a.2 = b.2 := by
    cases ha : a.2 with
    | mk x =>
      cases hb : b.2 with
      | mk y =>
        rw [ha, hb] at e2
        congr 1
        exact Array.toList_inj.mp e2
  exact Prod.ext e1 e3
theorem psort_uniq : ∀ {l m : List (Int × Str)}, l.Perm m → l.Pairwise (fun x y => SortPS.lexS y x = false) → m.Pairwise (fun x y => SortPS.lexS y x = false) → l = m
  | [], m, p, _, _ => (List.Perm.eq_nil p.symm).symm
  | x :: l, [], p, _, _ => absurd p.length_eq (by simp)
  | x :: l, y :: m, p, hl, hm => by
    have e : x = y := by
      rcases List.mem_cons.mp (p.mem_iff.mp List.mem_cons_self) with e | hx
      · exact e
      · rcases List.mem_cons.mp (p.mem_iff.mpr List.mem_cons_self) with e | hy
        · exact e.symm
        · exact leP_anti ((List.pairwise_cons.mp hl).1 y hy) ((List.pairwise_cons.mp hm).1 x hx)
    subst e
    rw [psort_uniq p.cons_inv (List.pairwise_cons.mp hl).2 (List.pairwise_cons.mp hm).2]
def sortP (ps : List (Int × Str)) : List (Int × Str) := ps.mergeSort leP
theorem sortP_sorted (ps : List (Int × Str)) : (sortP ps).Pairwise (fun x y => SortPS.lexS y x = false) := by
  have := List.pairwise_mergeSort (le := leP) leP_trans leP_total ps
  exact this.imp fun h => by simpa [leP] using h
theorem sortP_perm (ps : List (Int × Str)) : (sortP ps).Perm ps := List.mergeSort_perm ps leP
theorem sortP_eq {ps qs : List (Int × Str)} (p : qs.Perm ps) (h : qs.Pairwise (fun x y => SortPS.lexS y x = false)) : sortP ps = qs := psort_uniq ((sortP_perm ps).trans p.symm) (sortP_sorted ps) h
def sortPD : D → Option D
  | .list ds => (psAll ds).map fun ps => .list ((sortP ps).map psD)
  | _ => none
theorem dva_zip {K : PySem.W.Frag} {P : Addr → Prop} {H : Hp} : ∀ {vs : List V} {ps : List (Int × Str)}, DvA K P H vs (ps.map psD) → ∃ zs : List (V × (Int × Str)), zs.map (·.1) = vs ∧ zs.map (·.2) = ps ∧ ∀ z ∈ zs, Dv K P H z.1 (psD z.2)
  | _, [], .nil => ⟨[], rfl, rfl, fun _ h => by cases h⟩
  | v :: vs, p :: ps, .cons h r => by
    obtain ⟨zs, e1, e2, e3⟩ := dva_zip r
    refine ⟨(v, p) :: zs, by rw [List.map_cons, e1], by rw [List.map_cons, e2], fun z hz => ?_⟩
    rcases List.mem_cons.mp hz with rfl | hz
    · exact h
    · exact e3 z hz
theorem dva_unzip {K : PySem.W.Frag} {P : Addr → Prop} {H : Hp} : ∀ {zs : List (V × (Int × Str))}, (∀ z ∈ zs, Dv K P H z.1 (psD z.2)) → DvA K P H (zs.map (·.1)) ((zs.map (·.2)).map psD)
  | [], _ => .nil
  | z :: zs, h => .cons (h z List.mem_cons_self) (dva_unzip fun z hz => h z (List.mem_cons_of_mem _ hz))
theorem d_sortP {M : MI} {K : PySem.W.Frag} : FnD M K (rSortPS K) sortPD := fun w x dx z Q g hx e k => by
  cases dx <;> simp only [sortPD, reduceCtorEq] at e
  rename_i ds
  obtain ⟨ps, e1, rfl⟩ := Option.map_eq_some_iff.mp e
  have ed := psAll_some e1
  subst ed
  obtain ⟨a, vs, rfl, h1, h2⟩ := hx.seqL
  obtain ⟨zs, q1, q2, q3⟩ := dva_zip h2
  subst q1 q2
  refine ⟨a, zs, rfl, h1, fun z hz => ?_, fun zs' p pz ps hp => ?_⟩
  · have d := q3 z hz
    unfold psD at d
    generalize z.1 = v at d
    cases d with
    | @tup t us _ p1 p2 =>
      cases p2 with
      | cons c1 c2 =>
        cases c2 with
        | cons c2 c3 =>
          cases c3
          cases c1
          cases c2
          exact ⟨t, rfl, p1.sq⟩
  · have e2 : sortP (zs.map (·.2)) = zs'.map (·.2) := sortP_eq (pz.map _) (by rw [List.pairwise_map]; exact ps)
    rw [e2] at k
    exact newQ g hp (new_lst g hp (dva_unzip fun z hz => q3 z (pz.mem_iff.mp hz))) k
end HW

/-! repr of an int or None -/
namespace HW
open PySem L2
theorem call_repr_non {X : Cx} : CallR X (.builtin "repr") (fun xs H Q => xs = [.non] ∧ Q (.str "None") H) := by
  intro pins s σ H xs us Q I r h
  obtain ⟨rfl, q⟩ := h
  obtain ⟨u, rfl, r1⟩ := vals1 r
  cases r1
  exact PySem.P.repr_of_none ⟨.str _, H, I.tok _, ⟨_, rfl⟩, q⟩
def rReprN : List V → Hp → VK → Prop := fun xs H Q => (∃ i, xs = [.int i] ∧ i.natAbs.log2 < 1920 ∧ Q (.str (toString i)) H) ∨ (xs = [.non] ∧ Q (.str "None") H)
theorem call_reprN {X : Cx} : CallR X (.builtin "repr") rReprN := callR_or SkE.call_repr_int call_repr_non
def reprND : D → Option D
  | .int i => if i.natAbs.log2 < 1920 then some (.str (toString i)) else none
  | .none => some (.str "None")
  | _ => none
theorem d_reprN {M : MI} {K : PySem.W.Frag} : FnD M K rReprN reprND := fun w x dx z Q g hx e k => by
  cases dx <;> simp only [reprND, reduceCtorEq] at e
  · cases e; cases hx.non
    exact .inr ⟨rfl, keepQ g (.str _) k⟩
  · split at e
    · cases e; cases hx.int
      exact .inl ⟨_, rfl, by assumption, keepQ g (.str _) k⟩
    · cases e
end HW

/-! math.comb; s.find(t, i); * of great ints; x *= e; repr of a bool -/
namespace HW
open PySem L2
section
variable {X : Cx} {M : MI} {w0 : W}
/-! math.comb -/
theorem call_comb : CallR X (.builtin "math.comb") (fun xs H Q => ∃ a b : Int, xs = [.int a, .int b] ∧ (0 ≤ a ∧ 0 ≤ b ∧ a ≤ 18000) ∧ Q (.int (PySem.W.mcComb a b)) H) := by
  intro pins s σ H xs us Q I r h
  obtain ⟨a, b, rfl, ⟨h1, h2, h3⟩, q⟩ := h
  obtain ⟨u, w', rfl, ⟨t, rfl⟩, ⟨t', rfl⟩⟩ := vals2 r
  exact PySem.W.mc_comb h1 h2 (by omega) (.inr h3) fun _ => ⟨.int _, H, I.tok _, ⟨_, rfl⟩, q⟩
def combD : D → D → Option D
  | .int a, .int b => if 0 ≤ a ∧ 0 ≤ b ∧ a ≤ 18000 then some (.int (PySem.W.mcComb a b)) else none
  | _, _ => none
theorem d_comb {K : PySem.W.Frag} : FnD2 M K (fun xs H Q => ∃ a b : Int, xs = [.int a, .int b] ∧ (0 ≤ a ∧ 0 ≤ b ∧ a ≤ 18000) ∧ Q (.int (PySem.W.mcComb a b)) H) combD := fun w x y dx dy z Q g hx hy e k => by
  cases dx <;> cases dy <;> simp only [combD, reduceCtorEq] at e
  split at e
  · cases e; cases hx.int; cases hy.int
    exact ⟨_, _, rfl, by assumption, keepQ g (.int _) k⟩
  · cases e
/-- f(a, b), f a module's name for a built-in function -/
theorem e_bfun2 {r : List V → Hp → VK → Prop} {f : D → D → Option D} {x : Str} {id : String} {e e2 : Expr} {we we2 : WE} {p pos : Pos} (hr : CallR X (.builtin id) r) (hf : FnD2 M X.K r f) (hg : Gl X x) (hm : X.mg x = some (.builtin id)) (he : PE X e (tB M X.K we)) (he2 : PE X e2 (tB M X.K we2)) (hdb : (x == ("__debug__" : Str)) = false := by decide)
    (hs : starEach [e, e2] X.env = (false, eval e X.env) :: starEach [e2] X.env := by rfl) (hs2 : starEach [e2] X.env = (false, eval e2 X.env) :: starEach [] X.env := by rfl) (hpl : (backTo pos (starEach [e2] X.env)).any (·.1) = false := by rfl) : PE X (.Call (.Name x p) [e, e2] [] pos) (tE M X.K (wOp f we we2)) :=
  PE.imp (pe_callBfun hr hg hm (pa_cons he (pa_cons he2 pa_nil hs2) hs) hdb hs hpl) (r_fn2 hf)
/-! s.find(t, i) -/
def wFind (wo we wi : WE) : WE := fun ρ c Q => wo ρ c fun x c1 => (∃ s, x = .str s) ∧ we ρ c1 fun y c2 => wi ρ c2 fun z c3 => ∃ s t i, x = .str s ∧ y = .str t ∧ z = .int i ∧ Q (.int (Txt.find3 s t i)) c3
theorem e_find {o e e2 : Expr} {wo we wi : WE} {apos cpos : Pos} (ho : PE X o (tB M X.K wo)) (he : PE X e (tB M X.K we)) (he2 : PE X e2 (tB M X.K wi)) (hbase : attributeBase o "find" X.env (eval o X.env) = eval o X.env := by rfl)
    (hfew : ((backTo cpos (starEach [e, e2] X.env)).all (fun x => !x.1) && (backToKw cpos (keywordEach [] X.env)).all (fun x => x.1.isSome) && decide (([e, e2] : List Expr).length + ([] : List Keyword).length + (if ([] : List Keyword).isEmpty then 0 else 1) < 30)) = true := by rfl)
    (hline : (apos.endLine == cpos.line) = true := by rfl) (hs : starEach [e, e2] X.env = (false, eval e X.env) :: starEach [e2] X.env := by rfl) (hs2 : starEach [e2] X.env = (false, eval e2 X.env) :: starEach [] X.env := by rfl) (hpl : (backTo cpos (starEach [e2] X.env)).any (·.1) = false := by rfl) :
    PE X (.Call (.Attribute o "find" apos) [e, e2] [] cpos) (tE M X.K (wFind wo we wi)) := by
  refine PE.imp (pe_bm PySem.F.plainAttrs_str PySem.F.slot_str_find PySem.F.type_str_find mt_find3 ho (pa_cons he (pa_cons he2 pa_nil hs2) hs) hbase hfew hline hs hpl) ?_
  rintro σ H Q ⟨w, ρ, Qd, eh, ev, g, hw, k⟩
  refine ⟨w, ρ, _, eh, ev, g, hw, fun w1 x dx s1 g1 bx q1 => ?_⟩
  obtain ⟨⟨s, rfl⟩, q1⟩ := q1
  cases bx.str
  refine ⟨(show "str" = "str" from rfl), w1, ρ, _, rfl, ev.stp s1 g, g1, q1, fun w2 y dy s2 g2 by' q2 => ?_⟩
  refine ⟨w2, ρ, _, rfl, (ev.stp s1 g).stp s2 g1, g2, q2, fun w3 z dz s3 g3 bz q3 => ?_⟩
  obtain ⟨s', t, i, e1, rfl, rfl, q3⟩ := q3
  cases e1
  cases (by'.stp s3 g2).str
  cases bz.int
  exact ⟨s, t, i, rfl, rfl, k w3 _ _ ((s1.trans s2).trans s3) g3 (.int _) q3⟩
/-! * of great ints -/
def mulWD : D → D → Option D
  | .int i, .int j => if i.natAbs.log2 + j.natAbs.log2 < 1000000 then some (.int (i * j)) else none
  | _, _ => none
theorem d_mulW {K : PySem.W.Frag} : OpD M K (rI CMulW fun i j => .int (i * j)) mulWD := fun w x y dx dy z Q g hx hy e k => by
  cases dx <;> cases dy <;> simp only [mulWD, reduceCtorEq] at e
  split at e
  · cases e; cases hx.int; cases hy.int
    exact ⟨_, _, rfl, rfl, by assumption, keepQ g (.int _) k⟩
  · cases e
/-! x *= e -/
def wMulA (i : Nat) (we : WE) : WS := fun dd ρ c => ∃ a : Int, ρ[i]? = some (.im (.int a)) ∧ we ρ c fun d c1 => ∃ b : Int, d = .int b ∧ (-(2 ^ 64) < b ∧ b < 2 ^ 64) ∧ dd.nx (ρ.set i (.im (.int (a * b)))) c1
theorem s_mulA {i : Nat} {x : Str} {e : Expr} {we : WE} {pos pos' : Pos} (hN : X.N.Nodup) (hi : X.N[i]? = some x) (hx : Loc X.env.scope x) (he : PE X e (tE M X.K we)) (hf : X.fn x = true ∨ X.env.scope.names.lookup x = some .local := by first | exact .inl rfl | exact .inr rfl | assumption) :
    PS X (.AugAssign (.Name x pos') .Mult e pos) (tS M X.K w0 (wMulA i we)) := by
  refine PS.imp (ps_aug hN hi hx he (ti := fun x y H Q => ∃ i j, x = .int i ∧ y = .int j ∧ CMul i j ∧ Q (.int (i * j)) H) (fun pins s σ H x y v u Q I r1 r2 h => iop_mul pins s σ H x y v u Q I r1 r2 h) hf) ?_
  rintro D σ H ⟨w, ρ, dd, rfl, so, ⟨a, r, hw⟩, k⟩
  obtain ⟨v, e1, dv⟩ := so.ev.ok i _ r
  cases dv
  refine ⟨_, e1, w, ρ, _, rfl, so.ev, so.gd, hw, fun w1 v1 d1 s1 g1 dv1 q1 => ?_⟩
  obtain ⟨b, rfl, hb, q1⟩ := q1
  cases dv1
  exact ⟨a, b, rfl, rfl, .inr hb, k.nx w1 _ _ (s1.fk so.gd) ((so.stp s1 g1).setIm (.int _)) q1⟩
/-! repr of a bool -/
theorem call_reprB : CallR X (.builtin "repr") (fun xs H Q => ∃ b, xs = [.bl b] ∧ Q (.str (if b then "True" else "False")) H) := by
  intro pins s σ H xs us Q I r h
  obtain ⟨b, rfl, q⟩ := h
  obtain ⟨u, rfl, r1⟩ := vals1 r
  cases r1
  exact PySem.P.repr_of_bool ⟨.str _, H, I.tok _, ⟨_, rfl⟩, q⟩
def reprBD : D → Option D
  | .bool b => some (.str (if b then "True" else "False"))
  | _ => none
theorem d_reprB {K : PySem.W.Frag} : FnD M K (fun xs H Q => ∃ b, xs = [.bl b] ∧ Q (.str (if b then "True" else "False")) H) reprBD := fun w x dx z Q g hx e k => by
  cases dx <;> simp only [reprBD, reduceCtorEq] at e
  cases e; cases hx.bl
  exact ⟨_, rfl, keepQ g (.str _) k⟩
end
end HW

/-! a, b, c = e, f, g: three local names -/
namespace HW
open PySem L2
section
variable {X : Cx} {M : MI} {w0 : W}
def wPar3 (i j l : Nat) (we wk wm : WE) : WS := fun dd ρ c => we ρ c fun d c1 => wk ρ c1 fun d2 c2 => wm ρ c2 fun d3 c3 => dd.nx (((ρ.set i (.im d)).set j (.im d2)).set l (.im d3)) c3
theorem s_par3 {i j l : Nat} {x y z : Str} {a b e : Expr} {we wk wm : WE} {px py pz pt pos : Pos} {kt k2 pt2} (hc : X.calm = true) (hN : X.N.Nodup) (hi : X.N[i]? = some x) (hj : X.N[j]? = some y) (hl : X.N[l]? = some z) (hij : i ≠ j) (hil : i ≠ l) (hjl : j ≠ l) (hx : X.env.scope.names.lookup x = some .local) (hy : X.env.scope.names.lookup y = some .local) (hz : X.env.scope.names.lookup z = some .local) (ha : PE X a (tE M X.K we)) (hb : PE X b (tE M X.K wk)) (he : PE X e (tE M X.K wm))
    (hw : swappedStores [.Tuple [.Name x px, .Name y py, .Name z pz] kt pt] (.Tuple [a, b, e] k2 pt2) X.env = pure (some [x, y, z]) := by rfl) (h1 : starEach [a, b, e] X.env = (false, eval a X.env) :: starEach [b, e] X.env := by rfl) (h2 : starEach [b, e] X.env = (false, eval b X.env) :: starEach [e] X.env := by rfl) (h3 : starEach [e] X.env = (false, eval e X.env) :: starEach [] X.env := by rfl) (hs : swapsWithSole [.Tuple [.Name x px, .Name y py, .Name z pz] kt pt] (.Tuple [a, b, e] k2 pt2) pos.line X.env = pure false := by rfl) :
    PS X (.Assign [.Tuple [.Name x px, .Name y py, .Name z pz] kt pt] (.Tuple [a, b, e] k2 pt2) pos) (tS M X.K w0 (wPar3 i j l we wk wm)) := by
  refine PS.imp (ps_par3 hc hN hi hj hl hij hil hjl hx hy hz (pa_cons ha (pa_cons hb (pa_cons he pa_nil h3) h2) h1) hw hs) ?_
  rintro D σ H ⟨w, ρ, dd, eh, so, hw, k⟩
  refine ⟨w, ρ, _, eh, so.ev, so.gd, hw, fun w1 v d s1 g1 dv q1 => ?_⟩
  refine ⟨w1, ρ, _, rfl, so.ev.stp s1 so.gd, g1, q1, fun w2 v2 d2 s2 g2 dv2 q2 => ?_⟩
  refine ⟨w2, ρ, _, rfl, (so.ev.stp s1 so.gd).stp s2 g1, g2, q2, fun w3 v3 d3 s3 g3 dv3 q3 => ?_⟩
  exact ⟨v, v2, v3, rfl, k.nx w3 _ _ (((s1.trans s2).trans s3).fk so.gd) ((((((so.stp s1 g1).stp s2 g2).stp s3 g3).setIm (i := i) ((dv.fk (s2.fk g1)).fk (s3.fk g2))).setIm (dv2.fk (s3.fk g2))).setIm dv3) q3⟩
end
end HW

/-! a comprehension within another one, none of whose own names are free -/
namespace HW
open PySem L2
def sc0 : Scope := { kind := .function, names := [], isGenerator := false, isCoroutine := false }
theorem blkOk_nf {N : List Str} {sc scope : Scope} {own : List (Str × Nat)} (h : blkC N sc0 scope own = true) : BlkOk N sc scope own := by
  have b := blkOk_by h
  exact ⟨b.kind, b.uniq, b.ix, fun y hy e => (b.free y hy e).elim (fun z => by cases z) (fun z => by cases z), b.own⟩
end HW

/-! a, b = a new object, e; a, b = two new objects -/
namespace HW
open PySem L2
section
variable {X : Cx} {M : MI} {w0 : W}
theorem Sub.back {K : PySem.W.Frag} {w w' : W} {en : En} {p a : Addr} (he : EnOk K w (some (some (.ref p))) en) (st : Stp w w') (s : Sub w' en p a) : Sub w en p a := by
  rcases s with s | ⟨ds, kvs, k, rfl, h5, h6⟩
  · exact .inl s
  · obtain ⟨q, kv, e1, e2, _, e4, _⟩ := he
    cases e1
    have e5 := st.k _ _ e2 e4
    rw [h5] at e5
    cases e5
    exact .inr ⟨ds, kvs, k, rfl, e2, h6⟩
def wParF (i j : Nat) (wn : WN) (we : WE) : WS := fun dd ρ c => wn ρ c fun en c1 => we ρ c1 fun d c2 => dd.nx ((ρ.set i en).set j (.im d)) c2
theorem s_parF {i j : Nat} {x y : Str} {a b : Expr} {we : WE} {wn : WN} {px py pt pos : Pos} {kt k2 pt2} (hc : X.calm = true) (hN : X.N.Nodup) (hi : X.N[i]? = some x) (hj : X.N[j]? = some y) (hij : i ≠ j) (hx : X.env.scope.names.lookup x = some .local) (hy : X.env.scope.names.lookup y = some .local) (ha : PE X a (tN M X.K wn)) (hb : PE X b (tE M X.K we))
    (hw : swappedStores [.Tuple [.Name x px, .Name y py] kt pt] (.Tuple [a, b] k2 pt2) X.env = pure (some [x, y]) := by rfl) (h1 : starEach [a, b] X.env = (false, eval a X.env) :: starEach [b] X.env := by rfl) (h2 : starEach [b] X.env = (false, eval b X.env) :: starEach [] X.env := by rfl) (hs : swapsWithSole [.Tuple [.Name x px, .Name y py] kt pt] (.Tuple [a, b] k2 pt2) pos.line X.env = pure false := by rfl) :
    PS X (.Assign [.Tuple [.Name x px, .Name y py] kt pt] (.Tuple [a, b] k2 pt2) pos) (tS M X.K w0 (wParF i j wn we)) := by
  refine PS.imp (ps_par hc hN hi hj hij hx hy (pa_cons ha (pa_cons hb pa_nil h2) h1) hw hs) ?_
  rintro D σ H ⟨w, ρ, dd, eh, so, hw, k⟩
  refine ⟨w, ρ, _, eh, so.ev, so.gd, hw, fun w1 p en s1 g1 hm he fr q1 => ?_⟩
  refine ⟨w1, ρ, _, rfl, so.ev.stp s1 so.gd, g1, q1, fun w2 v d s2 g2 dv q2 => ?_⟩
  refine ⟨.ref p, v, rfl, ?_⟩
  have so2 := (so.stp s1 g1).stp s2 g2
  have so3 := so2.setOwn (i := i) hm (he.stp s2 g1) fun a sa => ⟨nn so.st (fr a (Sub.back he s2 sa)), fun j' oj => (so.ev.tracked (Own.back so.ev.ok s1 (Own.back (so.ev.stp s1 so.gd).ok s2 oj))).1 (fr a (Sub.back he s2 sa))⟩
  exact k.nx w2 _ _ ((s1.trans s2).fk so.gd) (so3.setIm dv) q2
def wParNN (i j : Nat) (wn wm : WN) : WS := fun dd ρ c => wn ρ c fun en c1 => wm ρ c1 fun em c2 => dd.nx ((ρ.set i en).set j em) c2
theorem s_parNN {i j : Nat} {x y : Str} {a b : Expr} {wn wm : WN} {px py pt pos : Pos} {kt k2 pt2} (hc : X.calm = true) (hN : X.N.Nodup) (hi : X.N[i]? = some x) (hj : X.N[j]? = some y) (hij : i ≠ j) (hx : X.env.scope.names.lookup x = some .local) (hy : X.env.scope.names.lookup y = some .local) (ha : PE X a (tN M X.K wn)) (hb : PE X b (tN M X.K wm))
    (hw : swappedStores [.Tuple [.Name x px, .Name y py] kt pt] (.Tuple [a, b] k2 pt2) X.env = pure (some [x, y]) := by rfl) (h1 : starEach [a, b] X.env = (false, eval a X.env) :: starEach [b] X.env := by rfl) (h2 : starEach [b] X.env = (false, eval b X.env) :: starEach [] X.env := by rfl) (hs : swapsWithSole [.Tuple [.Name x px, .Name y py] kt pt] (.Tuple [a, b] k2 pt2) pos.line X.env = pure false := by rfl) :
    PS X (.Assign [.Tuple [.Name x px, .Name y py] kt pt] (.Tuple [a, b] k2 pt2) pos) (tS M X.K w0 (wParNN i j wn wm)) := by
  refine PS.imp (ps_par hc hN hi hj hij hx hy (pa_cons ha (pa_cons hb pa_nil h2) h1) hw hs) ?_
  rintro D σ H ⟨w, ρ, dd, eh, so, hw, k⟩
  refine ⟨w, ρ, _, eh, so.ev, so.gd, hw, fun w1 p en s1 g1 hm he fr q1 => ?_⟩
  refine ⟨w1, ρ, _, rfl, so.ev.stp s1 so.gd, g1, q1, fun w2 q em s2 g2 hm2 he2 fr2 q2 => ?_⟩
  refine ⟨.ref p, .ref q, rfl, ?_⟩
  have so2 := (so.stp s1 g1).stp s2 g2
  have so3 := so2.setOwn (i := i) hm (he.stp s2 g1) fun a sa => ⟨nn so.st (fr a (Sub.back he s2 sa)), fun j' oj => (so.ev.tracked (Own.back so.ev.ok s1 (Own.back (so.ev.stp s1 so.gd).ok s2 oj))).1 (fr a (Sub.back he s2 sa))⟩
  refine k.nx w2 _ _ ((s1.trans s2).fk so.gd) (so3.setOwn (i := j) hm2 he2 fun a sa => ⟨nn so.st (nn s1 (fr2 a sa)), fun j' oj => ?_⟩) q2
  obtain ⟨q', e, o1, o2, o3, o4⟩ := oj
  by_cases z : i = j'
  · subst z
    rw [List.getElem?_set] at o1 o2
    simp at o1 o2
    obtain ⟨_, rfl⟩ := o1
    obtain ⟨_, rfl⟩ := o2
    exact (he.tracked hm (Sub.back he s2 o4)).1 (fr2 a sa)
  · rw [List.getElem?_set_ne z] at o1 o2
    exact ((so.ev.stp s1 so.gd).tracked (Own.back (so.ev.stp s1 so.gd).ok s2 ⟨q', e, o1, o2, o3, o4⟩)).1 (fr2 a sa)
end
end HW

/-! own dicts whose keys are tuples; a def that gives one back; min of a list; list(range(n)) -/
namespace HW
open PySem L2
def keysOf : List D → Option (List Key)
  | [] => some []
  | d :: r => (keyOf d).bind fun k => (keysOf r).map (k :: ·)
theorem keysOf_vs {K : PySem.W.Frag} {P : Addr → Prop} {H : Hp} : ∀ {vs : List V} {ds : List D} {ks : List Key}, DvA K P H vs ds → keysOf ds = some ks → vs = ks.map kV
  | _, _, _, .nil, e => by cases e; rfl
  | v :: vs, d :: ds, ks, .cons h1 h2, e => by
    obtain ⟨k, e1, e2⟩ := Option.bind_eq_some_iff.mp e
    obtain ⟨r, e3, e4⟩ := Option.map_eq_some_iff.mp e2
    subst e4
    rw [List.map_cons, ← keysOf_vs h2 e3]
    congr 1
    cases d <;> simp only [keyOf, reduceCtorEq] at e1
    · cases e1; cases h1; rfl
    · cases e1; cases h1; rfl
def lookT (ds : List (List Key × D)) (k : List Key) : Option D := (ds.find? fun p => decide (p.1 = k)).map (·.2)
def putT (ds : List (List Key × D)) (k : List Key) (d : D) : List (List Key × D) := if (ds.any fun p => decide (p.1 = k)) = true then ds.map (fun p => if p.1 = k then (p.1, d) else p) else ds ++ [(k, d)]
def DvT (K : PySem.W.Frag) (P : Addr → Prop) (H : Hp) (kvs : List (List Key × V)) (ds : List (List Key × D)) : Prop := kvs.map Prod.fst = ds.map Prod.fst ∧ DvA K P H (kvs.map Prod.snd) (ds.map Prod.snd)
section
variable {K : PySem.W.Frag} {P : Addr → Prop} {H : Hp}
theorem DvT.cons {p : List Key × V} {q : List Key × D} {r : List (List Key × V)} {s : List (List Key × D)} (h : DvT K P H (p :: r) (q :: s)) : p.1 = q.1 ∧ Dv K P H p.2 q.2 ∧ DvT K P H r s := by
  obtain ⟨h1, h2⟩ := h
  rw [List.map_cons, List.map_cons] at h1 h2
  injection h1 with e1 e2
  cases h2 with
  | cons a b => exact ⟨e1, a, e2, b⟩
theorem DvT.mk' {p : List Key × V} {q : List Key × D} {r : List (List Key × V)} {s : List (List Key × D)} (e : p.1 = q.1) (a : Dv K P H p.2 q.2) (h : DvT K P H r s) : DvT K P H (p :: r) (q :: s) := ⟨by rw [List.map_cons, List.map_cons, e, h.1], .cons a h.2⟩
theorem DvT.nil_of : ∀ {kvs : List (List Key × V)} {ds : List (List Key × D)}, DvT K P H kvs ds → kvs.length = ds.length := fun {kvs ds} h => by
  have := congrArg List.length h.1
  simpa using this
theorem DvT.look {k : List Key} : ∀ {kvs : List (List Key × V)} {ds : List (List Key × D)}, DvT K P H kvs ds → ∀ {d : D}, lookT ds k = some d → ∃ v, valV kvs k = some v ∧ Dv K P H v d
  | [], [], _, d, e => by cases e
  | p :: r, q :: s, h, d, e => by
    obtain ⟨e1, a, h'⟩ := h.cons
    by_cases c : q.1 = k
    · have : lookT (q :: s) k = some q.2 := by simp [lookT, List.find?_cons, c]
      rw [this] at e
      cases e
      exact ⟨p.2, valV_pos (e1.trans c), a⟩
    · have : lookT (q :: s) k = lookT s k := by simp [lookT, List.find?_cons, c]
      rw [this] at e
      obtain ⟨v, h1, h2⟩ := h'.look e
      exact ⟨v, (valV_neg (fun z => c (e1.symm.trans z))).trans h1, h2⟩
  | [], q :: s, h, _, _ => by have := h.nil_of; simp at this
  | p :: r, [], h, _, _ => by have := h.nil_of; simp at this
theorem DvT.any {k : List Key} : ∀ {kvs : List (List Key × V)} {ds : List (List Key × D)}, DvT K P H kvs ds → (kvs.any fun p => decide (p.1 = k)) = ds.any fun p => decide (p.1 = k)
  | [], [], _ => rfl
  | p :: r, q :: s, h => by
    obtain ⟨e1, a, h'⟩ := h.cons
    rw [List.any_cons, List.any_cons, h'.any, e1]
  | [], q :: s, h => by have := h.nil_of; simp at this
  | p :: r, [], h => by have := h.nil_of; simp at this
theorem DvT.map {k : List Key} {v : V} {d : D} (hv : Dv K P H v d) : ∀ {kvs : List (List Key × V)} {ds : List (List Key × D)}, DvT K P H kvs ds → DvT K P H (kvs.map fun p => if p.1 = k then (p.1, v) else p) (ds.map fun p => if p.1 = k then (p.1, d) else p)
  | [], [], _ => ⟨rfl, .nil⟩
  | p :: r, q :: s, h => by
    obtain ⟨e1, a, h'⟩ := h.cons
    rw [List.map_cons, List.map_cons]
    by_cases c : q.1 = k
    · rw [if_pos (e1.trans c), if_pos c]
      exact .mk' e1 hv (h'.map hv)
    · rw [if_neg (fun z => c (e1.symm.trans z)), if_neg c]
      exact .mk' e1 a (h'.map hv)
  | [], q :: s, h => by have := h.nil_of; simp at this
  | p :: r, [], h => by have := h.nil_of; simp at this
theorem DvT.app {k : List Key} {v : V} {d : D} (hv : Dv K P H v d) : ∀ {kvs : List (List Key × V)} {ds : List (List Key × D)}, DvT K P H kvs ds → DvT K P H (kvs ++ [(k, v)]) (ds ++ [(k, d)])
  | [], [], _ => .mk' rfl hv ⟨rfl, .nil⟩
  | p :: r, q :: s, h => by
    obtain ⟨e1, a, h'⟩ := h.cons
    exact .mk' e1 a (h'.app hv)
  | [], q :: s, h => by have := h.nil_of; simp at this
  | p :: r, [], h => by have := h.nil_of; simp at this
theorem DvT.put {k : List Key} {v : V} {d : D} (hv : Dv K P H v d) {kvs : List (List Key × V)} {ds : List (List Key × D)} (h : DvT K P H kvs ds) : DvT K P H (putK kvs k v) (putT ds k d) := by
  unfold putK putT
  rw [h.any]
  split
  · exact h.map hv
  · exact h.app hv
end
section
variable {X : Cx} {M : MI} {w0 : W} {pos : Pos} {e : Expr} {es : List Expr} {we : WE} {wa : WA}
def nDt : WN := fun _ c Q => Q (.dt []) c
theorem n_dt : PE X (.Dict [] [] pos) (tN M X.K nDt) := by
  refine PE.imp pe_dnewT ?_
  rintro σ H Q ⟨w, ρ, Qd, eh, ev, g, hw, k⟩
  subst eh
  intro p hp
  have nR : p ∉ w.R := r_free g hp
  have nF : ¬ w.F p := fun f => g.tf p f hp
  refine k (w.own p (.dT [])) p (.dt []) (stp_own hp) (gd_own g hp) rfl ⟨p, [], rfl, upd_same, nF, nR, rfl, .nil⟩ (fun a sa => ?_) hw
  rcases sa with rfl | ⟨ds, kvs, k', z, _⟩
  · exact hp
  · cases z
def wDtGet (i : Nat) (wa : WA) : WE := fun ρ c Q => (∃ ds, ρ[i]? = some (.dt ds)) ∧ wa ρ c fun ks c1 => ∃ ds k z, ρ[i]? = some (.dt ds) ∧ ks.length ≤ LIM ∧ keysOf ks = some k ∧ lookT ds k = some z ∧ Q z c1
theorem e_dtget {x : Str} {i : Nat} {p1 p2 : Pos} {kk : Nat} (hu : X.A.units + 1 < cLine) (hx : PE X (.Name x p1) (tVar i)) (ha : PA X es (tAs M X.K wa)) (hs : NoSl (.Tuple es kk p2)) : PE X (.Subscript (.Name x p1) (.Tuple es kk p2) pos) (tE M X.K (wDtGet i wa)) := by
  refine PE.imp (pe_dget hu hx (pe_tup ha) hs) ?_
  rintro σ H Q ⟨w, ρ, Qd, eh, ev, g, ⟨⟨ds0, r0⟩, hw⟩, k⟩
  obtain ⟨a, kvs, e1, e2, e3, e4, e5⟩ := ev.ok i _ r0
  refine ⟨_, e1, w, ρ, _, eh, ev, g, hw, fun w1 vs ds s1 g1 dvs q1 => ?_⟩
  obtain ⟨ds1, ky, z, r1, hl, ek, lk, q1⟩ := q1
  rw [r0] at r1
  cases r1
  refine ⟨lim_size (by rw [dvs.length]; exact hl), fun p hp => ?_⟩
  have ev1 := ev.stp s1 g
  obtain ⟨a', kvs', f1, f2, f3, f4, f5⟩ := ev1.ok i _ r0
  rw [e1] at f1
  cases f1
  obtain ⟨v, h1, h2⟩ := DvT.look f5 lk
  have np : a ≠ p := fun z => by rw [← z, f2] at hp; cases hp
  have hk := keysOf_vs dvs ek
  subst hk
  refine ⟨a, v, rfl, ?_, k (w1.new p (.tup _)) v z (s1.trans (stp_new hp)) (gd_new g1 hp) (h2.fk ((stp_new hp).fk g1)) q1⟩
  rw [← h1]
  exact DGet.t (b := p) ((upd_ne np).trans f2) upd_same
def wDtPut (i : Nat) (we : WE) (wa : WA) : WS := fun dd ρ c => we ρ c fun d c1 => (∃ ds, ρ[i]? = some (.dt ds)) ∧ wa ρ c1 fun ks c2 => ∃ ds k, ρ[i]? = some (.dt ds) ∧ ks.length ≤ LIM ∧ keysOf ks = some k ∧ ds.length < LIM ∧ dd.nx (ρ.set i (.dt (putT ds k d))) c2
theorem dt_same {w : W} {a b : Addr} {o : HO} {ds : List (List Key × D)} (s : Sub (w.own a o) (.dt ds) a b) {e : En} : Sub w e a b := by
  rcases s with rfl | ⟨_, _, _, z, _⟩
  · exact .inl rfl
  · cases z
theorem s_dtput {x : Str} {i : Nat} {p1 p2 p3 : Pos} {kk : Nat} (hu : X.A.units + 1 < cLine) (hx : PE X (.Name x p1) (tVar i)) (ha : PA X es (tAs M X.K wa)) (he : PE X e (tE M X.K we)) (hs : swapsWith e (some (.Subscript (.Name x p1) (.Tuple es kk p3) p2)) pos.line X.env = pure false := by rfl) :
    PS X (.Assign [.Subscript (.Name x p1) (.Tuple es kk p3) p2] e pos) (tS M X.K w0 (wDtPut i we wa)) := by
  refine PS.imp (ps_dput hu hx (pe_tup ha) he hs) ?_
  rintro D σ H ⟨w, ρ, dd, eh, so, hw, k⟩
  refine ⟨w, ρ, _, eh, so.ev, so.gd, hw, fun w1 v d s1 g1 dv q1 => ?_⟩
  obtain ⟨⟨ds0, r0⟩, q1⟩ := q1
  have so1 := so.stp s1 g1
  obtain ⟨a, kvs, e1, e2, e3, e4, e5⟩ := so1.ev.ok i _ r0
  refine ⟨_, e1, w1, ρ, _, rfl, so1.ev, g1, q1, fun w2 vs ks s2 g2 dvs q2 => ?_⟩
  obtain ⟨ds1, ky, r1, hl, ek, hd, q2⟩ := q2
  rw [r0] at r1
  cases r1
  refine ⟨lim_size (by rw [dvs.length]; exact hl), fun p hp => ?_⟩
  have hk := keysOf_vs dvs ek
  subst hk
  have s3 : Stp w2 (w2.new p (.tup (ky.map kV))) := stp_new hp
  have g3 : Gd M (w2.new p (.tup (ky.map kV))) := gd_new g2 hp
  have so2 := (so1.stp s2 g2).stp s3 g3
  obtain ⟨a', kvs', f1, f2, f3, f4, f5⟩ := so2.ev.ok i _ r0
  rw [e1] at f1
  cases f1
  refine ⟨a, _, rfl, DPut.t (b := p) f2 upd_same (by rw [sizeLine_eq, DvT.nil_of f5]; exact hd), ?_⟩
  exact k.nx ((w2.new p (.tup (ky.map kV))).own a (.dT (putK kvs' ky v))) σ _ ((((s1.trans s2).trans s3).fk so.gd).trans (fk_put f3)) (so2.put (en' := .dt _) e1 r0 rfl (.inl rfl) rfl ⟨a, _, rfl, upd_same, f3, f4, by
    have p5 := DvT.put (dv.fk ((s2.trans s3).fk g1)) (k := ky) f5
    exact ⟨p5.1, p5.2.fk (fk_put f3)⟩⟩ fun b sb => dt_same sb) q2
/-! min of a list -/
def minI (i : Int) (r : List Int) : Int := r.foldl min i
theorem foldl_min : ∀ (r : List Int) (i : Int), r.foldl min i ≤ i ∧ (∀ y ∈ r, r.foldl min i ≤ y) ∧ (r.foldl min i = i ∨ r.foldl min i ∈ r)
  | [], i => ⟨Int.le_refl _, by simp, .inl rfl⟩
  | x :: r, i => by
    obtain ⟨h1, h2, h3⟩ := foldl_min r (min i x)
    rw [List.foldl_cons]
    refine ⟨by omega, fun y hy => ?_, ?_⟩
    · rcases List.mem_cons.mp hy with rfl | hy
      · omega
      · exact h2 y hy
    · rcases h3 with h3 | h3
      · rw [h3]
        by_cases c : i ≤ x
        · exact .inl (by omega)
        · exact .inr (by rw [show min i x = x by omega]; exact List.mem_cons_self)
      · exact .inr (List.mem_cons_of_mem _ h3)
def minLD : D → Option D
  | .list ds => (intsD ds).bind fun ns => match ns with
    | [] => none
    | i :: r => some (.int (minI i r))
  | _ => none
theorem d_minL {K : PySem.W.Frag} : FnD M K (rMin K) minLD := fun w x dx z Q g hx e k => by
  cases dx <;> simp only [minLD, reduceCtorEq] at e
  rename_i ds
  cases en : intsD ds with
  | none => rw [en] at e; cases e
  | some ns =>
    rw [en] at e
    have ed := intsD_some en
    subst ed
    cases ns with
    | nil => cases e
    | cons i r =>
      cases e
      obtain ⟨a, vs, rfl, h1, h2⟩ := hx.seqL
      have ev := h2.ints
      subst ev
      refine ⟨a, i :: r, rfl, h1, by simp, fun m hm hle => ?_⟩
      obtain ⟨g1, g2, g3⟩ := foldl_min r i
      have e1 : minI i r ≤ m := by
        rcases List.mem_cons.mp hm with rfl | hm
        · exact g1
        · exact g2 m hm
      have e2 : m ≤ minI i r := by
        rcases g3 with g3 | g3
        · show m ≤ r.foldl min i; rw [g3]; exact hle i List.mem_cons_self
        · exact hle _ (List.mem_cons_of_mem _ g3)
      rw [Int.le_antisymm e2 e1]
      exact keepQ g (.int _) k
end
/-! a def that gives back a dict of its own with tuples as keys -/
abbrev FWt := List En → Nat → (List (List Key × D) → Nat → Prop) → Prop
def fnSpT (M : MI) (K : PySem.W.Frag) (f : FWt) : Sp := fun vs H Q _ => ∃ (w : W) (es : List En) (Qt : List (List Key × D) → Nat → Prop), w.H = H ∧ Gd M w ∧ ArgsOk K w vs es ∧ f es w.c Qt ∧
  ∀ (w' : W) (p : Addr) (kvs : List (List Key × V)) (ds : List (List Key × D)), Stp w w' → Gd M w' → w'.H p = some (.dT kvs) → p ∉ w'.R → DvT K w'.F w'.H kvs ds → Qt ds w'.c → Q (.ref p) w'.H
def wDefT (N : List Str) (ws : WS) (i : Nat) : List En → Nat → (List (List Key × D) → Nat → Prop) → Prop := fun es c Qt => ws { nx := fun ρ c' => ∃ ds, ρ[i]? = some (.dt ds) ∧ Qt ds c', rt := fun _ _ => False, bk := fun _ _ => False, ct := fun _ _ => False } (startE N es) c
def tRetV (M : MI) (K : PySem.W.Frag) (w0 : W) (ws : WS) (i : Nat) : TS := fun D σ H => tS M K w0 ws { D with nx := fun σ H => tRet (tVar i) D σ H } σ H
theorem pss_dt2 {X : Cx} {M : MI} {w0 : W} {w1 w2 : WS} {s1 s2 s3 : Stmt} {i : Nat} (h1 : PS X s1 (tS M X.K w0 w1)) (h2 : PS X s2 (tS M X.K w0 w2)) (h3 : PS X s3 (tRet (tVar i))) : PSs X [s1, s2, s3] (tRetV M X.K w0 (wSeq w1 w2) i) := by
  refine PSs.imp (pss_cons h1 (pss_cons h2 (pss_one h3))) ?_
  rintro D σ H ⟨w, ρ, dd, eh, so, hw, k⟩
  exact ⟨w, ρ, _, eh, so, hw, fun w' σ' ρ' f so' q => ⟨w', ρ', dd, rfl, so', q, k.mono f⟩, k.rt, k.bk, k.ct⟩
theorem run_T {M : MI} {K : PySem.W.Frag} {N : List Str} {ws : WS} {i : Nat} {vs : List V} {H : Hp} {Q : VK} {E : XK} {f : FWt} (h : fnSpT M K f vs H Q E) (hf : ∀ es c Qt, f es c Qt → wDefT N ws i es c Qt) :
    ∃ w : W, tRetV M K w ws i { nx := fun _ H' => Q .non H', rt := Q } (L2.start N vs) H := by
  obtain ⟨w, es, Qt, eh, g, a, hw, k⟩ := h
  refine ⟨w, w, startE N es, _, eh, start_ok g a, hf _ _ _ hw, ⟨fun w' σ' ρ' _ so ⟨ds, r, q⟩ => ?_, fun _ _ _ _ _ _ z => z.elim, fun _ _ _ _ _ z => z.elim, fun _ _ _ _ _ z => z.elim⟩⟩
  obtain ⟨p, kvs, e1, e2, e3, e4, e5⟩ := so.ev.ok i _ r
  exact ⟨.ref p, e1, k w' p kvs ds so.st so.gd e2 e4 e5 q⟩
section
variable {X : Cx} {M : MI} {es : List Expr} {e1 : Expr} {es1 : List Expr} {wa : WA} {wg : WG} {pos : Pos}
def wDtCall (f : FWt) (wg : WG) (wa : WA) : WE := fun ρ c Q => wg ρ c fun es c1 => f es c1 fun ds c2 => wa ρ c2 fun ks c3 => ∃ k z, ks.length ≤ LIM ∧ keysOf ks = some k ∧ lookT ds k = some z ∧ Q z c3
/-- f(..)[a, b] -/
theorem e_dtcall {f : FWt} {x : Str} {k j : Nat} {p p1 p2 : Pos} {kk : Nat} (C : CalG X.prog X.w X.K X.mg X.base k x (fnSpT M X.K f)) (hr : Room j X.A) (hk : k ≤ j) (gds : X.A.guards = some []) (hu : X.A.units + 1 < cLine) (hg : Gl X x) (hg' : PA X (e1 :: es1) (tG M X.K wg)) (ha : PA X es (tAs M X.K wa)) (hs : NoSl (.Tuple es kk p2))
    (hdb : (x == ("__debug__" : Str)) = false := by decide) (he : starEach (e1 :: es1) X.env = (false, eval e1 X.env) :: starEach es1 X.env := by rfl) (hpl : (backTo p1 (starEach es1 X.env)).any (·.1) = false := by rfl) :
    PE X (.Subscript (.Call (.Name x p) (e1 :: es1) [] p1) (.Tuple es kk p2) pos) (tE M X.K (wDtCall f wg wa)) := by
  refine PE.imp (pe_dget hu (pe_g C hr hk gds hg hg' hdb he hpl) (pe_tup ha) hs) ?_
  rintro σ H Q ⟨w, ρ, Qd, eh, ev, g, hw, kk'⟩
  refine ⟨w, ρ, _, eh, ev, g, hw, fun w1 vs es' s1 g1 ok q1 => ?_⟩
  show fnSpT M X.K f (vs ++ []) w1.H _ E0
  rw [List.append_nil]
  refine ⟨w1, es', _, rfl, g1, ok, q1, fun w2 p kvs ds s2 g2 hp nR dt q2 => ?_⟩
  have s12 := s1.trans s2
  refine ⟨w2, ρ, _, rfl, ev.stp s12 g, g2, q2, fun w3 us ks s3 g3 dvs q3 => ?_⟩
  obtain ⟨ky, z, hl, ek, lk, q3⟩ := q3
  refine ⟨lim_size (by rw [dvs.length]; exact hl), fun b hb => ?_⟩
  have hk := keysOf_vs dvs ek
  subst hk
  have hp3 := s3.k _ _ hp nR
  obtain ⟨v, h1, h2⟩ := DvT.look (H := w3.H) (P := w3.F) ⟨dt.1, dt.2.fk (s3.fk g2)⟩ lk
  have np : p ≠ b := fun z => by rw [← z, hp3] at hb; cases hb
  refine ⟨p, v, rfl, ?_, kk' (w3.new b (.tup _)) v z ((s12.trans s3).trans (stp_new hb)) (gd_new g3 hb) (h2.fk ((stp_new hb).fk g3)) q3⟩
  rw [← h1]
  exact DGet.t (b := b) ((upd_ne np).trans hp3) upd_same
end
end HW

/-! zip of a text and two tuples -/
namespace HW
open PySem L2 PySem.Spec PyProof.Rows
def It3 (K : PySem.W.Frag) (x : Str) (a b : Addr) (xs ys : List V) : It :=
  ⟨fun i H => SqT K H a xs ∧ SqT K H b ys ∧ i < x.cps.size ∧ i < xs.length ∧ i < ys.length,
   fun i H v H' => ∃ T c y z, v = .ref T ∧ H T = none ∧ H' = upd H T (.tup [.str ⟨#[c]⟩, y, z]) ∧ x.cps[i]? = some c ∧ xs[i]? = some y ∧ ys[i]? = some z,
   fun i H => SqT K H a xs ∧ SqT K H b ys ∧ min (min x.cps.size xs.length) ys.length ≤ i⟩
theorem turn_zip3 {P : Program} {w : World} {K : PySem.W.Frag} {elts : List Expr} {kk : Nat} {tpos : Pos} {x : Str} {t : Tok} {a b z TI TO i1 i2 i3 : Addr} {xs ys : List V} (D : ZipSep3 z TI TO i1 i2 i3 [i1] [i2, a] [i3, b]) (ne : i1 ≠ TI ∧ i2 ≠ TI ∧ i3 ≠ TI ∧ TI ≠ z ∧ i1 ≠ i2 ∧ i1 ≠ i3 ∧ i2 ≠ i3 ∧ a ≠ i2 ∧ b ≠ i3 ∧ a ≠ i3 ∧ b ≠ i2) :
    Turn P w K (.Tuple elts kk tpos) (It3 K x a b xs ys) [z, TI, TO, i1, i2, i3] z (fun i h => IsZip h z TI TO .none ∧ IsTupOf3 h TI (.ref i1) (.ref i2) (.ref i3) ∧ (∃ p q r, IsTupOf3 h TO p q r) ∧ h.IsStrIter i1 (strIterType x) x t i ∧ h.IsTupleIter i2 a i ∧ h.IsTupleIter i3 b i ∧ i ≤ min (min x.cps.size xs.length) ys.length) where
  mem := by simp
  obj := fun i h st c hc => by
    obtain ⟨hz, hTI, ⟨p, q, r, hTO⟩, ⟨o1, e1, _, d1⟩, ⟨o2, e2, _, d2⟩, ⟨o3, e3, _, d3⟩, _⟩ := st
    have e' : c = z ∨ c = TI ∨ c = TO ∨ c = i1 ∨ c = i2 ∨ c = i3 := by simpa using hc
    rcases e' with q | q | q | q | q | q
    · rw [q]; exact ⟨_, hz, fun v q => nomatch q⟩
    · rw [q]; exact ⟨_, hTI, fun v q => nomatch q⟩
    · rw [q]; exact ⟨_, hTO, fun v q => nomatch q⟩
    · rw [q]; exact ⟨o1, e1, fun v q => by rw [d1] at q; cases q⟩
    · rw [q]; exact ⟨o2, e2, fun v q => by rw [d2] at q; cases q⟩
    · rw [q]; exact ⟨o3, e3, fun v q => by rw [d3] at q; cases q⟩
  keep := fun i h h' st k => by
    obtain ⟨hz, hTI, ⟨p, q, r, hTO⟩, ⟨o1, e1, c1, d1⟩, h2, h3, hb⟩ := st
    exact ⟨k z (by simp) _ hz, k TI (by simp) _ hTI, ⟨p, q, r, k TO (by simp) _ hTO⟩, ⟨o1, k i1 (by simp) _ e1, c1, d1⟩, h2.at fun o q => k i2 (by simp) o q, h3.at fun o q => k i3 (by simp) o q, hb⟩
  item := by
    intro X hP hw hK hc i pins s σ H E I hf st hg
    subst hP hw hK
    obtain ⟨hz, hTI, ⟨p0, q0, r0, hTO⟩, h1, h2, h3, hb⟩ := st
    obtain ⟨hqx, hqy, l1, l2, l3⟩ := hg
    obtain ⟨its, rv, p, _⟩ := I.tuple hqx
    obtain ⟨its2, rv2, p2, _⟩ := I.tuple hqy
    have n1 := rv.length
    have n2 := rv2.length
    have hzl : z < s.heap.objs.size := Heap.lt_size hz
    have hd : X.A.in1.handled = none := I.ok.hd hc
    have dz : IsZip s.heap z TI TO .none := hz
    refine wpAny_pyNext_zipD3_item D (Draws.text hd i1 x t) (Draws.tuple hd i2 a ne.2.2.2.2.2.2.2.1 its.toArray) (Draws.tuple hd i3 b ne.2.2.2.2.2.2.2.2.1 its2.toArray) hz hTI hTO h1 ⟨h2, p⟩ ⟨h3, p2⟩ l1 (by simp; omega) (by simp; omega) fun x1 x2 x3 h' tk y1 y2 y3 z' TO' st1 st2 st3 hT hsz hk => ?_
    refine ⟨_, rfl, wpAny_letOwnedTupleGo_zip (s := { s with heap := h', toks := tk }) z' fun h'' z'' sb => ?_⟩
    obtain ⟨c, u, hc1, rfl⟩ := y1
    have hT2 : h''.get? s.heap.objs.size = some { cls := .type "tuple", data := .seq #[.str ⟨#[c]⟩ u, x2, x3] } := (sb.2 _ (Nat.ne_of_gt hzl)).trans hT
    obtain ⟨v2, hv2⟩ : ∃ v, xs[i]? = some v := ⟨xs[i], List.getElem?_eq_getElem l2⟩
    obtain ⟨v3, hv3⟩ : ∃ v, ys[i]? = some v := ⟨ys[i], List.getElem?_eq_getElem l3⟩
    obtain ⟨u2, hu2, ru2⟩ := rv.get hv2
    obtain ⟨u3, hu3, ru3⟩ := rv2.get hv3
    have e2 : u2 = x2 := by
      have : its[i]? = some x2 := by simpa using y2
      rw [hu2] at this
      exact Option.some.inj this
    have e3 : u3 = x3 := by
      have : its2[i]? = some x3 := by simpa using y3
      rw [hu3] at this
      exact Option.some.inj this
    subst e2 e3
    have new : ObjOk X.prog X.w (upd H s.heap.objs.size (.tup [.str ⟨#[c]⟩, v2, v3])) h'' s.heap.objs.size (.tup [.str ⟨#[c]⟩, v2, v3]) :=
      ⟨by show 3 ≤ sizeLine; decide, [.str ⟨#[c]⟩ u, u2, u3], .cons ⟨u, rfl⟩ (.cons ru2 (.cons ru3 .nil)), ⟨_, hT2, rfl, _, rfl⟩⟩
    have I1 : Inv X pins σ (upd H s.heap.objs.size (.tup [.str ⟨#[c]⟩, v2, v3])) { s with heap := h'', toks := tk } :=
      I.turnedNew (t' := tk) (ch := [z, TI, TO, i1, i2, i3]) (fun c o hb q => (sb.2 c (fun q' => hb (by simp [q']))).trans (hk c o (fun q' => hb (by simp [q'])) (fun q' => hb (by simp [q'])) (fun q' => hb (by simp [q'])) (fun q' => hb (by simp [q'])) (fun q' => hb (by simp [q'])) q)) hf (Nat.le_refl _) new
    have d1z : i1 ≠ z := fun e => D.zf1 (by rw [← e]; simp)
    have d2z : i2 ≠ z := fun e => D.zf2 (by rw [← e]; simp)
    have d3z : i3 ≠ z := fun e => D.zf3 (by rw [← e]; simp)
    refine ⟨.ref s.heap.objs.size, _, I1, rfl, ⟨_, c, v2, v3, rfl, I.hok.fresh (Nat.le_refl _), rfl, hc1, hv2, hv3⟩, ⟨z'', ?_, ⟨.str ⟨#[c]⟩ u, u2, u3, ?_⟩, ?_, ?_, ?_, by omega⟩, fun c hcm => ?_⟩
    · exact (sb.2 _ D.TIz).trans (hk _ _ D.TIz D.TITO (Ne.symm ne.1) (Ne.symm ne.2.1) (Ne.symm ne.2.2.1) hTI)
    · exact (sb.2 _ D.TOz).trans TO'
    · obtain ⟨o, e1, e2, e3⟩ := st1
      exact ⟨o, (sb.2 _ d1z).trans e1, e2, e3⟩
    · exact st2.1.at fun o q => (sb.2 _ d2z).trans q
    · exact st3.1.at fun o q => (sb.2 _ d3z).trans q
    · have hlt : c < s.heap.objs.size := by
        have e' : c = z ∨ c = TI ∨ c = TO ∨ c = i1 ∨ c = i2 ∨ c = i3 := by simpa using hcm
        rcases e' with q | q | q | q | q | q
        · rw [q]; exact hzl
        · rw [q]; exact Heap.lt_size hTI
        · rw [q]; exact Heap.lt_size hTO
        · rw [q]; obtain ⟨_, e1, _⟩ := h1; exact Heap.lt_size e1
        · rw [q]; obtain ⟨_, e2, _⟩ := h2; exact Heap.lt_size e2
        · rw [q]; obtain ⟨_, e2, _⟩ := h3; exact Heap.lt_size e2
      rw [upd_ne (Nat.ne_of_lt hlt)]
      exact (hf c hcm).1
  done := by
    intro X hP hw hK hc i pins s σ H E I hf st hg
    subst hP hw hK
    obtain ⟨hz, hTI, ⟨p0, q0, r0, hTO⟩, h1, h2, h3, hb⟩ := st
    obtain ⟨hqx, hqy, hend⟩ := hg
    obtain ⟨its, rv, p, _⟩ := I.tuple hqx
    obtain ⟨its2, rv2, p2, _⟩ := I.tuple hqy
    have n1 := rv.length
    have n2 := rv2.length
    have hd : X.A.in1.handled = none := I.ok.hd hc
    have s1 : its.toArray.size = its.length := by simp
    have s2 : its2.toArray.size = its2.length := by simp
    exact wpAny_pyNext_zipD3_end D (Draws.text hd i1 x t) (Draws.tuple hd i2 a ne.2.2.2.2.2.2.2.1 its.toArray) (Draws.tuple hd i3 b ne.2.2.2.2.2.2.2.2.1 its2.toArray) hz hTI hTO h1 ⟨h2, p⟩ ⟨h3, p2⟩ (by omega) (by omega) (by omega) (by omega) fun h' tk hk => ⟨rfl, I.turnedL (t' := tk) (ch := [z, TI, TO, i1, i2, i3]) (fun c o hb q =>
      hk c o (fun q' => hb (by simp [q'])) (fun q' => hb (by simp [q'])) (fun q' => hb (by simp [q'])) (fun q' => hb (by simp [q'])) (fun q' => hb (by simp [q'])) q) hf⟩
  self := fun A i s Q E st h => wpAny_pyIter_zip st.1 h
theorem sep3 (n a b : Nat) (la : a < n) (lb : b < n) : ZipSep3 (n + 5) (n + 3) (n + 4) n (n + 1) (n + 2) [n] [n + 1, a] [n + 2, b] := by
  have f : ∀ {x y : Nat}, x ≠ y → @Ne Addr x y := fun h => h
  constructor
  all_goals first
    | exact f (by omega)
    | exact List.mem_cons_self
    | (intro z; simp only [List.mem_cons, List.not_mem_nil, or_false] at z; first | (have z' : (_ : Nat) = _ := z; omega) | (rcases z with z | z <;> (have z' : (_ : Nat) = _ := z; omega)))
theorem ne3 (n a b : Nat) (la : a < n) (lb : b < n) : @Ne Addr n (n + 3) ∧ @Ne Addr (n + 1) (n + 3) ∧ @Ne Addr (n + 2) (n + 3) ∧ @Ne Addr (n + 3) (n + 5) ∧ @Ne Addr n (n + 1) ∧ @Ne Addr n (n + 2) ∧ @Ne Addr (n + 1) (n + 2) ∧ @Ne Addr a (n + 1) ∧ @Ne Addr b (n + 2) ∧ @Ne Addr a (n + 2) ∧ @Ne Addr b (n + 1) := by
  have f : ∀ {x y : Nat}, x ≠ y → @Ne Addr x y := fun h => h
  exact ⟨f (by omega), f (by omega), f (by omega), f (by omega), f (by omega), f (by omega), f (by omega), f (by omega), f (by omega), f (by omega), f (by omega)⟩
theorem le3 {n c : Nat} (e : @Eq Addr c (n + 5) ∨ @Eq Addr c (n + 3) ∨ @Eq Addr c (n + 4) ∨ @Eq Addr c n ∨ @Eq Addr c (n + 1) ∨ @Eq Addr c (n + 2)) : n ≤ c := by
  have g : ∀ {x y : Nat}, @Eq Addr x y → x = y := fun h => h
  rcases e with e | e | e | e | e | e <;> (have := g e; omega)
def iZip3 (K : PySem.W.Frag) (ta : TA) : TI := fun σ H R => ta σ H fun vs H1 => ∃ x a b xs ys, vs = [.str x, .ref a, .ref b] ∧ SqT K H1 a xs ∧ SqT K H1 b ys ∧ R (It3 K x a b xs ys) H1
theorem pi_zip3 {X : Cx} {e e2 e3 : Expr} {ta : TA} {p pos tpos : Pos} {elts : List Expr} {kk : Nat} (hg : Gl X "zip") (hm : X.mg "zip" = none) (ha : PA X [e, e2, e3] ta)
    (hs : starEach [e, e2, e3] X.env = (false, eval e X.env) :: starEach [e2, e3] X.env := by rfl) (hpl : (backTo pos (starEach [e2, e3] X.env)).any (·.1) = false := by rfl) :
    PI X (.Tuple elts kk tpos) (.Call (.Name "zip" p) [e, e2, e3] [] pos) (iZip3 X.K ta) := by
  refine ⟨fun pins s σ H R I h => ?_⟩
  refine Call_ (ld_blt I hg hm PyProof.Rows.boot_zip (PyProof.Rows.callWith_type1 (thn (ha.run pos pins s σ H _ I h) fun us s1 ⟨vs, H1, I1, r1, q1⟩ => ?_) hs hpl))
  obtain ⟨x, a, b, xs, ys, ex, hqx, hqy, q⟩ := q1
  subst ex
  cases r1 with
  | cons r rr =>
  cases rr with
  | cons r' rr =>
  cases rr with
  | cons r'' rr =>
    cases rr
    obtain ⟨t, rfl⟩ := r
    cases r'
    cases r''
    obtain ⟨its, rv, p1, _⟩ := I1.tuple hqx
    obtain ⟨its2, rv2, p2, _⟩ := I1.tuple hqy
    obtain ⟨oa, ha1, _⟩ := id p1
    obtain ⟨ob, hb1, _⟩ := id p2
    have la : a < s1.heap.objs.size := Heap.lt_size ha1
    have lb : b < s1.heap.objs.size := Heap.lt_size hb1
    refine zip_begins3 (begins_text x t) (begins_tuple a its.toArray) (begins_tuple b its2.toArray) trivial p1 p2 fun h' hz hTI hTO g1 g2 g3 hsz hk => wpAny_pyIter_zip hz ?_
    have I2 : Inv X pins σ H1 { s1 with heap := h' } := I1.kept (t' := s1.toks) hk
    refine ⟨s1.heap.objs.size + 5, [s1.heap.objs.size + 5, s1.heap.objs.size + 3, s1.heap.objs.size + 4, s1.heap.objs.size, s1.heap.objs.size + 1, s1.heap.objs.size + 2], _, _, H1, rfl, I2, turn_zip3 (t := t) (sep3 _ a b la lb) (ne3 _ a b la lb), ⟨hz, hTI, ⟨_, _, _, hTO⟩, ⟨_, g1, rfl, rfl⟩, ⟨_, g2, rfl, rfl⟩, ⟨_, g3, rfl, rfl⟩, Nat.zero_le _⟩, fun c hcm => ?_, q⟩
    have e' : c = s1.heap.objs.size + 5 ∨ c = s1.heap.objs.size + 3 ∨ c = s1.heap.objs.size + 4 ∨ c = s1.heap.objs.size ∨ c = s1.heap.objs.size + 1 ∨ c = s1.heap.objs.size + 2 := by simpa using hcm
    have hle : s1.heap.objs.size ≤ c := le3 e'
    exact I1.fpOk hle (I1.hok.fresh hle)
/-! as words -/
def zip3D : List D → List D → List D → List D
  | a :: r, b :: s, c :: t => .tuple [a, b, c] :: zip3D r s t
  | _, _, _ => []
theorem zip3D_len : ∀ (x y z : List D), (zip3D x y z).length = min (min x.length y.length) z.length
  | [], _, _ => by simp [zip3D]
  | _ :: _, [], _ => by simp [zip3D]
  | _ :: _, _ :: _, [] => by simp [zip3D]
  | a :: r, b :: s, c :: t => by
    show (zip3D r s t).length + 1 = _
    rw [zip3D_len r s t]
    simp only [List.length_cons]
    omega
theorem zip3D_get : ∀ {x y z : List D} {i : Nat} {d : D}, (zip3D x y z)[i]? = some d → ∃ a b c, x[i]? = some a ∧ y[i]? = some b ∧ z[i]? = some c ∧ d = .tuple [a, b, c]
  | [], _, _, _, _, e => by simp [zip3D] at e
  | _ :: _, [], _, _, _, e => by simp [zip3D] at e
  | _ :: _, _ :: _, [], _, _, e => by simp [zip3D] at e
  | a :: r, b :: s, c :: t, 0, d, e => by
    have : PyData.tuple [a, b, c] = d := by simpa [zip3D] using e
    exact ⟨a, b, c, rfl, rfl, rfl, this.symm⟩
  | a :: r, b :: s, c :: t, i + 1, d, e => by
    obtain ⟨p, q, u, h1, h2, h3, h4⟩ := zip3D_get (x := r) (y := s) (z := t) (i := i) (d := d) (by simpa [zip3D] using e)
    exact ⟨p, q, u, by simpa using h1, by simpa using h2, by simpa using h3, h4⟩
section
variable {X : Cx} {M : MI} {e e2 e3 : Expr} {we we2 we3 : WE} {p pos tpos : Pos} {elts : List Expr} {kk : Nat}
def wZip3 (we we2 we3 : WE) : WI := fun ρ c Q => we ρ c fun d c1 => we2 ρ c1 fun d2 c2 => we3 ρ c2 fun d3 c3 => ∃ x xs ys, d = .str x ∧ d2 = .tuple xs ∧ d3 = .tuple ys ∧ Q (zip3D (signs x) xs ys) c3
theorem i_zip3 (hg : Gl X "zip") (hm : X.mg "zip" = none) (he : PE X e (tE M X.K we)) (he2 : PE X e2 (tE M X.K we2)) (he3 : PE X e3 (tE M X.K we3)) (hs : starEach [e, e2, e3] X.env = (false, eval e X.env) :: starEach [e2, e3] X.env := by rfl) (hs2 : starEach [e2, e3] X.env = (false, eval e2 X.env) :: starEach [e3] X.env := by rfl) (hs3 : starEach [e3] X.env = (false, eval e3 X.env) :: starEach [] X.env := by rfl) (hpl : (backTo pos (starEach [e2, e3] X.env)).any (·.1) = false := by rfl) :
    PI X (.Tuple elts kk tpos) (.Call (.Name "zip" p) [e, e2, e3] [] pos) (tI M X.K Fk (wZip3 we we2 we3)) := by
  refine PI.imp (pi_zip3 hg hm (pa_cons he (pa_cons he2 (pa_cons he3 pa_nil hs3) hs2) hs) hs hpl) ?_
  rintro σ H R ⟨w, ρ, Qd, eh, ev, g, hw, k⟩
  refine ⟨w, ρ, _, eh, ev, g, hw, fun w1 v d s1 g1 dv q1 => ?_⟩
  refine ⟨w1, ρ, _, rfl, ev.stp s1 g, g1, q1, fun w2 v2 d2 s2 g2 dv2 q2 => ?_⟩
  refine ⟨w2, ρ, _, rfl, (ev.stp s1 g).stp s2 g1, g2, q2, fun w3 v3 d3 s3 g3 dv3 q3 => ?_⟩
  obtain ⟨x, xs, ys, rfl, rfl, rfl, q3⟩ := q3
  cases dv
  have dv2' := dv2.fk (s3.fk g2)
  cases dv2' with
  | @tup a us _ h2 h3 =>
  cases dv3 with
  | @tup b vs _ h5 h6 =>
    have l1 := h3.length
    have l2 := h6.length
    have ls : (signs x).length = x.cps.size := by simp [signs]
    refine ⟨x, a, b, us, vs, rfl, h2.sq, h5.sq, k w3 _ (zip3D (signs x) xs ys) ((s1.trans s2).trans s3) g3 ⟨fun w' i d r g' ed => ?_, fun w' i r g' hi => ?_⟩ q3⟩
    · obtain ⟨x0, y0, z0, ex, ey, ez, rfl⟩ := zip3D_get ed
      have qa := (h2.up (r.f1 a) fun o f => r.k a o f).sq
      have qb := (h5.up (r.f1 b) fun o f => r.k b o f).sq
      obtain ⟨va, eva, dva⟩ := (h3.fk r).get ey
      obtain ⟨vb, evb, dvb⟩ := (h6.fk r).get ez
      have hx : i < x.cps.size := by rw [← ls]; exact (List.getElem?_eq_some_iff.mp ex).1
      have hy : i < us.length := (List.getElem?_eq_some_iff.mp eva).1
      have hz : i < vs.length := (List.getElem?_eq_some_iff.mp evb).1
      refine ⟨⟨qa, qb, hx, hy, hz⟩, fun v H' y => ?_⟩
      obtain ⟨T, c, y1, z1, rfl, hT, rfl, hc, hy1, hz1⟩ := y
      rw [eva] at hy1
      rw [evb] at hz1
      cases hy1
      cases hz1
      have e0 : x0 = .str ⟨#[c]⟩ := by
        unfold signs at ex
        rw [List.getElem?_map] at ex
        obtain ⟨c', e1, e2⟩ := Option.map_eq_some_iff.mp ex
        have e3 : x.cps[i]? = some c' := by simpa using e1
        rw [hc] at e3
        cases e3
        exact e2.symm
      subst e0
      exact ⟨w'.new T _, rfl, rfl, stp_new hT, gd_new g' hT, new_tup g' hT (.cons (.str _) (.cons dva (.cons dvb .nil)))⟩
    · rw [zip3D_len] at hi
      exact ⟨(h2.up (r.f1 a) fun o f => r.k a o f).sq, (h5.up (r.f1 b) fun o f => r.k b o f).sq, by omega⟩
end
end HW

/-! list(range(n)), xs[::-1] -/
namespace HW
open PySem L2
section
variable {X : Cx} {M : MI} {e : Expr} {we : WE} {p q pos : Pos}
theorem dva_map {K : PySem.W.Frag} {P : Addr → Prop} {H : Hp} (f : Nat → Int) : ∀ l : List Nat, DvA K P H (l.map fun i => V.int (f i)) (l.map fun i => PyData.int (f i))
  | [] => .nil
  | x :: r => .cons (.int _) (dva_map f r)
theorem DvA.rev {K : PySem.W.Frag} {P : Addr → Prop} {H : Hp} : ∀ {vs : List V} {ds : List D}, DvA K P H vs ds → DvA K P H vs.reverse ds.reverse
  | _, _, .nil => .nil
  | _, _, .cons h1 h2 => by
    rw [List.reverse_cons, List.reverse_cons]
    exact h2.rev.app (.cons h1 .nil)
def wLR (we : WE) : WE := fun ρ c Q => we ρ c fun d c1 => ∃ n : Int, d = .int n ∧ 0 ≤ n ∧ n ≤ 16777216 ∧ Q (.list (rngD 0 n.toNat)) c1
theorem e_lrange {pos2 : Pos} (hg : Gl X "list") (hm : X.mg "list" = none) (hg2 : Gl X "range") (hm2 : X.mg "range" = none) (hc : X.calm = true) (he : PE X e (tE M X.K we)) (hs : starEach [e] X.env = (false, eval e X.env) :: starEach [] X.env := by rfl) (hs2 : starEach [.Call (.Name "range" q) [e] [] pos] X.env = (false, eval (.Call (.Name "range" q) [e] [] pos) X.env) :: starEach [] X.env := by rfl) :
    PE X (.Call (.Name "list" p) [.Call (.Name "range" q) [e] [] pos] [] pos2) (tE M X.K (wLR we)) := by
  refine PE.imp (pe_listRg hc hg hm (prg_1 hg2 hm2 he hs) hs2) ?_
  rintro σ H Q ⟨w, ρ, Qd, eh, ev, g, hw, k⟩
  refine ⟨w, ρ, _, eh, ev, g, hw, fun w1 v d s1 g1 dv q1 => ?_⟩
  obtain ⟨n, rfl, n0, n1, q1⟩ := q1
  cases dv
  refine ⟨n, rfl, .of_le (Int.le_refl _) n1 (by decide) n0, fun p hp => ?_⟩
  have dva : DvA X.K w1.F w1.H (rgV 0 n) (rngD 0 n.toNat) := by
    unfold rgV rngD
    rw [Int.sub_zero]
    exact dva_map (fun i => 0 + (i : Int)) _
  exact k (w1.new p (.lst (rgV 0 n))) _ _ (s1.trans (stp_new hp)) (gd_new g1 hp) (new_lst g1 hp dva) q1
def wRevL (we : WE) : WE := fun ρ c Q => we ρ c fun d c1 => ∃ ds, d = .list ds ∧ Q (.list ds.reverse) c1
theorem e_revL {k0 : Nat} {p1 p2 p3 : Pos} (he : PE X e (tB M X.K we)) : PE X (.Subscript e (.Slice none none (some (.UnaryOp .USub (.Constant (.int 1) k0 p1) p2)) p3) pos) (tE M X.K (wRevL we)) := by
  refine PE.imp (pe_revL he) ?_
  rintro σ H Q ⟨w, ρ, Qd, eh, ev, g, hw, k⟩
  refine ⟨w, ρ, _, eh, ev, g, hw, fun w1 v d s1 g1 dv q1 => ?_⟩
  obtain ⟨ds, rfl, q1⟩ := q1
  obtain ⟨a, vs, rfl, sq, da⟩ := dv.seqL
  exact ⟨a, vs, rfl, sq, fun p hp => k (w1.new p (.lst vs.reverse)) _ _ (s1.trans (stp_new hp)) (gd_new g1 hp) (new_lst g1 hp da.rev) q1⟩
variable {b : Expr} {es : List Expr} {wa : WA} {wb : WE} {p2' : Pos}
/-- new lists of one's own by [..] * n, by xs + ys -/
def nRepL (wa : WA) (wb : WE) : WN := fun ρ c Q => wa ρ c fun ds c1 => ds.length ≤ LIM ∧ wb ρ c1 fun d c2 => ∃ n : Int, d = .int n ∧ -(2 ^ 62) ≤ n ∧ n ≤ 2 ^ 62 ∧ ds.length * n.toNat ≤ LIM ∧ Q (.ls (List.replicate n.toNat ds).flatten) c2
theorem n_repL (ha : PA X es (tAs M X.K wa)) (hb : PE X b (tB M X.K wb)) : PE X (.BinOp (.List es p2') .Mult b pos) (tN M X.K (nRepL wa wb)) := by
  refine PE.imp (pe_op op_rep (pe_lst ha) hb) ?_
  rintro σ H Q ⟨w, ρ, Qd, eh, ev, g, hw, k⟩
  refine ⟨w, ρ, _, eh, ev, g, hw, fun w1 vs ds s1 g1 da q1 => ⟨lim_size (by rw [da.length]; exact q1.1), fun p hp => ?_⟩⟩
  have sp := stp_own (o := .lst vs) hp
  have gp := gd_own (o := .lst vs) g1 hp
  refine ⟨w1.own p (.lst vs), ρ, _, rfl, (ev.stp s1 g).stp sp g1, gp, q1.2, fun w2 y d s2 g2 bv q2 => ?_⟩
  obtain ⟨n, rfl, n1, n2, n3, q⟩ := q2
  have at2 := s2.k _ _ own_at (show p ∉ w1.R from r_free g1 hp)
  have da2 := (da.fk (sp.fk g1)).fk (s2.fk gp)
  refine ⟨p, n, vs, rfl, bv.int, at2, by omega, by omega, by rw [da.length]; exact lim_size n3, fun p' hp' => ?_⟩
  have s3 := (s1.trans sp).trans s2
  obtain ⟨y1, y2, y3, y4⟩ := new_ls s3 g2 hp' (da2.rep _)
  exact k _ p' _ y1 y2 rfl y3 y4 q
def nCat (we wb : WE) : WN := fun ρ c Q => we ρ c fun x c1 => wb ρ c1 fun y c2 => ∃ xs ys, x = .list xs ∧ y = .list ys ∧ xs.length + ys.length ≤ LIM ∧ Q (.ls (xs ++ ys)) c2
theorem n_cat (ha : PE X e (tB M X.K we)) (hb : PE X b (tB M X.K wb)) : PE X (.BinOp e .Add b pos) (tN M X.K (nCat we wb)) := by
  refine PE.imp (pe_op o_cat ha hb) ?_
  rintro σ H Q ⟨w, ρ, Qd, eh, ev, g, hw, k⟩
  refine ⟨w, ρ, _, eh, ev, g, hw, fun w1 x dx s1 g1 bx q1 => ?_⟩
  refine ⟨w1, ρ, _, rfl, ev.stp s1 g, g1, q1, fun w2 y dy s2 g2 by' q2 => ?_⟩
  obtain ⟨xs, ys, rfl, rfl, hl, q⟩ := q2
  obtain ⟨a, vs, rfl, h1, h2⟩ := (bx.stp s2 g1).seqL
  obtain ⟨c, us, rfl, h3, h4⟩ := by'.seqL
  refine ⟨a, c, vs, us, rfl, rfl, h1, h3, lim_size (by rw [h2.length, h4.length]; exact hl), fun p hp => ?_⟩
  obtain ⟨y1, y2, y3, y4⟩ := new_ls (s1.trans s2) g2 hp (h2.app h4)
  exact k _ p _ y1 y2 rfl y3 y4 q
end
end HW

/-! texts as lists of code points; words run -/
namespace HW
open PySem L2
def S (l : List Nat) : Str := ⟨l.toArray⟩
theorem S_of (x : Str) : x = S x.cps.toList := by cases x; rfl
theorem S_inj {a b : List Nat} : S a = S b ↔ a = b := ⟨fun h => by have := congrArg (fun x : Str => x.cps.toList) h; simpa [S] using this, fun h => h ▸ rfl⟩
theorem S_len (l : List Nat) : (S l).length = l.length := by show (l.toArray).size = _; simp
theorem S_cps (l : List Nat) : (S l).cps.toList = l := by simp [S]
theorem S_add (a b : List Nat) : S a ++ S b = S (a ++ b) := by
  show (⟨a.toArray ++ b.toArray⟩ : Str) = _
  simp [S]
theorem S_beq (a b : List Nat) : (S a == S b) = decide (a = b) := by
  by_cases h : a = b
  · subst h; simp
  · rw [decide_eq_false h]
    exact beq_false_of_ne fun z => h (S_inj.mp z)
abbrev cD (c : Nat) : D := .str (S [c])
theorem signs_S (l : List Nat) : signs (S l) = l.map cD := by unfold signs; rw [S_cps]; rfl
theorem inS_S (c : Nat) (l : List Nat) : inS (S [c]) (S l) = decide (c ∈ l) := by
  have := inS_one c (S l)
  rw [S_cps] at this
  exact this
theorem lt_S (a b : List Nat) : ltD (.str (S a)) (.str (S b)) = some (.bool (decide (a < b))) := by
  show some (PyData.bool (decide ((S a).cps.toList < (S b).cps.toList))) = _
  rw [S_cps, S_cps]
theorem ixS (l : List Nat) {i : Nat} (h : i < l.length) (hz : l.length ≤ LIM) : ixD (.str (S l)) (.int i) = some (cD l[i]) := by
  show (if (S l).length ≤ LIM then (atI (S l).cps.toList i).map _ else none) = _
  rw [S_len, if_pos hz, S_cps]
  unfold atI ixN
  rw [if_pos (by omega), if_pos (by omega)]
  simp [h]
  rfl
theorem ixL (ds : List D) {i : Nat} (h : i < ds.length) : ixD (.list ds) (.int i) = some ds[i] := by
  show atI ds i = _
  unfold atI ixN
  rw [if_pos (by omega), if_pos (by omega)]
  simp [h]
theorem ixT (ds : List D) {i : Nat} (h : i < ds.length) : ixD (.tuple ds) (.int i) = some ds[i] := by
  show atI ds i = _
  unfold atI ixN
  rw [if_pos (by omega), if_pos (by omega)]
  simp [h]
theorem add_S (a b : List Nat) (h : a.length + b.length ≤ LIM) : addD (.str (S a)) (.str (S b)) = some (.str (S (a ++ b))) := by
  show (if (S a).length + (S b).length ≤ LIM then some (PyData.str (S a ++ S b)) else none) = _
  rw [S_len, S_len, if_pos h, S_add]
/-- a comprehension without draws -/
theorem lcGo_map {we : WE} {ρ : List En} {j : Nat} (f : D → D) : ∀ (ds acc : List D) (c : Nat) (Q : D → Nat → Prop), (∀ d ∈ ds, ∀ c (Q : D → Nat → Prop), Q (f d) c → we (ρ.set j (.im d)) c Q) → Q (.list (acc ++ ds.map f)) c → lcGo wYes we ρ j ds acc c Q
  | [], acc, c, Q, _, q => by simpa [lcGo] using q
  | d :: r, acc, c, Q, h, q => by
    refine iteT (B := lcGo wYes we ρ j r acc c Q) (h d List.mem_cons_self c _ ?_)
    exact lcGo_map f r (acc ++ [f d]) c Q (fun x hx => h x (List.mem_cons_of_mem _ hx)) (by simpa using q)
theorem lcGo_fil {wt : WT} {we : WE} {ρ : List En} {j : Nat} (p : D → Bool) (f : D → D) : ∀ (ds acc : List D) (c : Nat) (Q : D → Nat → Prop), (∀ d ∈ ds, ∀ c (Q : Bool → Nat → Prop), Q (p d) c → wt (ρ.set j (.im d)) c Q) → (∀ d ∈ ds, ∀ c (Q : D → Nat → Prop), Q (f d) c → we (ρ.set j (.im d)) c Q) →
    Q (.list (acc ++ (ds.filter p).map f)) c → lcGo wt we ρ j ds acc c Q
  | [], acc, c, Q, _, _, q => by simpa [lcGo] using q
  | d :: r, acc, c, Q, hp, h, q => by
    refine hp d List.mem_cons_self c _ ?_
    have rp := fun x (hx : x ∈ r) => hp x (List.mem_cons_of_mem _ hx)
    have rh := fun x (hx : x ∈ r) => h x (List.mem_cons_of_mem _ hx)
    cases e : p d with
    | true =>
      refine iteT (h d List.mem_cons_self c _ ?_)
      refine lcGo_fil p f r (acc ++ [f d]) c Q rp rh ?_
      simpa [List.filter_cons, e] using q
    | false =>
      refine iteF (lcGo_fil p f r acc c Q rp rh ?_)
      simpa [List.filter_cons, e] using q
/-- a drawn comprehension: some of the items, each by a draw -/
theorem lcGo_draw {wt : WT} {we : WE} {ρ : List En} {j : Nat} (f : D → D) : ∀ (ds acc : List D) (c : Nat) (Q : D → Nat → Prop), (∀ d ∈ ds, ∀ c' (Q : Bool → Nat → Prop), c ≤ c' → c' < c + ds.length → (∀ b, Q b (c' + 1)) → wt (ρ.set j (.im d)) c' Q) → (∀ d ∈ ds, ∀ c (Q : D → Nat → Prop), Q (f d) c → we (ρ.set j (.im d)) c Q) →
    (∀ es : List D, es.Sublist ds → Q (.list (acc ++ es.map f)) (c + ds.length)) → lcGo wt we ρ j ds acc c Q
  | [], acc, c, Q, _, _, q => by simpa [lcGo] using q [] (List.Sublist.refl _)
  | d :: r, acc, c, Q, hp, h, q => by
    refine hp d List.mem_cons_self c _ (Nat.le_refl _) (by simp) fun b => ?_
    have rp : ∀ x ∈ r, ∀ c' (Q : Bool → Nat → Prop), c + 1 ≤ c' → c' < c + 1 + r.length → (∀ b, Q b (c' + 1)) → wt (ρ.set j (.im x)) c' Q := fun x hx c' Q h1 h2 k => hp x (List.mem_cons_of_mem _ hx) c' Q (by omega) (by simp; omega) k
    have rh := fun x (hx : x ∈ r) => h x (List.mem_cons_of_mem _ hx)
    have e : c + (d :: r).length = c + 1 + r.length := by simp; omega
    rw [e] at q
    cases b with
    | true =>
      refine iteT (h d List.mem_cons_self _ _ ?_)
      refine lcGo_draw f r (acc ++ [f d]) (c + 1) Q rp rh fun es hes => ?_
      have := q (d :: es) (hes.cons_cons d)
      simpa using this
    | false =>
      refine iteF (lcGo_draw f r acc (c + 1) Q rp rh fun es hes => q es (hes.cons d))
end HW

/-! X1: words that are run: functions over data, each leading to its word -/
namespace HW
open PySem L2
inductive Rs (α : Type) where
  | bad
  | ok (a : α)
  | ex (x : Xd)
namespace Rs
variable {α β : Type}
def bind : Rs α → (α → Rs β) → Rs β
  | .bad, _ => .bad
  | .ok a, f => f a
  | .ex x, _ => .ex x
def calm : Rs α → Rs α
  | .ex _ => .bad
  | r => r
def ofO : Option α → Rs α
  | none => .bad
  | some a => .ok a
def guard (c : Prop) [Decidable c] (r : Rs α) : Rs α := if c then r else .bad
def post (r : Rs α) (Q : α → Prop) (E : Xd → Prop) : Prop := match r with
  | .bad => False
  | .ok a => Q a
  | .ex x => E x
theorem post_bind {r : Rs α} {f : α → Rs β} {Q : β → Prop} {E : Xd → Prop} (h : (r.bind f).post Q E) : r.post (fun a => (f a).post Q E) E := by cases r <;> exact h
theorem post_mono {r : Rs α} {Q Q' : α → Prop} {E : Xd → Prop} (h : r.post Q E) (k : ∀ a, Q a → Q' a) : r.post Q' E := by
  cases r with
  | bad => exact h
  | ok a => exact k a h
  | ex x => exact h
theorem post_calm {r : Rs α} {Q : α → Prop} {E E' : Xd → Prop} (h : r.calm.post Q E) : r.post Q E' := by
  cases r with
  | bad => exact h
  | ok a => exact h
  | ex x => exact h.elim
theorem post_ofO {o : Option α} {Q : α → Prop} {E : Xd → Prop} (h : (ofO o).post Q E) : ∃ z, o = some z ∧ Q z := by
  cases o with
  | none => exact h.elim
  | some a => exact ⟨a, rfl, h⟩
theorem post_guard {c : Prop} [Decidable c] {r : Rs α} {Q : α → Prop} {E : Xd → Prop} (h : (guard c r).post Q E) : c ∧ r.post Q E := by
  unfold guard at h
  split at h
  · exact ⟨by assumption, h⟩
  · exact h.elim
theorem post_bm {r : Rs α} {f : α → Rs β} {Q : β → Prop} {Q' : α → Prop} {E : Xd → Prop} (h : (r.bind f).post Q E) (k : ∀ a, (f a).post Q E → Q' a) : r.post Q' E := post_mono (post_bind h) k
end Rs
open Rs
abbrev XE := List En → Rs D
abbrev XT := List En → Rs Bool
abbrev XA := List En → Rs (List D)
abbrev XO := List En → Rs (Option Int)
abbrev XG := List En → Rs (List En)
abbrev XN := List En → Rs En
abbrev RR := Xd → List En → Nat → Prop
section
variable (R : RR)
def RfE (x : XE) (w : WE) : Prop := ∀ ρ c Q, (x ρ).post (fun d => Q d c) (fun e => R e ρ c) → w ρ c Q
def RfT (x : XT) (w : WT) : Prop := ∀ ρ c Q, (x ρ).post (fun d => Q d c) (fun e => R e ρ c) → w ρ c Q
def RfA (x : XA) (w : WA) : Prop := ∀ ρ c Q, (x ρ).post (fun d => Q d c) (fun e => R e ρ c) → w ρ c Q
def RfO (x : XO) (w : WO) : Prop := ∀ ρ c Q, (x ρ).post (fun d => Q d c) (fun e => R e ρ c) → w ρ c Q
def RfG (x : XG) (w : WG) : Prop := ∀ ρ c Q, (x ρ).post (fun d => Q d c) (fun e => R e ρ c) → w ρ c Q
def RfN (x : XN) (w : WN) : Prop := ∀ ρ c Q, (x ρ).post (fun d => Q d c) (fun e => R e ρ c) → w ρ c Q
end
section
variable {R : RR} {xa xb xc : XE} {wa wb wc : WE} {xt xu : XT} {wt wu : WT} {xs xs' : XA} {ws ws' : WA} {xl xh xk : XO} {wl wh wk : WO}
@[simp] def xVar (i : Nat) : XE := fun ρ => match ρ[i]? with
  | some (.im d) => .ok d
  | _ => .bad
theorem k_var {i : Nat} : RfE R (xVar i) (wVar i) := fun ρ c Q h => by
  unfold xVar at h
  split at h
  · rename_i d e; exact ⟨d, e, h⟩
  · exact h.elim
@[simp] def xLook (i : Nat) : XE := fun ρ => ofO (ρ[i]?.bind En.look)
theorem k_look {i : Nat} : RfE R (xLook i) (wLook i) := fun ρ c Q h => by
  obtain ⟨d, e, q⟩ := post_ofO h
  cases z : ρ[i]? with
  | none => rw [z] at e; cases e
  | some en => rw [z] at e; exact ⟨en, d, z, e, q⟩
@[simp] def xC (d : D) : XE := fun _ => .ok d
theorem k_c {d : D} : RfE R (xC d) (wC d) := fun _ _ _ h => h
@[simp] def xOp (f : D → D → Option D) (xa xb : XE) : XE := fun ρ => (xa ρ).bind fun x => (xb ρ).bind fun y => ofO (f x y)
theorem k_op {f : D → D → Option D} (ha : RfE R xa wa) (hb : RfE R xb wb) : RfE R (xOp f xa xb) (wOp f wa wb) := fun ρ c Q h => ha ρ c _ (post_bm h fun x h => hb ρ c _ (post_bm h fun y h => post_ofO h))
def bl : D → Option Bool
  | .bool b => some b
  | _ => none
theorem bl_some {d : D} {b : Bool} (h : bl d = some b) : d = .bool b := by
  cases d <;> simp only [bl, reduceCtorEq, Option.some.injEq] at h
  rw [h]
@[simp] def xTst (xa : XE) : XT := fun ρ => (xa ρ).bind fun d => ofO (bl d)
theorem k_tst (ha : RfE R xa wa) : RfT R (xTst xa) (wTst wa) := fun ρ c Q h => ha ρ c _ (post_bm h fun x h => by
  obtain ⟨b, e, q⟩ := post_ofO h
  exact ⟨b, bl_some e, q⟩)
@[simp] def xTru (xa : XE) : XT := fun ρ => (xa ρ).bind fun d => ofO (truD d)
theorem k_tru (ha : RfE R xa wa) : RfT R (xTru xa) (wTru wa) := fun ρ c Q h => ha ρ c _ (post_bm h fun x h => post_ofO h)
@[simp] def xAnd (xt xu : XT) : XT := fun ρ => (xt ρ).bind fun b => if b = true then xu ρ else .ok false
theorem k_and (ht : RfT R xt wt) (hu : RfT R xu wu) : RfT R (xAnd xt xu) (wAnd wt wu) := fun ρ c Q h => ht ρ c _ (post_bm h fun b h => by
  cases b with
  | true => exact hu ρ c _ h
  | false => exact h)
@[simp] def xOr (xt xu : XT) : XT := fun ρ => (xt ρ).bind fun b => if b = true then .ok true else xu ρ
theorem k_or (ht : RfT R xt wt) (hu : RfT R xu wu) : RfT R (xOr xt xu) (wOr wt wu) := fun ρ c Q h => ht ρ c _ (post_bm h fun b h => by
  cases b with
  | true => exact h
  | false => exact hu ρ c _ h)
@[simp] def xNot (xt : XT) : XT := fun ρ => (xt ρ).bind fun b => .ok (!b)
theorem k_not (ht : RfT R xt wt) : RfT R (xNot xt) (wNot wt) := fun ρ c Q h => ht ρ c _ (post_bm h fun b h => h)
@[simp] def xAndV (xa xb : XE) : XE := fun ρ => (xa ρ).bind fun d => (ofO (bl d)).bind fun b => if b = true then xb ρ else .ok (.bool false)
theorem k_andV (ha : RfE R xa wa) (hb : RfE R xb wb) : RfE R (xAndV xa xb) (wAndV wa wb) := fun ρ c Q h => ha ρ c _ (post_bm h fun d h => by
  obtain ⟨b, e, q⟩ := post_ofO (post_bind h)
  refine ⟨b, bl_some e, ?_⟩
  cases b with
  | true => exact hb ρ c _ q
  | false => exact q)
@[simp] def xOrV (xa xb : XE) : XE := fun ρ => (xa ρ).bind fun d => (ofO (bl d)).bind fun b => if b = true then .ok (.bool true) else xb ρ
theorem k_orV (ha : RfE R xa wa) (hb : RfE R xb wb) : RfE R (xOrV xa xb) (wOrV wa wb) := fun ρ c Q h => ha ρ c _ (post_bm h fun d h => by
  obtain ⟨b, e, q⟩ := post_ofO (post_bind h)
  refine ⟨b, bl_some e, ?_⟩
  cases b with
  | true => exact q
  | false => exact hb ρ c _ q)
@[simp] def xNotV (xa : XE) : XE := fun ρ => (xa ρ).bind fun d => (ofO (bl d)).bind fun b => .ok (.bool (!b))
theorem k_notV (ha : RfE R xa wa) : RfE R (xNotV xa) (wNotV wa) := fun ρ c Q h => ha ρ c _ (post_bm h fun d h => by
  obtain ⟨b, e, q⟩ := post_ofO (post_bind h)
  exact ⟨b, bl_some e, q⟩)
@[simp] def xIfE (xt : XT) (xa xb : XE) : XE := fun ρ => (xt ρ).bind fun b => if b = true then xa ρ else xb ρ
theorem k_if (ht : RfT R xt wt) (ha : RfE R xa wa) (hb : RfE R xb wb) : RfE R (xIfE xt xa xb) (wIfE wt wa wb) := fun ρ c Q h => ht ρ c _ (post_bm h fun b h => by
  cases b with
  | true => exact ha ρ c _ h
  | false => exact hb ρ c _ h)
@[simp] def xChain (f f' : D → D → Option D) (xa xb xc : XE) : XE := fun ρ => (xa ρ).bind fun x => (xb ρ).bind fun y => (ofO ((f x y).bind bl)).bind fun b => if b = true then (xc ρ).bind fun z => ofO (f' y z) else .ok (.bool false)
theorem k_chain {f f' : D → D → Option D} (ha : RfE R xa wa) (hb : RfE R xb wb) (hc : RfE R xc wc) : RfE R (xChain f f' xa xb xc) (wChain f f' wa wb wc) := fun ρ c Q h => ha ρ c _ (post_bm h fun x h => hb ρ c _ (post_bm h fun y h => by
  obtain ⟨b, e, q⟩ := post_ofO (post_bind h)
  cases ef : f x y with
  | none => rw [ef] at e; cases e
  | some d =>
    rw [ef] at e
    refine ⟨b, congrArg some (bl_some e), ?_⟩
    cases b with
    | true => exact hc ρ c _ (post_bm q fun z h => post_ofO h)
    | false => exact q))
@[simp] def xNil : XA := fun _ => .ok []
theorem k_nil : RfA R xNil wNil := fun _ _ _ h => h
@[simp] def xCons (xa : XE) (xs : XA) : XA := fun ρ => (xa ρ).bind fun d => (xs ρ).bind fun ds => .ok (d :: ds)
theorem k_cons (ha : RfE R xa wa) (hs : RfA R xs ws) : RfA R (xCons xa xs) (wCons wa ws) := fun ρ c Q h => ha ρ c _ (post_bm h fun d h => hs ρ c _ (post_bm h fun ds h => h))
@[simp] def xTup (xs : XA) : XE := fun ρ => (xs ρ).bind fun ds => guard (ds.length ≤ LIM) (.ok (.tuple ds))
theorem k_tup (hs : RfA R xs ws) : RfE R (xTup xs) (wTup ws) := fun ρ c Q h => hs ρ c _ (post_bm h fun ds h => post_guard h)
@[simp] def xLst (xs : XA) : XE := fun ρ => (xs ρ).bind fun ds => guard (ds.length ≤ LIM) (.ok (.list ds))
theorem k_lst (hs : RfA R xs ws) : RfE R (xLst xs) (wLst ws) := fun ρ c Q h => hs ρ c _ (post_bm h fun ds h => post_guard h)
@[simp] def xF (f : D → Option D) (xa : XE) : XE := fun ρ => (xa ρ).bind fun d => ofO (f d)
theorem k_f {f : D → Option D} (ha : RfE R xa wa) : RfE R (xF f xa) (wF f wa) := fun ρ c Q h => ha ρ c _ (post_bm h fun d h => post_ofO h)
def isStr : D → Bool
  | .str _ => true
  | _ => false
@[simp] def xMS (f : D → D → Option D) (xa xb : XE) : XE := fun ρ => (xa ρ).bind fun x => guard (isStr x = true) ((xb ρ).bind fun y => ofO (f x y))
theorem k_ms {f : D → D → Option D} (ha : RfE R xa wa) (hb : RfE R xb wb) : RfE R (xMS f xa xb) (wMS f wa wb) := fun ρ c Q h => ha ρ c _ (post_bm h fun x h => by
  obtain ⟨e, h⟩ := post_guard h
  refine ⟨?_, hb ρ c _ (post_bm h fun y h => post_ofO h)⟩
  cases x <;> simp only [isStr, reduceCtorEq] at e
  exact ⟨_, rfl⟩)
@[simp] def xNo : XO := fun _ => .ok none
theorem k_no : RfO R xNo wNo := fun _ _ _ h => h
def iD : D → Option Int
  | .int i => some i
  | _ => none
theorem iD_some {d : D} {i : Int} (h : iD d = some i) : d = .int i := by
  cases d <;> simp only [iD, reduceCtorEq, Option.some.injEq] at h
  rw [h]
@[simp] def xSo (xa : XE) : XO := fun ρ => (xa ρ).bind fun d => (ofO (iD d)).bind fun i => .ok (some i)
theorem k_so (ha : RfE R xa wa) : RfO R (xSo xa) (wSo wa) := fun ρ c Q h => ha ρ c _ (post_bm h fun d h => by
  obtain ⟨i, e, q⟩ := post_ofO (post_bind h)
  exact ⟨i, iD_some e, q⟩)
@[simp] def xSl (xa : XE) (xl xh : XO) : XE := fun ρ => (xa ρ).bind fun x => (xl ρ).bind fun l => (xh ρ).bind fun u => ofO (slD x l u)
theorem k_sl (ha : RfE R xa wa) (hl : RfO R xl wl) (hh : RfO R xh wh) : RfE R (xSl xa xl xh) (wSl wa wl wh) := fun ρ c Q h => ha ρ c _ (post_bm h fun x h => hl ρ c _ (post_bm h fun l h => hh ρ c _ (post_bm h fun u h => post_ofO h)))
@[simp] def xSlK (xa : XE) (xl xh xk : XO) : XE := fun ρ => (xa ρ).bind fun x => (xl ρ).bind fun l => (xh ρ).bind fun u => (xk ρ).bind fun k => (ofO k).bind fun i => ofO (stepD x l u i)
theorem k_slK (ha : RfE R xa wa) (hl : RfO R xl wl) (hh : RfO R xh wh) (hk : RfO R xk wk) : RfE R (xSlK xa xl xh xk) (wSlK wa wl wh wk) := fun ρ c Q h => ha ρ c _ (post_bm h fun x h => hl ρ c _ (post_bm h fun l h => hh ρ c _ (post_bm h fun u h => hk ρ c _ (post_bm h fun k h => by
  obtain ⟨i, e, q⟩ := post_ofO (post_bind h)
  obtain ⟨z, ez, q⟩ := post_ofO q
  exact ⟨i, z, e, ez, q⟩))))
/-! dicts -/
def dicD : D → Option (List (D × D))
  | .dict kvs => some kvs
  | _ => none
theorem dicD_some {d : D} {k : List (D × D)} (h : dicD d = some k) : d = .dict k := by
  cases d <;> simp only [dicD, reduceCtorEq, Option.some.injEq] at h
  rw [h]
@[simp] def xDix (xa xb : XE) : XE := fun ρ => (xa ρ).bind fun d => (xb ρ).bind fun y => (ofO (dicD d)).bind fun kvs => (ofO (keyOf y)).bind fun k => ofO (lookK kvs k)
theorem k_dix (ha : RfE R xa wa) (hb : RfE R xb wb) : RfE R (xDix xa xb) (wDix wa wb) := fun ρ c Q h => ha ρ c _ (post_bm h fun d h => hb ρ c _ (post_bm h fun y h => by
  obtain ⟨kvs, e, h⟩ := post_ofO (post_bind h)
  obtain ⟨k, e2, h⟩ := post_ofO (post_bind h)
  obtain ⟨z, e3, q⟩ := post_ofO h
  exact ⟨kvs, k, z, dicD_some e, e2, e3, q⟩))
@[simp] def xGet2 (xa xb xc : XE) : XE := fun ρ => (xa ρ).bind fun d => (ofO (dicD d)).bind fun kvs => (xb ρ).bind fun y => (xc ρ).bind fun z => (ofO (keyOf y)).bind fun k => .ok ((lookK kvs k).getD z)
theorem k_get2 (ha : RfE R xa wa) (hb : RfE R xb wb) (hc : RfE R xc wc) : RfE R (xGet2 xa xb xc) (wGet2 wa wb wc) := fun ρ c Q h => ha ρ c _ (post_bm h fun d h => by
  obtain ⟨kvs, e, h⟩ := post_ofO (post_bind h)
  refine ⟨⟨kvs, dicD_some e⟩, hb ρ c _ (post_bm h fun y h => hc ρ c _ (post_bm h fun z h => ?_))⟩
  obtain ⟨k, e2, q⟩ := post_ofO (post_bind h)
  exact ⟨kvs, k, dicD_some e, e2, q⟩)
@[simp] def xInK (neg : Bool) (xa xb : XE) : XE := fun ρ => (xa ρ).bind fun y => (xb ρ).bind fun d => (ofO (dicD d)).bind fun kvs => (ofO (keyOf y)).bind fun k => .ok (.bool (if neg then !(lookK kvs k).isSome else (lookK kvs k).isSome))
theorem k_inK {neg : Bool} (ha : RfE R xa wa) (hb : RfE R xb wb) : RfE R (xInK neg xa xb) (wInK neg wa wb) := fun ρ c Q h => ha ρ c _ (post_bm h fun y h => hb ρ c _ (post_bm h fun d h => by
  obtain ⟨kvs, e, h⟩ := post_ofO (post_bind h)
  obtain ⟨k, e2, q⟩ := post_ofO (post_bind h)
  exact ⟨kvs, k, dicD_some e, e2, q⟩))
@[simp] def xList (xa : XE) : XE := fun ρ => (xa ρ).bind fun d => (ofO (itD d)).bind fun ds => .ok (.list ds)
theorem k_list (ha : RfE R xa wa) : RfE R (xList xa) (wList wa) := fun ρ c Q h => ha ρ c _ (post_bm h fun d h => by
  obtain ⟨ds, e, q⟩ := post_ofO (post_bind h)
  exact ⟨ds, e, q⟩)
/-! what is walked -/
def listD : D → Option (List D)
  | .list ds => some ds
  | _ => none
def tupleD : D → Option (List D)
  | .tuple ds => some ds
  | _ => none
def strD : D → Option Str
  | .str x => some x
  | _ => none
theorem listD_some {d : D} {k : List D} (h : listD d = some k) : d = .list k := by
  cases d <;> simp only [listD, reduceCtorEq, Option.some.injEq] at h
  rw [h]
theorem tupleD_some {d : D} {k : List D} (h : tupleD d = some k) : d = .tuple k := by
  cases d <;> simp only [tupleD, reduceCtorEq, Option.some.injEq] at h
  rw [h]
theorem strD_some {d : D} {k : Str} (h : strD d = some k) : d = .str k := by
  cases d <;> simp only [strD, reduceCtorEq, Option.some.injEq] at h
  rw [h]
@[simp] def xItL (xa : XE) : XA := fun ρ => (xa ρ).bind fun d => ofO (listD d)
theorem k_itL (ha : RfE R xa wa) : RfA R (xItL xa) (wItL wa) := fun ρ c Q h => ha ρ c _ (post_bm h fun d h => by
  obtain ⟨ds, e, q⟩ := post_ofO h
  exact ⟨ds, listD_some e, q⟩)
@[simp] def xItT (xa : XE) : XA := fun ρ => (xa ρ).bind fun d => ofO (tupleD d)
theorem k_itT (ha : RfE R xa wa) : RfA R (xItT xa) (wItT wa) := fun ρ c Q h => ha ρ c _ (post_bm h fun d h => by
  obtain ⟨ds, e, q⟩ := post_ofO h
  exact ⟨ds, tupleD_some e, q⟩)
@[simp] def xItS (xa : XE) : XA := fun ρ => (xa ρ).bind fun d => (ofO (strD d)).bind fun x => .ok (signs x)
theorem k_itS (ha : RfE R xa wa) : RfA R (xItS xa) (wItS wa) := fun ρ c Q h => ha ρ c _ (post_bm h fun d h => by
  obtain ⟨x, e, q⟩ := post_ofO (post_bind h)
  exact ⟨x, strD_some e, q⟩)
@[simp] def xRng (xa : XE) : XA := fun ρ => (xa ρ).bind fun d => (ofO (iD d)).bind fun n => guard (-(2 ^ 62) ≤ n ∧ n < 2 ^ 62) (.ok (rngD 0 n.toNat))
theorem k_rng (ha : RfE R xa wa) : RfA R (xRng xa) (wRng wa) := fun ρ c Q h => ha ρ c _ (post_bm h fun d h => by
  obtain ⟨n, e, h⟩ := post_ofO (post_bind h)
  obtain ⟨⟨g1, g2⟩, q⟩ := post_guard h
  exact ⟨n, iD_some e, g1, g2, q⟩)
@[simp] def xRng2 (xa xb : XE) : XA := fun ρ => (xa ρ).bind fun d => (xb ρ).bind fun d2 => (ofO (iD d)).bind fun i => (ofO (iD d2)).bind fun n => guard (-(2 ^ 62) ≤ i ∧ i < 2 ^ 62 ∧ -(2 ^ 62) ≤ n ∧ n < 2 ^ 62) (.ok (rngD i (n - i).toNat))
theorem k_rng2 (ha : RfE R xa wa) (hb : RfE R xb wb) : RfA R (xRng2 xa xb) (wRng2 wa wb) := fun ρ c Q h => ha ρ c _ (post_bm h fun d h => hb ρ c _ (post_bm h fun d2 h => by
  obtain ⟨i, e, h⟩ := post_ofO (post_bind h)
  obtain ⟨n, e2, h⟩ := post_ofO (post_bind h)
  obtain ⟨g, q⟩ := post_guard h
  exact ⟨i, n, iD_some e, iD_some e2, g, q⟩))
@[simp] def xEnT (xa : XE) : XA := fun ρ => (xa ρ).bind fun d => (ofO (tupleD d)).bind fun ds => .ok (enumD ds)
theorem k_enT (ha : RfE R xa wa) : RfA R (xEnT xa) (wEnT wa) := fun ρ c Q h => ha ρ c _ (post_bm h fun d h => by
  obtain ⟨ds, e, q⟩ := post_ofO (post_bind h)
  exact ⟨ds, tupleD_some e, q⟩)
end
/-! comprehensions -/
section
variable {R : RR} {xi xi1 : XA} {wi wi1 : WA} {xt xt1 : XT} {wt wt1 : WT} {xe xk : XE} {we wk : WE}
@[simp] def xYes : XT := fun _ => .ok true
theorem k_yes : RfT R xYes wYes := fun _ _ _ h => h
@[simp] def xlc (xt : XT) (xe : XE) (ρ : List En) (j : Nat) : List D → Rs (List D)
  | [] => .ok []
  | d :: r => (xt (ρ.set j (.im d))).calm.bind fun b => if b = true then (xe (ρ.set j (.im d))).calm.bind fun y => (xlc xt xe ρ j r).bind fun ys => .ok (y :: ys) else xlc xt xe ρ j r
theorem lc_in (ht : RfT R xt wt) (he : RfE R xe we) (ρ : List En) (j c : Nat) (E : Xd → Prop) : ∀ (ds acc : List D) (Q : List D → Nat → Prop), (xlc xt xe ρ j ds).post (fun ys => Q (acc ++ ys) c) E → lcIn wt we ρ j ds acc c Q
  | [], acc, Q, h => by simpa [lcIn] using (show Q (acc ++ []) c from h)
  | d :: r, acc, Q, h => ht _ c _ (post_calm (post_bm h fun b h => by
    cases b with
    | true =>
      refine iteT (he _ c _ (post_calm (post_bm h fun y h => lc_in ht he ρ j c E r (acc ++ [y]) Q ?_)))
      exact post_bm h fun ys h => by simpa using (show Q (acc ++ y :: ys) c from h)
    | false => exact iteF (lc_in ht he ρ j c E r acc Q h)))
theorem lc_go (ht : RfT R xt wt) (he : RfE R xe we) (ρ : List En) (j c : Nat) (E : Xd → Prop) : ∀ (ds acc : List D) (Q : D → Nat → Prop), (xlc xt xe ρ j ds).post (fun ys => Q (.list (acc ++ ys)) c) E → lcGo wt we ρ j ds acc c Q
  | [], acc, Q, h => by simpa [lcGo] using (show Q (.list (acc ++ [])) c from h)
  | d :: r, acc, Q, h => ht _ c _ (post_calm (post_bm h fun b h => by
    cases b with
    | true =>
      refine iteT (he _ c _ (post_calm (post_bm h fun y h => lc_go ht he ρ j c E r (acc ++ [y]) Q ?_)))
      exact post_bm h fun ys h => by simpa using (show Q (.list (acc ++ y :: ys)) c from h)
    | false => exact iteF (lc_go ht he ρ j c E r acc Q h)))
theorem lc_goN (ht : RfT R xt wt) (he : RfE R xe we) (ρ : List En) (j c : Nat) (E : Xd → Prop) : ∀ (ds acc : List D) (Q : En → Nat → Prop), (xlc xt xe ρ j ds).post (fun ys => Q (.ls (acc ++ ys)) c) E → lcGoN wt we ρ j ds acc c Q
  | [], acc, Q, h => by simpa [lcGoN] using (show Q (.ls (acc ++ [])) c from h)
  | d :: r, acc, Q, h => ht _ c _ (post_calm (post_bm h fun b h => by
    cases b with
    | true =>
      refine iteT (he _ c _ (post_calm (post_bm h fun y h => lc_goN ht he ρ j c E r (acc ++ [y]) Q ?_)))
      exact post_bm h fun ys h => by simpa using (show Q (.ls (acc ++ y :: ys)) c from h)
    | false => exact iteF (lc_goN ht he ρ j c E r acc Q h)))
@[simp] def xLc (xi : XA) (xt : XT) (xe : XE) (j : Nat) (vs : List Nat) : XE := fun ρ => (xi ρ).bind fun ds => guard (ds.length ≤ 16000000) ((xlc xt xe (wipeE ρ vs) j ds).bind fun ys => .ok (.list ys))
theorem k_lc {j : Nat} {vs : List Nat} (hi : RfA R xi wi) (ht : RfT R xt wt) (he : RfE R xe we) : RfE R (xLc xi xt xe j vs) (wLc wi wt we j vs) := fun ρ c Q h => hi ρ c _ (post_bm h fun ds h => by
  obtain ⟨g, h⟩ := post_guard h
  exact ⟨g, lc_go ht he _ j c _ ds [] Q (post_bm h fun ys h => h)⟩)
@[simp] def xnLc (xi : XA) (xt : XT) (xe : XE) (j : Nat) (vs : List Nat) : XN := fun ρ => (xi ρ).bind fun ds => guard (ds.length ≤ 16000000) ((xlc xt xe (wipeE ρ vs) j ds).bind fun ys => .ok (.ls ys))
theorem k_nlc {j : Nat} {vs : List Nat} (hi : RfA R xi wi) (ht : RfT R xt wt) (he : RfE R xe we) : RfN R (xnLc xi xt xe j vs) (nLc wi wt we j vs) := fun ρ c Q h => hi ρ c _ (post_bm h fun ds h => by
  obtain ⟨g, h⟩ := post_guard h
  exact ⟨g, lc_goN ht he _ j c _ ds [] Q (post_bm h fun ys h => h)⟩)
@[simp] def xlc2 (xt : XT) (xi1 : XA) (xt1 : XT) (xe : XE) (ρ : List En) (j j1 : Nat) : List D → List D → Rs (List D)
  | [], acc => .ok acc
  | d :: r, acc => (xt (ρ.set j (.im d))).calm.bind fun b => if b = true then (xi1 (ρ.set j (.im d))).calm.bind fun ds => guard (acc.length + ds.length ≤ 16000000) ((xlc xt1 xe (wipeE (ρ.set j (.im d)) [j1]) j1 ds).bind fun ys => xlc2 xt xi1 xt1 xe ρ j j1 r (acc ++ ys)) else xlc2 xt xi1 xt1 xe ρ j j1 r acc
theorem lc_go2 (ht : RfT R xt wt) (hi1 : RfA R xi1 wi1) (ht1 : RfT R xt1 wt1) (he : RfE R xe we) (ρ : List En) (j j1 c : Nat) (E : Xd → Prop) : ∀ (ds acc : List D) (Q : D → Nat → Prop), (xlc2 xt xi1 xt1 xe ρ j j1 ds acc).post (fun ys => Q (.list ys) c) E → lcGo2 wt wi1 wt1 we ρ j j1 ds acc c Q
  | [], acc, Q, h => by simpa [lcGo2] using (show Q (.list acc) c from h)
  | d :: r, acc, Q, h => ht _ c _ (post_calm (post_bm h fun b h => by
    cases b with
    | true =>
      refine iteT (hi1 _ c _ (post_calm (post_bm h fun ds h => ?_)))
      obtain ⟨g, h⟩ := post_guard h
      exact ⟨g, lc_in ht1 he _ j1 c E ds acc _ (post_bm h fun ys h => lc_go2 ht hi1 ht1 he ρ j j1 c E r (acc ++ ys) Q h)⟩
    | false => exact iteF (lc_go2 ht hi1 ht1 he ρ j j1 c E r acc Q h)))
@[simp] def xLc2 (xi : XA) (xt : XT) (xi1 : XA) (xt1 : XT) (xe : XE) (j j1 : Nat) (vs : List Nat) : XE := fun ρ => (xi ρ).bind fun ds => (xlc2 xt xi1 xt1 xe (wipeE ρ vs) j j1 ds []).bind fun ys => .ok (.list ys)
theorem k_lc2 {j j1 : Nat} {vs : List Nat} (hi : RfA R xi wi) (ht : RfT R xt wt) (hi1 : RfA R xi1 wi1) (ht1 : RfT R xt1 wt1) (he : RfE R xe we) : RfE R (xLc2 xi xt xi1 xt1 xe j j1 vs) (wLc2 wi wt wi1 wt1 we j j1 vs) :=
  fun ρ c Q h => hi ρ c _ (post_bm h fun ds h => lc_go2 ht hi1 ht1 he _ j j1 c _ ds [] Q (post_bm h fun ys h => h))
/-- a, b, .. = the items -/
def gTx : List Nat → List D → List En → Option (List En)
  | [], [], ρ => some ρ
  | i :: is, d :: ds, ρ => gTx is ds (ρ.set i (.im d))
  | _, _, _ => none
theorem gTx_ok : ∀ {is : List Nat} {ds : List D} {ρ ρ' : List En} {Q : List En → Prop}, gTx is ds ρ = some ρ' → Q ρ' → gTs is ds ρ Q
  | [], [], _, _, _, e, q => by cases e; simpa only [gTs] using q
  | _ :: _, _ :: _, _, _, _, e, q => by simpa only [gTs] using gTx_ok (by simpa only [gTx] using e) q
  | [], _ :: _, _, _, _, e, _ => by simp only [gTx, reduceCtorEq] at e
  | _ :: _, [], _, _, _, e, _ => by simp only [gTx, reduceCtorEq] at e
@[simp] def xlcT (xt : XT) (xe : XE) (ρ : List En) (js : List Nat) : List D → Rs (List D)
  | [] => .ok []
  | d :: r => (ofO ((tupleD d).bind fun ds => gTx js ds ρ)).bind fun ρ' => (xt ρ').calm.bind fun b => if b = true then (xe ρ').calm.bind fun y => (xlcT xt xe ρ js r).bind fun ys => .ok (y :: ys) else xlcT xt xe ρ js r
theorem lc_goT (ht : RfT R xt wt) (he : RfE R xe we) (ρ : List En) (js : List Nat) (c : Nat) (E : Xd → Prop) : ∀ (ds acc : List D) (Q : D → Nat → Prop), (xlcT xt xe ρ js ds).post (fun ys => Q (.list (acc ++ ys)) c) E → lcGoT wt we ρ js ds acc c Q
  | [], acc, Q, h => by simpa [lcGoT] using (show Q (.list (acc ++ [])) c from h)
  | d :: r, acc, Q, h => by
    obtain ⟨ρ', e, h⟩ := post_ofO (post_bind h)
    cases ed : tupleD d with
    | none => rw [ed] at e; cases e
    | some ds =>
      rw [ed] at e
      refine ⟨ds, tupleD_some ed, gTx_ok e (ht _ c _ (post_calm (post_bm h fun b h => ?_)))⟩
      cases b with
      | true =>
        refine iteT (he _ c _ (post_calm (post_bm h fun y h => lc_goT ht he ρ js c E r (acc ++ [y]) Q ?_)))
        exact post_bm h fun ys h => by simpa using (show Q (.list (acc ++ y :: ys)) c from h)
      | false => exact iteF (lc_goT ht he ρ js c E r acc Q h)
@[simp] def xLcT (xi : XA) (xt : XT) (xe : XE) (js vs : List Nat) : XE := fun ρ => (xi ρ).bind fun ds => guard (ds.length ≤ 16000000) ((xlcT xt xe (wipeE ρ vs) js ds).bind fun ys => .ok (.list ys))
theorem k_lcT {js vs : List Nat} (hi : RfA R xi wi) (ht : RfT R xt wt) (he : RfE R xe we) : RfE R (xLcT xi xt xe js vs) (wLcT wi wt we js vs) := fun ρ c Q h => hi ρ c _ (post_bm h fun ds h => by
  obtain ⟨g, h⟩ := post_guard h
  exact ⟨g, lc_goT ht he _ js c _ ds [] Q (post_bm h fun ys h => h)⟩)
@[simp] def xdc (xt : XT) (xk xe : XE) (ρ : List En) (j : Nat) : List D → List (D × D) → Rs (List (D × D))
  | [], acc => .ok acc
  | d :: r, acc => (xt (ρ.set j (.im d))).calm.bind fun b => if b = true then (xk (ρ.set j (.im d))).calm.bind fun y => (xe (ρ.set j (.im d))).calm.bind fun z => (ofO (keyOf y)).bind fun k => xdc xt xk xe ρ j r (putD' acc k z) else xdc xt xk xe ρ j r acc
theorem dc_go (ht : RfT R xt wt) (hk : RfE R xk wk) (he : RfE R xe we) (ρ : List En) (j c : Nat) (E : Xd → Prop) : ∀ (ds : List D) (acc : List (D × D)) (Q : List (D × D) → Nat → Prop), (xdc xt xk xe ρ j ds acc).post (fun ys => Q ys c) E → dcGo wt wk we ρ j ds acc c Q
  | [], acc, Q, h => h
  | d :: r, acc, Q, h => ht _ c _ (post_calm (post_bm h fun b h => by
    cases b with
    | true =>
      refine iteT (hk _ c _ (post_calm (post_bm h fun y h => he _ c _ (post_calm (post_bm h fun z h => ?_)))))
      obtain ⟨k, e, h⟩ := post_ofO (post_bind h)
      exact ⟨k, e, dc_go ht hk he ρ j c E r _ Q h⟩
    | false => exact iteF (dc_go ht hk he ρ j c E r acc Q h)))
@[simp] def xDc (xi : XA) (xt : XT) (xk xe : XE) (j : Nat) (vs : List Nat) : XE := fun ρ => (xi ρ).bind fun ds => guard (ds.length ≤ 16000000) ((xdc xt xk xe (wipeE ρ vs) j ds []).bind fun ys => .ok (.dict ys))
theorem k_dc {j : Nat} {vs : List Nat} (hi : RfA R xi wi) (ht : RfT R xt wt) (hk : RfE R xk wk) (he : RfE R xe we) : RfE R (xDc xi xt xk xe j vs) (wDc wi wt wk we j vs) := fun ρ c Q h => hi ρ c _ (post_bm h fun ds h => by
  obtain ⟨g, h⟩ := post_guard h
  exact ⟨g, dc_go ht hk he _ j c _ ds [] _ (post_bm h fun ys h => h)⟩)
@[simp] def xnDc (xi : XA) (xt : XT) (xk xe : XE) (j : Nat) (vs : List Nat) : XN := fun ρ => (xi ρ).bind fun ds => guard (ds.length ≤ 16000000) ((xdc xt xk xe (wipeE ρ vs) j ds []).bind fun ys => .ok (.dc ys))
theorem k_ndc {j : Nat} {vs : List Nat} (hi : RfA R xi wi) (ht : RfT R xt wt) (hk : RfE R xk wk) (he : RfE R xe we) : RfN R (xnDc xi xt xk xe j vs) (nDcC wi wt wk we j vs) := fun ρ c Q h => hi ρ c _ (post_bm h fun ds h => by
  obtain ⟨g, h⟩ := post_guard h
  exact ⟨g, dc_go ht hk he _ j c _ ds [] _ (post_bm h fun ys h => h)⟩)
end
end HW

/-! X2: calls and statements that are run -/
namespace HW
open PySem L2 Rs
abbrev XFn := List En → Rs D
def RfF (x : XFn) (f : FW) : Prop := ∀ es c Q, (x es).post (fun d => Q d c) (fun _ => False) → f es c Q
def RfX (x : XFn) (f : XR → FW) : Prop := ∀ es c Q R, (x es).post (fun d => Q d c) (fun e => R e c) → f R es c Q
theorem RfX.calm {x : XFn} {f : XR → FW} (h : RfX x f) : RfF x (f noX) := fun es c Q q => h es c Q noX q
section
variable {R : RR} {xa xb : XE} {wa wb : WE} {xg : XG} {wg : WG} {x : XFn} {f : FW} {fx : XR → FW} {xt : XT} {wt : WT}
@[simp] def xgNil : XG := fun _ => .ok []
theorem k_gnil : RfG R xgNil HW.gNil := fun _ _ _ h => h
@[simp] def xgIm (xa : XE) (xg : XG) : XG := fun ρ => (xa ρ).bind fun d => (xg ρ).bind fun es => .ok (.im d :: es)
theorem k_gim (ha : RfE R xa wa) (hg : RfG R xg wg) : RfG R (xgIm xa xg) (gIm wa wg) := fun ρ c Q h => ha ρ c _ (post_bm h fun d h => hg ρ c _ (post_bm h fun es h => h))
def lsE : En → Option (List D)
  | .ls ds => some ds
  | _ => none
theorem lsE_some {o : Option En} {ds : List D} (h : o.bind lsE = some ds) : o = some (.ls ds) := by
  cases o with
  | none => cases h
  | some e => cases e <;> simp only [Option.bind_some, lsE, reduceCtorEq, Option.some.injEq] at h; rw [h]
def dcE : En → Option (List (D × D))
  | .dc ds => some ds
  | _ => none
theorem dcE_some {o : Option En} {ds : List (D × D)} (h : o.bind dcE = some ds) : o = some (.dc ds) := by
  cases o with
  | none => cases h
  | some e => cases e <;> simp only [Option.bind_some, dcE, reduceCtorEq, Option.some.injEq] at h; rw [h]
def dlE : En → Option (List (D × List D))
  | .dl ds => some ds
  | _ => none
theorem dlE_some {o : Option En} {ds : List (D × List D)} (h : o.bind dlE = some ds) : o = some (.dl ds) := by
  cases o with
  | none => cases h
  | some e => cases e <;> simp only [Option.bind_some, dlE, reduceCtorEq, Option.some.injEq] at h; rw [h]
@[simp] def xgLs (i : Nat) (xg : XG) : XG := fun ρ => (ofO (ρ[i]?.bind lsE)).bind fun ds => (xg ρ).bind fun es => .ok (.im (.list ds) :: es)
theorem k_gls {i : Nat} (hg : RfG R xg wg) : RfG R (xgLs i xg) (gLs i wg) := fun ρ c Q h => by
  obtain ⟨ds, e, h⟩ := post_ofO (post_bind h)
  exact ⟨ds, lsE_some e, hg ρ c _ (post_bm h fun es h => h)⟩
@[simp] def xCall (x : XFn) (xg : XG) : XE := fun ρ => (xg ρ).bind fun es => (x es).calm
theorem k_call (hf : RfF x f) (hg : RfG R xg wg) : RfE R (xCall x xg) (wCall f wg) := fun ρ c Q h => hg ρ c _ (post_bm h fun es h => hf es c Q (post_calm h))
@[simp] def xCallF (x : XFn) (xg : XG) : XE := fun ρ => (xg ρ).bind fun es => (x es).calm.bind fun d => guard (flatD d = true) (.ok d)
theorem k_callF (hf : RfF x f) (hg : RfG R xg wg) : RfE R (xCallF x xg) (wCallF f wg) := fun ρ c Q h => hg ρ c _ (post_bm h fun es h => hf es c _ (post_calm (post_bm h fun d h => post_guard h)))
@[simp] def xCallX (x : XFn) (xg : XG) : XE := fun ρ => (xg ρ).bind fun es => x es
theorem k_callX (hf : RfX x fx) (hg : RfG R xg wg) : RfE R (xCallX x xg) (wCallX fx R wg) := fun ρ c Q h => hg ρ c _ (post_bm h fun es h => hf es c Q _ h)
/-! statements -/
inductive Fl where
  | nx (ρ : List En)
  | rt (d : D)
  | bk (ρ : List En)
  | ct (ρ : List En)
  | xx (x : Xd) (ρ : List En)
def Fl.go (R : RR) (dd : Dd) (c : Nat) : Fl → Prop
  | .nx ρ => dd.nx ρ c
  | .rt d => dd.rt d c
  | .bk ρ => dd.bk ρ c
  | .ct ρ => dd.ct ρ c
  | .xx x ρ => R x ρ c
abbrev XS := List En → Rs Fl
def RfS (R : RR) (x : XS) (w : WS) : Prop := ∀ dd ρ c, (x ρ).post (fun f => f.go R dd c) (fun _ => False) → w dd ρ c
def lift {α : Type} (r : Rs α) (ρ : List En) (f : α → Rs Fl) : Rs Fl := match r with
  | .bad => .bad
  | .ok a => f a
  | .ex x => .ok (.xx x ρ)
theorem post_lift {α : Type} {r : Rs α} {ρ : List En} {f : α → Rs Fl} {Q : Fl → Prop} {E : Xd → Prop} {Q' : α → Prop} {E' : Xd → Prop} (h : (lift r ρ f).post Q E) (k : ∀ a, (f a).post Q E → Q' a) (kx : ∀ x, Q (.xx x ρ) → E' x) : r.post Q' E' := by
  cases r with
  | bad => exact h
  | ok a => exact k a h
  | ex x => exact kx x h
variable {xs xr : XS} {ws wr : WS}
@[simp] def xSeq (xs xr : XS) : XS := fun ρ => (xs ρ).bind fun f => match f with
  | .nx ρ' => xr ρ'
  | f => .ok f
theorem k_seq (hs : RfS R xs ws) (hr : RfS R xr wr) : RfS R (xSeq xs xr) (wSeq ws wr) := fun dd ρ c h => hs _ ρ c (post_bm h fun f h => by
  cases f with
  | nx ρ' => exact hr dd ρ' c h
  | rt d => exact h
  | bk ρ' => exact h
  | ct ρ' => exact h
  | xx x ρ' => exact h)
@[simp] def xNext : XS := fun ρ => .ok (.nx ρ)
theorem k_next : RfS R xNext wNext := fun _ _ _ h => h
theorem k_pass : RfS R xNext wPass := fun _ _ _ h => h
@[simp] def xBrk : XS := fun ρ => .ok (.bk ρ)
theorem k_brk : RfS R xBrk wBrk := fun _ _ _ h => h
@[simp] def xCnt : XS := fun ρ => .ok (.ct ρ)
theorem k_cnt : RfS R xCnt wCnt := fun _ _ _ h => h
@[simp] def xNev : XS := fun _ => .bad
theorem k_nev : RfS R xNev wNev := fun _ _ _ h => h
@[simp] def xRet (xa : XE) : XS := fun ρ => lift (xa ρ) ρ fun d => .ok (.rt d)
theorem k_ret (ha : RfE R xa wa) : RfS R (xRet xa) (wRet wa) := fun dd ρ c h => ha ρ c _ (post_lift h (fun d h => h) fun x h => h)
@[simp] def xRetN : XS := fun _ => .ok (.rt .none)
theorem k_retN : RfS R xRetN wRetN := fun _ _ _ h => h
@[simp] def xRetO (i : Nat) : XS := fun ρ => (ofO (ρ[i]?.bind En.look)).bind fun d => .ok (.rt d)
theorem k_retO {i : Nat} : RfS R (xRetO i) (wRetO i) := fun dd ρ c h => by
  obtain ⟨d, e, q⟩ := post_ofO (post_bind h)
  cases z : ρ[i]? with
  | none => rw [z] at e; cases e
  | some en => rw [z] at e; exact ⟨en, d, z, e, q⟩
@[simp] def xRetDl (i : Nat) : XS := fun ρ => (ofO (ρ[i]?.bind dlE)).bind fun ds => .ok (.rt (.dict (ds.map fun p => (p.1, .list p.2))))
theorem k_retDl {i : Nat} : RfS R (xRetDl i) (wRetDl i) := fun dd ρ c h => by
  obtain ⟨ds, e, q⟩ := post_ofO (post_bind h)
  exact ⟨ds, dlE_some e, q⟩
@[simp] def xDrop (xa : XE) : XS := fun ρ => lift (xa ρ) ρ fun _ => .ok (.nx ρ)
theorem k_drop (ha : RfE R xa wa) : RfS R (xDrop xa) (wDrop wa) := fun dd ρ c h => ha ρ c _ (post_lift h (fun d h => h) fun x h => h)
@[simp] def xSet (i : Nat) (xa : XE) : XS := fun ρ => lift (xa ρ) ρ fun d => .ok (.nx (ρ.set i (.im d)))
theorem k_set {i : Nat} (ha : RfE R xa wa) : RfS R (xSet i xa) (wSet i wa) := fun dd ρ c h => ha ρ c _ (post_lift h (fun d h => h) fun x h => h)
@[simp] def xIf (xt : XT) (xs xr : XS) : XS := fun ρ => lift (xt ρ) ρ fun b => if b = true then xs ρ else xr ρ
theorem k_ifS (ht : RfT R xt wt) (hs : RfS R xs ws) (hr : RfS R xr wr) : RfS R (xIf xt xs xr) (wIf wt ws wr) := fun dd ρ c h => ht ρ c _ (post_lift h (fun b h => by
  cases b with
  | true => exact hs dd ρ c h
  | false => exact hr dd ρ c h) fun x h => h)
/-! targets -/
abbrev XTg := D → List En → Option (List En)
def RfTg (x : XTg) (w : WGt) : Prop := ∀ d ρ ρ' Q, x d ρ = some ρ' → Q ρ' → w d ρ Q
@[simp] def xgN (i : Nat) : XTg := fun d ρ => some (ρ.set i (.im d))
theorem k_gN {i : Nat} : RfTg (xgN i) (gN i) := fun d ρ ρ' Q e q => by cases e; exact q
@[simp] def xgT (is : List Nat) : XTg := fun d ρ => (tupleD d).bind fun ds => gTx is ds ρ
theorem k_gT {is : List Nat} : RfTg (xgT is) (gT is) := fun d ρ ρ' Q e q => by
  cases ed : tupleD d with
  | none => rw [xgT, ed] at e; cases e
  | some ds => rw [xgT, ed] at e; exact ⟨ds, tupleD_some ed, gTx_ok e q⟩
variable {xtg : XTg} {wtg : WGt} {xi : XA} {wi : WA}
@[simp] def xAsg (xa : XE) (tg : XTg) : XS := fun ρ => lift (xa ρ) ρ fun d => (ofO (tg d ρ)).bind fun ρ' => .ok (.nx ρ')
theorem k_asg (ha : RfE R xa wa) (ht : RfTg xtg wtg) : RfS R (xAsg xa xtg) (wAsg wa wtg) := fun dd ρ c h => ha ρ c _ (post_lift h (fun d h => by
  obtain ⟨ρ', e, q⟩ := post_ofO (post_bind h)
  exact ht d ρ ρ' _ e q) fun x h => h)
/-! loops -/
@[simp] def xfor (tg : XTg) (xs : XS) : List D → List En → Rs Fl
  | [], ρ => .ok (.nx ρ)
  | d :: r, ρ => (ofO (tg d ρ)).bind fun ρ' => (xs ρ').bind fun f => match f with
    | .nx ρ2 => xfor tg xs r ρ2
    | .ct ρ2 => xfor tg xs r ρ2
    | .bk ρ2 => .ok (.nx ρ2)
    | .rt d => .ok (.rt d)
    | .xx x ρ2 => .ok (.xx x ρ2)
theorem for_go (ht : RfTg xtg wtg) (hs : RfS R xs ws) (c : Nat) : ∀ (ds : List D) (dd : Dd) (ρ : List En), (xfor xtg xs ds ρ).post (fun f => f.go R dd c) (fun _ => False) → forGo wtg ws ds dd ρ c
  | [], dd, ρ, h => h
  | d :: r, dd, ρ, h => by
    obtain ⟨ρ', e, h⟩ := post_ofO (post_bind h)
    refine ht d ρ ρ' _ e (hs _ ρ' c (post_bm h fun f h => ?_))
    cases f with
    | nx ρ2 => exact for_go ht hs c r dd ρ2 h
    | ct ρ2 => exact for_go ht hs c r dd ρ2 h
    | bk ρ2 => exact h
    | rt d => exact h
    | xx x ρ2 => exact h
@[simp] def xFor (xi : XA) (tg : XTg) (xs : XS) : XS := fun ρ => lift (xi ρ) ρ fun ds => xfor tg xs ds ρ
theorem k_for (hi : RfA R xi wi) (ht : RfTg xtg wtg) (hs : RfS R xs ws) : RfS R (xFor xi xtg xs) (wFor wi wtg ws) := fun dd ρ c h => hi ρ c _ (post_lift h (fun ds h => for_go ht hs c ds dd ρ h) fun x h => h)
def xwh (xt : XT) (xs : XS) : Nat → List En → Rs Fl
  | 0, _ => .bad
  | n + 1, ρ => lift (xt ρ) ρ fun b => if b = true then (xs ρ).bind fun f => match f with
    | .nx ρ2 => xwh xt xs n ρ2
    | .ct ρ2 => xwh xt xs n ρ2
    | .bk ρ2 => .ok (.nx ρ2)
    | .rt d => .ok (.rt d)
    | .xx x ρ2 => .ok (.xx x ρ2)
    else .ok (.nx ρ)
def xWhile (xt : XT) (xs : XS) : XS := fun ρ => xwh xt xs 1000000000 ρ
theorem k_while (ht : RfT R xt wt) (hs : RfS R xs ws) : RfS R (xWhile xt xs) (wWhile wt ws) := fun dd ρ0 c0 h => by
  refine ⟨fun n ρ c => c = c0 ∧ (xwh xt xs n ρ).post (fun f => f.go R dd c0) (fun _ => False), ⟨_, rfl, h⟩, ?_⟩
  rintro n ρ c ⟨rfl, h⟩
  cases n with
  | zero => exact h.elim
  | succ n =>
    refine ht ρ c _ (post_lift h (fun b h => ?_) fun x h => h)
    cases b with
    | true =>
      refine iteT (hs _ ρ c (post_bm h fun f h => ?_))
      cases f with
      | nx ρ2 => exact ⟨n, Nat.lt_succ_self n, rfl, h⟩
      | ct ρ2 => exact ⟨n, Nat.lt_succ_self n, rfl, h⟩
      | bk ρ2 => exact h
      | rt d => exact h
      | xx x ρ2 => exact h
    | false => exact h
/-! own objects -/
variable {xn : XN} {wn : WN} {xA : XA} {wA : WA} {xl xh : XO} {wl wh : WO}
@[simp] def xOwn (i : Nat) (xn : XN) : XS := fun ρ => lift (xn ρ) ρ fun en => .ok (.nx (ρ.set i en))
theorem k_own {i : Nat} (hn : RfN R xn wn) : RfS R (xOwn i xn) (wOwn i wn) := fun dd ρ c h => hn ρ c _ (post_lift h (fun en h => h) fun x h => h)
@[simp] def xParN (i j : Nat) (xa : XE) (xn : XN) : XS := fun ρ => lift (xa ρ) ρ fun d => lift (xn ρ) ρ fun en => .ok (.nx ((ρ.set i (.im d)).set j en))
theorem k_parN {i j : Nat} (ha : RfE R xa wa) (hn : RfN R xn wn) : RfS R (xParN i j xa xn) (wParN i j wa wn) := fun dd ρ c h => ha ρ c _ (post_lift h (fun d h => hn ρ c _ (post_lift h (fun en h => h) fun x h => h)) fun x h => h)
@[simp] def xPar (i j : Nat) (xa xb : XE) : XS := fun ρ => lift (xa ρ) ρ fun d => lift (xb ρ) ρ fun d2 => .ok (.nx ((ρ.set i (.im d)).set j (.im d2)))
theorem k_par {i j : Nat} (ha : RfE R xa wa) (hb : RfE R xb wb) : RfS R (xPar i j xa xb) (wPar i j wa wb) := fun dd ρ c h => ha ρ c _ (post_lift h (fun d h => hb ρ c _ (post_lift h (fun d2 h => h) fun x h => h)) fun x h => h)
@[simp] def xnLst (xA : XA) : XN := fun ρ => (xA ρ).bind fun ds => guard (ds.length ≤ LIM) (.ok (.ls ds))
theorem k_nlst (hA : RfA R xA wA) : RfN R (xnLst xA) (nLst wA) := fun ρ c Q h => hA ρ c _ (post_bm h fun ds h => post_guard h)
@[simp] def xnList (xa : XE) : XN := fun ρ => (xa ρ).bind fun d => (ofO (itD d)).bind fun ds => .ok (.ls ds)
theorem k_nlist (ha : RfE R xa wa) : RfN R (xnList xa) (nList wa) := fun ρ c Q h => ha ρ c _ (post_bm h fun d h => by
  obtain ⟨ds, e, q⟩ := post_ofO (post_bind h)
  exact ⟨ds, e, q⟩)
@[simp] def xnDc0 : XN := fun _ => .ok (.dc [])
theorem k_ndc0 : RfN R xnDc0 nDc := fun _ _ _ h => h
@[simp] def xnDl0 : XN := fun _ => .ok (.dl [])
theorem k_ndl0 : RfN R xnDl0 nDl := fun _ _ _ h => h
@[simp] def xnSl (xa : XE) (xl xh : XO) : XN := fun ρ => (xa ρ).bind fun x => (xl ρ).bind fun l => (xh ρ).bind fun u => (ofO (listD x)).bind fun xs => .ok (.ls (cutL xs l u))
theorem k_nsl (ha : RfE R xa wa) (hl : RfO R xl wl) (hh : RfO R xh wh) : RfN R (xnSl xa xl xh) (nSl wa wl wh) := fun ρ c Q h => ha ρ c _ (post_bm h fun x h => hl ρ c _ (post_bm h fun l h => hh ρ c _ (post_bm h fun u h => by
  obtain ⟨xs, e, q⟩ := post_ofO (post_bind h)
  exact ⟨xs, listD_some e, q⟩)))
@[simp] def xApp (i : Nat) (xa : XE) : XS := fun ρ => (ofO (ρ[i]?.bind lsE)).bind fun ds => lift (xa ρ) ρ fun d => guard (ds.length < LIM) (.ok (.nx (ρ.set i (.ls (ds ++ [d])))))
theorem k_app {i : Nat} (ha : RfE R xa wa) : RfS R (xApp i xa) (fun dd ρ c => (∃ ds, ρ[i]? = some (.ls ds)) ∧ wApp i wa dd ρ c) := fun dd ρ c h => by
  obtain ⟨ds, e, h⟩ := post_ofO (post_bind h)
  refine ⟨⟨ds, lsE_some e⟩, ha ρ c _ (post_lift h (fun d h => ?_) fun x h => h)⟩
  obtain ⟨g, q⟩ := post_guard h
  exact ⟨ds, lsE_some e, g, q⟩
@[simp] def xSetIx (i : Nat) (xa xb : XE) : XS := fun ρ => lift (xa ρ) ρ fun d => (ofO (ρ[i]?.bind lsE)).bind fun ds => lift (xb ρ) ρ fun y => (ofO (iD y)).bind fun z => (ofO (ixN ds.length z)).bind fun j => .ok (.nx (ρ.set i (.ls (ds.set j d))))
theorem k_setIx {i : Nat} (ha : RfE R xa wa) (hb : RfE R xb wb) : RfS R (xSetIx i xa xb) (wSetIx i wa wb) := fun dd ρ c h => ha ρ c _ (post_lift h (fun d h => by
  obtain ⟨ds, e, h⟩ := post_ofO (post_bind h)
  refine ⟨⟨ds, lsE_some e⟩, hb ρ c _ (post_lift h (fun y h => ?_) fun x h => h)⟩
  obtain ⟨z, e2, h⟩ := post_ofO (post_bind h)
  obtain ⟨j, e3, q⟩ := post_ofO (post_bind h)
  exact ⟨ds, z, j, lsE_some e, iD_some e2, e3, q⟩) fun x h => h)
@[simp] def xDput (i : Nat) (xa xb : XE) : XS := fun ρ => lift (xa ρ) ρ fun d => (ofO (ρ[i]?.bind dcE)).bind fun kvs => lift (xb ρ) ρ fun y => (ofO (keyOf y)).bind fun k => guard (kvs.length < LIM) (.ok (.nx (ρ.set i (.dc (putD' kvs k d)))))
theorem k_dput {i : Nat} (ha : RfE R xa wa) (hb : RfE R xb wb) : RfS R (xDput i xa xb) (wDput i wa wb) := fun dd ρ c h => ha ρ c _ (post_lift h (fun d h => by
  obtain ⟨ds, e, h⟩ := post_ofO (post_bind h)
  refine ⟨⟨ds, dcE_some e⟩, hb ρ c _ (post_lift h (fun y h => ?_) fun x h => h)⟩
  obtain ⟨k, e2, h⟩ := post_ofO (post_bind h)
  obtain ⟨g, q⟩ := post_guard h
  exact ⟨ds, k, dcE_some e, e2, g, q⟩) fun x h => h)
@[simp] def xSdApp (i : Nat) (xb xa : XE) : XS := fun ρ => (ofO (ρ[i]?.bind dlE)).bind fun ds => lift (xb ρ) ρ fun y => (ofO (keyOf y)).bind fun k => guard (ds.length < LIM) (lift (xa (ρ.set i (.dl (insL ds k)))) ρ fun d =>
  guard ((lookK (insL ds k) k).all (fun l => decide (l.length < LIM)) = true) (.ok (.nx (ρ.set i (.dl (appL (insL ds k) k d))))))
theorem k_sdApp {i : Nat} (hb : RfE R xb wb) (ha : RfE (noR) xa wa) : RfS R (xSdApp i xb (fun ρ => (xa ρ).calm)) (wSdApp i wb wa) := fun dd ρ c h => by
  obtain ⟨ds, e, h⟩ := post_ofO (post_bind h)
  refine ⟨⟨ds, dlE_some e⟩, hb ρ c _ (post_lift h (fun y h => ?_) fun x h => h)⟩
  obtain ⟨k, e2, h⟩ := post_ofO (post_bind h)
  obtain ⟨g, h⟩ := post_guard h
  refine ⟨ds, k, dlE_some e, e2, g, ha _ c _ (post_calm (post_lift h (fun d h => ?_) fun x h => h))⟩
  obtain ⟨g2, q⟩ := post_guard h
  refine ⟨fun l el => ?_, q⟩
  rw [el] at g2
  exact of_decide_eq_true g2
def lastD (ds : List D) : Option (List D × D) := match ds.reverse with
  | [] => none
  | d :: r => some (r.reverse, d)
theorem lastD_some {ds r : List D} {d : D} (h : lastD ds = some (r, d)) : ds = r ++ [d] := by
  unfold lastD at h
  split at h
  · cases h
  · rename_i d' r' e
    cases h
    rw [← List.reverse_reverse ds, e, List.reverse_cons]
@[simp] def xPop (i k : Nat) : XS := fun ρ => guard (i ≠ k) ((ofO ((ρ[i]?.bind lsE).bind lastD)).bind fun p => .ok (.nx ((ρ.set i (.ls p.1)).set k (.im p.2))))
theorem k_pop {i k : Nat} : RfS R (xPop i k) (wPop i k) := fun dd ρ c h => by
  obtain ⟨g, h⟩ := post_guard h
  obtain ⟨⟨r, d⟩, e, q⟩ := post_ofO (post_bind h)
  cases el : ρ[i]?.bind lsE with
  | none => rw [el] at e; cases e
  | some ds =>
    rw [el] at e
    refine ⟨g, r, d, ?_, q⟩
    rw [lsE_some el, lastD_some (show lastD ds = some (r, d) from e)]
def imI : En → Option Int
  | .im (.int i) => some i
  | _ => none
theorem imI_some {o : Option En} {i : Int} (h : o.bind imI = some i) : o = some (.im (.int i)) := by
  cases o with
  | none => cases h
  | some e =>
    cases e with
    | im d => cases d <;> simp only [Option.bind_some, imI, reduceCtorEq, Option.some.injEq] at h; rw [h]
    | _ => simp only [Option.bind_some, imI, reduceCtorEq] at h
@[simp] def xAug (g : Int → Int → Int) (i : Nat) (xa : XE) : XS := fun ρ => (ofO (ρ[i]?.bind imI)).bind fun a => lift (xa ρ) ρ fun d => (ofO (iD d)).bind fun b => .ok (.nx (ρ.set i (.im (.int (g a b)))))
theorem k_aug {g : Int → Int → Int} {i : Nat} (ha : RfE R xa wa) : RfS R (xAug g i xa) (wAug g i wa) := fun dd ρ c h => by
  obtain ⟨a, e, h⟩ := post_ofO (post_bind h)
  refine ⟨a, imI_some e, ha ρ c _ (post_lift h (fun d h => ?_) fun x h => h)⟩
  obtain ⟨b, e2, q⟩ := post_ofO (post_bind h)
  exact ⟨b, iD_some e2, q⟩
/-! errors -/
@[simp] def xRaise (n : Str) (g : Option Str) (xa : XE) : XS := fun ρ => lift (xa ρ) ρ fun d => .ok (.xx ⟨n, match g with | some f => [(f, d)] | none => []⟩ ρ)
theorem k_raise {n : Str} {g : Option Str} (ha : RfE R xa wa) : RfS R (xRaise n g xa) (wRaise n g wa R) := fun dd ρ c h => ha ρ c _ (post_lift h (fun d h => h) fun x h => h)
@[simp] def xXf (g : Str) (x : Xd) (i j : Nat) : XS := fun ρ => guard (i < ρ.length) ((ofO (x.fs.lookup g)).bind fun d => .ok (.nx (ρ.set j (.im d))))
theorem k_xf {g : Str} {x : Xd} {i j : Nat} : RfS R (xXf g x i j) (wXf g x i j) := fun dd ρ c h => by
  obtain ⟨g, h⟩ := post_guard h
  obtain ⟨d, e, q⟩ := post_ofO (post_bind h)
  exact ⟨g, d, e, q⟩
abbrev XCl := Str × Option Nat × (Xd → XS)
inductive ClRf : List XCl → List WCl → Prop
  | nil : ClRf [] []
  | cons {n : Str} {i : Option Nat} {xs : Xd → XS} {ws : Xd → WS} {a : List XCl} {b : List WCl} (h : ∀ x, RfS noR (xs x) (ws x)) (r : ClRf a b) : ClRf ((n, i, xs) :: a) ((n, i, ws) :: b)
def goneF : Option Nat → Fl → Rs Fl
  | none, .xx _ _ => .bad
  | none, f => .ok f
  | some i, .nx ρ => .ok (.nx (ρ.set i .un))
  | some i, .bk ρ => .ok (.bk (ρ.set i .un))
  | some i, .ct ρ => .ok (.ct (ρ.set i .un))
  | some _, .rt d => .ok (.rt d)
  | some _, .xx _ _ => .bad
@[simp] def xHd (x : Xd) (ρ : List En) : List XCl → Rs Fl
  | [] => .ok (.xx x ρ)
  | (n, i, xs) :: r => if x.C = n then (xs x (heldE ρ i)).bind (goneF i) else xHd x ρ r
theorem hd_go {x : Xd} {dd : Dd} {ρ : List En} {c : Nat} : ∀ {a : List XCl} {b : List WCl}, ClRf a b → (xHd x ρ a).post (fun f => f.go R dd c) (fun _ => False) → wHd x dd ρ c (R x ρ c) b
  | _, _, .nil, h => h
  | _, _, .cons (n := n) (i := i) hs r, h => by
    show if x.C = n then _ else _
    by_cases e : x.C = n
    · rw [if_pos e]
      have h' : (if x.C = n then (_ : Rs Fl) else _).post (fun f => f.go R dd c) (fun _ => False) := h
      rw [if_pos e] at h'
      refine hs x _ _ c (post_bm h' fun f h => ?_)
      cases i with
      | none => cases f <;> exact h
      | some i => cases f <;> exact h
    · rw [if_neg e]
      have h' : (if x.C = n then (_ : Rs Fl) else _).post (fun f => f.go R dd c) (fun _ => False) := h
      rw [if_neg e] at h'
      exact hd_go r h'
@[simp] def xTry (ns : List Str) (xb : XS) (cl : List XCl) : XS := fun ρ => guard (ρ.all (fun e => !e.mut) = true) ((xb ρ).bind fun f => match f with
  | .xx x ρ' => guard (x.C ∈ ns) (xHd x ρ' cl)
  | f => .ok f)
theorem k_try {ns : List Str} {wb : RR → WS} {a : List XCl} {b : List WCl} (hb : ∀ R', RfS R' xs (wb R')) (hc : ClRf a b) : RfS R (xTry ns xs a) (wTry ns wb b R) := fun dd ρ c h => by
  obtain ⟨g, h⟩ := post_guard h
  refine ⟨fun e he => by simpa using List.all_eq_true.mp g e he, hb _ dd ρ c (post_bm h fun f h => ?_)⟩
  cases f with
  | xx x ρ' =>
    obtain ⟨hx, h⟩ := post_guard h
    exact ⟨hx, hd_go hc h⟩
  | nx ρ' => exact h
  | rt d => exact h
  | bk ρ' => exact h
  | ct ρ' => exact h
end
/-! defs -/
def endF : Fl → Rs D
  | .nx _ => .ok .none
  | .rt d => .ok d
  | .xx x _ => .ex x
  | _ => .bad
@[simp] def xDef (n : Nat) (N : List Str) (xs : XS) : XFn := fun es => guard (es.length = n) ((xs (startE N es)).calm.bind endF)
theorem k_def {n : Nat} {N : List Str} {xs : XS} {ws : WS} (h : RfS noR xs ws) : RfF (xDef n N xs) (fun es c Q => es.length = n ∧ wDef N ws es c Q) := fun es c Q q => by
  obtain ⟨g, q⟩ := post_guard q
  refine ⟨g, h _ _ c (post_calm (post_bm q fun f q => ?_))⟩
  cases f <;> exact q
theorem k_defX {n : Nat} {N : List Str} {xs : XS} {ws : XR → WS} (h : ∀ R : XR, RfS (fun x _ c => R x c) xs (ws R)) : RfX (xDef n N xs) (fun R es c Q => es.length = n ∧ wDef N (ws R) es c Q) := fun es c Q R q => by
  obtain ⟨g, q⟩ := post_guard q
  refine ⟨g, h R _ _ c (post_calm (post_bm q fun f q => ?_))⟩
  cases f <;> exact q
end HW
namespace HW
open PySem L2 Rs
section
variable {R : RR} {xa xb : XE} {wa wb : WE}
@[simp] def xJs : List XE → Str → List En → Rs D
  | [], acc, _ => .ok (.str acc)
  | xa :: r, acc, ρ => (xa ρ).bind fun d => (ofO (strD d)).bind fun y => Rs.guard ((acc ++ y).length ≤ LIM) (xJs r (acc ++ y) ρ)
@[simp] def xJoin (xs : List XE) : XE := fun ρ => xJs xs Str.empty ρ
inductive JsRf (R : RR) : List XE → List WE → Prop
  | nil : JsRf R [] []
  | cons {xa : XE} {wa : WE} {xs : List XE} {ws : List WE} (h : RfE R xa wa) (r : JsRf R xs ws) : JsRf R (xa :: xs) (wa :: ws)
theorem js_go (ρ : List En) (c : Nat) (Q : D → Nat → Prop) : ∀ {xs : List XE} {ws : List WE}, JsRf R xs ws → ∀ acc, (xJs xs acc ρ).post (fun d => Q d c) (fun e => R e ρ c) → wJs ws acc ρ c Q
  | _, _, .nil, acc, h => h
  | _, _, .cons ha r, acc, h => ha ρ c _ (post_bm h fun d h => by
    obtain ⟨y, e, h⟩ := post_ofO (post_bind h)
    obtain ⟨g, h⟩ := post_guard h
    exact ⟨y, strD_some e, g, js_go ρ c Q r _ h⟩)
theorem k_join {xs : List XE} {ws : List WE} (h : JsRf R xs ws) : RfE R (xJoin xs) (wJoin ws) := fun ρ c Q q => js_go ρ c Q h _ q
@[simp] def xSdAppC (i : Nat) (xb xa : XE) : XS := xSdApp i xb (fun ρ => (xa ρ).calm)
end
end HW

namespace HW
open PySem L2 Rs
section
variable {R : RR} {xa xb : XE} {wa wb : WE} {xA : XA} {wA : WA} {xl xh : XO} {wl wh : WO}
@[simp] def xRepL (xA : XA) (xb : XE) : XE := fun ρ => (xA ρ).bind fun ds => Rs.guard (ds.length ≤ LIM) ((xb ρ).bind fun d => (ofO (iD d)).bind fun n => Rs.guard (-(2 ^ 62) ≤ n ∧ n ≤ 2 ^ 62 ∧ ds.length * n.toNat ≤ LIM) (.ok (.list (List.replicate n.toNat ds).flatten)))
theorem k_repL (hA : RfA R xA wA) (hb : RfE R xb wb) : RfE R (xRepL xA xb) (wRepL wA wb) := fun ρ c Q h => hA ρ c _ (post_bm h fun ds h => by
  obtain ⟨g, h⟩ := post_guard h
  refine ⟨g, hb ρ c _ (post_bm h fun d h => ?_)⟩
  obtain ⟨n, e, h⟩ := post_ofO (post_bind h)
  obtain ⟨⟨g1, g2, g3⟩, q⟩ := post_guard h
  exact ⟨n, iD_some e, g1, g2, g3, q⟩)
@[simp] def xSlT (xa : XE) (xl xh : XO) : XE := fun ρ => (xa ρ).bind fun x => (xl ρ).bind fun l => (xh ρ).bind fun u => (ofO (tupleD x)).bind fun xs => .ok (.tuple (cutL xs l u))
theorem k_slT (ha : RfE R xa wa) (hl : RfO R xl wl) (hh : RfO R xh wh) : RfE R (xSlT xa xl xh) (wSlT wa wl wh) := fun ρ c Q h => ha ρ c _ (post_bm h fun x h => hl ρ c _ (post_bm h fun l h => hh ρ c _ (post_bm h fun u h => by
  obtain ⟨xs, e, q⟩ := post_ofO (post_bind h)
  exact ⟨xs, tupleD_some e, q⟩)))
end
end HW

/-! X3: what simp may do with functions that run words -/
namespace HW
open PySem L2
namespace Rs
variable {α β : Type}
@[simp] theorem bind_ok {a : α} {f : α → Rs β} : (Rs.ok a).bind f = f a := rfl
@[simp] theorem bind_bad {f : α → Rs β} : (Rs.bad : Rs α).bind f = .bad := rfl
@[simp] theorem bind_ex {x : Xd} {f : α → Rs β} : (Rs.ex x : Rs α).bind f = .ex x := rfl
@[simp] theorem calm_ok {a : α} : (Rs.ok a).calm = .ok a := rfl
@[simp] theorem calm_bad : (Rs.bad : Rs α).calm = .bad := rfl
@[simp] theorem calm_ex {x : Xd} : (Rs.ex x : Rs α).calm = .bad := rfl
@[simp] theorem ofO_some {a : α} : ofO (some a) = .ok a := rfl
@[simp] theorem ofO_none : ofO (none : Option α) = .bad := rfl
@[simp] theorem guard_if {c : Prop} [Decidable c] {r : Rs α} : Rs.guard c r = if c then r else .bad := rfl
@[simp] theorem lift_ok {a : α} {ρ : List En} {f : α → Rs Fl} : lift (Rs.ok a) ρ f = f a := rfl
@[simp] theorem lift_bad {ρ : List En} {f : α → Rs Fl} : lift (Rs.bad : Rs α) ρ f = .bad := rfl
@[simp] theorem lift_ex {x : Xd} {ρ : List En} {f : α → Rs Fl} : lift (Rs.ex x : Rs α) ρ f = .ok (.xx x ρ) := rfl
end Rs
@[simp] theorem endF_nx {ρ : List En} : endF (.nx ρ) = .ok .none := rfl
@[simp] theorem endF_rt {d : D} : endF (.rt d) = .ok d := rfl
@[simp] theorem endF_xx {x : Xd} {ρ : List En} : endF (.xx x ρ) = .ex x := rfl
@[simp] theorem goneF_nx {ρ : List En} : goneF none (.nx ρ) = .ok (.nx ρ) := rfl
@[simp] theorem goneF_rt {d : D} : goneF none (.rt d) = .ok (.rt d) := rfl
@[simp] theorem goneF_nx1 {i : Nat} {ρ : List En} : goneF (some i) (.nx ρ) = .ok (.nx (ρ.set i .un)) := rfl
@[simp] theorem goneF_rt1 {i : Nat} {d : D} : goneF (some i) (.rt d) = .ok (.rt d) := rfl
@[simp] theorem bl_b {b : Bool} : bl (.bool b) = some b := rfl
@[simp] theorem iD_i {i : Int} : iD (.int i) = some i := rfl
@[simp] theorem dicD_d {k : List (D × D)} : dicD (.dict k) = some k := rfl
@[simp] theorem listD_l {k : List D} : listD (.list k) = some k := rfl
@[simp] theorem tupleD_t {k : List D} : tupleD (.tuple k) = some k := rfl
@[simp] theorem strD_s {k : Str} : strD (.str k) = some k := rfl
@[simp] theorem isStr_s {k : Str} : isStr (.str k) = true := rfl
@[simp] theorem lsE_l {k : List D} : lsE (.ls k) = some k := rfl
@[simp] theorem dcE_d {k : List (D × D)} : dcE (.dc k) = some k := rfl
@[simp] theorem dlE_d {k : List (D × List D)} : dlE (.dl k) = some k := rfl
@[simp] theorem imI_i {i : Int} : imI (.im (.int i)) = some i := rfl
@[simp] theorem gTx_nil {ρ : List En} : gTx [] [] ρ = some ρ := rfl
@[simp] theorem gTx_cons {i : Nat} {is : List Nat} {d : D} {ds : List D} {ρ : List En} : gTx (i :: is) (d :: ds) ρ = gTx is ds (ρ.set i (.im d)) := rfl
@[simp] theorem start_e (N : List Str) (es : List En) : startE N es = es ++ List.replicate (N.length - es.length) .un := rfl
@[simp] theorem look_im (d : D) : En.look (.im d) = some d := rfl
@[simp] theorem look_ls (d : List D) : En.look (.ls d) = some (.list d) := rfl
@[simp] theorem look_dc (d : List (D × D)) : En.look (.dc d) = some (.dict d) := rfl
@[simp] theorem mut_im (d : D) : En.mut (.im d) = false := rfl
@[simp] theorem mut_un : En.mut .un = false := rfl
@[simp] theorem mut_st : En.mut .st = false := rfl
@[simp] theorem heldE_n (ρ : List En) : heldE ρ none = ρ := rfl
@[simp] theorem heldE_s (ρ : List En) (i : Nat) : heldE ρ (some i) = ρ.set i .un := rfl
@[simp] theorem eqD_ii (i j : Int) : eqD (.int i) (.int j) = some (.bool (i == j)) := eq_intD i j
end HW

/-! X4: runs of what HW28 brings -/
namespace HW
open PySem L2 Rs
section
variable {R : RR} {xa xb xc : XE} {wa wb wc : WE} {xs : XS} {ws : WS}
@[simp] def xOp3 (f : D → D → D → Option D) (xa xb xc : XE) : XE := fun ρ => (xa ρ).bind fun x => (xb ρ).bind fun y => (xc ρ).bind fun z => ofO (f x y z)
theorem k_op3 {f : D → D → D → Option D} (ha : RfE R xa wa) (hb : RfE R xb wb) (hc : RfE R xc wc) : RfE R (xOp3 f xa xb xc) (wOp3 f wa wb wc) := fun ρ c Q h => ha ρ c _ (post_bm h fun x h => hb ρ c _ (post_bm h fun y h => hc ρ c _ (post_bm h fun z h => post_ofO h)))
@[simp] def xSeal (i : Nat) (xs : XS) : XS := fun ρ => (ofO (ρ[i]?.bind lsE)).bind fun ds => xs (ρ.set i (.im (.list ds)))
theorem k_seal {i : Nat} (hs : RfS R xs ws) : RfS R (xSeal i xs) (wSeal i ws) := fun dd ρ c h => by
  obtain ⟨ds, e, h⟩ := post_ofO (post_bind h)
  exact ⟨ds, lsE_some e, hs dd _ c h⟩
@[simp] def gTxG : List XTg → List D → List En → Option (List En)
  | [], [], ρ => some ρ
  | t :: ts, d :: ds, ρ => (t d ρ).bind fun ρ' => gTxG ts ds ρ'
  | _, _, _ => none
inductive TgRf : List XTg → List WGt → Prop
  | nil : TgRf [] []
  | cons {x : XTg} {w : WGt} {xs : List XTg} {ws : List WGt} : RfTg x w → TgRf xs ws → TgRf (x :: xs) (w :: ws)
theorem TgRf.go {xs : List XTg} {ws : List WGt} (h : TgRf xs ws) : ∀ {ds : List D} {ρ ρ' : List En} {Q : List En → Prop}, gTxG xs ds ρ = some ρ' → Q ρ' → ds.length = ws.length ∧ gTsG ws ds ρ Q := by
  induction h with
  | nil =>
    intro ds ρ ρ' Q e q
    cases ds with
    | nil => cases e; exact ⟨rfl, q⟩
    | cons _ _ => cases e
  | @cons x w xs ws h1 h2 ih =>
    intro ds ρ ρ' Q e q
    cases ds with
    | nil => cases e
    | cons d ds =>
      obtain ⟨ρ1, e1, e2⟩ := Option.bind_eq_some_iff.mp e
      obtain ⟨hl, _⟩ := ih e2 q
      exact ⟨congrArg (· + 1) hl, h1 d ρ ρ1 _ e1 (ih e2 q).2⟩
@[simp] def xgTG (xs : List XTg) : XTg := fun d ρ => (tupleD d).bind fun ds => gTxG xs ds ρ
theorem k_gTG {xs : List XTg} {ws : List WGt} (h : TgRf xs ws) : RfTg (xgTG xs) (gTG ws) := fun d ρ ρ' Q e q => by
  cases ed : tupleD d with
  | none => rw [xgTG, ed] at e; cases e
  | some ds =>
    rw [xgTG, ed] at e
    obtain ⟨hl, hq⟩ := h.go e q
    exact ⟨ds, tupleD_some ed, hl, hq⟩
end
end HW

/-! X5: zip, run -/
namespace HW
open PySem L2 Rs
section
variable {R : RR} {xa xb : XE} {wa wb : WE}
def zipO : D → D → Option (List D)
  | .list xs, .list ys => some (zipD xs ys)
  | .tuple xs, .tuple ys => some (zipD xs ys)
  | _, _ => none
@[simp] def xZip (xa xb : XE) : XA := fun ρ => (xa ρ).bind fun d => (xb ρ).bind fun d2 => ofO (zipO d d2)
theorem k_zip (ha : RfE R xa wa) (hb : RfE R xb wb) : RfA R (xZip xa xb) (wZip wa wb) := fun ρ c Q h => ha ρ c _ (post_bm h fun d h => hb ρ c _ (post_bm h fun d2 h => by
  obtain ⟨z, e, q⟩ := post_ofO h
  unfold zipO at e
  split at e
  · cases e; exact ⟨_, _, .inl ⟨rfl, rfl⟩, q⟩
  · cases e; exact ⟨_, _, .inr ⟨rfl, rfl⟩, q⟩
  · cases e))
end
end HW

/-! X6: find, x *= e, run -/
namespace HW
open PySem L2 Rs
section
variable {R : RR} {xa xb xc : XE} {wa wb wc : WE} {xn xm : XN} {wn wm : WN}
@[simp] def xFind (xa xb xc : XE) : XE := fun ρ => (xa ρ).bind fun x => (ofO (strD x)).bind fun s => (xb ρ).bind fun y => (xc ρ).bind fun z => (ofO (strD y)).bind fun t => (ofO (iD z)).bind fun i => .ok (.int (Txt.find3 s t i))
theorem k_find (ha : RfE R xa wa) (hb : RfE R xb wb) (hc : RfE R xc wc) : RfE R (xFind xa xb xc) (wFind wa wb wc) := fun ρ c Q h => ha ρ c _ (post_bm h fun x h => by
  obtain ⟨s, e, h⟩ := post_ofO (post_bind h)
  refine ⟨⟨s, strD_some e⟩, hb ρ c _ (post_bm h fun y h => hc ρ c _ (post_bm h fun z h => ?_))⟩
  obtain ⟨t, e2, h⟩ := post_ofO (post_bind h)
  obtain ⟨i, e3, q⟩ := post_ofO (post_bind h)
  exact ⟨s, t, i, strD_some e, strD_some e2, iD_some e3, q⟩)
@[simp] def xMulA (i : Nat) (xa : XE) : XS := fun ρ => (ofO (ρ[i]?.bind imI)).bind fun a => lift (xa ρ) ρ fun d => (ofO (iD d)).bind fun b => Rs.guard (-(2 ^ 64) < b ∧ b < 2 ^ 64) (.ok (.nx (ρ.set i (.im (.int (a * b))))))
theorem k_mulA {i : Nat} (ha : RfE R xa wa) : RfS R (xMulA i xa) (wMulA i wa) := fun dd ρ c h => by
  obtain ⟨a, e, h⟩ := post_ofO (post_bind h)
  refine ⟨a, imI_some e, ha ρ c _ (post_lift h (fun d h => ?_) fun x h => h)⟩
  obtain ⟨b, e2, h⟩ := post_ofO (post_bind h)
  obtain ⟨g, q⟩ := post_guard h
  exact ⟨b, iD_some e2, g, q⟩
@[simp] def xPar3 (i j l : Nat) (xa xb xc : XE) : XS := fun ρ => lift (xa ρ) ρ fun d => lift (xb ρ) ρ fun d2 => lift (xc ρ) ρ fun d3 => .ok (.nx (((ρ.set i (.im d)).set j (.im d2)).set l (.im d3)))
theorem k_par3 {i j l : Nat} (ha : RfE R xa wa) (hb : RfE R xb wb) (hc : RfE R xc wc) : RfS R (xPar3 i j l xa xb xc) (wPar3 i j l wa wb wc) := fun dd ρ c h => ha ρ c _ (post_lift h (fun d h => hb ρ c _ (post_lift h (fun d2 h => hc ρ c _ (post_lift h (fun d3 h => h) fun x h => h)) fun x h => h)) fun x h => h)
@[simp] def xParF (i j : Nat) (xn : XN) (xa : XE) : XS := fun ρ => lift (xn ρ) ρ fun en => lift (xa ρ) ρ fun d => .ok (.nx ((ρ.set i en).set j (.im d)))
theorem k_parF {i j : Nat} (hn : RfN R xn wn) (ha : RfE R xa wa) : RfS R (xParF i j xn xa) (wParF i j wn wa) := fun dd ρ c h => hn ρ c _ (post_lift h (fun en h => ha ρ c _ (post_lift h (fun d h => h) fun x h => h)) fun x h => h)
@[simp] def xParNN (i j : Nat) (xn xm : XN) : XS := fun ρ => lift (xn ρ) ρ fun en => lift (xm ρ) ρ fun em => .ok (.nx ((ρ.set i en).set j em))
theorem k_parNN {i j : Nat} (hn : RfN R xn wn) (hm : RfN R xm wm) : RfS R (xParNN i j xn xm) (wParNN i j wn wm) := fun dd ρ c h => hn ρ c _ (post_lift h (fun en h => hm ρ c _ (post_lift h (fun em h => h) fun x h => h)) fun x h => h)
end
end HW

/-! X7: runs of HW37 to HW39 -/
namespace HW
open PySem L2 Rs
section
variable {R : RR} {xa xb xc : XE} {wa wb wc : WE} {xA : XA} {wA : WA}
@[simp] def xLR (xa : XE) : XE := fun ρ => (xa ρ).bind fun d => (ofO (iD d)).bind fun n => Rs.guard (0 ≤ n ∧ n ≤ 16777216) (.ok (.list (rngD 0 n.toNat)))
theorem k_LR (ha : RfE R xa wa) : RfE R (xLR xa) (wLR wa) := fun ρ c Q h => ha ρ c _ (post_bm h fun d h => by
  obtain ⟨n, e, h⟩ := post_ofO (post_bind h)
  obtain ⟨⟨g1, g2⟩, q⟩ := post_guard h
  exact ⟨n, iD_some e, g1, g2, q⟩)
@[simp] def xRevL (xa : XE) : XE := fun ρ => (xa ρ).bind fun d => (ofO (listD d)).bind fun ds => .ok (.list ds.reverse)
theorem k_revL (ha : RfE R xa wa) : RfE R (xRevL xa) (wRevL wa) := fun ρ c Q h => ha ρ c _ (post_bm h fun d h => by
  obtain ⟨ds, e, q⟩ := post_ofO (post_bind h)
  exact ⟨ds, listD_some e, q⟩)
@[simp] def xnRepL (xA : XA) (xb : XE) : XN := fun ρ => (xA ρ).bind fun ds => Rs.guard (ds.length ≤ LIM) ((xb ρ).bind fun d => (ofO (iD d)).bind fun n => Rs.guard (-(2 ^ 62) ≤ n ∧ n ≤ 2 ^ 62 ∧ ds.length * n.toNat ≤ LIM) (.ok (.ls (List.replicate n.toNat ds).flatten)))
theorem k_nrepL (hA : RfA R xA wA) (hb : RfE R xb wb) : RfN R (xnRepL xA xb) (nRepL wA wb) := fun ρ c Q h => hA ρ c _ (post_bm h fun ds h => by
  obtain ⟨g, h⟩ := post_guard h
  refine ⟨g, hb ρ c _ (post_bm h fun d h => ?_)⟩
  obtain ⟨n, e, h⟩ := post_ofO (post_bind h)
  obtain ⟨⟨g1, g2, g3⟩, q⟩ := post_guard h
  exact ⟨n, iD_some e, g1, g2, g3, q⟩)
@[simp] def xnCat (xa xb : XE) : XN := fun ρ => (xa ρ).bind fun x => (xb ρ).bind fun y => (ofO (listD x)).bind fun xs => (ofO (listD y)).bind fun ys => Rs.guard (xs.length + ys.length ≤ LIM) (.ok (.ls (xs ++ ys)))
theorem k_ncat (ha : RfE R xa wa) (hb : RfE R xb wb) : RfN R (xnCat xa xb) (nCat wa wb) := fun ρ c Q h => ha ρ c _ (post_bm h fun x h => hb ρ c _ (post_bm h fun y h => by
  obtain ⟨xs, e1, h⟩ := post_ofO (post_bind h)
  obtain ⟨ys, e2, h⟩ := post_ofO (post_bind h)
  obtain ⟨g, q⟩ := post_guard h
  exact ⟨xs, ys, listD_some e1, listD_some e2, g, q⟩))
def dtE : En → Option (List (List Key × D))
  | .dt ds => some ds
  | _ => none
theorem dtE_some {en : En} {ds : List (List Key × D)} (h : dtE en = some ds) : en = .dt ds := by cases en <;> simp [dtE] at h; rw [h]
theorem dtAt {ρ : List En} {i : Nat} {ds : List (List Key × D)} (h : ρ[i]?.bind dtE = some ds) : ρ[i]? = some (.dt ds) := by
  obtain ⟨en, h1, h2⟩ := Option.bind_eq_some_iff.mp h
  rw [h1, dtE_some h2]
@[simp] def xnDt : XN := fun _ => .ok (.dt [])
theorem k_ndt : RfN R xnDt nDt := fun _ _ _ h => h
@[simp] def xDtGet (i : Nat) (xA : XA) : XE := fun ρ => (ofO (ρ[i]?.bind dtE)).bind fun ds => (xA ρ).bind fun ks => Rs.guard (ks.length ≤ LIM) ((ofO (keysOf ks)).bind fun k => ofO (lookT ds k))
theorem k_dtget {i : Nat} (hA : RfA R xA wA) : RfE R (xDtGet i xA) (wDtGet i wA) := fun ρ c Q h => by
  obtain ⟨ds, e, h⟩ := post_ofO (post_bind h)
  have e' := dtAt e
  refine ⟨⟨ds, e'⟩, hA ρ c _ (post_bm h fun ks h => ?_)⟩
  obtain ⟨g, h⟩ := post_guard h
  obtain ⟨k, e2, h⟩ := post_ofO (post_bind h)
  obtain ⟨z, e3, q⟩ := post_ofO h
  exact ⟨ds, k, z, e', g, e2, e3, q⟩
@[simp] def xDtPut (i : Nat) (xa : XE) (xA : XA) : XS := fun ρ => lift (xa ρ) ρ fun d => (ofO (ρ[i]?.bind dtE)).bind fun ds => lift (xA ρ) ρ fun ks => Rs.guard (ks.length ≤ LIM) ((ofO (keysOf ks)).bind fun k => Rs.guard (ds.length < LIM) (.ok (.nx (ρ.set i (.dt (putT ds k d))))))
theorem k_dtput {i : Nat} (ha : RfE R xa wa) (hA : RfA R xA wA) : RfS R (xDtPut i xa xA) (wDtPut i wa wA) := fun dd ρ c h => ha ρ c _ (post_lift h (fun d h => by
  obtain ⟨ds, e, h⟩ := post_ofO (post_bind h)
  have e' := dtAt e
  refine ⟨⟨ds, e'⟩, hA ρ c _ (post_lift h (fun ks h => ?_) fun x h => h)⟩
  obtain ⟨g, h⟩ := post_guard h
  obtain ⟨k, e2, h⟩ := post_ofO (post_bind h)
  obtain ⟨g2, q⟩ := post_guard h
  exact ⟨ds, k, e', g, e2, g2, q⟩) fun x h => h)
@[simp] def xZip3 (xa xb xc : XE) : XA := fun ρ => (xa ρ).bind fun d => (xb ρ).bind fun d2 => (xc ρ).bind fun d3 => (ofO (strD d)).bind fun x => (ofO (tupleD d2)).bind fun xs => (ofO (tupleD d3)).bind fun ys => .ok (zip3D (signs x) xs ys)
theorem k_zip3 (ha : RfE R xa wa) (hb : RfE R xb wb) (hc : RfE R xc wc) : RfA R (xZip3 xa xb xc) (wZip3 wa wb wc) := fun ρ c Q h => ha ρ c _ (post_bm h fun d h => hb ρ c _ (post_bm h fun d2 h => hc ρ c _ (post_bm h fun d3 h => by
  obtain ⟨x, e1, h⟩ := post_ofO (post_bind h)
  obtain ⟨xs, e2, h⟩ := post_ofO (post_bind h)
  obtain ⟨ys, e3, q⟩ := post_ofO (post_bind h)
  exact ⟨x, xs, ys, strD_some e1, tupleD_some e2, tupleD_some e3, q⟩)))
end
end HW

/-! Y1: worlds with tables of code objects -/
namespace HW
open PySem L2 LamX
/-- one table, all whose code objects lie in R -/
structure TbR (R : List Addr) (H : Hp) (p : Addr × Str) : Prop where
  mem : p.1 ∈ R
  own : ∃ ps : Array Value, H p.1 = some (.tbl ps) ∧ TriplesOk ps.toList ∧ ∀ (pos : Pos) (cv : Value), codeAmong pos ps.toList = some cv → ∃ c, cv = .ref c ∧ c ∈ R ∧ H c = some (CodeO c p.2)
structure TabR (T : List (Addr × Str)) (R : List Addr) (H : Hp) : Prop where
  tab : ∀ p ∈ T, TbR R H p
  kind : ∀ b ∈ R, (∃ ps, H b = some (.tbl ps)) ∨ ∃ q, H b = some (CodeO b q)
theorem TabR.at {T : List (Addr × Str)} {R : List Addr} {H H' : Hp} (h : TabR T R H) (e : ∀ b ∈ R, H' b = H b) : TabR T R H' := by
  refine ⟨fun p hp => ?_, fun b hb => by rw [e b hb]; exact h.kind b hb⟩
  obtain ⟨m, ps, h1, h2, h3⟩ := h.tab p hp
  refine ⟨m, ps, by rw [e _ m]; exact h1, h2, fun pos cv hc => ?_⟩
  obtain ⟨c, e1, e2, e3⟩ := h3 pos cv hc
  exact ⟨c, e1, e2, by rw [e _ e2]; exact e3⟩
theorem TabR.tabs {T : List (Addr × Str)} {R : List Addr} {H : Hp} (h : TabR T R H) : Tabs T H := fun p hp => by
  obtain ⟨m, ps, h1, h2, h3⟩ := h.tab p hp
  exact ⟨ps, h1, h2, fun pos cv hc => let ⟨c, e1, _, e3⟩ := h3 pos cv hc; ⟨c, e1, e3⟩⟩
theorem TabR.noXd {T : List (Addr × Str)} {R : List Addr} {H : Hp} (h : TabR T R H) {d : Addr} {f : List (Str × V)} (e : H d = some (.xd f)) : d ∉ R := fun m => by
  rcases h.kind d m with ⟨ps, z⟩ | ⟨q, z⟩
  · rw [e] at z; cases z
  · rw [e] at z; unfold CodeO at z; cases z
/-- the draws' state beside the tables -/
def MT (M : MI) (T : List (Addr × Str)) : MI := ⟨fun H a c R => ∃ Rs Rt, R = Rs ++ Rt ∧ M.I H a c Rs ∧ TabR T Rt H ∧ ∀ b ∈ Rt, b ∉ Rs,
  fun {H H' a c R} ⟨Rs, Rt, e, i, t, n⟩ u => ⟨Rs, Rt, e, M.st i fun b hb => u b (by rw [e]; exact List.mem_append_left _ hb), t.at fun b hb => u b (by rw [e]; exact List.mem_append_right _ hb), n⟩, True⟩
section
variable {M : MI} {T : List (Addr × Str)} {K : PySem.W.Frag} {w : W}
/-- a world without its tables, and the way back -/
theorem mt_out (g : Gd (MT M T) w) : ∃ w1 : W, w1.F = w.F ∧ w1.H = w.H ∧ w1.c = w.c ∧ w1.mo = w.mo ∧ Gd M w1 ∧
    ∀ w' : W, Stp w1 w' → Gd M w' → ∃ w2 : W, w2.F = w'.F ∧ w2.H = w'.H ∧ w2.c = w'.c ∧ Stp w w2 ∧ Gd (MT M T) w2 ∧ ∀ d f, w'.H d = some (.xd f) → d ∉ w'.R → d ∉ w2.R := by
  cases hm : w.mo with
  | none => exact absurd hm (g.nz True.intro)
  | some a =>
    obtain ⟨Rs, Rt, e, i, t, n⟩ := g.mi a hm
    refine ⟨{ w with R := Rs }, rfl, rfl, rfl, hm, ⟨fun b eb => ?_, fun z => ?_, fun _ => g.nz True.intro, fun b hb => g.tr b (by rw [e]; exact List.mem_append_left _ hb), g.tf⟩, fun w' s g' => ?_⟩
    · have eb' : w.mo = some b := eb
      rw [hm] at eb'
      cases eb'
      exact i
    · have z' : w.mo = none := z
      rw [hm] at z'
      cases z'
    · have old : ∀ b ∈ Rt, w'.H b = w.H b := fun b hb => by
        have h1 := (g.tr b (by rw [e]; exact List.mem_append_right _ hb)).1
        obtain ⟨o, ho⟩ := Option.ne_none_iff_exists'.mp h1
        rw [ho]
        exact s.k b o ho (n b hb)
      have nR : ∀ b ∈ Rt, b ∉ w'.R := fun b hb z => (s.r b z).elim (n b hb) fun z2 => (g.tr b (by rw [e]; exact List.mem_append_right _ hb)).1 z2
      have t' : TabR T Rt w'.H := t.at old
      refine ⟨{ w' with R := w'.R ++ Rt }, rfl, rfl, rfl, ⟨s.f1, s.f2, fun b o h hr => s.k b o h fun z => hr (by rw [e]; exact List.mem_append_left _ z), s.t, fun b hb => ?_, s.m⟩,
        ⟨fun b eb => ⟨w'.R, Rt, rfl, g'.mi b eb, t', nR⟩, fun z => ?_, fun _ z => ?_, fun b hb => ?_, g'.tf⟩, fun d f hd nd z => ?_⟩
      · rcases List.mem_append.mp hb with z | z
        · exact (s.r b z).imp (fun z => by rw [e]; exact List.mem_append_left _ z) fun z => z
        · exact .inl (by rw [e]; exact List.mem_append_right _ z)
      · have : w'.mo = some a := s.m a hm
        rw [show w'.mo = none from z] at this
        cases this
      · have : w'.mo = some a := s.m a hm
        rw [show w'.mo = none from z] at this
        cases this
      · rcases List.mem_append.mp hb with z | z
        · exact g'.tr b z
        · have h0 := g.tr b (by rw [e]; exact List.mem_append_right _ z)
          exact ⟨by rw [old b z]; exact h0.1, fun f => (s.f2 b f).elim h0.2 h0.1⟩
      · rcases List.mem_append.mp z with z | z
        · exact nd z
        · exact t'.noXd hd z
theorem ArgsOk.cast {w1 : W} (eF : w1.F = w.F) (eH : w1.H = w.H) (em : w1.mo = w.mo) : ∀ {vs : List V} {es : List En}, ArgsOk K w vs es → ArgsOk K w1 vs es
  | _, _, .nil => .nil
  | _, _, .im d h => .im (by rw [eF, eH]; exact d) (h.cast eF eH em)
  | _, _, .st d h => .st (by rw [em]; exact d) (h.cast eF eH em)
theorem FsOk.cast {w1 : W} (eF : w1.F = w.F) (eH : w1.H = w.H) : ∀ {fs : List (Str × V)} {ds : List (Str × D)}, FsOk K w fs ds → FsOk K w1 fs ds
  | _, _, .nil => .nil
  | _, _, .cons d h => .cons (by rw [eF, eH]; exact d) (h.cast eF eH)
theorem fnSp_mt {f : FW} : ∀ vs H Q E, fnSp (MT M T) K f vs H Q E → fnSp M K f vs H Q E := by
  rintro vs H Q E ⟨w, es, Qd, eh, g, a, hf, k⟩
  obtain ⟨w1, eF, eH, ec, em, g1, go⟩ := mt_out g
  refine ⟨w1, es, Qd, eH.trans eh, g1, a.cast eF eH em, by rw [ec]; exact hf, fun w' v d s g' dv q => ?_⟩
  obtain ⟨w2, f2, h2, c2, s2, g2, _⟩ := go w' s g'
  have := k w2 v d s2 g2 (by rw [f2, h2]; exact dv) (by rw [c2]; exact q)
  rw [h2] at this
  exact this
theorem fnSpX_mt {mg : Str → Option Value} {f : XR → FW} : ∀ vs H Q E, fnSpX (MT M T) K mg f vs H Q E → fnSpX M K mg f vs H Q E := by
  rintro vs H Q E ⟨w, es, Qd, R, eh, g, a, hf, k, kx⟩
  obtain ⟨w1, eF, eH, ec, em, g1, go⟩ := mt_out g
  refine ⟨w1, es, Qd, R, eH.trans eh, g1, a.cast eF eH em, by rw [ec]; exact hf, fun w' v d s g' dv q => ?_, fun w' cls dd x s g' xo r => ?_⟩
  · obtain ⟨w2, f2, h2, c2, s2, g2, _⟩ := go w' s g'
    have := k w2 v d s2 g2 (by rw [f2, h2]; exact dv) (by rw [c2]; exact q)
    rw [h2] at this
    exact this
  · obtain ⟨w2, f2, h2, c2, s2, g2, nd⟩ := go w' s g'
    have xo2 : XOk K mg w2 cls dd x := by
      rcases xo with ⟨h, z | ⟨d1, fvs, e1, e2, e3, e4⟩⟩
      · exact ⟨h, .inl z⟩
      · exact ⟨h, .inr ⟨d1, fvs, e1, by rw [h2]; exact e2, nd d1 fvs e2 e3, e4.cast f2 h2⟩⟩
    have := kx w2 cls dd x s2 g2 xo2 (by rw [c2]; exact r)
    rw [h2] at this
    exact this
end
section
variable {P : Program} {w : World} {K : PySem.W.Frag} {mg : Str → Option Value} {base : Heap} {k : Nat} {x : Str} {M : MI} {T : List (Addr × Str)}
theorem CalG.mt {f : FW} (C : CalG P w K mg base k x (fnSp M K f)) : CalG P w K mg base k x (fnSp (MT M T) K f) := C.imp fnSp_mt
theorem CalX.imp {sp sp' : Sp} (C : CalX P w K mg base k x sp) (h : ∀ vs H Q E, sp' vs H Q E → sp vs H Q E) : CalX P w K mg base k x sp' := by
  obtain ⟨f, fd, ps, F, h1, h2, h3⟩ := C.ex
  exact ⟨f, fd, ps, F.imp h, h1, h2, h3⟩
theorem CalX.mt {f : XR → FW} (C : CalX P w K mg base k x (fnSpX M K mg f)) : CalX P w K mg base k x (fnSpX (MT M T) K mg f) := C.imp fnSpX_mt
end
end HW

/-! Y2: lambdas, made and called; with defaults or without -/
namespace HW
open PySem PySem.Spec PyProof.Rows L2 LamX
/-- the name of the lambdas of a frame -/
abbrev lamQ (X : Cx) : Str := X.env.qual ++ "<lambda>"
abbrev lamO (X : Cx) (q : Arguments) (b : Expr) (sc : Scope) (dV doc pm : Value) (c : Addr) (ct : Value) : Obj := PySem.W.kdv_obj "<lambda>" (lamQ X) q (.expr b) sc (cloFrom X.env.cells sc.names []) dV doc pm c ct
/-- the lambda's names: globals, captured ones, its own parameters, which the maker does not know -/
structure LamN (N bn : List Str) (sc scope : Scope) : Prop where
  kind : scope.kind = .function
  co : scope.isCoroutine = false
  gen : scope.isGenerator = false
  cel : ∀ y ∈ scope.names, y.2 ≠ .cell
  loc : ∀ y ∈ scope.names, y.2 = .local → y.1 ∉ N
  par : ∀ x ∈ bn, scope.names.lookup x = some .local
  free : ∀ y ∈ scope.names, y.2 = .free → sc.names.lookup y.1 = some .cell ∨ sc.names.lookup y.1 = some .free
def lamNB (N bn : List Str) (sc scope : Scope) : Bool :=
  decide (scope.kind = .function) && !scope.isCoroutine && !scope.isGenerator && bn.all (fun x => decide (scope.names.lookup x = some .local)) &&
    scope.names.all fun y => !decide (y.2 = .cell) && (!decide (y.2 = .local) || !(N.contains y.1)) && (!decide (y.2 = .free) || decide (sc.names.lookup y.1 = some .cell) || decide (sc.names.lookup y.1 = some .free))
theorem lamN_by {N bn : List Str} {sc scope : Scope} (h : lamNB N bn sc scope = true) : LamN N bn sc scope := by
  unfold lamNB at h
  simp only [Bool.and_eq_true, Bool.or_eq_true, Bool.not_eq_true', decide_eq_true_eq, decide_eq_false_iff_not, List.all_eq_true] at h
  obtain ⟨⟨⟨⟨k1, k2⟩, k3⟩, k4⟩, k5⟩ := h
  refine ⟨k1, k2, k3, fun y hy => (k5 y hy).1.1, fun y hy e => ?_, k4, fun y hy e => ?_⟩
  · rcases (k5 y hy).1.2 with z | z
    · exact absurd e z
    · intro m
      rw [List.contains_iff_mem.mpr m] at z
      cases z
  · rcases (k5 y hy).2 with (z | z) | z
    · exact absurd e z
    · exact .inl z
    · exact .inr z
theorem LamN.has {X : Cx} {bn : List Str} {scope : Scope} (L : LamN X.N bn X.env.scope scope) (ok : X.Ok) : ∀ y ∈ scope.names, y.2 = .free → ∃ c, X.env.cells.lookup y.1 = some c := fun y hy e => ok.has _ ((L.free y hy e).imp id id)
section
variable {X : Cx} {pins : List (Addr × Obj)} {σ : L2.St} {H : Hp} {s : Shared} {c P : Addr} {q : Arguments} {b : Expr} {sc : Scope} {pos : Pos} {dV : Value} {E : Value → Shared → Prop} {Q : Value → Shared → Prop} {ps : Array Value}
/-- what is known of a lambda once it is made -/
structure Made (X : Cx) (q : Arguments) (b : Expr) (sc : Scope) (dV : Value) (H : Hp) (f c' : Addr) (doc pm ct : Value) (s' : Shared) : Prop where
  at_ : s'.heap.get? f = some (lamO X q b sc dV doc pm c' ct)
  no : H f = none
  nf : f ∉ frs X.stack
theorem fr_ge (I : Inv X pins σ H s) {f : Addr} (hf : s.heap.objs.size ≤ f) : f ∉ frs X.stack := fun z => (List.mem_cons.mp (I.stkSub _ z)).elim (fun e => Nat.lt_irrefl _ (Nat.lt_of_lt_of_le (e ▸ I.lt) hf)) fun e => I.nofs hf e
theorem lamTail (I : Inv X pins σ H s) (tb : TabB X.base X.mg c P) (hc : X.env.code = .ref c) (hP : H P = some (.tbl ps)) (ht : TriplesOk ps.toList)
    (ha : ∀ (p : Pos) (cv : Value), codeAmong p ps.toList = some cv → ∃ c1, cv = .ref c1 ∧ H c1 = some (CodeO c1 (lamQ X))) (hcl : ∀ y ∈ sc.names, y.2 = .free → ∃ c1, X.env.cells.lookup y.1 = some c1)
    (old : ∀ (f c' : Addr) (doc pm ct : Value) (s' : Shared), codeAmong pos ps.toList = some (.ref c') → H c' = some (CodeO c' (lamQ X)) → Inv X pins σ H s' → Made X q b sc dV H f c' doc pm ct s' → (∀ a o, s.heap.get? a = some o → H a = none → s'.heap.get? a = some o) → Q (.ref f) s')
    (new : ∀ (f c' : Addr) (doc pm ct : Value) (s' : Shared), H c' = none → Inv X pins σ (upd (upd H P (.tbl (ps ++ #[rawInt pos.line, rawInt pos.col, .ref c']))) c' (CodeO c' (lamQ X))) s' →
      Made X q b sc dV (upd (upd H P (.tbl (ps ++ #[rawInt pos.line, rawInt pos.col, .ref c']))) c' (CodeO c' (lamQ X))) f c' doc pm ct s' → (∀ a o, s.heap.get? a = some o → H a = none → s'.heap.get? a = some o) → s.heap.objs.size ≤ c' → Q (.ref f) s') :
    wpAny (model X.prog X.w) X.A (makeTail "<lambda>" (lamQ X) q (.expr b) sc X.env dV .none none pos pos.line) Q E s := by
  have onP : s.heap.get? P = some { cls := .none, data := .fields ps } := I.hok P _ hP
  cases e : codeAmong pos ps.toList with
  | some cv =>
    obtain ⟨c', rfl, co⟩ := ha pos cv e
    refine PySem.W.kdv_makeTailHit (mg := X.mg) (c := c) (P := P) (ps := ps) (closure_ok hcl) I.ok.glob (I.mod.glob.keeps I.bk) hc (tb.code.keeps I.bk) onP ht e (tb.bm.keeps I.bk) fun ct doc h' tk hk hs => ?_
    have I2 := I.kept (h' := h'.push (lamO X q b sc dV doc ((X.mg "__name__").getD .none) c' ct)) (t' := tk) fun a o z => Heap.get?_push_of_some _ (hk a o z)
    exact old h'.objs.size c' doc _ ct _ e co I2 ⟨Heap.get?_push_size _ rfl, I.hok.fresh hs, fr_ge I hs⟩ fun a o z _ => Heap.get?_push_of_some _ (hk a o z)
  | none =>
    refine PySem.W.kdv_makeTail (mg := X.mg) (c := c) (P := P) (ps := ps) (closure_ok hcl) I.ok.glob (I.mod.glob.keeps I.bk) hc (tb.code.keeps I.bk) onP ht e tb.gP (tb.bm.keeps I.bk) fun c' ct doc h' tk hk ge lt rc on2 => ?_
    obtain ⟨c1, oc, us, t, e1, e2, e3, e4⟩ := rc
    cases e1
    have sz : s.heap.objs.size ≤ h'.objs.size := Nat.le_trans ge (Nat.le_of_lt lt)
    have no : H c' = none := I.hok.fresh ge
    have I2 := inv_table (q := lamQ X) (c := c') (t' := tk) (more := #[rawInt pos.line, rawInt pos.col, .ref c']) (h' := h'.push (lamO X q b sc dV doc ((X.mg "__name__").getD .none) c' ct)) I hP (fun a o n z => Heap.get?_push_of_some _ (hk a o n z)) (Heap.get?_push_of_some _ on2) ge ⟨oc, us, t, Heap.get?_push_of_some _ e2, e3, e4⟩
    refine new h'.objs.size c' doc _ ct _ no I2 ⟨Heap.get?_push_size _ rfl, ?_, fr_ge I sz⟩ (fun a o z n => Heap.get?_push_of_some _ (hk a o (fun y => by rw [y, hP] at n; cases n) z)) ge
    rw [upd_ne (Nat.ne_of_gt lt), upd_ne (Nat.ne_of_gt (Nat.lt_of_lt_of_le (Heap.lt_size onP) sz))]
    exact I.hok.fresh sz
end
section
variable {X : Cx} {pins : List (Addr × Obj)} {σ : L2.St} {H HZ : Hp} {s s1 : Shared}
/-- the lambda's frame, entered: the maker's slots are seen through its cells -/
theorem lamStart {A : Around} {outer : List Env} {E : XK} {scope : Scope} {f c' : Addr} {g : Heap} {tk : Nat} {bs : List (Str × Value)} (I : Inv X pins σ H s) (L : LamN X.N (bs.map (·.1)) X.env.scope scope) (e0 : Env0 X.prog X.w X.K X.mg X.base A outer s1 HZ) (nh : A.handled = none)
    (un : Un (frs X.stack) [] H HZ s.heap s1.heap) (ns : g.Ns s1.heap.objs.size fun y => bs.reverse.lookup y) (kp : ∀ a o, s1.heap.get? a = some o → g.get? a = some o) :
    Inv (lamCx X A outer s1 HZ E scope f c') [] σ HZ { s1 with heap := g, toks := tk } := by
  have fr := L.has I.ok
  have down : ∀ {y d}, (cloFrom X.env.cells scope.names []).lookup y = some d → X.env.cells.lookup y = some d := fun {y d} e => by
    rcases cloFrom_mem (PySem.mem_of_lookup e) with m | ⟨m, z⟩
    · cases m
    · obtain ⟨d1, hd1⟩ := fr _ m rfl
      have hd2 : X.env.cells.lookup y = some d1 := hd1
      rw [hd2]
      congr 1
      rw [z, hd2]
      rfl
  have up : ∀ {y}, scope.names.lookup y = some .free → ∃ d, (cloFrom X.env.cells scope.names []).lookup y = some d := fun {y} l => mem_lookup (cloFrom_has (cells := X.env.cells) (acc := []) (PySem.mem_of_lookup l))
  have cel : ∀ {d : Addr} {v : Option Value}, H d = none → s.heap.IsCell d v → g.IsCell d v := fun {d v} n ⟨o, ho, hd⟩ => let ⟨sl, e⟩ := un.any ho n (by simp); ⟨_, kp _ _ e, hd⟩
  have nx : ∀ a : Addr, a ∈ (lamCx X A outer s1 HZ E scope f c').ex → False := fun a z => by
    have z' : a ∈ ([] : List Addr) := z
    cases z'
  have lam : (lamCx X A outer s1 HZ E scope f c').Ok := {
    mod := e0.mod, kind := L.kind, glob := rfl, blt := rfl, above := Nat.le_refl _
    inj := fun y z d h1 h2 => I.ok.inj y z d (down h1) (down h2)
    has := fun y hy => hy.elim (fun z => absurd rfl (L.cel _ (PySem.mem_of_lookup (show scope.names.lookup y = some .cell from z)))) fun z => up z
    cab := fun y d z _ => by
      have z' : false = true := z
      cases z'
    hd := fun _ => nh, frames := Around.frames_deeper e0.frames, stk := .inr ⟨rfl, rfl⟩, exf := fun a z => (nx a z).elim, bs := e0.bs, bsz := e0.bsz, noex := fun a _ _ z => nx a z
    exfs := fun a z => (nx a z).elim, funs := e0.funs, frf := e0.frf }
  refine { ok := lam, os := rfl, bare := e0.bare, base := Un.kept kp, loc := ⟨_, ns, fun i y v h1 h2 h3 => ?_⟩, cell := fun y d e => ?_, free := e0.hok.fresh (Nat.le_refl _), freeC := fun y d e => ?_, pin := fun p hp => ?_, hok := e0.hok.kept kp, len := I.len }
  · have h3' : Vis scope y := h3
    rcases h3' with z | z | z
    · exact absurd (List.mem_of_getElem? h1) (L.loc _ (PySem.mem_of_lookup z) rfl)
    · exact absurd rfl (L.cel _ (PySem.mem_of_lookup z))
    · obtain ⟨m, _, look⟩ := I.loc
      have cap := L.free _ (PySem.mem_of_lookup z) rfl
      obtain ⟨u, r, at_⟩ := look i y v h1 h2 (.inr cap)
      obtain ⟨d, hd⟩ := up z
      refine ⟨u, r, .inr ⟨.inr z, d, hd, ?_⟩⟩
      rcases at_ with ⟨k1, _⟩ | ⟨_, d2, h4, h5⟩
      · have k1' : X.env.scope.names.lookup y = some .local := k1
        have cap' : X.env.scope.names.lookup y = some .cell ∨ X.env.scope.names.lookup y = some .free := cap
        rw [k1'] at cap'
        rcases cap' with q | q <;> cases q
      · rw [down hd] at h4
        cases h4
        exact cel (I.freeC y d (down hd)) h5
  · obtain ⟨v, q⟩ := I.cell y d (down e)
    exact ⟨v, cel (I.freeC y d (down e)) q⟩
  · obtain ⟨v, o, ho, hd⟩ := I.cell y d (down e)
    exact un.free d o ho (I.freeC y d (down e)) (by simp)
  · have hp' : p ∈ ([] : List (Addr × Obj)) ++ [] := hp
    simp at hp'
/-- what the lambda's defaults are: none, or one, in a tuple of its own -/
def DflOk (X : Cx) (q : Arguments) (b : Expr) (sc : Scope) (dV : Value) (bs : List (Str × Value)) (H : Hp) (s : Shared) : Prop :=
  (dV = .none ∧ ∀ (qn : Str) (cl : List (Str × Addr)) (doc pm cv ct : Value), bindArgs (PySem.W.kdv_fn "<lambda>" qn q (.expr b) sc cl .none doc pm cv ct) ⟨[], []⟩ = pure bs) ∨
  ∃ (t : Addr) (vs : List Value), dV = .ref t ∧ s.heap.get? t = some (PySem.W.kdv_tup vs) ∧ H t = none ∧ t ∉ frs X.stack ∧
    ∀ (qn : Str) (cl : List (Str × Addr)) (doc pm cv ct : Value), ∃ k, bindArgs (PySem.W.kdv_fn "<lambda>" qn q (.expr b) sc cl (.ref t) doc pm cv ct) ⟨[], []⟩ = seqItems? (.ref t) >>= k ∧ k (some vs.toArray) = pure bs
/-- x(), where x is the def's parameter: the lambda's body is read with the maker's slots -/
theorem lamAct {CXg : CXT} {Eg : XK} {Ng : List Str} {qg : Str} {sg : Scope} {gg f c' : Addr} {cdg doc pm ctv dV : Value} {q : Arguments} {b : Expr} {scope : Scope} {k i : Nat} {a : Str} {bs : List (Str × Value)} {pn : List (Addr × Obj)} {xe : Value → Shared → Prop} {W : WX} {E : XK} {tb : TE} {p1 p2 : Pos}
    (I : Inv X pins σ H s) (L : LamN X.N (bs.map (·.1)) X.env.scope scope) (md : Made X q b scope dV H f c' doc pm ctv s) (df : DflOk X q b scope dV bs H s)
    (tk : Takes ((cxOf CXg X.prog X.w X.K X.mg X.base Ng qg sg gg cdg X.A X.stack s H Eg).tr pn xe) W) (hW : ∀ cls d σ' H', E cls d H' → W cls d σ' H') (hr : Room (k + 1) (X.A.deeper (PyProof.Rows.envOfC qg sg s.heap.objs.size gg cdg)))
    (hbody : ∀ (s1 : Shared) (H1 : Hp), Room k ((X.A.deeper (PyProof.Rows.envOfC qg sg s.heap.objs.size gg cdg)).deeper (lamEnv X scope s1.heap.objs.size f c')) →
      PE (lamCx X (X.A.deeper (PyProof.Rows.envOfC qg sg s.heap.objs.size gg cdg)) (PyProof.Rows.envOfC qg sg s.heap.objs.size gg cdg :: X.stack) s1 H1 E scope f c') b tb)
    (hN : Ng[i]? = some a) (hv : Vis sg a) (nd : (a == ("__debug__" : Str)) = false := by decide) (nc : (a == ("__classdict__" : Str)) = false := by decide) :
    PE ((cxOf CXg X.prog X.w X.K X.mg X.base Ng qg sg gg cdg X.A X.stack s H Eg).tr pn xe) (.Call (.Name a p1) [] [] p2)
      (fun σZ HZ Q => σZ[i]? = some (some (.ref f)) ∧ HZ c' = some (CodeO c' (lamQ X)) ∧ tb σ HZ Q) := by
  refine ⟨fun pz sz σz Hz Q Iz ⟨at_, co, want⟩ => wpAny_Call_Name_kw (thn ((pe_var (pos := p1) hN hv nd nc).run pz sz σz Hz (fun v H1 => v = .ref f ∧ H1 = Hz) Iz ⟨.ref f, at_, rfl, rfl⟩) fun u u1 ⟨v, H1, I1, r1, ev, eH⟩ => ?_)⟩
  subst ev
  subst eH
  obtain rfl : u = Value.ref f := r1
  have keep : ∀ (a : Addr) (o : Obj), s.heap.get? a = some o → H a = none → a ∉ frs X.stack → u1.heap.get? a = some o := fun a o h1 h2 h3 => I1.base.keep a o h1 h2 h3 (fun z => by
    have z' : a ∈ ([] : List Addr) := z
    cases z')
  have of1 := keep _ _ md.at_ md.no md.nf
  refine PySem.W.callWith_F0 ⟨_, _, _, _, of1⟩ ?_
  obtain ⟨⟨oc, us, t, h1, h2, h3⟩, _, _⟩ := I1.hok c' _ co
  have bnd : BindsTo u1 (PySem.W.kdv_fn "<lambda>" (lamQ X) q (.expr b) scope (cloFrom X.env.cells scope.names []) dV doc pm (.ref c') ctv) ⟨[], []⟩ bs := by
    rcases df with ⟨rfl, e⟩ | ⟨t, vs, rfl, e1, e2, e3, e4⟩
    · exact BindsTo.of_eq (e _ _ _ _ _ _)
    · obtain ⟨k, b1, b2⟩ := e4 (lamQ X) (cloFrom X.env.cells scope.names []) doc pm (.ref c') ctv
      exact BindsTo.of_defaults rfl (keep _ _ e1 e2 e3) rfl b1 b2
  refine wpAny_call (codeAny_mono (R := CR (L2.CX X.prog X.w) (PyProof.Rows.envOfC qg sg s.heap.objs.size gg cdg :: X.stack) X.prog X.w H1 u1 Q E) (PySem.W.kla_callFunE hr.depth of1 rfl L.co L.gen rfl ⟨c', oc, us, t, rfl, h1, h2, h3⟩ (bnd _ _ _ _ ?_)) fun r s2 end_ => ?_)
  · refine wpAny_newFunctionEnv (fun y hy => L.cel y hy) (fun y hy => L.par _ (List.mem_map_of_mem hy)) (fun g ns ext => ⟨I1.nolimit.fresh _ ext, ?_⟩) L.kind
    have kp : ∀ a o, u1.heap.get? a = some o → g.get? a = some o := fun a o e => ext.extBut a o (Nat.ne_of_lt (Heap.lt_size e)) (Heap.get?_push_of_some _ e)
    have J : Inv (lamCx X (X.A.deeper (PyProof.Rows.envOfC qg sg s.heap.objs.size gg cdg)) (PyProof.Rows.envOfC qg sg s.heap.objs.size gg cdg :: X.stack) u1 H1 E scope f c') [] σ H1 { u1 with heap := g, toks := u1.toks + bs.length } := lamStart I L I1.env0 hr.hd I1.base ns kp
    exact PySem.W.kla_codeExpr (wpAny_mono ((hbody u1 H1 (hr.deeper _)).run [] _ _ H1 Q J want) (fun v s' ⟨v1, H2, J2, rv, q2⟩ => ⟨v1, H2, J2.os, J2.bare, J2.base, J2.hok, rv, q2⟩) fun e s' z => z)
  · cases r with
    | error e => exact (passes_call tk hW) pz σz H1 u1 e s2 I1 end_
    | ok fl =>
      cases fl with
      | ret u => exact I1.after end_
      | next => exact end_.elim
      | brk => exact end_.elim
      | cont => exact end_.elim
end
end HW

/-! Y3: one except clause over a tuple of classes, whose error is kept behind it -/
namespace HW
open PySem PySem.Spec PyProof.Rows L2 LamX
/-! a tuple of classes -/
section
variable {M : Model} {A : Around} {E : Value → Shared → Prop} {s : Shared} {α β : Type}
theorem forIn_yes {f : α → PUnit → Sem (ForInStep PUnit)} {Q : PUnit → Shared → Prop} : ∀ {l : List α}, (∀ c ∈ l, ∀ Q' : ForInStep PUnit → Shared → Prop, Q' (.yield ⟨⟩) s → wpAny M A (f c ⟨⟩) Q' E s) → Q ⟨⟩ s → wpAny M A (forIn l PUnit.unit f) Q E s
  | [], _, q => by rw [List.forIn_nil]; exact wpAny_pure q
  | c :: r, h, q => by
    rw [List.forIn_cons]
    exact wpAny_bind (h c List.mem_cons_self _ (forIn_yes (fun d hd => h d (List.mem_cons_of_mem _ hd)) q))
theorem forIn_any {f : α → β → Sem (ForInStep β)} {b0 b1 : β} {g : α → Bool} {Q : β → Shared → Prop} : ∀ {l : List α}, (∀ c ∈ l, ∀ Q' : ForInStep β → Shared → Prop, Q' (if g c = true then .done b1 else .yield b0) s → wpAny M A (f c b0) Q' E s) → Q (if l.any g = true then b1 else b0) s → wpAny M A (forIn l b0 f) Q E s
  | [], _, q => by rw [List.forIn_nil]; exact wpAny_pure q
  | c :: r, h, q => by
    rw [List.forIn_cons]
    refine wpAny_bind (h c List.mem_cons_self _ ?_)
    rw [List.any_cons] at q
    cases e : g c with
    | true =>
      rw [e] at q
      exact wpAny_pure q
    | false =>
      rw [e] at q
      exact forIn_any (fun d hd => h d (List.mem_cons_of_mem _ hd)) q
end
theorem exm_tupN {M : Model} {K : PySem.W.Frag} {its : List Value} {cls : Value} {tp e : Addr} {h : Heap} {g : Value → Bool} (X : K.In h) (LT : PySem.W.Looks M h (typeOf (.ref e)) cls) (hp : h.get? tp = some { cls := .type "tuple", data := .seq its.toArray }) (hx : ∀ c ∈ its, PySem.W.exmOne K cls c = some (g c)) :
    PySem.W.Looks M h (excMatches (.ref e) (.ref tp)) (its.any g) := by
  intro A Q E s k0 q
  have k : ∀ b o, h.get? b = some o → s.heap.get? b = some o := k0
  have isT : PySem.W.Looks M h (isInstance (.ref tp) (.type "tuple")) true := ((PySem.W.Looks.ld hp).andThen .now).andThen (PySem.W.Looks.of_pure isSubtype_tuple_tuple)
  unfold excMatches
  refine wpAny_bind ((isT.keeps k).here ?_)
  rw [if_pos rfl]
  refine wpAny_bind (wpAny_seqItems (k _ _ hp) rfl (wpAny_bind (wpAny_pure ?_)))
  simp only [Option.getD_some]
  refine wpAny_bind (forIn_yes (fun c hc Q' q' => ?_) ?_)
  · refine wpAny_bind (((PySem.W.exm_cls (M := M) X (hx c hc)).1.keeps k).here ?_)
    simp only [Bool.not_true, Bool.false_eq_true, if_false]
    first
      | exact wpAny_pure q'
      | exact wpAny_bind (wpAny_pure (wpAny_pure q'))
  · refine wpAny_bind ((LT.keeps k).here ?_)
    refine wpAny_bind (forIn_any (g := g) (b1 := (some true, ())) (fun c hc Q' q' => ?_) ?_)
    · refine wpAny_bind (((PySem.W.exm_cls (M := M) X (hx c hc)).2.keeps k).here ?_)
      cases e2 : g c with
      | true =>
        rw [e2] at q'
        simp only [if_true]
        exact wpAny_pure q'
      | false =>
        rw [e2] at q'
        simp only [Bool.false_eq_true, if_false]
        exact wpAny_pure q'
    · cases e3 : its.any g with
      | true =>
        rw [e3] at q
        exact wpAny_pure q
      | false =>
        rw [e3] at q
        exact wpAny_pure q
end HW

/-! Y4: try with one clause over a tuple of classes; behind it the error is an object like others -/
namespace HW
open PySem PySem.Spec PyProof.Rows L2 LamX
/-- an error that is kept: of the class cls, its own dict at d -/
def ExV (cls : Value) (d : Option Addr) (a : Addr) : HO := .ext fun h => ∃ (o : Obj) (vs : Array Value), h.get? a = some o ∧ Zc cls d o ∧ o.data = .fields vs
section
variable {X : Cx} {pins : List (Addr × Obj)} {σ : L2.St} {H : Hp} {s : Shared} {a : Addr} {o : Obj} {cls : Value} {d : Option Addr}
theorem adopt (I : Inv X pins σ H s) (e : s.heap.get? a = some o) (z : Zc cls d o) (hd : ∃ vs, o.data = .fields vs) (na : H a = none) (nL : a ≠ X.env.locals) (n0 : X.s_0.heap.get? a = none) (np : ∀ p ∈ X.pn ++ pins, p.1 ≠ a) : Inv X pins σ (upd H a (ExV cls d a)) s := by
  have old : ∀ {b : Addr} {u : HO}, H b = some u → b ≠ a := fun e1 z => by rw [z, na] at e1; cases e1
  have up : ∀ {b : Addr} {u : HO}, H b = some u → upd H a (ExV cls d a) b = some u := fun e1 => by rw [upd_ne (old e1)]; exact e1
  have off : ∀ {b : Addr}, b ≠ a → H b = none → upd H a (ExV cls d a) b = none := fun n e1 => by rw [upd_ne n]; exact e1
  have ne0 : ∀ {b : Addr} {u : Obj}, X.s_0.heap.get? b = some u → b ≠ a := fun e1 z => by rw [z, n0] at e1; cases e1
  obtain ⟨vs, hd⟩ := hd
  refine { ok := I.ok, os := I.os, bare := I.bare, base := ⟨I.base.keep, I.base.slot, fun b u e1 e2 e3 => off (ne0 e1) (I.base.free b u e1 e2 e3), I.base.there, fun b xs e1 => up (I.base.tups b xs e1), fun b u v e1 => up (I.base.frzs b u v e1), fun b ps e1 => let ⟨m, q⟩ := I.base.tbls b ps e1; ⟨m, up q⟩⟩
           loc := I.loc, cell := I.cell, free := off (fun z => nL z.symm) I.free, freeC := fun x c e1 => off (fun z => ?_) (I.freeC x c e1), pin := fun p hp => ?_, hok := fun b u e1 => ?_, len := I.len }
  · obtain ⟨v, oc, h1, h2⟩ := I.cell x c e1
    rw [z, e] at h1
    cases h1
    rw [hd] at h2
    cases h2
  · obtain ⟨h1, h2, h3⟩ := I.pin p hp
    exact ⟨h1, off (np p hp) h2, h3⟩
  · by_cases hb : b = a
    · rw [hb, upd_same] at e1
      cases e1
      rw [hb]
      exact ⟨⟨o, vs, e, z, hd⟩, ⟨o, e⟩, fun h1 h2 ⟨o1, v1, k1, k2, k3⟩ k => ⟨o1, v1, k _ k1, k2, k3⟩⟩
    · rw [upd_ne hb] at e1
      exact (I.hok b u e1).stay (fun _ _ _ q => q) (fun _ q => up q) fun _ _ q => up q
end
theorem flyZ_keeps {B : Heap} {l : List Env} {a : Addr} {Z : Obj → Prop} {h h' : Heap} (k : ∀ b o, h.get? b = some o → h'.get? b = some o) : HandSPX.FlyingZ B l a Z h → HandSPX.FlyingZ B l a Z h'
  | ⟨f1, f2, f3, oe, vs, T, oT, ts, g1, g2, g3, g4, g5, g6, g7, g8, g9⟩ => ⟨fun b o e => k b o (f1 b o e), f2, f3.of_keeps fun b o e _ => ⟨o, k b o e, rfl⟩, oe, vs, T, oT, ts, k _ _ g1, g2, g3, g4, g5, g6, k _ _ g7, g8, g9⟩
/-- names of classes, and what they are -/
inductive NamesT (X : Cx) : List Expr → List Value → Prop
  | nil : NamesT X [] []
  | cons {x : Str} {c : Value} {p : Pos} {es : List Expr} {cs : List Value} : Gl X x → (x == ("__debug__" : Str)) = false → X.mg x = some c → NamesT X es cs → NamesT X (.Name x p :: es) (c :: cs)
theorem NamesT.run {X : Cx} {Y : Cx} {pins : List (Addr × Obj)} {σ : L2.St} {H : Hp} {s : Shared} {E : Value → Shared → Prop} {pos : Pos} (I : Inv Y pins σ H s) (e1 : Y.env = X.env) (e2 : Y.mg = X.mg) : ∀ {es : List Expr} {cs : List Value} {Q : List Value → Shared → Prop}, NamesT X es cs → Q cs s → wpAny (model Y.prog Y.w) Y.A (spliced (backTo pos (starEach es Y.env))) Q E s
  | _, _, _, .nil, q => Calls.spliced_nil q
  | _, _, _, .cons (x := x) (c := c) (p := p) (es := es) g nd m r, q => by
    show wpAny _ _ (spliced ((false, eval (.Name x p) Y.env) :: backTo pos (starEach es Y.env))) _ _ _
    exact Calls.spliced_cons (ld_glob I (show Gl Y x from by unfold Gl; rw [e1]; exact g) (e2 ▸ m) (NamesT.run I e1 e2 r q) nd)
theorem NamesT.len {X : Cx} : ∀ {es : List Expr} {cs : List Value}, NamesT X es cs → cs.length = es.length
  | _, _, .nil => rfl
  | _, _, .cons _ _ _ r => congrArg (· + 1) r.len
/-- the ends behind the clause: the name is gone, the error stays -/
def goneA (a : Addr) (cls : Value) (d : Option Addr) (D : Ends) (i : Nat) : Ends :=
  { nx := fun σ H => D.nx (σ.set i none) (upd H a (ExV cls d a)), rt := fun v H => D.rt v (upd H a (ExV cls d a)), bk := fun σ H => D.bk (σ.set i none) (upd H a (ExV cls d a)), ct := fun σ H => D.ct (σ.set i none) (upd H a (ExV cls d a)) }
def wClT (K : PySem.W.Frag) (Wo : WX) (D : Ends) (cs : List Value) (i : Nat) (ts : Addr → Value → Option Addr → TS) : WX := fun cls d σ H => ∃ g : Value → Bool, (∀ c ∈ cs, PySem.W.exmOne K cls c = some (g c)) ∧ (cs.any g = true → ∀ a, H a = none → ts a cls d (goneA a cls d D i) (σ.set i (some (.ref a))) H) ∧ (cs.any g = false → Wo cls d σ H)
section
variable {X : Cx} {body su : List Stmt} {b₀ : Stmt} {es : List Expr} {cs : List Value} {n : Str} {i k : Nat} {p1 p2 pos : Pos} {tb : WX → TS} {Wo : WX} {ts : Addr → Value → Option Addr → TS}
theorem ps_tryT (hs : X.stack = X.env :: X.outer) (hf : X.env.frame = some X.env.locals) (hx : X.ex = []) (hN : X.N.Nodup) (hi : X.N[i]? = some n) (hl : X.env.kindOf n = some .local) (tk : Takes X Wo) (nm : NamesT X es cs) (few : es.length ≤ 1000)
    (hb : ∀ (W : WX) (pn : List (Addr × Obj)) (xe : Value → Shared → Prop), Takes (X.tr pn xe) W → PassesOwn (model X.prog X.w) X.A X.env xe → PSs (X.tr pn xe) body (tb W))
    (hsu : ∀ (a : Addr) (oe : Obj) (cls : Value) (d : Option Addr) (pn : List (Addr × Obj)), Zc cls d oe → (∃ vs, oe.data = .fields vs) → PSs (X.suite a ((a, oe) :: pn)) (b₀ :: su) (ts a cls d)) :
    PS X (.Try body [.ExceptHandler (some (.Tuple es k p1)) (some n) (b₀ :: su) p2] [] [] pos) (fun D σ H => tb (wClT X.K Wo D cs i ts) D σ H) := by
  refine ⟨fun pins s σ H D I h => ?_⟩
  have ok := I.ok
  have frm : X.A.frames = some (X.env :: X.outer) := ok.frames.trans (congrArg some hs)
  refine wpAny_Try_except (wpAny_mono ((hb (wClT X.K Wo D cs i ts) (X.pn ++ pins) (fun e u1 => wpAny (model X.prog X.w) X.A (noteFrame e X.env) (fun _ u2 => wpAny (model X.prog X.w) X.A (setFlight e none) (fun _ u3 =>
    wpAny (model X.prog X.w) X.A (handleBy e X.env [.ExceptHandler (some (.Tuple es k p1)) (some n) (b₀ :: su) p2]) (SP X pins D) X.xe u3) X.xe u2) X.xe u1) (fun u s' air => ?_) PassesOwn.looking).run [] s σ H D (I.toTry _) h) (fun f s1 ends => ?_) (fun e s1 z => z))
  · obtain ⟨a, B, sI, ps', τ, T, cls, d, rfl, Jt, nb, up, sky, na, os, ag, g, hg, yes, no⟩ := air
    have J : Inv X pins τ T sI := Jt.ofTry ok
    rw [show (X.tr (X.pn ++ pins) _).stack = X.env :: X.outer from hs] at sky
    have nB : B.get? a = none := by
      rcases sky with ⟨_, z, _⟩ | ⟨_, z, _⟩ | ⟨_, z, _⟩ <;> exact z
    show wpAny (model X.prog X.w) X.A (noteFrame (.ref a) X.env) _ _ _
    refine Sky.land Zc.steady frm hf sky fun h3 fl up3 => ?_
    have J3 : Inv X pins τ T { s' with heap := h3 } := J.landed nb fl.1 (up.trans up3) os ag
    obtain ⟨ob, fv, e3, z3, d3⟩ := fl.there
    have out : a ∉ frs (X.env :: X.outer) := fun hm => by
      obtain ⟨_, o', e', no'⟩ := fl.2.2.1.mem hm
      rw [e3] at e'
      cases e'
      exact no' _ d3
    have nL : a ≠ X.env.locals := fun z => out (List.mem_filterMap.mpr ⟨_, List.mem_cons_self, hf.trans (congrArg some z.symm)⟩)
    have nF : a ∉ X.fs := fun hm => by
      obtain ⟨y, hy, q⟩ := List.mem_filterMap.mp hm
      exact out (List.mem_filterMap.mpr ⟨y, List.mem_cons_of_mem _ hy, q⟩)
    have nI : sI.heap.get? a = none := by
      cases e : sI.heap.get? a with
      | none => rfl
      | some o =>
        have := nb a o e (by rw [show (X.tr (X.pn ++ pins) _).stack = X.env :: X.outer from hs]; exact out)
        rw [nB] at this
        cases this
    have n0 : X.s_0.heap.get? a = none := by
      cases e : X.s_0.heap.get? a with
      | none => rfl
      | some o =>
        obtain ⟨o', e'⟩ := J.base.there a o e (by rw [hx]; simp)
        rw [nI] at e'
        cases e'
    have np : ∀ p ∈ X.pn ++ pins, p.1 ≠ a := fun p hp z => by
      have := (J.pin p hp).1
      rw [z, nI] at this
      cases this
    have S3 := J3.suite e3 d3 na nL nF
    have kp : ∀ b o, h3.get? b = some o → (h3.push { cls := .type "tuple", data := .seq cs.toArray }).get? b = some o := fun b o e => Heap.get?_push_of_some _ e
    have fl' := flyZ_keeps kp fl
    have up' : h3.UpToSlots (h3.push { cls := .type "tuple", data := .seq cs.toArray }) := Heap.UpToSlots.of_keeps kp
    have look : PySem.W.Looks (model X.prog X.w) (h3.push { cls := .type "tuple", data := .seq cs.toArray }) (typeOf (.ref a)) cls := fun A Q E u kq q => wpAny_typeOf_ref (kq _ _ (kp _ _ e3)) (z3.1 ▸ q)
    have J5 : Inv X pins τ T { s' with heap := h3.push { cls := .type "tuple", data := .seq cs.toArray } } := J.landed nb fl'.1 ((up.trans up3).trans up') os ag
    refine wpAny_handleBy_cons (codeAny_handlers_test (wpAny_Tuple (NamesT.run (X := X) (Y := X.suite a ((a, ob) :: (X.pn ++ pins))) S3 rfl rfl nm ⟨by rw [nm.len]; exact Nat.le_trans few (by decide), ?_⟩))) nofun
    refine (exm_tupN (M := model X.prog X.w) J5.kIn look (Heap.get?_push_size _ rfl) hg).here ?_
    have land : ∀ {Q : Unit → Shared → Prop} {E : Value → Shared → Prop}, (∀ h4 ob4, Zc cls d ob4 → (∃ fv, ob4.data = .fields fv) → Inv (X.suite a ((a, ob4) :: (X.pn ++ pins))) [] τ T { s' with heap := h4 } → Q () { s' with heap := h4 }) →
        wpAny (model X.prog X.w) (X.A.mark (some (.ref a))) (setFlight (.ref a) none) Q E { s' with heap := h3.push { cls := .type "tuple", data := .seq cs.toArray } } := fun {Q E} q => HandSPX.lands_againZ fl' fun h4 fl4 up4 => by
      have J4 : Inv X pins τ T { s' with heap := h4 } := J.landed nb fl4.1 (((up.trans up3).trans up').trans up4) os ag
      obtain ⟨o4, f4, e4, z4, d4⟩ := fl4.there
      exact q h4 o4 z4 ⟨_, d4⟩ (J4.suite e4 d4 na nL nF)
    cases hb1 : cs.any g with
    | false =>
      refine wpAny_handleBy_nil ?_
      obtain ⟨_, _, _, oe, vs, tb', _, _, he, _, hd, h1, _⟩ := id fl'
      unfold PySem.passOn
      refine wpAny_bind (wpAny_field he hd h1 ?_)
      rw [if_neg (show ¬ ((Value.ref tb' == Value.none) = true) from by simp)]
      have fin : wpAny (model X.prog X.w) X.A (setFlight (.ref a) X.env.frame) (fun _ u4 => wpAny (model X.prog X.w) X.A (throw (.ref a) : Sem Flow) (SP X pins D) X.xe u4) X.xe { s' with heap := h3.push { cls := .type "tuple", data := .seq cs.toArray } } := by
        rw [hf]
        exact HandSPX.setFlight_upZ fl' fun h4 hh4 up4 => wpAny_throw (tk _ _ ⟨a, B, sI, pins, τ, T, cls, d, rfl, J, nb, ((up.trans up3).trans up').trans up4, .inr (.inr (by rw [hs]; exact hh4)), na, os, ag, no hb1⟩)
      first
        | exact wpAny_bind (wpAny_pure (wpAny_bind fin))
        | exact wpAny_bind fin
    | true =>
      refine codeAny_handlers_suite_as (land fun h4 o4 z4 d4 S4 => ?_)
      refine store_ok (X := X.suite a ((a, o4) :: (X.pn ++ pins))) (v := .ref a) S4 hN hi (.inl hl) rfl (fun u5 S5 => ?_) (.inr hl)
      refine wpAny_mono ((hsu a o4 cls d (X.pn ++ pins) z4 d4).run [] u5 _ T _ S5 (yes hb1 a na)) (fun f u6 q => ?_) fun _ _ z => False.elim z
      have bye : ∀ {τ6 : L2.St} {T6 : Hp} {Q : Shared → Prop}, Inv (X.suite a ((a, o4) :: (X.pn ++ pins))) [] τ6 T6 u6 → (∀ u7, Inv X pins (τ6.set i none) (upd T6 a (ExV cls d a)) u7 → Q u7) → wpAny (model X.prog X.w) X.A (do bindName X.env n .none; unbindBehindTheSuite X.env n p2) (fun _ u7 => Q u7) X.xe u6 := by
        intro τ6 T6 Q S6 q6
        have S6' : Inv X ((a, o4) :: pins) τ6 T6 u6 := { ok := ok, os := S6.os, bare := S6.bare, base := S6.base, loc := S6.loc, cell := S6.cell, free := S6.free, freeC := S6.freeC, hok := S6.hok, len := S6.len
                                                         pin := fun p hp => S6.pin p (by
                                                           show p ∈ ((a, o4) :: (X.pn ++ pins)) ++ []
                                                           rw [List.append_nil]
                                                           rcases List.mem_append.mp hp with z | z
                                                           · exact List.mem_cons_of_mem _ (List.mem_append_left _ z)
                                                           · rcases List.mem_cons.mp z with z | z
                                                             · rw [z]; exact List.mem_cons_self
                                                             · exact List.mem_cons_of_mem _ (List.mem_append_right _ z)) }
        refine gone_ok S6' hN hi hl fun u7 J7 => q6 u7 ?_
        obtain ⟨g1, g2, g3, g4, g5⟩ := J7.pin (a, o4) (List.mem_append_right _ List.mem_cons_self)
        have J8 : Inv X pins (τ6.set i none) T6 u7 := { ok := ok, os := J7.os, bare := J7.bare, base := J7.base, loc := J7.loc, cell := J7.cell, free := J7.free, freeC := J7.freeC, hok := J7.hok, len := J7.len
                                                        pin := fun p hp => J7.pin p ((List.mem_append.mp hp).elim (fun z => List.mem_append_left _ z) fun z => List.mem_append_right _ (List.mem_cons_of_mem _ z)) }
        exact adopt J8 g1 z4 d4 g2 nL n0 np
      cases f
      case ret u => obtain ⟨v6, τ6, T6, S6, r6, q6⟩ := q; exact bye S6 fun u7 J7 => ⟨_, _, _, J7, r6, q6⟩
      all_goals (obtain ⟨τ6, T6, S6, q6⟩ := q; exact bye S6 fun u7 J7 => ⟨_, _, J7, q6⟩)
  · have q := sp_out (fun S => Inv.ofTry S ok) ends
    cases f with
    | next => exact wpAny_execs_nil q
    | brk => exact q
    | cont => exact q
    | ret u => exact q
end
end HW

/-! Y5: isinstance of an error that is kept, and its attributes -/
namespace HW
open PySem PySem.Spec PyProof.Rows L2 LamX
/-- what a class of errors says of its own, as far as isinstance asks -/
structure VcOk (K : PySem.W.Frag) (D : Addr) : Prop where
  cl : (PySem.W.clsIn K D).isSome = true
  ga : PySem.W.findIn K (.ref D) "__getattribute__" = some (some (.builtin "BaseException.__getattribute__"))
  gt : PySem.W.findIn K (.ref D) "__getattr__" = some none
  sb : PySem.W.subIn K (.ref D) (.type "BaseException") = some true
  ca : PySem.W.findIn K (.ref D) "__class__" = some (some (.builtin "object.__class__"))
  sp : PySem.W.specialIn K (.builtin "object.__class__") "__get__" = some (some (.builtin "getset_descriptor.__get__"))
  tk : PySem.W.takesIn K (.builtin "object.__class__") = some true
  mr : PySem.W.mroIn K D (.type "object") = some true
/-- the error's dict is known, if it has one -/
def DcOk (H : Hp) (d : Option Addr) : Prop := d = none ∨ ∃ dd fs, d = some dd ∧ H dd = some (.xd fs)
theorem exV_inst {P : Program} {w : World} {H : Hp} {h : Heap} {a D : Addr} {d : Option Addr} (ok : HOk P w H h) (e : H a = some (ExV (.ref D) d a)) (hd : DcOk H d) : ∃ ox od, PySem.W.InstAt h a ox D od := by
  have z : ObjOk P w H h a (ExV (.ref D) d a) := ok a _ e
  obtain ⟨⟨o, vs, e1, e2, e3⟩, _, _⟩ := z
  have nc : PySem.W.notCls o = true := by unfold PySem.W.notCls; rw [e3] <;> rfl
  rcases hd with rfl | ⟨dd, fs, rfl, e4⟩
  · exact ⟨o, none, e1, e2.1, nc, by rw [e2.2]; trivial⟩
  · have y : ObjOk P w H h dd (.xd fs) := ok dd _ e4
    obtain ⟨mA, hns, _⟩ := y
    obtain ⟨od, ho, _⟩ := lookIn_ns hns
    exact ⟨o, some od, e1, e2.1, nc, by rw [e2.2]; exact ho⟩
def rIsV (K : PySem.W.Frag) : List V → Hp → VK → Prop := fun xs H Q => ∃ (a D : Addr) (d : Option Addr) (c : V) (cv : Value) (b : Bool), xs = [.ref a, c] ∧ H a = some (ExV (.ref D) d a) ∧ DcOk H d ∧ VcOk K D ∧ (∀ u, RelV c u → u = cv) ∧ PySem.W.kitOne K (.ref D) cv = some b ∧ Q (.bl b) H
theorem call_isV {X : Cx} : CallR X (.builtin "isinstance") (rIsV X.K) := by
  intro pins s σ H xs us Q I r h
  obtain ⟨a, D, d, c, cv, b, rfl, e, hd, T, hc, hk, q⟩ := h
  obtain ⟨u, u2, rfl, ru, ru2⟩ := vals2 r
  obtain rfl : u = Value.ref a := ru
  cases hc _ ru2
  obtain ⟨ox, od, J⟩ := exV_inst I.hok e hd
  exact PySem.W.kia_one (PySem.W.kitx_exc T.cl T.ga T.gt T.sb T.ca T.sp T.tk T.mr) I.kIn J hk (fun z => nomatch z) fun tk => ⟨.bl b, H, I.kept (t' := tk) fun _ _ z => z, rfl, q⟩
/-- e.f -/
def tVf (K : PySem.W.Frag) (f : Str) (te : TE) : TE := fun σ H Q => te σ H fun x H1 => ∃ (a D dd : Addr) (fs : List (Str × V)) (v : V), x = .ref a ∧ H1 a = some (ExV (.ref D) (some dd) a) ∧ H1 dd = some (.xd fs) ∧ XfC K D ∧ PySem.W.findIn K (.ref D) f = some none ∧ fs.lookup f = some v ∧ Q v H1
theorem pe_vf {X : Cx} {e : Expr} {te : TE} {pos : Pos} {f : Str} (he : PE X e te) (hb : attributeBase e f X.env (eval e X.env) = eval e X.env := by rfl) : PE X (.Attribute e f pos) (tVf X.K f te) := by
  refine ⟨fun pins s σ H Q I h => attr_of hb (thn (he.run pins s σ H _ I h) fun u s1 hh => ?_)⟩
  obtain ⟨x, H1, I1, rx, a, D, dd, fs, v, rfl, e1, e2, T, nf, l, q⟩ := hh
  obtain rfl : u = Value.ref a := rx
  have z : ObjOk X.prog X.w H1 s1.heap a (ExV (.ref D) (some dd) a) := I1.hok a _ e1
  obtain ⟨⟨o, vs, g1, g2, g3⟩, _, _⟩ := z
  have y : ObjOk X.prog X.w H1 s1.heap dd (.xd fs) := I1.hok dd _ e2
  obtain ⟨mA, hns, hr⟩ := y
  obtain ⟨od, ho, hl⟩ := lookIn_ns hns
  obtain ⟨u, hu, ru⟩ := RelO.some_of (v := v) (o := mA f) (by rw [← l]; exact hr f)
  have J : PySem.W.InstAt s1.heap a o D (some od) := ⟨g1, g2.1, by unfold PySem.W.notCls; rw [g3] <;> rfl, by rw [g2.2]; exact ho⟩
  exact HandSPX.exc_get I1.kIn J T.ga T.gg T.exC (PySem.W.findObj_own T.hdC nf rfl (by rw [hl, hu])) (handed_of ru) ⟨v, H1, I1.tok _, ru, q⟩
end HW

/-! Y6: a def whose parameter is a kept error: its rows `if isinstance(e, C): found.append((tag, e.f))` -/
namespace HW
open PySem PySem.Spec PyProof.Rows L2 LamX
/-- slot 0 holds the kept error at a, which bears x -/
structure Fx (K : PySem.W.Frag) (mg : Str → Option Value) (w : W) (σ : L2.St) (a D : Addr) (d : Option Addr) (x : Xd) : Prop where
  s0 : σ[0]? = some (some (.ref a))
  ha : w.H a = some (ExV (.ref D) d a)
  na : a ∉ w.R
  xo : XOk K mg w (.ref D) d x
section
variable {K : PySem.W.Frag} {M : MI} {mg : Str → Option Value} {w0 w w1 : W} {σ : L2.St} {ρ : List En} {a D : Addr} {d : Option Addr} {x : Xd}
theorem Fx.stp (f : Fx K mg w σ a D d x) (s : Stp w w1) (g : Gd M w) : Fx K mg w1 σ a D d x := ⟨f.s0, s.k _ _ f.ha f.na, r_up s f.ha f.na, f.xo.stp s g⟩
theorem Fx.dc (f : Fx K mg w σ a D d x) : DcOk w.H d := by
  rcases f.xo.2 with ⟨e, _⟩ | ⟨dd, fvs, e1, e2, _⟩
  · exact .inl e
  · exact .inr ⟨dd, fvs, e1, e2⟩
theorem FsOk.put {p : Addr} {o : HO} (n : ¬ w.F p) {fs : List (Str × V)} {ds : List (Str × HW.D)} (h : FsOk K w fs ds) : FsOk K (w.own p o) fs ds := h.fk (fk_put n)
theorem fx_app {ds : List HW.D} {v : V} {y : HW.D} (so : SOk M K w0 w σ ρ) (f : Fx K mg w σ a D d x) (r1 : ρ[1]? = some (.ls ds)) (s : Stp w w1) (g : Gd M w1) (dv : Dv K w1.F w1.H v y) :
    ∃ (p : Addr) (vs : List V), σ[1]? = some (some (.ref p)) ∧ w1.H p = some (.lst vs) ∧ vs.length = ds.length ∧ SOk M K w0 (w1.own p (.lst (vs ++ [v]))) σ (ρ.set 1 (.ls (ds ++ [y]))) ∧ Fx K mg (w1.own p (.lst (vs ++ [v]))) σ a D d x ∧ Fk w (w1.own p (.lst (vs ++ [v]))) := by
  have so1 : SOk M K w0 w1 σ ρ := so.stp s g
  have f1 := f.stp s so.gd
  obtain ⟨p, vs, y1, y2, y3, y4, y5⟩ := so1.ev.ok 1 _ r1
  have na : a ≠ p := fun z => by
    have := f1.ha
    rw [z, y2] at this
    unfold ExV at this
    cases this
  refine ⟨p, vs, y1, y2, y5.length, ?_, ⟨f.s0, ?_, f1.na, ?_⟩, (s.fk so.gd).trans (fk_put y3)⟩
  · exact so1.put (en' := .ls _) y1 r1 rfl (.inl rfl) rfl ⟨p, vs ++ [v], rfl, upd_same, y3, y4, (y5.app (.cons dv .nil)).fk (fk_put y3)⟩ fun b sb => ls_same sb
  · show upd w1.H p _ a = _
    rw [upd_ne na]
    exact f1.ha
  · rcases f1.xo with ⟨h, z | ⟨dd, fvs, e1, e2, e3, e4⟩⟩
    · exact ⟨h, .inl z⟩
    · refine ⟨h, .inr ⟨dd, fvs, e1, ?_, e3, e4.put y3⟩⟩
      show upd w1.H p _ dd = _
      rw [upd_ne fun z => by rw [z, y2] at e2; cases e2]
      exact e2
end
/-- which classes there are, and how isinstance tells them apart -/
structure VgOk (K : PySem.W.Frag) (mg : Str → Option Value) (ns : List Str) : Prop where
  ad : ∀ n ∈ ns, ∃ C : Addr, mg n = some (.ref C) ∧ VcOk K C
  is : ∀ n ∈ ns, ∀ n' ∈ ns, ∀ c c' : Value, mg n = some c → mg n' = some c' → PySem.W.kitOne K c c' = some (decide (n = n'))
/-- a row: the class, the tag, the attribute or none -/
abbrev FRow := Str × Str × Option Str
def fVal (x : Xd) : Option Str → Option HW.D
  | some f => x.fs.lookup f
  | none => some .none
def fStep (x : Xd) (r : FRow) (ds : List HW.D) : Option (List HW.D) := if x.C = r.1 then (fVal x r.2.2).map fun y => ds ++ [.tuple [.str r.2.1, y]] else some ds
section
variable {X : Cx} {M : MI} {w0 : W} {ns : List Str}
/-- the reading of rows: from ds to es -/
def tFi (M : MI) (K : PySem.W.Frag) (mg : Str → Option Value) (w0 : W) (ns : List Str) (step : Xd → List HW.D → Option (List HW.D)) : TS := fun De σ H => ∃ (w : W) (ρ : List En) (a D : Addr) (d : Option Addr) (x : Xd) (ds es : List HW.D), w.H = H ∧ SOk M K w0 w σ ρ ∧ Fx K mg w σ a D d x ∧ x.C ∈ ns ∧
  ρ[1]? = some (.ls ds) ∧ ds.length ≤ 100 ∧ step x ds = some es ∧ ∀ w' : W, SOk M K w0 w' σ (ρ.set 1 (.ls es)) → Fx K mg w' σ a D d x → w'.c = w.c → Fk w w' → De.nx σ w'.H
/-- what a class with an attribute must say for it to be read -/
structure VfOk (K : PySem.W.Frag) (mg : Str → Option Value) (n f : Str) : Prop where
  xf : ∀ C : Addr, mg n = some (.ref C) → XfC K C ∧ PySem.W.findIn K (.ref C) f = some none
theorem set_same {l : List En} {i : Nat} {e : En} (h : l[i]? = some e) : l.set i e = l := by
  obtain ⟨hi, rfl⟩ := List.getElem?_eq_some_iff.mp h
  exact List.set_getElem_self hi
theorem s_fi {n tag e0 found : Str} {fo : Option Str} {ex : Expr} {pe : TE} {pos p1 p2 p3 p4 p5 p6 p7 p8 p9 p10 : Pos} {k j1 : Nat} (V : VgOk X.K X.mg ns) (hn : n ∈ ns) (hg : Gl X n) (hd : (n == ("__debug__" : Str)) = false) (gi : Gl X "isinstance") (mi : X.mg "isinstance" = none)
    (h0 : ∀ p, PE X (.Name e0 p) (tVar 0)) (h1 : ∀ p, PE X (.Name found p) (tVar 1)) (hx : PE X ex pe)
    (hv : ∀ (w : W) (σ : L2.St) (ρ : List En) (a D : Addr) (d : Option Addr) (x : Xd) (y : HW.D) (Q : VK), SOk M X.K w0 w σ ρ → Fx X.K X.mg w σ a D d x → x.C = n → fVal x fo = some y → (∀ v, Dv X.K w.F w.H v y → Q v w.H) → pe σ w.H Q)
    (hbase : attributeBase (.Name found p1) "append" X.env (eval (.Name found p1) X.env) = eval (.Name found p1) X.env := by rfl)
    (hfew : ((backTo p2 (starEach [.Tuple [.Constant (.str tag) j1 p3, ex] k p4] X.env)).all (fun x => !x.1) && (backToKw p2 (keywordEach [] X.env)).all (fun x => x.1.isSome) && decide (([.Tuple [.Constant (.str tag) j1 p3, ex] k p4] : List Expr).length + ([] : List Keyword).length + (if ([] : List Keyword).isEmpty then 0 else 1) < 30)) = true := by rfl)
    (hline : (p5.endLine == p2.line) = true := by rfl) (hs : starEach [.Tuple [.Constant (.str tag) j1 p3, ex] k p4] X.env = (false, eval (.Tuple [.Constant (.str tag) j1 p3, ex] k p4) X.env) :: starEach [] X.env := by rfl)
    (hs1 : starEach [.Constant (.str tag) j1 p3, ex] X.env = (false, eval (.Constant (.str tag) j1 p3) X.env) :: starEach [ex] X.env := by rfl) (hs2 : starEach [ex] X.env = (false, eval ex X.env) :: starEach [] X.env := by rfl)
    (hsw : swapsWith (.Call (.Attribute (.Name found p1) "append" p5) [.Tuple [.Constant (.str tag) j1 p3, ex] k p4] [] p2) none p6.line X.env = pure false := by rfl)
    (ht : ∀ whole, isTrue (.Call (.Name "isinstance" p7) [.Name e0 p8, .Name n p9] [] pos) X.env whole = (do let v ← whole; standAt pos; holding [v] (truthy v)) := by intro _; rfl) :
    PS X (.If (.Call (.Name "isinstance" p7) [.Name e0 p8, .Name n p9] [] pos) [.Expr (.Call (.Attribute (.Name found p1) "append" p5) [.Tuple [.Constant (.str tag) j1 p3, ex] k p4] [] p2) p6] [] p10) (tFi M X.K X.mg w0 ns (fun x ds => fStep x (n, tag, fo) ds)) := by
  obtain ⟨C, mC, vC⟩ := V.ad n hn
  refine PS.imp (ps_if (pt_truth (pe_callB call_isV gi mi (by decide +kernel) (pa_cons (h0 p8) (pa_cons (pe_glob hg mC (v := .ref C) rfl hd) pa_nil))) ht)
    (pss_one (ps_expr (pe_bm PySem.F.plainAttrs_list PySem.F.slot_list_append PySem.F.type_list_append mt_append (h1 p1) (pa_cons (pe_tup (pa_cons pe_str (pa_cons hx pa_nil hs2) hs1)) pa_nil hs) hbase hfew hline hs (by rfl)) hsw)) pss_nil) ?_
  rintro De σ H ⟨w, ρ, a, D, d, x, ds, es, rfl, so, f, xn, r1, hl, st, kk⟩
  obtain ⟨D', mD, vD⟩ := V.ad x.C xn
  have eD : D' = D := by
    have := f.xo.1
    rw [mD] at this
    exact Value.ref.inj (Option.some.inj this)
  subst eD
  refine ⟨_, f.s0, a, D', d, .ref C, .ref C, decide (x.C = n), rfl, f.ha, f.dc, vD, fun u r => r, V.is x.C xn n hn _ _ mD mC, decide (x.C = n), rfl, ?_⟩
  have st : fStep x (n, tag, fo) ds = some es := st
  by_cases e : x.C = n
  · rw [show fStep x (n, tag, fo) ds = (fVal x fo).map (fun y => ds ++ [PyData.tuple [PyData.str tag, y]]) from if_pos e] at st
    obtain ⟨y, ey, rfl⟩ := Option.map_eq_some_iff.mp st
    rw [decide_eq_true e]
    refine iteT ?_
    obtain ⟨p0, vs0, e1, e2, _⟩ := so.ev.ok 1 _ r1
    refine ⟨_, e1, tyL e2, hv w σ ρ a D' d x y _ so f e ey fun v dv => ⟨(show 2 ≤ sizeLine by decide), fun p hp => ?_⟩⟩
    have g2 := gd_new (o := .tup [.str tag, v]) so.gd hp
    have s2 := stp_new (o := .tup [.str tag, v]) hp
    obtain ⟨p1', vs, q1, q2, q3, q4, q5, q6⟩ := fx_app so f r1 s2 g2 (new_tup so.gd hp (.cons (.str tag) (.cons dv .nil)))
    rw [e1] at q1
    cases q1
    exact ⟨p0, vs, .ref p, rfl, rfl, q2, (by rw [sizeLine_eq, q3]; exact Nat.lt_of_le_of_lt hl (by decide)), kk _ q4 q5 rfl q6⟩
  · rw [show fStep x (n, tag, fo) ds = some ds from if_neg e] at st
    cases st
    rw [decide_eq_false e]
    refine iteF ?_
    have := kk w (by rw [set_same r1]; exact so) f rfl (Fk.refl w)
    exact this
end
end HW

/-! Y7: of which one class an error is: the whole def -/
namespace HW
open PySem PySem.Spec PyProof.Rows L2 LamX
def foldF (x : Xd) : List FRow → List D → Option (List D)
  | [], ds => some ds
  | r :: rs, ds => (fStep x r ds).bind (foldF x rs)
def outF (es : List D) : D := match es with
  | [e] => e
  | _ => .tuple [.str "odd", .int es.length]
def faultD (rs : List FRow) (x : Xd) : Option D := (foldF x rs []).map outF
theorem fStep_len {x : Xd} {r : FRow} {ds es : List D} (h : fStep x r ds = some es) : es.length ≤ ds.length + 1 := by
  unfold fStep at h
  split at h
  · obtain ⟨y, _, rfl⟩ := Option.map_eq_some_iff.mp h
    simp
  · cases h
    omega
theorem foldF_len {x : Xd} : ∀ {rs : List FRow} {ds es : List D}, foldF x rs ds = some es → es.length ≤ ds.length + rs.length
  | [], _, _, h => by cases h; simp
  | r :: rs, ds, es, h => by
    obtain ⟨e1, h1, h2⟩ := Option.bind_eq_some_iff.mp h
    have := fStep_len h1
    have := foldF_len h2
    simp only [List.length_cons]
    omega
inductive RowsThen (X : Cx) (M : MI) (w0 : W) (ns : List Str) (ws : WS) : List Stmt → List FRow → Prop
  | nil {sts : List Stmt} : PSs X sts (tS M X.K w0 ws) → RowsThen X M w0 ns ws sts []
  | cons {st : Stmt} {sts : List Stmt} {r : FRow} {rs : List FRow} : PS X st (tFi M X.K X.mg w0 ns (fun x ds => fStep x r ds)) → RowsThen X M w0 ns ws sts rs → RowsThen X M w0 ns ws (st :: sts) (r :: rs)
def tRw (M : MI) (K : PySem.W.Frag) (mg : Str → Option Value) (w0 : W) (ns : List Str) (ws : WS) (rs : List FRow) : TS := fun De σ H => ∃ (w : W) (ρ : List En) (a A : Addr) (d : Option Addr) (x : Xd) (ds es : List D) (rt : D → Nat → Prop), w.H = H ∧ SOk M K w0 w σ ρ ∧ Fx K mg w σ a A d x ∧ x.C ∈ ns ∧
  ρ[1]? = some (.ls ds) ∧ ds.length + rs.length ≤ 100 ∧ foldF x rs ds = some es ∧ ws { nx := fun _ _ => False, rt := rt } (ρ.set 1 (.ls es)) w.c ∧ ∀ (w' : W) (v : V) (y : D), Stp w0 w' → Gd M w' → Dv K w'.F w'.H v y → rt y w'.c → De.rt v w'.H
theorem rows_run {X : Cx} {M : MI} {w0 : W} {ns : List Str} {ws : WS} : ∀ {sts : List Stmt} {rs : List FRow}, RowsThen X M w0 ns ws sts rs → PSs X sts (tRw M X.K X.mg w0 ns ws rs)
  | _, _, .nil h => PSs.imp h fun De σ H ⟨w, ρ, a, A, d, x, ds, es, rt, eh, so, f, xn, r1, hl, fo, hw, k⟩ => by
    cases fo
    rw [set_same r1] at hw
    exact ⟨w, ρ, _, eh, so, hw, fun _ _ _ _ _ z => z.elim, fun w' v y s g dv q => k w' v y s g dv q, fun _ _ _ _ _ z => z.elim, fun _ _ _ _ _ z => z.elim⟩
  | _, _, .cons (r := r) (rs := rs) h t => by
    refine PSs.imp (pss_cons h (rows_run t)) ?_
    rintro De σ H ⟨w, ρ, a, A, d, x, ds, es, rt, eh, so, f, xn, r1, hl, fo, hw, k⟩
    obtain ⟨e1, h1, h2⟩ := Option.bind_eq_some_iff.mp fo
    simp only [List.length_cons] at hl
    have hi : 1 < ρ.length := (List.getElem?_eq_some_iff.mp r1).1
    refine ⟨w, ρ, a, A, d, x, ds, e1, eh, so, f, xn, r1, by omega, h1, fun w' so' f' ec fk => ?_⟩
    have := fStep_len h1
    exact ⟨w', _, a, A, d, x, e1, es, rt, rfl, so', f', xn, List.getElem?_set_self hi, by omega, h2, by rw [List.set_set, ec]; exact hw, k⟩
def wFaultRet : WE := wIfE (wTst (wOp eqD (wF lenD (wLook 1)) (wC (.int 1)))) (wOp ixD (wLook 1) (wC (.int 0))) (wTup (wCons (wC (.str "odd")) (wCons (wF lenD (wLook 1)) wNil)))
theorem faultRet {es : List D} {c : Nat} {Q : D → Nat → Prop} (h : es.length ≤ 100) (q : Q (outF es) c) : wFaultRet [.un, .ls es] c Q := by
  have h1 : ∀ (b : Bool), eqD (.int (es.length : Int)) (.int 1) = some (.bool b) → (if b = true then (wOp ixD (wLook 1) (wC (.int 0))) [.un, .ls es] c Q else (wTup (wCons (wC (.str "odd")) (wCons (wF lenD (wLook 1)) wNil))) [.un, .ls es] c Q) → wFaultRet [.un, .ls es] c Q := fun b e k =>
    ⟨.ls es, .list es, rfl, rfl, .int es.length, rfl, _, e, b, rfl, k⟩
  match es, h, q, h1 with
  | [], h, q, h1 => exact h1 false rfl ⟨.ls [], .list [], rfl, rfl, .int 0, rfl, (by decide : 2 ≤ LIM), q⟩
  | [e], h, q, h1 => exact h1 true rfl ⟨.ls [e], .list [e], rfl, rfl, e, rfl, q⟩
  | e :: e2 :: r, h, q, h1 =>
    refine h1 false ?_ ⟨.ls (e :: e2 :: r), .list (e :: e2 :: r), rfl, rfl, .int (e :: e2 :: r).length, rfl, (by decide : 2 ≤ LIM), q⟩
    show some (PyData.bool (((e :: e2 :: r).length : Int) == 1)) = _
    congr 2
def faultSp (M : MI) (K : PySem.W.Frag) (mg : Str → Option Value) (ns : List Str) (rs : List FRow) : Sp := fun vs H Q _ => ∃ (w : W) (a A : Addr) (d : Option Addr) (x : Xd) (y : D), vs = [.ref a] ∧ w.H = H ∧ Gd M w ∧ w.H a = some (ExV (.ref A) d a) ∧ a ∉ w.R ∧ XOk K mg w (.ref A) d x ∧ x.C ∈ ns ∧
  faultD rs x = some y ∧ ∀ (w' : W) (v : V), Stp w w' → Gd M w' → Dv K w'.F w'.H v y → w'.c = w.c → Q v w'.H
theorem fn_fault {P : Program} {w : World} {K : PySem.W.Frag} {mg : Str → Option Value} {base : Heap} {k : Nat} {f : Addr} {fd : FuncData} {x qual : Str} {st : Stmt} {M : MI} {ns : List Str} {rs : List FRow} {e0 found : Str} (F : L2.Fun K x qual st f fd) (S : FnScope [e0, found] [e0] (defScope st)) (few : rs.length ≤ 100)
    (hb : ∀ (cdv : Value) (A : Around) (outer : List Env) (s : Shared) (H : Hp) (E : XK) (w0 : W), (A.deeper (PyProof.Rows.envOfC qual (defScope st) s.heap.objs.size f cdv)).guards = some [] → Room k (A.deeper (PyProof.Rows.envOfC qual (defScope st) s.heap.objs.size f cdv)) →
      PSs (cxOf CX0 P w K mg base [e0, found] qual (defScope st) f cdv A outer s H E).nox (defBody st) (tSeq (tAsg (tLst tNil) (gName 1)) (tRw M K mg w0 ns (wRet wFaultRet) rs))) : FnG P w K mg base CX0 (k + 1) f fd [e0] (faultSp M K mg ns rs) := by
  refine fnG F S (fun vs H Q E ⟨w, a, A, d, x, y, e, _⟩ => by rw [e]; rfl) fun cdv A outer s H vs Q E gds room h => ?_
  obtain ⟨w, a, A1, d, x, y, rfl, rfl, g, ha, na, xo, xn, fy, kk⟩ := h
  refine ⟨_, PSs.nox (hb cdv A outer s w.H E w gds room), by decide, fun p hp => ?_⟩
  obtain ⟨es, he, rfl⟩ := Option.map_eq_some_iff.mp fy
  have s1 := stp_own (o := .lst []) hp
  have g1 := gd_own (o := .lst []) g hp
  have nR : p ∉ w.R := r_free g hp
  have nF : ¬ w.F p := fun z => g.tf p z hp
  have ow : ∀ i b, Own (w.own p (.lst [])) [some (.ref a), some (.ref p)] [.un, .ls []] i b → i = 1 ∧ b = p := fun i b ⟨q, e, o1, o2, o3, o4⟩ => by
    match i with
    | 0 => cases o2; cases o3
    | 1 =>
      cases o1
      cases o2
      rcases o4 with z | ⟨_, _, _, z, _⟩
      · exact ⟨rfl, z⟩
      · cases z
    | i + 2 => cases o2
  have so : SOk M K w (w.own p (.lst [])) [some (.ref a), some (.ref p)] [.un, .ls []] := by
    refine ⟨⟨rfl, fun i e q => ?_, fun i j b o1 o2 => (ow i b o1).1.trans (ow j b o2).1.symm⟩, g1, s1, fun i b o => by rw [(ow i b o).2]; exact hp⟩
    match i with
    | 0 => cases q; exact True.intro
    | 1 => cases q; exact ⟨p, [], rfl, own_at, nF, nR, .nil⟩
    | i + 2 => cases q
  have fx : Fx K mg w [some (.ref a), some (.ref p)] a A1 d x := ⟨rfl, ha, na, xo⟩
  refine ⟨w.own p (.lst []), [.un, .ls []], a, A1, d, x, [], es, fun y c => y = outF es ∧ c = w.c, rfl, so, fx.stp s1 g, xn, rfl, by simpa using few, he, faultRet ?_ ⟨rfl, rfl⟩, fun w' v y' s' g' dv q => ?_⟩
  · have := foldF_len he
    simp at this
    omega
  · obtain ⟨rfl, ec⟩ := q
    exact kk w' v s' g' dv ec
end HW

/-! Y8: what a call comes to: the def that calls what it got and keeps its error -/
namespace HW
open PySem PySem.Spec PyProof.Rows L2 LamX
theorem takes_len {X : Cx} {W : WX} (t : Takes X W) : Takes X (fun cls d σ H => σ.length = X.N.length → W cls d σ H) := fun u s' ⟨a, B, sI, pins, σ, H, cls, d, e, I, nb, up, sky, na, os, ag, w⟩ => t u s' ⟨a, B, sI, pins, σ, H, cls, d, e, I, nb, up, sky, na, os, ag, w I.len⟩
/-- names of classes in a row -/
inductive NamesS (X : Cx) : List Expr → List Str → Prop
  | nil : NamesS X [] []
  | cons {x : Str} {p : Pos} {es : List Expr} {l : List Str} : Gl X x → (x == ("__debug__" : Str)) = false → NamesS X es l → NamesS X (.Name x p :: es) (x :: l)
theorem NamesS.get {X : Cx} : ∀ {es : List Expr} {l : List Str}, NamesS X es l → (∀ n ∈ l, ∃ C : Addr, X.mg n = some (.ref C)) → ∃ cs, NamesT X es cs ∧ (∀ c ∈ cs, ∃ n ∈ l, X.mg n = some c) ∧ ∀ n ∈ l, ∃ c ∈ cs, X.mg n = some c
  | _, _, .nil, _ => ⟨[], .nil, fun c h => (by cases h), fun n h => (by cases h)⟩
  | _, _, .cons (x := x) g d r, h => by
    obtain ⟨C, hC⟩ := h x List.mem_cons_self
    obtain ⟨cs, h1, h2, h3⟩ := r.get fun n hn => h n (List.mem_cons_of_mem _ hn)
    refine ⟨.ref C :: cs, .cons g d hC h1, fun c hc => ?_, fun n hn => ?_⟩
    · rcases List.mem_cons.mp hc with rfl | hc
      · exact ⟨x, List.mem_cons_self, hC⟩
      · obtain ⟨n, e1, e2⟩ := h2 c hc
        exact ⟨n, List.mem_cons_of_mem _ e1, e2⟩
    · rcases List.mem_cons.mp hn with rfl | hn
      · exact ⟨_, List.mem_cons_self, hC⟩
      · obtain ⟨c, e1, e2⟩ := h3 n hn
        exact ⟨c, List.mem_cons_of_mem _ e1, e2⟩
theorem NamesS.len {X : Cx} : ∀ {es : List Expr} {l : List Str}, NamesS X es l → es.length = l.length
  | _, _, .nil => rfl
  | _, _, .cons _ _ r => congrArg (· + 1) r.len
/-- what is caught: an error of one of the classes, in a world -/
def CaughtW (K : PySem.W.Frag) (mg : Str → Option Value) (M : MI) (ns : List Str) (T : Hp → Value → Option Addr → W → Xd → Prop) : XK := fun cls d H => ∃ (w : W) (x : Xd), w.H = H ∧ Gd M w ∧ XOk K mg w cls d x ∧ x.C ∈ ns ∧ T H cls d w x
/-- try: found = a() / except (..) as e: caught = e -/
def tOutTry (f c' : Addr) (q : Str) (tl : XK → Hp → VK → Prop) (C : Value → Option Addr → Hp → Prop) : TS := fun De σ H => σ.length = 4 ∧ σ[0]? = some (some (.ref f)) ∧ H c' = some (CodeO c' q) ∧
  ∃ Ech : XK, (∀ cls d H', Ech cls d H' → C cls d H' ∧ ∀ a, H' a = none → ∀ σ' : L2.St, σ'.length = 4 → σ'[1]? = some (some (.ref a)) → De.nx σ' (upd H' a (ExV cls d a))) ∧ tl Ech H fun v H' => De.nx (σ.set 2 (some v)) H'
theorem s_outTry {X : Cx} {ns : List Str} {tl : XK → Hp → VK → Prop} {f c' : Addr} {q a cg fd en : Str} {es : List Expr} {k3 : Nat} {p1 p2 p3 p4 p5 p6 p7 p8 p9 p10 : Pos} (hs : X.stack = X.env :: X.outer) (hf : X.env.frame = some X.env.locals) (hx : X.ex = []) (hN : X.N = [a, cg, fd, en]) (nd : [a, cg, fd, en].Nodup)
    (lf : X.env.scope.names.lookup fd = some .local) (lc : X.env.scope.names.lookup cg = some .local) (le : X.env.scope.names.lookup en = some .local) (ext : ExT X.K X.mg ns) (hn : NamesS X es ns) (few : ns.length ≤ 1000) (de : (en == ("__debug__" : Str)) = false) (dc : (en == ("__classdict__" : Str)) = false)
    (act : ∀ (W : WX) (pn : List (Addr × Obj)) (xe : Value → Shared → Prop) (E : XK), Takes (X.tr pn xe) W → (∀ cls d σ' H', E cls d H' → W cls d σ' H') → PE (X.tr pn xe) (.Call (.Name a p1) [] [] p2) (fun σZ HZ Q => σZ[0]? = some (some (.ref f)) ∧ HZ c' = some (CodeO c' q) ∧ tl E HZ Q))
    (h1 : swapsWith (.Call (.Name a p1) [] [] p2) (some (.Name fd p3)) p4.line X.env = pure false) (h2 : swapsWith (.Name en p5) (some (.Name cg p6)) p7.line X.env = pure false) :
    PS X (.Try [.Assign [.Name fd p3] (.Call (.Name a p1) [] [] p2) p4] [.ExceptHandler (some (.Tuple es k3 p8)) (some en) [.Assign [.Name cg p6] (.Name en p5) p7] p9] [] [] p10) (tOutTry f c' q tl fun cls _ _ => ∃ n ∈ ns, X.mg n = some cls) := by
  obtain ⟨cs, nt, c1, c2⟩ := hn.get ext.cl
  have NN : X.N.Nodup := by rw [hN]; exact nd
  have n2 : X.N[2]? = some fd := by rw [hN]; rfl
  have n1 : X.N[1]? = some cg := by rw [hN]; rfl
  have n3 : X.N[3]? = some en := by rw [hN]; rfl
  have lenN : X.N.length = 4 := by rw [hN]; rfl
  refine PS.imp (ps_tryT (i := 3) (Wo := fun _ _ _ _ => False) hs hf hx NN n3 le takes0 nt (by rw [hn.len]; exact few)
    (tb := fun W D σ H => σ[0]? = some (some (.ref f)) ∧ H c' = some (CodeO c' q) ∧ ∃ Ech : XK, (∀ cls d σ' H', σ'.length = 4 → Ech cls d H' → W cls d σ' H') ∧ tl Ech H fun v H' => D.nx (σ.set 2 (some v)) H')
    (ts := fun a cls d => tAsg (tVar 3) (gName 1)) (fun W pn xe tk _ => ?_) (fun a oe cls d pn _ _ => pss_one (ps_set (i := 1) NN n1 (.inl lc) (pe_var n3 (.inl le) de dc) h2 (.inr lc)))) ?_
  · refine ⟨fun pins s σ H D I ⟨e1, e2, Ech, hW, want⟩ => ?_⟩
    have tk' := takes_len tk
    have hp := act _ pn xe Ech tk' (fun cls d σ' H' h l => hW cls d σ' H' (by rw [l]; exact lenN) h)
    exact (pss_one (ps_set (X := X.tr pn xe) (i := 2) (pos := p4) NN n2 (.inl lf) hp h1 (.inr lf))).run pins s σ H D I ⟨e1, e2, want⟩
  · rintro D σ H ⟨hl, e1, e2, Ech, hC, want⟩
    refine ⟨e1, e2, Ech, fun cls d σ' H' l h => ?_, want⟩
    obtain ⟨⟨n, hn1, hn2⟩, k⟩ := hC cls d H' h
    refine ⟨fun c => (PySem.W.exmOne X.K cls c).getD false, fun c hc => ?_, fun _ a na => ?_, fun z => ?_⟩
    · obtain ⟨n', h3, h4⟩ := c1 c hc
      show PySem.W.exmOne X.K cls c = some ((PySem.W.exmOne X.K cls c).getD false)
      rw [ext.ex n hn1 n' h3 cls c hn2 h4]
      rfl
    · refine ⟨.ref a, List.getElem?_set_self (by rw [l]; decide), ?_⟩
      refine k a na _ (by simpa using l) ?_
      rw [List.getElem?_set_ne (by decide), List.getElem?_set_self (by simp [l])]
    · obtain ⟨c, h3, h4⟩ := c2 n hn1
      have : cs.any (fun c => (PySem.W.exmOne X.K cls c).getD false) = true := List.any_eq_true.mpr ⟨c, h3, by rw [ext.ex n hn1 n hn1 cls c hn2 h4]; simp⟩
      rw [this] at z
      cases z
end HW

/-! Y9: the rule of `outcome(lambda: e)` -/
namespace HW
open PySem PySem.Spec PyProof.Rows L2 LamX
/-- what the lambda's parameters are: none, or one with a default -/
def LamDfl (X : Cx) (q : Arguments) (b : Expr) (sc : Scope) (bn : List Str) : Prop :=
  (defaultsOf q X.env = ([], []) ∧ bn = [] ∧ ∀ (qn : Str) (cl : List (Str × Addr)) (doc pm cv ct : Value), bindArgs (PySem.W.kdv_fn "<lambda>" qn q (.expr b) sc cl .none doc pm cv ct) ⟨[], []⟩ = pure []) ∨
  ∃ (e0 : Expr) (x : Str) (v0 : V), q.defaults = [e0] ∧ q.kw_defaults = [] ∧ q.kwonlyargs = [] ∧ PE X e0 (tC v0) ∧ bn = [x] ∧
    ∀ (u : Value) (t : Addr) (qn : Str) (cl : List (Str × Addr)) (doc pm cv ct : Value), ∃ k, bindArgs (PySem.W.kdv_fn "<lambda>" qn q (.expr b) sc cl (.ref t) doc pm cv ct) ⟨[], []⟩ = seqItems? (.ref t) >>= k ∧ k (some [u].toArray) = pure [(x, u)]
section
variable {X : Cx} {pins : List (Addr × Obj)} {σ : L2.St} {w : W} {s : Shared} {c P : Addr} {q : Arguments} {b : Expr} {sc : Scope} {pos : Pos} {E : Value → Shared → Prop} {Q : Value → Shared → Prop} {M : MI} {T : List (Addr × Str)} {bn : List Str}
/-- a new code object in its table: a world of its own -/
theorem tab_new {ps : Array Value} {c' : Addr} (g : Gd (MT M T) w) (hm : (P, lamQ X) ∈ T) (hu : ∀ p ∈ T, p.1 = P → p.2 = lamQ X) (hP : w.H P = some (.tbl ps)) (ht : TriplesOk ps.toList) (n : w.H c' = none) :
    ∃ w1 : W, w1.H = upd (upd w.H P (.tbl (ps ++ #[rawInt pos.line, rawInt pos.col, .ref c']))) c' (CodeO c' (lamQ X)) ∧ w1.c = w.c ∧ w1.F = w.F ∧ Stp w w1 ∧ Gd (MT M T) w1 := by
  obtain ⟨a, ma⟩ := Option.ne_none_iff_exists'.mp (g.nz True.intro)
  obtain ⟨Rs, Rt, e, i, t, nn⟩ := g.mi a ma
  have tP := t.tab _ hm
  have inR : P ∈ w.R := by rw [e]; exact List.mem_append_right _ tP.mem
  have nPc : P ≠ c' := ne_of_none hP n
  obtain ⟨H1, eH⟩ : ∃ H1, H1 = upd (upd w.H P (.tbl (ps ++ #[rawInt pos.line, rawInt pos.col, .ref c']))) c' (CodeO c' (lamQ X)) := ⟨_, rfl⟩
  have at_ : ∀ b, b ≠ P → b ≠ c' → H1 b = w.H b := fun b h1 h2 => by rw [eH, upd_ne h2, upd_ne h1]
  have atP : H1 P = some (.tbl (ps ++ #[rawInt pos.line, rawInt pos.col, .ref c'])) := by rw [eH, upd_ne nPc, upd_same]
  have atC : H1 c' = some (CodeO c' (lamQ X)) := by rw [eH, upd_same]
  have old : ∀ b o, w.H b = some o → b ≠ c' := fun b o z => ne_of_none z n
  have nF : ¬ w.F P := (g.tr P inR).2
  have up : ∀ b, w.H b ≠ none → H1 b ≠ none := fun b h => by rw [eH]; exact upd_some (upd_some h)
  refine ⟨⟨w.F, w.R ++ [c'], H1, w.c, w.mo⟩, eH, rfl, rfl, ⟨fun _ f => f, fun _ f => .inl f, fun b o h1 h2 => ?_, up, fun b hb => ?_, fun _ z => z⟩, ⟨fun b eb => ?_, fun z => ?_, fun _ => g.nz True.intro, fun b hb => ?_, fun b f => up b (g.tf b f)⟩⟩
  · exact (at_ b (fun z => h2 (z ▸ inR)) (old b o h1)).trans h1
  · rcases List.mem_append.mp hb with z | z
    · exact .inl z
    · rw [List.mem_singleton.mp z]
      exact .inr n
  · have eb' : w.mo = some b := eb
    rw [ma] at eb'
    cases eb'
    have nC : ∀ x ∈ w.R, x ≠ c' := fun x hx z => (g.tr x hx).1 (z ▸ n)
    refine ⟨Rs, Rt ++ [c'], by rw [e, List.append_assoc], M.st i fun x hx => at_ x (fun z => nn P tP.mem (z ▸ hx)) (nC x (by rw [e]; exact List.mem_append_left _ hx)), ⟨fun p hp => ?_, fun x hx => ?_⟩, fun x hx hs => ?_⟩
    · obtain ⟨m1, ps1, h1, h2, h3⟩ := t.tab p hp
      refine ⟨List.mem_append_left _ m1, ?_⟩
      have code : ∀ c0 : Addr, c0 ∈ Rt → w.H c0 = some (CodeO c0 p.2) → c0 ∈ Rt ++ [c'] ∧ H1 c0 = some (CodeO c0 p.2) := fun c0 h4 h5 => by
        refine ⟨List.mem_append_left _ h4, (at_ c0 (fun z => ?_) (old _ _ h5)).trans h5⟩
        rw [z, hP] at h5
        unfold CodeO at h5
        cases h5
      by_cases hb : p.1 = P
      · rw [hb, hP] at h1
        cases h1
        have eq : p.2 = lamQ X := hu p hp hb
        have eL : (ps ++ #[rawInt pos.line, rawInt pos.col, .ref c']).toList = ps.toList ++ [rawInt pos.line, rawInt pos.col, .ref c'] := by simp
        refine ⟨_, (congrArg H1 hb).trans atP, by rw [eL]; exact PySem.TriplesOk_snoc _ _ _ _ ht, fun pp cv hcv => ?_⟩
        rw [eL] at hcv
        rcases among_app _ ht hcv with z | z
        · obtain ⟨c0, e1, e2, e3⟩ := h3 pp cv z
          exact ⟨c0, e1, code c0 e2 e3⟩
        · exact ⟨c', z, List.mem_append_right _ List.mem_cons_self, by rw [eq]; exact atC⟩
      · refine ⟨ps1, (at_ p.1 hb (old _ _ h1)).trans h1, h2, fun pp cv hcv => ?_⟩
        obtain ⟨c0, e1, e2, e3⟩ := h3 pp cv hcv
        exact ⟨c0, e1, code c0 e2 e3⟩
    · rcases List.mem_append.mp hx with z | z
      · by_cases hb : x = P
        · exact .inl ⟨_, (congrArg H1 hb).trans atP⟩
        · have ex := at_ x hb (nC x (by rw [e]; exact List.mem_append_right _ z))
          exact (t.kind x z).imp (fun ⟨y, h⟩ => ⟨y, ex.trans h⟩) fun ⟨y, h⟩ => ⟨y, ex.trans h⟩
      · rw [List.mem_singleton.mp z]
        exact .inr ⟨_, atC⟩
    · rcases List.mem_append.mp hx with z | z
      · exact nn x z hs
      · rw [List.mem_singleton.mp z] at hs
        exact nC c' (by rw [e]; exact List.mem_append_left _ hs) rfl
  · rw [show w.mo = none from z] at ma
    cases ma
  · rcases List.mem_append.mp hb with z | z
    · exact ⟨up b (g.tr b z).1, (g.tr b z).2⟩
    · rw [List.mem_singleton.mp z]
      exact ⟨by show H1 c' ≠ none; rw [atC]; simp, fun f => g.tf c' f n⟩
/-- a lambda is made -/
theorem lamW (I : Inv X pins σ w.H s) (g : Gd (MT M T) w) (tb : TabB X.base X.mg c P) (hc : X.env.code = .ref c) (hm : (P, lamQ X) ∈ T) (hu : ∀ p ∈ T, p.1 = P → p.2 = lamQ X) (hcl : ∀ y ∈ sc.names, y.2 = .free → ∃ c1, X.env.cells.lookup y.1 = some c1) (df : LamDfl X q b sc bn)
    (k : ∀ (f c' : Addr) (doc pm ct dV : Value) (bs : List (Str × Value)) (s' : Shared) (w1 : W), w1.c = w.c → w1.F = w.F → Stp w w1 → Gd (MT M T) w1 → Inv X pins σ w1.H s' → Made X q b sc dV w1.H f c' doc pm ct s' → DflOk X q b sc dV bs w1.H s' → bs.map (·.1) = bn → w1.H c' = some (CodeO c' (lamQ X)) → Q (.ref f) s') :
    wpAny (model X.prog X.w) X.A (eval (.Lambda q b sc pos) X.env) Q X.xe s := by
  obtain ⟨a, ma⟩ := Option.ne_none_iff_exists'.mp (g.nz True.intro)
  obtain ⟨Rs, Rt, e, i, t, nn⟩ := g.mi a ma
  obtain ⟨ps, hP, ht, ha⟩ := t.tabs _ hm
  have tail : ∀ (dV : Value) (bs : List (Str × Value)) (s0 : Shared), bs.map (·.1) = bn → Inv X pins σ w.H s0 → DflOk X q b sc dV bs w.H s0 → (∀ t, dV = .ref t → w.H t = none ∧ t < s0.heap.objs.size) → wpAny (model X.prog X.w) X.A (makeTail "<lambda>" (lamQ X) q (.expr b) sc X.env dV .none none pos pos.line) Q X.xe s0 := by
    intro dV bs s0 hbs I0 dk ht0
    refine lamTail I0 tb hc hP ht (fun p cv h => ha p cv h) hcl (fun f c' doc pm ct s' h1 h2 h3 h4 h5 => ?_) (fun f c' doc pm ct s' h1 h2 h3 h4 h5 => ?_)
    · refine k f c' doc pm ct dV bs s' w rfl rfl (Stp.refl w) g h3 h4 ?_ hbs h2
      rcases dk with z | ⟨t, vs, z1, z2, z3, z4, z5⟩
      · exact .inl z
      · exact .inr ⟨t, vs, z1, h5 _ _ z2 z3, z3, z4, z5⟩
    · obtain ⟨w1, q1, q2, q3, q4, q5⟩ := tab_new (pos := pos) g hm hu hP ht h1
      rw [← q1] at h2 h3
      refine k f c' doc pm ct dV bs s' w1 q2 q3 q4 q5 h2 h3 ?_ hbs (by rw [q1, upd_same])
      rcases dk with z | ⟨t, vs, z1, z2, z3, z4, z5⟩
      · exact .inl z
      · refine .inr ⟨t, vs, z1, h4 _ _ z2 z3, ?_, z4, z5⟩
        have lt := (ht0 t z1).2
        rw [q1, upd_ne (fun y => by rw [y] at lt; exact Nat.lt_irrefl _ (Nat.lt_of_lt_of_le lt h5)), upd_ne (fun y => by rw [y, hP] at z3; cases z3)]
        exact z3
  rcases df with ⟨d1, rfl, d3⟩ | ⟨e0, x, v0, d1, d2, d0, d3, rfl, d4⟩
  · refine PySem.W.kla_eval d1 ?_
    rw [makeFunction_eq]
    simp only [List.zip_nil_right, List.filterMap_nil, List.isEmpty_nil, if_true, pure_bind]
    exact tail .none [] s rfl I (.inl ⟨rfl, d3⟩) (fun t z => by cases z)
  · refine PySem.W.kdv_lam (by rw [d1]; rfl) d2 ?_
    rw [d1]
    refine PySem.W.kdv_all1 (wpAny_mono (d3.run pins s σ w.H (fun v H1 => v = v0 ∧ H1 = w.H) I ⟨rfl, rfl⟩) (fun u s1 ⟨v, H1, I1, r1, e1, e2⟩ => PySem.W.kdv_all0 ?_) fun _ _ z => z)
    rw [e2] at I1
    rw [makeFunction_eq]
    simp only [List.zip_nil_right, List.filterMap_nil, List.isEmpty_nil, List.isEmpty_cons, Bool.false_eq_true, if_true, if_false, pure_bind]
    refine wpAny_bind (wpAny_newTextTuple ?_)
    have n0 : w.H s1.heap.objs.size = none := I1.hok.fresh (Nat.le_refl _)
    refine tail (.ref s1.heap.objs.size) [(x, u)] _ rfl (I1.kept (h' := s1.heap.push (PySem.W.kdv_tup [u])) (t' := s1.toks) fun _ _ z => Heap.get?_push_of_some _ z) (.inr ⟨_, [u], rfl, Heap.get?_push_size _ rfl, n0, fr_ge I1 (Nat.le_refl _), fun qn cl doc pm cv ct => d4 u _ qn cl doc pm cv ct⟩) fun t z => ?_
    cases z
    exact ⟨n0, by show _ < (s1.heap.push _).objs.size; rw [Heap.size_push]; omega⟩
end
end HW

/-! Y10: the rule of `outcome(lambda: e)`: its word -/
namespace HW
open PySem PySem.Spec PyProof.Rows L2 LamX
/-- what the lambda sees of its maker's slots: the own objects that still change are not looked at -/
def maskE (ρ : List En) : List En := ρ.map fun e => if e.mut = true then .un else e
theorem maskE_mut {ρ : List En} : ∀ e ∈ maskE ρ, En.mut e = false := fun e he => by
  obtain ⟨e0, _, rfl⟩ := List.mem_map.mp he
  by_cases h : e0.mut = true
  · rw [if_pos h]; rfl
  · rw [if_neg h]; simpa using h
theorem EnvOk.mask {K : PySem.W.Frag} {w : W} {σ : L2.St} {ρ : List En} (h : EnvOk K w σ ρ) : EnvOk K w σ (maskE ρ) := by
  have no : ∀ i a, ¬ Own w σ (maskE ρ) i a := fun i a ⟨p, e, _, o2, o3, _⟩ => by
    rw [maskE_mut e (List.mem_of_getElem? o2)] at o3
    cases o3
  refine ⟨by rw [h.len]; simp [maskE], fun i e q => ?_, fun i j a o => (no i a o).elim⟩
  unfold maskE at q
  rw [List.getElem?_map] at q
  obtain ⟨e0, h1, rfl⟩ := Option.map_eq_some_iff.mp q
  by_cases z : e0.mut = true
  · rw [if_pos z]; exact True.intro
  · rw [if_neg z]; exact h.ok i e0 h1
/-- the word: what is told of an error, or the result in a list -/
def wOut (ns : List Str) (rs : List FRow) (wb : XR → WE) : WE := fun ρ c Q => wb (fun x c' => x.C ∈ ns ∧ ∃ y, faultD rs x = some y ∧ Q y c') (maskE ρ) c fun d c' => Q (.list [d]) c'
/-- the whole def's reading -/
def tOutR (K : PySem.W.Frag) (f c' : Addr) (q : Str) (tl : XK → Hp → VK → Prop) (C : Value → Option Addr → Hp → Prop) (sp : Sp) : TS :=
  tSeq (tAsg (L2.tTup (tCons (tC .non) (tCons (tC .non) tNil))) (gTup K 2 (gNames [1, 2]))) (tSeq (tOutTry f c' q tl C)
    (tRet (tIf (tTest (tOp (fun x y H Q => y = .non ∧ Q (.bl (decide (x = .non))) H) (tVar 1) (tC .non))) (L2.tLst (tCons (tVar 2) tNil)) (tCall sp [] C8.E0 (tCons (tVar 1) tNil)))))
/-- the def that calls what it got -/
structure OutC (P : Program) (w : World) (K : PySem.W.Frag) (mg : Str → Option Value) (base : Heap) (k : Nat) (x : Str) (M : MI) (ns : List Str) (rs : List FRow) : Prop where
  ex : ∃ (g : Addr) (a cg fd en : Str) (oc : Value) (od an : Option Addr) (pg : Arguments) (bg : List Stmt) (sg : Scope) (kV doc pm cdv ct : Value) (osl : Array (Option Value)),
    mg x = some (.ref g) ∧ PySem.W.keepIn K (.ref g) = true ∧ K.lookup g = some ⟨oc, od, .func (PySem.W.fnOf x x pg bg sg .none kV doc pm an cdv ct), osl⟩ ∧ PySem.W.codeIn K cdv x = true ∧ L2.Binds K (PySem.W.fnOf x x pg bg sg .none kV doc pm an cdv ct) [a] [] ∧ FnScope [a, cg, fd, en] [a] sg ∧ Vis sg a ∧
    (a == ("__debug__" : Str)) = false ∧ (a == ("__classdict__" : Str)) = false ∧
    ∀ (A : Around) (stk : List Env) (s : Shared) (H : Hp) (f c' : Addr) (q : Str) (tl : XK → Hp → VK → Prop), (A.deeper (PyProof.Rows.envOfC x sg s.heap.objs.size g cdv)).guards = some [] → Room k (A.deeper (PyProof.Rows.envOfC x sg s.heap.objs.size g cdv)) →
      (∀ (W : WX) (pn : List (Addr × Obj)) (xe : Value → Shared → Prop) (E : XK) (p1 p2 : Pos), Takes ((cxOf CX0 P w K mg base [a, cg, fd, en] x sg g cdv A stk s H C8.E0).nox.tr pn xe) W → (∀ cls d σ' H', E cls d H' → W cls d σ' H') →
        PE ((cxOf CX0 P w K mg base [a, cg, fd, en] x sg g cdv A stk s H C8.E0).nox.tr pn xe) (.Call (.Name a p1) [] [] p2) (fun σZ HZ Q => σZ[0]? = some (some (.ref f)) ∧ HZ c' = some (CodeO c' q) ∧ tl E HZ Q)) →
      PSs (cxOf CX0 P w K mg base [a, cg, fd, en] x sg g cdv A stk s H C8.E0).nox bg (tOutR K f c' q tl (fun cls _ _ => ∃ n ∈ ns, mg n = some cls) (faultSp M K mg ns rs))
section
variable {X : Cx} {M0 : MI} {T : List (Addr × Str)} {ns : List Str} {rs : List FRow} {x : Str} {k j : Nat} {c P : Addr} {params : Arguments} {body : Expr} {scope : Scope} {bn : List Str} {wb : XR → WE} {p lpos pos : Pos}
/-- the lambda's own reading: at any world of the maker's -/
def tlOut (X : Cx) (M : MI) (wb : XR → WE) : XK → TE := fun E σ H Q => ∃ (w0 : W) (R : XR), (∀ (w' : W) (cls : Value) (dd : Option Addr) (x : Xd), Stp w0 w' → Gd M w' → XOk X.K X.mg w' cls dd x → R x w'.c → E cls dd w'.H) ∧ tEX M X.K w0 (wb R) σ H Q
theorem e_out (O : OutC X.prog X.w X.K X.mg X.base k x (MT M0 T) ns rs) (ext : ExT X.K X.mg ns) (hr : Room j X.A) (hk : k + 1 ≤ j) (gds : X.A.guards = some []) (hg : Gl X x) (tb : TabB X.base X.mg c P) (hc : X.env.code = .ref c) (hm : (P, lamQ X) ∈ T) (hu : ∀ p ∈ T, p.1 = P → p.2 = lamQ X)
    (L : LamN X.N bn X.env.scope scope) (df : LamDfl X params body scope bn)
    (hb : ∀ (A : Around) (outer : List Env) (s : Shared) (H : Hp) (E : XK) (f c' : Addr) (w0 : W) (R : XR), (lamCx X A outer s H E scope f c').A.guards = some [] → Room (k - 1) (lamCx X A outer s H E scope f c').A → TkR (lamCx X A outer s H E scope f c') (MT M0 T) w0 (fun x _ c => R x c) →
      PE (lamCx X A outer s H E scope f c') body (tEX (MT M0 T) X.K w0 (wb R))) (h1 : 1 ≤ k)
    (hdb : (x == ("__debug__" : Str)) = false := by decide) : PE X (.Call (.Name x p) [.Lambda params body scope lpos] [] pos) (tE (MT M0 T) X.K (wOut ns rs wb)) := by
  obtain ⟨gg, a, cg, fd, en, oc, od, an, pg, bg, sg, kV, doc, pm, cdv, ct, osl, hmg, hkp, lk, hcd, hbd, S, va, nd, nc, frame⟩ := O.ex
  refine ⟨fun pins s σ H Q I ⟨w, ρ, Qd, eh, ev, g, hw, kk⟩ => ?_⟩
  subst eh
  refine wpAny_Call_Name_kw (ld_glob I hg hmg ?_ hdb)
  refine PySem.W.callWith_K (h₀ := X.base) I.ok.mod.kin hkp ?_ (by rfl) (by rfl)
  refine Calls.spliced_cons (lamW I g tb hc hm hu (L.has I.ok) df fun f c' doc' pm' ct' dV bs s' w1 ec eF s1 g1 I1 md dk hbs hco => ?_)
  refine Calls.spliced_nil ⟨I1.kIn, ?_⟩
  have hr1 : Room (k + 1) X.A := hr.mono hk
  have rc : codeAny (model X.prog X.w) X.A (.call (.ref gg) ⟨[.ref f], []⟩) (CR CX0 X.stack X.prog X.w w1.H s' Q C8.E0) s' := by
    refine LamX.run_ofS (N := [a, cg, fd, en]) (ps := [a]) (us := [.ref f]) (vs := [.ref f]) lk hcd S hr1 I1.env0 (hbd s' [.ref f] I1.kIn rfl) (.cons rfl .nil) rfl fun hr' => ?_
    have L' : LamN X.N (bs.map (·.1)) X.env.scope scope := by rw [hbs]; exact L
    refine ⟨_, PSs.nox (frame X.A X.stack s' w1.H f c' (lamQ X) (fun E HZ QZ => tlOut X (MT M0 T) wb E σ HZ QZ) gds hr' fun W pn xe E p1 p2 tk hW => ?_), ?_⟩
    · have hrk : Room (k - 1 + 1) (X.A.deeper (PyProof.Rows.envOfC x sg s'.heap.objs.size gg cdv)) := by
        rw [Nat.sub_add_cancel h1]; exact hr'
      refine lamAct (CXg := CX0) (Eg := C8.E0) (Ng := [a, cg, fd, en]) (i := 0) (E := E) (tb := tlOut X (MT M0 T) wb E) I1 L' md dk tk hW hrk (fun s2 H2 hr2 => ?_) rfl va nd nc
      refine ⟨fun pz sz σz Hz Qz Iz ⟨w0, R, hE, want⟩ => ?_⟩
      have tk0 : Takes (lamCx X (X.A.deeper (PyProof.Rows.envOfC x sg s'.heap.objs.size gg cdv)) (PyProof.Rows.envOfC x sg s'.heap.objs.size gg cdv :: X.stack) s2 H2 E scope f c') (fun cls d _ H' => E cls d H') := takes_of rfl rfl rfl rfl
      exact (hb (X.A.deeper (PyProof.Rows.envOfC x sg s'.heap.objs.size gg cdv)) _ s2 H2 E f c' w0 R gds hr2 (tk0.imp fun c d σ H' ⟨w', ρ', x, e, so, xo, r⟩ => e ▸ hE w' c d x so.st so.gd xo r)).run pz sz σz Hz Qz Iz want
    · refine ⟨(show 2 ≤ sizeLine by decide), fun pt hpt => ?_⟩
      have sp := s1.trans (stp_new (o := .tup [.non, .non]) hpt)
      have gp := gd_new (o := .tup [.non, .non]) g1 hpt
      obtain ⟨wp, ewp⟩ : ∃ wp : W, wp = w1.new pt (.tup [.non, .non]) := ⟨_, rfl⟩
      have eH : upd w1.H pt (.tup [.non, .non]) = wp.H := by rw [ewp]; rfl
      have eQ : wp.c = w.c := by rw [ewp]; exact ec
      rw [← ewp] at sp gp
      have hco' : wp.H c' = some (CodeO c' (lamQ X)) := by rw [← eH, upd_ne (fun z => by rw [z, hpt] at hco; cases hco)]; exact hco
      refine ⟨pt, [.non, .non], rfl, .inl (.inl upd_same), rfl, .non, [.non], rfl, .non, [], rfl, rfl, ?_⟩
      rw [eH]
      refine ⟨rfl, rfl, hco', fun cls d H' => ∃ (w' : W) (y : Xd) (z : D), w'.H = H' ∧ Stp wp w' ∧ Gd (MT M0 T) w' ∧ XOk X.K X.mg w' cls d y ∧ y.C ∈ ns ∧ faultD rs y = some z ∧ Qd z w'.c, fun cls d H' ⟨w', y, z, e, s2, g2, xo, yn, fz, qz⟩ => ⟨⟨y.C, yn, xo.1⟩, fun a' na σ' hl h1' => ?_⟩, wp, fun y c2 => y.C ∈ ns ∧ ∃ z, faultD rs y = some z ∧ Qd z c2, fun w' cls dd y s2 g2 xo ⟨yn, z, fz, qz⟩ => ⟨w', y, z, rfl, s2, g2, xo, yn, fz, qz⟩, ?_⟩
      · subst e
        refine ⟨.ref a', h1', rfl, false, rfl, ?_⟩
        refine iteF ⟨.ref a', h1', ?_⟩
        obtain ⟨C, mC⟩ := ext.cl y.C yn
        have eC : cls = .ref C := by
          have := xo.1
          rw [mC] at this
          exact (Option.some.inj this).symm
        subst eC
        have s3 := stp_own (o := ExV (.ref C) d a') na
        have g3 := gd_own (o := ExV (.ref C) d a') g2 na
        refine ⟨w'.own a' (ExV (.ref C) d a'), a', C, d, y, z, rfl, rfl, g3, own_at, (show a' ∉ w'.R from r_free g2 na), xo.stp s3 g2, yn, fz, fun w2 v s4 g4 dv ec2 => ?_⟩
        exact kk w2 v z (((sp.trans s2).trans s3).trans s4) g4 dv (by rw [ec2]; exact qz)
      · refine ⟨wp, maskE ρ, _, rfl, ⟨(ev.stp sp g).mask, gp, Stp.refl wp, fun i b ⟨q, e, _, o2, o3, _⟩ => ?_⟩, (by rw [eQ]; exact hw), fun w2 v d s2 g2 dv qd => ?_⟩
        · rw [maskE_mut e (List.mem_of_getElem? o2)] at o3
          cases o3
        · refine ⟨.non, rfl, rfl, true, rfl, ?_⟩
          refine iteT ⟨v, rfl, (show 1 ≤ sizeLine by decide), fun p hp => ?_⟩
          exact kk (w2.new p (.lst [v])) _ _ ((sp.trans s2).trans (stp_new hp)) (gd_new g2 hp) (new_lst g2 hp (.cons dv .nil)) qd
  refine wpAny_call (codeAny_mono rc fun r s2 hq => ?_)
  cases r with
  | error e => exact (show False from hq).elim
  | ok fl =>
    cases fl with
    | ret u => exact I1.after hq
    | next => exact hq.elim
    | brk => exact hq.elim
    | cont => exact hq.elim
end
end HW

/-! Y11: the law's own call where tables of code objects are known to be empty -/
namespace HW
open PySem L2 PySem.Spec PyProof.Rows LamX
/-- what is asked of the code objects and their tables at the head -/
structure CtOk (K : PySem.W.Frag) (h : Heap) (cs : List (Addr × Addr)) : Prop where
  emp : ∀ p ∈ cs, h.get? p.2 = some { cls := .none, data := .fields #[] }
  off : ∀ p ∈ cs, K.lookup p.2 = none
  hd : ∀ p ∈ cs, PySem.W.CodeHd h p.1 p.2
theorem law_callGT {P : Program} {w : World} {K : PySem.W.Frag} {mg mb : Str → Option Value} {k : Nat} {fa a : Addr} {cs : List (Addr × Addr)} {fd : FuncData} {x : Str} {sp : Sp} {t : Shared} {us : List Value} {ns : List Int}
    (inK : K.In t.heap) (nsM : t.heap.Ns mainGlobals mg) (nsB : t.heap.Ns builtinsNs mb) (boot : ∀ x : Str, x ≠ "__name__" → mb x = bootBuiltins x) (noLim : t.heap.NoLimit) (noGen : t.gens = #[]) (ct : CtOk K t.heap cs)
    (bmain : ∃ (bm : Addr) (ob : Obj), mg "__builtins__" = some (.ref bm) ∧ bm ≠ builtinsNs ∧ t.heap.get? bm = some ob ∧ ob.cls = .type "module" ∧ ob.dict = some builtinsNs ∧ ob.data = .plain)
    (at_a : t.heap.get? a = some { cls := .type "list", data := .seq us.toArray }) (intsA : IntsAre us ns) (len : ns.length ≤ sizeLine) (room : Room k callerA)
    (F : ∀ base : Heap, K.In base → base.Ns mainGlobals mg → (∀ p ∈ cs, TabB base mg p.1 p.2) → FnG P w K mg base CX0 k fa fd [x] sp) (bind : ∀ (s : Shared) (u : Value), BindsTo s fd ⟨[u], []⟩ [(x, u)])
    (want : ∀ T : Hp, (∀ p ∈ cs, T p.2 = some (.tbl #[])) → SqL K T a (ns.map V.int) → (∀ p ∈ cs, p.2 ≠ a) → sp [.ref a] T (fun v _ => v = .bl true) fun _ _ _ => False) :
    codeAny (model P w) callerA (.call (.ref fa) ⟨[.ref a], []⟩) (fun r s' => r = .ok (.ret (.bool true)) ∧ OldK t.heap s'.heap ∧ s'.os = t.os ∧ AllBare s'.gens) t := by
  have vi := vals_ints intsA
  have li := intsA.length
  have emp : ∀ b, b ∈ cs.map (·.2) → t.heap.get? b = some { cls := .none, data := .fields #[] } := fun b hb => by
    obtain ⟨p, hp, rfl⟩ := List.mem_map.mp hb
    exact ct.emp p hp
  have nA : a ∉ cs.map (·.2) := fun z => by
    have q := (at_a.symm.trans (emp a z))
    cases q
  have inT : ∀ p ∈ cs, p.2 ∈ cs.map (·.2) := fun p hp => List.mem_map_of_mem hp
  have neA : ∀ p ∈ cs, p.2 ≠ a := fun p hp z => nA (z ▸ inT p hp)
  have go : ∀ T : Hp, (∀ p ∈ cs, T p.2 = some (.tbl #[])) → (∀ b, T b = none ∨ b ∈ cs.map (·.2) ∨ ∃ o xs, T b = some (.frz o (.lst xs))) → SqL K T a (ns.map V.int) → HOk P w T t.heap → (∀ b, T b ≠ none → b = a ∨ b ∈ cs.map (·.2)) → (T a ≠ none → K.lookup a = none) →
      codeAny (model P w) callerA (.call (.ref fa) ⟨[.ref a], []⟩) (fun r s' => r = .ok (.ret (.bool true)) ∧ OldK t.heap s'.heap ∧ s'.os = t.os ∧ AllBare s'.gens) t := by
    intro T tbl only sq hok one free
    have stays : ∀ {b : Addr} {o : Obj}, t.heap.get? b = some o → T b = none → (hidT t.heap T).get? b = some o := fun e n => hidT_get e n
    -- what is neither the script nor an empty table is not hidden
    have seen : ∀ {b : Addr} {o : Obj}, t.heap.get? b = some o → (∀ vs n, o.data ≠ .seq vs n) → o.data ≠ .fields #[] → T b = none := by
      intro b o e n1 n2
      by_cases q : T b = none
      · exact q
      · rcases one b q with z | z
        · rw [z, at_a] at e
          cases e
          exact absurd rfl (n1 _ _)
        · rw [emp b z] at e
          cases e
          exact absurd rfl n2
    have nss : ∀ {b : Addr} {m : Str → Option Value}, t.heap.Ns b m → (hidT t.heap T).Ns b m := by
      rintro b m ⟨o, es, ep, e, d, r⟩
      exact ⟨o, es, ep, stays e (seen e (fun _ _ z => by rw [d] at z; cases z) fun z => by rw [d] at z; cases z), d, r⟩
    have kIn : K.In (hidT t.heap T) := by
      intro b o e
      refine stays (inK b o e) ?_
      by_cases q : T b = none
      · exact q
      · rcases one b q with z | z
        · subst z
          rw [free q] at e
          cases e
        · obtain ⟨p, hp, rfl⟩ := List.mem_map.mp z
          rw [ct.off p hp] at e
          cases e
    obtain ⟨mc, l1, l2⟩ := noLim
    have md : Mod K mg (hidT t.heap T) := ⟨kIn, nss nsM, ⟨mb, nss nsB, boot⟩, mc, nss l1, l2⟩
    have tbs : ∀ p ∈ cs, TabB (hidT t.heap T) mg p.1 p.2 := fun p hp => by
      have eP := ct.emp p hp
      have gP : mainGlobals ≠ p.2 := fun z => by
        obtain ⟨o, es, ep, e, d, _⟩ := nsM
        rw [z, eP] at e
        cases e
        cases d
      obtain ⟨o, vs, z1, z2, z3, z4, z5, z6, z7, e1, c1, d1, c2, rest⟩ := ct.hd p hp
      obtain ⟨bm, ob, m1, m2, m3, m4, m5, m6⟩ := bmain
      refine ⟨⟨o, vs, z1, z2, z3, z4, z5, z6, z7, stays e1 (seen e1 (fun _ _ z => by rw [d1] at z; cases z) fun z => by rw [d1] at z; cases z; simp at c2), c1, d1, c2, rest⟩, ⟨bm, ob, m1, m2, fun z => ?_, fun z => ?_, stays m3 (seen m3 (fun _ _ z => by rw [m6] at z; cases z) fun z => by rw [m6] at z; cases z), m4, m5, m6⟩, gP⟩
      · obtain ⟨o', es, ep, e, d, _⟩ := nsM
        rw [← z, m3] at e
        cases e
        rw [m6] at d
        cases d
      · rw [z, eP] at m3
        cases m3
        cases m6
    have env : Env0 P w K mg (hidT t.heap T) callerA [] t T :=
      ⟨rfl, md, fun b o e => of_hidT e, Nat.le_of_eq (hidT_size _ _), trivial, fun b hb => absurd (show b ∈ ([] : List Addr) from hb) (by simp), hok, .of_eq noGen⟩
    have run := (F _ kIn (nss nsM) tbs).run callerA [] t T ⟨[.ref a], []⟩ [.ref a] [.ref a] _ _ rfl room env (bind t (.ref a)) (.cons rfl .nil) (want T tbl sq neA)
    refine codeAny_mono run fun r s' h => ?_
    cases r with
    | error e => exact False.elim h
    | ok fl =>
      cases fl with
      | ret u =>
        obtain ⟨v, T', os, bare, un, hok', rv, q⟩ := h
        obtain rfl : v = .bl true := q
        obtain rfl : u = Value.bool true := rv
        have keep : ∀ b o, b ∉ cs.map (·.2) → t.heap.get? b = some o → s'.heap.get? b = some o := fun b o nb e => by
          by_cases q : T b = none
          · exact un.keep b o e q (fun z => absurd (show b ∈ ([] : List Addr) from z) (by simp)) (by simp)
          · rcases only b with z | z | ⟨ob, xs, z⟩
            · exact absurd z q
            · exact absurd z nb
            · obtain ⟨e1, _⟩ := hok b _ z
              obtain ⟨e2, _⟩ := hok' b _ (un.frzs b ob _ z)
              rw [e] at e1
              cases e1
              exact e2
        have more : ∀ p ∈ cs, ∃ m : Array Value, s'.heap.get? p.2 = some { cls := .none, data := .fields m } := fun p hp => by
          obtain ⟨m, z⟩ := un.tbls p.2 #[] (tbl p hp)
          exact ⟨_, hok' p.2 _ z⟩
        refine ⟨rfl, ⟨fun b o e => ?_, fun b o e => ?_⟩, os, bare⟩
        · by_cases hb : b ∈ cs.map (·.2)
          · obtain ⟨p, hp, rfl⟩ := List.mem_map.mp hb
            obtain ⟨m, hm⟩ := more p hp
            rw [ct.emp p hp] at e
            cases e
            exact .inr (.inl ⟨((ct.hd p hp).tab (ct.emp p hp)).isCodeTable, rfl, #[], m, rfl, by rw [Array.empty_append]; exact hm⟩)
          · exact .inl (keep b o hb e)
        · by_cases hb : b ∈ cs.map (·.2)
          · obtain ⟨p, hp, rfl⟩ := List.mem_map.mp hb
            obtain ⟨m, hm⟩ := more p hp
            exact ⟨_, hm⟩
          · exact ⟨o, keep b o hb e⟩
      | next => exact False.elim h
      | brk => exact False.elim h
      | cont => exact False.elim h
  by_cases hk : K.lookup a = none
  · obtain ⟨T, eT⟩ : ∃ T : Hp, T = fun b => if b = a then some (.frz { cls := .type "list", data := .seq us.toArray } (.lst (ns.map V.int))) else if b ∈ cs.map (·.2) then some (.tbl #[]) else none := ⟨_, rfl⟩
    have t1 : T a = some (.frz { cls := .type "list", data := .seq us.toArray } (.lst (ns.map V.int))) := by rw [eT]; exact if_pos rfl
    have t2 : ∀ b, b ∈ cs.map (·.2) → T b = some (.tbl #[]) := fun b hb => by rw [eT]; exact (if_neg (fun z : b = a => nA (z ▸ hb))).trans (if_pos hb)
    have t3 : ∀ b, b ≠ a → b ∉ cs.map (·.2) → T b = none := fun b h1 h2 => by rw [eT]; exact (if_neg h1).trans (if_neg h2)
    refine go T (fun p hp => t2 _ (inT p hp)) (fun b => ?_) (.inl (.inr ⟨_, t1⟩)) (fun b u z => ?_) (fun b z => ?_) fun _ => hk
    · by_cases h1 : b = a
      · rw [h1]; exact .inr (.inr ⟨_, _, t1⟩)
      · by_cases h2 : b ∈ cs.map (·.2)
        · exact .inr (.inl h2)
        · exact .inl (t3 b h1 h2)
    · by_cases h1 : b = a
      · rw [h1, t1] at z
        cases z
        rw [h1]
        exact ⟨at_a, (by rw [List.length_map]; exact len), us, _, vi, at_a⟩
      · by_cases h2 : b ∈ cs.map (·.2)
        · rw [t2 b h2] at z
          cases z
          exact emp b h2
        · rw [t3 b h1 h2] at z
          cases z
    · by_cases h1 : b = a
      · exact .inl h1
      · by_cases h2 : b ∈ cs.map (·.2)
        · exact .inr h2
        · exact absurd (t3 b h1 h2) z
  · obtain ⟨o, hk⟩ := Option.ne_none_iff_exists'.mp hk
    have e := inK a o hk
    rw [at_a] at e
    cases e
    obtain ⟨T, eT⟩ : ∃ T : Hp, T = fun b => if b ∈ cs.map (·.2) then some (.tbl #[]) else none := ⟨_, rfl⟩
    have t2 : ∀ b, b ∈ cs.map (·.2) → T b = some (.tbl #[]) := fun b hb => by rw [eT]; exact if_pos hb
    have t3 : ∀ b, b ∉ cs.map (·.2) → T b = none := fun b h2 => by rw [eT]; exact if_neg h2
    refine go T (fun p hp => t2 _ (inT p hp)) (fun b => ?_) (.inr ⟨_, us.toArray, _, hk, rfl, rfl, rfl, (by rw [List.size_toArray, li]; exact len), (by simpa using vi)⟩) (fun b u z => ?_) (fun b z => ?_) fun z => absurd (t3 a nA) z
    · by_cases h2 : b ∈ cs.map (·.2)
      · exact .inr (.inl h2)
      · exact .inl (t3 b h2)
    · by_cases h2 : b ∈ cs.map (·.2)
      · rw [t2 b h2] at z
        cases z
        exact emp b h2
      · rw [t3 b h2] at z
        cases z
    · by_cases h2 : b ∈ cs.map (·.2)
      · exact .inr h2
      · exact absurd (t3 b h2) z
/-- the defs of the text: their code objects' tables are empty at the head -/
def TabsAt (q : Program) (K : PySem.W.Frag) (mg : Str → Option Value) (h : Heap) : Prop := ∀ (n : Str), ((recsOf q).any fun e => e.name == n) = true → ∀ (fa c P : Addr) (o : Obj) (fd : FuncData) (e : Value) (dd : Option Addr) (vs : Array Value) (sl : Array (Option Value)),
  mg n = some (.ref fa) → K.lookup fa = some o → o.data = .func fd → fd.code = .ref c → K.lookup c = some ⟨e, dd, .fields vs, sl⟩ → vs[11]? = some (.ref P) → h.get? P = some { cls := .none, data := .fields #[] } ∧ PySem.W.CodeHd h c P
theorem walkGT {l : PySem.W.OpenLaw} {n k : Nat} {q : Program} {loose : List Str} {XP : (Str → Option Value) → Heap → Prop} {YP : World → Heap → Prop} {d : DefRec} {K : Params → PySem.W.Frag} {x : Str}
    (hn : l.most = some n) (small : n ≤ sizeLine) (nodf : d.params.defaults = []) (room : Room k callerA) (isIn : ∀ (w : World) (h : Heap), YP w h → (K w.params).In h)
    (F : ∀ (w : World) (mg : Str → Option Value) (fa : Addr) (h : Heap), (K w.params).In h → h.Ns mainGlobals mg → TabsAt q (K w.params) mg h → mg d.name = some (.ref fa) → ∃ (fd : FuncData) (cs : List (Addr × Addr)) (sp : Sp), CtOk (K w.params) h cs ∧ (∀ (s : Shared) (u : Value), BindsTo s fd ⟨[u], []⟩ [(x, u)]) ∧
      (∀ (T : Hp) (a : Addr) (ns : List Int), ns.length ≤ n → (∀ z ∈ ns, Builtin.Int.intBits z ≤ 1048576) → (∀ p ∈ cs, T p.2 = some (.tbl #[])) → SqL (K w.params) T a (ns.map V.int) → (∀ p ∈ cs, p.2 ≠ a) → sp [.ref a] T (fun v _ => v = .bl true) fun _ _ _ => False) ∧
      ∀ base : Heap, (K w.params).In base → base.Ns mainGlobals mg → (∀ p ∈ cs, TabB base mg p.1 p.2) → FnG l.prog w (K w.params) mg base CX0 k fa fd [x] sp) :
    PySem.W.WalkO q loose XP YP l.row.toRowW d [] (fun f vs => PySem.call f vs) := by
  refine Att.attach_callB hn nodf fun w s₀ t mg mb fa o pm cd doc a us ns G Y _ _ _ hm at_a intsA len bits noGen => ?_
  have inK := isIn w _ Y
  have tabs : TabsAt q (K w.params) mg t.heap := by
    intro x hx fa c P o fd e dd vs sl k1 k2 k3 k4 k5 k6
    obtain ⟨r, hr, hr2⟩ := List.any_eq_true.mp hx
    obtain ⟨a', o', fd', c', P', h1, h2, h3, h4, h5, h6⟩ := G.T.tab r hr
    rw [beq_iff_eq.mp hr2, k1] at h1
    cases h1
    rw [inK _ _ k2] at h2
    cases h2
    rw [k3] at h3
    cases h3
    rw [k4] at h4
    cases h4
    have cd := PySem.W.CodeHd.of h5 h6
    obtain ⟨⟨oc, vc, e1, _, e3, e4⟩, hP⟩ := h6
    rw [inK _ _ k5] at e1
    cases e1
    cases e3
    rw [k6] at e4
    cases e4
    exact ⟨hP, cd⟩
  obtain ⟨fd, cs, sp, ct, hb, want, hF⟩ := F w mg fa _ inK G.T.g tabs hm
  exact law_callGT inK G.T.g G.T.b G.T.builtins G.T.nolimit noGen ct G.T.bmain at_a intsA (Nat.le_trans len small) room hF hb fun T h1 h2 h3 => want T a ns len bits h1 h2 h3
end HW

/-! Y12: the law's promise with tables; its start -/
namespace HW
open PySem L2 PySem.Spec PyProof.Rows LamX
def lawSpT (K : PySem.W.Frag) (cs : List (Addr × Addr)) : Sp := fun vs H Q _ => ∃ (v : V) (ns : List Int) (w : W), vs = [v] ∧ w.H = H ∧ w.mo = none ∧ w.c = 0 ∧ Gd MD w ∧ Dv K w.F w.H v (.list (dI ns)) ∧ ns.length ≤ 63 ∧ (∀ p ∈ cs, w.H p.2 = some (.tbl #[]) ∧ ¬ w.F p.2) ∧ ∀ H', Q (.bl true) H'
theorem law_startT {K : PySem.W.Frag} {T : Hp} {a : Addr} {ns : List Int} {cs : List (Addr × Addr)} (h : ns.length ≤ 63) (tb : ∀ p ∈ cs, T p.2 = some (.tbl #[])) (sq : SqL K T a (ns.map V.int)) (ne : ∀ p ∈ cs, p.2 ≠ a) : lawSpT K cs [.ref a] T (fun v _ => v = .bl true) fun _ _ _ => False := by
  refine ⟨.ref a, ns, ⟨fun b => T b ≠ none ∧ b ∉ cs.map (·.2), [], T, 0, none⟩, rfl, rfl, rfl, rfl, ⟨fun b e => (by cases e), fun _ => rfl, fun z => z.elim, fun b hb => ?_, fun b f => f.1⟩, ?_, h, fun p hp => ⟨tb p hp, fun f => f.2 (List.mem_map_of_mem hp)⟩, fun _ => rfl⟩
  · exact absurd (show b ∈ ([] : List Addr) from hb) (by simp)
  · refine .lst ?_ (DvA.of_ints ns)
    rcases sq with z | z
    · refine .inl ⟨⟨?_, fun m => ?_⟩, z⟩
      · show T a ≠ none
        rcases z with z | ⟨o, z⟩ <;> rw [z] <;> simp
      · obtain ⟨p, hp, e⟩ := List.mem_map.mp m
        exact ne p hp e
    · exact .inr z
theorem EnvOk.cast {K : PySem.W.Frag} {w w1 : W} {σ : L2.St} {ρ : List En} (h : EnvOk K w σ ρ) (nm : ∀ e ∈ ρ, En.mut e = false) (eF : w1.F = w.F) (eH : w1.H = w.H) (em : w1.mo = w.mo) : EnvOk K w1 σ ρ := by
  refine ⟨h.len, fun i e q => ?_, fun i j a ⟨p, e, _, o2, o3, _⟩ => ?_⟩
  · have z := h.ok i e q
    have m := nm e (List.mem_of_getElem? q)
    cases e with
    | un => exact True.intro
    | im d => obtain ⟨v, h1, h2⟩ := z; exact ⟨v, h1, by rw [eF, eH]; exact h2⟩
    | st => obtain ⟨a, h1, h2⟩ := z; exact ⟨a, h1, by rw [em]; exact h2⟩
    | ls _ => cases m
    | dc _ => cases m
    | dl _ => cases m
    | dt _ => cases m
  · rw [nm e (List.mem_of_getElem? o2)] at o3
    cases o3
/-- the draws have begun: the tables join what the draws' state guards -/
theorem tab_join {M : MI} {w : W} {T : List (Addr × Str)} {a : Addr} (g : Gd M w) (mo : w.mo = some a) (h : ∀ p ∈ T, w.H p.1 = some (.tbl #[]) ∧ ¬ w.F p.1 ∧ p.1 ∉ w.R) : ∃ w1 : W, w1.F = w.F ∧ w1.H = w.H ∧ w1.c = w.c ∧ w1.mo = w.mo ∧ Gd (MT M T) w1 := by
  have inT : ∀ b ∈ T.map (·.1), ∃ p ∈ T, p.1 = b := fun b hb => List.mem_map.mp hb
  refine ⟨{ w with R := w.R ++ T.map (·.1) }, rfl, rfl, rfl, rfl, ⟨fun b eb => ⟨w.R, T.map (·.1), rfl, g.mi b eb, ⟨fun p hp => ⟨List.mem_map_of_mem hp, #[], (h p hp).1, True.intro, fun pp cv hc => ?_⟩, fun b hb => ?_⟩, fun b hb => ?_⟩, fun z => ?_, fun _ z => ?_, fun b hb => ?_, g.tf⟩⟩
  · have z : codeAmong pp [] = some cv := hc
    simp [codeAmong] at z
  · obtain ⟨p, hp, rfl⟩ := inT b hb
    exact .inl ⟨_, (h p hp).1⟩
  · obtain ⟨p, hp, rfl⟩ := inT b hb
    exact (h p hp).2.2
  · rw [show w.mo = none from z] at mo
    cases mo
  · rw [show w.mo = none from z] at mo
    cases mo
  · rcases List.mem_append.mp hb with z | z
    · exact g.tr b z
    · obtain ⟨p, hp, rfl⟩ := inT b z
      exact ⟨by rw [(h p hp).1]; simp, (h p hp).2.1⟩
/-- m = the draws' begin, then the rest by its word, in worlds with tables -/
def tLawT (K : PySem.W.Frag) (T : List (Addr × Str)) (ws : WS) : TS := tSeq (tAsg (tCall (begSp K) [] E0 (tCons (tVar 0) tNil)) (gName 1)) (fun D σ H => ∃ w0, tS (MT MD T) K w0 ws D σ H)
theorem law_runT {K : PySem.W.Frag} {N : List Str} {ws : WS} {H : Hp} {vs : List V} {Q : VK} {E : XK} {cs : List (Addr × Addr)} {T : List (Addr × Str)} (hN : 2 ≤ N.length) (hT : ∀ p ∈ T, ∃ c, (c, p.1) ∈ cs) (h : lawSpT K cs vs H Q E)
    (math : ∀ ns : List Int, ns.length ≤ 63 → ws { nx := fun _ _ => False, rt := fun d _ => d = .bool true } ((startE N [.im (.list (dI ns))]).set 1 .st) 0) : tLawT K T ws { nx := fun _ H' => Q .non H', rt := Q } (L2.start N vs) H := by
  obtain ⟨v, ns, w, rfl, rfl, mo, c0, g, dv, hl, tb, k⟩ := h
  have a0 : ArgsOk K w [v] [.im (.list (dI ns))] := .im dv .nil
  have so := start_ok (N := N) g a0
  refine ⟨v, rfl, w, v, ns, rfl, rfl, mo, g, dv, by omega, fun w' a s' g' mo' c' => ?_⟩
  have so' := so.stp s' g'
  have r0 : w.R = [] := g.r0 mo
  obtain ⟨w1, e1, e2, e3, e4, g1⟩ := tab_join (T := T) g' mo' fun p hp => by
    obtain ⟨c, hc⟩ := hT p hp
    obtain ⟨h1, h2⟩ := tb _ hc
    exact ⟨s'.k _ _ h1 (by rw [r0]; simp), fun f => (s'.f2 _ f).elim h2 fun n => (by rw [h1] at n; cases n), fun z => (s'.r _ z).elim (by rw [r0]; simp) fun n => by rw [h1] at n; cases n⟩
  have nm : ∀ e ∈ (startE N [.im (.list (dI ns))]).set 1 .st, En.mut e = false := fun e he => by
    rcases List.mem_or_eq_of_mem_set he with z | rfl
    · unfold startE at z
      rcases List.mem_append.mp z with z | z
      · rw [List.mem_singleton.mp z]; rfl
      · rw [List.eq_of_mem_replicate z]; rfl
    · rfl
  have ev1 : EnvOk K w1 ((L2.start N [v]).set 1 (some (.ref a))) ((startE N [.im (.list (dI ns))]).set 1 .st) := (so'.ev.setE (i := 1) (u := some (.ref a)) (en := .st) rfl ⟨a, rfl, mo'⟩).cast nm e1 e2 e4
  refine ⟨w1, w1, (startE N [.im (.list (dI ns))]).set 1 .st, _, e2, ⟨ev1, g1, Stp.refl w1, fun i b ⟨p, e, _, o2, o3, _⟩ => ?_⟩, (by rw [e3, c', c0]; exact math ns hl), ?_⟩
  · rw [nm e (List.mem_of_getElem? o2)] at o3
    cases o3
  · exact ⟨fun _ _ _ _ _ q => q.elim, fun w2 v2 d2 _ _ dv2 q => (by
      obtain rfl : d2 = .bool true := q
      cases dv2
      exact k _), fun _ _ _ _ _ q => q.elim, fun _ _ _ _ _ q => q.elim⟩
end HW

/-! Y13: tuples backwards; {} as a value -/
namespace HW
open PySem L2 PySem.Spec PyProof.Rows
section
variable {prog : Program} {w : World} {A : Around} {E : Value → Shared → Prop} {s : Shared}
theorem back_pick (xs : Array Value) : ((List.range xs.size).filterMap fun (k : Nat) => xs[((xs.size : Int) - 1 + (k : Int) * (-1)).toNat]?).toArray = xs.toList.reverse.toArray := by
  have e : (List.range xs.size).filterMap (fun (k : Nat) => xs[((xs.size : Int) - 1 + (k : Int) * (-1)).toNat]?) = ((List.range xs.size).map fun k => xs.size - 1 - k).filterMap (xs[·]?) := by
    rw [List.filterMap_map]
    congr 1
    funext k
    have : ((xs.size : Int) - 1 + (k : Int) * (-1)).toNat = xs.size - 1 - k := by omega
    rw [this]
    rfl
  rw [e, PySem.W.krv_range, List.filterMap_reverse, PySem.W.krv_all]
theorem back_places (n : Nat) : Builtin.Slice.slicePlaces ((n : Int) - 1) (-1) (-1) = n := by
  unfold Builtin.Slice.slicePlaces
  rw [if_neg (by omega)]
  have e : (-(-1) : Int) = 1 := rfl
  rw [e, Int.ediv_one]
  split <;> omega
theorem back_slice {sl : Addr} {vl vu vs : Value} {n : Nat} {Q : Int × Int × Nat → Shared → Prop} (hs : s.heap.IsSliceOf sl vl vu vs) (pl : IsPart vl none) (pu : IsPart vu none) (pk : IsPart vs (some (-1))) (h : Q ((n : Int) - 1, -1, n) s) :
    wpAny (model prog w) A (Builtin.Slice.sliceApplied (.ref sl) (pure (n : Int))) Q E s := by
  obtain ⟨o, e, _, d⟩ := id hs
  unfold Builtin.Slice.sliceApplied Builtin.Slice.sliceFields
  refine wpAny_bind (wpAny_bind (wpAny_field e d (x := vl) rfl (wpAny_bind (wpAny_field e d (x := vu) rfl (wpAny_bind (wpAny_field e d (x := vs) rfl (wpAny_pure ?_)))))))
  refine wpAny_bind (HT.slicePart_ pk ?_)
  show wpAny _ _ (if ((-1 : Int) == 0) = true then _ else _) _ _ s
  rw [if_neg (by decide)]
  refine wpAny_bind (HT.slicePart_ pl (wpAny_bind (HT.slicePart_ pu (wpAny_bind (wpAny_pure ?_)))))
  show wpAny _ _ (pure ((n : Int) - 1, (-1 : Int), Builtin.Slice.slicePlaces ((n : Int) - 1) (-1) (-1))) _ _ s
  rw [back_places]
  exact wpAny_pure h
theorem tup_back {t sl : Addr} {items : Array Value} {vl vu vs : Value} {Q : Value → Shared → Prop} (ht : IsTup s.heap t items) (hs : s.heap.IsSliceOf sl vl vu vs) (pl : IsPart vl none) (pu : IsPart vu none) (pk : IsPart vs (some (-1))) (hz : items.size ≤ sizeLine)
    (h : Q (.ref s.heap.objs.size) { s with heap := s.heap.push { cls := .type "tuple", data := .seq items.toList.reverse.toArray } }) : wpAny (model prog w) A (getItem (.ref t) (.ref sl)) Q E s := by
  have ok : sizeOk (.seq items.toList.reverse.toArray) := by
    show items.toList.reverse.toArray.size ≤ sizeLine
    rw [List.size_toArray, List.length_reverse, Array.length_toList]
    exact hz
  obtain ⟨o, e, ec, d⟩ := id hs
  have isS : s.TypeIs (.ref sl) "slice" := ⟨o, e, ec⟩
  unfold getItem
  try with_reducible refine wpAny_holding ?_
  first | refine wpAny_bind (wpAny_pure ?_) | skip
  refine wpAny_bind (wpAny_sequenceKey ht.typeIs (by decide) ?_)
  refine wpAny_bind (wpAny_callSpecial?_slot (name := Str.ofString "__getitem__") ht.typeIs slot_tuple_getitem (wpAny_call_entry slot_tuple_getitem ht.typeIs entry_tuple_getitem ?_ (args_tuple_getitem _ _)))
  show wpAny _ _ (Builtin.Tuple.tupleItemsOf (.ref t) >>= _) _ _ s
  refine wpAny_bind (tupleItemsOf_ ht (wpAny_bind (wpAny_typeOf isS ?_)))
  rw [if_pos (by decide)]
  refine wpAny_bind (back_slice hs pl pu pk ?_)
  have no : ¬ ((((items.size : Int) - 1 == 0) && ((-1 : Int) == 1) && (items.size == items.size)) = true) := by simp
  show wpAny _ _ (if (((items.size : Int) - 1 == 0) && ((-1 : Int) == 1) && (items.size == items.size)) = true then _ else _) _ _ s
  rw [if_neg no, back_pick]
  first
    | exact wpAny_bind (m := Builtin.Tuple.tupleExact _) (wpAny_newObj_type (wpAny_pure ⟨_, rfl, wpAny_pure h⟩) ok)
    | exact wpAny_bind (m := Builtin.Tuple.tupleExact _) (wpAny_newObj_type (wpAny_bind (wpAny_pure (wpAny_pure ⟨_, rfl, wpAny_pure h⟩))) ok)
    | exact wpAny_bind (wpAny_bind (m := Builtin.Tuple.tupleExact _) (wpAny_newObj_type (wpAny_pure (wpAny_pure ⟨_, rfl, wpAny_pure h⟩)) ok))
    | exact wpAny_bind (wpAny_bind (m := Builtin.Tuple.tupleExact _) (wpAny_newObj_type (wpAny_pure ⟨_, rfl, wpAny_pure h⟩) ok))
end
section
variable {X : Cx} {M : MI} {e : Expr} {we : WE} {p pos : Pos}
def tBackT (K : PySem.W.Frag) (te : TE) : TE := fun σ H Q => te σ H fun x H1 => ∃ a xs, x = .ref a ∧ SqT K H1 a xs ∧ ∀ p, H1 p = none → Q (.ref p) (upd H1 p (.tup xs.reverse))
theorem pe_backT {te : TE} {k : Nat} {p1 p2 p3 : Pos} (he : PE X e te) : PE X (.Subscript e (.Slice none none (some (.UnaryOp .USub (.Constant (.int 1) k p1) p2)) p3) pos) (tBackT X.K te) := by
  refine ⟨fun pins s σ H Q I h => Subscript_ (thn (he.run pins s σ H _ I h) fun v s1 ⟨x, H1, I1, r1, a, xs, ex, hx, q⟩ => ?_)⟩
  subst ex
  cases r1
  have step : PO X (some (.UnaryOp .USub (.Constant (.int 1) k p1) p2)) (tPart (tUn (rU fun i => .int (-i)) (tC (.int 1)))) := po_some (pe_un un_neg pe_int)
  refine wpAny_Slice (thn (po_none.run pins s1 σ H1 (fun o G => o = none ∧ G = H1) I1 ⟨rfl, rfl⟩) fun vl s2 ⟨l, H2, I2, pl, el, e2⟩ => ?_)
  rw [e2] at I2
  rw [el] at pl
  refine thn (po_none.run pins s2 σ H1 (fun o G => o = none ∧ G = H1) I2 ⟨rfl, rfl⟩) fun vu s3 ⟨u, H3, I3, pu, eu, e3⟩ => ?_
  rw [e3] at I3
  rw [eu] at pu
  refine thn (step.run pins s3 σ H1 (fun o G => o = some (-1) ∧ G = H1) I3 ⟨1, rfl, -1, rfl, rfl, rfl⟩) fun vs s4 ⟨o, H4, I4, ps, eo, e4⟩ => ?_
  rw [e4] at I4
  rw [eo] at ps
  have I5 : Inv X pins σ H1 { s4 with heap := s4.heap.push { cls := .type "slice", data := .fields #[vl, vu, vs] } } := I4.kept (t' := s4.toks) fun b ob q => Heap.get?_push_of_some _ q
  obtain ⟨its, r, ht, hz⟩ := I5.tuple hx
  have hl := r.length
  show wpAny (model X.prog X.w) X.A (subscriptTail e (.Slice none none (some (.UnaryOp .USub (.Constant (.int 1) k p1) p2)) p3) (.ref a) (.ref s4.heap.objs.size)) (EP X pins σ Q) X.xe { s4 with heap := s4.heap.push { cls := .type "slice", data := .fields #[vl, vu, vs] } }
  refine tail_any (ops := [.ref a, .ref s4.heap.objs.size]) ht.typeIs slot_tuple_getitem.lookup ?_ (by with_unfolding_all rfl)
  refine tup_back ht (Heap.IsSliceOf.new _ vl vu vs) pl pu ps (by rw [List.size_toArray]; omega) ?_
  refine ⟨.ref _, _, I5.laid (t' := s4.toks) (o := .tup xs.reverse) (fun b ob q => Heap.get?_push_of_some _ q) (Nat.le_refl _) ?_, rfl, q _ (I5.hok.fresh (Nat.le_refl _))⟩
  exact ⟨by rw [List.length_reverse]; exact hz, _, r.reverse, IsTup.new _ _⟩
def wBackT (we : WE) : WE := fun ρ c Q => we ρ c fun d c1 => ∃ ds, d = .tuple ds ∧ Q (.tuple ds.reverse) c1
theorem e_backT {k0 : Nat} {p1 p2 p3 : Pos} (he : PE X e (tB M X.K we)) : PE X (.Subscript e (.Slice none none (some (.UnaryOp .USub (.Constant (.int 1) k0 p1) p2)) p3) pos) (tE M X.K (wBackT we)) := by
  refine PE.imp (pe_backT he) ?_
  rintro σ H Q ⟨w, ρ, Qd, eh, ev, g, hw, k⟩
  refine ⟨w, ρ, _, eh, ev, g, hw, fun w1 v d s1 g1 bv q1 => ?_⟩
  obtain ⟨ds, rfl, q1⟩ := q1
  obtain ⟨a, vs, rfl, h1, h2⟩ := bv.seqT
  exact ⟨a, vs, rfl, h1, fun p hp => k (w1.new p (.tup vs.reverse)) _ _ (s1.trans (stp_new hp)) (gd_new g1 hp) (new_tup g1 hp h2.rev) q1⟩
theorem e_dict0 : PE X (.Dict [] [] pos) (tE M X.K (wC (.dict []))) := by
  refine PE.imp pe_dnewK ?_
  rintro σ H Q ⟨w, ρ, Qd, eh, ev, g, hw, k⟩
  subst eh
  intro p hp
  exact k (w.new p (.dK [])) _ _ (stp_new hp) (gd_new g hp) (.dic new_F (.inl new_at) .nil) hw
end
section
variable {R : RR} {xa : XE} {wa : WE}
@[simp] def xBackT (xa : XE) : XE := fun ρ => (xa ρ).bind fun d => match d with
  | .tuple ds => .ok (.tuple ds.reverse)
  | _ => .bad
theorem k_backT (ha : RfE R xa wa) : RfE R (xBackT xa) (wBackT wa) := fun ρ c Q h => ha ρ c _ (Rs.post_bm h fun d h => by
  cases d with
  | tuple ds => exact ⟨ds, rfl, h⟩
  | _ => exact h.elim)
def xOut (ns : List Str) (rs : List FRow) (xa : XE) : XE := fun ρ => match xa (maskE ρ) with
  | .ok d => .ok (.list [d])
  | .ex e => if e.C ∈ ns then Rs.ofO (faultD rs e) else .bad
  | .bad => .bad
theorem k_out {ns : List Str} {rs : List FRow} {wb : XR → WE} (h : ∀ R' : XR, RfE (fun x _ c => R' x c) xa (wb R')) : RfE R (xOut ns rs xa) (wOut ns rs wb) := fun ρ c Q hp => by
  refine h _ (maskE ρ) c _ ?_
  unfold xOut at hp
  cases e : xa (maskE ρ) with
  | bad => rw [e] at hp; exact hp.elim
  | ok d => rw [e] at hp; exact hp
  | ex x =>
    rw [e] at hp
    show x.C ∈ ns ∧ ∃ y, faultD rs x = some y ∧ Q y c
    dsimp only at hp
    split at hp
    · rename_i hx
      obtain ⟨y, h1, h2⟩ := Rs.post_ofO hp
      exact ⟨hx, y, h1, h2⟩
    · exact hp.elim
end
end HW

/-! Y14: defs that make lambdas; attributes of kept errors; the classes -/
namespace HW
open PySem PySem.Spec PyProof.Rows L2 LamX
section
variable {P : Program} {w : World} {K : PySem.W.Frag} {mg : Str → Option Value} {base : Heap} {CX : CXT} {k : Nat} {f : Addr} {fd : FuncData} {ps : List Str} {sp : Sp}
/-- a def by its body, the code object told -/
theorem fnGC {x qual : Str} {st : Stmt} {N : List Str} (F : L2.Fun K x qual st f fd) (S : FnScope N ps (defScope st)) (len : ∀ vs H Q E, sp vs H Q E → vs.length = ps.length)
    (hbody : ∀ (cdv : Value) (A : Around) (outer : List Env) (s : Shared) (H : Hp) (vs : List V) (Q : VK) (E : XK), fd.code = cdv → (A.deeper (PyProof.Rows.envOfC qual (defScope st) s.heap.objs.size f cdv)).guards = some [] → Room k (A.deeper (PyProof.Rows.envOfC qual (defScope st) s.heap.objs.size f cdv)) → sp vs H Q E →
      ∃ t, PSs (cxOf CX P w K mg base N qual (defScope st) f cdv A outer s H E) (defBody st) t ∧ t { nx := fun _ H' => Q .non H', rt := Q } (L2.start N vs) H) : FnG P w K mg base CX (k + 1) f fd ps sp := by
  obtain ⟨oc, od, kV, doc, pm, an, cdv, ct, osl, e, look, code⟩ := F.ex
  have ec : fd.code = cdv := by rw [e]
  refine ⟨len, fun A outer s0 H0 args us vs Q E gds room e0 bnd rel want => ?_⟩
  have inK : K.In s0.heap := e0.mod.kin.keeps fun a o h => (e0.bs a o h).1
  have kinds : ∀ q ∈ ps.zip us, (defScope st).names.lookup q.1 = some .local ∨ ((defScope st).names.lookup q.1 = some .cell ∧
      ((cellsFrom (s0.heap.objs.size + 1) (defScope st).names []).lookup q.1).isSome = true) := fun q hq =>
    (S.par q.1 (List.of_mem_zip (show (q.1, q.2) ∈ ps.zip us from hq)).1).imp (fun z => z) fun z => ⟨z, PySem.W.cellsFrom_some _ _ _ (.inl z)⟩
  obtain ⟨t, run, q0⟩ := hbody cdv A outer s0 H0 vs Q E ec gds (room.deeper _) want
  subst e
  refine codeAny_call_function room.depth (inK _ _ look) rfl S.co S.gen rfl
    (PySem.W.codeRec_of inK code) (bnd _ _ _ _ (wpAny_newFunctionEnv_cells S.kind kinds fun env henv s1 made => ?_))
  subst henv
  have lim : s0.heap.NoLimit := e0.mod.nolimit.keeps fun a o h => (e0.bs a o h).1
  refine ⟨lim.keeps made.toInCall.keep, codeAny_func ?_⟩
  have I0 := inv_start (CX := CX) (P := P) (w := w) (K := K) (mg := mg) (base := base) (E := E)
    S room.hd e0 (len _ _ _ _ want) rel made
  refine wpAny_mono (run.run [] s1 _ H0 _ I0 q0) (fun fl s2 h2 => ?_) fun _ _ h2 => h2
  cases fl with
  | ret u => exact let ⟨v, _, H2, J, rv, q⟩ := h2; ⟨v, H2, J.os, J.bare, J.base, J.hok, rv, q⟩
  | next => exact let ⟨_, H2, J, q⟩ := h2; ⟨V.non, H2, J.os, J.bare, J.base, J.hok, rfl, q⟩
  | brk => exact let ⟨_, _, _, q⟩ := h2; q.elim
  | cont => exact let ⟨_, _, _, q⟩ := h2; q.elim
theorem def_gC {x qual : Str} {st : Stmt} {N : List Str} {M : MI} {ws : WS} {fw : FW} (F : L2.Fun K x qual st f fd) (S : FnScope N ps (defScope st))
    (hb : ∀ (cdv : Value) (A : Around) (outer : List Env) (s : Shared) (H : Hp) (E : XK) (w0 : W), fd.code = cdv → (A.deeper (PyProof.Rows.envOfC qual (defScope st) s.heap.objs.size f cdv)).guards = some [] → Room k (A.deeper (PyProof.Rows.envOfC qual (defScope st) s.heap.objs.size f cdv)) →
      PSs (cxOf CX0 P w K mg base N qual (defScope st) f cdv A outer s H E).nox (defBody st) (tS M K w0 ws))
    (hf : ∀ es c Q, fw es c Q → es.length = ps.length ∧ wDef N ws es c Q) : FnG P w K mg base CX0 (k + 1) f fd ps (fnSp M K fw) := by
  refine fnGC F S (fun vs H Q E h => ?_) fun cdv A outer s H vs Q E ec gds room h => ?_
  · obtain ⟨w, es, Qd, eh, g, a, hw, k⟩ := h
    rw [a.length]; exact (hf _ _ _ hw).1
  · obtain ⟨w1, es, Qd, eh, g, a, hw, kk⟩ := h
    refine ⟨_, PSs.nox (hb cdv A outer s H E w1 ec gds room), w1, startE N es, _, eh, start_ok g a, (hf _ _ _ hw).2, ?_⟩
    exact ⟨fun w' σ' ρ' _ so q => kk w' .non .none so.st so.gd .non q, fun w' v d s g dv q => kk w' v d s g dv q, fun _ _ _ _ _ q => q, fun _ _ _ _ _ q => q⟩
end
/-- e.f is told of the class's own errors -/
theorem fv_attr {X : Cx} {M : MI} {w0 : W} {n f : Str} (vf : VfOk X.K X.mg n f) : ∀ (w : W) (σ : L2.St) (ρ : List En) (a A : Addr) (d : Option Addr) (x : Xd) (y : D) (Q : VK), SOk M X.K w0 w σ ρ → Fx X.K X.mg w σ a A d x → x.C = n → fVal x (some f) = some y → (∀ v, Dv X.K w.F w.H v y → Q v w.H) → tVf X.K f (tVar 0) σ w.H Q := by
  intro w σ ρ a A d x y Q so fx e fy k
  have mA : X.mg n = some (.ref A) := e ▸ fx.xo.1
  obtain ⟨xf, nf⟩ := vf.xf A mA
  rcases fx.xo.2 with ⟨_, z⟩ | ⟨dd, fvs, rfl, e2, _, e4⟩
  · have fy' : x.fs.lookup f = some y := fy
    rw [z] at fy'
    cases fy'
  · obtain ⟨v, lv, dv⟩ := e4.get (show x.fs.lookup f = some y from fy)
    exact ⟨.ref a, fx.s0, a, A, dd, fvs, v, rfl, fx.ha, e2, xf, nf, lv, k v dv⟩
theorem fv_none {X : Cx} {M : MI} {w0 : W} {n : Str} : ∀ (w : W) (σ : L2.St) (ρ : List En) (a A : Addr) (d : Option Addr) (x : Xd) (y : D) (Q : VK), SOk M X.K w0 w σ ρ → Fx X.K X.mg w σ a A d x → x.C = n → fVal x none = some y → (∀ v, Dv X.K w.F w.H v y → Q v w.H) → tC .non σ w.H Q := by
  intro w σ ρ a A d x y Q so fx e fy k
  cases fy
  exact k _ .non
/-- what is known of one class -/
structure Kc (K : PySem.W.Frag) (C : Addr) : Prop where
  ga : PySem.W.findIn K (.ref C) "__getattribute__" = some (some (.builtin "BaseException.__getattribute__"))
  gt : PySem.W.findIn K (.ref C) "__getattr__" = some none
  sb : PySem.W.subIn K (.ref C) (.type "BaseException") = some true
  ty : PySem.W.typeIn K (.ref C) = some (.type "type")
  hd : PySem.W.hasDictIn K C = true
  ca : PySem.W.findIn K (.ref C) "__class__" = some (some (.builtin "object.__class__"))
  mr : PySem.W.mroIn K C (.type "object") = some true
structure Kg (K : PySem.W.Frag) : Prop where
  sp : PySem.W.specialIn K (.builtin "object.__class__") "__get__" = some (some (.builtin "getset_descriptor.__get__"))
  tk : PySem.W.takesIn K (.builtin "object.__class__") = some true
theorem Kc.vc {K : PySem.W.Frag} {C : Addr} (c : Kc K C) (g : Kg K) : VcOk K C where
  cl := by
    obtain ⟨cd, h, _⟩ := PySem.W.any_some c.hd
    rw [h]
    rfl
  ga := c.ga
  gt := c.gt
  sb := c.sb
  ca := c.ca
  sp := g.sp
  tk := g.tk
  mr := c.mr
theorem Kc.xf {K : PySem.W.Frag} {C : Addr} (c : Kc K C) : XfC K C := ⟨c.ga, c.gt, c.sb, c.hd⟩
theorem kit_ref {K : PySem.W.Frag} {A C : Addr} {b : Bool} (c : Kc K C) (h : PySem.W.subIn K (.ref A) (.ref C) = some b) (hb : A = C → b = true) : PySem.W.kitOne K (.ref A) (.ref C) = some b := by
  obtain ⟨cd, hc, _⟩ := PySem.W.any_some c.hd
  unfold PySem.W.kitOne
  by_cases e : A = C
  · subst e
    rw [if_pos (by simp), hb rfl]
  · rw [if_neg (by simp [e])]
    show (if ((PySem.W.clsIn K C).isSome && PySem.W.typeIn K (.ref C) == some (.type "type")) = true then PySem.W.subIn K (.ref A) (.ref C) else none) = some b
    rw [if_pos (by rw [hc, c.ty]; rfl)]
    exact h
/-- all classes, by their facts -/
theorem classes_ok {K : PySem.W.Frag} {mg : Str → Option Value} {ps : List (Str × Addr)} {ns : List Str} (en : ns = ps.map (·.1)) (nd : ns.Nodup) (g : Kg K) (hm : ∀ p ∈ ps, mg p.1 = some (.ref p.2)) (hc : ∀ p ∈ ps, Kc K p.2) (hp : ∀ p ∈ ps, ∀ q ∈ ps, PySem.W.subIn K (.ref p.2) (.ref q.2) = some (decide (p.1 = q.1))) :
    ExT K mg ns ∧ VgOk K mg ns := by
  subst en
  have same : ∀ p ∈ ps, ∀ q ∈ ps, p.2 = q.2 → p.1 = q.1 := fun p h1 q h2 e => by
    have a := hp p h1 q h2
    have b := hp q h2 q h2
    rw [e, b] at a
    exact of_decide_eq_true ((Option.some.inj a).symm.trans (decide_eq_true rfl))
  refine ⟨⟨fun n hn => ?_, fun n hn n' hn' c c' e1 e2 => ?_⟩, ⟨fun n hn => ?_, fun n hn n' hn' c c' e1 e2 => ?_⟩⟩
  · obtain ⟨p, h1, rfl⟩ := List.mem_map.mp hn
    exact ⟨p.2, hm p h1⟩
  · obtain ⟨p, h1, rfl⟩ := List.mem_map.mp hn
    obtain ⟨q, h2, rfl⟩ := List.mem_map.mp hn'
    rw [hm p h1] at e1
    rw [hm q h2] at e2
    cases e1
    cases e2
    exact PySem.W.exm_ref (hc q h2).sb (hc q h2).hd (hc q h2).ty (hp p h1 q h2)
  · obtain ⟨p, h1, rfl⟩ := List.mem_map.mp hn
    exact ⟨p.2, hm p h1, (hc p h1).vc g⟩
  · obtain ⟨p, h1, rfl⟩ := List.mem_map.mp hn
    obtain ⟨q, h2, rfl⟩ := List.mem_map.mp hn'
    rw [hm p h1] at e1
    rw [hm q h2] at e2
    cases e1
    cases e2
    exact kit_ref (hc q h2) (hp p h1 q h2) fun e => decide_eq_true (same p h1 q h2 e)
section
variable {X : Cx} {M : MI} {k j : Nat} {x : Str} {sp : Sp} {p pos : Pos}
/-- a def without parameters, called -/
theorem pe_g0 (C : CalG X.prog X.w X.K X.mg X.base k x sp) (hr : Room j X.A) (hk : k ≤ j) (gds : X.A.guards = some []) (hg : Gl X x) (hdb : (x == ("__debug__" : Str)) = false := by decide) : PE X (.Call (.Name x p) [] [] pos) (tCall sp [] E0 tNil) := by
  obtain ⟨f, fd, ps, F, hm, kp, b⟩ := C.ex
  refine ⟨fun pins s σ H Q I h => wpAny_Call_Name_kw (ld_glob I hg hm ?_ hdb)⟩
  have hl : ([] : List Value).length = ps.length := F.len [] H Q E0 h
  have bd := b s [] I.kIn hl
  refine PySem.W.callWith_K0 I.kIn kp (wpAny_call (codeAny_mono (F.run X.A X.stack s H ⟨[], []⟩ [] [] Q E0 gds (hr.mono hk) I.env0 bd .nil h) fun r2 s2 h2 => ?_))
  cases r2 with
  | error er => exact False.elim h2
  | ok fl =>
    cases fl with
    | ret u => exact I.after h2
    | next => exact False.elim h2
    | brk => exact False.elim h2
    | cont => exact False.elim h2
theorem e_call0 {f : FW} (C : CalG X.prog X.w X.K X.mg X.base k x (fnSp M X.K f)) (hr : Room j X.A) (hk : k ≤ j) (gds : X.A.guards = some []) (hg : Gl X x) (hdb : (x == ("__debug__" : Str)) = false := by decide) : PE X (.Call (.Name x p) [] [] pos) (tE M X.K (wCall f HW.gNil)) := by
  refine PE.imp (pe_g0 C hr hk gds hg hdb) ?_
  rintro σ H Q ⟨w, ρ, Qd, eh, ev, g, hw, k⟩
  exact ⟨w, [], Qd, eh, g, .nil, hw, k⟩
end
end HW

/-! Y15: t == (), whatever t holds -/
namespace HW
open PySem PySem.Spec PyProof.Rows L2
section
variable {X : Cx}
def rEqE (K : PySem.W.Frag) : R2 := fun x y H Q => ∃ a b xs, x = .ref a ∧ y = .ref b ∧ SqT K H a xs ∧ SqT K H b [] ∧ Q (.bl xs.isEmpty) H
theorem op_eqE (hu : X.A.units + 64 < cLine) : OpR X (compareOp .Eq) (rEqE X.K) := by
  intro pins s σ H x y v u Q I rx ry h
  obtain ⟨a, b, xs, rfl, rfl, ha, hb, q⟩ := h
  cases rx
  cases ry
  obtain ⟨its, r1, p1, _⟩ := I.tuple ha
  obtain ⟨its2, r2, p2, _⟩ := I.tuple hb
  cases r2
  refine SeqAt.eq_tupleAt (e := fun _ => true) p1 p2 (by omega) (fun j h1 h2 => absurd h2 (by simp)) ?_
  have e : ((List.range (min its.toArray.size ([] : List Value).toArray.size)).all (fun _ => true) && its.toArray.size == ([] : List Value).toArray.size) = xs.isEmpty := by
    have hl := r1.length
    cases r1 with
    | nil => rfl
    | cons _ _ => simp
  rw [e]
  exact ⟨.bl _, H, I, rfl, q⟩
def eqED : D → D → Option D
  | .tuple xs, .tuple [] => some (.bool xs.isEmpty)
  | _, _ => none
theorem d_eqE {M : MI} {K : PySem.W.Frag} : OpD M K (rEqE K) eqED := fun w x y dx dy z Q g hx hy e k => by
  cases dx <;> cases dy <;> simp only [eqED, reduceCtorEq] at e
  rename_i ds es
  cases es with
  | cons _ _ => simp only [eqED, reduceCtorEq] at e
  | nil =>
    simp only [eqED, Option.some.injEq] at e
    subst e
    obtain ⟨a, vs, rfl, h1, h2⟩ := hx.seqT
    obtain ⟨b, us, rfl, h3, h4⟩ := hy.seqT
    cases h4
    have : vs.isEmpty = ds.isEmpty := by cases h2 <;> rfl
    refine ⟨a, b, vs, rfl, rfl, h1, h3, ?_⟩
    rw [this]
    exact k w _ (Stp.refl w) g (.bl _) rfl
end
end HW

/-! Y16: words that are never come to; str(int) -/
namespace HW
open PySem PySem.Spec PyProof.Rows L2
section
variable {X : Cx} {M : MI} {w0 : W} {R : RR}
def wFail : WS := fun _ _ _ => False
theorem sl_fail {sts : List Stmt} : PSs X sts (tS M X.K w0 wFail) := ⟨fun _ _ _ _ _ _ h => by
  obtain ⟨w, ρ, dd, _, _, hw, _⟩ := h
  exact hw.elim⟩
def xFail : XS := fun _ => .bad
theorem k_fail : RfS R xFail wFail := fun _ _ _ h => h
def wFailE : WE := fun _ _ _ => False
theorem e_fail {e : Expr} : PE X e (tE M X.K wFailE) := ⟨fun _ _ _ _ _ _ h => by
  obtain ⟨w, ρ, Qd, _, _, _, hw, _⟩ := h
  exact hw.elim⟩
def wParF3 (i j l : Nat) (wn : WN) (we wk : WE) : WS := fun dd ρ c => wn ρ c fun en c1 => we ρ c1 fun d c2 => wk ρ c2 fun d2 c3 => dd.nx (((ρ.set i en).set j (.im d)).set l (.im d2)) c3
/-- one new object of one's own and two values to three names -/
theorem s_parF3 {i j l : Nat} {x y z : Str} {a b e : Expr} {we wk : WE} {wn : WN} {px py pz pt pos : Pos} {kt k2 pt2} (hc : X.calm = true) (hN : X.N.Nodup) (hi : X.N[i]? = some x) (hj : X.N[j]? = some y) (hl : X.N[l]? = some z) (hij : i ≠ j) (hil : i ≠ l) (hjl : j ≠ l) (hx : X.env.scope.names.lookup x = some .local) (hy : X.env.scope.names.lookup y = some .local) (hz : X.env.scope.names.lookup z = some .local) (ha : PE X a (tN M X.K wn)) (hb : PE X b (tE M X.K we)) (he : PE X e (tE M X.K wk))
    (hw : swappedStores [.Tuple [.Name x px, .Name y py, .Name z pz] kt pt] (.Tuple [a, b, e] k2 pt2) X.env = pure (some [x, y, z]) := by rfl) (h1 : starEach [a, b, e] X.env = (false, eval a X.env) :: starEach [b, e] X.env := by rfl) (h2 : starEach [b, e] X.env = (false, eval b X.env) :: starEach [e] X.env := by rfl) (h3 : starEach [e] X.env = (false, eval e X.env) :: starEach [] X.env := by rfl) (hs : swapsWithSole [.Tuple [.Name x px, .Name y py, .Name z pz] kt pt] (.Tuple [a, b, e] k2 pt2) pos.line X.env = pure false := by rfl) :
    PS X (.Assign [.Tuple [.Name x px, .Name y py, .Name z pz] kt pt] (.Tuple [a, b, e] k2 pt2) pos) (tS M X.K w0 (wParF3 i j l wn we wk)) := by
  refine PS.imp (ps_par3 hc hN hi hj hl hij hil hjl hx hy hz (pa_cons ha (pa_cons hb (pa_cons he pa_nil h3) h2) h1) hw hs) ?_
  rintro D σ H ⟨w, ρ, dd, eh, so, hw, k⟩
  refine ⟨w, ρ, _, eh, so.ev, so.gd, hw, fun w1 p en s1 g1 hm he fr q1 => ?_⟩
  refine ⟨w1, ρ, _, rfl, so.ev.stp s1 so.gd, g1, q1, fun w2 v d s2 g2 dv q2 => ?_⟩
  refine ⟨w2, ρ, _, rfl, (so.ev.stp s1 so.gd).stp s2 g1, g2, q2, fun w3 v3 d3 s3 g3 dv3 q3 => ?_⟩
  refine ⟨.ref p, v, v3, rfl, ?_⟩
  have so2 := ((so.stp s1 g1).stp s2 g2).stp s3 g3
  have s23 := s2.trans s3
  have so3 := so2.setOwn (i := i) hm (he.stp s23 g1) fun a sa => ⟨nn so.st (fr a (Sub.back he s23 sa)), fun j' oj => (so.ev.tracked (Own.back so.ev.ok s1 (Own.back (so.ev.stp s1 so.gd).ok s23 oj))).1 (fr a (Sub.back he s23 sa))⟩
  exact k.nx w3 _ _ ((s1.trans s23).fk so.gd) ((so3.setIm (i := j) (dv.fk (s3.fk g2))).setIm dv3) q3
@[simp] def xParF3 (i j l : Nat) (xn : XN) (xa xb : XE) : XS := fun ρ => lift (xn ρ) ρ fun en => lift (xa ρ) ρ fun d => lift (xb ρ) ρ fun d2 => .ok (.nx (((ρ.set i en).set j (.im d)).set l (.im d2)))
theorem k_parF3 {i j l : Nat} {xn : XN} {wn : WN} {xa xb : XE} {wa wb : WE} (hn : RfN R xn wn) (ha : RfE R xa wa) (hb : RfE R xb wb) : RfS R (xParF3 i j l xn xa xb) (wParF3 i j l wn wa wb) := fun dd ρ c h => hn ρ c _ (post_lift h (fun en h => ha ρ c _ (post_lift h (fun d h => hb ρ c _ (post_lift h (fun d2 h => h) fun x h => h)) fun x h => h)) fun x h => h)
def xFailE : XE := fun _ => .bad
theorem k_failE : RfE R xFailE wFailE := fun _ _ _ h => h
end
end HW

namespace Pf
open PySem L2 HW
def topS (i : Nat) : Stmt := PySem.Challenge.pw_towerline_k44_books_checked.main.body.getD i (.Pass ⟨0, 0, 0, 0⟩)
structure Txt (mg : Str → Option Value) : Prop where
  int : mg "int" = none
  len : mg "len" = none
theorem bt_int : bootBuiltins "int" = some (.type "int") := by decide +kernel
theorem bt_len : bootBuiltins "len" = some (.builtin "len") := by decide +kernel
abbrev sNext : Stmt := topS 64
abbrev nNext : List Str := ["m", "total", "rest", "k", "cell", "mixed"]
theorem scNext : FnScope nNext ["m", "total"] (defScope sNext) := ⟨rfl, rfl, rfl, by decide +kernel, rfl, by decide +kernel, by decide +kernel⟩
section
variable (K : PySem.W.Frag)
abbrev wLf : WE := wDix (wLook 0) (wC (.str "great"))
abbrev wCl : WE := wDix (wLook 0) (wC (.str "cells"))
abbrev wMix1 : WE := wOp mulD (wF intD (wOp addD (wOp addD (wOp modD (wF intD (wLook 4)) (wC (.int 2147483563))) (wOp mulD (wC (.int 6053)) (wLook 3))) (wOp mulD (wOp mulD (wC (.int 53)) (wLook 3)) (wLook 3)))) (wC (.int 40014))
abbrev wMix2 : WE := wOp mulD (wF intD (wOp addD (wOp modD (wF intD (wLook 5)) (wC (.int 2147483563))) (wOp mulD (wC (.int 88969)) (wLook 3)))) (wC (.int 742938285))
abbrev wMix3 : WE := wOp modD (wF intD (wOp fdvD (wOp modD (wF intD (wLook 5)) (wC (.int 2147483549))) (wC (.int 17)))) (wLook 1)
def tNx1 : TS := tWhile (tT M0 K (wAnd (wTst (wOp neD wLf (wLst wNil))) (wTst (wOp eqD (wOp ixD wLf (wC (.int 0))) (wC (.int 0)))))) (sDPut (tVar 0) (tC (.str "great")) (tN M0 K (nSl wLf (wSo (wC (.int 1))) wNo)))
def tNx2 : TS := tIfS (tT M0 K (wTst (wOp neD wLf (wLst wNil)))) (tSeq (tAsg (tE M0 K (wF intD (wOp ixD wLf (wC (.int 0))))) (gName 2)) (tSeq (tAsg (tE M0 K (wOp fdvWD (wLook 2) (wLook 1))) (gSub (tDGet (tVar 0) (tC (.str "great"))) (tC (.int 0)) rSetL)) (tRet (tE M0 K (wOp modD (wLook 2) (wLook 1)))))) tNext
def tNx3 : TS := tSeq (tAsg (tE M0 K (wOp addD (wDix (wLook 0) (wC (.str "spot"))) (wC (.int 1)))) (gName 3)) (tSeq (sDPut (tVar 0) (tC (.str "spot")) (tE M0 K (wVar 3)))
  (tSeq (tAsg (tE M0 K (wIfE (wTst (wOp neD wCl (wLst wNil))) (wOp ixD wCl (wOp modD (wF intD (wLook 3)) (wF lenD wCl))) (wC (.int 43)))) (gName 4))
  (tSeq (tAsg (tE M0 K wMix1) (gName 5)) (tSeq (tAsg (tE M0 K wMix2) (gName 5)) (tRet (tE M0 K wMix3))))))
end
theorem fn_next {P : Program} {w : World} {K : PySem.W.Frag} {mg : Str → Option Value} {base : Heap} {f : Addr} {fd : FuncData} (T : Txt mg) (F : L2.Fun K "_law_next" "_law_next" sNext f fd) : FnG P w K mg base CX0 1 f fd ["m", "total"] (fnSp MD K nextW) := by
  refine fnG F scNext (fun vs H Q E ⟨w, es, Qd, eh, g, ar, ⟨t, e, _⟩, k⟩ => by rw [ar.length, e]; rfl) fun cdv A outer s H vs Q E gds room h => ?_
  have N := scNext.nd
  have left {X : Cx} (hu : X.A.units + 1 < cLine) {p q r : Pos} {j} (hv : PE X (.Name "m" p) (tVar 0)) (hs : NoSl (.Constant (.str "great") j q)) : PE X (.Subscript (.Name "m" p) (.Constant (.str "great") j q) r) (tE M0 X.K (wDix (wLook 0) (wC (.str "great")))) := e_dix hu (b_var hv) (toB e_str) hs
  refine ⟨tSeq (tNx1 K) (tSeq (tNx2 K) (tNx3 K)), PSs.nox ?bd, ?gg⟩
  case bd =>
   exact pss_cons (ps_while PassesOwn.never (PW.pt (t_and (t_cmp (op_neD room.units) d_ne (nomark _) (toB (left (hu_of room) (pv 0) (fun _ _ => rfl))) (toB (e_lst a_nil))) (t_and1 (t_cmp (op_eqD room.units) d_eq (nomark _) (toB (e_ix o_ix d_ix (toB (left (hu_of room) (pv 0) (fun _ _ => rfl))) (toB e_int) (fun _ _ => rfl))) (toB e_int)))))
    (pss_one (ps_dput (hu_of room) (pv 0) pe_str (n_sl (toB (left (hu_of room) (pv 0) (fun _ _ => rfl))) (o_so (toB e_int)) o_no) rfl)))
    (pss_cons (ps_if (t_cmp (op_neD room.units) d_ne (nomark _) (toB (left (hu_of room) (pv 0) (fun _ _ => rfl))) (toB (e_lst a_nil)))
      (pss_cons (ps_set (i := 2) N rfl (Or.inl rfl) (e_fnT (M := M0) call_int1 d_int rfl T.int bt_int (toB (e_ix o_ix d_ix (toB (left (hu_of room) (pv 0) (fun _ _ => rfl))) (toB e_int) (fun _ _ => rfl)))))
      (pss_cons (ps_asg (e_op (M := M0) op_fdivW d_fdvW (b_var (pv 2)) (b_var (pv 1))) (pg_sub (pe_dget (hu_of room) (pv 0) pe_str (fun _ _ => rfl)) pe_int set_list))
      (pss_one (ps_ret (e_op (M := M0) op_mod d_mod (b_var (pv 2)) (b_var (pv 1))))))) pss_nil)
    (pss_cons (ps_set (i := 3) N rfl (Or.inl rfl) (e_op (M := M0) o_add d_add (toB (e_dix (hu_of room) (b_var (pv 0)) (toB e_str) (fun _ _ => rfl))) (toB e_int)))
    (pss_cons (ps_dput (hu_of room) (pv 0) pe_str (e_var (M := M0) (pv 3)) rfl)
    (pss_cons (ps_set (i := 4) N rfl (Or.inl rfl) (e_if (M := M0) (t_cmp (op_neD room.units) d_ne (nomark _) (toB (e_dix (hu_of room) (b_var (pv 0)) (toB e_str) (fun _ _ => rfl))) (toB (e_lst a_nil)))
        (e_ix o_ix d_ix (toB (e_dix (hu_of room) (b_var (pv 0)) (toB e_str) (fun _ _ => rfl))) (toB (e_op op_mod d_mod (toB (e_fnT call_int1 d_int rfl T.int bt_int (b_var (pv 3)))) (toB (e_fn o_len d_len rfl T.len bt_len (toB (e_dix (hu_of room) (b_var (pv 0)) (toB e_str) (fun _ _ => rfl))))))) (fun _ _ => rfl)) e_int))
    (pss_cons (ps_set (i := 5) N rfl (Or.inl rfl) (e_op (M := M0) op_mul d_mul (toB (e_fnT call_int1 d_int rfl T.int bt_int (toB (e_op o_add d_add (toB (e_op o_add d_add (toB (e_op op_mod d_mod (toB (e_fnT call_int1 d_int rfl T.int bt_int (b_var (pv 4)))) (toB e_int))) (toB (e_op op_mul d_mul (toB e_int) (b_var (pv 3)))))) (toB (e_op op_mul d_mul (toB (e_op op_mul d_mul (toB e_int) (b_var (pv 3)))) (b_var (pv 3)))))))) (toB e_int)))
    (pss_cons (ps_set (i := 5) N rfl (Or.inl rfl) (e_op (M := M0) op_mul d_mul (toB (e_fnT call_int1 d_int rfl T.int bt_int (toB (e_op o_add d_add (toB (e_op op_mod d_mod (toB (e_fnT call_int1 d_int rfl T.int bt_int (b_var (pv 5)))) (toB e_int))) (toB (e_op op_mul d_mul (toB e_int) (b_var (pv 3)))))))) (toB e_int)))
    (pss_one (ps_ret (e_op (M := M0) op_mod d_mod (toB (e_fnT call_int1 d_int rfl T.int bt_int (toB (e_op op_fdiv d_fdv (toB (e_op op_mod d_mod (toB (e_fnT call_int1 d_int rfl T.int bt_int (b_var (pv 5)))) (toB e_int))) (toB e_int))))) (b_var (pv 1)))))))))))
  case gg =>
    obtain ⟨w0, es, Qd, rfl, g, ar, ⟨t, rfl, ht0, ht1, hc, hq⟩, kk⟩ := h
    cases ar with
    | @st a vs _ mo ar =>
    cases ar with
    | im dv ar =>
    cases ar
    cases dv
    obtain ⟨c1, l, cs, ls, k, eR, sv, hk⟩ := g.mi a mo
    have fin : ∀ {σ : L2.St} {H' : Hp} {ρ : List En} {l' : Addr} {cs' ls' : List Int} {k' : Nat}, At K w0 a c1 σ H' ρ l' cs' ls' k' → k' ≤ w0.c + 1 → ∀ n : Int, 0 ≤ n → n < t → Q (.int n) H' := fun {σ H' ρ l' cs' ls' k'} h hk' n h0 h1 => by
      refine kk ⟨w0.F, [a, c1, l'], H', w0.c + 1, w0.mo⟩ (.int n) (.int n) ⟨fun _ f => f, fun _ f => .inl f, h.keep, h.live, fun b hb => ?_, fun _ e => e⟩ ⟨fun b e => ?_, fun e => ?_, fun z => z.elim, fun b hb => ?_, fun b f => h.live b (g.tf b f)⟩ (.int n) (hq n h0 h1)
      · have hb : b ∈ [a, c1, l'] := hb
        simp only [List.mem_cons, List.not_mem_nil, or_false] at hb
        rcases hb with rfl | rfl | rfl
        · exact .inl (by rw [eR]; simp)
        · exact .inl (by rw [eR]; simp)
        · exact h.l0
      · have : a = b := Option.some.inj (mo.symm.trans e)
        subst this
        exact ⟨c1, l', cs', ls', k', rfl, h.sv, hk'⟩
      · exact absurd (mo.symm.trans e) (by simp)
      · have hb : b ∈ [a, c1, l'] := hb
        simp only [List.mem_cons, List.not_mem_nil, or_false] at hb
        rcases hb with rfl | rfl | rfl
        · exact ⟨h.live _ (g.tr _ (by rw [eR]; simp)).1, (g.tr _ (by rw [eR]; simp)).2⟩
        · exact ⟨h.live _ (g.tr _ (by rw [eR]; simp)).1, (g.tr _ (by rw [eR]; simp)).2⟩
        · refine ⟨by show H' _ ≠ none; rw [h.sv.hl]; simp, fun f => ?_⟩
          rcases h.l0 with z | z
          · exact (g.tr _ z).2 f
          · exact g.tf _ f z
    have A0 : At K w0 a c1 (L2.start nNext [.ref a, .int t]) w0.H [.un, .im (.int t), .un, .un, .un, .un] l cs ls k := by
      refine ⟨sv, rfl, rfl, rfl, fun i e q => ?_, fun b o e _ => e, fun b e => e, .inl (by rw [eR]; simp), by rw [eR]; simp⟩
      match i, q with
      | 0, q => cases q; exact .inl rfl
      | 1, q => cases q; exact .inr ⟨_, .int t, rfl, rfl, rfl, fun _ _ => .int t⟩
      | 2, q => cases q; exact .inl rfl
      | 3, q => cases q; exact .inl rfl
      | 4, q => cases q; exact .inl rfl
      | 5, q => cases q; exact .inl rfl
      | n + 6, q => cases q
    -- the loop
    refine ⟨fun m σ H => ∃ l ls, At K w0 a c1 σ H [.un, .im (.int t), .un, .un, .un, .un] l cs ls k ∧ σ = L2.start nNext [.ref a, .int t] ∧ m = ls.length, ⟨_, l, ls, A0, rfl, rfl⟩, ?_⟩
    rintro m σ H ⟨l, ls, A1, rfl, rfl⟩
    refine A1.T (Qd := fun b _ => b = true → ls ≠ []) ?_ fun H1 b _ A2 hb => ?_
    · refine w_left A1.r0 ⟨by show 0 ≤ _; decide, _, ne_nilD ls, _, rfl, ?_⟩
      cases ls with
      | nil => exact iteF fun z => by cases z
      | cons x r => exact iteT (w_left A1.r0 ⟨_, ix0 x r, _, eq_intD x 0, _, rfl, fun _ z => by cases z⟩)
    cases b with
    | true =>
      refine iteT ⟨fun σ H => σ = L2.start nNext [.ref a, .int t] ∧ ∃ l' ls', At K w0 a c1 σ H [.un, .im (.int t), .un, .un, .un, .un] l' cs ls' k ∧ ls'.length < ls.length, ?_, ?_⟩
      · rintro σ' H' ⟨rfl, l', ls', A3, hl⟩
        exact ⟨_, hl, l', ls', A3, rfl, rfl⟩
      · refine A2.N (xs := ls.drop 1) (w_left A2.r0 ⟨_, rfl, _, rfl, ?_⟩) fun H3 p A3 hn hp => ?_
        · exact congrArg En.ls (cut1 ls (hb rfl))
        · have h0 : w0.H p = none := by
            cases e : w0.H p with
            | none => rfl
            | some o => exact absurd hn (A2.live p (by rw [e]; simp))
          have hcp : c1 ≠ p := fun z => by
            have := A2.sv.hc
            rw [z, hn] at this
            cases this
          refine ⟨_, A3.s0, a, _, rfl, DPut.k (k := .inr "great") A3.sv.hm (by show 3 < sizeLine; decide), rfl, p, ls.drop 1, A3.putL h0 hp hcp, ?_⟩
          rw [List.length_drop]
          have := List.length_pos_iff.mpr (hb rfl)
          omega
    | false =>
      refine iteF ?_
      clear hb A1 A0
      -- what is left
      dsimp only [tSeq, tNx2, tIfS]
      refine A2.T (Qd := fun b _ => b = !ls.isEmpty) ?_ fun H2 b _ A3 hb => ?_
      · exact w_left A2.r0 ⟨by show 0 ≤ _; decide, _, ne_nilD ls, _, rfl, rfl⟩
      cases ls with
      | cons x r =>
        subst hb
        refine iteT ?_
        try dsimp only [gName, tSeq, tAsg, sDPut, tRet, tNext]
        refine A3.E (Qd := fun d _ => d = .int x) ?_ fun H3 v d _ A4 hv ed => ?_
        · exact (w_left A3.r0 ⟨_, ix0 x r, _, rfl, rfl⟩)
        subst ed
        have A5 := A4.set (i := 2) (by decide) rfl (hv rfl)
        try dsimp only [gName, tSeq, tAsg, sDPut, tRet, tNext]
        refine A5.E (Qd := fun d _ => d = .int (x / t)) ?_ fun H4 v2 d2 _ A6 hv2 ed2 => ?_
        · exact ⟨_, _, rfl, rfl, _, _, rfl, rfl, _, if_pos ⟨ht0, ht1⟩, rfl⟩
        subst ed2
        refine ⟨_, A6.s0, a, _, rfl, DGet.k (k := .inr "great") A6.sv.hm, ?_⟩
        cases hv2 rfl (fun _ => False) H4
        refine ⟨l, _, 0, 0, rfl, rfl, A6.sv.hl, ixN0 (by simp), ?_⟩
        try dsimp only [gName, tSeq, tAsg, sDPut, tRet, tNext]
        refine A6.put0.E (Qd := fun d _ => d = .int (x % t)) ?_ fun H5 v5 d5 _ A7 hv5 ed5 => ?_
        · exact ⟨_, _, rfl, rfl, _, _, rfl, rfl, _, if_pos ht0, rfl⟩
        subst ed5
        cases hv5 rfl (fun _ => False) H5
        exact fin A7 (by omega) _ (Int.emod_nonneg _ (by omega)) (Int.emod_lt_of_pos _ ht0)
      | nil =>
        subst hb
        refine iteF ?_
        dsimp only [tNext, tSeq, tNx3, tAsg]
        try dsimp only [gName, tSeq, tAsg, sDPut, tRet, tNext]
        refine A3.E (Qd := fun d _ => d = .int ((k + 1 : Nat) : Int)) ?_ fun H3 v d _ A4 hv ed => ?_
        · exact (w_at A3.r0 ⟨_, rfl, rfl⟩)
        subst ed
        have A5 := A4.set (i := 3) (by decide) rfl (hv rfl)
        try dsimp only [gName, tSeq, tAsg, sDPut, tRet, tNext]
        refine A5.E (Qd := fun d _ => d = .int ((k + 1 : Nat) : Int)) ?_ fun H4 v4 d4 _ A6 hv4 ed4 => ?_
        · exact ⟨_, rfl, rfl⟩
        subst ed4
        cases hv4 rfl (fun _ => False) H4
        refine ⟨_, A6.s0, a, _, rfl, DPut.k (k := .inr "spot") A6.sv.hm (by show 3 < sizeLine; decide), ?_⟩
        have A7 := A6.putAt
        have kb : -(2 ^ 64) < ((k + 1 : Nat) : Int) ∧ ((k + 1 : Nat) : Int) < 2 ^ 64 := by omega
        try dsimp only [gName, tSeq, tAsg, sDPut, tRet, tNext]
        refine A7.E (Qd := fun d _ => ∃ y, d = .int y) ?_ fun H5 v5 d5 _ A8 hv5 ed5 => ?_
        · refine w_cells A7.r0 ⟨by show 0 ≤ _; decide, _, ne_nilD cs, _, rfl, ?_⟩
          cases cs with
          | nil => exact iteF ⟨43, rfl⟩
          | cons x r =>
            refine iteT (w_cells A7.r0 ⟨_, _, rfl, rfl, _, rfl, w_cells A7.r0 ⟨_, rfl, _, if_pos (by show (0 : Int) < ((dI (x :: r)).length : Nat); simp [dI]), ?_⟩⟩)
            obtain ⟨y, e⟩ := ix_any (x :: r) (i := ((k + 1 : Nat) : Int) % ((dI (x :: r)).length : Nat)) (Int.emod_nonneg _ (by simp [dI]; omega)) (by
              have := Int.emod_lt_of_pos ((k + 1 : Nat) : Int) (show (0 : Int) < ((dI (x :: r)).length : Nat) by simp [dI])
              simpa [dI] using this)
            exact ⟨_, e, y, rfl⟩
        obtain ⟨y5, rfl⟩ := ed5
        have A9 := A8.set (i := 4) (by decide) rfl (hv5 rfl)
        try dsimp only [gName, tSeq, tAsg, sDPut, tRet, tNext]
        refine A9.E (Qd := fun d _ => ∃ y, d = .int y) ?_ fun H6 v6 d6 _ A10 hv6 ed6 => ?_
        · exact ⟨_, _, rfl, rfl, _, rfl, _, mod_i (by decide), _, _, rfl, rfl, _, mul_l (by decide), _, rfl, _, _, rfl, rfl, _, mul_l (by decide), _, _, rfl, rfl, _, mul_r kb, _, rfl, _, rfl, _, mul_r (by decide), _, rfl⟩
        obtain ⟨y6, rfl⟩ := ed6
        have A11 := A10.set (i := 5) (by decide) rfl (hv6 rfl)
        try dsimp only [gName, tSeq, tAsg, sDPut, tRet, tNext]
        refine A11.E (Qd := fun d _ => ∃ y, d = .int y) ?_ fun H7 v7 d7 _ A12 hv7 ed7 => ?_
        · exact ⟨_, _, rfl, rfl, _, rfl, _, mod_i (by decide), _, _, rfl, rfl, _, mul_l (by decide), _, rfl, _, rfl, _, mul_r (by decide), _, rfl⟩
        obtain ⟨y7, rfl⟩ := ed7
        have A13 := A12.set (i := 5) (by decide) rfl (hv7 rfl)
        try dsimp only [gName, tSeq, tAsg, sDPut, tRet, tNext]
        refine A13.E (Qd := fun d _ => ∃ n, 0 ≤ n ∧ n < t ∧ d = .int n) ?_ fun H8 v8 d8 _ A14 hv8 ed8 => ?_
        · exact ⟨_, _, rfl, rfl, _, rfl, _, mod_i (by decide), _, fdv_i (by decide) (by decide), _, rfl, _, _, rfl, rfl, _, mod_i ht0, _, Int.emod_nonneg _ (by omega), Int.emod_lt_of_pos _ ht0, rfl⟩
        obtain ⟨n, h0, h1, rfl⟩ := ed8
        cases hv8 rfl (fun _ => False) H8
        exact fin A14 (by omega) n h0 h1
end Pf

namespace Pf
open PySem L2 HW
abbrev sBegun : Stmt := topS 63
abbrev nBegun : List Str := ["script", "great", "cell"]
theorem scBegun : FnScope nBegun ["script"] (defScope sBegun) := ⟨rfl, rfl, rfl, by decide +kernel, rfl, by decide +kernel, by decide +kernel⟩
section
variable (K : PySem.W.Frag)
abbrev nCells : WN := nList (wLook 0)
abbrev nLeft : WN := nLc (wItL (wLook 0)) (wTst (wOp geD (wLook 2) (wOp powD (wC (.int 10)) (wC (.int 18))))) (wVar 2) 2 [2]
def tBg : TS := tSeq (tAsg (tN MD K nLeft) (gName 1)) (tRet (tDisp [(tC (.str "cells"), tN MD K nCells), (tC (.str "great"), tVar 1), (tC (.str "spot"), tC (.int 0))]))
end
theorem left_ok : ∀ (xs acc : List Int) (ρ : List En) (c : Nat), ρ.length = 3 → lcGoN (wTst (wOp geD (wLook 2) (wOp powD (wC (.int 10)) (wC (.int 18))))) (wVar 2) ρ 2 (dI xs) (dI acc) c fun en _ => ∃ ls, en = .ls (dI ls)
  | [], acc, ρ, c, _ => ⟨acc, rfl⟩
  | x :: r, acc, ρ, c, hl => by
    have e1 : (ρ.set 2 (.im (.int x)))[2]? = some (.im (.int x)) := List.getElem?_set_self (by omega)
    refine ⟨_, _, e1, rfl, _, pow_i (by decide), _, rfl, _, rfl, ?_⟩
    generalize decide ((10 : Int) ^ (18 : Int).toNat ≤ x) = b
    cases b with
    | true =>
      refine iteT ⟨_, e1, ?_⟩
      have := left_ok r (acc ++ [x]) ρ c hl
      rw [show dI (acc ++ [x]) = dI acc ++ [.int x] by simp [dI]] at this
      exact this
    | false => exact iteF (left_ok r acc ρ c hl)
theorem fn_begun {P : Program} {w : World} {K : PySem.W.Frag} {mg : Str → Option Value} {base : Heap} {f : Addr} {fd : FuncData} (hl : mg "list" = none) (F : L2.Fun K "_law_begun" "_law_begun" sBegun f fd) : FnG P w K mg base CX0 1 f fd ["script"] (begSp K) := by
  refine fnG F scBegun (fun vs H Q E ⟨w, v, xs, e, _⟩ => by rw [e]; rfl) fun cdv A outer s H vs Q E gds room h => ?_
  refine ⟨tBg K, PSs.nox ?bd, ?gg⟩
  case bd =>
    exact pss_cons (PS.imp (ps_setLc (own := [("cell", 2)]) (i := 1) rfl scBegun.nd rfl (by first | exact Or.inl rfl | exact Or.inr rfl | rfl) rfl (i_listS (b_var (pv 0))) (blkOk_by (own := [("cell", 2)]) (N := nBegun) (sc := defScope sBegun) (by decide +kernel))
      (fun _ _ _ _ _ => pg_name (i := 2) scBegun.nd rfl (Or.inl rfl)) (fun _ _ _ _ _ => ts_one (t_cmp op_ge d_ge (nomark _) (b_var (pv 2)) (toB (e_op op_pow d_pow (toB e_int) (toB e_int))))) (fun _ _ _ _ _ => e_var (pv 2)) (by intro _; rfl)) (fun D σ H h => r_lcN (by decide) σ H _ h))
      (pss_one (ps_ret (pe_disp (pps_cons pe_str (n_list rfl rfl hl (b_var (pv 0))) (pps_cons pe_str (pv 1) (pps_cons pe_str pe_int pps_nil))) rfl rfl (by decide) (by decide))))
  case gg =>
    obtain ⟨w0, v, xs, rfl, rfl, mo, g, dv, hx, kk⟩ := h
    have a0 : ArgsOk K w0 [v] [.im (.list (dI xs))] := .im dv .nil
    have so := start_ok (N := nBegun) g a0
    have hR := g.r0 mo
    refine ⟨w0, _, fun en _ => ∃ ls, en = .ls (dI ls), rfl, so.ev, g, ⟨_, _, rfl, rfl, _, rfl, by simp [dI]; omega, left_ok xs [] _ _ rfl⟩, fun w1 l en s1 g1 hm he fr ed => ?_⟩
    obtain ⟨ls, rfl⟩ := ed
    obtain ⟨l', vs, y1, y2, y3, y4, y5⟩ := he
    cases y1
    have y6 := y5.ints
    subst y6
    have l0 : w0.H l = none := fr l (.inl rfl)
    have ev1 : EnvOk K w1 ((L2.start nBegun [v]).set 1 (some (.ref l))) ((startE nBegun [.im (.list (dI xs))]).set 1 .un) := (so.ev.stp s1 g).setUn
    intro p hp
    have s2 : Stp w1 (w1.own p (.dK [])) := stp_own hp
    have g2 : Gd MD (w1.own p (.dK [])) := gd_own g1 hp
    have ev2 := ev1.stp s2 g1
    have pF : ¬ w1.F p := fun f => g1.tf p f hp
    have pR : p ∉ w1.R := r_free g1 hp
    refine ⟨w1.own p (.dK []), _, fun en _ => en = .ls (dI xs), rfl, ev2, g2, ⟨_, _, rfl, rfl, _, rfl, rfl⟩, fun w3 c1 en s3 g3 hm3 he3 fr3 ed => ?_⟩
    subst ed
    obtain ⟨c1', vs, e1, e2, e3, e4, e5⟩ := he3
    cases e1
    have e6 := e5.ints
    subst e6
    refine ⟨.ref l, rfl, ?_⟩
    have p1 : (w1.own p (.dK [])).H p = some (.dK []) := upd_same
    have l2 := s2.k _ _ y2 y4
    have l2R := r_up s2 y2 y4
    have l3 := s3.k _ _ l2 l2R
    have l2F : ¬ (w1.own p (.dK [])).F l := y3
    have l3F : ¬ w3.F l := fun z => (s3.f2 _ z).elim l2F fun e => by rw [l2] at e; cases e
    have p3 := s3.k _ _ p1 pR
    have p3F : ¬ w3.F p := fun z => (s3.f2 _ z).elim pF fun e => by rw [p1] at e; cases e
    have c0 : (w1.own p (.dK [])).H c1 = none := fr3 c1 (.inl rfl)
    have c00 : w0.H c1 = none := nn s1 (nn s2 c0)
    have p00 : w0.H p = none := nn s1 hp
    have ncl : c1 ≠ l := fun z => by rw [z, l2] at c0; cases c0
    have npc : p ≠ c1 := fun z => by rw [← z, p1] at c0; cases c0
    have npl : p ≠ l := fun z => by rw [z, y2] at hp; cases hp
    refine ⟨p3, [(.inr "cells", .ref c1), (.inr "great", .ref l), (.inr "spot", .int 0)], rfl, (by show 3 ≤ 15; decide), ?_⟩
    have s03 := (s1.trans s2).trans s3
    refine kk ⟨w3.F, [p, c1, l], upd w3.H p (.dK [(.inr "cells", .ref c1), (.inr "great", .ref l), (.inr "spot", .int 0)]), w0.c, some p⟩ p ?_ ?_ rfl rfl
    · refine ⟨s03.f1, s03.f2, fun a o e _ => ?_, fun a e => upd_some (s03.t a e), fun a ha => ?_, fun a e => ?_⟩
      · show upd w3.H p _ a = _
        rw [upd_ne (ne_of_none e p00)]
        exact s03.k a o e (by rw [hR]; simp)
      · have ha : a ∈ [p, c1, l] := ha
        simp only [List.mem_cons, List.not_mem_nil, or_false] at ha
        rcases ha with rfl | rfl | rfl
        · exact .inr p00
        · exact .inr c00
        · exact .inr l0
      · rw [mo] at e; cases e
    · refine ⟨fun a e => ?_, fun e => (by cases e), fun z => z.elim, fun b hb => ?_, fun b f => upd_some (g3.tf b f)⟩
      · cases e
        exact ⟨c1, l, xs, ls, 0, rfl, ⟨upd_same, (upd_ne (Ne.symm npc)).trans e2, (upd_ne (Ne.symm npl)).trans l3, ncl⟩, Nat.zero_le _⟩
      · have hb : b ∈ [p, c1, l] := hb
        simp only [List.mem_cons, List.not_mem_nil, or_false] at hb
        rcases hb with rfl | rfl | rfl
        · exact ⟨by show upd _ _ _ _ ≠ none; rw [upd_same]; simp, p3F⟩
        · exact ⟨upd_some (by rw [e2]; simp), e3⟩
        · exact ⟨upd_some (by rw [l3]; simp), l3F⟩
end Pf

namespace Pf
open PySem L2 HW LamX
structure Md (mg : Str → Option Value) : Prop where
  b_ValueError : mg "ValueError" = none
  b_all : mg "all" = none
  b_bool : mg "bool" = none
  b_enumerate : mg "enumerate" = none
  b_int : mg "int" = none
  b_isinstance : mg "isinstance" = none
  b_len : mg "len" = none
  b_list : mg "list" = none
  b_min : mg "min" = none
  b_range : mg "range" = none
  b_repr : mg "repr" = none
  b_set : mg "set" = none
  b_sorted : mg "sorted" = none
  b_str : mg "str" = none
  b_tuple : mg "tuple" = none
  k_CODE_SIGNS : ∃ t, mg "CODE_SIGNS" = some (.str ("0123456789abcdefghijklmnopqrstuvwxyz" : Str) t)
  k_MOST_CODE : ∃ t, mg "MOST_CODE" = some (.int 5 t)
  k_MOST_NUMBERS : ∃ t, mg "MOST_NUMBERS" = some (.int 200 t)
  k_MOST_PAIRS : ∃ t, mg "MOST_PAIRS" = some (.int 40 t)
  k_MOST_PHRASE : ∃ t, mg "MOST_PHRASE" = some (.int 8 t)
  k_MOST_TEXT : ∃ t, mg "MOST_TEXT" = some (.int 200 t)
theorem bt_all : bootBuiltins "all" = some (.builtin "all") := by decide +kernel
theorem bt_bool : bootBuiltins "bool" = some (.type "bool") := by decide +kernel
theorem bt_min : bootBuiltins "min" = some (.builtin "min") := by decide +kernel
theorem bt_str : bootBuiltins "str" = some (.type "str") := by decide +kernel
theorem bt_tuple : bootBuiltins "tuple" = some (.type "tuple") := by decide +kernel
abbrev tnO : List Str := ["BadAlphabet", "BadBook", "BadPaper", "BadRoad", "Nothing", "OutOfPlace", "TooGreat"]
abbrev rsO : List FRow := [("BadAlphabet", "alphabet", some "part"), ("BadBook", "book", some "number"), ("BadRoad", "road", some "number"), ("BadPaper", "paper", some "part"), ("TooGreat", "great", some "most"), ("OutOfPlace", "place", none), ("Nothing", "nothing", none)]
abbrev qL (n : Str) : Str := (n ++ ".<locals>.") ++ "<lambda>"
abbrev s_u_law_fault : Stmt := topS 67
theorem sc_u_law_fault : FnScope ["e", "found"] ["e"] (defScope s_u_law_fault) := ⟨rfl, rfl, rfl, by decide +kernel, rfl, by decide +kernel, by decide +kernel⟩
theorem g_u_law_fault {P : Program} {w : World} {K : PySem.W.Frag} {mg : Str → Option Value} {base : Heap} {f : Addr} {fd : FuncData} {M : MI} (T : Md mg) (vg : VgOk K mg tnO) (v_BadAlphabet : VfOk K mg "BadAlphabet" "part") (v_BadBook : VfOk K mg "BadBook" "number") (v_BadRoad : VfOk K mg "BadRoad" "number") (v_BadPaper : VfOk K mg "BadPaper" "part") (v_TooGreat : VfOk K mg "TooGreat" "most") (F : L2.Fun K "_law_fault" "_law_fault" s_u_law_fault f fd) : FnG P w K mg base CX0 1 f fd ["e"] (faultSp M K mg tnO rsO) :=
  fn_fault F sc_u_law_fault (by decide) (fun cdv A outer s H E w0 gds hr => pss_cons (ps_set (i := 1) sc_u_law_fault.nd rfl (by first | exact Or.inl rfl | exact Or.inr rfl) (pe_lst pa_nil)) (rows_run (.cons (s_fi vg (by decide) rfl (by decide) rfl T.b_isinstance (fun _ => pv 0) (fun _ => pv 1) (pe_vf (pv 0)) (fv_attr v_BadAlphabet))
      (.cons (s_fi vg (by decide) rfl (by decide) rfl T.b_isinstance (fun _ => pv 0) (fun _ => pv 1) (pe_vf (pv 0)) (fv_attr v_BadBook))
      (.cons (s_fi vg (by decide) rfl (by decide) rfl T.b_isinstance (fun _ => pv 0) (fun _ => pv 1) (pe_vf (pv 0)) (fv_attr v_BadRoad))
      (.cons (s_fi vg (by decide) rfl (by decide) rfl T.b_isinstance (fun _ => pv 0) (fun _ => pv 1) (pe_vf (pv 0)) (fv_attr v_BadPaper))
      (.cons (s_fi vg (by decide) rfl (by decide) rfl T.b_isinstance (fun _ => pv 0) (fun _ => pv 1) (pe_vf (pv 0)) (fv_attr v_TooGreat))
      (.cons (s_fi vg (by decide) rfl (by decide) rfl T.b_isinstance (fun _ => pv 0) (fun _ => pv 1) pe_non fv_none)
      (.cons (s_fi vg (by decide) rfl (by decide) rfl T.b_isinstance (fun _ => pv 0) (fun _ => pv 1) pe_non fv_none)
      (.nil (s_one (s_ret (e_if (t_cmp (op_eqD hr.units) d_eq (nomark _) (toB (e_fn o_len d_len rfl T.b_len bt_len (b_var (pv 1)))) (toB e_int)) (e_ix o_ix d_ix (b_var (pv 1)) (toB e_int) (fun _ _ => rfl)) (e_tup (a_cons e_str (a_cons (e_fn o_len d_len rfl T.b_len bt_len (b_var (pv 1))) a_nil))))))))))))))))
abbrev s_u_law_outcome : Stmt := topS 66
theorem sc_u_law_outcome : FnScope ["call", "caught", "found", "e"] ["call"] (defScope s_u_law_outcome) := ⟨rfl, rfl, rfl, by decide +kernel, rfl, by decide +kernel, by decide +kernel⟩
theorem g_u_law_outcome {P : Program} {w : World} {K : PySem.W.Frag} {mg : Str → Option Value} {base : Heap} {M : MI} {g : Addr} {oc kV doc pm cdv ct : Value} {od an : Option Addr} {osl : Array (Option Value)} (T : Md mg) (c_fault : CalG P w K mg base 1 "_law_fault" (faultSp M K mg tnO rsO)) (ext : ExT K mg tnO) (hm : mg "_law_outcome" = some (.ref g)) (hk : PySem.W.keepIn K (.ref g) = true)
    (l : K.lookup g = some ⟨oc, od, .func (PySem.W.fnOf "_law_outcome" "_law_outcome" (defArgs s_u_law_outcome) (defBody s_u_law_outcome) (defScope s_u_law_outcome) .none kV doc pm an cdv ct), osl⟩) (cd : PySem.W.codeIn K cdv "_law_outcome" = true) (b : L2.Binds K (PySem.W.fnOf "_law_outcome" "_law_outcome" (defArgs s_u_law_outcome) (defBody s_u_law_outcome) (defScope s_u_law_outcome) .none kV doc pm an cdv ct) ["call"] []) : OutC P w K mg base 6 "_law_outcome" M tnO rsO :=
  ⟨g, "call", "caught", "found", "e", oc, od, an, _, _, _, kV, doc, pm, cdv, ct, osl, hm, hk, l, cd, b, sc_u_law_outcome, Or.inl rfl, by decide, by decide, fun A stk s H f c1 q tl gds hr act =>
    pss_cons (ps_asg (pe_tup (pa_cons pe_non (pa_cons pe_non pa_nil))) (pg_tup rfl (pgs_cons (pg_name (i := 1) sc_u_law_outcome.nd rfl (by first | exact Or.inl rfl | exact Or.inr rfl)) (pgs_cons (pg_name (i := 2) sc_u_law_outcome.nd rfl (by first | exact Or.inl rfl | exact Or.inr rfl)) pgs_nil))))
      (pss_cons (s_outTry rfl rfl rfl rfl (by decide) rfl rfl rfl ext (.cons rfl (by decide) (.cons rfl (by decide) (.cons rfl (by decide) (.cons rfl (by decide) (.cons rfl (by decide) (.cons rfl (by decide) (.cons rfl (by decide) .nil))))))) (by decide) (by decide) (by decide) (fun W pn xe E t h => act W pn xe E _ _ t h) rfl rfl)
      (pss_one (ps_ret (pe_ifExp (pt_cmpR op_isN (pv 1) pe_non (nomark _)) (pe_lst (pa_cons (pv 2) pa_nil)) (pe_g c_fault hr (by decide) gds rfl (pa_cons (pv 1) pa_nil))))))⟩
abbrev s_is_whole : Stmt := topS 11
abbrev n_is_whole : List Str := ["thing"]
theorem sc_is_whole : FnScope n_is_whole ["thing"] (defScope s_is_whole) := ⟨rfl, rfl, rfl, by decide +kernel, rfl, by decide +kernel, by decide +kernel⟩
def w_is_whole : WS := (wRet (wAndV (wF (isiD "int") (wLook 0)) (wNotV (wF (isiD "bool") (wLook 0)))))
def f_is_whole : FW := fun es c Q => es.length = 1 ∧ wDef n_is_whole w_is_whole es c Q
theorem g_is_whole {P : Program} {w : World} {K : PySem.W.Frag} {mg : Str → Option Value} {base : Heap} {f : Addr} {fd : FuncData} (T : Md mg)  (F : L2.Fun K "is_whole" "is_whole" s_is_whole f fd) : FnG P w K mg base CX0 1 f fd ["thing"] (fnSp MD K f_is_whole) :=
  def_g F sc_is_whole (ws := w_is_whole) (fun cdv A outer s H E w0 gds hr =>
    (s_one (s_ret (e_and (toB (e_isi rfl T.b_isinstance rfl T.b_int bt_int (b_var (pv 0)))) (e_one (e_not (toB (e_isi rfl T.b_isinstance rfl T.b_bool bt_bool (b_var (pv 0))))))))))
    (fun _ _ _ h => h)
abbrev s_is_integer : Stmt := topS 12
abbrev n_is_integer : List Str := ["thing", "least", "most"]
theorem sc_is_integer : FnScope n_is_integer ["thing", "least", "most"] (defScope s_is_integer) := ⟨rfl, rfl, rfl, by decide +kernel, rfl, by decide +kernel, by decide +kernel⟩
def w_is_integer : WS := (wRet (wAndV (wCall f_is_whole (gIm (wVar 0) HW.gNil)) (wChain leAD leAD (wLook 1) (wLook 0) (wLook 2))))
def f_is_integer : FW := fun es c Q => es.length = 3 ∧ wDef n_is_integer w_is_integer es c Q
theorem g_is_integer {P : Program} {w : World} {K : PySem.W.Frag} {mg : Str → Option Value} {base : Heap} {f : Addr} {fd : FuncData} (T : Md mg) (c_is_whole : CalG P w K mg base 1 "is_whole" (fnSp MD K f_is_whole)) (F : L2.Fun K "is_integer" "is_integer" s_is_integer f fd) : FnG P w K mg base CX0 2 f fd ["thing", "least", "most"] (fnSp MD K f_is_integer) :=
  def_g F sc_is_integer (ws := w_is_integer) (fun cdv A outer s H E w0 gds hr =>
    (s_one (s_ret (e_and (toB (e_call c_is_whole hr (by decide) gds rfl (g_im (e_var (pv 0)) g_nil))) (e_one (e_chain o_leA o_leA d_leA d_leA (b_var (pv 1)) (b_var (pv 0)) (b_var (pv 2))))))))
    (fun _ _ _ h => h)
abbrev s_is_tuple : Stmt := topS 13
abbrev n_is_tuple : List Str := ["thing", "least", "most"]
theorem sc_is_tuple : FnScope n_is_tuple ["thing", "least", "most"] (defScope s_is_tuple) := ⟨rfl, rfl, rfl, by decide +kernel, rfl, by decide +kernel, by decide +kernel⟩
def w_is_tuple : WS := (wRet (wAndV (wF (isiD "tuple") (wLook 0)) (wChain leAD leAD (wLook 1) (wF lenD (wLook 0)) (wLook 2))))
def f_is_tuple : FW := fun es c Q => es.length = 3 ∧ wDef n_is_tuple w_is_tuple es c Q
theorem g_is_tuple {P : Program} {w : World} {K : PySem.W.Frag} {mg : Str → Option Value} {base : Heap} {f : Addr} {fd : FuncData} (T : Md mg)  (F : L2.Fun K "is_tuple" "is_tuple" s_is_tuple f fd) : FnG P w K mg base CX0 1 f fd ["thing", "least", "most"] (fnSp MD K f_is_tuple) :=
  def_g F sc_is_tuple (ws := w_is_tuple) (fun cdv A outer s H E w0 gds hr =>
    (s_one (s_ret (e_and (toB (e_isi rfl T.b_isinstance rfl T.b_tuple bt_tuple (b_var (pv 0)))) (e_one (e_chain o_leA o_leA d_leA d_leA (b_var (pv 1)) (toB (e_fn o_len d_len rfl T.b_len bt_len (b_var (pv 0)))) (b_var (pv 2))))))))
    (fun _ _ _ h => h)
abbrev s_is_word : Stmt := topS 14
abbrev n_is_word : List Str := ["thing", "signs"]
theorem sc_is_word : FnScope n_is_word ["thing", "signs"] (defScope s_is_word) := ⟨rfl, rfl, rfl, by decide +kernel, rfl, by decide +kernel, by decide +kernel⟩
def w_is_word : WS := (wRet (wAndV (wF (isiD "str") (wLook 0)) (wAndV (wOp neD (wLook 0) (wC (.str ""))) (wOp eqD (wMS scD (wLook 0) (wLook 1)) (wC (.str ""))))))
def f_is_word : FW := fun es c Q => es.length = 2 ∧ wDef n_is_word w_is_word es c Q
theorem g_is_word {P : Program} {w : World} {K : PySem.W.Frag} {mg : Str → Option Value} {base : Heap} {f : Addr} {fd : FuncData} (T : Md mg)  (F : L2.Fun K "is_word" "is_word" s_is_word f fd) : FnG P w K mg base CX0 1 f fd ["thing", "signs"] (fnSp MD K f_is_word) :=
  def_g F sc_is_word (ws := w_is_word) (fun cdv A outer s H E w0 gds hr =>
    (s_one (s_ret (e_and (toB (e_isi rfl T.b_isinstance rfl T.b_str bt_str (b_var (pv 0)))) (e_and (toB (e_cmp (op_neD hr.units) d_ne (nomark _) (b_var (pv 0)) (toB e_str))) (e_one (e_cmp (op_eqD hr.units) d_eq (nomark _) (toB (e_ms PySem.F.slot_str_strip PySem.F.type_str_strip mt_stripChars d_sc (b_var (pv 0)) (b_var (pv 1)))) (toB e_str))))))))
    (fun _ _ _ h => h)
abbrev s_is_short_word : Stmt := topS 15
abbrev n_is_short_word : List Str := ["thing", "signs", "most"]
theorem sc_is_short_word : FnScope n_is_short_word ["thing", "signs", "most"] (defScope s_is_short_word) := ⟨rfl, rfl, rfl, by decide +kernel, rfl, by decide +kernel, by decide +kernel⟩
def w_is_short_word : WS := (wRet (wAndV (wCall f_is_word (gIm (wVar 0) (gIm (wVar 1) HW.gNil))) (wOp leAD (wF lenD (wLook 0)) (wLook 2))))
def f_is_short_word : FW := fun es c Q => es.length = 3 ∧ wDef n_is_short_word w_is_short_word es c Q
theorem g_is_short_word {P : Program} {w : World} {K : PySem.W.Frag} {mg : Str → Option Value} {base : Heap} {f : Addr} {fd : FuncData} (T : Md mg) (c_is_word : CalG P w K mg base 1 "is_word" (fnSp MD K f_is_word)) (F : L2.Fun K "is_short_word" "is_short_word" s_is_short_word f fd) : FnG P w K mg base CX0 2 f fd ["thing", "signs", "most"] (fnSp MD K f_is_short_word) :=
  def_g F sc_is_short_word (ws := w_is_short_word) (fun cdv A outer s H E w0 gds hr =>
    (s_one (s_ret (e_and (toB (e_call c_is_word hr (by decide) gds rfl (g_im (e_var (pv 0)) (g_im (e_var (pv 1)) g_nil)))) (e_one (e_cmp o_leA d_leA (nomark _) (toB (e_fn o_len d_len rfl T.b_len bt_len (b_var (pv 0)))) (b_var (pv 2))))))))
    (fun _ _ _ h => h)
abbrev s_is_text : Stmt := topS 16
abbrev n_is_text : List Str := ["thing", "signs", "most"]
theorem sc_is_text : FnScope n_is_text ["thing", "signs", "most"] (defScope s_is_text) := ⟨rfl, rfl, rfl, by decide +kernel, rfl, by decide +kernel, by decide +kernel⟩
def w_is_text : WS := (wRet (wAndV (wF (isiD "str") (wLook 0)) (wAndV (wOp leAD (wF lenD (wLook 0)) (wLook 2)) (wOp eqD (wMS scD (wLook 0) (wLook 1)) (wC (.str ""))))))
def f_is_text : FW := fun es c Q => es.length = 3 ∧ wDef n_is_text w_is_text es c Q
theorem g_is_text {P : Program} {w : World} {K : PySem.W.Frag} {mg : Str → Option Value} {base : Heap} {f : Addr} {fd : FuncData} (T : Md mg)  (F : L2.Fun K "is_text" "is_text" s_is_text f fd) : FnG P w K mg base CX0 1 f fd ["thing", "signs", "most"] (fnSp MD K f_is_text) :=
  def_g F sc_is_text (ws := w_is_text) (fun cdv A outer s H E w0 gds hr =>
    (s_one (s_ret (e_and (toB (e_isi rfl T.b_isinstance rfl T.b_str bt_str (b_var (pv 0)))) (e_and (toB (e_cmp o_leA d_leA (nomark _) (toB (e_fn o_len d_len rfl T.b_len bt_len (b_var (pv 0)))) (b_var (pv 2)))) (e_one (e_cmp (op_eqD hr.units) d_eq (nomark _) (toB (e_ms PySem.F.slot_str_strip PySem.F.type_str_strip mt_stripChars d_sc (b_var (pv 0)) (b_var (pv 1)))) (toB e_str))))))))
    (fun _ _ _ h => h)
abbrev s_is_ascending : Stmt := topS 17
abbrev n_is_ascending : List Str := ["row"]
theorem sc_is_ascending : FnScope n_is_ascending ["row"] (defScope s_is_ascending) := ⟨rfl, rfl, rfl, by decide +kernel, rfl, by decide +kernel, by decide +kernel⟩
def w_is_ascending : WS := (wRet (wAndV (wOp eqD (wF sortPD (wLook 0)) (wList (wLook 0))) (wOp eqD (wF lenSetD (wLook 0)) (wF lenD (wLook 0)))))
def f_is_ascending : FW := fun es c Q => es.length = 1 ∧ wDef n_is_ascending w_is_ascending es c Q
theorem g_is_ascending {P : Program} {w : World} {K : PySem.W.Frag} {mg : Str → Option Value} {base : Heap} {f : Addr} {fd : FuncData} (T : Md mg)  (F : L2.Fun K "is_ascending" "is_ascending" s_is_ascending f fd) : FnG P w K mg base CX0 1 f fd ["row"] (fnSp MD K f_is_ascending) :=
  def_g F sc_is_ascending (ws := w_is_ascending) (fun cdv A outer s H E w0 gds hr =>
    (s_one (s_ret (e_and (toB (e_cmp (op_eqD hr.units) d_eq (nomark _) (toB (e_fn cr_sortPS d_sortP rfl T.b_sorted (by decide +kernel) (b_var (pv 0)))) (toB (e_list rfl rfl T.b_list (b_var (pv 0)))))) (e_one (e_cmp (op_eqD hr.units) d_eq (nomark _) (toB (e_lenS rfl rfl T.b_len rfl T.b_set (b_var (pv 0)))) (toB (e_fn o_len d_len rfl T.b_len bt_len (b_var (pv 0))))))))))
    (fun _ _ _ h => h)
abbrev s_need_text : Stmt := topS 18
abbrev n_need_text : List Str := ["thing", "most", "name"]
theorem sc_need_text : FnScope n_need_text ["thing", "most", "name"] (defScope s_need_text) := ⟨rfl, rfl, rfl, by decide +kernel, rfl, by decide +kernel, by decide +kernel⟩
def w_need_text (R : XR) : WS := (wIf (wNot (wTru (wCall f_is_text (gIm (wVar 0) (gIm (wC (.str "0123456789abcdefghijklmnopqrstuvwxyz")) (gIm (wVar 1) HW.gNil)))))) (wRaise "OutOfPlace" none (wJoin [(wF fmtD (wLook 2)), (wC (.str " is no string of at most ")), (wF fmtD (wLook 1)), (wC (.str " letters and figures"))]) (fun x _ c => R x c)) wNext)
def f_need_text : XR → FW := fun R es c Q => es.length = 3 ∧ wDef n_need_text (w_need_text R) es c Q
theorem g_need_text {P : Program} {w : World} {K : PySem.W.Frag} {mg : Str → Option Value} {base : Heap} {f : Addr} {fd : FuncData} (T : Md mg) (c_is_text : CalG P w K mg base 1 "is_text" (fnSp MD K f_is_text)) (x_OutOfPlace : XcOk P w K mg base 1 "OutOfPlace" none) (F : L2.Fun K "need_text" "need_text" s_need_text f fd) : FnG P w K mg base (L2.CX P w) 3 f fd ["thing", "most", "name"] (fnSpX MD K mg f_need_text) :=
  def_gX F sc_need_text (ws := w_need_text) (fun cdv A outer s H E w0 R gds hr tk =>
    (s_one (s_if (t_not (t_tru (toB (e_call c_is_text hr (by decide) gds rfl (g_im (e_var (pv 0)) (g_im (e_gstr rfl T.k_CODE_SIGNS) (g_im (e_var (pv 1)) g_nil))))))) (s_one (s_raise0 x_OutOfPlace tk hr (by decide) rfl rfl (e_joined (ws := [(wF fmtD (wLook 2)), (wC (.str " is no string of at most ")), (wF fmtD (wLook 1)), (wC (.str " letters and figures"))]) (.cons (e_fmt (b_var (pv 2))) (.cons e_str (.cons (e_fmt (b_var (pv 1))) (.cons e_str .nil))))))) s_nil)))
    (fun _ _ _ _ h => h)
abbrev s_is_pair : Stmt := topS 27
abbrev n_is_pair : List Str := ["thing"]
theorem sc_is_pair : FnScope n_is_pair ["thing"] (defScope s_is_pair) := ⟨rfl, rfl, rfl, by decide +kernel, rfl, by decide +kernel, by decide +kernel⟩
def w_is_pair : WS := (wSeq (wIf (wNot (wTru (wCall f_is_tuple (gIm (wVar 0) (gIm (wC (.int 2)) (gIm (wC (.int 2)) HW.gNil)))))) (wRet (wC (.bool false))) wNext)
    (wRet (wAndV (wCall f_is_short_word (gIm (wOp ixD (wLook 0) (wC (.int 0))) (gIm (wC (.str "0123456789abcdefghijklmnopqrstuvwxyz")) (gIm (wC (.int 8)) HW.gNil)))) (wCall f_is_short_word (gIm (wOp ixD (wLook 0) (wC (.int 1))) (gIm (wC (.str "0123456789abcdefghijklmnopqrstuvwxyz")) (gIm (wC (.int 5)) HW.gNil)))))))
def f_is_pair : FW := fun es c Q => es.length = 1 ∧ wDef n_is_pair w_is_pair es c Q
theorem g_is_pair {P : Program} {w : World} {K : PySem.W.Frag} {mg : Str → Option Value} {base : Heap} {f : Addr} {fd : FuncData} (T : Md mg) (c_is_tuple : CalG P w K mg base 1 "is_tuple" (fnSp MD K f_is_tuple)) (c_is_short_word : CalG P w K mg base 2 "is_short_word" (fnSp MD K f_is_short_word)) (F : L2.Fun K "is_pair" "is_pair" s_is_pair f fd) : FnG P w K mg base CX0 3 f fd ["thing"] (fnSp MD K f_is_pair) :=
  def_g F sc_is_pair (ws := w_is_pair) (fun cdv A outer s H E w0 gds hr =>
    (s_cons (s_if (t_not (t_tru (toB (e_call c_is_tuple hr (by decide) gds rfl (g_im (e_var (pv 0)) (g_im e_int (g_im e_int g_nil))))))) (s_one (s_ret e_bl)) s_nil)
      (s_one (s_ret (e_and (toB (e_call c_is_short_word hr (by decide) gds rfl (g_im (e_ix o_ix d_ix (b_var (pv 0)) (toB e_int) (fun _ _ => rfl)) (g_im (e_gstr rfl T.k_CODE_SIGNS) (g_im (e_gint rfl T.k_MOST_PHRASE) g_nil))))) (e_one (e_call c_is_short_word hr (by decide) gds rfl (g_im (e_ix o_ix d_ix (b_var (pv 0)) (toB e_int) (fun _ _ => rfl)) (g_im (e_gstr rfl T.k_CODE_SIGNS) (g_im (e_gint rfl T.k_MOST_CODE) g_nil))))))))))
    (fun _ _ _ h => h)
abbrev s_need_book : Stmt := topS 26
abbrev n_need_book : List Str := ["thing", "phrases", "codes", "number", "phrase", "code"]
theorem sc_need_book : FnScope n_need_book ["thing"] (defScope s_need_book) := ⟨rfl, rfl, rfl, by decide +kernel, rfl, by decide +kernel, by decide +kernel⟩
def w_need_book (R : XR) : WS := (wSeq (wIf (wNot (wTru (wCall f_is_tuple (gIm (wVar 0) (gIm (wC (.int 1)) (gIm (wC (.int 40)) HW.gNil)))))) (wRaise "BadBook" (some "number") (wC .none) (fun x _ c => R x c)) wNext)
    (wSeq (wOwn 1 nDc)
    (wSeq (wOwn 2 nDc)
    (wSeq (wFor (wRng (wF lenD (wLook 0))) (gN 3) (wSeq (wIf (wNot (wTru (wCall f_is_pair (gIm (wOp ixD (wLook 0) (wLook 3)) HW.gNil)))) (wRaise "BadBook" (some "number") (wVar 3) (fun x _ c => R x c)) wNext)
    (wSeq (wAsg (wOp ixD (wLook 0) (wLook 3)) (gT [4, 5]))
    (wSeq (wIf (wOr (wTst (wInK false (wLook 4) (wLook 1))) (wTst (wInK false (wLook 5) (wLook 2)))) (wRaise "BadBook" (some "number") (wVar 3) (fun x _ c => R x c)) wNext)
    (wSeq (wDput 1 (wC (.bool true)) (wLook 4))
    (wDput 2 (wC (.bool true)) (wLook 5)))))))
    (wRet (wVar 0))))))
def f_need_book : XR → FW := fun R es c Q => es.length = 1 ∧ wDef n_need_book (w_need_book R) es c Q
theorem g_need_book {P : Program} {w : World} {K : PySem.W.Frag} {mg : Str → Option Value} {base : Heap} {f : Addr} {fd : FuncData} (T : Md mg) (c_is_tuple : CalG P w K mg base 1 "is_tuple" (fnSp MD K f_is_tuple)) (c_is_pair : CalG P w K mg base 3 "is_pair" (fnSp MD K f_is_pair)) (x_BadBook : XcOk P w K mg base 1 "BadBook" (some "number")) (F : L2.Fun K "need_book" "need_book" s_need_book f fd) : FnG P w K mg base (L2.CX P w) 4 f fd ["thing"] (fnSpX MD K mg f_need_book) :=
  def_gX F sc_need_book (ws := w_need_book) (fun cdv A outer s H E w0 R gds hr tk =>
    (s_cons (s_if (t_not (t_tru (toB (e_call c_is_tuple hr (by decide) gds rfl (g_im (e_var (pv 0)) (g_im e_int (g_im (e_gint rfl T.k_MOST_PAIRS) g_nil))))))) (s_one (s_raise1 x_BadBook tk hr (by decide) rfl rfl e_non)) s_nil)
      (s_cons (s_own (i := 1) sc_need_book.nd rfl (by first | exact Or.inl rfl | exact Or.inr rfl) (n_dict (.inl rfl)))
      (s_cons (s_own (i := 2) sc_need_book.nd rfl (by first | exact Or.inl rfl | exact Or.inr rfl) (n_dict (.inl rfl)))
      (s_cons (s_for (passes_of rfl) rfl (i_rng rfl T.b_range (toB (e_fn o_len d_len rfl T.b_len bt_len (b_var (pv 0))))) (pg_name (i := 3) sc_need_book.nd rfl (by first | exact Or.inl rfl | exact Or.inr rfl)) tg_name (s_cons (s_if (t_not (t_tru (toB (e_call c_is_pair hr (by decide) gds rfl (g_im (e_ix o_ix d_ix (b_var (pv 0)) (b_var (pv 3)) (fun _ _ => rfl)) g_nil))))) (s_one (s_raise1 x_BadBook tk hr (by decide) rfl rfl (e_var (pv 3)))) s_nil)
      (s_cons (s_asg (e_ix o_ix d_ix (b_var (pv 0)) (b_var (pv 3)) (fun _ _ => rfl)) (pg_tup rfl (pgs_cons (pg_name (i := 4) sc_need_book.nd rfl (by first | exact Or.inl rfl | exact Or.inr rfl)) (pgs_cons (pg_name (i := 5) sc_need_book.nd rfl (by first | exact Or.inl rfl | exact Or.inr rfl)) pgs_nil))) (tg_tup (is := [4, 5])))
      (s_cons (s_if (PW.pt (t_or (t_inK (hu_of hr) (b_var (pv 4)) (b_var (pv 1))) (t_or1 (t_inK (hu_of hr) (b_var (pv 5)) (b_var (pv 2)))))) (s_one (s_raise1 x_BadBook tk hr (by decide) rfl rfl (e_var (pv 3)))) s_nil)
      (s_cons (s_dput (hu_of hr) (pv 1) (b_var (pv 4)) e_bl)
      (s_one (s_dput (hu_of hr) (pv 2) (b_var (pv 5)) e_bl)))))))
      (s_one (s_ret (e_var (pv 0)))))))))
    (fun _ _ _ _ h => h)
abbrev s_u_telling_to_end : Stmt := topS 33
abbrev n_u_telling_to_end : List Str := ["book", "lasts", "numbers", "at"]
theorem sc_u_telling_to_end : FnScope n_u_telling_to_end ["book", "lasts"] (defScope s_u_telling_to_end) := ⟨rfl, rfl, rfl, by decide +kernel, rfl, by decide +kernel, by decide +kernel⟩
def w_u_telling_to_end : WS := (wSeq (wOwn 2 (nLst wNil))
    (wSeq (wSet 3 (wOp subD (wF lenD (wLook 1)) (wC (.int 1))))
    (wSeq (wWhile (wTst (wOp gtD (wLook 3) (wC (.int 0)))) (wSeq (wAppG 2 (wOp ixD (wLook 1) (wLook 3)))
    (wAug (fun i j => i - j) 3 (wF lenD (wOp ixD (wOp ixD (wLook 0) (wOp ixD (wLook 1) (wLook 3))) (wC (.int 0)))))))
    (wRet (wF tupD (wRevL (wLook 2)))))))
def f_u_telling_to_end : FW := fun es c Q => es.length = 2 ∧ wDef n_u_telling_to_end w_u_telling_to_end es c Q
theorem g_u_telling_to_end {P : Program} {w : World} {K : PySem.W.Frag} {mg : Str → Option Value} {base : Heap} {f : Addr} {fd : FuncData} (T : Md mg)  (F : L2.Fun K "_telling_to_end" "_telling_to_end" s_u_telling_to_end f fd) : FnG P w K mg base CX0 1 f fd ["book", "lasts"] (fnSp MD K f_u_telling_to_end) :=
  def_g F sc_u_telling_to_end (ws := w_u_telling_to_end) (fun cdv A outer s H E w0 gds hr =>
    (s_cons (s_own (i := 2) sc_u_telling_to_end.nd rfl (by first | exact Or.inl rfl | exact Or.inr rfl) (n_lst a_nil))
      (s_cons (s_set (i := 3) sc_u_telling_to_end.nd rfl (by first | exact Or.inl rfl | exact Or.inr rfl) (e_op op_sub d_sub (toB (e_fn o_len d_len rfl T.b_len bt_len (b_var (pv 1)))) (toB e_int)))
      (s_cons (s_while PassesOwn.never (t_cmp op_gt d_gt (nomark _) (b_var (pv 3)) (toB e_int)) (s_cons (s_app (pv 2) (e_ix o_ix d_ix (b_var (pv 1)) (b_var (pv 3)) (fun _ _ => rfl)))
      (s_one (s_aug (i := 3) ip_sub sc_u_telling_to_end.nd rfl (by first | exact Or.inl rfl | exact Or.inr rfl) (e_fn o_len d_len rfl T.b_len bt_len (toB (e_ix o_ix d_ix (toB (e_ix o_ix d_ix (b_var (pv 0)) (toB (e_ix o_ix d_ix (b_var (pv 1)) (b_var (pv 3)) (fun _ _ => rfl))) (fun _ _ => rfl))) (toB e_int) (fun _ _ => rfl))))))))
      (s_one (s_ret (e_fnT call_tuple_of d_tup rfl T.b_tuple bt_tuple (toB (e_revL (b_var (pv 2)))))))))))
    (fun _ _ _ h => h)
abbrev s_least_cost : Stmt := topS 35
abbrev n_least_cost : List Str := ["book", "text", "costs", "_"]
theorem sc_least_cost : FnScope n_least_cost ["book", "text"] (defScope s_least_cost) := ⟨rfl, rfl, rfl, by decide +kernel, rfl, by decide +kernel, by decide +kernel⟩
def w_least_cost (R : XR) : WS := (wSeq (wDrop (wCallX f_need_book (fun x _ c => R x c) (gIm (wVar 0) HW.gNil)))
    (wSeq (wDrop (wCallX f_need_text (fun x _ c => R x c) (gIm (wVar 1) (gIm (wC (.int 200)) (gIm (wC (.str "the text")) HW.gNil)))))
    wFail))
def f_least_cost : XR → FW := fun R es c Q => es.length = 2 ∧ wDef n_least_cost (w_least_cost R) es c Q
theorem g_least_cost {P : Program} {w : World} {K : PySem.W.Frag} {mg : Str → Option Value} {base : Heap} {f : Addr} {fd : FuncData} (T : Md mg) (c_need_book : CalX P w K mg base 4 "need_book" (fnSpX MD K mg f_need_book)) (c_need_text : CalX P w K mg base 3 "need_text" (fnSpX MD K mg f_need_text)) (F : L2.Fun K "least_cost" "least_cost" s_least_cost f fd) : FnG P w K mg base (L2.CX P w) 5 f fd ["book", "text"] (fnSpX MD K mg f_least_cost) :=
  def_gX F sc_least_cost (ws := w_least_cost) (fun cdv A outer s H E w0 R gds hr tk =>
    (s_cons (s_exprX (x_call c_need_book tk hr (by decide) gds rfl (g_im (e_var (pv 0)) g_nil)))
      (s_cons (s_exprX (x_call c_need_text tk hr (by decide) gds rfl (g_im (e_var (pv 1)) (g_im (e_gint rfl T.k_MOST_TEXT) (g_im e_str g_nil)))))
      sl_fail)))
    (fun _ _ _ _ h => h)
abbrev s_telling : Stmt := topS 36
abbrev n_telling : List Str := ["book", "text", "paper"]
theorem sc_telling : FnScope n_telling ["book", "text"] (defScope s_telling) := ⟨rfl, rfl, rfl, by decide +kernel, rfl, by decide +kernel, by decide +kernel⟩
def w_telling (R : XR) : WS := (wSeq (wDrop (wCallX f_need_book (fun x _ c => R x c) (gIm (wVar 0) HW.gNil)))
    (wSeq (wDrop (wCallX f_need_text (fun x _ c => R x c) (gIm (wVar 1) (gIm (wC (.int 200)) (gIm (wC (.str "the text")) HW.gNil)))))
    wFail))
def f_telling : XR → FW := fun R es c Q => es.length = 2 ∧ wDef n_telling (w_telling R) es c Q
theorem g_telling {P : Program} {w : World} {K : PySem.W.Frag} {mg : Str → Option Value} {base : Heap} {f : Addr} {fd : FuncData} (T : Md mg) (c_need_book : CalX P w K mg base 4 "need_book" (fnSpX MD K mg f_need_book)) (c_need_text : CalX P w K mg base 3 "need_text" (fnSpX MD K mg f_need_text)) (F : L2.Fun K "telling" "telling" s_telling f fd) : FnG P w K mg base (L2.CX P w) 5 f fd ["book", "text"] (fnSpX MD K mg f_telling) :=
  def_gX F sc_telling (ws := w_telling) (fun cdv A outer s H E w0 R gds hr tk =>
    (s_cons (s_exprX (x_call c_need_book tk hr (by decide) gds rfl (g_im (e_var (pv 0)) g_nil)))
      (s_cons (s_exprX (x_call c_need_text tk hr (by decide) gds rfl (g_im (e_var (pv 1)) (g_im (e_gint rfl T.k_MOST_TEXT) (g_im e_str g_nil)))))
      sl_fail)))
    (fun _ _ _ _ h => h)
abbrev s_many_tellings : Stmt := topS 37
abbrev n_many_tellings : List Str := ["book", "text"]
theorem sc_many_tellings : FnScope n_many_tellings ["book", "text"] (defScope s_many_tellings) := ⟨rfl, rfl, rfl, by decide +kernel, rfl, by decide +kernel, by decide +kernel⟩
def w_many_tellings (R : XR) : WS := (wSeq (wDrop (wCallX f_need_book (fun x _ c => R x c) (gIm (wVar 0) HW.gNil)))
    (wSeq (wDrop (wCallX f_need_text (fun x _ c => R x c) (gIm (wVar 1) (gIm (wC (.int 200)) (gIm (wC (.str "the text")) HW.gNil)))))
    wFail))
def f_many_tellings : XR → FW := fun R es c Q => es.length = 2 ∧ wDef n_many_tellings (w_many_tellings R) es c Q
theorem g_many_tellings {P : Program} {w : World} {K : PySem.W.Frag} {mg : Str → Option Value} {base : Heap} {f : Addr} {fd : FuncData} (T : Md mg) (c_need_book : CalX P w K mg base 4 "need_book" (fnSpX MD K mg f_need_book)) (c_need_text : CalX P w K mg base 3 "need_text" (fnSpX MD K mg f_need_text)) (F : L2.Fun K "many_tellings" "many_tellings" s_many_tellings f fd) : FnG P w K mg base (L2.CX P w) 5 f fd ["book", "text"] (fnSpX MD K mg f_many_tellings) :=
  def_gX F sc_many_tellings (ws := w_many_tellings) (fun cdv A outer s H E w0 R gds hr tk =>
    (s_cons (s_exprX (x_call c_need_book tk hr (by decide) gds rfl (g_im (e_var (pv 0)) g_nil)))
      (s_cons (s_exprX (x_call c_need_text tk hr (by decide) gds rfl (g_im (e_var (pv 1)) (g_im (e_gint rfl T.k_MOST_TEXT) (g_im e_str g_nil)))))
      sl_fail)))
    (fun _ _ _ _ h => h)
abbrev s_is_telling : Stmt := topS 38
abbrev n_is_telling : List Str := ["book", "thing", "number"]
theorem sc_is_telling : FnScope n_is_telling ["book", "thing"] (defScope s_is_telling) := ⟨rfl, rfl, rfl, by decide +kernel, rfl, by decide +kernel, by decide +kernel⟩
def w_is_telling : WS := (wSeq (wIf (wNot (wTru (wCall f_is_tuple (gIm (wVar 1) (gIm (wC (.int 0)) (gIm (wC (.int 200)) HW.gNil)))))) (wRet (wC (.bool false))) wNext)
    (wRet (wF allD (wLc (wItT (wVar 1)) wYes (wCall f_is_integer (gIm (wVar 2) (gIm (wC (.int 0)) (gIm (wOp subD (wF lenD (wLook 0)) (wC (.int 1))) HW.gNil)))) 2 [2]))))
def f_is_telling : FW := fun es c Q => es.length = 2 ∧ wDef n_is_telling w_is_telling es c Q
theorem g_is_telling {P : Program} {w : World} {K : PySem.W.Frag} {mg : Str → Option Value} {base : Heap} {f : Addr} {fd : FuncData} (T : Md mg) (c_is_tuple : CalG P w K mg base 1 "is_tuple" (fnSp MD K f_is_tuple)) (c_is_integer : CalG P w K mg base 2 "is_integer" (fnSp MD K f_is_integer)) (F : L2.Fun K "is_telling" "is_telling" s_is_telling f fd) : FnG P w K mg base CX0 3 f fd ["book", "thing"] (fnSp MD K f_is_telling) :=
  def_g F sc_is_telling (ws := w_is_telling) (fun cdv A outer s H E w0 gds hr =>
    (s_cons (s_if (t_not (t_tru (toB (e_call c_is_tuple hr (by decide) gds rfl (g_im (e_var (pv 1)) (g_im e_int (g_im (e_gint rfl T.k_MOST_NUMBERS) g_nil))))))) (s_one (s_ret e_bl)) s_nil)
      (s_one (s_ret (e_fn (cr_all rfl) d_all rfl T.b_all bt_all (toB (e_lc (own := [("number", 2)]) (j := 2) (by decide) rfl sc_is_telling.nd (i_S (i_tupF (e_var (pv 1)))) (blkOk_by (own := [("number", 2)]) (N := n_is_telling) (sc := defScope s_is_telling) (by decide +kernel)) (fun _ _ _ _ _ => pg_name (i := 2) sc_is_telling.nd rfl (by first | exact Or.inl rfl | exact Or.inr rfl)) (fun _ _ _ _ _ => ts_nil) (fun _ _ _ _ _ => (e_call c_is_integer hr (by decide) gds rfl (g_im (e_var (pv 2)) (g_im e_int (g_im (e_op op_sub d_sub (toB (e_fn o_len d_len rfl T.b_len bt_len (b_var (pv 0)))) (toB e_int)) g_nil))))))))))))
    (fun _ _ _ h => h)
abbrev s_sent : Stmt := topS 40
abbrev n_sent : List Str := ["book", "telling"]
theorem sc_sent : FnScope n_sent ["book", "telling"] (defScope s_sent) := ⟨rfl, rfl, rfl, by decide +kernel, rfl, by decide +kernel, by decide +kernel⟩
def w_sent (R : XR) : WS := (wSeq (wDrop (wCallX f_need_book (fun x _ c => R x c) (gIm (wVar 0) HW.gNil)))
    (wSeq (wIf (wNot (wTru (wCall f_is_telling (gIm (wVar 0) (gIm (wVar 1) HW.gNil))))) (wRaise "OutOfPlace" none (wJoin [(wC (.str "the telling is no tuple of at most ")), (wF fmtD (wC (.int 200))), (wC (.str " numbers of pairs"))]) (fun x _ c => R x c)) wNext)
    wFail))
def f_sent : XR → FW := fun R es c Q => es.length = 2 ∧ wDef n_sent (w_sent R) es c Q
theorem g_sent {P : Program} {w : World} {K : PySem.W.Frag} {mg : Str → Option Value} {base : Heap} {f : Addr} {fd : FuncData} (T : Md mg) (c_need_book : CalX P w K mg base 4 "need_book" (fnSpX MD K mg f_need_book)) (c_is_telling : CalG P w K mg base 3 "is_telling" (fnSp MD K f_is_telling)) (x_OutOfPlace : XcOk P w K mg base 1 "OutOfPlace" none) (F : L2.Fun K "sent" "sent" s_sent f fd) : FnG P w K mg base (L2.CX P w) 5 f fd ["book", "telling"] (fnSpX MD K mg f_sent) :=
  def_gX F sc_sent (ws := w_sent) (fun cdv A outer s H E w0 R gds hr tk =>
    (s_cons (s_exprX (x_call c_need_book tk hr (by decide) gds rfl (g_im (e_var (pv 0)) g_nil)))
      (s_cons (s_if (t_not (t_tru (toB (e_call c_is_telling hr (by decide) gds rfl (g_im (e_var (pv 0)) (g_im (e_var (pv 1)) g_nil)))))) (s_one (s_raise0 x_OutOfPlace tk hr (by decide) rfl rfl (e_joined (ws := [(wC (.str "the telling is no tuple of at most ")), (wF fmtD (wC (.int 200))), (wC (.str " numbers of pairs"))]) (.cons e_str (.cons (e_fmt (toB (e_gint rfl T.k_MOST_NUMBERS))) (.cons e_str .nil)))))) s_nil)
      sl_fail)))
    (fun _ _ _ _ h => h)
abbrev s_cost_paper : Stmt := topS 41
abbrev n_cost_paper : List Str := ["book", "text"]
theorem sc_cost_paper : FnScope n_cost_paper ["book", "text"] (defScope s_cost_paper) := ⟨rfl, rfl, rfl, by decide +kernel, rfl, by decide +kernel, by decide +kernel⟩
def w_cost_paper (R : XR) : WS := (wSeq (wDrop (wCallX f_need_book (fun x _ c => R x c) (gIm (wVar 0) HW.gNil)))
    (wSeq (wDrop (wCallX f_need_text (fun x _ c => R x c) (gIm (wVar 1) (gIm (wC (.int 200)) (gIm (wC (.str "the text")) HW.gNil)))))
    wFail))
def f_cost_paper : XR → FW := fun R es c Q => es.length = 2 ∧ wDef n_cost_paper (w_cost_paper R) es c Q
theorem g_cost_paper {P : Program} {w : World} {K : PySem.W.Frag} {mg : Str → Option Value} {base : Heap} {f : Addr} {fd : FuncData} (T : Md mg) (c_need_book : CalX P w K mg base 4 "need_book" (fnSpX MD K mg f_need_book)) (c_need_text : CalX P w K mg base 3 "need_text" (fnSpX MD K mg f_need_text)) (F : L2.Fun K "cost_paper" "cost_paper" s_cost_paper f fd) : FnG P w K mg base (L2.CX P w) 5 f fd ["book", "text"] (fnSpX MD K mg f_cost_paper) :=
  def_gX F sc_cost_paper (ws := w_cost_paper) (fun cdv A outer s H E w0 R gds hr tk =>
    (s_cons (s_exprX (x_call c_need_book tk hr (by decide) gds rfl (g_im (e_var (pv 0)) g_nil)))
      (s_cons (s_exprX (x_call c_need_text tk hr (by decide) gds rfl (g_im (e_var (pv 1)) (g_im (e_gint rfl T.k_MOST_TEXT) (g_im e_str g_nil)))))
      sl_fail)))
    (fun _ _ _ _ h => h)
abbrev s_check_cost : Stmt := topS 42
abbrev n_check_cost : List Str := ["book", "text", "paper", "numbers", "bounds", "number", "cost"]
theorem sc_check_cost : FnScope n_check_cost ["book", "text", "paper"] (defScope s_check_cost) := ⟨rfl, rfl, rfl, by decide +kernel, rfl, by decide +kernel, by decide +kernel⟩
def w_check_cost (R : XR) : WS := (wSeq (wDrop (wCallX f_need_book (fun x _ c => R x c) (gIm (wVar 0) HW.gNil)))
    (wSeq (wDrop (wCallX f_need_text (fun x _ c => R x c) (gIm (wVar 1) (gIm (wC (.int 200)) (gIm (wC (.str "the text")) HW.gNil)))))
    wFail))
def f_check_cost : XR → FW := fun R es c Q => es.length = 3 ∧ wDef n_check_cost (w_check_cost R) es c Q
theorem g_check_cost {P : Program} {w : World} {K : PySem.W.Frag} {mg : Str → Option Value} {base : Heap} {f : Addr} {fd : FuncData} (T : Md mg) (c_need_book : CalX P w K mg base 4 "need_book" (fnSpX MD K mg f_need_book)) (c_need_text : CalX P w K mg base 3 "need_text" (fnSpX MD K mg f_need_text)) (F : L2.Fun K "check_cost" "check_cost" s_check_cost f fd) : FnG P w K mg base (L2.CX P w) 5 f fd ["book", "text", "paper"] (fnSpX MD K mg f_check_cost) :=
  def_gX F sc_check_cost (ws := w_check_cost) (fun cdv A outer s H E w0 R gds hr tk =>
    (s_cons (s_exprX (x_call c_need_book tk hr (by decide) gds rfl (g_im (e_var (pv 0)) g_nil)))
      (s_cons (s_exprX (x_call c_need_text tk hr (by decide) gds rfl (g_im (e_var (pv 1)) (g_im (e_gint rfl T.k_MOST_TEXT) (g_im e_str g_nil)))))
      sl_fail)))
    (fun _ _ _ _ h => h)
abbrev s_reads : Stmt := topS 44
abbrev n_reads : List Str := ["book", "row", "pieces", "ways", "texts", "_", "at", "number", "end", "text"]
theorem sc_reads : FnScope n_reads ["book", "row"] (defScope s_reads) := ⟨rfl, rfl, rfl, by decide +kernel, rfl, by decide +kernel, by decide +kernel⟩
def w_reads (R : XR) : WS := (wSeq (wDrop (wCallX f_need_book (fun x _ c => R x c) (gIm (wVar 0) HW.gNil)))
    (wSeq (wDrop (wCallX f_need_text (fun x _ c => R x c) (gIm (wVar 1) (gIm (wC (.int 200)) (gIm (wC (.str "the row")) HW.gNil)))))
    wFail))
def f_reads : XR → FW := fun R es c Q => es.length = 2 ∧ wDef n_reads (w_reads R) es c Q
theorem g_reads {P : Program} {w : World} {K : PySem.W.Frag} {mg : Str → Option Value} {base : Heap} {f : Addr} {fd : FuncData} (T : Md mg) (c_need_book : CalX P w K mg base 4 "need_book" (fnSpX MD K mg f_need_book)) (c_need_text : CalX P w K mg base 3 "need_text" (fnSpX MD K mg f_need_text)) (F : L2.Fun K "reads" "reads" s_reads f fd) : FnG P w K mg base (L2.CX P w) 5 f fd ["book", "row"] (fnSpX MD K mg f_reads) :=
  def_gX F sc_reads (ws := w_reads) (fun cdv A outer s H E w0 R gds hr tk =>
    (s_cons (s_exprX (x_call c_need_book tk hr (by decide) gds rfl (g_im (e_var (pv 0)) g_nil)))
      (s_cons (s_exprX (x_call c_need_text tk hr (by decide) gds rfl (g_im (e_var (pv 1)) (g_im (e_gint rfl T.k_MOST_TEXT) (g_im e_str g_nil)))))
      sl_fail)))
    (fun _ _ _ _ h => h)
abbrev s_many_reads : Stmt := topS 45
abbrev n_many_reads : List Str := ["book", "row"]
theorem sc_many_reads : FnScope n_many_reads ["book", "row"] (defScope s_many_reads) := ⟨rfl, rfl, rfl, by decide +kernel, rfl, by decide +kernel, by decide +kernel⟩
def w_many_reads (R : XR) : WS := (wSeq (wDrop (wCallX f_need_book (fun x _ c => R x c) (gIm (wVar 0) HW.gNil)))
    (wSeq (wDrop (wCallX f_need_text (fun x _ c => R x c) (gIm (wVar 1) (gIm (wC (.int 200)) (gIm (wC (.str "the row")) HW.gNil)))))
    wFail))
def f_many_reads : XR → FW := fun R es c Q => es.length = 2 ∧ wDef n_many_reads (w_many_reads R) es c Q
theorem g_many_reads {P : Program} {w : World} {K : PySem.W.Frag} {mg : Str → Option Value} {base : Heap} {f : Addr} {fd : FuncData} (T : Md mg) (c_need_book : CalX P w K mg base 4 "need_book" (fnSpX MD K mg f_need_book)) (c_need_text : CalX P w K mg base 3 "need_text" (fnSpX MD K mg f_need_text)) (F : L2.Fun K "many_reads" "many_reads" s_many_reads f fd) : FnG P w K mg base (L2.CX P w) 5 f fd ["book", "row"] (fnSpX MD K mg f_many_reads) :=
  def_gX F sc_many_reads (ws := w_many_reads) (fun cdv A outer s H E w0 R gds hr tk =>
    (s_cons (s_exprX (x_call c_need_book tk hr (by decide) gds rfl (g_im (e_var (pv 0)) g_nil)))
      (s_cons (s_exprX (x_call c_need_text tk hr (by decide) gds rfl (g_im (e_var (pv 1)) (g_im (e_gint rfl T.k_MOST_TEXT) (g_im e_str g_nil)))))
      sl_fail)))
    (fun _ _ _ _ h => h)
abbrev s_u_is_string : Stmt := topS 48
abbrev n_u_is_string : List Str := ["thing", "string"]
theorem sc_u_is_string : FnScope n_u_is_string ["thing", "string"] (defScope s_u_is_string) := ⟨rfl, rfl, rfl, by decide +kernel, rfl, by decide +kernel, by decide +kernel⟩
def w_u_is_string : WS := (wRet (wAndV (wF (isiD "str") (wLook 0)) (wOp eqD (wLook 0) (wLook 1))))
def f_u_is_string : FW := fun es c Q => es.length = 2 ∧ wDef n_u_is_string w_u_is_string es c Q
theorem g_u_is_string {P : Program} {w : World} {K : PySem.W.Frag} {mg : Str → Option Value} {base : Heap} {f : Addr} {fd : FuncData} (T : Md mg)  (F : L2.Fun K "_is_string" "_is_string" s_u_is_string f fd) : FnG P w K mg base CX0 1 f fd ["thing", "string"] (fnSp MD K f_u_is_string) :=
  def_g F sc_u_is_string (ws := w_u_is_string) (fun cdv A outer s H E w0 gds hr =>
    (s_one (s_ret (e_and (toB (e_isi rfl T.b_isinstance rfl T.b_str bt_str (b_var (pv 0)))) (e_one (e_cmp (op_eqD hr.units) d_eq (nomark _) (b_var (pv 0)) (b_var (pv 1))))))))
    (fun _ _ _ h => h)
abbrev s_paper_word : Stmt := topS 47
abbrev n_paper_word : List Str := ["paper", "triple_word", "pair_word"]
theorem sc_paper_word : FnScope n_paper_word ["paper", "triple_word", "pair_word"] (defScope s_paper_word) := ⟨rfl, rfl, rfl, by decide +kernel, rfl, by decide +kernel, by decide +kernel⟩
def w_paper_word (R : XR) : WS := (wSeq (wIf (wAnd (wTru (wCall f_is_tuple (gIm (wVar 0) (gIm (wC (.int 3)) (gIm (wC (.int 3)) HW.gNil))))) (wTru (wCall f_u_is_string (gIm (wOp ixD (wLook 0) (wC (.int 0))) (gIm (wVar 1) HW.gNil))))) (wRet (wVar 1)) wNext)
    (wSeq (wIf (wAnd (wTru (wCall f_is_tuple (gIm (wVar 0) (gIm (wC (.int 2)) (gIm (wC (.int 2)) HW.gNil))))) (wTru (wCall f_u_is_string (gIm (wOp ixD (wLook 0) (wC (.int 0))) (gIm (wVar 2) HW.gNil))))) (wRet (wVar 2)) wNext)
    (wRaise "BadPaper" (some "part") (wC (.str "form")) (fun x _ c => R x c))))
def f_paper_word : XR → FW := fun R es c Q => es.length = 3 ∧ wDef n_paper_word (w_paper_word R) es c Q
theorem g_paper_word {P : Program} {w : World} {K : PySem.W.Frag} {mg : Str → Option Value} {base : Heap} {f : Addr} {fd : FuncData} (T : Md mg) (c_u_is_string : CalG P w K mg base 1 "_is_string" (fnSp MD K f_u_is_string)) (c_is_tuple : CalG P w K mg base 1 "is_tuple" (fnSp MD K f_is_tuple)) (x_BadPaper : XcOk P w K mg base 1 "BadPaper" (some "part")) (F : L2.Fun K "paper_word" "paper_word" s_paper_word f fd) : FnG P w K mg base (L2.CX P w) 3 f fd ["paper", "triple_word", "pair_word"] (fnSpX MD K mg f_paper_word) :=
  def_gX F sc_paper_word (ws := w_paper_word) (fun cdv A outer s H E w0 R gds hr tk =>
    (s_cons (s_if (PW.pt (t_and (t_tru (toB (e_call c_is_tuple hr (by decide) gds rfl (g_im (e_var (pv 0)) (g_im e_int (g_im e_int g_nil)))))) (t_and1 (t_tru (toB (e_call c_u_is_string hr (by decide) gds rfl (g_im (e_ix o_ix d_ix (b_var (pv 0)) (toB e_int) (fun _ _ => rfl)) (g_im (e_var (pv 1)) g_nil)))))))) (s_one (s_ret (e_var (pv 1)))) s_nil)
      (s_cons (s_if (PW.pt (t_and (t_tru (toB (e_call c_is_tuple hr (by decide) gds rfl (g_im (e_var (pv 0)) (g_im e_int (g_im e_int g_nil)))))) (t_and1 (t_tru (toB (e_call c_u_is_string hr (by decide) gds rfl (g_im (e_ix o_ix d_ix (b_var (pv 0)) (toB e_int) (fun _ _ => rfl)) (g_im (e_var (pv 2)) g_nil)))))))) (s_one (s_ret (e_var (pv 2)))) s_nil)
      (s_one (s_raise1 x_BadPaper tk hr (by decide) rfl rfl e_str)))))
    (fun _ _ _ _ h => h)
abbrev s_is_clear : Stmt := topS 52
abbrev n_is_clear : List Str := ["book"]
theorem sc_is_clear : FnScope n_is_clear ["book"] (defScope s_is_clear) := ⟨rfl, rfl, rfl, by decide +kernel, rfl, by decide +kernel, by decide +kernel⟩
def w_is_clear (R : XR) : WS := (wSeq (wDrop (wCallX f_need_book (fun x _ c => R x c) (gIm (wVar 0) HW.gNil)))
    wFail)
def f_is_clear : XR → FW := fun R es c Q => es.length = 1 ∧ wDef n_is_clear (w_is_clear R) es c Q
theorem g_is_clear {P : Program} {w : World} {K : PySem.W.Frag} {mg : Str → Option Value} {base : Heap} {f : Addr} {fd : FuncData} (T : Md mg) (c_need_book : CalX P w K mg base 4 "need_book" (fnSpX MD K mg f_need_book)) (F : L2.Fun K "is_clear" "is_clear" s_is_clear f fd) : FnG P w K mg base (L2.CX P w) 5 f fd ["book"] (fnSpX MD K mg f_is_clear) :=
  def_gX F sc_is_clear (ws := w_is_clear) (fun cdv A outer s H E w0 R gds hr tk =>
    (s_cons (s_exprX (x_call c_need_book tk hr (by decide) gds rfl (g_im (e_var (pv 0)) g_nil)))
      sl_fail))
    (fun _ _ _ _ h => h)
abbrev s_clear_paper : Stmt := topS 58
abbrev n_clear_paper : List Str := ["book", "rests", "one", "other"]
theorem sc_clear_paper : FnScope n_clear_paper ["book"] (defScope s_clear_paper) := ⟨rfl, rfl, rfl, by decide +kernel, rfl, by decide +kernel, by decide +kernel⟩
def w_clear_paper (R : XR) : WS := (wSeq (wDrop (wCallX f_need_book (fun x _ c => R x c) (gIm (wVar 0) HW.gNil)))
    wFail)
def f_clear_paper : XR → FW := fun R es c Q => es.length = 1 ∧ wDef n_clear_paper (w_clear_paper R) es c Q
theorem g_clear_paper {P : Program} {w : World} {K : PySem.W.Frag} {mg : Str → Option Value} {base : Heap} {f : Addr} {fd : FuncData} (T : Md mg) (c_need_book : CalX P w K mg base 4 "need_book" (fnSpX MD K mg f_need_book)) (F : L2.Fun K "clear_paper" "clear_paper" s_clear_paper f fd) : FnG P w K mg base (L2.CX P w) 5 f fd ["book"] (fnSpX MD K mg f_clear_paper) :=
  def_gX F sc_clear_paper (ws := w_clear_paper) (fun cdv A outer s H E w0 R gds hr tk =>
    (s_cons (s_exprX (x_call c_need_book tk hr (by decide) gds rfl (g_im (e_var (pv 0)) g_nil)))
      sl_fail))
    (fun _ _ _ _ h => h)
abbrev s_check_clear : Stmt := topS 59
abbrev n_check_clear : List Str := ["book", "paper", "word", "holds"]
theorem sc_check_clear : FnScope n_check_clear ["book", "paper"] (defScope s_check_clear) := ⟨rfl, rfl, rfl, by decide +kernel, rfl, by decide +kernel, by decide +kernel⟩
def w_check_clear (R : XR) : WS := (wSeq (wDrop (wCallX f_need_book (fun x _ c => R x c) (gIm (wVar 0) HW.gNil)))
    wFail)
def f_check_clear : XR → FW := fun R es c Q => es.length = 2 ∧ wDef n_check_clear (w_check_clear R) es c Q
theorem g_check_clear {P : Program} {w : World} {K : PySem.W.Frag} {mg : Str → Option Value} {base : Heap} {f : Addr} {fd : FuncData} (T : Md mg) (c_need_book : CalX P w K mg base 4 "need_book" (fnSpX MD K mg f_need_book)) (F : L2.Fun K "check_clear" "check_clear" s_check_clear f fd) : FnG P w K mg base (L2.CX P w) 5 f fd ["book", "paper"] (fnSpX MD K mg f_check_clear) :=
  def_gX F sc_check_clear (ws := w_check_clear) (fun cdv A outer s H E w0 R gds hr tk =>
    (s_cons (s_exprX (x_call c_need_book tk hr (by decide) gds rfl (g_im (e_var (pv 0)) g_nil)))
      sl_fail))
    (fun _ _ _ _ h => h)
abbrev s_u_law_of : Stmt := topS 65
abbrev n_u_law_of : List Str := ["m", "some"]
theorem sc_u_law_of : FnScope n_u_law_of ["m", "some"] (defScope s_u_law_of) := ⟨rfl, rfl, rfl, by decide +kernel, rfl, by decide +kernel, by decide +kernel⟩
def w_u_law_of_ : WS := (wRet (wOp ixD (wLook 1) (wCall nextW (gSt 0 (gIm (wF lenD (wLook 1)) HW.gNil)))))
def w_u_law_of : WS := w_u_law_of_
def f_u_law_of : FW := fun es c Q => es.length = 2 ∧ wDef n_u_law_of w_u_law_of es c Q
theorem g_u_law_of {P : Program} {w : World} {K : PySem.W.Frag} {mg : Str → Option Value} {base : Heap} {f : Addr} {fd : FuncData} (T : Md mg) (c_u_law_next : CalG P w K mg base 1 "_law_next" (fnSp MD K nextW)) (F : L2.Fun K "_law_of" "_law_of" s_u_law_of f fd) : FnG P w K mg base CX0 2 f fd ["m", "some"] (fnSp MD K f_u_law_of) :=
  def_g F sc_u_law_of (ws := w_u_law_of) (fun cdv A outer s H E w0 gds hr =>
    (s_one (s_ret (e_ix o_ix d_ix (b_var (pv 1)) (toB (e_call c_u_law_next hr (by decide) gds rfl (g_st (pv 0) (g_im (e_fn o_len d_len rfl T.b_len bt_len (b_var (pv 1))) g_nil)))) (fun _ _ => rfl)))))
    (fun _ _ _ h => h)
abbrev s_u_law_odds : Stmt := topS 68
abbrev n_u_law_odds : List Str := ["some"]
theorem sc_u_law_odds : FnScope n_u_law_odds [] (defScope s_u_law_odds) := ⟨rfl, rfl, rfl, by decide +kernel, rfl, by decide +kernel, by decide +kernel⟩
def w_u_law_odds : WS := (wSeq (wSet 0 (wLst (wCons (wC .none) (wCons (wC (.bool true)) (wCons (wC (.bool false)) (wCons (wC (.int 0)) (wCons (wC (.int 1)) (wCons (wF negD (wC (.int 1))) (wCons (wC (.int 8)) (wCons (wC (.int 41)) (wCons (wC (.int 1001)) (wCons (wOp powD (wC (.int 10)) (wC (.int 30))) (wCons (wC (.str "")) (wCons (wC (.str "a")) (wCons (wC (.str "A")) (wCons (wC (.str "ab")) (wCons (wC (.str "two")) (wCons (wTup wNil) (wCons (wTup (wCons (wC (.int 0)) wNil)) (wCons (wTup (wCons (wC (.int 0)) (wCons (wC (.int 0)) wNil))) wNil))))))))))))))))))))
    (wRet (wOp catD (wLook 0) (wLst (wCons (wLst wNil) (wCons (wLst (wCons (wC (.int 0)) wNil)) (wCons (wC (.dict [])) (wCons (wTup (wCons (wTup wNil) wNil)) (wCons (wTup (wCons (wC (.int 1)) (wCons (wC (.int 1)) (wCons (wC (.int 1)) wNil)))) (wCons (wTup (wCons (wC (.str "a")) (wCons (wC (.str "b")) wNil))) (wCons (wTup (wCons (wC (.str "a")) (wCons (wTup (wCons (wC (.int 0)) wNil)) wNil))) (wCons (wC (.str "a b")) wNil))))))))))))
def f_u_law_odds : FW := fun es c Q => es.length = 0 ∧ wDef n_u_law_odds w_u_law_odds es c Q
theorem g_u_law_odds {P : Program} {w : World} {K : PySem.W.Frag} {mg : Str → Option Value} {base : Heap} {f : Addr} {fd : FuncData} (T : Md mg)  (F : L2.Fun K "_law_odds" "_law_odds" s_u_law_odds f fd) : FnG P w K mg base CX0 1 f fd [] (fnSp MD K f_u_law_odds) :=
  def_g F sc_u_law_odds (ws := w_u_law_odds) (fun cdv A outer s H E w0 gds hr =>
    (s_cons (s_set (i := 0) sc_u_law_odds.nd rfl (by first | exact Or.inl rfl | exact Or.inr rfl) (e_lst (a_cons e_non (a_cons e_bl (a_cons e_bl (a_cons e_int (a_cons e_int (a_cons (e_neg (toB e_int)) (a_cons e_int (a_cons e_int (a_cons e_int (a_cons (e_op op_pow d_pow (toB e_int) (toB e_int)) (a_cons e_str (a_cons e_str (a_cons e_str (a_cons e_str (a_cons e_str (a_cons (e_tup a_nil) (a_cons (e_tup (a_cons e_int a_nil)) (a_cons (e_tup (a_cons e_int (a_cons e_int a_nil))) a_nil))))))))))))))))))))
      (s_one (s_ret (e_op o_cat d_cat (b_var (pv 0)) (toB (e_lst (a_cons (e_lst a_nil) (a_cons (e_lst (a_cons e_int a_nil)) (a_cons e_dict0 (a_cons (e_tup (a_cons (e_tup a_nil) a_nil)) (a_cons (e_tup (a_cons e_int (a_cons e_int (a_cons e_int a_nil)))) (a_cons (e_tup (a_cons e_str (a_cons e_str a_nil))) (a_cons (e_tup (a_cons e_str (a_cons (e_tup (a_cons e_int a_nil)) a_nil))) (a_cons e_str a_nil)))))))))))))))
    (fun _ _ _ h => h)
abbrev s_u_law_bent : Stmt := topS 69
abbrev n_u_law_bent : List Str := ["m", "thing", "odd", "k", "way"]
theorem sc_u_law_bent : FnScope n_u_law_bent ["m", "thing", "odd"] (defScope s_u_law_bent) := ⟨rfl, rfl, rfl, by decide +kernel, rfl, by decide +kernel, by decide +kernel⟩
def w_u_law_bent (rec' : FW) : WS := (wSeq (wIf (wAnd (wTru (wF (isiD "int") (wLook 1))) (wAnd (wNot (wTru (wF (isiD "bool") (wLook 1)))) (wTst (wOp gtD (wCall nextW (gSt 0 (gIm (wC (.int 3)) HW.gNil))) (wC (.int 0)))))) (wRet (wOp addD (wLook 1) (wCall f_u_law_of (gSt 0 (gIm (wLst (wCons (wC (.int 1)) (wCons (wF negD (wC (.int 1))) (wCons (wC (.int 2)) (wCons (wF negD (wC (.int 2))) (wCons (wC (.int 40)) wNil)))))) HW.gNil))))) wNext)
    (wSeq (wIf (wOr (wNot (wTru (wF (isiD "tuple") (wLook 1)))) (wOr (wTst (wOp eqED (wLook 1) (wTup wNil))) (wTst (wOp eqD (wCall nextW (gSt 0 (gIm (wC (.int 8)) HW.gNil))) (wC (.int 0)))))) (wRet (wCall f_u_law_of (gSt 0 (gIm (wVar 2) HW.gNil)))) wNext)
    (wSeq (wPar 3 4 (wCall nextW (gSt 0 (gIm (wF lenD (wLook 1)) HW.gNil))) (wCall nextW (gSt 0 (gIm (wC (.int 9)) HW.gNil))))
    (wSeq (wIf (wTst (wOp eqD (wLook 4) (wC (.int 0)))) (wRet (wOp catTD (wSlT (wLook 1) wNo (wSo (wLook 3))) (wSlT (wLook 1) (wSo (wOp addD (wLook 3) (wC (.int 1)))) wNo))) wNext)
    (wSeq (wIf (wTst (wOp eqD (wLook 4) (wC (.int 1)))) (wRet (wOp catTD (wOp catTD (wSlT (wLook 1) wNo (wSo (wLook 3))) (wTup (wCons (wOp ixD (wLook 1) (wLook 3)) wNil))) (wSlT (wLook 1) (wSo (wLook 3)) wNo))) wNext)
    (wSeq (wIf (wTst (wOp eqD (wLook 4) (wC (.int 2)))) (wRet (wOp catTD (wOp catTD (wSlT (wLook 1) wNo (wSo (wLook 3))) (wTup (wCons (wCall f_u_law_of (gSt 0 (gIm (wVar 2) HW.gNil))) wNil))) (wSlT (wLook 1) (wSo (wLook 3)) wNo))) wNext)
    (wSeq (wIf (wTst (wOp eqD (wLook 4) (wC (.int 3)))) (wRet (wBackT (wLook 1))) wNext)
    (wRet (wOp catTD (wOp catTD (wSlT (wLook 1) wNo (wSo (wLook 3))) (wTup (wCons (wCall rec' (gSt 0 (gIm (wOp ixD (wLook 1) (wLook 3)) (gIm (wVar 2) HW.gNil)))) wNil))) (wSlT (wLook 1) (wSo (wOp addD (wLook 3) (wC (.int 1)))) wNo))))))))))
def fN_u_law_bent : Nat → FW
  | 0 => fun _ _ _ => False
  | n + 1 => fun es c Q => es.length = 3 ∧ wDef n_u_law_bent (w_u_law_bent (fN_u_law_bent n)) es c Q
def f_u_law_bent : FW := fN_u_law_bent 10
theorem gS_u_law_bent {P : Program} {w : World} {K : PySem.W.Frag} {mg : Str → Option Value} {base : Heap} {f : Addr} {fd : FuncData} (T : Md mg) (c_u_law_next : CalG P w K mg base 1 "_law_next" (fnSp MD K nextW)) (c_u_law_of : CalG P w K mg base 2 "_law_of" (fnSp MD K f_u_law_of)) (F : L2.Fun K "_law_bent" "_law_bent" s_u_law_bent f fd) {rec' : FW} {k : Nat} (hk : 3 ≤ k) (c_u_law_bent : CalG P w K mg base k "_law_bent" (fnSp MD K rec')) : FnG P w K mg base CX0 (k + 1) f fd ["m", "thing", "odd"] (fnSp MD K fun es c Q => es.length = 3 ∧ wDef n_u_law_bent (w_u_law_bent rec') es c Q) :=
  def_g F sc_u_law_bent (ws := w_u_law_bent rec') (fun cdv A outer s H E w0 gds hr =>
    (s_cons (s_if (PW.pt (t_and (t_tru (toB (e_isi rfl T.b_isinstance rfl T.b_int bt_int (b_var (pv 1))))) (t_and (t_not (t_tru (toB (e_isi rfl T.b_isinstance rfl T.b_bool bt_bool (b_var (pv 1)))))) (t_and1 (t_cmp op_gt d_gt (nomark _) (toB (e_call c_u_law_next hr (by omega) gds rfl (g_st (pv 0) (g_im e_int g_nil)))) (toB e_int)))))) (s_one (s_ret (e_op o_add d_add (b_var (pv 1)) (toB (e_call c_u_law_of hr (by omega) gds rfl (g_st (pv 0) (g_im (e_lst (a_cons e_int (a_cons (e_neg (toB e_int)) (a_cons e_int (a_cons (e_neg (toB e_int)) (a_cons e_int a_nil)))))) g_nil))))))) s_nil)
      (s_cons (s_if (PW.pt (t_or (t_not (t_tru (toB (e_isi rfl T.b_isinstance rfl T.b_tuple bt_tuple (b_var (pv 1)))))) (t_or (t_cmp (op_eqE hr.units) d_eqE (nomark _) (b_var (pv 1)) (toB (e_tup a_nil))) (t_or1 (t_cmp (op_eqD hr.units) d_eq (nomark _) (toB (e_call c_u_law_next hr (by omega) gds rfl (g_st (pv 0) (g_im e_int g_nil)))) (toB e_int)))))) (s_one (s_ret (e_call c_u_law_of hr (by omega) gds rfl (g_st (pv 0) (g_im (e_var (pv 2)) g_nil))))) s_nil)
      (s_cons (s_par (i := 3) (j := 4) rfl sc_u_law_bent.nd rfl rfl (by decide) rfl rfl (e_call c_u_law_next hr (by omega) gds rfl (g_st (pv 0) (g_im (e_fn o_len d_len rfl T.b_len bt_len (b_var (pv 1))) g_nil))) (e_call c_u_law_next hr (by omega) gds rfl (g_st (pv 0) (g_im e_int g_nil))))
      (s_cons (s_if (t_cmp (op_eqD hr.units) d_eq (nomark _) (b_var (pv 4)) (toB e_int)) (s_one (s_ret (e_op op_catA d_catT (toB (e_slT (b_var (pv 1)) o_no (o_so (b_var (pv 3))))) (toB (e_slT (b_var (pv 1)) (o_so (toB (e_op o_add d_add (b_var (pv 3)) (toB e_int)))) o_no))))) s_nil)
      (s_cons (s_if (t_cmp (op_eqD hr.units) d_eq (nomark _) (b_var (pv 4)) (toB e_int)) (s_one (s_ret (e_op op_catA d_catT (toB (e_op op_catA d_catT (toB (e_slT (b_var (pv 1)) o_no (o_so (b_var (pv 3))))) (toB (e_tup (a_cons (e_ix o_ix d_ix (b_var (pv 1)) (b_var (pv 3)) (fun _ _ => rfl)) a_nil))))) (toB (e_slT (b_var (pv 1)) (o_so (b_var (pv 3))) o_no))))) s_nil)
      (s_cons (s_if (t_cmp (op_eqD hr.units) d_eq (nomark _) (b_var (pv 4)) (toB e_int)) (s_one (s_ret (e_op op_catA d_catT (toB (e_op op_catA d_catT (toB (e_slT (b_var (pv 1)) o_no (o_so (b_var (pv 3))))) (toB (e_tup (a_cons (e_call c_u_law_of hr (by omega) gds rfl (g_st (pv 0) (g_im (e_var (pv 2)) g_nil))) a_nil))))) (toB (e_slT (b_var (pv 1)) (o_so (b_var (pv 3))) o_no))))) s_nil)
      (s_cons (s_if (t_cmp (op_eqD hr.units) d_eq (nomark _) (b_var (pv 4)) (toB e_int)) (s_one (s_ret (e_backT (b_var (pv 1))))) s_nil)
      (s_one (s_ret (e_op op_catA d_catT (toB (e_op op_catA d_catT (toB (e_slT (b_var (pv 1)) o_no (o_so (b_var (pv 3))))) (toB (e_tup (a_cons (e_call c_u_law_bent hr (by omega) gds rfl (g_st (pv 0) (g_im (e_ix o_ix d_ix (b_var (pv 1)) (b_var (pv 3)) (fun _ _ => rfl)) (g_im (e_var (pv 2)) g_nil)))) a_nil))))) (toB (e_slT (b_var (pv 1)) (o_so (toB (e_op o_add d_add (b_var (pv 3)) (toB e_int)))) o_no)))))))))))))
    (fun _ _ _ h => h)
theorem gN_u_law_bent {P : Program} {w : World} {K : PySem.W.Frag} {mg : Str → Option Value} {base : Heap} {f : Addr} {fd : FuncData} (T : Md mg) (c_u_law_next : CalG P w K mg base 1 "_law_next" (fnSp MD K nextW)) (c_u_law_of : CalG P w K mg base 2 "_law_of" (fnSp MD K f_u_law_of)) (F : L2.Fun K "_law_bent" "_law_bent" s_u_law_bent f fd) (hm : mg "_law_bent" = some (.ref f)) (kp : PySem.W.keepIn K (.ref f) = true) (b : Binds K fd ["m", "thing", "odd"] []) : ∀ n, CalG P w K mg base (3 + n) "_law_bent" (fnSp MD K (fN_u_law_bent n))
  | 0 => ⟨f, fd, ["m", "thing", "odd"], ⟨fun vs H Q E ⟨_, _, _, _, _, _, h, _⟩ => h.elim, fun A outer s H args us vs Q E _ _ _ _ _ ⟨_, _, _, _, _, _, h, _⟩ => h.elim⟩, hm, kp, b⟩
  | n + 1 => ⟨f, fd, ["m", "thing", "odd"], gS_u_law_bent T c_u_law_next c_u_law_of F (Nat.le_add_right _ _) (gN_u_law_bent T c_u_law_next c_u_law_of F hm kp b n), hm, kp, b⟩
abbrev s_u_law_signs : Stmt := topS 70
abbrev n_u_law_signs : List Str := []
theorem sc_u_law_signs : FnScope n_u_law_signs [] (defScope s_u_law_signs) := ⟨rfl, rfl, rfl, by decide +kernel, rfl, by decide +kernel, by decide +kernel⟩
def w_u_law_signs : WS := (wRet (wC (.str "0123456789abcdefghijklmnopqrstuvwxyz")))
def f_u_law_signs : FW := fun es c Q => es.length = 0 ∧ wDef n_u_law_signs w_u_law_signs es c Q
theorem g_u_law_signs {P : Program} {w : World} {K : PySem.W.Frag} {mg : Str → Option Value} {base : Heap} {f : Addr} {fd : FuncData} (T : Md mg)  (F : L2.Fun K "_law_signs" "_law_signs" s_u_law_signs f fd) : FnG P w K mg base CX0 1 f fd [] (fnSp MD K f_u_law_signs) :=
  def_g F sc_u_law_signs (ws := w_u_law_signs) (fun cdv A outer s H E w0 gds hr =>
    (s_one (s_ret e_str)))
    (fun _ _ _ h => h)
abbrev s_u_law_book : Stmt := topS 71
abbrev n_u_law_book : List Str := ["m", "most", "letters", "found", "phrases", "codes", "k", "phrase", "j", "word"]
theorem sc_u_law_book : FnScope n_u_law_book ["m", "most"] (defScope s_u_law_book) := ⟨rfl, rfl, rfl, by decide +kernel, rfl, by decide +kernel, by decide +kernel⟩
def w_u_law_book_a : WS := (wSet 2 (wCall f_u_law_of (gSt 0 (gIm (wLst (wCons (wC (.str "ab")) (wCons (wC (.str "ab")) (wCons (wC (.str "abc")) (wCons (wC (.str "a1")) wNil))))) HW.gNil))))
def w_u_law_book_ba : WS := (wParF3 3 4 5 (nLst wNil) (wLst wNil) (wLst wNil))
def w_u_law_book_bbafa : WS := (wSet 7 (wMS joinD (wC (.str "")) (wLc (wRng (wOp addD (wC (.int 1)) (wCall nextW (gSt 0 (gIm (wC (.int 3)) HW.gNil))))) wYes (wCall f_u_law_of (gSt 0 (gIm (wVar 2) HW.gNil))) 8 [8])))
def w_u_law_book_bbafba : WS := (wSet 9 (wMS joinD (wC (.str "")) (wLc (wRng (wOp addD (wC (.int 1)) (wCall nextW (gSt 0 (gIm (wC (.int 3)) HW.gNil))))) wYes (wCall f_u_law_of (gSt 0 (gIm (wVar 2) HW.gNil))) 8 [8])))
def w_u_law_book_bbafbb : WS := (wIf (wAnd (wTst (wOp (inD true) (wLook 7) (wLook 4))) (wTst (wOp (inD true) (wLook 9) (wLook 5)))) (wSeq (wPar 4 5 (wOp catD (wLook 4) (wLst (wCons (wVar 7) wNil))) (wOp catD (wLook 5) (wLst (wCons (wVar 9) wNil)))) (wAppG 3 (wTup (wCons (wVar 7) (wCons (wVar 9) wNil))))) wNext)
def w_u_law_book_bba : WS := (wFor (wRng (wOp addD (wC (.int 2)) (wCall nextW (gSt 0 (gIm (wVar 1) HW.gNil))))) (gN 6) (wSeq w_u_law_book_bbafa (wSeq w_u_law_book_bbafba w_u_law_book_bbafbb)))
def w_u_law_book_bbb : WS := (wRet (wF tupD (wLook 3)))
def w_u_law_book : WS := (wSeq w_u_law_book_a (wSeq w_u_law_book_ba (wSeq w_u_law_book_bba w_u_law_book_bbb)))
def f_u_law_book : FW := fun es c Q => es.length = 2 ∧ wDef n_u_law_book w_u_law_book es c Q
theorem g_u_law_book {P : Program} {w : World} {K : PySem.W.Frag} {mg : Str → Option Value} {base : Heap} {f : Addr} {fd : FuncData} (T : Md mg) (c_u_law_of : CalG P w K mg base 2 "_law_of" (fnSp MD K f_u_law_of)) (c_u_law_next : CalG P w K mg base 1 "_law_next" (fnSp MD K nextW)) (F : L2.Fun K "_law_book" "_law_book" s_u_law_book f fd) : FnG P w K mg base CX0 3 f fd ["m", "most"] (fnSp MD K f_u_law_book) :=
  def_g F sc_u_law_book (ws := w_u_law_book) (fun cdv A outer s H E w0 gds hr =>
    (s_cons (s_set (i := 2) sc_u_law_book.nd rfl (by first | exact Or.inl rfl | exact Or.inr rfl) (e_call c_u_law_of hr (by decide) gds rfl (g_st (pv 0) (g_im (e_lst (a_cons e_str (a_cons e_str (a_cons e_str (a_cons e_str a_nil))))) g_nil))))
      (s_cons (s_parF3 (i := 3) (j := 4) (l := 5) rfl sc_u_law_book.nd rfl rfl rfl (by decide) (by decide) (by decide) rfl rfl rfl (n_lst a_nil) (e_lst a_nil) (e_lst a_nil))
      (s_cons (s_for PassesOwn.never rfl (i_rng rfl T.b_range (toB (e_op o_add d_add (toB e_int) (toB (e_call c_u_law_next hr (by decide) gds rfl (g_st (pv 0) (g_im (e_var (pv 1)) g_nil))))))) (pg_name (i := 6) sc_u_law_book.nd rfl (by first | exact Or.inl rfl | exact Or.inr rfl)) tg_name (s_cons (s_set (i := 7) sc_u_law_book.nd rfl (by first | exact Or.inl rfl | exact Or.inr rfl) (e_ms PySem.F.slot_str_join PySem.F.type_str_join mt_join d_join (toB e_str) (toB (e_lc (own := [("j", 8)]) (j := 8) (by decide) rfl sc_u_law_book.nd (i_rng rfl T.b_range (toB (e_op o_add d_add (toB e_int) (toB (e_call c_u_law_next hr (by decide) gds rfl (g_st (pv 0) (g_im e_int g_nil))))))) (blkOk_by (own := [("j", 8)]) (N := n_u_law_book) (sc := defScope s_u_law_book) (by decide +kernel)) (fun _ _ _ _ _ => pg_name (i := 8) sc_u_law_book.nd rfl (by first | exact Or.inl rfl | exact Or.inr rfl)) (fun _ _ _ _ _ => ts_nil) (fun _ _ _ _ _ => (e_call c_u_law_of hr (by decide) gds rfl (g_st (pv 0) (g_im (e_var (pv 2)) g_nil))))))))
      (s_cons (s_set (i := 9) sc_u_law_book.nd rfl (by first | exact Or.inl rfl | exact Or.inr rfl) (e_ms PySem.F.slot_str_join PySem.F.type_str_join mt_join d_join (toB e_str) (toB (e_lc (own := [("j", 8)]) (j := 8) (by decide) rfl sc_u_law_book.nd (i_rng rfl T.b_range (toB (e_op o_add d_add (toB e_int) (toB (e_call c_u_law_next hr (by decide) gds rfl (g_st (pv 0) (g_im e_int g_nil))))))) (blkOk_by (own := [("j", 8)]) (N := n_u_law_book) (sc := defScope s_u_law_book) (by decide +kernel)) (fun _ _ _ _ _ => pg_name (i := 8) sc_u_law_book.nd rfl (by first | exact Or.inl rfl | exact Or.inr rfl)) (fun _ _ _ _ _ => ts_nil) (fun _ _ _ _ _ => (e_call c_u_law_of hr (by decide) gds rfl (g_st (pv 0) (g_im (e_var (pv 2)) g_nil))))))))
      (s_one (s_if (PW.pt (t_and (t_cmp o_nin d_in rfl (b_var (pv 7)) (b_var (pv 4))) (t_and1 (t_cmp o_nin d_in rfl (b_var (pv 9)) (b_var (pv 5)))))) (s_cons (s_par (i := 4) (j := 5) rfl sc_u_law_book.nd rfl rfl (by decide) rfl rfl (e_op o_cat d_cat (b_var (pv 4)) (toB (e_lst (a_cons (e_var (pv 7)) a_nil)))) (e_op o_cat d_cat (b_var (pv 5)) (toB (e_lst (a_cons (e_var (pv 9)) a_nil)))))
      (s_one (s_app (pv 3) (e_tup (a_cons (e_var (pv 7)) (a_cons (e_var (pv 9)) a_nil)))))) s_nil)))))
      (s_one (s_ret (e_fnT call_tuple_of d_tup rfl T.b_tuple bt_tuple (b_var (pv 3)))))))))
    (fun _ _ _ h => h)
abbrev s_u_law_is_word : Stmt := topS 72
abbrev n_u_law_is_word : List Str := ["thing", "most", "one"]
theorem sc_u_law_is_word : FnScope n_u_law_is_word ["thing", "most"] (defScope s_u_law_is_word) := ⟨rfl, rfl, rfl, by decide +kernel, rfl, by decide +kernel, by decide +kernel⟩
def w_u_law_is_word : WS := (wSeq (wIf (wOr (wNot (wTru (wF (isiD "str") (wLook 0)))) (wNot (wTst (wChain leAD leAD (wC (.int 1)) (wF lenD (wLook 0)) (wLook 1))))) (wRet (wC (.bool false))) wNext)
    (wRet (wOp eqD (wLc (wItS (wLook 0)) (wTst (wOp (inD true) (wLook 2) (wCall f_u_law_signs HW.gNil))) (wVar 2) 2 [2]) (wLst wNil))))
def f_u_law_is_word : FW := fun es c Q => es.length = 2 ∧ wDef n_u_law_is_word w_u_law_is_word es c Q
theorem g_u_law_is_word {P : Program} {w : World} {K : PySem.W.Frag} {mg : Str → Option Value} {base : Heap} {f : Addr} {fd : FuncData} (T : Md mg) (c_u_law_signs : CalG P w K mg base 1 "_law_signs" (fnSp MD K f_u_law_signs)) (F : L2.Fun K "_law_is_word" "_law_is_word" s_u_law_is_word f fd) : FnG P w K mg base CX0 2 f fd ["thing", "most"] (fnSp MD K f_u_law_is_word) :=
  def_g F sc_u_law_is_word (ws := w_u_law_is_word) (fun cdv A outer s H E w0 gds hr =>
    (s_cons (s_if (PW.pt (t_or (t_not (t_tru (toB (e_isi rfl T.b_isinstance rfl T.b_str bt_str (b_var (pv 0)))))) (t_or1 (t_not (t_chain o_leA o_leA d_leA d_leA (toB e_int) (toB (e_fn o_len d_len rfl T.b_len bt_len (b_var (pv 0)))) (b_var (pv 1))))))) (s_one (s_ret e_bl)) s_nil)
      (s_one (s_ret (e_cmp (op_eqD hr.units) d_eq (nomark _) (toB (e_lc (own := [("one", 2)]) (j := 2) (by decide) rfl sc_u_law_is_word.nd (i_str (b_var (pv 0))) (blkOk_by (own := [("one", 2)]) (N := n_u_law_is_word) (sc := defScope s_u_law_is_word) (by decide +kernel)) (fun _ _ _ _ _ => pg_name (i := 2) sc_u_law_is_word.nd rfl (by first | exact Or.inl rfl | exact Or.inr rfl)) (fun _ _ _ _ _ => (ts_one (t_cmp o_nin d_in rfl (b_var (pv 2)) (toB (e_call0 c_u_law_signs hr (by decide) gds rfl))))) (fun _ _ _ _ _ => (e_var (pv 2))))) (toB (e_lst a_nil)))))))
    (fun _ _ _ h => h)
abbrev s_u_law_due : Stmt := topS 73
abbrev n_u_law_due : List Str := ["thing", "k", "pair", "ahead", "one"]
theorem sc_u_law_due : FnScope n_u_law_due ["thing"] (defScope s_u_law_due) := ⟨rfl, rfl, rfl, by decide +kernel, rfl, by decide +kernel, by decide +kernel⟩
def w_u_law_due : WS := (wSeq (wIf (wOr (wNot (wTru (wF (isiD "tuple") (wLook 0)))) (wNot (wTst (wChain leAD leAD (wC (.int 1)) (wF lenD (wLook 0)) (wC (.int 40)))))) (wRet (wTup (wCons (wC (.str "book")) (wCons (wC .none) wNil)))) wNext)
    (wSeq (wFor (wEnT (wVar 0)) (gT [1, 2]) (wSeq (wIf (wOr (wNot (wTru (wF (isiD "tuple") (wLook 2)))) (wTst (wOp neD (wF lenD (wLook 2)) (wC (.int 2))))) (wRet (wTup (wCons (wC (.str "book")) (wCons (wVar 1) wNil)))) wNext)
    (wSeq (wIf (wOr (wNot (wTru (wCall f_u_law_is_word (gIm (wOp ixD (wLook 2) (wC (.int 0))) (gIm (wC (.int 8)) HW.gNil))))) (wNot (wTru (wCall f_u_law_is_word (gIm (wOp ixD (wLook 2) (wC (.int 1))) (gIm (wC (.int 5)) HW.gNil)))))) (wRet (wTup (wCons (wC (.str "book")) (wCons (wVar 1) wNil)))) wNext)
    (wSeq (wSet 3 (wSlT (wLook 0) wNo (wSo (wLook 1))))
    (wIf (wTst (wOp neD (wLc (wItT (wVar 3)) (wOr (wTst (wOp eqD (wOp ixD (wLook 4) (wC (.int 0))) (wOp ixD (wLook 2) (wC (.int 0))))) (wTst (wOp eqD (wOp ixD (wLook 4) (wC (.int 1))) (wOp ixD (wLook 2) (wC (.int 1)))))) (wVar 4) 4 [4]) (wLst wNil))) (wRet (wTup (wCons (wC (.str "book")) (wCons (wVar 1) wNil)))) wNext)))))
    (wRet (wLst (wCons (wVar 0) wNil)))))
def f_u_law_due : FW := fun es c Q => es.length = 1 ∧ wDef n_u_law_due w_u_law_due es c Q
theorem g_u_law_due {P : Program} {w : World} {K : PySem.W.Frag} {mg : Str → Option Value} {base : Heap} {f : Addr} {fd : FuncData} (T : Md mg) (c_u_law_is_word : CalG P w K mg base 2 "_law_is_word" (fnSp MD K f_u_law_is_word)) (F : L2.Fun K "_law_due" "_law_due" s_u_law_due f fd) : FnG P w K mg base CX0 3 f fd ["thing"] (fnSp MD K f_u_law_due) :=
  def_g F sc_u_law_due (ws := w_u_law_due) (fun cdv A outer s H E w0 gds hr =>
    (s_cons (s_if (PW.pt (t_or (t_not (t_tru (toB (e_isi rfl T.b_isinstance rfl T.b_tuple bt_tuple (b_var (pv 0)))))) (t_or1 (t_not (t_chain o_leA o_leA d_leA d_leA (toB e_int) (toB (e_fn o_len d_len rfl T.b_len bt_len (b_var (pv 0)))) (toB e_int)))))) (s_one (s_ret (e_tup (a_cons e_str (a_cons e_non a_nil))))) s_nil)
      (s_cons (s_for PassesOwn.never rfl (i_enumT rfl T.b_enumerate (e_var (pv 0))) (pg_tup rfl (pgs_cons (pg_name (i := 1) sc_u_law_due.nd rfl (by first | exact Or.inl rfl | exact Or.inr rfl)) (pgs_cons (pg_name (i := 2) sc_u_law_due.nd rfl (by first | exact Or.inl rfl | exact Or.inr rfl)) pgs_nil))) (tg_tup (is := [1, 2])) (s_cons (s_if (PW.pt (t_or (t_not (t_tru (toB (e_isi rfl T.b_isinstance rfl T.b_tuple bt_tuple (b_var (pv 2)))))) (t_or1 (t_cmp (op_neD hr.units) d_ne (nomark _) (toB (e_fn o_len d_len rfl T.b_len bt_len (b_var (pv 2)))) (toB e_int))))) (s_one (s_ret (e_tup (a_cons e_str (a_cons (e_var (pv 1)) a_nil))))) s_nil)
      (s_cons (s_if (PW.pt (t_or (t_not (t_tru (toB (e_call c_u_law_is_word hr (by decide) gds rfl (g_im (e_ix o_ix d_ix (b_var (pv 2)) (toB e_int) (fun _ _ => rfl)) (g_im e_int g_nil)))))) (t_or1 (t_not (t_tru (toB (e_call c_u_law_is_word hr (by decide) gds rfl (g_im (e_ix o_ix d_ix (b_var (pv 2)) (toB e_int) (fun _ _ => rfl)) (g_im e_int g_nil))))))))) (s_one (s_ret (e_tup (a_cons e_str (a_cons (e_var (pv 1)) a_nil))))) s_nil)
      (s_cons (s_set (i := 3) sc_u_law_due.nd rfl (by first | exact Or.inl rfl | exact Or.inr rfl) (e_slT (b_var (pv 0)) o_no (o_so (b_var (pv 1)))))
      (s_one (s_if (t_cmp (op_neD hr.units) d_ne (nomark _) (toB (e_lc (own := [("one", 4)]) (j := 4) (by decide) rfl sc_u_law_due.nd (i_S (i_tupF (e_var (pv 3)))) (blkOk_by (own := [("one", 4)]) (N := n_u_law_due) (sc := defScope s_u_law_due) (by decide +kernel)) (fun _ _ _ _ _ => pg_name (i := 4) sc_u_law_due.nd rfl (by first | exact Or.inl rfl | exact Or.inr rfl)) (fun _ _ _ _ _ => (ts_one (PW.pt (t_or (t_cmp (op_eqD hr.units) d_eq (nomark _) (toB (e_ix o_ix d_ix (b_var (pv 4)) (toB e_int) (fun _ _ => rfl))) (toB (e_ix o_ix d_ix (b_var (pv 2)) (toB e_int) (fun _ _ => rfl)))) (t_or1 (t_cmp (op_eqD hr.units) d_eq (nomark _) (toB (e_ix o_ix d_ix (b_var (pv 4)) (toB e_int) (fun _ _ => rfl))) (toB (e_ix o_ix d_ix (b_var (pv 2)) (toB e_int) (fun _ _ => rfl))))))))) (fun _ _ _ _ _ => (e_var (pv 4))))) (toB (e_lst a_nil))) (s_one (s_ret (e_tup (a_cons e_str (a_cons (e_var (pv 1)) a_nil))))) s_nil))))))
      (s_one (s_ret (e_lst (a_cons (e_var (pv 0)) a_nil)))))))
    (fun _ _ _ h => h)
abbrev s_u_law_all : Stmt := topS 74
abbrev n_u_law_all : List Str := ["notes", "text", "found"]
theorem sc_u_law_all : FnScope n_u_law_all ["notes", "text"] (defScope s_u_law_all) := ⟨rfl, rfl, rfl, by decide +kernel, rfl, by decide +kernel, by decide +kernel⟩
def w_u_law_all : WS := (wSeq (wOwn 2 (nLst (wCons (wOut tnO rsO (fun R => (wCallX f_least_cost (fun x _ c => R x c) (gIm (wVar 0) (gIm (wVar 1) HW.gNil))))) wNil)))
    (wSeq (wAppG 2 (wOut tnO rsO (fun R => (wCallX f_telling (fun x _ c => R x c) (gIm (wVar 0) (gIm (wVar 1) HW.gNil))))))
    (wSeq (wAppG 2 (wOut tnO rsO (fun R => (wCallX f_many_tellings (fun x _ c => R x c) (gIm (wVar 0) (gIm (wVar 1) HW.gNil))))))
    (wSeq (wAppG 2 (wOut tnO rsO (fun R => (wCallX f_cost_paper (fun x _ c => R x c) (gIm (wVar 0) (gIm (wVar 1) HW.gNil))))))
    (wSeq (wAppG 2 (wOut tnO rsO (fun R => (wCallX f_check_cost (fun x _ c => R x c) (gIm (wVar 0) (gIm (wVar 1) (gIm (wC .none) HW.gNil)))))))
    (wSeq (wAppG 2 (wOut tnO rsO (fun R => (wCallX f_reads (fun x _ c => R x c) (gIm (wVar 0) (gIm (wVar 1) HW.gNil))))))
    (wRet (wOp catD (wLook 2) (wLst (wCons (wOut tnO rsO (fun R => (wCallX f_many_reads (fun x _ c => R x c) (gIm (wVar 0) (gIm (wVar 1) HW.gNil))))) wNil))))))))))
def f_u_law_all : FW := fun es c Q => es.length = 2 ∧ wDef n_u_law_all w_u_law_all es c Q
theorem g_u_law_all {TT : List (Addr × Str)} {c P0 : Addr} {P : Program} {w : World} {K : PySem.W.Frag} {mg : Str → Option Value} {base : Heap} {f : Addr} {fd : FuncData} (T : Md mg) (c_least_cost : CalX P w K mg base 5 "least_cost" (fnSpX (MT MD TT) K mg f_least_cost)) (c_telling : CalX P w K mg base 5 "telling" (fnSpX (MT MD TT) K mg f_telling)) (c_many_tellings : CalX P w K mg base 5 "many_tellings" (fnSpX (MT MD TT) K mg f_many_tellings)) (c_cost_paper : CalX P w K mg base 5 "cost_paper" (fnSpX (MT MD TT) K mg f_cost_paper)) (c_check_cost : CalX P w K mg base 5 "check_cost" (fnSpX (MT MD TT) K mg f_check_cost)) (c_reads : CalX P w K mg base 5 "reads" (fnSpX (MT MD TT) K mg f_reads)) (c_many_reads : CalX P w K mg base 5 "many_reads" (fnSpX (MT MD TT) K mg f_many_reads)) (c_out : OutC P w K mg base 6 "_law_outcome" (MT MD TT) tnO rsO) (ext : ExT K mg tnO) (tb : TabB base mg c P0) (hmT : (P0, qL "_law_all") ∈ TT) (hu : ∀ p ∈ TT, p.1 = P0 → p.2 = qL "_law_all") (hcd : fd.code = .ref c) (F : L2.Fun K "_law_all" "_law_all" s_u_law_all f fd) : FnG P w K mg base CX0 8 f fd ["notes", "text"] (fnSp (MT MD TT) K f_u_law_all) :=
  def_gC F sc_u_law_all (ws := w_u_law_all) (fun cdv A outer s H E w0 ec gds hr =>
    (s_cons (s_own (i := 2) sc_u_law_all.nd rfl (by first | exact Or.inl rfl | exact Or.inr rfl) (n_lst (a_cons (e_out c_out ext hr (by decide) gds rfl tb (ec.symm.trans hcd) hmT hu (lamN_by (N := n_u_law_all) (bn := []) (sc := defScope s_u_law_all) (by decide +kernel)) (.inl ⟨rfl, rfl, fun _ _ _ _ _ _ => rfl⟩) (fun A outer s H E f c1 w0 R gds hr tk => (x_call c_least_cost tk hr (by decide) gds rfl (g_im (e_var (pv 0)) (g_im (e_var (pv 1)) g_nil)))) (by decide)) a_nil)))
      (s_cons (s_app (pv 2) (e_out c_out ext hr (by decide) gds rfl tb (ec.symm.trans hcd) hmT hu (lamN_by (N := n_u_law_all) (bn := []) (sc := defScope s_u_law_all) (by decide +kernel)) (.inl ⟨rfl, rfl, fun _ _ _ _ _ _ => rfl⟩) (fun A outer s H E f c1 w0 R gds hr tk => (x_call c_telling tk hr (by decide) gds rfl (g_im (e_var (pv 0)) (g_im (e_var (pv 1)) g_nil)))) (by decide)))
      (s_cons (s_app (pv 2) (e_out c_out ext hr (by decide) gds rfl tb (ec.symm.trans hcd) hmT hu (lamN_by (N := n_u_law_all) (bn := []) (sc := defScope s_u_law_all) (by decide +kernel)) (.inl ⟨rfl, rfl, fun _ _ _ _ _ _ => rfl⟩) (fun A outer s H E f c1 w0 R gds hr tk => (x_call c_many_tellings tk hr (by decide) gds rfl (g_im (e_var (pv 0)) (g_im (e_var (pv 1)) g_nil)))) (by decide)))
      (s_cons (s_app (pv 2) (e_out c_out ext hr (by decide) gds rfl tb (ec.symm.trans hcd) hmT hu (lamN_by (N := n_u_law_all) (bn := []) (sc := defScope s_u_law_all) (by decide +kernel)) (.inl ⟨rfl, rfl, fun _ _ _ _ _ _ => rfl⟩) (fun A outer s H E f c1 w0 R gds hr tk => (x_call c_cost_paper tk hr (by decide) gds rfl (g_im (e_var (pv 0)) (g_im (e_var (pv 1)) g_nil)))) (by decide)))
      (s_cons (s_app (pv 2) (e_out c_out ext hr (by decide) gds rfl tb (ec.symm.trans hcd) hmT hu (lamN_by (N := n_u_law_all) (bn := []) (sc := defScope s_u_law_all) (by decide +kernel)) (.inl ⟨rfl, rfl, fun _ _ _ _ _ _ => rfl⟩) (fun A outer s H E f c1 w0 R gds hr tk => (x_call c_check_cost tk hr (by decide) gds rfl (g_im (e_var (pv 0)) (g_im (e_var (pv 1)) (g_im e_non g_nil))))) (by decide)))
      (s_cons (s_app (pv 2) (e_out c_out ext hr (by decide) gds rfl tb (ec.symm.trans hcd) hmT hu (lamN_by (N := n_u_law_all) (bn := []) (sc := defScope s_u_law_all) (by decide +kernel)) (.inl ⟨rfl, rfl, fun _ _ _ _ _ _ => rfl⟩) (fun A outer s H E f c1 w0 R gds hr tk => (x_call c_reads tk hr (by decide) gds rfl (g_im (e_var (pv 0)) (g_im (e_var (pv 1)) g_nil)))) (by decide)))
      (s_one (s_ret (e_op o_cat d_cat (b_var (pv 2)) (toB (e_lst (a_cons (e_out c_out ext hr (by decide) gds rfl tb (ec.symm.trans hcd) hmT hu (lamN_by (N := n_u_law_all) (bn := []) (sc := defScope s_u_law_all) (by decide +kernel)) (.inl ⟨rfl, rfl, fun _ _ _ _ _ _ => rfl⟩) (fun A outer s H E f c1 w0 R gds hr tk => (x_call c_many_reads tk hr (by decide) gds rfl (g_im (e_var (pv 0)) (g_im (e_var (pv 1)) g_nil)))) (by decide)) a_nil)))))))))))))
    (fun _ _ _ h => h)
abbrev s_u_law_rest : Stmt := topS 75
abbrev n_u_law_rest : List Str := ["notes", "found"]
theorem sc_u_law_rest : FnScope n_u_law_rest ["notes"] (defScope s_u_law_rest) := ⟨rfl, rfl, rfl, by decide +kernel, rfl, by decide +kernel, by decide +kernel⟩
def w_u_law_rest : WS := (wSeq (wOwn 1 (nLst (wCons (wOut tnO rsO (fun R => (wCallX f_sent (fun x _ c => R x c) (gIm (wVar 0) (gIm (wC .none) HW.gNil))))) (wCons (wOut tnO rsO (fun R => (wCallX f_is_clear (fun x _ c => R x c) (gIm (wVar 0) HW.gNil)))) wNil))))
    (wSeq (wAppG 1 (wOut tnO rsO (fun R => (wCallX f_clear_paper (fun x _ c => R x c) (gIm (wVar 0) HW.gNil)))))
    (wRet (wOp catD (wLook 1) (wLst (wCons (wOut tnO rsO (fun R => (wCallX f_check_clear (fun x _ c => R x c) (gIm (wVar 0) (gIm (wC .none) HW.gNil))))) wNil))))))
def f_u_law_rest : FW := fun es c Q => es.length = 1 ∧ wDef n_u_law_rest w_u_law_rest es c Q
theorem g_u_law_rest {TT : List (Addr × Str)} {c P0 : Addr} {P : Program} {w : World} {K : PySem.W.Frag} {mg : Str → Option Value} {base : Heap} {f : Addr} {fd : FuncData} (T : Md mg) (c_is_clear : CalX P w K mg base 5 "is_clear" (fnSpX (MT MD TT) K mg f_is_clear)) (c_sent : CalX P w K mg base 5 "sent" (fnSpX (MT MD TT) K mg f_sent)) (c_clear_paper : CalX P w K mg base 5 "clear_paper" (fnSpX (MT MD TT) K mg f_clear_paper)) (c_check_clear : CalX P w K mg base 5 "check_clear" (fnSpX (MT MD TT) K mg f_check_clear)) (c_out : OutC P w K mg base 6 "_law_outcome" (MT MD TT) tnO rsO) (ext : ExT K mg tnO) (tb : TabB base mg c P0) (hmT : (P0, qL "_law_rest") ∈ TT) (hu : ∀ p ∈ TT, p.1 = P0 → p.2 = qL "_law_rest") (hcd : fd.code = .ref c) (F : L2.Fun K "_law_rest" "_law_rest" s_u_law_rest f fd) : FnG P w K mg base CX0 8 f fd ["notes"] (fnSp (MT MD TT) K f_u_law_rest) :=
  def_gC F sc_u_law_rest (ws := w_u_law_rest) (fun cdv A outer s H E w0 ec gds hr =>
    (s_cons (s_own (i := 1) sc_u_law_rest.nd rfl (by first | exact Or.inl rfl | exact Or.inr rfl) (n_lst (a_cons (e_out c_out ext hr (by decide) gds rfl tb (ec.symm.trans hcd) hmT hu (lamN_by (N := n_u_law_rest) (bn := []) (sc := defScope s_u_law_rest) (by decide +kernel)) (.inl ⟨rfl, rfl, fun _ _ _ _ _ _ => rfl⟩) (fun A outer s H E f c1 w0 R gds hr tk => (x_call c_sent tk hr (by decide) gds rfl (g_im (e_var (pv 0)) (g_im e_non g_nil)))) (by decide)) (a_cons (e_out c_out ext hr (by decide) gds rfl tb (ec.symm.trans hcd) hmT hu (lamN_by (N := n_u_law_rest) (bn := ["a"]) (sc := defScope s_u_law_rest) (by decide +kernel)) (.inr ⟨_, "a", .int 0, rfl, rfl, rfl, pe_int, rfl, fun _ _ _ _ _ _ _ _ => ⟨_, rfl, rfl⟩⟩) (fun A outer s H E f c1 w0 R gds hr tk => (x_call c_is_clear tk hr (by decide) gds rfl (g_im (e_var (pv 0)) g_nil))) (by decide)) a_nil))))
      (s_cons (s_app (pv 1) (e_out c_out ext hr (by decide) gds rfl tb (ec.symm.trans hcd) hmT hu (lamN_by (N := n_u_law_rest) (bn := []) (sc := defScope s_u_law_rest) (by decide +kernel)) (.inl ⟨rfl, rfl, fun _ _ _ _ _ _ => rfl⟩) (fun A outer s H E f c1 w0 R gds hr tk => (x_call c_clear_paper tk hr (by decide) gds rfl (g_im (e_var (pv 0)) g_nil))) (by decide)))
      (s_one (s_ret (e_op o_cat d_cat (b_var (pv 1)) (toB (e_lst (a_cons (e_out c_out ext hr (by decide) gds rfl tb (ec.symm.trans hcd) hmT hu (lamN_by (N := n_u_law_rest) (bn := []) (sc := defScope s_u_law_rest) (by decide +kernel)) (.inl ⟨rfl, rfl, fun _ _ _ _ _ _ => rfl⟩) (fun A outer s H E f c1 w0 R gds hr tk => (x_call c_check_clear tk hr (by decide) gds rfl (g_im (e_var (pv 0)) (g_im e_non g_nil)))) (by decide)) a_nil)))))))))
    (fun _ _ _ h => h)
abbrev s_law : Stmt := topS 76
abbrev n_law : List Str := ["script", "m", "once", "notes", "bent", "k", "some", "phrase", "word", "pair", "thing", "j", "due", "odd"]
theorem sc_law : FnScope n_law ["script"] (defScope s_law) := ⟨rfl, rfl, rfl, by decide +kernel, rfl, by decide +kernel, by decide +kernel⟩
def w_lafa : WS := (wSet 3 (wCall f_u_law_book (gSt 1 (gIm (wC (.int 4)) HW.gNil))))
def w_lafba : WS := (wPar 4 5 (wCall f_u_law_bent (gSt 1 (gIm (wVar 3) (gIm (wCall f_u_law_odds HW.gNil) HW.gNil)))) (wCall nextW (gSt 1 (gIm (wF lenD (wLook 3)) HW.gNil))))
def w_lafbba : WS := (wOwn 6 (nLst (wCons (wVar 3) (wCons (wVar 4) (wCons (wCall f_u_law_bent (gSt 1 (gIm (wVar 4) (gIm (wCall f_u_law_odds HW.gNil) HW.gNil)))) (wCons (wList (wLook 3)) wNil))))))
def w_lafbbba : WS := (wAppG 6 (wCall f_u_law_of (gSt 1 (gIm (wCall f_u_law_odds HW.gNil) HW.gNil))))
def w_lafbbbba : WS := (wAsg (wOp ixD (wLook 3) (wLook 5)) (gT [7, 8]))
def w_lafbbbbba : WS := (wFor (wItT (wTup (wCons (wTup (wCons (wVar 7) (wCons (wVar 8) wNil))) (wCons (wTup (wCons (wVar 7) (wCons (wC (.str "00000")) wNil))) (wCons (wTup (wCons (wC (.str "zzzzzzzz")) (wCons (wVar 8) wNil))) (wCons (wTup (wCons (wOp mulSD (wC (.str "a")) (wC (.int 9))) (wCons (wC (.str "z")) wNil))) wNil)))))) (gN 9) (wAppG 6 (wOp catTD (wLook 3) (wTup (wCons (wVar 9) wNil)))))
def w_lafbbbbbba : WS := (wFor (wItT (wTup (wCons (wTup (wCons (wC (.str "z")) (wCons (wOp mulSD (wC (.str "b")) (wC (.int 6))) wNil))) (wCons (wTup (wCons (wC (.str "")) (wCons (wC (.str "z")) wNil))) (wCons (wTup (wCons (wC (.str "A")) (wCons (wC (.str "z")) wNil))) wNil))))) (gN 9) (wAppG 6 (wOp catTD (wLook 3) (wTup (wCons (wVar 9) wNil)))))
def w_lafbbbbbbba : WS := (wFor (wItL (wOp catD (wLook 6) (wLst (wCons (wF tupD (wLc (wRng2 (wC (.int 1)) (wC (.int 9))) wYes (wTup (wCons (wOp mulSD (wC (.str "x")) (wLook 11)) (wCons (wOp addD (wSl (wC (.str "yz")) wNo (wSo (wC (.int 1)))) (wF reprID (wLook 11))) wNil))) 11 [11])) wNil)))) (gN 10) (wSeq (wSet 12 (wCall f_u_law_due (gIm (wVar 10) HW.gNil))) (wSeq (wIf (wTst (wOp neD (wF reprD (wOut tnO rsO (fun R => (wCallX f_need_book (fun x _ c => R x c) (gIm (wVar 10) HW.gNil))))) (wF reprD (wLook 12)))) (wRet (wC (.bool false))) wNext) (wIf (wAnd (wTru (wF (isiD "tuple") (wLook 12))) (wTst (wOp neD (wOp catD (wCall f_u_law_all (gIm (wVar 10) (gIm (wC .none) HW.gNil))) (wCall f_u_law_rest (gIm (wVar 10) HW.gNil))) (wRepL (wCons (wVar 12) wNil) (wC (.int 11)))))) (wRet (wC (.bool false))) wNext))))
def w_lafbbbbbbbba : WS := (wFor (wItT (wTup (wCons (wC .none) (wCons (wC (.int 5)) (wCons (wC (.str "a b")) (wCons (wC (.str "A")) (wCons (wOp mulSD (wC (.str "a")) (wC (.int 201))) (wCons (wLst (wCons (wC (.str "a")) wNil)) wNil)))))))) (gN 13) (wIf (wTst (wOp neD (wCall f_u_law_all (gIm (wVar 3) (gIm (wVar 13) HW.gNil))) (wRepL (wCons (wTup (wCons (wC (.str "place")) (wCons (wC .none) wNil))) wNil) (wC (.int 7))))) (wRet (wC (.bool false))) wNext))
def w_lafbbbbbbbbb : WS := (wFor (wItT (wTup (wCons (wC .none) (wCons (wLst (wCons (wC (.int 0)) wNil)) (wCons (wTup (wCons (wF lenD (wLook 3)) wNil)) (wCons (wTup (wCons (wF negD (wC (.int 1))) wNil)) (wCons (wTup (wCons (wC (.bool true)) wNil)) (wCons (wOp repTAD (wTup (wCons (wC (.int 0)) wNil)) (wC (.int 201))) (wCons (wC (.int 0)) wNil))))))))) (gN 13) (wIf (wTst (wOp neD (wOut tnO rsO (fun R => (wCallX f_sent (fun x _ c => R x c) (gIm (wVar 3) (gIm (wVar 13) HW.gNil))))) (wTup (wCons (wC (.str "place")) (wCons (wC .none) wNil))))) (wRet (wC (.bool false))) wNext))
def w_la : WS := (wFor (wRng (wOp addD (wC (.int 5)) (wOp minD (wF lenD (wLook 0)) (wC (.int 8))))) (gN 2) (wSeq w_lafa (wSeq w_lafba (wSeq w_lafbba (wSeq w_lafbbba (wSeq w_lafbbbba (wSeq w_lafbbbbba (wSeq w_lafbbbbbba (wSeq w_lafbbbbbbba (wSeq w_lafbbbbbbbba w_lafbbbbbbbbb))))))))))
def w_lb : WS := (wRet (wC (.bool true)))
def w_law : WS := (wSeq w_la w_lb)
theorem g_law {P : Program} {w : World} {K : PySem.W.Frag} {mg : Str → Option Value} {base : Heap} {f : Addr} {fd : FuncData} {TT : List (Addr × Str)} {cs : List (Addr × Addr)} {c P0 : Addr} (T : Md mg) (c_begun : CalG P w K mg base 1 "_law_begun" (begSp K)) (c_u_law_book : CalG P w K mg base 3 "_law_book" (fnSp (MT MD TT) K f_u_law_book)) (c_u_law_bent : CalG P w K mg base 13 "_law_bent" (fnSp (MT MD TT) K f_u_law_bent)) (c_u_law_odds : CalG P w K mg base 1 "_law_odds" (fnSp (MT MD TT) K f_u_law_odds)) (c_u_law_next : CalG P w K mg base 1 "_law_next" (fnSp (MT MD TT) K nextW)) (c_u_law_of : CalG P w K mg base 2 "_law_of" (fnSp (MT MD TT) K f_u_law_of)) (c_u_law_due : CalG P w K mg base 3 "_law_due" (fnSp (MT MD TT) K f_u_law_due)) (c_need_book : CalX P w K mg base 4 "need_book" (fnSpX (MT MD TT) K mg f_need_book)) (c_u_law_all : CalG P w K mg base 8 "_law_all" (fnSp (MT MD TT) K f_u_law_all)) (c_u_law_rest : CalG P w K mg base 8 "_law_rest" (fnSp (MT MD TT) K f_u_law_rest)) (c_sent : CalX P w K mg base 5 "sent" (fnSpX (MT MD TT) K mg f_sent)) (c_out : OutC P w K mg base 6 "_law_outcome" (MT MD TT) tnO rsO) (ext : ExT K mg tnO) (tb : TabB base mg c P0) (hmT : (P0, qL "law") ∈ TT) (hu : ∀ p ∈ TT, p.1 = P0 → p.2 = qL "law") (hcd : fd.code = .ref c) (F : L2.Fun K "law" "law" s_law f fd) (hT : ∀ p ∈ TT, ∃ c, (c, p.1) ∈ cs)
    (math : ∀ ns : List Int, ns.length ≤ 63 → w_law { nx := fun _ _ => False, rt := fun d _ => d = .bool true } ((startE n_law [.im (.list (dI ns))]).set 1 .st) 0) : FnG P w K mg base CX0 14 f fd ["script"] (lawSpT K cs) := by
  refine fnGC F sc_law (fun vs H Q E ⟨v, ns, w, e, _⟩ => by rw [e]; rfl) fun cdv A outer s H vs Q E ec gds room h => ?_
  refine ⟨tLawT K TT w_law, PSs.nox ?bd, law_runT (by decide) hT h math⟩
  have hr := room
  refine pss_cons (ps_set (i := 1) sc_law.nd rfl (by first | exact Or.inl rfl | exact Or.inr rfl) (pe_g c_begun room (by decide) gds rfl (pa_cons (pv 0) pa_nil))) (PSs.ex fun w0 => ?_)
  exact (s_cons (s_for PassesOwn.never rfl (i_rng rfl T.b_range (toB (e_op o_add d_add (toB e_int) (toB (e_fn2 (call_min2 rfl) d_min2 rfl T.b_min bt_min (toB (e_fn o_len d_len rfl T.b_len bt_len (b_var (pv 0)))) (toB e_int)))))) (pg_name (i := 2) sc_law.nd rfl (by first | exact Or.inl rfl | exact Or.inr rfl)) tg_name (s_cons (s_set (i := 3) sc_law.nd rfl (by first | exact Or.inl rfl | exact Or.inr rfl) (e_call c_u_law_book hr (by decide) gds rfl (g_st (pv 1) (g_im e_int g_nil))))
    (s_cons (s_par (i := 4) (j := 5) rfl sc_law.nd rfl rfl (by decide) rfl rfl (e_call c_u_law_bent hr (by decide) gds rfl (g_st (pv 1) (g_im (e_var (pv 3)) (g_im (e_call0 c_u_law_odds hr (by decide) gds rfl) g_nil)))) (e_call c_u_law_next hr (by decide) gds rfl (g_st (pv 1) (g_im (e_fn o_len d_len rfl T.b_len bt_len (b_var (pv 3))) g_nil))))
    (s_cons (s_own (i := 6) sc_law.nd rfl (by first | exact Or.inl rfl | exact Or.inr rfl) (n_lst (a_cons (e_var (pv 3)) (a_cons (e_var (pv 4)) (a_cons (e_call c_u_law_bent hr (by decide) gds rfl (g_st (pv 1) (g_im (e_var (pv 4)) (g_im (e_call0 c_u_law_odds hr (by decide) gds rfl) g_nil)))) (a_cons (e_list rfl rfl T.b_list (b_var (pv 3))) a_nil))))))
    (s_cons (s_app (pv 6) (e_call c_u_law_of hr (by decide) gds rfl (g_st (pv 1) (g_im (e_call0 c_u_law_odds hr (by decide) gds rfl) g_nil))))
    (s_cons (s_asg (e_ix o_ix d_ix (b_var (pv 3)) (b_var (pv 5)) (fun _ _ => rfl)) (pg_tup rfl (pgs_cons (pg_name (i := 7) sc_law.nd rfl (by first | exact Or.inl rfl | exact Or.inr rfl)) (pgs_cons (pg_name (i := 8) sc_law.nd rfl (by first | exact Or.inl rfl | exact Or.inr rfl)) pgs_nil))) (tg_tup (is := [7, 8])))
    (s_cons (s_for PassesOwn.never rfl (i_tupF (e_tup (a_cons (e_tup (a_cons (e_var (pv 7)) (a_cons (e_var (pv 8)) a_nil))) (a_cons (e_tup (a_cons (e_var (pv 7)) (a_cons e_str a_nil))) (a_cons (e_tup (a_cons e_str (a_cons (e_var (pv 8)) a_nil))) (a_cons (e_tup (a_cons (e_op op_mulS d_mulS (toB e_str) (toB e_int)) (a_cons e_str a_nil))) a_nil)))))) (pg_name (i := 9) sc_law.nd rfl (by first | exact Or.inl rfl | exact Or.inr rfl)) tg_name (s_one (s_app (pv 6) (e_op op_catA d_catT (b_var (pv 3)) (toB (e_tup (a_cons (e_var (pv 9)) a_nil)))))))
    (s_cons (s_for PassesOwn.never rfl (i_tupF (e_tup (a_cons (e_tup (a_cons e_str (a_cons (e_op op_mulS d_mulS (toB e_str) (toB e_int)) a_nil))) (a_cons (e_tup (a_cons e_str (a_cons e_str a_nil))) (a_cons (e_tup (a_cons e_str (a_cons e_str a_nil))) a_nil))))) (pg_name (i := 9) sc_law.nd rfl (by first | exact Or.inl rfl | exact Or.inr rfl)) tg_name (s_one (s_app (pv 6) (e_op op_catA d_catT (b_var (pv 3)) (toB (e_tup (a_cons (e_var (pv 9)) a_nil)))))))
    (s_cons (s_for PassesOwn.never rfl (i_listF (e_op o_cat d_cat (b_var (pv 6)) (toB (e_lst (a_cons (e_fnT call_tuple_of d_tup rfl T.b_tuple bt_tuple (toB (e_lc (own := [("j", 11)]) (j := 11) (by decide) rfl sc_law.nd (i_rng2 rfl T.b_range (toB e_int) (toB e_int)) (blkOk_by (own := [("j", 11)]) (N := n_law) (sc := defScope s_law) (by decide +kernel)) (fun _ _ _ _ _ => pg_name (i := 11) sc_law.nd rfl (by first | exact Or.inl rfl | exact Or.inr rfl)) (fun _ _ _ _ _ => ts_nil) (fun _ _ _ _ _ => (e_tup (a_cons (e_op op_mulS d_mulS (toB e_str) (b_var (pv 11))) (a_cons (e_op o_add d_add (toB (e_sl (toB e_str) o_no (o_so (toB e_int)))) (toB (e_fnT call_str_int d_reprI rfl T.b_str bt_str (b_var (pv 11))))) a_nil))))))) a_nil))))) (pg_name (i := 10) sc_law.nd rfl (by first | exact Or.inl rfl | exact Or.inr rfl)) tg_name (s_cons (s_set (i := 12) sc_law.nd rfl (by first | exact Or.inl rfl | exact Or.inr rfl) (e_call c_u_law_due hr (by decide) gds rfl (g_im (e_var (pv 10)) g_nil)))
    (s_cons (s_if (t_cmp (op_neD hr.units) d_ne (nomark _) (toB (e_repr hr gds rfl T.b_repr (toB (e_out c_out ext hr (by decide) gds rfl tb (ec.symm.trans hcd) hmT hu (lamN_by (N := n_law) (bn := []) (sc := defScope s_law) (by decide +kernel)) (.inl ⟨rfl, rfl, fun _ _ _ _ _ _ => rfl⟩) (fun A outer s H E f c1 w0 R gds hr tk => (x_call c_need_book tk hr (by decide) gds rfl (g_im (e_var (pv 10)) g_nil))) (by decide))))) (toB (e_repr hr gds rfl T.b_repr (b_var (pv 12))))) (s_one (s_ret e_bl)) s_nil)
    (s_one (s_if (PW.pt (t_and (t_tru (toB (e_isi rfl T.b_isinstance rfl T.b_tuple bt_tuple (b_var (pv 12))))) (t_and1 (t_cmp (op_neD hr.units) d_ne (nomark _) (toB (e_op o_cat d_cat (toB (e_call c_u_law_all hr (by decide) gds rfl (g_im (e_var (pv 10)) (g_im e_non g_nil)))) (toB (e_call c_u_law_rest hr (by decide) gds rfl (g_im (e_var (pv 10)) g_nil))))) (toB (e_repL (a_cons (e_var (pv 12)) a_nil) (toB e_int))))))) (s_one (s_ret e_bl)) s_nil)))))
    (s_cons (s_for PassesOwn.never rfl (i_tupF (e_tup (a_cons e_non (a_cons e_int (a_cons e_str (a_cons e_str (a_cons (e_op op_mulS d_mulS (toB e_str) (toB e_int)) (a_cons (e_lst (a_cons e_str a_nil)) a_nil)))))))) (pg_name (i := 13) sc_law.nd rfl (by first | exact Or.inl rfl | exact Or.inr rfl)) tg_name (s_one (s_if (t_cmp (op_neD hr.units) d_ne (nomark _) (toB (e_call c_u_law_all hr (by decide) gds rfl (g_im (e_var (pv 3)) (g_im (e_var (pv 13)) g_nil)))) (toB (e_repL (a_cons (e_tup (a_cons e_str (a_cons e_non a_nil))) a_nil) (toB e_int)))) (s_one (s_ret e_bl)) s_nil)))
    (s_one (s_for PassesOwn.never rfl (i_tupF (e_tup (a_cons e_non (a_cons (e_lst (a_cons e_int a_nil)) (a_cons (e_tup (a_cons (e_fn o_len d_len rfl T.b_len bt_len (b_var (pv 3))) a_nil)) (a_cons (e_tup (a_cons (e_neg (toB e_int)) a_nil)) (a_cons (e_tup (a_cons e_bl a_nil)) (a_cons (e_op op_repA d_repTA (toB (e_tup (a_cons e_int a_nil))) (toB e_int)) (a_cons e_int a_nil))))))))) (pg_name (i := 13) sc_law.nd rfl (by first | exact Or.inl rfl | exact Or.inr rfl)) tg_name (s_one (s_if (t_cmp (op_neD hr.units) d_ne (nomark _) (toB (e_out c_out ext hr (by decide) gds rfl tb (ec.symm.trans hcd) hmT hu (lamN_by (N := n_law) (bn := []) (sc := defScope s_law) (by decide +kernel)) (.inl ⟨rfl, rfl, fun _ _ _ _ _ _ => rfl⟩) (fun A outer s H E f c1 w0 R gds hr tk => (x_call c_sent tk hr (by decide) gds rfl (g_im (e_var (pv 3)) (g_im (e_var (pv 13)) g_nil)))) (by decide))) (toB (e_tup (a_cons e_str (a_cons e_non a_nil))))) (s_one (s_ret e_bl)) s_nil))))))))))))))
    (s_one (s_ret e_bl)))
abbrev s_cBadPaper : Stmt := inClass (topS 2) 0
theorem sc_cBadPaper : FnScope ["self", "part"] ["self", "part"] (defScope s_cBadPaper) := ⟨rfl, rfl, rfl, by decide +kernel, rfl, by decide +kernel, by decide +kernel⟩
theorem i_BadPaper {P : Program} {w : World} {K : PySem.W.Frag} {mg : Str → Option Value} {base : Heap} {f C : Addr} {fd : FuncData} (T : Md mg) (vV : PySem.W.findCls K (.type "ValueError") (.type "type") "__init__" = some (.val (.builtin "ValueError.__init__"))) (F : L2.Fun K "__init__" "BadPaper.__init__" s_cBadPaper f fd) : FnOk P w K mg base CX0 1 f fd ["self", "part"] (spI1 K C "part") :=
  F.ok sc_cBadPaper (fun vs H Q E ⟨a, v, e, _⟩ => by rw [e]; rfl) (fun cdv A outer s H vs Q E hr h => ⟨tI1 K "part", pss_cons (ps_expr (pe_veinit rfl T.b_ValueError vV (pa_cons (pv 0) (pa_cons (pv 1) pa_nil)))) (pss_one (ps_ost (pv 0) (pv 1))), run_I1 h⟩)
abbrev s_cOutOfPlace : Stmt := inClass (topS 3) 0
theorem sc_cOutOfPlace : FnScope ["self", "text"] ["self", "text"] (defScope s_cOutOfPlace) := ⟨rfl, rfl, rfl, by decide +kernel, rfl, by decide +kernel, by decide +kernel⟩
theorem i_OutOfPlace {P : Program} {w : World} {K : PySem.W.Frag} {mg : Str → Option Value} {base : Heap} {f C : Addr} {fd : FuncData} (T : Md mg) (vV : PySem.W.findCls K (.type "ValueError") (.type "type") "__init__" = some (.val (.builtin "ValueError.__init__"))) (F : L2.Fun K "__init__" "OutOfPlace.__init__" s_cOutOfPlace f fd) : FnOk P w K mg base CX0 1 f fd ["self", "text"] (spI0 K C) :=
  F.ok sc_cOutOfPlace (fun vs H Q E ⟨a, v, e, _⟩ => by rw [e]; rfl) (fun cdv A outer s H vs Q E hr h => ⟨tI0 K, pss_one (ps_expr (pe_veinit rfl T.b_ValueError vV (pa_cons (pv 0) (pa_cons (pv 1) pa_nil)))), run_I0 h⟩)
abbrev s_cBadBook : Stmt := inClass (topS 5) 0
theorem sc_cBadBook : FnScope ["self", "number"] ["self", "number"] (defScope s_cBadBook) := ⟨rfl, rfl, rfl, by decide +kernel, rfl, by decide +kernel, by decide +kernel⟩
theorem i_BadBook {P : Program} {w : World} {K : PySem.W.Frag} {mg : Str → Option Value} {base : Heap} {f C : Addr} {fd : FuncData} (T : Md mg) (vV : PySem.W.findCls K (.type "ValueError") (.type "type") "__init__" = some (.val (.builtin "ValueError.__init__"))) (F : L2.Fun K "__init__" "BadBook.__init__" s_cBadBook f fd) : FnOk P w K mg base CX0 1 f fd ["self", "number"] (spI1 K C "number") :=
  F.ok sc_cBadBook (fun vs H Q E ⟨a, v, e, _⟩ => by rw [e]; rfl) (fun cdv A outer s H vs Q E hr h => ⟨tI1 K "number", pss_cons (ps_expr (pe_veinit rfl T.b_ValueError vV (pa_cons (pv 0) (pa_cons (pv 1) pa_nil)))) (pss_one (ps_ost (pv 0) (pv 1))), run_I1 h⟩)
theorem all_mk {l : PySem.W.OpenLaw} {w : World} {K : PySem.W.Frag} {h : Heap} {mg : Str → Option Value} {fa : Addr} {qq : Program} (X : K.In h) (G : h.Ns mainGlobals mg) (tabs : TabsAt qq K mg h) (hfa : mg "law" = some (.ref fa))
    {f0 : Addr} {od0 an0 : Option Addr} {sl0 : Array (Option Value)} {oc0 kV0 dc0 pm0 cd0 ct0 : Value} (a0 : PySem.W.nsIn K mainGlobals "_law_begun" = some (some (.ref f0))) (l0 : K.lookup f0 = some ⟨oc0, od0, .func (PySem.W.fnOf "_law_begun" "_law_begun" (defArgs sBegun) (defBody sBegun) (defScope sBegun) .none kV0 dc0 pm0 an0 cd0 ct0), sl0⟩) (c0 : PySem.W.codeIn K cd0 "_law_begun" = true) (k0 : PySem.W.keepIn K (.ref f0) = true)
    {f1 : Addr} {od1 an1 : Option Addr} {sl1 : Array (Option Value)} {oc1 kV1 dc1 pm1 cd1 ct1 : Value} (a1 : PySem.W.nsIn K mainGlobals "_law_next" = some (some (.ref f1))) (l1 : K.lookup f1 = some ⟨oc1, od1, .func (PySem.W.fnOf "_law_next" "_law_next" (defArgs sNext) (defBody sNext) (defScope sNext) .none kV1 dc1 pm1 an1 cd1 ct1), sl1⟩) (c1 : PySem.W.codeIn K cd1 "_law_next" = true) (k1 : PySem.W.keepIn K (.ref f1) = true)
    {f2 : Addr} {od2 an2 : Option Addr} {sl2 : Array (Option Value)} {oc2 kV2 dc2 pm2 cd2 ct2 : Value} (a2 : PySem.W.nsIn K mainGlobals "is_whole" = some (some (.ref f2))) (l2 : K.lookup f2 = some ⟨oc2, od2, .func (PySem.W.fnOf "is_whole" "is_whole" (defArgs s_is_whole) (defBody s_is_whole) (defScope s_is_whole) .none kV2 dc2 pm2 an2 cd2 ct2), sl2⟩) (c2 : PySem.W.codeIn K cd2 "is_whole" = true) (k2 : PySem.W.keepIn K (.ref f2) = true)
    {f3 : Addr} {od3 an3 : Option Addr} {sl3 : Array (Option Value)} {oc3 kV3 dc3 pm3 cd3 ct3 : Value} (a3 : PySem.W.nsIn K mainGlobals "is_integer" = some (some (.ref f3))) (l3 : K.lookup f3 = some ⟨oc3, od3, .func (PySem.W.fnOf "is_integer" "is_integer" (defArgs s_is_integer) (defBody s_is_integer) (defScope s_is_integer) .none kV3 dc3 pm3 an3 cd3 ct3), sl3⟩) (c3 : PySem.W.codeIn K cd3 "is_integer" = true) (k3 : PySem.W.keepIn K (.ref f3) = true)
    {f4 : Addr} {od4 an4 : Option Addr} {sl4 : Array (Option Value)} {oc4 kV4 dc4 pm4 cd4 ct4 : Value} (a4 : PySem.W.nsIn K mainGlobals "is_tuple" = some (some (.ref f4))) (l4 : K.lookup f4 = some ⟨oc4, od4, .func (PySem.W.fnOf "is_tuple" "is_tuple" (defArgs s_is_tuple) (defBody s_is_tuple) (defScope s_is_tuple) .none kV4 dc4 pm4 an4 cd4 ct4), sl4⟩) (c4 : PySem.W.codeIn K cd4 "is_tuple" = true) (k4 : PySem.W.keepIn K (.ref f4) = true)
    {f5 : Addr} {od5 an5 : Option Addr} {sl5 : Array (Option Value)} {oc5 kV5 dc5 pm5 cd5 ct5 : Value} (a5 : PySem.W.nsIn K mainGlobals "is_word" = some (some (.ref f5))) (l5 : K.lookup f5 = some ⟨oc5, od5, .func (PySem.W.fnOf "is_word" "is_word" (defArgs s_is_word) (defBody s_is_word) (defScope s_is_word) .none kV5 dc5 pm5 an5 cd5 ct5), sl5⟩) (c5 : PySem.W.codeIn K cd5 "is_word" = true) (k5 : PySem.W.keepIn K (.ref f5) = true)
    {f6 : Addr} {od6 an6 : Option Addr} {sl6 : Array (Option Value)} {oc6 kV6 dc6 pm6 cd6 ct6 : Value} (a6 : PySem.W.nsIn K mainGlobals "is_short_word" = some (some (.ref f6))) (l6 : K.lookup f6 = some ⟨oc6, od6, .func (PySem.W.fnOf "is_short_word" "is_short_word" (defArgs s_is_short_word) (defBody s_is_short_word) (defScope s_is_short_word) .none kV6 dc6 pm6 an6 cd6 ct6), sl6⟩) (c6 : PySem.W.codeIn K cd6 "is_short_word" = true) (k6 : PySem.W.keepIn K (.ref f6) = true)
    {f7 : Addr} {od7 an7 : Option Addr} {sl7 : Array (Option Value)} {oc7 kV7 dc7 pm7 cd7 ct7 : Value} (a7 : PySem.W.nsIn K mainGlobals "is_text" = some (some (.ref f7))) (l7 : K.lookup f7 = some ⟨oc7, od7, .func (PySem.W.fnOf "is_text" "is_text" (defArgs s_is_text) (defBody s_is_text) (defScope s_is_text) .none kV7 dc7 pm7 an7 cd7 ct7), sl7⟩) (c7 : PySem.W.codeIn K cd7 "is_text" = true) (k7 : PySem.W.keepIn K (.ref f7) = true)
    {f8 : Addr} {od8 an8 : Option Addr} {sl8 : Array (Option Value)} {oc8 kV8 dc8 pm8 cd8 ct8 : Value} (a8 : PySem.W.nsIn K mainGlobals "is_ascending" = some (some (.ref f8))) (l8 : K.lookup f8 = some ⟨oc8, od8, .func (PySem.W.fnOf "is_ascending" "is_ascending" (defArgs s_is_ascending) (defBody s_is_ascending) (defScope s_is_ascending) .none kV8 dc8 pm8 an8 cd8 ct8), sl8⟩) (c8 : PySem.W.codeIn K cd8 "is_ascending" = true) (k8 : PySem.W.keepIn K (.ref f8) = true)
    {f9 : Addr} {od9 an9 : Option Addr} {sl9 : Array (Option Value)} {oc9 kV9 dc9 pm9 cd9 ct9 : Value} (a9 : PySem.W.nsIn K mainGlobals "need_text" = some (some (.ref f9))) (l9 : K.lookup f9 = some ⟨oc9, od9, .func (PySem.W.fnOf "need_text" "need_text" (defArgs s_need_text) (defBody s_need_text) (defScope s_need_text) .none kV9 dc9 pm9 an9 cd9 ct9), sl9⟩) (c9 : PySem.W.codeIn K cd9 "need_text" = true) (k9 : PySem.W.keepIn K (.ref f9) = true)
    {f10 : Addr} {od10 an10 : Option Addr} {sl10 : Array (Option Value)} {oc10 kV10 dc10 pm10 cd10 ct10 : Value} (a10 : PySem.W.nsIn K mainGlobals "is_pair" = some (some (.ref f10))) (l10 : K.lookup f10 = some ⟨oc10, od10, .func (PySem.W.fnOf "is_pair" "is_pair" (defArgs s_is_pair) (defBody s_is_pair) (defScope s_is_pair) .none kV10 dc10 pm10 an10 cd10 ct10), sl10⟩) (c10 : PySem.W.codeIn K cd10 "is_pair" = true) (k10 : PySem.W.keepIn K (.ref f10) = true)
    {f11 : Addr} {od11 an11 : Option Addr} {sl11 : Array (Option Value)} {oc11 kV11 dc11 pm11 cd11 ct11 : Value} (a11 : PySem.W.nsIn K mainGlobals "need_book" = some (some (.ref f11))) (l11 : K.lookup f11 = some ⟨oc11, od11, .func (PySem.W.fnOf "need_book" "need_book" (defArgs s_need_book) (defBody s_need_book) (defScope s_need_book) .none kV11 dc11 pm11 an11 cd11 ct11), sl11⟩) (c11 : PySem.W.codeIn K cd11 "need_book" = true) (k11 : PySem.W.keepIn K (.ref f11) = true)
    {f12 : Addr} {od12 an12 : Option Addr} {sl12 : Array (Option Value)} {oc12 kV12 dc12 pm12 cd12 ct12 : Value} (a12 : PySem.W.nsIn K mainGlobals "_telling_to_end" = some (some (.ref f12))) (l12 : K.lookup f12 = some ⟨oc12, od12, .func (PySem.W.fnOf "_telling_to_end" "_telling_to_end" (defArgs s_u_telling_to_end) (defBody s_u_telling_to_end) (defScope s_u_telling_to_end) .none kV12 dc12 pm12 an12 cd12 ct12), sl12⟩) (c12 : PySem.W.codeIn K cd12 "_telling_to_end" = true) (k12 : PySem.W.keepIn K (.ref f12) = true)
    {f13 : Addr} {od13 an13 : Option Addr} {sl13 : Array (Option Value)} {oc13 kV13 dc13 pm13 cd13 ct13 : Value} (a13 : PySem.W.nsIn K mainGlobals "least_cost" = some (some (.ref f13))) (l13 : K.lookup f13 = some ⟨oc13, od13, .func (PySem.W.fnOf "least_cost" "least_cost" (defArgs s_least_cost) (defBody s_least_cost) (defScope s_least_cost) .none kV13 dc13 pm13 an13 cd13 ct13), sl13⟩) (c13 : PySem.W.codeIn K cd13 "least_cost" = true) (k13 : PySem.W.keepIn K (.ref f13) = true)
    {f14 : Addr} {od14 an14 : Option Addr} {sl14 : Array (Option Value)} {oc14 kV14 dc14 pm14 cd14 ct14 : Value} (a14 : PySem.W.nsIn K mainGlobals "telling" = some (some (.ref f14))) (l14 : K.lookup f14 = some ⟨oc14, od14, .func (PySem.W.fnOf "telling" "telling" (defArgs s_telling) (defBody s_telling) (defScope s_telling) .none kV14 dc14 pm14 an14 cd14 ct14), sl14⟩) (c14 : PySem.W.codeIn K cd14 "telling" = true) (k14 : PySem.W.keepIn K (.ref f14) = true)
    {f15 : Addr} {od15 an15 : Option Addr} {sl15 : Array (Option Value)} {oc15 kV15 dc15 pm15 cd15 ct15 : Value} (a15 : PySem.W.nsIn K mainGlobals "many_tellings" = some (some (.ref f15))) (l15 : K.lookup f15 = some ⟨oc15, od15, .func (PySem.W.fnOf "many_tellings" "many_tellings" (defArgs s_many_tellings) (defBody s_many_tellings) (defScope s_many_tellings) .none kV15 dc15 pm15 an15 cd15 ct15), sl15⟩) (c15 : PySem.W.codeIn K cd15 "many_tellings" = true) (k15 : PySem.W.keepIn K (.ref f15) = true)
    {f16 : Addr} {od16 an16 : Option Addr} {sl16 : Array (Option Value)} {oc16 kV16 dc16 pm16 cd16 ct16 : Value} (a16 : PySem.W.nsIn K mainGlobals "is_telling" = some (some (.ref f16))) (l16 : K.lookup f16 = some ⟨oc16, od16, .func (PySem.W.fnOf "is_telling" "is_telling" (defArgs s_is_telling) (defBody s_is_telling) (defScope s_is_telling) .none kV16 dc16 pm16 an16 cd16 ct16), sl16⟩) (c16 : PySem.W.codeIn K cd16 "is_telling" = true) (k16 : PySem.W.keepIn K (.ref f16) = true)
    {f17 : Addr} {od17 an17 : Option Addr} {sl17 : Array (Option Value)} {oc17 kV17 dc17 pm17 cd17 ct17 : Value} (a17 : PySem.W.nsIn K mainGlobals "sent" = some (some (.ref f17))) (l17 : K.lookup f17 = some ⟨oc17, od17, .func (PySem.W.fnOf "sent" "sent" (defArgs s_sent) (defBody s_sent) (defScope s_sent) .none kV17 dc17 pm17 an17 cd17 ct17), sl17⟩) (c17 : PySem.W.codeIn K cd17 "sent" = true) (k17 : PySem.W.keepIn K (.ref f17) = true)
    {f18 : Addr} {od18 an18 : Option Addr} {sl18 : Array (Option Value)} {oc18 kV18 dc18 pm18 cd18 ct18 : Value} (a18 : PySem.W.nsIn K mainGlobals "cost_paper" = some (some (.ref f18))) (l18 : K.lookup f18 = some ⟨oc18, od18, .func (PySem.W.fnOf "cost_paper" "cost_paper" (defArgs s_cost_paper) (defBody s_cost_paper) (defScope s_cost_paper) .none kV18 dc18 pm18 an18 cd18 ct18), sl18⟩) (c18 : PySem.W.codeIn K cd18 "cost_paper" = true) (k18 : PySem.W.keepIn K (.ref f18) = true)
    {f19 : Addr} {od19 an19 : Option Addr} {sl19 : Array (Option Value)} {oc19 kV19 dc19 pm19 cd19 ct19 : Value} (a19 : PySem.W.nsIn K mainGlobals "check_cost" = some (some (.ref f19))) (l19 : K.lookup f19 = some ⟨oc19, od19, .func (PySem.W.fnOf "check_cost" "check_cost" (defArgs s_check_cost) (defBody s_check_cost) (defScope s_check_cost) .none kV19 dc19 pm19 an19 cd19 ct19), sl19⟩) (c19 : PySem.W.codeIn K cd19 "check_cost" = true) (k19 : PySem.W.keepIn K (.ref f19) = true)
    {f20 : Addr} {od20 an20 : Option Addr} {sl20 : Array (Option Value)} {oc20 kV20 dc20 pm20 cd20 ct20 : Value} (a20 : PySem.W.nsIn K mainGlobals "reads" = some (some (.ref f20))) (l20 : K.lookup f20 = some ⟨oc20, od20, .func (PySem.W.fnOf "reads" "reads" (defArgs s_reads) (defBody s_reads) (defScope s_reads) .none kV20 dc20 pm20 an20 cd20 ct20), sl20⟩) (c20 : PySem.W.codeIn K cd20 "reads" = true) (k20 : PySem.W.keepIn K (.ref f20) = true)
    {f21 : Addr} {od21 an21 : Option Addr} {sl21 : Array (Option Value)} {oc21 kV21 dc21 pm21 cd21 ct21 : Value} (a21 : PySem.W.nsIn K mainGlobals "many_reads" = some (some (.ref f21))) (l21 : K.lookup f21 = some ⟨oc21, od21, .func (PySem.W.fnOf "many_reads" "many_reads" (defArgs s_many_reads) (defBody s_many_reads) (defScope s_many_reads) .none kV21 dc21 pm21 an21 cd21 ct21), sl21⟩) (c21 : PySem.W.codeIn K cd21 "many_reads" = true) (k21 : PySem.W.keepIn K (.ref f21) = true)
    {f22 : Addr} {od22 an22 : Option Addr} {sl22 : Array (Option Value)} {oc22 kV22 dc22 pm22 cd22 ct22 : Value} (a22 : PySem.W.nsIn K mainGlobals "_is_string" = some (some (.ref f22))) (l22 : K.lookup f22 = some ⟨oc22, od22, .func (PySem.W.fnOf "_is_string" "_is_string" (defArgs s_u_is_string) (defBody s_u_is_string) (defScope s_u_is_string) .none kV22 dc22 pm22 an22 cd22 ct22), sl22⟩) (c22 : PySem.W.codeIn K cd22 "_is_string" = true) (k22 : PySem.W.keepIn K (.ref f22) = true)
    {f23 : Addr} {od23 an23 : Option Addr} {sl23 : Array (Option Value)} {oc23 kV23 dc23 pm23 cd23 ct23 : Value} (a23 : PySem.W.nsIn K mainGlobals "paper_word" = some (some (.ref f23))) (l23 : K.lookup f23 = some ⟨oc23, od23, .func (PySem.W.fnOf "paper_word" "paper_word" (defArgs s_paper_word) (defBody s_paper_word) (defScope s_paper_word) .none kV23 dc23 pm23 an23 cd23 ct23), sl23⟩) (c23 : PySem.W.codeIn K cd23 "paper_word" = true) (k23 : PySem.W.keepIn K (.ref f23) = true)
    {f24 : Addr} {od24 an24 : Option Addr} {sl24 : Array (Option Value)} {oc24 kV24 dc24 pm24 cd24 ct24 : Value} (a24 : PySem.W.nsIn K mainGlobals "is_clear" = some (some (.ref f24))) (l24 : K.lookup f24 = some ⟨oc24, od24, .func (PySem.W.fnOf "is_clear" "is_clear" (defArgs s_is_clear) (defBody s_is_clear) (defScope s_is_clear) .none kV24 dc24 pm24 an24 cd24 ct24), sl24⟩) (c24 : PySem.W.codeIn K cd24 "is_clear" = true) (k24 : PySem.W.keepIn K (.ref f24) = true)
    {f25 : Addr} {od25 an25 : Option Addr} {sl25 : Array (Option Value)} {oc25 kV25 dc25 pm25 cd25 ct25 : Value} (a25 : PySem.W.nsIn K mainGlobals "clear_paper" = some (some (.ref f25))) (l25 : K.lookup f25 = some ⟨oc25, od25, .func (PySem.W.fnOf "clear_paper" "clear_paper" (defArgs s_clear_paper) (defBody s_clear_paper) (defScope s_clear_paper) .none kV25 dc25 pm25 an25 cd25 ct25), sl25⟩) (c25 : PySem.W.codeIn K cd25 "clear_paper" = true) (k25 : PySem.W.keepIn K (.ref f25) = true)
    {f26 : Addr} {od26 an26 : Option Addr} {sl26 : Array (Option Value)} {oc26 kV26 dc26 pm26 cd26 ct26 : Value} (a26 : PySem.W.nsIn K mainGlobals "check_clear" = some (some (.ref f26))) (l26 : K.lookup f26 = some ⟨oc26, od26, .func (PySem.W.fnOf "check_clear" "check_clear" (defArgs s_check_clear) (defBody s_check_clear) (defScope s_check_clear) .none kV26 dc26 pm26 an26 cd26 ct26), sl26⟩) (c26 : PySem.W.codeIn K cd26 "check_clear" = true) (k26 : PySem.W.keepIn K (.ref f26) = true)
    {f27 : Addr} {od27 an27 : Option Addr} {sl27 : Array (Option Value)} {oc27 kV27 dc27 pm27 cd27 ct27 : Value} (a27 : PySem.W.nsIn K mainGlobals "_law_of" = some (some (.ref f27))) (l27 : K.lookup f27 = some ⟨oc27, od27, .func (PySem.W.fnOf "_law_of" "_law_of" (defArgs s_u_law_of) (defBody s_u_law_of) (defScope s_u_law_of) .none kV27 dc27 pm27 an27 cd27 ct27), sl27⟩) (c27 : PySem.W.codeIn K cd27 "_law_of" = true) (k27 : PySem.W.keepIn K (.ref f27) = true)
    {f28 : Addr} {od28 an28 : Option Addr} {sl28 : Array (Option Value)} {oc28 kV28 dc28 pm28 cd28 ct28 : Value} (a28 : PySem.W.nsIn K mainGlobals "_law_odds" = some (some (.ref f28))) (l28 : K.lookup f28 = some ⟨oc28, od28, .func (PySem.W.fnOf "_law_odds" "_law_odds" (defArgs s_u_law_odds) (defBody s_u_law_odds) (defScope s_u_law_odds) .none kV28 dc28 pm28 an28 cd28 ct28), sl28⟩) (c28 : PySem.W.codeIn K cd28 "_law_odds" = true) (k28 : PySem.W.keepIn K (.ref f28) = true)
    {f29 : Addr} {od29 an29 : Option Addr} {sl29 : Array (Option Value)} {oc29 kV29 dc29 pm29 cd29 ct29 : Value} (a29 : PySem.W.nsIn K mainGlobals "_law_bent" = some (some (.ref f29))) (l29 : K.lookup f29 = some ⟨oc29, od29, .func (PySem.W.fnOf "_law_bent" "_law_bent" (defArgs s_u_law_bent) (defBody s_u_law_bent) (defScope s_u_law_bent) .none kV29 dc29 pm29 an29 cd29 ct29), sl29⟩) (c29 : PySem.W.codeIn K cd29 "_law_bent" = true) (k29 : PySem.W.keepIn K (.ref f29) = true)
    {f30 : Addr} {od30 an30 : Option Addr} {sl30 : Array (Option Value)} {oc30 kV30 dc30 pm30 cd30 ct30 : Value} (a30 : PySem.W.nsIn K mainGlobals "_law_signs" = some (some (.ref f30))) (l30 : K.lookup f30 = some ⟨oc30, od30, .func (PySem.W.fnOf "_law_signs" "_law_signs" (defArgs s_u_law_signs) (defBody s_u_law_signs) (defScope s_u_law_signs) .none kV30 dc30 pm30 an30 cd30 ct30), sl30⟩) (c30 : PySem.W.codeIn K cd30 "_law_signs" = true) (k30 : PySem.W.keepIn K (.ref f30) = true)
    {f31 : Addr} {od31 an31 : Option Addr} {sl31 : Array (Option Value)} {oc31 kV31 dc31 pm31 cd31 ct31 : Value} (a31 : PySem.W.nsIn K mainGlobals "_law_book" = some (some (.ref f31))) (l31 : K.lookup f31 = some ⟨oc31, od31, .func (PySem.W.fnOf "_law_book" "_law_book" (defArgs s_u_law_book) (defBody s_u_law_book) (defScope s_u_law_book) .none kV31 dc31 pm31 an31 cd31 ct31), sl31⟩) (c31 : PySem.W.codeIn K cd31 "_law_book" = true) (k31 : PySem.W.keepIn K (.ref f31) = true)
    {f32 : Addr} {od32 an32 : Option Addr} {sl32 : Array (Option Value)} {oc32 kV32 dc32 pm32 cd32 ct32 : Value} (a32 : PySem.W.nsIn K mainGlobals "_law_is_word" = some (some (.ref f32))) (l32 : K.lookup f32 = some ⟨oc32, od32, .func (PySem.W.fnOf "_law_is_word" "_law_is_word" (defArgs s_u_law_is_word) (defBody s_u_law_is_word) (defScope s_u_law_is_word) .none kV32 dc32 pm32 an32 cd32 ct32), sl32⟩) (c32 : PySem.W.codeIn K cd32 "_law_is_word" = true) (k32 : PySem.W.keepIn K (.ref f32) = true)
    {f33 : Addr} {od33 an33 : Option Addr} {sl33 : Array (Option Value)} {oc33 kV33 dc33 pm33 cd33 ct33 : Value} (a33 : PySem.W.nsIn K mainGlobals "_law_due" = some (some (.ref f33))) (l33 : K.lookup f33 = some ⟨oc33, od33, .func (PySem.W.fnOf "_law_due" "_law_due" (defArgs s_u_law_due) (defBody s_u_law_due) (defScope s_u_law_due) .none kV33 dc33 pm33 an33 cd33 ct33), sl33⟩) (c33 : PySem.W.codeIn K cd33 "_law_due" = true) (k33 : PySem.W.keepIn K (.ref f33) = true)
    {f34 : Addr} {od34 an34 : Option Addr} {sl34 : Array (Option Value)} {oc34 kV34 dc34 pm34  ct34 : Value} {cT34 PT34 : Addr} {eT34 : Value} {dT34 : Option Addr} {vT34 : Array Value} {sT34 : Array (Option Value)} (a34 : PySem.W.nsIn K mainGlobals "_law_all" = some (some (.ref f34))) (l34 : K.lookup f34 = some ⟨oc34, od34, .func (PySem.W.fnOf "_law_all" "_law_all" (defArgs s_u_law_all) (defBody s_u_law_all) (defScope s_u_law_all) .none kV34 dc34 pm34 an34 (.ref cT34) ct34), sl34⟩) (c34 : PySem.W.codeIn K (.ref cT34) "_law_all" = true) (k34 : PySem.W.keepIn K (.ref f34) = true)
    (u34 : K.lookup cT34 = some ⟨eT34, dT34, .fields vT34, sT34⟩) (v34 : vT34[11]? = some (.ref PT34)) (x34 : K.lookup PT34 = none) (r34 : ((PyProof.Rows.recsOf qq).any fun e => e.name == "_law_all") = true)
    {f35 : Addr} {od35 an35 : Option Addr} {sl35 : Array (Option Value)} {oc35 kV35 dc35 pm35  ct35 : Value} {cT35 PT35 : Addr} {eT35 : Value} {dT35 : Option Addr} {vT35 : Array Value} {sT35 : Array (Option Value)} (a35 : PySem.W.nsIn K mainGlobals "_law_rest" = some (some (.ref f35))) (l35 : K.lookup f35 = some ⟨oc35, od35, .func (PySem.W.fnOf "_law_rest" "_law_rest" (defArgs s_u_law_rest) (defBody s_u_law_rest) (defScope s_u_law_rest) .none kV35 dc35 pm35 an35 (.ref cT35) ct35), sl35⟩) (c35 : PySem.W.codeIn K (.ref cT35) "_law_rest" = true) (k35 : PySem.W.keepIn K (.ref f35) = true)
    (u35 : K.lookup cT35 = some ⟨eT35, dT35, .fields vT35, sT35⟩) (v35 : vT35[11]? = some (.ref PT35)) (x35 : K.lookup PT35 = none) (r35 : ((PyProof.Rows.recsOf qq).any fun e => e.name == "_law_rest") = true)
    {f36 : Addr} {od36 an36 : Option Addr} {sl36 : Array (Option Value)} {oc36 kV36 dc36 pm36 cd36 ct36 : Value} (a36 : PySem.W.nsIn K mainGlobals "_law_fault" = some (some (.ref f36))) (l36 : K.lookup f36 = some ⟨oc36, od36, .func (PySem.W.fnOf "_law_fault" "_law_fault" (defArgs s_u_law_fault) (defBody s_u_law_fault) (defScope s_u_law_fault) .none kV36 dc36 pm36 an36 cd36 ct36), sl36⟩) (c36 : PySem.W.codeIn K cd36 "_law_fault" = true) (k36 : PySem.W.keepIn K (.ref f36) = true)
    {f37 : Addr} {od37 an37 : Option Addr} {sl37 : Array (Option Value)} {oc37 kV37 dc37 pm37 cd37 ct37 : Value} (a37 : PySem.W.nsIn K mainGlobals "_law_outcome" = some (some (.ref f37))) (l37 : K.lookup f37 = some ⟨oc37, od37, .func (PySem.W.fnOf "_law_outcome" "_law_outcome" (defArgs s_u_law_outcome) (defBody s_u_law_outcome) (defScope s_u_law_outcome) .none kV37 dc37 pm37 an37 cd37 ct37), sl37⟩) (c37 : PySem.W.codeIn K cd37 "_law_outcome" = true) (k37 : PySem.W.keepIn K (.ref f37) = true)
    {f38 : Addr} {od38 an38 : Option Addr} {sl38 : Array (Option Value)} {oc38 kV38 dc38 pm38  ct38 : Value} {cT38 PT38 : Addr} {eT38 : Value} {dT38 : Option Addr} {vT38 : Array Value} {sT38 : Array (Option Value)} (a38 : PySem.W.nsIn K mainGlobals "law" = some (some (.ref f38))) (l38 : K.lookup f38 = some ⟨oc38, od38, .func (PySem.W.fnOf "law" "law" (defArgs s_law) (defBody s_law) (defScope s_law) .none kV38 dc38 pm38 an38 (.ref cT38) ct38), sl38⟩) (c38 : PySem.W.codeIn K (.ref cT38) "law" = true) (k38 : PySem.W.keepIn K (.ref f38) = true)
    (u38 : K.lookup cT38 = some ⟨eT38, dT38, .fields vT38, sT38⟩) (v38 : vT38[11]? = some (.ref PT38)) (x38 : K.lookup PT38 = none) (r38 : ((PyProof.Rows.recsOf qq).any fun e => e.name == "law") = true)
    (ne34_35 : PT34 ≠ PT35)
    (ne34_38 : PT34 ≠ PT38)
    (ne35_38 : PT35 ≠ PT38)
    (z0 : PySem.W.nsIn K mainGlobals "ValueError" = some none)
    (z1 : PySem.W.nsIn K mainGlobals "all" = some none)
    (z2 : PySem.W.nsIn K mainGlobals "bool" = some none)
    (z3 : PySem.W.nsIn K mainGlobals "enumerate" = some none)
    (z4 : PySem.W.nsIn K mainGlobals "int" = some none)
    (z5 : PySem.W.nsIn K mainGlobals "isinstance" = some none)
    (z6 : PySem.W.nsIn K mainGlobals "len" = some none)
    (z7 : PySem.W.nsIn K mainGlobals "list" = some none)
    (z8 : PySem.W.nsIn K mainGlobals "min" = some none)
    (z9 : PySem.W.nsIn K mainGlobals "range" = some none)
    (z10 : PySem.W.nsIn K mainGlobals "repr" = some none)
    (z11 : PySem.W.nsIn K mainGlobals "set" = some none)
    (z12 : PySem.W.nsIn K mainGlobals "sorted" = some none)
    (z13 : PySem.W.nsIn K mainGlobals "str" = some none)
    (z14 : PySem.W.nsIn K mainGlobals "tuple" = some none)
    {t0 : Tok} (y0 : PySem.W.nsIn K mainGlobals "CODE_SIGNS" = some (some (.str ("0123456789abcdefghijklmnopqrstuvwxyz" : Str) t0)))
    {t1 : Tok} (y1 : PySem.W.nsIn K mainGlobals "MOST_CODE" = some (some (.int 5 t1)))
    {t2 : Tok} (y2 : PySem.W.nsIn K mainGlobals "MOST_NUMBERS" = some (some (.int 200 t2)))
    {t3 : Tok} (y3 : PySem.W.nsIn K mainGlobals "MOST_PAIRS" = some (some (.int 40 t3)))
    {t4 : Tok} (y4 : PySem.W.nsIn K mainGlobals "MOST_PHRASE" = some (some (.int 8 t4)))
    {t5 : Tok} (y5 : PySem.W.nsIn K mainGlobals "MOST_TEXT" = some (some (.int 200 t5)))
    (vV : PySem.W.findCls K (.type "ValueError") (.type "type") "__init__" = some (.val (.builtin "ValueError.__init__")))
    (gS : PySem.W.specialIn K (.builtin "object.__class__") "__get__" = some (some (.builtin "getset_descriptor.__get__"))) (gT : PySem.W.takesIn K (.builtin "object.__class__") = some true)
    {C0 : Addr} (A0 : PySem.W.nsIn K mainGlobals "BadAlphabet" = some (some (.ref C0))) (V0 : PySem.W.findIn K (.ref C0) "__getattribute__" = some (some (.builtin "BaseException.__getattribute__"))) (W0 : PySem.W.findIn K (.ref C0) "__getattr__" = some none) (Q0 : PySem.W.subIn K (.ref C0) (.type "BaseException") = some true) (R0 : PySem.W.typeIn K (.ref C0) = some (.type "type")) (H0 : PySem.W.hasDictIn K C0 = true) (ca0 : PySem.W.findIn K (.ref C0) "__class__" = some (some (.builtin "object.__class__"))) (mr0 : PySem.W.mroIn K C0 (.type "object") = some true)
    (B0 : PySem.W.findIn K (.ref C0) "part" = some none)
    {C1 : Addr} (A1 : PySem.W.nsIn K mainGlobals "BadBook" = some (some (.ref C1))) (V1 : PySem.W.findIn K (.ref C1) "__getattribute__" = some (some (.builtin "BaseException.__getattribute__"))) (W1 : PySem.W.findIn K (.ref C1) "__getattr__" = some none) (Q1 : PySem.W.subIn K (.ref C1) (.type "BaseException") = some true) (R1 : PySem.W.typeIn K (.ref C1) = some (.type "type")) (H1 : PySem.W.hasDictIn K C1 = true) (ca1 : PySem.W.findIn K (.ref C1) "__class__" = some (some (.builtin "object.__class__"))) (mr1 : PySem.W.mroIn K C1 (.type "object") = some true)
    (B1 : PySem.W.findIn K (.ref C1) "number" = some none)
    {I1 : Addr} {nm1 q1 : Str} {N1 : Addr} {bs1 : List Value} {sn1 : List Str} {sub1 : List Value} {abs1 : Bool} {col1 : Option Bool} {dd1 : Option Addr} {ux0_1 ux1_1 ux2_1 ux3_1 ux5_1 : Option Value}
    (X1 : K.lookup C1 = some (excClassObj nm1 q1 C1 N1 bs1 [.type "ValueError", .type "Exception", .type "BaseException", .type "object"] true sn1 sub1 abs1 col1 dd1 ux0_1 ux1_1 ux2_1 ux3_1 ux5_1 "ValueError.__new__")) (S1 : PySem.W.findIn K (.ref C1) "__setattr__" = some (some (.builtin "object.__setattr__"))) (P1 : PySem.W.keepIn K (.ref C1) = true)
    (J1 : PySem.W.findIn K (.ref C1) "__init__" = some (some (.ref I1))) (T1 : PySem.W.typeIn K (.ref I1) = some (.type "function"))
    {oi1 kj1 di1 pj1 ci1 ti1 : Value} {pi1 ai1 : Option Addr} {si1 : Array (Option Value)} (L1 : K.lookup I1 = some ⟨oi1, pi1, .func (PySem.W.fnOf "__init__" "BadBook.__init__" (defArgs s_cBadBook) (defBody s_cBadBook) (defScope s_cBadBook) .none kj1 di1 pj1 ai1 ci1 ti1), si1⟩) (E1 : PySem.W.codeIn K ci1 "BadBook.__init__" = true) (K1 : PySem.W.keepIn K (.ref I1) = true)
    {C2 : Addr} (A2 : PySem.W.nsIn K mainGlobals "BadPaper" = some (some (.ref C2))) (V2 : PySem.W.findIn K (.ref C2) "__getattribute__" = some (some (.builtin "BaseException.__getattribute__"))) (W2 : PySem.W.findIn K (.ref C2) "__getattr__" = some none) (Q2 : PySem.W.subIn K (.ref C2) (.type "BaseException") = some true) (R2 : PySem.W.typeIn K (.ref C2) = some (.type "type")) (H2 : PySem.W.hasDictIn K C2 = true) (ca2 : PySem.W.findIn K (.ref C2) "__class__" = some (some (.builtin "object.__class__"))) (mr2 : PySem.W.mroIn K C2 (.type "object") = some true)
    (B2 : PySem.W.findIn K (.ref C2) "part" = some none)
    {I2 : Addr} {nm2 q2 : Str} {N2 : Addr} {bs2 : List Value} {sn2 : List Str} {sub2 : List Value} {abs2 : Bool} {col2 : Option Bool} {dd2 : Option Addr} {ux0_2 ux1_2 ux2_2 ux3_2 ux5_2 : Option Value}
    (X2 : K.lookup C2 = some (excClassObj nm2 q2 C2 N2 bs2 [.type "ValueError", .type "Exception", .type "BaseException", .type "object"] true sn2 sub2 abs2 col2 dd2 ux0_2 ux1_2 ux2_2 ux3_2 ux5_2 "ValueError.__new__")) (S2 : PySem.W.findIn K (.ref C2) "__setattr__" = some (some (.builtin "object.__setattr__"))) (P2 : PySem.W.keepIn K (.ref C2) = true)
    (J2 : PySem.W.findIn K (.ref C2) "__init__" = some (some (.ref I2))) (T2 : PySem.W.typeIn K (.ref I2) = some (.type "function"))
    {oi2 kj2 di2 pj2 ci2 ti2 : Value} {pi2 ai2 : Option Addr} {si2 : Array (Option Value)} (L2 : K.lookup I2 = some ⟨oi2, pi2, .func (PySem.W.fnOf "__init__" "BadPaper.__init__" (defArgs s_cBadPaper) (defBody s_cBadPaper) (defScope s_cBadPaper) .none kj2 di2 pj2 ai2 ci2 ti2), si2⟩) (E2 : PySem.W.codeIn K ci2 "BadPaper.__init__" = true) (K2 : PySem.W.keepIn K (.ref I2) = true)
    {C3 : Addr} (A3 : PySem.W.nsIn K mainGlobals "BadRoad" = some (some (.ref C3))) (V3 : PySem.W.findIn K (.ref C3) "__getattribute__" = some (some (.builtin "BaseException.__getattribute__"))) (W3 : PySem.W.findIn K (.ref C3) "__getattr__" = some none) (Q3 : PySem.W.subIn K (.ref C3) (.type "BaseException") = some true) (R3 : PySem.W.typeIn K (.ref C3) = some (.type "type")) (H3 : PySem.W.hasDictIn K C3 = true) (ca3 : PySem.W.findIn K (.ref C3) "__class__" = some (some (.builtin "object.__class__"))) (mr3 : PySem.W.mroIn K C3 (.type "object") = some true)
    (B3 : PySem.W.findIn K (.ref C3) "number" = some none)
    {C4 : Addr} (A4 : PySem.W.nsIn K mainGlobals "Nothing" = some (some (.ref C4))) (V4 : PySem.W.findIn K (.ref C4) "__getattribute__" = some (some (.builtin "BaseException.__getattribute__"))) (W4 : PySem.W.findIn K (.ref C4) "__getattr__" = some none) (Q4 : PySem.W.subIn K (.ref C4) (.type "BaseException") = some true) (R4 : PySem.W.typeIn K (.ref C4) = some (.type "type")) (H4 : PySem.W.hasDictIn K C4 = true) (ca4 : PySem.W.findIn K (.ref C4) "__class__" = some (some (.builtin "object.__class__"))) (mr4 : PySem.W.mroIn K C4 (.type "object") = some true)
    {C5 : Addr} (A5 : PySem.W.nsIn K mainGlobals "OutOfPlace" = some (some (.ref C5))) (V5 : PySem.W.findIn K (.ref C5) "__getattribute__" = some (some (.builtin "BaseException.__getattribute__"))) (W5 : PySem.W.findIn K (.ref C5) "__getattr__" = some none) (Q5 : PySem.W.subIn K (.ref C5) (.type "BaseException") = some true) (R5 : PySem.W.typeIn K (.ref C5) = some (.type "type")) (H5 : PySem.W.hasDictIn K C5 = true) (ca5 : PySem.W.findIn K (.ref C5) "__class__" = some (some (.builtin "object.__class__"))) (mr5 : PySem.W.mroIn K C5 (.type "object") = some true)
    {I5 : Addr} {nm5 q5 : Str} {N5 : Addr} {bs5 : List Value} {sn5 : List Str} {sub5 : List Value} {abs5 : Bool} {col5 : Option Bool} {dd5 : Option Addr} {ux0_5 ux1_5 ux2_5 ux3_5 ux5_5 : Option Value}
    (X5 : K.lookup C5 = some (excClassObj nm5 q5 C5 N5 bs5 [.type "ValueError", .type "Exception", .type "BaseException", .type "object"] true sn5 sub5 abs5 col5 dd5 ux0_5 ux1_5 ux2_5 ux3_5 ux5_5 "ValueError.__new__")) (S5 : PySem.W.findIn K (.ref C5) "__setattr__" = some (some (.builtin "object.__setattr__"))) (P5 : PySem.W.keepIn K (.ref C5) = true)
    (J5 : PySem.W.findIn K (.ref C5) "__init__" = some (some (.ref I5))) (T5 : PySem.W.typeIn K (.ref I5) = some (.type "function"))
    {oi5 kj5 di5 pj5 ci5 ti5 : Value} {pi5 ai5 : Option Addr} {si5 : Array (Option Value)} (L5 : K.lookup I5 = some ⟨oi5, pi5, .func (PySem.W.fnOf "__init__" "OutOfPlace.__init__" (defArgs s_cOutOfPlace) (defBody s_cOutOfPlace) (defScope s_cOutOfPlace) .none kj5 di5 pj5 ai5 ci5 ti5), si5⟩) (E5 : PySem.W.codeIn K ci5 "OutOfPlace.__init__" = true) (K5 : PySem.W.keepIn K (.ref I5) = true)
    {C6 : Addr} (A6 : PySem.W.nsIn K mainGlobals "TooGreat" = some (some (.ref C6))) (V6 : PySem.W.findIn K (.ref C6) "__getattribute__" = some (some (.builtin "BaseException.__getattribute__"))) (W6 : PySem.W.findIn K (.ref C6) "__getattr__" = some none) (Q6 : PySem.W.subIn K (.ref C6) (.type "BaseException") = some true) (R6 : PySem.W.typeIn K (.ref C6) = some (.type "type")) (H6 : PySem.W.hasDictIn K C6 = true) (ca6 : PySem.W.findIn K (.ref C6) "__class__" = some (some (.builtin "object.__class__"))) (mr6 : PySem.W.mroIn K C6 (.type "object") = some true)
    (B6 : PySem.W.findIn K (.ref C6) "most" = some none)
    (D0_0 : PySem.W.subIn K (.ref C0) (.ref C0) = some true)
    (D0_1 : PySem.W.subIn K (.ref C0) (.ref C1) = some false)
    (D0_2 : PySem.W.subIn K (.ref C0) (.ref C2) = some false)
    (D0_3 : PySem.W.subIn K (.ref C0) (.ref C3) = some false)
    (D0_4 : PySem.W.subIn K (.ref C0) (.ref C4) = some false)
    (D0_5 : PySem.W.subIn K (.ref C0) (.ref C5) = some false)
    (D0_6 : PySem.W.subIn K (.ref C0) (.ref C6) = some false)
    (D1_0 : PySem.W.subIn K (.ref C1) (.ref C0) = some false)
    (D1_1 : PySem.W.subIn K (.ref C1) (.ref C1) = some true)
    (D1_2 : PySem.W.subIn K (.ref C1) (.ref C2) = some false)
    (D1_3 : PySem.W.subIn K (.ref C1) (.ref C3) = some false)
    (D1_4 : PySem.W.subIn K (.ref C1) (.ref C4) = some false)
    (D1_5 : PySem.W.subIn K (.ref C1) (.ref C5) = some false)
    (D1_6 : PySem.W.subIn K (.ref C1) (.ref C6) = some false)
    (D2_0 : PySem.W.subIn K (.ref C2) (.ref C0) = some false)
    (D2_1 : PySem.W.subIn K (.ref C2) (.ref C1) = some false)
    (D2_2 : PySem.W.subIn K (.ref C2) (.ref C2) = some true)
    (D2_3 : PySem.W.subIn K (.ref C2) (.ref C3) = some false)
    (D2_4 : PySem.W.subIn K (.ref C2) (.ref C4) = some false)
    (D2_5 : PySem.W.subIn K (.ref C2) (.ref C5) = some false)
    (D2_6 : PySem.W.subIn K (.ref C2) (.ref C6) = some false)
    (D3_0 : PySem.W.subIn K (.ref C3) (.ref C0) = some false)
    (D3_1 : PySem.W.subIn K (.ref C3) (.ref C1) = some false)
    (D3_2 : PySem.W.subIn K (.ref C3) (.ref C2) = some false)
    (D3_3 : PySem.W.subIn K (.ref C3) (.ref C3) = some true)
    (D3_4 : PySem.W.subIn K (.ref C3) (.ref C4) = some false)
    (D3_5 : PySem.W.subIn K (.ref C3) (.ref C5) = some false)
    (D3_6 : PySem.W.subIn K (.ref C3) (.ref C6) = some false)
    (D4_0 : PySem.W.subIn K (.ref C4) (.ref C0) = some false)
    (D4_1 : PySem.W.subIn K (.ref C4) (.ref C1) = some false)
    (D4_2 : PySem.W.subIn K (.ref C4) (.ref C2) = some false)
    (D4_3 : PySem.W.subIn K (.ref C4) (.ref C3) = some false)
    (D4_4 : PySem.W.subIn K (.ref C4) (.ref C4) = some true)
    (D4_5 : PySem.W.subIn K (.ref C4) (.ref C5) = some false)
    (D4_6 : PySem.W.subIn K (.ref C4) (.ref C6) = some false)
    (D5_0 : PySem.W.subIn K (.ref C5) (.ref C0) = some false)
    (D5_1 : PySem.W.subIn K (.ref C5) (.ref C1) = some false)
    (D5_2 : PySem.W.subIn K (.ref C5) (.ref C2) = some false)
    (D5_3 : PySem.W.subIn K (.ref C5) (.ref C3) = some false)
    (D5_4 : PySem.W.subIn K (.ref C5) (.ref C4) = some false)
    (D5_5 : PySem.W.subIn K (.ref C5) (.ref C5) = some true)
    (D5_6 : PySem.W.subIn K (.ref C5) (.ref C6) = some false)
    (D6_0 : PySem.W.subIn K (.ref C6) (.ref C0) = some false)
    (D6_1 : PySem.W.subIn K (.ref C6) (.ref C1) = some false)
    (D6_2 : PySem.W.subIn K (.ref C6) (.ref C2) = some false)
    (D6_3 : PySem.W.subIn K (.ref C6) (.ref C3) = some false)
    (D6_4 : PySem.W.subIn K (.ref C6) (.ref C4) = some false)
    (D6_5 : PySem.W.subIn K (.ref C6) (.ref C5) = some false)
    (D6_6 : PySem.W.subIn K (.ref C6) (.ref C6) = some true)
    (math : ∀ ns : List Int, ns.length ≤ 63 → w_law { nx := fun _ _ => False, rt := fun d _ => d = .bool true } ((startE n_law [.im (.list (dI ns))]).set 1 .st) 0) :
    ∃ (fd : FuncData) (cs : List (Addr × Addr)) (sp : Sp), CtOk K h cs ∧ (∀ (s : Shared) (v : Value), BindsTo s fd ⟨[v], []⟩ [("script", v)]) ∧ (∀ (T : Hp) (a : Addr) (ns : List Int), ns.length ≤ 63 → (∀ z ∈ ns, Builtin.Int.intBits z ≤ 1048576) → (∀ p ∈ cs, T p.2 = some (.tbl #[])) → SqL K T a (ns.map V.int) → (∀ p ∈ cs, p.2 ≠ a) → sp [.ref a] T (fun v _ => v = .bl true) fun _ _ _ => False) ∧
      ∀ base : Heap, K.In base → base.Ns mainGlobals mg → (∀ p ∈ cs, TabB base mg p.1 p.2) → FnG l.prog w K mg base CX0 14 fa fd ["script"] sp := by
  have e := hfa.symm.trans (PySem.W.mg_of X G a38)
  cases e
  have T : Md mg := ⟨PySem.W.mg_none_of X G z0, PySem.W.mg_none_of X G z1, PySem.W.mg_none_of X G z2, PySem.W.mg_none_of X G z3, PySem.W.mg_none_of X G z4, PySem.W.mg_none_of X G z5, PySem.W.mg_none_of X G z6, PySem.W.mg_none_of X G z7, PySem.W.mg_none_of X G z8, PySem.W.mg_none_of X G z9, PySem.W.mg_none_of X G z10, PySem.W.mg_none_of X G z11, PySem.W.mg_none_of X G z12, PySem.W.mg_none_of X G z13, PySem.W.mg_none_of X G z14, ⟨_, PySem.W.mg_of X G y0⟩, ⟨_, PySem.W.mg_of X G y1⟩, ⟨_, PySem.W.mg_of X G y2⟩, ⟨_, PySem.W.mg_of X G y3⟩, ⟨_, PySem.W.mg_of X G y4⟩, ⟨_, PySem.W.mg_of X G y5⟩⟩
  have F0 := fun_mk (st := sBegun) l0 c0 k0
  have F1 := fun_mk (st := sNext) l1 c1 k1
  have F2 := fun_mk (st := s_is_whole) l2 c2 k2
  have F3 := fun_mk (st := s_is_integer) l3 c3 k3
  have F4 := fun_mk (st := s_is_tuple) l4 c4 k4
  have F5 := fun_mk (st := s_is_word) l5 c5 k5
  have F6 := fun_mk (st := s_is_short_word) l6 c6 k6
  have F7 := fun_mk (st := s_is_text) l7 c7 k7
  have F8 := fun_mk (st := s_is_ascending) l8 c8 k8
  have F9 := fun_mk (st := s_need_text) l9 c9 k9
  have F10 := fun_mk (st := s_is_pair) l10 c10 k10
  have F11 := fun_mk (st := s_need_book) l11 c11 k11
  have F12 := fun_mk (st := s_u_telling_to_end) l12 c12 k12
  have F13 := fun_mk (st := s_least_cost) l13 c13 k13
  have F14 := fun_mk (st := s_telling) l14 c14 k14
  have F15 := fun_mk (st := s_many_tellings) l15 c15 k15
  have F16 := fun_mk (st := s_is_telling) l16 c16 k16
  have F17 := fun_mk (st := s_sent) l17 c17 k17
  have F18 := fun_mk (st := s_cost_paper) l18 c18 k18
  have F19 := fun_mk (st := s_check_cost) l19 c19 k19
  have F20 := fun_mk (st := s_reads) l20 c20 k20
  have F21 := fun_mk (st := s_many_reads) l21 c21 k21
  have F22 := fun_mk (st := s_u_is_string) l22 c22 k22
  have F23 := fun_mk (st := s_paper_word) l23 c23 k23
  have F24 := fun_mk (st := s_is_clear) l24 c24 k24
  have F25 := fun_mk (st := s_clear_paper) l25 c25 k25
  have F26 := fun_mk (st := s_check_clear) l26 c26 k26
  have F27 := fun_mk (st := s_u_law_of) l27 c27 k27
  have F28 := fun_mk (st := s_u_law_odds) l28 c28 k28
  have F29 := fun_mk (st := s_u_law_bent) l29 c29 k29
  have F30 := fun_mk (st := s_u_law_signs) l30 c30 k30
  have F31 := fun_mk (st := s_u_law_book) l31 c31 k31
  have F32 := fun_mk (st := s_u_law_is_word) l32 c32 k32
  have F33 := fun_mk (st := s_u_law_due) l33 c33 k33
  have F34 := fun_mk (st := s_u_law_all) l34 c34 k34
  have F35 := fun_mk (st := s_u_law_rest) l35 c35 k35
  have F36 := fun_mk (st := s_u_law_fault) l36 c36 k36
  have F37 := fun_mk (st := s_u_law_outcome) l37 c37 k37
  have F38 := fun_mk (st := s_law) l38 c38 k38
  have b0 := F0.binds (ps := ["script"]) fun _ _ _ _ _ _ us hl => match us, hl with | [_], _ => rfl
  have b1 := F1.binds (ps := ["m", "total"]) fun _ _ _ _ _ _ us hl => match us, hl with | [_, _], _ => rfl
  have b2 := F2.binds (ps := ["thing"]) fun _ _ _ _ _ _ us hl => match us, hl with | [_], _ => rfl
  have b3 := F3.binds (ps := ["thing", "least", "most"]) fun _ _ _ _ _ _ us hl => match us, hl with | [_, _, _], _ => rfl
  have b4 := F4.binds (ps := ["thing", "least", "most"]) fun _ _ _ _ _ _ us hl => match us, hl with | [_, _, _], _ => rfl
  have b5 := F5.binds (ps := ["thing", "signs"]) fun _ _ _ _ _ _ us hl => match us, hl with | [_, _], _ => rfl
  have b6 := F6.binds (ps := ["thing", "signs", "most"]) fun _ _ _ _ _ _ us hl => match us, hl with | [_, _, _], _ => rfl
  have b7 := F7.binds (ps := ["thing", "signs", "most"]) fun _ _ _ _ _ _ us hl => match us, hl with | [_, _, _], _ => rfl
  have b8 := F8.binds (ps := ["row"]) fun _ _ _ _ _ _ us hl => match us, hl with | [_], _ => rfl
  have b9 := F9.binds (ps := ["thing", "most", "name"]) fun _ _ _ _ _ _ us hl => match us, hl with | [_, _, _], _ => rfl
  have b10 := F10.binds (ps := ["thing"]) fun _ _ _ _ _ _ us hl => match us, hl with | [_], _ => rfl
  have b11 := F11.binds (ps := ["thing"]) fun _ _ _ _ _ _ us hl => match us, hl with | [_], _ => rfl
  have b12 := F12.binds (ps := ["book", "lasts"]) fun _ _ _ _ _ _ us hl => match us, hl with | [_, _], _ => rfl
  have b13 := F13.binds (ps := ["book", "text"]) fun _ _ _ _ _ _ us hl => match us, hl with | [_, _], _ => rfl
  have b14 := F14.binds (ps := ["book", "text"]) fun _ _ _ _ _ _ us hl => match us, hl with | [_, _], _ => rfl
  have b15 := F15.binds (ps := ["book", "text"]) fun _ _ _ _ _ _ us hl => match us, hl with | [_, _], _ => rfl
  have b16 := F16.binds (ps := ["book", "thing"]) fun _ _ _ _ _ _ us hl => match us, hl with | [_, _], _ => rfl
  have b17 := F17.binds (ps := ["book", "telling"]) fun _ _ _ _ _ _ us hl => match us, hl with | [_, _], _ => rfl
  have b18 := F18.binds (ps := ["book", "text"]) fun _ _ _ _ _ _ us hl => match us, hl with | [_, _], _ => rfl
  have b19 := F19.binds (ps := ["book", "text", "paper"]) fun _ _ _ _ _ _ us hl => match us, hl with | [_, _, _], _ => rfl
  have b20 := F20.binds (ps := ["book", "row"]) fun _ _ _ _ _ _ us hl => match us, hl with | [_, _], _ => rfl
  have b21 := F21.binds (ps := ["book", "row"]) fun _ _ _ _ _ _ us hl => match us, hl with | [_, _], _ => rfl
  have b22 := F22.binds (ps := ["thing", "string"]) fun _ _ _ _ _ _ us hl => match us, hl with | [_, _], _ => rfl
  have b23 := F23.binds (ps := ["paper", "triple_word", "pair_word"]) fun _ _ _ _ _ _ us hl => match us, hl with | [_, _, _], _ => rfl
  have b24 := F24.binds (ps := ["book"]) fun _ _ _ _ _ _ us hl => match us, hl with | [_], _ => rfl
  have b25 := F25.binds (ps := ["book"]) fun _ _ _ _ _ _ us hl => match us, hl with | [_], _ => rfl
  have b26 := F26.binds (ps := ["book", "paper"]) fun _ _ _ _ _ _ us hl => match us, hl with | [_, _], _ => rfl
  have b27 := F27.binds (ps := ["m", "some"]) fun _ _ _ _ _ _ us hl => match us, hl with | [_, _], _ => rfl
  have b28 := F28.binds (ps := []) fun _ _ _ _ _ _ us hl => match us, hl with | [], _ => rfl
  have b29 := F29.binds (ps := ["m", "thing", "odd"]) fun _ _ _ _ _ _ us hl => match us, hl with | [_, _, _], _ => rfl
  have b30 := F30.binds (ps := []) fun _ _ _ _ _ _ us hl => match us, hl with | [], _ => rfl
  have b31 := F31.binds (ps := ["m", "most"]) fun _ _ _ _ _ _ us hl => match us, hl with | [_, _], _ => rfl
  have b32 := F32.binds (ps := ["thing", "most"]) fun _ _ _ _ _ _ us hl => match us, hl with | [_, _], _ => rfl
  have b33 := F33.binds (ps := ["thing"]) fun _ _ _ _ _ _ us hl => match us, hl with | [_], _ => rfl
  have b34 := F34.binds (ps := ["notes", "text"]) fun _ _ _ _ _ _ us hl => match us, hl with | [_, _], _ => rfl
  have b35 := F35.binds (ps := ["notes"]) fun _ _ _ _ _ _ us hl => match us, hl with | [_], _ => rfl
  have b36 := F36.binds (ps := ["e"]) fun _ _ _ _ _ _ us hl => match us, hl with | [_], _ => rfl
  have b37 := F37.binds (ps := ["call"]) fun _ _ _ _ _ _ us hl => match us, hl with | [_], _ => rfl
  have G2 := fun_mk (st := s_cBadPaper) L2 E2 K2
  have O2 := G2.binds (ps := ["self", "part"]) fun _ _ _ _ _ _ us hl => match us, hl with | [_, _], _ => rfl
  have M2 : OexC K C2 := ⟨⟨_, _, _, _, _, _, _, _, _, _, _, _, _, _, _, X2, by decide +kernel⟩, S2, Q2, R2, P2⟩
  have G5 := fun_mk (st := s_cOutOfPlace) L5 E5 K5
  have O5 := G5.binds (ps := ["self", "text"]) fun _ _ _ _ _ _ us hl => match us, hl with | [_, _], _ => rfl
  have M5 : OexC K C5 := ⟨⟨_, _, _, _, _, _, _, _, _, _, _, _, _, _, _, X5, by decide +kernel⟩, S5, Q5, R5, P5⟩
  have G1 := fun_mk (st := s_cBadBook) L1 E1 K1
  have O1 := G1.binds (ps := ["self", "number"]) fun _ _ _ _ _ _ us hl => match us, hl with | [_, _], _ => rfl
  have M1 : OexC K C1 := ⟨⟨_, _, _, _, _, _, _, _, _, _, _, _, _, _, _, X1, by decide +kernel⟩, S1, Q1, R1, P1⟩
  have kc0 : Kc K C0 := ⟨V0, W0, Q0, R0, H0, ca0, mr0⟩
  have kc1 : Kc K C1 := ⟨V1, W1, Q1, R1, H1, ca1, mr1⟩
  have kc2 : Kc K C2 := ⟨V2, W2, Q2, R2, H2, ca2, mr2⟩
  have kc3 : Kc K C3 := ⟨V3, W3, Q3, R3, H3, ca3, mr3⟩
  have kc4 : Kc K C4 := ⟨V4, W4, Q4, R4, H4, ca4, mr4⟩
  have kc5 : Kc K C5 := ⟨V5, W5, Q5, R5, H5, ca5, mr5⟩
  have kc6 : Kc K C6 := ⟨V6, W6, Q6, R6, H6, ca6, mr6⟩
  obtain ⟨ext, vg⟩ : ExT K mg tnO ∧ VgOk K mg tnO := by
    refine classes_ok (ps := [("BadAlphabet", C0), ("BadBook", C1), ("BadPaper", C2), ("BadRoad", C3), ("Nothing", C4), ("OutOfPlace", C5), ("TooGreat", C6)]) rfl (by decide) ⟨gS, gT⟩ ?_ ?_ ?_
    · intro p hp; simp only [List.mem_cons, List.not_mem_nil, or_false] at hp; rcases hp with rfl | rfl | rfl | rfl | rfl | rfl | rfl
      · exact PySem.W.mg_of X G A0
      · exact PySem.W.mg_of X G A1
      · exact PySem.W.mg_of X G A2
      · exact PySem.W.mg_of X G A3
      · exact PySem.W.mg_of X G A4
      · exact PySem.W.mg_of X G A5
      · exact PySem.W.mg_of X G A6
    · intro p hp; simp only [List.mem_cons, List.not_mem_nil, or_false] at hp; rcases hp with rfl | rfl | rfl | rfl | rfl | rfl | rfl
      · exact kc0
      · exact kc1
      · exact kc2
      · exact kc3
      · exact kc4
      · exact kc5
      · exact kc6
    · intro p hp p' hp'; simp only [List.mem_cons, List.not_mem_nil, or_false] at hp hp'; rcases hp with rfl | rfl | rfl | rfl | rfl | rfl | rfl <;> rcases hp' with rfl | rfl | rfl | rfl | rfl | rfl | rfl
      · exact D0_0
      · exact D0_1
      · exact D0_2
      · exact D0_3
      · exact D0_4
      · exact D0_5
      · exact D0_6
      · exact D1_0
      · exact D1_1
      · exact D1_2
      · exact D1_3
      · exact D1_4
      · exact D1_5
      · exact D1_6
      · exact D2_0
      · exact D2_1
      · exact D2_2
      · exact D2_3
      · exact D2_4
      · exact D2_5
      · exact D2_6
      · exact D3_0
      · exact D3_1
      · exact D3_2
      · exact D3_3
      · exact D3_4
      · exact D3_5
      · exact D3_6
      · exact D4_0
      · exact D4_1
      · exact D4_2
      · exact D4_3
      · exact D4_4
      · exact D4_5
      · exact D4_6
      · exact D5_0
      · exact D5_1
      · exact D5_2
      · exact D5_3
      · exact D5_4
      · exact D5_5
      · exact D5_6
      · exact D6_0
      · exact D6_1
      · exact D6_2
      · exact D6_3
      · exact D6_4
      · exact D6_5
      · exact D6_6
  have v_BadAlphabet : VfOk K mg "BadAlphabet" "part" := ⟨fun C e => by rw [PySem.W.mg_of X G A0] at e; cases e; exact ⟨kc0.xf, B0⟩⟩
  have v_BadBook : VfOk K mg "BadBook" "number" := ⟨fun C e => by rw [PySem.W.mg_of X G A1] at e; cases e; exact ⟨kc1.xf, B1⟩⟩
  have v_BadRoad : VfOk K mg "BadRoad" "number" := ⟨fun C e => by rw [PySem.W.mg_of X G A3] at e; cases e; exact ⟨kc3.xf, B3⟩⟩
  have v_BadPaper : VfOk K mg "BadPaper" "part" := ⟨fun C e => by rw [PySem.W.mg_of X G A2] at e; cases e; exact ⟨kc2.xf, B2⟩⟩
  have v_TooGreat : VfOk K mg "TooGreat" "most" := ⟨fun C e => by rw [PySem.W.mg_of X G A6] at e; cases e; exact ⟨kc6.xf, B6⟩⟩
  have t34x := tabs "_law_all" r34 _ _ _ _ _ _ _ _ _ (PySem.W.mg_of X G a34) l34 rfl rfl u34 v34
  have t35x := tabs "_law_rest" r35 _ _ _ _ _ _ _ _ _ (PySem.W.mg_of X G a35) l35 rfl rfl u35 v35
  have t38x := tabs "law" r38 _ _ _ _ _ _ _ _ _ (PySem.W.mg_of X G a38) l38 rfl rfl u38 v38
  have ct : CtOk K h [(cT34, PT34), (cT35, PT35), (cT38, PT38)] := by
    refine ⟨?_, ?_, ?_⟩
    · intro p hp; simp only [List.mem_cons, List.not_mem_nil, or_false] at hp; rcases hp with rfl | rfl | rfl
      · exact t34x.1
      · exact t35x.1
      · exact t38x.1
    · intro p hp; simp only [List.mem_cons, List.not_mem_nil, or_false] at hp; rcases hp with rfl | rfl | rfl
      · exact x34
      · exact x35
      · exact x38
    · intro p hp; simp only [List.mem_cons, List.not_mem_nil, or_false] at hp; rcases hp with rfl | rfl | rfl
      · exact t34x.2
      · exact t35x.2
      · exact t38x.2
  refine ⟨PySem.W.fnOf "law" "law" (defArgs s_law) (defBody s_law) (defScope s_law) .none kV38 dc38 pm38 an38 (.ref cT38) ct38, [(cT34, PT34), (cT35, PT35), (cT38, PT38)], lawSpT K [(cT34, PT34), (cT35, PT35), (cT38, PT38)], ct, fun s v => .of_eq rfl, fun T a ns hl _ h1 h2 h3 => law_startT hl h1 h2 h3, fun base _ _ tbs => ?_⟩
  have x_BadPaper : XcOk l.prog w K mg base 1 "BadPaper" (some "part") := ⟨_, _, _, _, PySem.W.mg_of X G A2, M2, J2, T2, O2, fun g e => by cases e; exact ⟨B2, ⟨V2, W2, Q2, H2⟩⟩, i_BadPaper T vV G2⟩
  have x_OutOfPlace : XcOk l.prog w K mg base 1 "OutOfPlace" none := ⟨_, _, _, _, PySem.W.mg_of X G A5, M5, J5, T5, O5, fun g e => (nomatch e), i_OutOfPlace T vV G5⟩
  have x_BadBook : XcOk l.prog w K mg base 1 "BadBook" (some "number") := ⟨_, _, _, _, PySem.W.mg_of X G A1, M1, J1, T1, O1, fun g e => by cases e; exact ⟨B1, ⟨V1, W1, Q1, H1⟩⟩, i_BadBook T vV G1⟩
  have tb0 : TabB base mg cT34 PT34 := tbs (cT34, PT34) (by simp)
  have hm0 : (PT34, qL "_law_all") ∈ [(PT34, qL "_law_all"), (PT35, qL "_law_rest"), (PT38, qL "law")] := .head _
  have hu0 : ∀ p ∈ [(PT34, qL "_law_all"), (PT35, qL "_law_rest"), (PT38, qL "law")], p.1 = PT34 → p.2 = qL "_law_all" := by
    intro p hp e; simp only [List.mem_cons, List.not_mem_nil, or_false] at hp; rcases hp with rfl | rfl | rfl
    · rfl
    · exact absurd e.symm ne34_35
    · exact absurd e.symm ne34_38
  have tb1 : TabB base mg cT35 PT35 := tbs (cT35, PT35) (by simp)
  have hm1 : (PT35, qL "_law_rest") ∈ [(PT34, qL "_law_all"), (PT35, qL "_law_rest"), (PT38, qL "law")] := .tail _ (.head _)
  have hu1 : ∀ p ∈ [(PT34, qL "_law_all"), (PT35, qL "_law_rest"), (PT38, qL "law")], p.1 = PT35 → p.2 = qL "_law_rest" := by
    intro p hp e; simp only [List.mem_cons, List.not_mem_nil, or_false] at hp; rcases hp with rfl | rfl | rfl
    · exact absurd e ne34_35
    · rfl
    · exact absurd e.symm ne35_38
  have tb2 : TabB base mg cT38 PT38 := tbs (cT38, PT38) (by simp)
  have hm2 : (PT38, qL "law") ∈ [(PT34, qL "_law_all"), (PT35, qL "_law_rest"), (PT38, qL "law")] := .tail _ (.tail _ (.head _))
  have hu2 : ∀ p ∈ [(PT34, qL "_law_all"), (PT35, qL "_law_rest"), (PT38, qL "law")], p.1 = PT38 → p.2 = qL "law" := by
    intro p hp e; simp only [List.mem_cons, List.not_mem_nil, or_false] at hp; rcases hp with rfl | rfl | rfl
    · exact absurd e ne34_38
    · exact absurd e ne35_38
    · rfl
  have hT : ∀ p ∈ [(PT34, qL "_law_all"), (PT35, qL "_law_rest"), (PT38, qL "law")], ∃ c, (c, p.1) ∈ [(cT34, PT34), (cT35, PT35), (cT38, PT38)] := by
    intro p hp; simp only [List.mem_cons, List.not_mem_nil, or_false] at hp; rcases hp with rfl | rfl | rfl
    · exact ⟨cT34, by simp⟩
    · exact ⟨cT35, by simp⟩
    · exact ⟨cT38, by simp⟩
  have c_begun : CalG l.prog w K mg base 1 "_law_begun" (begSp K) := ⟨_, _, _, fn_begun T.b_list F0, PySem.W.mg_of X G a0, k0, b0⟩
  have c_u_law_next : CalG l.prog w K mg base 1 "_law_next" (fnSp MD K nextW) := ⟨_, _, _, fn_next ⟨T.b_int, T.b_len⟩ F1, PySem.W.mg_of X G a1, k1, b1⟩
  have c_is_whole : CalG l.prog w K mg base 1 "is_whole" (fnSp MD K f_is_whole) := ⟨_, _, _, g_is_whole T  F2, PySem.W.mg_of X G a2, k2, b2⟩
  have c_is_integer : CalG l.prog w K mg base 2 "is_integer" (fnSp MD K f_is_integer) := ⟨_, _, _, g_is_integer T c_is_whole F3, PySem.W.mg_of X G a3, k3, b3⟩
  have c_is_tuple : CalG l.prog w K mg base 1 "is_tuple" (fnSp MD K f_is_tuple) := ⟨_, _, _, g_is_tuple T  F4, PySem.W.mg_of X G a4, k4, b4⟩
  have c_is_word : CalG l.prog w K mg base 1 "is_word" (fnSp MD K f_is_word) := ⟨_, _, _, g_is_word T  F5, PySem.W.mg_of X G a5, k5, b5⟩
  have c_is_short_word : CalG l.prog w K mg base 2 "is_short_word" (fnSp MD K f_is_short_word) := ⟨_, _, _, g_is_short_word T c_is_word F6, PySem.W.mg_of X G a6, k6, b6⟩
  have c_is_text : CalG l.prog w K mg base 1 "is_text" (fnSp MD K f_is_text) := ⟨_, _, _, g_is_text T  F7, PySem.W.mg_of X G a7, k7, b7⟩
  have c_is_ascending : CalG l.prog w K mg base 1 "is_ascending" (fnSp MD K f_is_ascending) := ⟨_, _, _, g_is_ascending T  F8, PySem.W.mg_of X G a8, k8, b8⟩
  have c_need_text : CalX l.prog w K mg base 3 "need_text" (fnSpX MD K mg f_need_text) := ⟨_, _, _, g_need_text T c_is_text x_OutOfPlace F9, PySem.W.mg_of X G a9, k9, b9⟩
  have c_is_pair : CalG l.prog w K mg base 3 "is_pair" (fnSp MD K f_is_pair) := ⟨_, _, _, g_is_pair T c_is_tuple c_is_short_word F10, PySem.W.mg_of X G a10, k10, b10⟩
  have c_need_book : CalX l.prog w K mg base 4 "need_book" (fnSpX MD K mg f_need_book) := ⟨_, _, _, g_need_book T c_is_tuple c_is_pair x_BadBook F11, PySem.W.mg_of X G a11, k11, b11⟩
  have c_u_telling_to_end : CalG l.prog w K mg base 1 "_telling_to_end" (fnSp MD K f_u_telling_to_end) := ⟨_, _, _, g_u_telling_to_end T  F12, PySem.W.mg_of X G a12, k12, b12⟩
  have c_least_cost : CalX l.prog w K mg base 5 "least_cost" (fnSpX MD K mg f_least_cost) := ⟨_, _, _, g_least_cost T c_need_book c_need_text F13, PySem.W.mg_of X G a13, k13, b13⟩
  have c_telling : CalX l.prog w K mg base 5 "telling" (fnSpX MD K mg f_telling) := ⟨_, _, _, g_telling T c_need_book c_need_text F14, PySem.W.mg_of X G a14, k14, b14⟩
  have c_many_tellings : CalX l.prog w K mg base 5 "many_tellings" (fnSpX MD K mg f_many_tellings) := ⟨_, _, _, g_many_tellings T c_need_book c_need_text F15, PySem.W.mg_of X G a15, k15, b15⟩
  have c_is_telling : CalG l.prog w K mg base 3 "is_telling" (fnSp MD K f_is_telling) := ⟨_, _, _, g_is_telling T c_is_tuple c_is_integer F16, PySem.W.mg_of X G a16, k16, b16⟩
  have c_sent : CalX l.prog w K mg base 5 "sent" (fnSpX MD K mg f_sent) := ⟨_, _, _, g_sent T c_need_book c_is_telling x_OutOfPlace F17, PySem.W.mg_of X G a17, k17, b17⟩
  have c_cost_paper : CalX l.prog w K mg base 5 "cost_paper" (fnSpX MD K mg f_cost_paper) := ⟨_, _, _, g_cost_paper T c_need_book c_need_text F18, PySem.W.mg_of X G a18, k18, b18⟩
  have c_check_cost : CalX l.prog w K mg base 5 "check_cost" (fnSpX MD K mg f_check_cost) := ⟨_, _, _, g_check_cost T c_need_book c_need_text F19, PySem.W.mg_of X G a19, k19, b19⟩
  have c_reads : CalX l.prog w K mg base 5 "reads" (fnSpX MD K mg f_reads) := ⟨_, _, _, g_reads T c_need_book c_need_text F20, PySem.W.mg_of X G a20, k20, b20⟩
  have c_many_reads : CalX l.prog w K mg base 5 "many_reads" (fnSpX MD K mg f_many_reads) := ⟨_, _, _, g_many_reads T c_need_book c_need_text F21, PySem.W.mg_of X G a21, k21, b21⟩
  have c_u_is_string : CalG l.prog w K mg base 1 "_is_string" (fnSp MD K f_u_is_string) := ⟨_, _, _, g_u_is_string T  F22, PySem.W.mg_of X G a22, k22, b22⟩
  have c_paper_word : CalX l.prog w K mg base 3 "paper_word" (fnSpX MD K mg f_paper_word) := ⟨_, _, _, g_paper_word T c_u_is_string c_is_tuple x_BadPaper F23, PySem.W.mg_of X G a23, k23, b23⟩
  have c_is_clear : CalX l.prog w K mg base 5 "is_clear" (fnSpX MD K mg f_is_clear) := ⟨_, _, _, g_is_clear T c_need_book F24, PySem.W.mg_of X G a24, k24, b24⟩
  have c_clear_paper : CalX l.prog w K mg base 5 "clear_paper" (fnSpX MD K mg f_clear_paper) := ⟨_, _, _, g_clear_paper T c_need_book F25, PySem.W.mg_of X G a25, k25, b25⟩
  have c_check_clear : CalX l.prog w K mg base 5 "check_clear" (fnSpX MD K mg f_check_clear) := ⟨_, _, _, g_check_clear T c_need_book F26, PySem.W.mg_of X G a26, k26, b26⟩
  have c_u_law_of : CalG l.prog w K mg base 2 "_law_of" (fnSp MD K f_u_law_of) := ⟨_, _, _, g_u_law_of T c_u_law_next F27, PySem.W.mg_of X G a27, k27, b27⟩
  have c_u_law_odds : CalG l.prog w K mg base 1 "_law_odds" (fnSp MD K f_u_law_odds) := ⟨_, _, _, g_u_law_odds T  F28, PySem.W.mg_of X G a28, k28, b28⟩
  have c_u_law_bent : CalG l.prog w K mg base 13 "_law_bent" (fnSp MD K f_u_law_bent) := gN_u_law_bent T c_u_law_next c_u_law_of F29 (PySem.W.mg_of X G a29) k29 b29 10
  have c_u_law_signs : CalG l.prog w K mg base 1 "_law_signs" (fnSp MD K f_u_law_signs) := ⟨_, _, _, g_u_law_signs T  F30, PySem.W.mg_of X G a30, k30, b30⟩
  have c_u_law_book : CalG l.prog w K mg base 3 "_law_book" (fnSp MD K f_u_law_book) := ⟨_, _, _, g_u_law_book T c_u_law_of c_u_law_next F31, PySem.W.mg_of X G a31, k31, b31⟩
  have c_u_law_is_word : CalG l.prog w K mg base 2 "_law_is_word" (fnSp MD K f_u_law_is_word) := ⟨_, _, _, g_u_law_is_word T c_u_law_signs F32, PySem.W.mg_of X G a32, k32, b32⟩
  have c_u_law_due : CalG l.prog w K mg base 3 "_law_due" (fnSp MD K f_u_law_due) := ⟨_, _, _, g_u_law_due T c_u_law_is_word F33, PySem.W.mg_of X G a33, k33, b33⟩
  have c_fault : CalG l.prog w K mg base 1 "_law_fault" (faultSp (MT MD [(PT34, qL "_law_all"), (PT35, qL "_law_rest"), (PT38, qL "law")]) K mg tnO rsO) := ⟨_, _, _, g_u_law_fault T vg v_BadAlphabet v_BadBook v_BadRoad v_BadPaper v_TooGreat F36, PySem.W.mg_of X G a36, k36, b36⟩
  have c_out : OutC l.prog w K mg base 6 "_law_outcome" (MT MD [(PT34, qL "_law_all"), (PT35, qL "_law_rest"), (PT38, qL "law")]) tnO rsO := g_u_law_outcome T c_fault ext (PySem.W.mg_of X G a37) k37 l37 c37 b37
  have c_u_law_all : CalG l.prog w K mg base 8 "_law_all" (fnSp (MT MD [(PT34, qL "_law_all"), (PT35, qL "_law_rest"), (PT38, qL "law")]) K f_u_law_all) := ⟨_, _, _, g_u_law_all T c_least_cost.mt c_telling.mt c_many_tellings.mt c_cost_paper.mt c_check_cost.mt c_reads.mt c_many_reads.mt c_out ext tb0 hm0 hu0 rfl F34, PySem.W.mg_of X G a34, k34, b34⟩
  have c_u_law_rest : CalG l.prog w K mg base 8 "_law_rest" (fnSp (MT MD [(PT34, qL "_law_all"), (PT35, qL "_law_rest"), (PT38, qL "law")]) K f_u_law_rest) := ⟨_, _, _, g_u_law_rest T c_is_clear.mt c_sent.mt c_clear_paper.mt c_check_clear.mt c_out ext tb1 hm1 hu1 rfl F35, PySem.W.mg_of X G a35, k35, b35⟩
  exact g_law T c_begun c_u_law_book.mt c_u_law_bent.mt c_u_law_odds.mt c_u_law_next.mt c_u_law_of.mt c_u_law_due.mt c_need_book.mt c_u_law_all c_u_law_rest c_sent.mt c_out ext tb2 hm2 hu2 rfl F38 hT math
end Pf

namespace Pf
open PySem L2 HW LamX
def x_is_whole : XFn := xDef 1 n_is_whole (xRet (xAndV (xF (isiD "int") (xLook 0)) (xNotV (xF (isiD "bool") (xLook 0)))))
theorem k_is_whole : RfF x_is_whole f_is_whole := k_def (k_ret (k_andV (k_f k_look) (k_notV (k_f k_look))))
def x_is_integer : XFn := xDef 3 n_is_integer (xRet (xAndV (xCall x_is_whole (xgIm (xVar 0) xgNil)) (xChain leAD leAD (xLook 1) (xLook 0) (xLook 2))))
theorem k_is_integer : RfF x_is_integer f_is_integer := k_def (k_ret (k_andV (k_call k_is_whole (k_gim k_var k_gnil)) (k_chain k_look k_look k_look)))
def x_is_tuple : XFn := xDef 3 n_is_tuple (xRet (xAndV (xF (isiD "tuple") (xLook 0)) (xChain leAD leAD (xLook 1) (xF lenD (xLook 0)) (xLook 2))))
theorem k_is_tuple : RfF x_is_tuple f_is_tuple := k_def (k_ret (k_andV (k_f k_look) (k_chain k_look (k_f k_look) k_look)))
def x_is_word : XFn := xDef 2 n_is_word (xRet (xAndV (xF (isiD "str") (xLook 0)) (xAndV (xOp neD (xLook 0) (xC (.str ""))) (xOp eqD (xMS scD (xLook 0) (xLook 1)) (xC (.str ""))))))
theorem k_is_word : RfF x_is_word f_is_word := k_def (k_ret (k_andV (k_f k_look) (k_andV (k_op k_look k_c) (k_op (k_ms k_look k_look) k_c))))
def x_is_short_word : XFn := xDef 3 n_is_short_word (xRet (xAndV (xCall x_is_word (xgIm (xVar 0) (xgIm (xVar 1) xgNil))) (xOp leAD (xF lenD (xLook 0)) (xLook 2))))
theorem k_is_short_word : RfF x_is_short_word f_is_short_word := k_def (k_ret (k_andV (k_call k_is_word (k_gim k_var (k_gim k_var k_gnil))) (k_op (k_f k_look) k_look)))
def x_is_text : XFn := xDef 3 n_is_text (xRet (xAndV (xF (isiD "str") (xLook 0)) (xAndV (xOp leAD (xF lenD (xLook 0)) (xLook 2)) (xOp eqD (xMS scD (xLook 0) (xLook 1)) (xC (.str ""))))))
theorem k_is_text : RfF x_is_text f_is_text := k_def (k_ret (k_andV (k_f k_look) (k_andV (k_op (k_f k_look) k_look) (k_op (k_ms k_look k_look) k_c))))
def x_is_ascending : XFn := xDef 1 n_is_ascending (xRet (xAndV (xOp eqD (xF sortPD (xLook 0)) (xList (xLook 0))) (xOp eqD (xF lenSetD (xLook 0)) (xF lenD (xLook 0)))))
theorem k_is_ascending : RfF x_is_ascending f_is_ascending := k_def (k_ret (k_andV (k_op (k_f k_look) (k_list k_look)) (k_op (k_f k_look) (k_f k_look))))
def x_need_text : XFn := xDef 3 n_need_text (xIf (xNot (xTru (xCall x_is_text (xgIm (xVar 0) (xgIm (xC (.str "0123456789abcdefghijklmnopqrstuvwxyz")) (xgIm (xVar 1) xgNil)))))) (xRaise "OutOfPlace" none (xJoin [(xF fmtD (xLook 2)), (xC (.str " is no string of at most ")), (xF fmtD (xLook 1)), (xC (.str " letters and figures"))])) xNext)
theorem k_need_text : RfX x_need_text f_need_text := k_defX fun R => (k_ifS (k_not (k_tru (k_call k_is_text (k_gim k_var (k_gim k_c (k_gim k_var k_gnil)))))) (k_raise (k_join (.cons (k_f k_look) (.cons k_c (.cons (k_f k_look) (.cons k_c .nil)))))) k_next)
def x_is_pair : XFn := xDef 1 n_is_pair (xSeq (xIf (xNot (xTru (xCall x_is_tuple (xgIm (xVar 0) (xgIm (xC (.int 2)) (xgIm (xC (.int 2)) xgNil)))))) (xRet (xC (.bool false))) xNext) (xRet (xAndV (xCall x_is_short_word (xgIm (xOp ixD (xLook 0) (xC (.int 0))) (xgIm (xC (.str "0123456789abcdefghijklmnopqrstuvwxyz")) (xgIm (xC (.int 8)) xgNil)))) (xCall x_is_short_word (xgIm (xOp ixD (xLook 0) (xC (.int 1))) (xgIm (xC (.str "0123456789abcdefghijklmnopqrstuvwxyz")) (xgIm (xC (.int 5)) xgNil)))))))
theorem k_is_pair : RfF x_is_pair f_is_pair := k_def (k_seq (k_ifS (k_not (k_tru (k_call k_is_tuple (k_gim k_var (k_gim k_c (k_gim k_c k_gnil)))))) (k_ret k_c) k_next) (k_ret (k_andV (k_call k_is_short_word (k_gim (k_op k_look k_c) (k_gim k_c (k_gim k_c k_gnil)))) (k_call k_is_short_word (k_gim (k_op k_look k_c) (k_gim k_c (k_gim k_c k_gnil)))))))
def x_need_book : XFn := xDef 1 n_need_book (xSeq (xIf (xNot (xTru (xCall x_is_tuple (xgIm (xVar 0) (xgIm (xC (.int 1)) (xgIm (xC (.int 40)) xgNil)))))) (xRaise "BadBook" (some "number") (xC .none)) xNext) (xSeq (xOwn 1 xnDc0) (xSeq (xOwn 2 xnDc0) (xSeq (xFor (xRng (xF lenD (xLook 0))) (xgN 3) (xSeq (xIf (xNot (xTru (xCall x_is_pair (xgIm (xOp ixD (xLook 0) (xLook 3)) xgNil)))) (xRaise "BadBook" (some "number") (xVar 3)) xNext) (xSeq (xAsg (xOp ixD (xLook 0) (xLook 3)) (xgT [4, 5])) (xSeq (xIf (xOr (xTst (xInK false (xLook 4) (xLook 1))) (xTst (xInK false (xLook 5) (xLook 2)))) (xRaise "BadBook" (some "number") (xVar 3)) xNext) (xSeq (xDput 1 (xC (.bool true)) (xLook 4)) (xDput 2 (xC (.bool true)) (xLook 5))))))) (xRet (xVar 0))))))
theorem k_need_book : RfX x_need_book f_need_book := k_defX fun R => (k_seq (k_ifS (k_not (k_tru (k_call k_is_tuple (k_gim k_var (k_gim k_c (k_gim k_c k_gnil)))))) (k_raise k_c) k_next) (k_seq (k_own k_ndc0) (k_seq (k_own k_ndc0) (k_seq (k_for (k_rng (k_f k_look)) k_gN (k_seq (k_ifS (k_not (k_tru (k_call k_is_pair (k_gim (k_op k_look k_look) k_gnil)))) (k_raise k_var) k_next) (k_seq (k_asg (k_op k_look k_look) k_gT) (k_seq (k_ifS (k_or (k_tst (k_inK k_look k_look)) (k_tst (k_inK k_look k_look))) (k_raise k_var) k_next) (k_seq (k_dput k_c k_look) (k_dput k_c k_look)))))) (k_ret k_var)))))
def x_u_telling_to_end : XFn := xDef 2 n_u_telling_to_end (xSeq (xOwn 2 (xnLst xNil)) (xSeq (xSet 3 (xOp subD (xF lenD (xLook 1)) (xC (.int 1)))) (xSeq (xWhile (xTst (xOp gtD (xLook 3) (xC (.int 0)))) (xSeq (xApp 2 (xOp ixD (xLook 1) (xLook 3))) (xAug (fun i j => i - j) 3 (xF lenD (xOp ixD (xOp ixD (xLook 0) (xOp ixD (xLook 1) (xLook 3))) (xC (.int 0))))))) (xRet (xF tupD (xRevL (xLook 2)))))))
theorem k_u_telling_to_end : RfF x_u_telling_to_end f_u_telling_to_end := k_def (k_seq (k_own (k_nlst k_nil)) (k_seq (k_set (k_op (k_f k_look) k_c)) (k_seq (k_while (k_tst (k_op k_look k_c)) (k_seq (k_app (k_op k_look k_look)) (k_aug (k_f (k_op (k_op k_look (k_op k_look k_look)) k_c))))) (k_ret (k_f (k_revL k_look))))))
def x_least_cost : XFn := xDef 2 n_least_cost (xSeq (xDrop (xCallX x_need_book (xgIm (xVar 0) xgNil))) (xSeq (xDrop (xCallX x_need_text (xgIm (xVar 1) (xgIm (xC (.int 200)) (xgIm (xC (.str "the text")) xgNil))))) xFail))
theorem k_least_cost : RfX x_least_cost f_least_cost := k_defX fun R => (k_seq (k_drop (k_callX k_need_book (k_gim k_var k_gnil))) (k_seq (k_drop (k_callX k_need_text (k_gim k_var (k_gim k_c (k_gim k_c k_gnil))))) k_fail))
def x_telling : XFn := xDef 2 n_telling (xSeq (xDrop (xCallX x_need_book (xgIm (xVar 0) xgNil))) (xSeq (xDrop (xCallX x_need_text (xgIm (xVar 1) (xgIm (xC (.int 200)) (xgIm (xC (.str "the text")) xgNil))))) xFail))
theorem k_telling : RfX x_telling f_telling := k_defX fun R => (k_seq (k_drop (k_callX k_need_book (k_gim k_var k_gnil))) (k_seq (k_drop (k_callX k_need_text (k_gim k_var (k_gim k_c (k_gim k_c k_gnil))))) k_fail))
def x_many_tellings : XFn := xDef 2 n_many_tellings (xSeq (xDrop (xCallX x_need_book (xgIm (xVar 0) xgNil))) (xSeq (xDrop (xCallX x_need_text (xgIm (xVar 1) (xgIm (xC (.int 200)) (xgIm (xC (.str "the text")) xgNil))))) xFail))
theorem k_many_tellings : RfX x_many_tellings f_many_tellings := k_defX fun R => (k_seq (k_drop (k_callX k_need_book (k_gim k_var k_gnil))) (k_seq (k_drop (k_callX k_need_text (k_gim k_var (k_gim k_c (k_gim k_c k_gnil))))) k_fail))
def x_is_telling : XFn := xDef 2 n_is_telling (xSeq (xIf (xNot (xTru (xCall x_is_tuple (xgIm (xVar 1) (xgIm (xC (.int 0)) (xgIm (xC (.int 200)) xgNil)))))) (xRet (xC (.bool false))) xNext) (xRet (xF allD (xLc (xItT (xVar 1)) xYes (xCall x_is_integer (xgIm (xVar 2) (xgIm (xC (.int 0)) (xgIm (xOp subD (xF lenD (xLook 0)) (xC (.int 1))) xgNil)))) 2 [2]))))
theorem k_is_telling : RfF x_is_telling f_is_telling := k_def (k_seq (k_ifS (k_not (k_tru (k_call k_is_tuple (k_gim k_var (k_gim k_c (k_gim k_c k_gnil)))))) (k_ret k_c) k_next) (k_ret (k_f (k_lc (k_itT k_var) k_yes (k_call k_is_integer (k_gim k_var (k_gim k_c (k_gim (k_op (k_f k_look) k_c) k_gnil))))))))
def x_sent : XFn := xDef 2 n_sent (xSeq (xDrop (xCallX x_need_book (xgIm (xVar 0) xgNil))) (xSeq (xIf (xNot (xTru (xCall x_is_telling (xgIm (xVar 0) (xgIm (xVar 1) xgNil))))) (xRaise "OutOfPlace" none (xJoin [(xC (.str "the telling is no tuple of at most ")), (xF fmtD (xC (.int 200))), (xC (.str " numbers of pairs"))])) xNext) xFail))
theorem k_sent : RfX x_sent f_sent := k_defX fun R => (k_seq (k_drop (k_callX k_need_book (k_gim k_var k_gnil))) (k_seq (k_ifS (k_not (k_tru (k_call k_is_telling (k_gim k_var (k_gim k_var k_gnil))))) (k_raise (k_join (.cons k_c (.cons (k_f k_c) (.cons k_c .nil))))) k_next) k_fail))
def x_cost_paper : XFn := xDef 2 n_cost_paper (xSeq (xDrop (xCallX x_need_book (xgIm (xVar 0) xgNil))) (xSeq (xDrop (xCallX x_need_text (xgIm (xVar 1) (xgIm (xC (.int 200)) (xgIm (xC (.str "the text")) xgNil))))) xFail))
theorem k_cost_paper : RfX x_cost_paper f_cost_paper := k_defX fun R => (k_seq (k_drop (k_callX k_need_book (k_gim k_var k_gnil))) (k_seq (k_drop (k_callX k_need_text (k_gim k_var (k_gim k_c (k_gim k_c k_gnil))))) k_fail))
def x_check_cost : XFn := xDef 3 n_check_cost (xSeq (xDrop (xCallX x_need_book (xgIm (xVar 0) xgNil))) (xSeq (xDrop (xCallX x_need_text (xgIm (xVar 1) (xgIm (xC (.int 200)) (xgIm (xC (.str "the text")) xgNil))))) xFail))
theorem k_check_cost : RfX x_check_cost f_check_cost := k_defX fun R => (k_seq (k_drop (k_callX k_need_book (k_gim k_var k_gnil))) (k_seq (k_drop (k_callX k_need_text (k_gim k_var (k_gim k_c (k_gim k_c k_gnil))))) k_fail))
def x_reads : XFn := xDef 2 n_reads (xSeq (xDrop (xCallX x_need_book (xgIm (xVar 0) xgNil))) (xSeq (xDrop (xCallX x_need_text (xgIm (xVar 1) (xgIm (xC (.int 200)) (xgIm (xC (.str "the row")) xgNil))))) xFail))
theorem k_reads : RfX x_reads f_reads := k_defX fun R => (k_seq (k_drop (k_callX k_need_book (k_gim k_var k_gnil))) (k_seq (k_drop (k_callX k_need_text (k_gim k_var (k_gim k_c (k_gim k_c k_gnil))))) k_fail))
def x_many_reads : XFn := xDef 2 n_many_reads (xSeq (xDrop (xCallX x_need_book (xgIm (xVar 0) xgNil))) (xSeq (xDrop (xCallX x_need_text (xgIm (xVar 1) (xgIm (xC (.int 200)) (xgIm (xC (.str "the row")) xgNil))))) xFail))
theorem k_many_reads : RfX x_many_reads f_many_reads := k_defX fun R => (k_seq (k_drop (k_callX k_need_book (k_gim k_var k_gnil))) (k_seq (k_drop (k_callX k_need_text (k_gim k_var (k_gim k_c (k_gim k_c k_gnil))))) k_fail))
def x_u_is_string : XFn := xDef 2 n_u_is_string (xRet (xAndV (xF (isiD "str") (xLook 0)) (xOp eqD (xLook 0) (xLook 1))))
theorem k_u_is_string : RfF x_u_is_string f_u_is_string := k_def (k_ret (k_andV (k_f k_look) (k_op k_look k_look)))
def x_paper_word : XFn := xDef 3 n_paper_word (xSeq (xIf (xAnd (xTru (xCall x_is_tuple (xgIm (xVar 0) (xgIm (xC (.int 3)) (xgIm (xC (.int 3)) xgNil))))) (xTru (xCall x_u_is_string (xgIm (xOp ixD (xLook 0) (xC (.int 0))) (xgIm (xVar 1) xgNil))))) (xRet (xVar 1)) xNext) (xSeq (xIf (xAnd (xTru (xCall x_is_tuple (xgIm (xVar 0) (xgIm (xC (.int 2)) (xgIm (xC (.int 2)) xgNil))))) (xTru (xCall x_u_is_string (xgIm (xOp ixD (xLook 0) (xC (.int 0))) (xgIm (xVar 2) xgNil))))) (xRet (xVar 2)) xNext) (xRaise "BadPaper" (some "part") (xC (.str "form")))))
theorem k_paper_word : RfX x_paper_word f_paper_word := k_defX fun R => (k_seq (k_ifS (k_and (k_tru (k_call k_is_tuple (k_gim k_var (k_gim k_c (k_gim k_c k_gnil))))) (k_tru (k_call k_u_is_string (k_gim (k_op k_look k_c) (k_gim k_var k_gnil))))) (k_ret k_var) k_next) (k_seq (k_ifS (k_and (k_tru (k_call k_is_tuple (k_gim k_var (k_gim k_c (k_gim k_c k_gnil))))) (k_tru (k_call k_u_is_string (k_gim (k_op k_look k_c) (k_gim k_var k_gnil))))) (k_ret k_var) k_next) (k_raise k_c)))
def x_is_clear : XFn := xDef 1 n_is_clear (xSeq (xDrop (xCallX x_need_book (xgIm (xVar 0) xgNil))) xFail)
theorem k_is_clear : RfX x_is_clear f_is_clear := k_defX fun R => (k_seq (k_drop (k_callX k_need_book (k_gim k_var k_gnil))) k_fail)
def x_clear_paper : XFn := xDef 1 n_clear_paper (xSeq (xDrop (xCallX x_need_book (xgIm (xVar 0) xgNil))) xFail)
theorem k_clear_paper : RfX x_clear_paper f_clear_paper := k_defX fun R => (k_seq (k_drop (k_callX k_need_book (k_gim k_var k_gnil))) k_fail)
def x_check_clear : XFn := xDef 2 n_check_clear (xSeq (xDrop (xCallX x_need_book (xgIm (xVar 0) xgNil))) xFail)
theorem k_check_clear : RfX x_check_clear f_check_clear := k_defX fun R => (k_seq (k_drop (k_callX k_need_book (k_gim k_var k_gnil))) k_fail)
def x_u_law_odds : XFn := xDef 0 n_u_law_odds (xSeq (xSet 0 (xLst (xCons (xC .none) (xCons (xC (.bool true)) (xCons (xC (.bool false)) (xCons (xC (.int 0)) (xCons (xC (.int 1)) (xCons (xF negD (xC (.int 1))) (xCons (xC (.int 8)) (xCons (xC (.int 41)) (xCons (xC (.int 1001)) (xCons (xOp powD (xC (.int 10)) (xC (.int 30))) (xCons (xC (.str "")) (xCons (xC (.str "a")) (xCons (xC (.str "A")) (xCons (xC (.str "ab")) (xCons (xC (.str "two")) (xCons (xTup xNil) (xCons (xTup (xCons (xC (.int 0)) xNil)) (xCons (xTup (xCons (xC (.int 0)) (xCons (xC (.int 0)) xNil))) xNil)))))))))))))))))))) (xRet (xOp catD (xLook 0) (xLst (xCons (xLst xNil) (xCons (xLst (xCons (xC (.int 0)) xNil)) (xCons (xC (.dict [])) (xCons (xTup (xCons (xTup xNil) xNil)) (xCons (xTup (xCons (xC (.int 1)) (xCons (xC (.int 1)) (xCons (xC (.int 1)) xNil)))) (xCons (xTup (xCons (xC (.str "a")) (xCons (xC (.str "b")) xNil))) (xCons (xTup (xCons (xC (.str "a")) (xCons (xTup (xCons (xC (.int 0)) xNil)) xNil))) (xCons (xC (.str "a b")) xNil))))))))))))
theorem k_u_law_odds : RfF x_u_law_odds f_u_law_odds := k_def (k_seq (k_set (k_lst (k_cons k_c (k_cons k_c (k_cons k_c (k_cons k_c (k_cons k_c (k_cons (k_f k_c) (k_cons k_c (k_cons k_c (k_cons k_c (k_cons (k_op k_c k_c) (k_cons k_c (k_cons k_c (k_cons k_c (k_cons k_c (k_cons k_c (k_cons (k_tup k_nil) (k_cons (k_tup (k_cons k_c k_nil)) (k_cons (k_tup (k_cons k_c (k_cons k_c k_nil))) k_nil)))))))))))))))))))) (k_ret (k_op k_look (k_lst (k_cons (k_lst k_nil) (k_cons (k_lst (k_cons k_c k_nil)) (k_cons k_c (k_cons (k_tup (k_cons (k_tup k_nil) k_nil)) (k_cons (k_tup (k_cons k_c (k_cons k_c (k_cons k_c k_nil)))) (k_cons (k_tup (k_cons k_c (k_cons k_c k_nil))) (k_cons (k_tup (k_cons k_c (k_cons (k_tup (k_cons k_c k_nil)) k_nil))) (k_cons k_c k_nil))))))))))))
def x_u_law_signs : XFn := xDef 0 n_u_law_signs (xRet (xC (.str "0123456789abcdefghijklmnopqrstuvwxyz")))
theorem k_u_law_signs : RfF x_u_law_signs f_u_law_signs := k_def (k_ret k_c)
def x_u_law_book_ba : XS := (xParF3 3 4 5 (xnLst xNil) (xLst xNil) (xLst xNil))
theorem k_u_law_book_ba : RfS noR x_u_law_book_ba w_u_law_book_ba := (k_parF3 (k_nlst k_nil) (k_lst k_nil) (k_lst k_nil))
def x_u_law_book_bbafbb : XS := (xIf (xAnd (xTst (xOp (inD true) (xLook 7) (xLook 4))) (xTst (xOp (inD true) (xLook 9) (xLook 5)))) (xSeq (xPar 4 5 (xOp catD (xLook 4) (xLst (xCons (xVar 7) xNil))) (xOp catD (xLook 5) (xLst (xCons (xVar 9) xNil)))) (xApp 3 (xTup (xCons (xVar 7) (xCons (xVar 9) xNil))))) xNext)
theorem k_u_law_book_bbafbb : RfS noR x_u_law_book_bbafbb w_u_law_book_bbafbb := (k_ifS (k_and (k_tst (k_op k_look k_look)) (k_tst (k_op k_look k_look))) (k_seq (k_par (k_op k_look (k_lst (k_cons k_var k_nil))) (k_op k_look (k_lst (k_cons k_var k_nil)))) (k_app (k_tup (k_cons k_var (k_cons k_var k_nil))))) k_next)
def x_u_law_book_bbb : XS := (xRet (xF tupD (xLook 3)))
theorem k_u_law_book_bbb : RfS noR x_u_law_book_bbb w_u_law_book_bbb := (k_ret (k_f k_look))
def x_u_law_is_word : XFn := xDef 2 n_u_law_is_word (xSeq (xIf (xOr (xNot (xTru (xF (isiD "str") (xLook 0)))) (xNot (xTst (xChain leAD leAD (xC (.int 1)) (xF lenD (xLook 0)) (xLook 1))))) (xRet (xC (.bool false))) xNext) (xRet (xOp eqD (xLc (xItS (xLook 0)) (xTst (xOp (inD true) (xLook 2) (xCall x_u_law_signs xgNil))) (xVar 2) 2 [2]) (xLst xNil))))
theorem k_u_law_is_word : RfF x_u_law_is_word f_u_law_is_word := k_def (k_seq (k_ifS (k_or (k_not (k_tru (k_f k_look))) (k_not (k_tst (k_chain k_c (k_f k_look) k_look)))) (k_ret k_c) k_next) (k_ret (k_op (k_lc (k_itS k_look) (k_tst (k_op k_look (k_call k_u_law_signs k_gnil))) k_var) (k_lst k_nil))))
def x_u_law_due : XFn := xDef 1 n_u_law_due (xSeq (xIf (xOr (xNot (xTru (xF (isiD "tuple") (xLook 0)))) (xNot (xTst (xChain leAD leAD (xC (.int 1)) (xF lenD (xLook 0)) (xC (.int 40)))))) (xRet (xTup (xCons (xC (.str "book")) (xCons (xC .none) xNil)))) xNext) (xSeq (xFor (xEnT (xVar 0)) (xgT [1, 2]) (xSeq (xIf (xOr (xNot (xTru (xF (isiD "tuple") (xLook 2)))) (xTst (xOp neD (xF lenD (xLook 2)) (xC (.int 2))))) (xRet (xTup (xCons (xC (.str "book")) (xCons (xVar 1) xNil)))) xNext) (xSeq (xIf (xOr (xNot (xTru (xCall x_u_law_is_word (xgIm (xOp ixD (xLook 2) (xC (.int 0))) (xgIm (xC (.int 8)) xgNil))))) (xNot (xTru (xCall x_u_law_is_word (xgIm (xOp ixD (xLook 2) (xC (.int 1))) (xgIm (xC (.int 5)) xgNil)))))) (xRet (xTup (xCons (xC (.str "book")) (xCons (xVar 1) xNil)))) xNext) (xSeq (xSet 3 (xSlT (xLook 0) xNo (xSo (xLook 1)))) (xIf (xTst (xOp neD (xLc (xItT (xVar 3)) (xOr (xTst (xOp eqD (xOp ixD (xLook 4) (xC (.int 0))) (xOp ixD (xLook 2) (xC (.int 0))))) (xTst (xOp eqD (xOp ixD (xLook 4) (xC (.int 1))) (xOp ixD (xLook 2) (xC (.int 1)))))) (xVar 4) 4 [4]) (xLst xNil))) (xRet (xTup (xCons (xC (.str "book")) (xCons (xVar 1) xNil)))) xNext))))) (xRet (xLst (xCons (xVar 0) xNil)))))
theorem k_u_law_due : RfF x_u_law_due f_u_law_due := k_def (k_seq (k_ifS (k_or (k_not (k_tru (k_f k_look))) (k_not (k_tst (k_chain k_c (k_f k_look) k_c)))) (k_ret (k_tup (k_cons k_c (k_cons k_c k_nil)))) k_next) (k_seq (k_for (k_enT k_var) k_gT (k_seq (k_ifS (k_or (k_not (k_tru (k_f k_look))) (k_tst (k_op (k_f k_look) k_c))) (k_ret (k_tup (k_cons k_c (k_cons k_var k_nil)))) k_next) (k_seq (k_ifS (k_or (k_not (k_tru (k_call k_u_law_is_word (k_gim (k_op k_look k_c) (k_gim k_c k_gnil))))) (k_not (k_tru (k_call k_u_law_is_word (k_gim (k_op k_look k_c) (k_gim k_c k_gnil)))))) (k_ret (k_tup (k_cons k_c (k_cons k_var k_nil)))) k_next) (k_seq (k_set (k_slT k_look k_no (k_so k_look))) (k_ifS (k_tst (k_op (k_lc (k_itT k_var) (k_or (k_tst (k_op (k_op k_look k_c) (k_op k_look k_c))) (k_tst (k_op (k_op k_look k_c) (k_op k_look k_c)))) k_var) (k_lst k_nil))) (k_ret (k_tup (k_cons k_c (k_cons k_var k_nil)))) k_next))))) (k_ret (k_lst (k_cons k_var k_nil)))))
def x_u_law_all : XFn := xDef 2 n_u_law_all (xSeq (xOwn 2 (xnLst (xCons (xOut tnO rsO (xCallX x_least_cost (xgIm (xVar 0) (xgIm (xVar 1) xgNil)))) xNil))) (xSeq (xApp 2 (xOut tnO rsO (xCallX x_telling (xgIm (xVar 0) (xgIm (xVar 1) xgNil))))) (xSeq (xApp 2 (xOut tnO rsO (xCallX x_many_tellings (xgIm (xVar 0) (xgIm (xVar 1) xgNil))))) (xSeq (xApp 2 (xOut tnO rsO (xCallX x_cost_paper (xgIm (xVar 0) (xgIm (xVar 1) xgNil))))) (xSeq (xApp 2 (xOut tnO rsO (xCallX x_check_cost (xgIm (xVar 0) (xgIm (xVar 1) (xgIm (xC .none) xgNil)))))) (xSeq (xApp 2 (xOut tnO rsO (xCallX x_reads (xgIm (xVar 0) (xgIm (xVar 1) xgNil))))) (xRet (xOp catD (xLook 2) (xLst (xCons (xOut tnO rsO (xCallX x_many_reads (xgIm (xVar 0) (xgIm (xVar 1) xgNil)))) xNil))))))))))
theorem k_u_law_all : RfF x_u_law_all f_u_law_all := k_def (k_seq (k_own (k_nlst (k_cons (k_out fun R => (k_callX k_least_cost (k_gim k_var (k_gim k_var k_gnil)))) k_nil))) (k_seq (k_app (k_out fun R => (k_callX k_telling (k_gim k_var (k_gim k_var k_gnil))))) (k_seq (k_app (k_out fun R => (k_callX k_many_tellings (k_gim k_var (k_gim k_var k_gnil))))) (k_seq (k_app (k_out fun R => (k_callX k_cost_paper (k_gim k_var (k_gim k_var k_gnil))))) (k_seq (k_app (k_out fun R => (k_callX k_check_cost (k_gim k_var (k_gim k_var (k_gim k_c k_gnil)))))) (k_seq (k_app (k_out fun R => (k_callX k_reads (k_gim k_var (k_gim k_var k_gnil))))) (k_ret (k_op k_look (k_lst (k_cons (k_out fun R => (k_callX k_many_reads (k_gim k_var (k_gim k_var k_gnil)))) k_nil))))))))))
def x_u_law_rest : XFn := xDef 1 n_u_law_rest (xSeq (xOwn 1 (xnLst (xCons (xOut tnO rsO (xCallX x_sent (xgIm (xVar 0) (xgIm (xC .none) xgNil)))) (xCons (xOut tnO rsO (xCallX x_is_clear (xgIm (xVar 0) xgNil))) xNil)))) (xSeq (xApp 1 (xOut tnO rsO (xCallX x_clear_paper (xgIm (xVar 0) xgNil)))) (xRet (xOp catD (xLook 1) (xLst (xCons (xOut tnO rsO (xCallX x_check_clear (xgIm (xVar 0) (xgIm (xC .none) xgNil)))) xNil))))))
theorem k_u_law_rest : RfF x_u_law_rest f_u_law_rest := k_def (k_seq (k_own (k_nlst (k_cons (k_out fun R => (k_callX k_sent (k_gim k_var (k_gim k_c k_gnil)))) (k_cons (k_out fun R => (k_callX k_is_clear (k_gim k_var k_gnil))) k_nil)))) (k_seq (k_app (k_out fun R => (k_callX k_clear_paper (k_gim k_var k_gnil)))) (k_ret (k_op k_look (k_lst (k_cons (k_out fun R => (k_callX k_check_clear (k_gim k_var (k_gim k_c k_gnil)))) k_nil))))))
def x_lafbbbba : XS := (xAsg (xOp ixD (xLook 3) (xLook 5)) (xgT [7, 8]))
theorem k_lafbbbba : RfS noR x_lafbbbba w_lafbbbba := (k_asg (k_op k_look k_look) k_gT)
def x_lafbbbbba : XS := (xFor (xItT (xTup (xCons (xTup (xCons (xVar 7) (xCons (xVar 8) xNil))) (xCons (xTup (xCons (xVar 7) (xCons (xC (.str "00000")) xNil))) (xCons (xTup (xCons (xC (.str "zzzzzzzz")) (xCons (xVar 8) xNil))) (xCons (xTup (xCons (xOp mulSD (xC (.str "a")) (xC (.int 9))) (xCons (xC (.str "z")) xNil))) xNil)))))) (xgN 9) (xApp 6 (xOp catTD (xLook 3) (xTup (xCons (xVar 9) xNil)))))
theorem k_lafbbbbba : RfS noR x_lafbbbbba w_lafbbbbba := (k_for (k_itT (k_tup (k_cons (k_tup (k_cons k_var (k_cons k_var k_nil))) (k_cons (k_tup (k_cons k_var (k_cons k_c k_nil))) (k_cons (k_tup (k_cons k_c (k_cons k_var k_nil))) (k_cons (k_tup (k_cons (k_op k_c k_c) (k_cons k_c k_nil))) k_nil)))))) k_gN (k_app (k_op k_look (k_tup (k_cons k_var k_nil)))))
def x_lafbbbbbba : XS := (xFor (xItT (xTup (xCons (xTup (xCons (xC (.str "z")) (xCons (xOp mulSD (xC (.str "b")) (xC (.int 6))) xNil))) (xCons (xTup (xCons (xC (.str "")) (xCons (xC (.str "z")) xNil))) (xCons (xTup (xCons (xC (.str "A")) (xCons (xC (.str "z")) xNil))) xNil))))) (xgN 9) (xApp 6 (xOp catTD (xLook 3) (xTup (xCons (xVar 9) xNil)))))
theorem k_lafbbbbbba : RfS noR x_lafbbbbbba w_lafbbbbbba := (k_for (k_itT (k_tup (k_cons (k_tup (k_cons k_c (k_cons (k_op k_c k_c) k_nil))) (k_cons (k_tup (k_cons k_c (k_cons k_c k_nil))) (k_cons (k_tup (k_cons k_c (k_cons k_c k_nil))) k_nil))))) k_gN (k_app (k_op k_look (k_tup (k_cons k_var k_nil)))))
def x_lafbbbbbbba : XS := (xFor (xItL (xOp catD (xLook 6) (xLst (xCons (xF tupD (xLc (xRng2 (xC (.int 1)) (xC (.int 9))) xYes (xTup (xCons (xOp mulSD (xC (.str "x")) (xLook 11)) (xCons (xOp addD (xSl (xC (.str "yz")) xNo (xSo (xC (.int 1)))) (xF reprID (xLook 11))) xNil))) 11 [11])) xNil)))) (xgN 10) (xSeq (xSet 12 (xCall x_u_law_due (xgIm (xVar 10) xgNil))) (xSeq (xIf (xTst (xOp neD (xF reprD (xOut tnO rsO (xCallX x_need_book (xgIm (xVar 10) xgNil)))) (xF reprD (xLook 12)))) (xRet (xC (.bool false))) xNext) (xIf (xAnd (xTru (xF (isiD "tuple") (xLook 12))) (xTst (xOp neD (xOp catD (xCall x_u_law_all (xgIm (xVar 10) (xgIm (xC .none) xgNil))) (xCall x_u_law_rest (xgIm (xVar 10) xgNil))) (xRepL (xCons (xVar 12) xNil) (xC (.int 11)))))) (xRet (xC (.bool false))) xNext))))
theorem k_lafbbbbbbba : RfS noR x_lafbbbbbbba w_lafbbbbbbba := (k_for (k_itL (k_op k_look (k_lst (k_cons (k_f (k_lc (k_rng2 k_c k_c) k_yes (k_tup (k_cons (k_op k_c k_look) (k_cons (k_op (k_sl k_c k_no (k_so k_c)) (k_f k_look)) k_nil))))) k_nil)))) k_gN (k_seq (k_set (k_call k_u_law_due (k_gim k_var k_gnil))) (k_seq (k_ifS (k_tst (k_op (k_f (k_out fun R => (k_callX k_need_book (k_gim k_var k_gnil)))) (k_f k_look))) (k_ret k_c) k_next) (k_ifS (k_and (k_tru (k_f k_look)) (k_tst (k_op (k_op (k_call k_u_law_all (k_gim k_var (k_gim k_c k_gnil))) (k_call k_u_law_rest (k_gim k_var k_gnil))) (k_repL (k_cons k_var k_nil) k_c)))) (k_ret k_c) k_next))))
def x_lafbbbbbbbba : XS := (xFor (xItT (xTup (xCons (xC .none) (xCons (xC (.int 5)) (xCons (xC (.str "a b")) (xCons (xC (.str "A")) (xCons (xOp mulSD (xC (.str "a")) (xC (.int 201))) (xCons (xLst (xCons (xC (.str "a")) xNil)) xNil)))))))) (xgN 13) (xIf (xTst (xOp neD (xCall x_u_law_all (xgIm (xVar 3) (xgIm (xVar 13) xgNil))) (xRepL (xCons (xTup (xCons (xC (.str "place")) (xCons (xC .none) xNil))) xNil) (xC (.int 7))))) (xRet (xC (.bool false))) xNext))
theorem k_lafbbbbbbbba : RfS noR x_lafbbbbbbbba w_lafbbbbbbbba := (k_for (k_itT (k_tup (k_cons k_c (k_cons k_c (k_cons k_c (k_cons k_c (k_cons (k_op k_c k_c) (k_cons (k_lst (k_cons k_c k_nil)) k_nil)))))))) k_gN (k_ifS (k_tst (k_op (k_call k_u_law_all (k_gim k_var (k_gim k_var k_gnil))) (k_repL (k_cons (k_tup (k_cons k_c (k_cons k_c k_nil))) k_nil) k_c))) (k_ret k_c) k_next))
def x_lafbbbbbbbbb : XS := (xFor (xItT (xTup (xCons (xC .none) (xCons (xLst (xCons (xC (.int 0)) xNil)) (xCons (xTup (xCons (xF lenD (xLook 3)) xNil)) (xCons (xTup (xCons (xF negD (xC (.int 1))) xNil)) (xCons (xTup (xCons (xC (.bool true)) xNil)) (xCons (xOp repTAD (xTup (xCons (xC (.int 0)) xNil)) (xC (.int 201))) (xCons (xC (.int 0)) xNil))))))))) (xgN 13) (xIf (xTst (xOp neD (xOut tnO rsO (xCallX x_sent (xgIm (xVar 3) (xgIm (xVar 13) xgNil)))) (xTup (xCons (xC (.str "place")) (xCons (xC .none) xNil))))) (xRet (xC (.bool false))) xNext))
theorem k_lafbbbbbbbbb : RfS noR x_lafbbbbbbbbb w_lafbbbbbbbbb := (k_for (k_itT (k_tup (k_cons k_c (k_cons (k_lst (k_cons k_c k_nil)) (k_cons (k_tup (k_cons (k_f k_look) k_nil)) (k_cons (k_tup (k_cons (k_f k_c) k_nil)) (k_cons (k_tup (k_cons k_c k_nil)) (k_cons (k_op (k_tup (k_cons k_c k_nil)) k_c) (k_cons k_c k_nil))))))))) k_gN (k_ifS (k_tst (k_op (k_out fun R => (k_callX k_sent (k_gim k_var (k_gim k_var k_gnil)))) (k_tup (k_cons k_c (k_cons k_c k_nil))))) (k_ret k_c) k_next))
def x_lb : XS := (xRet (xC (.bool true)))
theorem k_lb : RfS noR x_lb w_lb := (k_ret k_c)
end Pf

/-! Rp: repr of data, by parts -/
namespace Pf
open PySem L2 HW
def okS (x : Str) : Prop := ∀ c ∈ x.cps.toList, c < 0x110000
theorem okS_add {a b : Str} (ha : okS a) (hb : okS b) : okS (a ++ b) := by
  intro c hc
  have : c ∈ a.cps.toList ++ b.cps.toList := by
    have e : (a ++ b).cps.toList = a.cps.toList ++ b.cps.toList := by
      show (a.cps ++ b.cps).toList = _
      simp
    rwa [e] at hc
  rcases List.mem_append.mp this with z | z
  · exact ha c z
  · exact hb c z
theorem okS_join {s : Str} (hs : okS s) : ∀ {ts : List Str}, (∀ t ∈ ts, okS t) → okS (Str.join s ts)
  | [], _ => by intro c hc; simp [Str.join, Str.empty] at hc
  | [x], h => h x List.mem_cons_self
  | x :: y :: r, h => okS_add (okS_add (h x List.mem_cons_self) hs) (okS_join hs fun t ht => h t (List.mem_cons_of_mem _ ht))
theorem okS_tup {ts : List Str} (h : ∀ t ∈ ts, okS t) : okS (tupleText ts) := by
  unfold tupleText
  refine okS_add (okS_add (by unfold okS; decide) (okS_join (by unfold okS; decide) h)) ?_
  split
  · unfold okS; decide
  · unfold okS; decide
theorem okS_from : ∀ (ts : List Str) (k : Nat) (acc : Str), okS acc → (∀ t ∈ ts, okS t) → okS (textFrom k acc ts)
  | [], k, acc, h, _ => h
  | t :: r, k, acc, h, ht => by
    unfold textFrom
    refine okS_from r _ _ (okS_add ?_ (ht t List.mem_cons_self)) fun x hx => ht x (List.mem_cons_of_mem _ hx)
    split
    · exact okS_add h (by unfold okS; decide)
    · exact h
theorem okS_list {ts : List Str} (h : ∀ t ∈ ts, okS t) : okS (listText ts) := okS_add (okS_from ts 0 _ (by unfold okS; decide) h) (by unfold okS; decide)
theorem okS_int (i : Int) : okS (PyData.int i).shown := fun c hc => by
  by_cases h : c < 0x110000
  · exact h
  · exact absurd hc (PyProof.Rows.shown_int_free' ⟨by omega, .inr (by omega)⟩ i)
theorem okS_shaped {x : Str} (h : okS x) : SeqAt.shaped (.str x) = true := by
  show (PyData.canLay0 (.str x) && decide (PyData.depth (.str x) ≤ 64)) = true
  have : PyData.canLay0 (.str x) = true := by
    show x.cps.all (· < 0x110000) = true
    have : x.cps = x.cps.toList.toArray := by simp
    rw [this]
    simp
    intro c hc
    exact h _ (by simp)
  rw [this]
  rfl
theorem ne_same {x : Str} (h : okS x) : neD (.str x) (.str x) = some (.bool false) := by
  unfold neD
  rw [if_pos ⟨rfl, rfl, okS_shaped h, okS_shaped h⟩]
  show some (PyData.bool (!(x == x))) = _
  simp
/-- what repr wants, by weight and depth -/
structure Rp (d : D) (W dep : Nat) : Prop where
  i : PyData.intsShort 13 d = true
  w : PyData.weight d ≤ W
  s : PyData.showable d = true
  h : PyData.hasDict d = false
  o : okS d.shown
  l : PyData.canLay0 d = true
  f : flt d = true
  d : PyData.depth d ≤ dep
structure RpA (ds : List D) (W dep : Nat) : Prop where
  i : PyData.intsShortAll 13 ds = true
  w : PyData.weightAll ds ≤ W
  s : PyData.showableAll ds = true
  h : PyData.hasDictAll ds = false
  o : ∀ t ∈ PyData.shownAll ds, okS t
  l : PyData.canLayAll0 ds = true
  f : fltA ds = true
  d : PyData.depthAll ds ≤ dep
theorem rp_int {i : Int} (h0 : 0 ≤ i) (h1 : i < 10 ^ 10) : Rp (.int i) 34 0 := by
  have hl : i.natAbs.log2 < 34 := PySem.Flt.log2_lt_of (by decide) (by omega)
  refine ⟨?_, ?_, ?_, rfl, okS_int i, rfl, rfl, Nat.le_refl _⟩
  · show decide ((PyData.int i).shown.length ≤ 13) = true
    rw [PyData.shown_int]
    exact decide_eq_true (Nat.le_trans (PySem.W.KT.len_num h0 h1) (by decide))
  · show (if (i == 0) = true then 0 else i.natAbs.log2 + 1) ≤ 34
    split <;> omega
  · exact decide_eq_true (by omega)
theorem rpA_nil {dep : Nat} : RpA [] 0 dep := ⟨rfl, Nat.le_refl _, rfl, rfl, by intro t ht; simp [PyData.shownAll] at ht, rfl, rfl, Nat.zero_le _⟩
theorem rpA_cons {d : D} {ds : List D} {W W' dep : Nat} (h : Rp d W dep) (r : RpA ds W' dep) : RpA (d :: ds) (W + 1 + W') dep := by
  refine ⟨?_, ?_, ?_, ?_, ?_, ?_, ?_, ?_⟩
  · show (PyData.intsShort 13 d && PyData.intsShortAll 13 ds) = true
    rw [h.i, r.i]; rfl
  · show PyData.weight d + 1 + PyData.weightAll ds ≤ _
    have := h.w; have := r.w; omega
  · show (PyData.showable d && PyData.showableAll ds) = true
    rw [h.s, r.s]; rfl
  · show (PyData.hasDict d || PyData.hasDictAll ds) = false
    rw [h.h, r.h]; rfl
  · intro t ht
    rcases List.mem_cons.mp (show t ∈ PyData.shown d :: PyData.shownAll ds from ht) with z | z
    · rw [z]; exact h.o
    · exact r.o t z
  · show (PyData.canLay0 d && PyData.canLayAll0 ds) = true
    rw [h.l, r.l]; rfl
  · show (flt d && fltA ds) = true
    rw [h.f, r.f]; rfl
  · show max (PyData.depth d) (PyData.depthAll ds) ≤ dep
    have := h.d; have := r.d; omega
theorem rpA_all {W dep : Nat} : ∀ {ds : List D}, (∀ d ∈ ds, Rp d W dep) → RpA ds (ds.length * (W + 1)) dep
  | [], _ => by simpa using rpA_nil
  | d :: r, h => by
    have := rpA_cons (h d List.mem_cons_self) (rpA_all (ds := r) fun x hx => h x (List.mem_cons_of_mem _ hx))
    have e : (d :: r).length * (W + 1) = W + 1 + r.length * (W + 1) := by rw [List.length_cons, Nat.add_mul]; omega
    rw [e]
    exact this
theorem rp_list {ds : List D} {W dep : Nat} (r : RpA ds W dep) : Rp (.list ds) W (dep + 1) := ⟨r.i, r.w, r.s, r.h, okS_list r.o, r.l, r.f, by show PyData.depthAll ds + 1 ≤ _; have := r.d; omega⟩
theorem rp_tup {ds : List D} {W dep : Nat} (r : RpA ds W dep) : Rp (.tuple ds) W (dep + 1) := ⟨r.i, r.w, r.s, r.h, okS_tup r.o, r.l, r.f, by show PyData.depthAll ds + 1 ≤ _; have := r.d; omega⟩
theorem Rp.mono {d : D} {W W' dep dep' : Nat} (h : Rp d W dep) (h1 : W ≤ W') (h2 : dep ≤ dep') : Rp d W' dep' := ⟨h.i, Nat.le_trans h.w h1, h.s, h.h, h.o, h.l, h.f, Nat.le_trans h.d h2⟩
theorem rep_ok {d : D} {W dep : Nat} (h : Rp d W dep) (hr : isRef d = true) (hW : W ≤ 1000000) (hd : dep ≤ 60) : reprD d = some (.str d.shown) ∧ okS d.shown := by
  refine ⟨?_, h.o⟩
  have lay : PyData.layable0 d = true := by
    show (PyData.canLay0 d && decide (PyData.depth d ≤ 64) && decide (PyData.weight d ≤ 2 ^ 20)) = true
    have := h.w
    have := h.d
    rw [h.l, decide_eq_true (by omega), decide_eq_true (by omega)]
    rfl
  have le := PyProof.Rows.shown_le13 lay h.i
  have hL : LIM = 16777216 := rfl
  unfold reprD
  exact if_pos ⟨hr, h.f, h.s, h.h, Nat.le_trans h.d hd, by omega⟩
end Pf

/-! C1: runs put together; draws, loops of words -/
namespace Pf
open PySem L2 HW
section
variable {xs xr : XS} {ρ ρ' : List En} {r : Rs Fl} {d : D} {n : Nat} {N : List Str} {es : List En} {xi : XA} {tg : XTg} {ds : List D}
theorem xdef_rt (h : es.length = n) (e : xs (startE N es) = .ok (.rt d)) : xDef n N xs es = .ok d := by
  show Rs.guard _ _ = _
  unfold Rs.guard
  rw [if_pos h, e]
  rfl
theorem xdef_nx (h : es.length = n) (e : xs (startE N es) = .ok (.nx ρ)) : xDef n N xs es = .ok .none := by
  show Rs.guard _ _ = _
  unfold Rs.guard
  rw [if_pos h, e]
  rfl
theorem xseq_nx (e : xs ρ = .ok (.nx ρ')) (e2 : xr ρ' = r) : xSeq xs xr ρ = r := by
  show (xs ρ).bind _ = _
  rw [e]
  exact e2
theorem xfor_go (I : Nat → List En → Prop) (e : xi ρ = .ok ds) (st : ∀ (i : Nat) (hi : i < ds.length) (ρ : List En), I i ρ → ∃ ρ1 ρ2, tg ds[i] ρ = some ρ1 ∧ xs ρ1 = .ok (.nx ρ2) ∧ I (i + 1) ρ2) (h0 : I 0 ρ) : ∃ ρ', xFor xi tg xs ρ = .ok (.nx ρ') ∧ I ds.length ρ' := by
  have go : ∀ (r : List D) (n : Nat) (ρ : List En), r = ds.drop n → n ≤ ds.length → I n ρ → ∃ ρ', xfor tg xs r ρ = .ok (.nx ρ') ∧ I ds.length ρ' := by
    intro r
    induction r with
    | nil =>
      intro n ρ e hn h
      have hl := congrArg List.length e
      simp at hl
      have : n = ds.length := by omega
      exact ⟨ρ, rfl, this ▸ h⟩
    | cons d r ih =>
      intro n ρ e hn h
      have hlt : n < ds.length := by
        have hl := congrArg List.length e
        simp at hl
        omega
      rw [List.drop_eq_getElem_cons hlt] at e
      injection e with e1 e2
      obtain ⟨ρ1, ρ2, q1, q2, q3⟩ := st n hlt ρ h
      obtain ⟨ρ', q4, q5⟩ := ih (n + 1) ρ2 e2 hlt q3
      refine ⟨ρ', ?_, q5⟩
      rw [← e1] at q1
      simp [q1, q2, q4]
  obtain ⟨ρ', h1, h2⟩ := go ds 0 ρ rfl (Nat.zero_le _) h0
  refine ⟨ρ', ?_, h2⟩
  show lift (xi ρ) ρ _ = _
  rw [e]
  exact h1
theorem xseq_for (I : Nat → List En → Prop) (e : xi ρ = .ok ds) (st : ∀ (i : Nat) (hi : i < ds.length) (ρ : List En), I i ρ → ∃ ρ1 ρ2, tg ds[i] ρ = some ρ1 ∧ xs ρ1 = .ok (.nx ρ2) ∧ I (i + 1) ρ2) (h0 : I 0 ρ) (k : ∀ ρ', I ds.length ρ' → xr ρ' = r) : xSeq (xFor xi tg xs) xr ρ = r := by
  obtain ⟨ρ', e1, h1⟩ := xfor_go I e st h0
  exact xseq_nx e1 (k ρ' h1)
theorem xlc_all {xe : XE} {j : Nat} : ∀ (ds ys : List D), ds.length = ys.length → (∀ (i : Nat) (h : i < ds.length) (h' : i < ys.length), xe (ρ.set j (.im ds[i])) = .ok ys[i]) → xlc xYes xe ρ j ds = .ok ys
  | [], [], _, _ => rfl
  | d :: r, y :: ys, hl, h => by
    have h0 := h 0 (by simp) (by simp)
    have hr := xlc_all r ys (by simpa using hl) fun i hi hi' => by
      have := h (i + 1) (by simp; omega) (by simp; omega)
      simpa using this
    have h0' : xe (ρ.set j (.im d)) = .ok y := by simpa using h0
    simp [h0', hr]
theorem xret_ok {xa : XE} (e : xa ρ = .ok d) : xRet xa ρ = .ok (.rt d) := by
  show lift (xa ρ) ρ _ = _
  rw [e]
  rfl
theorem xset_ok {xa : XE} {i : Nat} (e : xa ρ = .ok d) : xSet i xa ρ = .ok (.nx (ρ.set i (.im d))) := by
  show lift (xa ρ) ρ _ = _
  rw [e]
  rfl
theorem guard_pos {α : Type} {c : Prop} [Decidable c] {r : Rs α} (h : c) : Rs.guard c r = r := if_pos h
theorem xrng_int {x : XE} {i : Int} (e : x ρ = .ok (.int i)) (h1 : -(2 ^ 62) ≤ i) (h2 : i < 2 ^ 62) : xRng x ρ = .ok (rngD 0 i.toNat) := by
  unfold xRng
  rw [e, Rs.bind_ok, iD_i, Rs.ofO_some, Rs.bind_ok]
  exact guard_pos ⟨h1, h2⟩
theorem xrng2_int {x y : XE} {i k : Int} (e : x ρ = .ok (.int i)) (e2 : y ρ = .ok (.int k)) (h : -(2 ^ 62) ≤ i ∧ i < 2 ^ 62 ∧ -(2 ^ 62) ≤ k ∧ k < 2 ^ 62) : xRng2 x y ρ = .ok (rngD i (k - i).toNat) := by
  unfold xRng2
  rw [e, Rs.bind_ok, e2, Rs.bind_ok, iD_i, Rs.ofO_some, Rs.bind_ok, iD_i, Rs.ofO_some, Rs.bind_ok]
  exact guard_pos h
theorem nat_lo (n : Nat) : -(2 ^ 62) ≤ (n : Int) := by omega
theorem nat_hi {n : Nat} (h : n ≤ 1000) : (n : Int) < 2 ^ 62 := by omega
theorem xrng_ok {x : XE} {n : Nat} (e : x ρ = .ok (.int n)) (h : n ≤ 1000) : xRng x ρ = .ok (rngD 0 n) := (xrng_int e (nat_lo n) (nat_hi h)).trans (by rw [Int.toNat_natCast])
theorem xlc_ok {xe : XE} {j : Nat} {vs : List Nat} {ys : List D} (e : xi ρ = .ok ds) (h : ds.length ≤ 1000) (e2 : xlc xYes xe (wipeE ρ vs) j ds = .ok ys) : xLc xi xYes xe j vs ρ = .ok (.list ys) := by
  show (xi ρ).bind _ = _
  rw [e]
  show Rs.guard _ _ = _
  unfold Rs.guard
  rw [if_pos (by omega), e2]
  rfl
end
theorem rng_len (lo : Int) (n : Nat) : (rngD lo n).length = n := by unfold rngD; simp
theorem rng_at {lo : Int} {n i : Nat} (h : i < (rngD lo n).length) : (rngD lo n)[i] = .int (lo + i) := by
  have e : (rngD lo n)[i]? = some (.int (lo + i)) := by
    have hl := rng_len lo n
    unfold rngD
    simp [show i < n by omega]
  rw [List.getElem?_eq_getElem h] at e
  exact Option.some.inj e
theorem le_a {a b : Int} (h : a ≤ b) : leAD (.int a) (.int b) = some (.bool true) := by
  show some (PyData.bool (decide (a ≤ b))) = _
  rw [decide_eq_true h]
theorem tru_t : truD (.bool true) = some true := rfl
theorem add_i (i j : Int) : addD (.int i) (.int j) = some (.int (i + j)) := rfl
theorem sub_i (i j : Int) : subD (.int i) (.int j) = some (.int (i - j)) := rfl
theorem ixT0 {a b c : D} : ixD (.tuple [a, b, c]) (.int 0) = some a := rfl
theorem ixT1 {a b c : D} : ixD (.tuple [a, b, c]) (.int 1) = some b := rfl
theorem ixT2 {a b c : D} : ixD (.tuple [a, b, c]) (.int 2) = some c := rfl
/-- f(0), .., f(n - 1) -/
def li (f : Nat → Int) (n : Nat) : List D := (List.range n).map fun i => .int (f i)
theorem li_len (f : Nat → Int) (n : Nat) : (li f n).length = n := by simp [li]
theorem li_get {f : Nat → Int} {n i : Nat} (h : i < (li f n).length) : (li f n)[i] = .int (f i) := by simp [li]
theorem li_at {f : Nat → Int} {n i : Nat} (h : i < n) : ixD (.list (li f n)) (.int i) = some (.int (f i)) := by
  rw [ixL (li f n) (by rw [li_len]; exact h), li_get]
theorem li_succ (f : Nat → Int) (n : Nat) : li f n ++ [.int (f n)] = li f (n + 1) := by simp [li, List.range_succ]
theorem li_last (f : Nat → Int) (n : Nat) : ixD (.list (li f (n + 1))) (.int (-1)) = some (.int (f n)) := by
  show atI (li f (n + 1)) (-1) = _
  unfold atI ixN
  rw [if_neg (by omega), li_len, if_pos (by omega)]
  have e : (-1 + ((n + 1 : Nat) : Int)).toNat = n := by omega
  show (li f (n + 1))[(-1 + ((n + 1 : Nat) : Int)).toNat]? = _
  rw [e]
  simp [li]
section
variable {xs xr : XS} {ρ ρ' : List En} {r : Rs Fl} {d : D} {n : Nat} {xa xb xc : XE} {ds : List D} {x y z : D}
theorem xop_ok {f : D → D → Option D} (e1 : xa ρ = .ok x) (e2 : xb ρ = .ok y) (e3 : f x y = some z) : xOp f xa xb ρ = .ok z := by
  show (xa ρ).bind _ = _
  rw [e1]
  show (xb ρ).bind _ = _
  rw [e2]
  show Rs.ofO (f x y) = _
  rw [e3]
  rfl
theorem xf_ok {f : D → Option D} (e1 : xa ρ = .ok x) (e3 : f x = some z) : xF f xa ρ = .ok z := by
  show (xa ρ).bind _ = _
  rw [e1]
  show Rs.ofO (f x) = _
  rw [e3]
  rfl
theorem xapp_ok {i : Nat} (e : ρ[i]? = some (.ls ds)) (e1 : xa ρ = .ok d) (h : ds.length < LIM) : xApp i xa ρ = .ok (.nx (ρ.set i (.ls (ds ++ [d])))) := by
  unfold xApp
  rw [e]
  show lift (xa ρ) ρ _ = _
  rw [e1]
  exact guard_pos h
theorem xownl_ok {i : Nat} {xA : XA} (e : xA ρ = .ok ds) (h : ds.length ≤ 1000) : xOwn i (xnLst xA) ρ = .ok (.nx (ρ.set i (.ls ds))) := by
  show lift ((xA ρ).bind _) ρ _ = _
  rw [e]
  show lift (Rs.guard _ _) ρ _ = _
  rw [guard_pos (Nat.le_trans h (by decide))]
  rfl
theorem xcons_ok {xA : XA} (e1 : xa ρ = .ok d) (e2 : xA ρ = .ok ds) : xCons xa xA ρ = .ok (d :: ds) := by
  show (xa ρ).bind _ = _
  rw [e1]
  show (xA ρ).bind _ = _
  rw [e2]
  rfl
theorem xseal_ok {i : Nat} (e : ρ[i]? = some (.ls ds)) (e1 : xs (ρ.set i (.im (.list ds))) = r) : xSeal i xs ρ = r := by
  unfold xSeal
  rw [e]
  exact e1
theorem xcall_ok {x : XFn} {xg : XG} {es : List En} (e : xg ρ = .ok es) (e1 : x es = .ok d) : xCall x xg ρ = .ok d := by
  show (xg ρ).bind _ = _
  rw [e]
  show (x es).calm = _
  rw [e1]
  rfl
theorem xdrop_ok (e1 : xa ρ = .ok d) : xDrop xa ρ = .ok (.nx ρ) := by
  show lift (xa ρ) ρ _ = _
  rw [e1]
  rfl
theorem xcallX_ok {x : XFn} {xg : XG} {es : List En} (e : xg ρ = .ok es) (e1 : x es = .ok d) : xCallX x xg ρ = .ok d := by
  show (xg ρ).bind _ = _
  rw [e]
  exact e1
end
theorem lim40 {n : Nat} (h : n ≤ 1000) : n < LIM := Nat.lt_of_le_of_lt h (by decide)
theorem neg1 : negD (.int 1) = some (.int (-1)) := rfl
theorem cat_nat (i : Nat) : ((i + 1 : Nat) : Int) - 1 = i := by omega
theorem gt_i (i j : Int) : gtD (.int i) (.int j) = some (.bool (decide (j < i))) := rfl
theorem lt_i (i j : Int) : ltD (.int i) (.int j) = some (.bool (decide (i < j))) := rfl
theorem eq_i (i j : Int) : eqD (.int i) (.int j) = some (.bool (i == j)) := eq_intD i j
theorem max_i (i j : Int) : max2D (.int i) (.int j) = some (.int (max i j)) := rfl
section
variable {xs xr : XS} {ρ : List En} {r : Rs Fl} {d x : D} {xa xb : XE} {xt xu : XT} {b : Bool}
theorem xtst_ok (e : xa ρ = .ok (.bool b)) : xTst xa ρ = .ok b := by
  show (xa ρ).bind _ = _
  rw [e]
  rfl
theorem xifT (e : xt ρ = .ok true) (h : xs ρ = r) : xIf xt xs xr ρ = r := by
  show lift (xt ρ) ρ _ = _
  rw [e]
  exact h
theorem xifF (e : xt ρ = .ok false) (h : xr ρ = r) : xIf xt xs xr ρ = r := by
  show lift (xt ρ) ρ _ = _
  rw [e]
  exact h
theorem xifeT (e : xt ρ = .ok true) (h : xa ρ = .ok d) : xIfE xt xa xb ρ = .ok d := by
  show (xt ρ).bind _ = _
  rw [e]
  exact h
theorem xifeF (e : xt ρ = .ok false) (h : xb ρ = .ok d) : xIfE xt xa xb ρ = .ok d := by
  show (xt ρ).bind _ = _
  rw [e]
  exact h
theorem xandT (e : xt ρ = .ok true) (h : xu ρ = .ok b) : xAnd xt xu ρ = .ok b := by
  show (xt ρ).bind _ = _
  rw [e]
  exact h
theorem xandF (e : xt ρ = .ok false) : xAnd xt xu ρ = .ok false := by
  show (xt ρ).bind _ = _
  rw [e]
  rfl
theorem xent_ok {ds : List D} (e : xa ρ = .ok (.tuple ds)) : xEnT xa ρ = .ok (enumD ds) := by
  show (xa ρ).bind _ = _
  rw [e]
  rfl
end
theorem enum_len (ds : List D) : (enumD ds).length = ds.length := by unfold enumD; simp
theorem enum_at {ds : List D} {i : Nat} (h : i < (enumD ds).length) : (enumD ds)[i] = .tuple [.int (i : Nat), ds[i]'(by rw [enum_len] at h; exact h)] := by
  simp [enumD]
section
variable {xs xr : XS} {ρ ρ' : List En} {r : Rs Fl} {d : D} {n : Nat} {xi : XA} {ds ys : List D} {xe : XE}
theorem xlcT_all {js : List Nat} : ∀ (ds ys : List D), ds.length = ys.length → (∀ (i : Nat) (h : i < ds.length) (h' : i < ys.length), ∃ es ρ', ds[i] = .tuple es ∧ gTx js es ρ = some ρ' ∧ xe ρ' = .ok ys[i]) → xlcT xYes xe ρ js ds = .ok ys
  | [], [], _, _ => rfl
  | d :: r, y :: ys, hl, h => by
    obtain ⟨es, ρ', e1, e2, e3⟩ := h 0 (by simp) (by simp)
    have hr := xlcT_all r ys (by simpa using hl) fun i hi hi' => by
      have := h (i + 1) (by simp; omega) (by simp; omega)
      simpa using this
    have e1' : d = .tuple es := by simpa using e1
    have e3' : xe ρ' = .ok y := by simpa using e3
    subst e1'
    simp [e2, e3', hr]
theorem xlcT_ok {js vs : List Nat} (e : xi ρ = .ok ds) (h : ds.length ≤ 1000) (e2 : xlcT xYes xe (wipeE ρ vs) js ds = .ok ys) : xLcT xi xYes xe js vs ρ = .ok (.list ys) := by
  show (xi ρ).bind _ = _
  rw [e]
  show Rs.guard _ _ = _
  unfold Rs.guard
  rw [if_pos (by omega), e2]
  rfl
theorem xlcF_ok {xt : XT} {j : Nat} {vs : List Nat} (e : xi ρ = .ok ds) (h : ds.length ≤ 1000) (e2 : xlc xt xe (wipeE ρ vs) j ds = .ok ys) : xLc xi xt xe j vs ρ = .ok (.list ys) := by
  show (xi ρ).bind _ = _
  rw [e]
  show Rs.guard _ _ = _
  unfold Rs.guard
  rw [if_pos (by omega), e2]
  rfl
theorem xlc_fil {xt : XT} {j : Nat} (p : Nat → Bool) (f : Nat → D) : ∀ (ds : List D) (b : Nat), (∀ (i : Nat) (h : i < ds.length), xt (ρ.set j (.im ds[i])) = .ok (p (b + i)) ∧ (p (b + i) = true → xe (ρ.set j (.im ds[i])) = .ok (f (b + i)))) → xlc xt xe ρ j ds = .ok (((List.range' b ds.length).filter p).map f)
  | [], b, _ => rfl
  | d :: r, b, h => by
    obtain ⟨h1, h2⟩ := h 0 (by simp)
    have hr := xlc_fil p f r (b + 1) fun i hi => by
      have := h (i + 1) (by simp; omega)
      rw [show b + (i + 1) = b + 1 + i by omega] at this
      simpa using this
    have h1' : xt (ρ.set j (.im d)) = .ok (p b) := by simpa using h1
    show ((xt (ρ.set j (.im d))).calm.bind _) = _
    rw [h1']
    show (if p b = true then _ else _) = _
    rw [List.length_cons, List.range'_succ]
    cases hb : p b with
    | true =>
      have h2' : xe (ρ.set j (.im d)) = .ok (f b) := by simpa using h2 (by simpa using hb)
      simp [h2', hr, hb]
    | false => simp [hr, hb]
theorem xcat_ok {xa xb : XE} {u v : List D} (e1 : xa ρ = .ok (.list u)) (e2 : xb ρ = .ok (.list v)) (h : u.length + v.length ≤ 1000) : xOp catD xa xb ρ = .ok (.list (u ++ v)) := by
  refine xop_ok e1 e2 ?_
  show (if u.length + v.length ≤ LIM then some (PyData.list (u ++ v)) else none) = _
  rw [if_pos (Nat.le_trans h (by decide))]
end
theorem xorF {xt xu : XT} {ρ : List En} {b : Bool} (e : xt ρ = .ok false) (h : xu ρ = .ok b) : xOr xt xu ρ = .ok b := by
  show (xt ρ).bind _ = _
  rw [e]
  exact h
theorem xorT {xt xu : XT} {ρ : List En} (e : xt ρ = .ok true) : xOr xt xu ρ = .ok true := by
  show (xt ρ).bind _ = _
  rw [e]
  rfl
theorem xaug_ok {g : Int → Int → Int} {i : Nat} {xa : XE} {ρ : List En} {a b : Int} (e : ρ[i]? = some (.im (.int a))) (e1 : xa ρ = .ok (.int b)) : xAug g i xa ρ = .ok (.nx (ρ.set i (.im (.int (g a b))))) := by
  unfold xAug
  rw [e]
  show lift (xa ρ) ρ _ = _
  rw [e1]
  rfl
theorem xmulA_ok {i : Nat} {xa : XE} {ρ : List En} {a b : Int} (e : ρ[i]? = some (.im (.int a))) (e1 : xa ρ = .ok (.int b)) (h : -(2 ^ 64) < b ∧ b < 2 ^ 64) : xMulA i xa ρ = .ok (.nx (ρ.set i (.im (.int (a * b))))) := by
  unfold xMulA
  rw [e]
  show lift (xa ρ) ρ _ = _
  rw [e1]
  exact guard_pos h
theorem ne_i (i j : Int) : neD (.int i) (.int j) = some (.bool (!(i == j))) := by
  unfold neD
  rw [if_pos ⟨rfl, rfl, rfl, rfl⟩]
  rfl
theorem forGo_inv {tg : WGt} {ws : WS} {dd : Dd} (I : Nat → List En → Nat → Prop) : ∀ (ds : List D) (n : Nat) (ρ : List En) (c : Nat),
    (∀ (i : Nat) (hi : i < ds.length) (ρ : List En) (c : Nat) (dd' : Dd), dd'.rt = dd.rt → I (n + i) ρ c → (∀ ρ' c', I (n + i + 1) ρ' c' → dd'.nx ρ' c') → tg ds[i] ρ fun ρ' => ws dd' ρ' c) →
    I n ρ c → (∀ ρ c, I (n + ds.length) ρ c → dd.nx ρ c) → forGo tg ws ds dd ρ c
  | [], n, ρ, c, _, h0, hn => hn ρ c h0
  | d :: r, n, ρ, c, st, h0, hn => by
    refine st 0 (by simp) ρ c _ rfl h0 fun ρ' c' h' => ?_
    refine forGo_inv I r (n + 1) ρ' c' (fun i hi ρ c dd' e h k => ?_) h' fun ρ c h => hn ρ c ?_
    · have := st (i + 1) (by simp; omega) ρ c dd' e (by rw [show n + (i + 1) = n + 1 + i by omega]; exact h) (by rw [show n + (i + 1) + 1 = n + 1 + i + 1 by omega]; exact k)
      simpa using this
    · rw [List.length_cons, show n + (r.length + 1) = n + 1 + r.length by omega]
      exact h
theorem nxt {x : XS} {w : WS} (k : RfS noR x w) {ρ ρ' : List En} (e : x ρ = .ok (.nx ρ')) {dd : Dd} {c : Nat} (q : dd.nx ρ' c) : w dd ρ c := k dd ρ c (by rw [e]; exact q)
theorem rtn {x : XS} {w : WS} (k : RfS noR x w) {ρ : List En} {d : D} (e : x ρ = .ok (.rt d)) {dd : Dd} {c : Nat} (q : dd.rt d c) : w dd ρ c := k dd ρ c (by rw [e]; exact q)
/-- a number is drawn -/
theorem drw {i : Nat} {ρ : List En} {c : Nat} {Q : D → Nat → Prop} {xa : XE} {wa : WE} (k : RfE (fun _ _ _ => False) xa wa) {t : Int} (e : xa ρ = .ok (.int t)) (h0 : ρ[i]? = some .st) (h1 : 0 < t) (h2 : t < 2 ^ 200) (hc : c < 2 ^ 60) (q : ∀ n : Nat, (n : Int) < t → Q (.int n) (c + 1)) : wCall nextW (gSt i (gIm wa HW.gNil)) ρ c Q :=
  ⟨h0, k ρ c _ (by rw [e]; exact ⟨t, rfl, h1, h2, hc, fun n g0 g1 => by
    obtain ⟨m, rfl⟩ := Int.eq_ofNat_of_zero_le g0
    exact q m g1⟩)⟩
theorem cast1 (k : Nat) : (1 : Int) + (k : Int) = ((k + 1 : Nat) : Int) := by omega
theorem ne_rp {d : D} {W dep : Nat} (h : Rp d W dep) (hd : dep ≤ 60) : neD d d = some (.bool false) := by
  unfold neD
  have sh : SeqAt.shaped d = true := by
    show (PyData.canLay0 d && decide (PyData.depth d ≤ 64)) = true
    have := h.d
    rw [h.l, decide_eq_true (by omega)]
    rfl
  rw [if_pos ⟨h.f, h.f, sh, sh⟩, SeqAt.eqv_refl d h.l]
  rfl
theorem log_small {i : Int} (h0 : 0 ≤ i) (h1 : i < 10 ^ 10) : i.natAbs.log2 < 1920 := Nat.lt_of_lt_of_le (PySem.Flt.log2_lt_of (k := 34) (by decide) (by omega)) (by decide)
theorem repI {i : Int} (h0 : 0 ≤ i) (h1 : i < 10 ^ 10) : reprID (.int i) = some (.str (toString i)) := if_pos (log_small h0 h1)
theorem ne_tos (i : Int) : neD (.str (toString i)) (.str (toString i)) = some (.bool false) := by
  have := okS_int i
  rw [PyData.shown_int] at this
  exact ne_same this
theorem forGo_inv2 {tg : WGt} {ws : WS} {dd : Dd} (I : Nat → List En → Nat → Prop) : ∀ (ds : List D) (n : Nat) (ρ : List En) (c : Nat),
    (∀ (i : Nat) (hi : i < ds.length) (ρ : List En) (c : Nat) (dd' : Dd), dd'.rt = dd.rt → I (n + i) ρ c → (∀ ρ' c', I (n + i + 1) ρ' c' → dd'.nx ρ' c' ∧ dd'.ct ρ' c') → tg ds[i] ρ fun ρ' => ws dd' ρ' c) →
    I n ρ c → (∀ ρ c, I (n + ds.length) ρ c → dd.nx ρ c) → forGo tg ws ds dd ρ c
  | [], n, ρ, c, _, h0, hn => hn ρ c h0
  | d :: r, n, ρ, c, st, h0, hn => by
    refine st 0 (by simp) ρ c _ rfl h0 fun ρ' c' h' => ?_
    have key : forGo tg ws r dd ρ' c' := by
      refine forGo_inv2 I r (n + 1) ρ' c' (fun i hi ρ c dd' e h k => ?_) h' fun ρ c h => hn ρ c ?_
      · have := st (i + 1) (by simp; omega) ρ c dd' e (by rw [show n + (i + 1) = n + 1 + i by omega]; exact h) (by rw [show n + (i + 1) + 1 = n + 1 + i + 1 by omega]; exact k)
        simpa using this
      · rw [List.length_cons, show n + (r.length + 1) = n + 1 + r.length by omega]
        exact h
    exact ⟨key, key⟩
theorem ofA {R : RR} {xA : XA} {wA : WA} (k : RfA R xA wA) {ρ : List En} {ds : List D} (e : xA ρ = .ok ds) {Q : List D → Nat → Prop} {c : Nat} (q : Q ds c) : wA ρ c Q := k ρ c Q (by rw [e]; exact q)
theorem le_i (a b : Int) : leAD (.int a) (.int b) = some (.bool (decide (a ≤ b))) := rfl
theorem ge_i (a b : Int) : geD (.int a) (.int b) = some (.bool (decide (b ≤ a))) := rfl
theorem repN {i : Int} (h0 : 0 ≤ i) (h1 : i < 10 ^ 10) : reprND (.int i) = some (.str (toString i)) := if_pos (log_small h0 h1)
theorem rng_in {i : Int} (h0 : 0 ≤ i) (h1 : i < 1000) : -(2 ^ 62) ≤ i ∧ i < 2 ^ 62 := by omega
end Pf

/-! C2: texts -/
namespace Pf
open PySem L2 HW
def Sm (l : List Nat) : Prop := (∀ c ∈ l, c < 0x110000) ∧ l.length ≤ 1000
theorem lay_S {l : List Nat} (h : ∀ c ∈ l, c < 0x110000) : SeqAt.shaped (.str (S l)) = true := by
  show (PyData.canLay0 (.str (S l)) && decide (PyData.depth (.str (S l)) ≤ 64)) = true
  have : PyData.canLay0 (.str (S l)) = true := by
    show (S l).cps.all (· < 0x110000) = true
    simp [S]
    exact h
  rw [this]
  rfl
theorem eq_S {a b : List Nat} (ha : ∀ c ∈ a, c < 0x110000) (hb : ∀ c ∈ b, c < 0x110000) : eqD (.str (S a)) (.str (S b)) = some (.bool (decide (a = b))) := by
  unfold eqD
  rw [if_pos ⟨rfl, rfl, lay_S ha, lay_S hb⟩]
  show some (PyData.bool (S a == S b)) = _
  rw [S_beq]
theorem ne_S {a b : List Nat} (ha : ∀ c ∈ a, c < 0x110000) (hb : ∀ c ∈ b, c < 0x110000) : neD (.str (S a)) (.str (S b)) = some (.bool (!decide (a = b))) := by
  unfold neD
  rw [if_pos ⟨rfl, rfl, lay_S ha, lay_S hb⟩]
  show some (PyData.bool (!(S a == S b))) = _
  rw [S_beq]
theorem lim {n : Nat} (h : n ≤ 1000) : n ≤ LIM := Nat.le_trans h (by decide)
theorem len_S (l : List Nat) (h : l.length ≤ LIM) : lenD (.str (S l)) = some (.int l.length) := by
  show (if (S l).length ≤ LIM then some (PyData.int (S l).length) else none) = _
  rw [S_len, if_pos h]
abbrev sE (l : List Nat) : En := .im (.str (S l))
theorem tw_all {p : Nat → Bool} : ∀ {l : List Nat}, (∀ c ∈ l, p c = true) → l.takeWhile p = l
  | [], _ => rfl
  | a :: r, h => by rw [List.takeWhile_cons, if_pos (h a List.mem_cons_self), tw_all fun c hc => h c (List.mem_cons_of_mem _ hc)]
theorem sig_at {l : List Nat} {i : Nat} (h : i < (signs (S l)).length) : ∃ h' : i < l.length, (signs (S l))[i] = cD l[i] := by
  have e := signs_S l
  have h1 : i < l.length := by rw [e, List.length_map] at h; exact h
  refine ⟨h1, ?_⟩
  have : (signs (S l))[i]? = (l.map cD)[i]? := by rw [e]
  rw [List.getElem?_eq_getElem h, List.getElem?_map, List.getElem?_eq_getElem h1] at this
  exact Option.some.inj this
theorem strip_all {x y : List Nat} (h : ∀ c ∈ x, c ∈ y) : Txt.stripChars (S x) (S y) = S [] := by
  unfold Txt.stripChars
  rw [PyProof.Rows.stripBy_eq]
  have e : (S x).cps.toList.takeWhile (S y).cps.contains = x := by
    rw [S_cps]
    refine tw_all fun c hc => ?_
    simpa [S] using h c hc
  have lo : stripLo (S y).cps.contains true (S x) = x.length := by
    unfold stripLo
    rw [if_pos rfl, e]
  rw [lo]
  have hi : stripHi (S y).cps.contains true (S x) x.length = x.length := by
    unfold stripHi
    rw [if_pos rfl, S_cps, List.drop_length]
    simp [S_len]
  rw [hi]
  show (⟨(S x).cps.extract x.length x.length⟩ : Str) = S []
  simp [S]
theorem sig_len (l : List Nat) : (signs (S l)).length = l.length := by rw [signs_S, List.length_map]
theorem sl_S (l : List Nat) (lo hi : Option Int) (h : l.length ≤ LIM) : slD (.str (S l)) lo hi = some (.str (S (cutL l lo hi))) := by
  show (if (S l).length ≤ LIM then some (PyData.str (cutS (S l) lo hi)) else none) = _
  rw [S_len, if_pos h]
  unfold cutS cutL
  rw [S_cps, S_len]
  rfl
theorem joinC_S : ∀ ls : List Nat, Str.join (S []) (ls.map fun c => S [c]) = S ls
  | [] => rfl
  | [c] => rfl
  | c :: d :: r => by
    have ih := joinC_S (d :: r)
    show S [c] ++ S [] ++ Str.join (S []) ((d :: r).map fun c => S [c]) = _
    rw [ih, S_add, S_add]
    rfl
theorem joinS (ls : List Nat) (h : ls.length ≤ 1000) : joinD (.str "") (.list (ls.map cD)) = some (.str (S ls)) := by
  show ((some (ls.map cD)).bind strsOf).bind _ = _
  rw [Option.bind_some, show ls.map cD = (ls.map fun c => S [c]).map PyData.str by simp, strsOf_map, Option.bind_some]
  have e1 : ((ls.map fun c => S [c]).map (·.length)).sum = ls.length := by
    rw [List.map_map]
    have : ((fun x : Str => x.length) ∘ fun c => S [c]) = fun _ => 1 := by funext c; exact S_len [c]
    rw [this]
    clear h
    induction ls with
    | nil => rfl
    | cons a r ih => simp [ih]; omega
  rw [e1]
  rw [if_pos (by show ls.length + _ * 0 ≤ _; omega)]
  show some (PyData.str (Builtin.Str.glued (S []) _)) = _
  rw [PySem.StrLaws.glued_eq_join, joinC_S]
theorem cut_one (l : List Nat) {i : Nat} (h : i ≤ l.length) : cutL l (some (i : Int)) (some ((i : Int) + 1)) = (l.drop i).take 1 := by
  unfold cutL
  rw [show (i : Int) + 1 = ((i + 1 : Nat) : Int) by omega, HT.sIx_nat, HT.sIx_nat, show min i l.length = i by omega]
  by_cases h2 : i < l.length
  · rw [show min (i + 1) l.length - i = 1 by omega]
  · rw [List.drop_eq_nil_of_le (by omega)]
    simp
theorem cut_lo (l : List Nat) {i : Nat} (h : i ≤ l.length) : cutL l none (some (i : Int)) = l.take i := by
  unfold cutL
  rw [HT.sIx_nat, HT.sIx_none, show min i l.length - 0 = i by omega]
  rfl
theorem cut_hi (l : List Nat) (i : Nat) : cutL l (some ((i : Int) + 1)) none = l.drop (i + 1) := by
  unfold cutL
  rw [show (i : Int) + 1 = ((i + 1 : Nat) : Int) by omega, HT.sIx_nat, HT.sIx_none]
  by_cases h2 : i + 1 ≤ l.length
  · rw [show min (i + 1) l.length = i + 1 by omega, List.take_of_length_le (by simp)]
  · rw [List.drop_eq_nil_of_le (by omega : l.length ≤ i + 1), List.drop_eq_nil_of_le (by omega)]
    simp
theorem xcatW_ok {xa xb : XE} {ρ : List En} {u v : List D} (e1 : xa ρ = .ok (.list u)) (e2 : xb ρ = .ok (.list v)) (h : u.length + v.length ≤ LIM) : xOp catD xa xb ρ = .ok (.list (u ++ v)) := xop_ok e1 e2 (if_pos h)
theorem xlcW_ok {xi : XA} {xt : XT} {xe : XE} {ρ : List En} {ds ys : List D} {j : Nat} {vs : List Nat} (e : xi ρ = .ok ds) (h : ds.length ≤ 16000000) (e2 : xlc xt xe (wipeE ρ vs) j ds = .ok ys) : xLc xi xt xe j vs ρ = .ok (.list ys) := by
  show (xi ρ).bind _ = _
  rw [e]
  show Rs.guard _ _ = _
  unfold Rs.guard
  rw [if_pos h, e2]
  rfl
theorem xlc_filL {α : Type} {xt : XT} {xe : XE} {ρ : List En} {j : Nat} (p : α → Bool) (f g : α → D) : ∀ (ws : List α), (∀ w ∈ ws, xt (ρ.set j (.im (f w))) = .ok (p w) ∧ (p w = true → xe (ρ.set j (.im (f w))) = .ok (g w))) → xlc xt xe ρ j (ws.map f) = .ok ((ws.filter p).map g)
  | [], _ => rfl
  | w :: r, h => by
    obtain ⟨h1, h2⟩ := h w List.mem_cons_self
    have hr := xlc_filL p f g r fun x hx => h x (List.mem_cons_of_mem _ hx)
    show ((xt (ρ.set j (.im (f w)))).calm.bind _) = _
    rw [h1]
    show (if p w = true then _ else _) = _
    rw [List.filter_cons]
    cases hb : p w with
    | true => simp [h2 hb, hr]
    | false => simp [hr]
theorem xtru_ok {xa : XE} {ρ : List En} {b : Bool} (e : xa ρ = .ok (.bool b)) : xTru xa ρ = .ok b := by
  show (xa ρ).bind _ = _
  rw [e]
  rfl
theorem xitL_ok {xa : XE} {ρ : List En} {ds : List D} (e : xa ρ = .ok (.list ds)) : xItL xa ρ = .ok ds := by
  show (xa ρ).bind _ = _
  rw [e]
  rfl
theorem xitS_ok {xa : XE} {ρ : List En} {l : List Nat} (e : xa ρ = .ok (.str (S l))) : xItS xa ρ = .ok (l.map cD) := by
  show (xa ρ).bind _ = _
  rw [e]
  show Rs.ok (signs (S l)) = _
  rw [signs_S]
theorem xsl_ok {xa : XE} {xl xh : XO} {ρ : List En} {x z : D} {o p : Option Int} (e : xa ρ = .ok x) (e1 : xl ρ = .ok o) (e2 : xh ρ = .ok p) (e3 : slD x o p = some z) : xSl xa xl xh ρ = .ok z := by
  show (xa ρ).bind _ = _
  rw [e]
  show (xl ρ).bind _ = _
  rw [e1]
  show (xh ρ).bind _ = _
  rw [e2]
  show Rs.ofO _ = _
  rw [e3]
  rfl
theorem xso_ok {xa : XE} {ρ : List En} {i : Int} (e : xa ρ = .ok (.int i)) : xSo xa ρ = .ok (some i) := by
  show (xa ρ).bind _ = _
  rw [e]
  rfl
theorem xfind_ok {xa xb xc : XE} {ρ : List En} {s t : Str} {i : Int} (e : xa ρ = .ok (.str s)) (e1 : xb ρ = .ok (.str t)) (e2 : xc ρ = .ok (.int i)) : xFind xa xb xc ρ = .ok (.int (Txt.find3 s t i)) := by
  unfold xFind
  rw [e]
  show (xb ρ).bind _ = _
  rw [e1]
  show (xc ρ).bind _ = _
  rw [e2]
  rfl
end Pf

/-! L1: short texts, words or none; how they are shown -/
namespace Pf
open PySem L2 HW
abbrev codeL : List Nat := [48, 49, 50, 51, 52, 53, 54, 55, 56, 57, 97, 98, 99, 100, 101, 102, 103, 104, 105, 106, 107, 108, 109, 110, 111, 112, 113, 114, 115, 116, 117, 118, 119, 120, 121, 122]
theorem code_eq : ("0123456789abcdefghijklmnopqrstuvwxyz" : Str) = S codeL := rfl
theorem code_lo {c : Nat} (h : c ∈ codeL) : c < 0x110000 := by
  have : ∀ c ∈ codeL, c < 0x110000 := by decide
  exact this c h
abbrev sD (w : List Nat) : D := .str (S w)
abbrev oddC : List Nat := codeL ++ [65, 32]
/-- the texts that come about: of the code's signs, or one of two others -/
def SOk (l : List Nat) : Prop := l.length ≤ 12 ∧ ((∀ c ∈ l, c ∈ codeL) ∨ l = [65] ∨ l = [97, 32, 98])
theorem SOk.mem {l : List Nat} (h : SOk l) : ∀ c ∈ l, c ∈ oddC := fun c hc => by
  rcases h.2 with h | rfl | rfl
  · exact List.mem_append_left _ (h c hc)
  · revert c; decide
  · revert c; decide
theorem odd_lo {c : Nat} (h : c ∈ oddC) : c < 0x110000 := by
  have : ∀ c ∈ oddC, c < 0x110000 := by decide
  exact this c h
theorem SOk.lo {l : List Nat} (h : SOk l) : ∀ c ∈ l, c < 0x110000 := fun c hc => odd_lo (h.mem c hc)
theorem SOk.lim {l : List Nat} (h : SOk l) : l.length ≤ LIM := Nat.le_trans h.1 (by decide)
def isC (l : List Nat) : Bool := l.all fun c => decide (c ∈ codeL)
theorem isC_iff {l : List Nat} : isC l = true ↔ ∀ c ∈ l, c ∈ codeL := by
  unfold isC
  rw [List.all_eq_true]
  simp only [decide_eq_true_eq]
/-- strip(signs) == '' -/
theorem strip_c {l : List Nat} (h : SOk l) : ∃ z : Str, scD (sD l) (sD codeL) = some (.str z) ∧ eqD (.str z) (.str "") = some (.bool (isC l)) := by
  have sc : scD (sD l) (sD codeL) = some (.str (Txt.stripChars (S l) (S codeL))) := if_pos (by rw [S_len]; exact h.lim)
  refine ⟨_, sc, ?_⟩
  rcases h.2 with z | rfl | rfl
  · rw [strip_all z, isC_iff.mpr z]
    exact eq_S (a := []) (b := []) (by simp) (by simp)
  · kernel_rfl
  · kernel_rfl
def isWl (l : List Nat) (m : Int) : Bool := decide ((1 : Int) ≤ l.length) && (decide ((l.length : Int) ≤ m) && isC l)
theorem ne_nil {l : List Nat} (h : SOk l) : neD (sD l) (.str "") = some (.bool (decide ((1 : Int) ≤ l.length))) := by
  rw [show (PyData.str "" : D) = sD [] from rfl, ne_S h.lo (by simp)]
  congr 2
  cases l with
  | nil => rfl
  | cons a r => simp; omega
section
variable {xa xb xc : XE} {ρ : List En} {a b : Bool} {r : Rs D} {x y z d : D} {f g : D → D → Option D}
theorem xandV_T (e : xa ρ = .ok (.bool true)) (h : xb ρ = r) : xAndV xa xb ρ = r := by
  show (xa ρ).bind _ = _
  rw [e]
  exact h
theorem xandV_F (e : xa ρ = .ok (.bool false)) : xAndV xa xb ρ = .ok (.bool false) := by
  show (xa ρ).bind _ = _
  rw [e]
  rfl
theorem xandV_b (e : xa ρ = .ok (.bool a)) (h : xb ρ = .ok (.bool b)) : xAndV xa xb ρ = .ok (.bool (a && b)) := by
  cases a with
  | true => exact xandV_T e h
  | false => exact xandV_F e
theorem xnotV_b (e : xa ρ = .ok (.bool a)) : xNotV xa ρ = .ok (.bool (!a)) := by
  show (xa ρ).bind _ = _
  rw [e]
  rfl
theorem xlk {i : Nat} (h : ρ[i]? = some (.im d)) : xLook i ρ = .ok d := by
  show Rs.ofO (ρ[i]?.bind En.look) = _
  rw [h]
  rfl
theorem xvr {i : Nat} (h : ρ[i]? = some (.im d)) : xVar i ρ = .ok d := by
  show (match ρ[i]? with | some (.im d) => Rs.ok d | _ => .bad) = _
  rw [h]
theorem xchain_b {i j : Bool} (e1 : xa ρ = .ok x) (e2 : xb ρ = .ok y) (e3 : xc ρ = .ok z) (h1 : f x y = some (.bool i)) (h2 : g y z = some (.bool j)) : xChain f g xa xb xc ρ = .ok (.bool (i && j)) := by
  show (xa ρ).bind _ = _
  rw [e1]
  show (xb ρ).bind _ = _
  rw [e2]
  show (Rs.ofO ((f x y).bind bl)).bind _ = _
  rw [h1]
  cases i with
  | true =>
    show (xc ρ).bind _ = _
    rw [e3]
    show Rs.ofO (g y z) = _
    rw [h2]
    rfl
  | false => rfl
theorem xms_ok {s : Str} (e1 : xa ρ = .ok (.str s)) (e2 : xb ρ = .ok y) (e3 : f (.str s) y = some z) : xMS f xa xb ρ = .ok z := by
  show (xa ρ).bind _ = _
  rw [e1]
  refine (guard_pos (show isStr (.str s) = true from rfl)).trans ?_
  rw [e2]
  show Rs.ofO (f (.str s) y) = _
  rw [e3]
  rfl
theorem xor_b {xt xu : XT} {a b : Bool} (e : xt ρ = .ok a) (h : xu ρ = .ok b) : xOr xt xu ρ = .ok (a || b) := by
  cases a with
  | true => exact xorT e
  | false => exact xorF e h
theorem xnot_b {xt : XT} {b : Bool} (e : xt ρ = .ok b) : xNot xt ρ = .ok (!b) := by
  show (xt ρ).bind _ = _
  rw [e]
  rfl
theorem tru_b {b : Bool} (e : xa ρ = .ok (.bool b)) : xNot (xTru xa) ρ = .ok (!b) := xnot_b (xtru_ok e)
theorem xg1 (e : xa ρ = .ok d) : xgIm xa xgNil ρ = .ok [.im d] := by
  show (xa ρ).bind _ = _
  rw [e]
  rfl
theorem xgc {xg : XG} {es : List En} (e : xa ρ = .ok d) (h : xg ρ = .ok es) : xgIm xa xg ρ = .ok (.im d :: es) := by
  show (xa ρ).bind _ = _
  rw [e]
  show (xg ρ).bind _ = _
  rw [h]
  rfl
theorem xgnil_ok {ρ : List En} : xgNil ρ = .ok [] := rfl
end
/-- a leaf: where it is a text, one of these -/
def LfS (d : D) : Prop := ∀ s, d = .str s → ∃ l, s = S l ∧ SOk l
def isWd (d : D) (m : Int) : Bool := match d with
  | .str s => isWl s.cps.toList m
  | _ => false
theorem isWd_S (l : List Nat) (m : Int) : isWd (sD l) m = isWl l m := by
  show isWl ((S l).cps.toList) m = _
  rw [show (S l).cps.toList = l from by simp [S]]
theorem isi_s (d : D) (h : ∀ s, d ≠ .str s) : isiD "str" d = some (.bool false) := by
  cases d <;> first | rfl | exact absurd rfl (h _)
theorem r_word {l : List Nat} (h : SOk l) : x_is_word [.im (sD l), .im (.str (S codeL))] = .ok (.bool (decide ((1 : Int) ≤ l.length) && isC l)) := by
  obtain ⟨z, e1, e2⟩ := strip_c h
  exact xdef_rt rfl (xret_ok (xandV_T (xf_ok (xlk rfl) rfl) (xandV_b (xop_ok (xlk rfl) rfl (ne_nil h)) (xop_ok (xms_ok (xlk rfl) (xlk rfl) e1) rfl e2))))
theorem r_short {d : D} (h : LfS d) (m : Int) : x_is_short_word [.im d, .im (.str (S codeL)), .im (.int m)] = .ok (.bool (isWd d m)) := by
  refine xdef_rt rfl (xret_ok ?_)
  by_cases hs : ∃ s, d = .str s
  · obtain ⟨s, rfl⟩ := hs
    obtain ⟨l, rfl, hl⟩ := h s rfl
    rw [isWd_S]
    have := xandV_b (ρ := [.im (sD l), .im (.str (S codeL)), .im (.int m)]) (xcall_ok (xgc (xvr (i := 0) rfl) (xg1 (xvr (i := 1) rfl))) (r_word hl)) (xop_ok (f := leAD) (xf_ok (f := lenD) (xlk (i := 0) rfl) (len_S l hl.lim)) (xlk (i := 2) rfl) (le_i _ _))
    refine this.trans ?_
    unfold isWl
    congr 2
    cases decide ((1 : Int) ≤ l.length) <;> cases decide ((l.length : Int) ≤ m) <;> cases isC l <;> rfl
  · have hd : ∀ s, d ≠ .str s := fun s e => hs ⟨s, e⟩
    have e : isWd d m = false := by
      cases d <;> first | rfl | exact absurd rfl (hd _)
    rw [e]
    exact xandV_F (xcall_ok (xgc (xvr rfl) (xg1 (xvr rfl))) (xdef_rt rfl (xret_ok (xandV_F (xf_ok (xlk rfl) (isi_s d hd))))))
/-! the law's own look at a word -/
theorem not_in : oddC.all (fun c => match inD true (cD c) (sD codeL) with | some (.bool b) => b == !decide (c ∈ codeL) | _ => false) = true := by kernel_rfl
theorem not_in_c {c : Nat} (h : c ∈ oddC) : inD true (cD c) (sD codeL) = some (.bool (!decide (c ∈ codeL))) := by
  have := List.all_eq_true.mp not_in c h
  revert this
  cases inD true (cD c) (sD codeL) with
  | none => intro h; cases h
  | some d =>
    cases d with
    | bool b => intro h; rw [show b = !decide (c ∈ codeL) by simpa using h]
    | _ => intro h; cases h
theorem r_signs : x_u_law_signs [] = .ok (sD codeL) := xdef_rt rfl (xret_ok rfl)
/-- repr of a text, by signs -/
theorem okS_fold {q : Nat} : ∀ (l : List Nat) (acc : Array Nat), (∀ c ∈ acc.toList, c < 0x110000) → (∀ c ∈ l, ∀ y ∈ Builtin.Str.reprChar q c, y < 0x110000) → ∀ c ∈ (l.foldl (fun out c => out ++ (Builtin.Str.reprChar q c).toArray) acc).toList, c < 0x110000
  | [], acc, h, _ => h
  | a :: r, acc, h, hc => okS_fold r _ (fun c hx => by
      rw [Array.toList_append] at hx
      rcases List.mem_append.mp hx with z | z
      · exact h c z
      · exact hc a List.mem_cons_self c (by simpa using z)) fun c hx => hc c (List.mem_cons_of_mem _ hx)
theorem okS_repr {x : Str} (hc : ∀ c ∈ x.cps.toList, ∀ y ∈ Builtin.Str.reprChar (reprQuote x) c, y < 0x110000) : okS (reprText x) := by
  have hq : reprQuote x < 0x110000 := by
    unfold reprQuote
    split <;> decide
  intro c hx
  unfold reprText at hx
  rw [Array.toList_push, ← Array.foldl_toList] at hx
  rcases List.mem_append.mp hx with z | z
  · exact okS_fold _ _ (fun c hc => by
      have : c = reprQuote x := by simpa using hc
      rw [this]; exact hq) hc c z
  · rw [List.mem_singleton.mp z]; exact hq
theorem rep_chars : codeL.all (fun c => (Builtin.Str.reprChar 39 c).all (fun y => decide (y < 0x110000)) && (Builtin.Str.reprChar 34 c).all (fun y => decide (y < 0x110000))) = true := by decide +kernel
theorem rp_str {l : List Nat} (h : ∀ c ∈ l, c ∈ codeL) (hl : l.length ≤ 12) : Rp (sD l) 100 0 := by
  have cps : (S l).cps.toList = l := by simp [S]
  refine ⟨rfl, ?_, ?_, rfl, ?_, ?_, rfl, Nat.le_refl _⟩
  · show (S l).length ≤ 100
    rw [S_len]; omega
  · rfl
  · rw [PyData.shown_str]
    refine okS_repr fun c hc y hy => ?_
    rw [cps] at hc
    have := List.all_eq_true.mp rep_chars c (h c hc)
    rw [Bool.and_eq_true, List.all_eq_true, List.all_eq_true] at this
    have hq : reprQuote (S l) = 34 ∨ reprQuote (S l) = 39 := by
      unfold reprQuote
      split <;> simp
    rcases hq with q | q
    · rw [q] at hy; simpa using this.2 y hy
    · rw [q] at hy; simpa using this.1 y hy
  · have := okS_shaped (x := S l) (fun c hc => code_lo (h c (by rw [cps] at hc; exact hc)))
    have e : (PyData.canLay0 (sD l) && decide (PyData.depth (sD l) ≤ 64)) = true := this
    exact (Bool.and_eq_true_iff.mp e).1
end Pf

/-! L2: pairs, books -/
namespace Pf
open PySem L2 HW
theorem xseq_rt {xs xr : XS} {ρ : List En} {d : D} (e : xs ρ = .ok (.rt d)) : xSeq xs xr ρ = .ok (.rt d) := by
  show (xs ρ).bind _ = _
  rw [e]
  rfl
theorem xseq_ex {xs xr : XS} {ρ : List En} {x : Xd} (e : xs ρ = .ex x) : xSeq xs xr ρ = .ex x := by
  show (xs ρ).bind _ = _
  rw [e]
  rfl
def isI (d : D) (a b : Int) : Bool := match d with
  | .int i => decide (a ≤ i) && decide (i ≤ b)
  | _ => false
def tupIn (d : D) (a b : Int) : Bool := match d with
  | .tuple ds => decide (a ≤ ds.length) && decide ((ds.length : Int) ≤ b)
  | _ => false
theorem r_whole (d : D) : x_is_whole [.im d] = .ok (.bool (match d with | .int _ => true | _ => false)) := by cases d <;> rfl
theorem r_isI (d : D) (a b : Int) : x_is_integer [.im d, .im (.int a), .im (.int b)] = .ok (.bool (isI d a b)) := by
  refine xdef_rt rfl (xret_ok ?_)
  cases d with
  | int i => exact xandV_T (xcall_ok (xg1 (xvr rfl)) (r_whole _)) (xchain_b (xlk rfl) (xlk rfl) (xlk rfl) (le_i _ _) (le_i _ _))
  | _ => exact xandV_F (xcall_ok (xg1 (xvr rfl)) (r_whole _))
theorem r_tupIn (d : D) (a b : Int) : x_is_tuple [.im d, .im (.int a), .im (.int b)] = .ok (.bool (tupIn d a b)) := by
  refine xdef_rt rfl (xret_ok ?_)
  cases d with
  | tuple ds => exact xandV_T (xf_ok (xlk rfl) rfl) (xchain_b (xlk rfl) (xf_ok (xlk rfl) rfl) (xlk rfl) (le_i _ _) (le_i _ _))
  | _ => exact xandV_F (xf_ok (xlk rfl) rfl)
theorem xdef_xx {xs : XS} {N : List Str} {n : Nat} {es ρ : List En} {x : Xd} (h : es.length = n) (e : xs (startE N es) = .ok (.xx x ρ)) : xDef n N xs es = .ex x := by
  show Rs.guard _ _ = _
  unfold Rs.guard
  rw [if_pos h, e]
  rfl
theorem xseq_xx {xs xr : XS} {ρ ρ' : List En} {x : Xd} (e : xs ρ = .ok (.xx x ρ')) : xSeq xs xr ρ = .ok (.xx x ρ') := by
  show (xs ρ).bind _ = _
  rw [e]
  rfl
def firstF (p : Nat → Bool) : Nat → Nat → Option Nat
  | _, 0 => none
  | n, k + 1 => if p n = true then firstF p (n + 1) k else some n
theorem xfor_find {tg : XTg} {xs : XS} (I : Nat → List En → Prop) (p : Nat → Bool) (Out : Nat → Fl → Prop) (hO : ∀ i f, Out i f → (∃ d, f = .rt d) ∨ ∃ x ρ, f = .xx x ρ) : ∀ (r : List D) (n : Nat) (ρ : List En),
    (∀ (i : Nat) (hi : i < r.length) (ρ : List En), I (n + i) ρ → ∃ ρ1, tg r[i] ρ = some ρ1 ∧ (p (n + i) = true → ∃ ρ2, xs ρ1 = .ok (.nx ρ2) ∧ I (n + i + 1) ρ2) ∧ (p (n + i) = false → ∃ f, xs ρ1 = .ok f ∧ Out (n + i) f)) → I n ρ →
      (firstF p n r.length = none → ∃ ρ', xfor tg xs r ρ = .ok (.nx ρ') ∧ I (n + r.length) ρ') ∧ (∀ k, firstF p n r.length = some k → ∃ f, xfor tg xs r ρ = .ok f ∧ Out k f)
  | [], n, ρ, _, h => ⟨fun _ => ⟨ρ, rfl, h⟩, fun k e => (by cases e)⟩
  | d :: r, n, ρ, st, h => by
    obtain ⟨ρ1, e1, yes, no⟩ := st 0 (by simp) ρ h
    have e1' : tg d ρ = some ρ1 := e1
    have step : xfor tg xs (d :: r) ρ = (xs ρ1).bind fun f => match f with
      | .nx ρ2 => xfor tg xs r ρ2
      | .ct ρ2 => xfor tg xs r ρ2
      | .bk ρ2 => .ok (.nx ρ2)
      | .rt d => .ok (.rt d)
      | .xx x ρ2 => .ok (.xx x ρ2) := by
      show (Rs.ofO (tg d ρ)).bind _ = _
      rw [e1']
      rfl
    rw [Nat.add_zero] at yes no
    by_cases hp : p n = true
    · obtain ⟨ρ2, e2, h2⟩ := yes hp
      have ih := xfor_find I p Out hO r (n + 1) ρ2 (fun i hi ρ h => by
        have := st (i + 1) (by simp; omega) ρ (by rw [show n + (i + 1) = n + 1 + i by omega]; exact h)
        rw [show n + (i + 1) = n + 1 + i by omega] at this
        simpa using this) h2
      have es : xfor tg xs (d :: r) ρ = xfor tg xs r ρ2 := by rw [step, e2]; rfl
      have ef : firstF p n (d :: r).length = firstF p (n + 1) r.length := if_pos hp
      rw [ef, es, List.length_cons, show n + (r.length + 1) = n + 1 + r.length by omega]
      exact ih
    · have hp' : p n = false := by simpa using hp
      obtain ⟨f, e2, o⟩ := no hp'
      have ef : firstF p n (d :: r).length = some n := if_neg hp
      rw [ef]
      refine ⟨fun e => (by cases e), fun k e => ⟨f, ?_, (Option.some.inj e) ▸ o⟩⟩
      rw [step, e2]
      rcases hO n f o with ⟨d, rfl⟩ | ⟨x, ρ, rfl⟩ <;> rfl
theorem xtup_ok {xA : XA} {ρ : List En} {ds : List D} (e : xA ρ = .ok ds) (h : ds.length ≤ LIM) : xTup xA ρ = .ok (.tuple ds) := by
  show (xA ρ).bind _ = _
  rw [e]
  exact guard_pos h
theorem xlst_ok {xA : XA} {ρ : List En} {ds : List D} (e : xA ρ = .ok ds) (h : ds.length ≤ LIM) : xLst xA ρ = .ok (.list ds) := by
  show (xA ρ).bind _ = _
  rw [e]
  exact guard_pos h
theorem ifRet {xt : XT} {xr : XS} {xa : XE} {ρ : List En} {b : Bool} {v : D} {r : Rs Fl} (e : xt ρ = .ok b) (ha : xa ρ = .ok v) (h : (if b = true then .ok (.rt v) else xr ρ) = r) : xSeq (xIf xt (xRet xa) xNext) xr ρ = r := by
  cases b with
  | true =>
    rw [← h]
    exact xseq_rt (xifT e (xret_ok ha))
  | false =>
    rw [← h]
    exact xseq_nx (xifF e rfl) rfl
theorem ixT {ds : List D} {i : Nat} (h : i < ds.length) : ixD (.tuple ds) (.int i) = some (ds.getD i .none) := by
  show atI ds i = _
  unfold atI ixN
  rw [if_pos (by omega), if_pos (by omega), List.getD_eq_getElem?_getD]
  have : ((i : Int)).toNat = i := by omega
  rw [this]
  simp [h]

theorem sig_S (l : List Nat) : signs (S l) = l.map cD := signs_S l
theorem rpA_c {l : List Nat} (h : ∀ c ∈ l, c ∈ oddC) : fltA (l.map cD) = true ∧ PyData.canLayAll0 (l.map cD) = true ∧ PyData.depthAll (l.map cD) = 0 := by
  induction l with
  | nil => exact ⟨rfl, rfl, rfl⟩
  | cons a r ih =>
    obtain ⟨i1, i2, i3⟩ := ih fun c hc => h c (List.mem_cons_of_mem _ hc)
    have ha := odd_lo (h a List.mem_cons_self)
    have e : (PyData.canLay0 (cD a) && decide (PyData.depth (cD a) ≤ 64)) = true := lay_S (l := [a]) (fun c hc => by rw [List.mem_singleton.mp hc]; exact ha)
    refine ⟨i1, ?_, ?_⟩
    · show (PyData.canLay0 (cD a) && PyData.canLayAll0 (r.map cD)) = true
      rw [(Bool.and_eq_true_iff.mp e).1, i2]; rfl
    · show max (PyData.depth (cD a)) (PyData.depthAll (r.map cD)) = 0
      rw [i3]; rfl
theorem eq_empty {ds : List D} (hf : fltA ds = true) (hl : PyData.canLayAll0 ds = true) (hd : PyData.depthAll ds ≤ 60) : eqD (.list ds) (.list []) = some (.bool ds.isEmpty) := by
  have sh : SeqAt.shaped (.list ds) = true := by
    show (PyData.canLayAll0 ds && decide (PyData.depthAll ds + 1 ≤ 64)) = true
    rw [hl, decide_eq_true (by omega)]; rfl
  refine (if_pos ⟨hf, rfl, sh, rfl⟩).trans ?_
  cases ds <;> rfl
theorem ne_empty {ds : List D} (hf : fltA ds = true) (hl : PyData.canLayAll0 ds = true) (hd : PyData.depthAll ds ≤ 60) : neD (.list ds) (.list []) = some (.bool (!ds.isEmpty)) := by
  have sh : SeqAt.shaped (.list ds) = true := by
    show (PyData.canLayAll0 ds && decide (PyData.depthAll ds + 1 ≤ 64)) = true
    rw [hl, decide_eq_true (by omega)]; rfl
  refine (if_pos ⟨hf, rfl, sh, rfl⟩).trans ?_
  cases ds <;> rfl
theorem xitS_ok' {xa : XE} {ρ : List En} {l : List Nat} (e : xa ρ = .ok (sD l)) : xItS xa ρ = .ok (l.map cD) := xitS_ok e
theorem fil_empty {α : Type} (p : α → Bool) : ∀ l : List α, (l.filter fun c => !p c).isEmpty = l.all p
  | [] => rfl
  | a :: r => by
    rw [List.filter_cons, List.all_cons]
    cases h : p a with
    | true => simpa using fil_empty p r
    | false => simp
theorem r_lawW {d : D} (h : LfS d) (m : Int) : x_u_law_is_word [.im d, .im (.int m)] = .ok (.bool (isWd d m)) := by
  by_cases hs : ∃ s, d = .str s
  · obtain ⟨s, rfl⟩ := hs
    obtain ⟨l, rfl, hl⟩ := h s rfl
    rw [isWd_S]
    have c0 : xChain leAD leAD (xC (.int 1)) (xF lenD (xLook 0)) (xLook 1) [.im (sD l), .im (.int m), .un] = .ok (.bool (decide ((1 : Int) ≤ l.length) && decide ((l.length : Int) ≤ m))) := xchain_b rfl (xf_ok (xlk rfl) (len_S l hl.lim)) (xlk rfl) (le_i _ _) (le_i _ _)
    have e0 : xOr (xNot (xTru (xF (isiD "str") (xLook 0)))) (xNot (xTst (xChain leAD leAD (xC (.int 1)) (xF lenD (xLook 0)) (xLook 1)))) [.im (sD l), .im (.int m), .un] = .ok (false || !(decide ((1 : Int) ≤ l.length) && decide ((l.length : Int) ≤ m))) := xor_b (tru_b (b := true) (xf_ok (xlk rfl) rfl)) (xnot_b (xtst_ok c0))
    cases hb : (decide ((1 : Int) ≤ l.length) && decide ((l.length : Int) ≤ m)) with
    | false =>
      rw [hb] at e0
      have : isWl l m = false := by
        unfold isWl
        revert hb
        cases decide ((1 : Int) ≤ l.length) <;> cases decide ((l.length : Int) ≤ m) <;> simp
      rw [this]
      exact xdef_rt rfl (xseq_rt (xifT e0 rfl))
    | true =>
      rw [hb] at e0
      have : isWl l m = isC l := by
        unfold isWl
        revert hb
        cases decide ((1 : Int) ≤ l.length) <;> cases decide ((l.length : Int) ≤ m) <;> simp
      rw [this]
      refine xdef_rt rfl (xseq_nx (xifF e0 rfl) (xret_ok ?_))
      have lc := xlc_filL (xt := xTst (xOp (inD true) (xLook 2) (xCall x_u_law_signs xgNil))) (xe := xVar 2) (ρ := wipeE [.im (sD l), .im (.int m), .un] [2]) (j := 2) (fun c => !decide (c ∈ codeL)) cD cD l fun c hc => ⟨xtst_ok (xop_ok (xlk rfl) (xcall_ok xgnil_ok r_signs) (not_in_c (hl.mem c hc))), fun _ => xvr rfl⟩
      have hm : ∀ c ∈ l.filter (fun c => !decide (c ∈ codeL)), c ∈ oddC := fun c hc => hl.mem c (List.mem_filter.mp hc).1
      obtain ⟨f1, f2, f3⟩ := rpA_c hm
      refine xop_ok (xlcW_ok (xitS_ok (l := l) (xlk rfl)) (by rw [List.length_map]; have := hl.1; omega) lc) (xlst_ok rfl (Nat.zero_le _)) ((eq_empty f1 f2 (by omega)).trans ?_)
      congr 2
      rw [List.isEmpty_map]
      exact fil_empty (fun c => decide (c ∈ codeL)) l
  · have hd : ∀ s, d ≠ .str s := fun s e => hs ⟨s, e⟩
    have e : isWd d m = false := by
      cases d <;> first | rfl | exact absurd rfl (hd _)
    rw [e]
    exact xdef_rt rfl (xseq_rt (xifT (xorT (tru_b (b := false) (xf_ok (xlk rfl) (isi_s d hd)))) rfl))
end Pf

/-! L3: need_book -/
namespace Pf
open PySem L2 HW
def isP (d : D) : Bool := match d with
  | .tuple [a, b] => isWd a 8 && isWd b 5
  | _ => false
/-- a thing that may stand for a pair -/
def LfP (d : D) : Prop := ∀ a b, d = .tuple [a, b] → LfS a ∧ LfS b
theorem isWd_inv {d : D} {m : Int} (h : LfS d) (e : isWd d m = true) : ∃ p, d = sD p ∧ SOk p ∧ isWl p m = true := by
  cases d with
  | str s =>
    obtain ⟨l, rfl, hl⟩ := h s rfl
    exact ⟨l, rfl, hl, by rw [← isWd_S]; exact e⟩
  | _ => cases e
theorem isP_inv {d : D} (h : LfP d) (e : isP d = true) : ∃ p q, d = .tuple [sD p, sD q] ∧ SOk p ∧ SOk q ∧ isWl p 8 = true ∧ isWl q 5 = true := by
  cases d with
  | tuple ds =>
    match ds, e with
    | [a, b], e =>
      obtain ⟨ha, hb⟩ := h a b rfl
      have e' : (isWd a 8 && isWd b 5) = true := e
      rw [Bool.and_eq_true] at e'
      obtain ⟨p, rfl, hp, wp⟩ := isWd_inv ha e'.1
      obtain ⟨q, rfl, hq, wq⟩ := isWd_inv hb e'.2
      exact ⟨p, q, rfl, hp, hq, wp, wq⟩
  | _ => cases e
theorem isP_len {d : D} (h : tupIn d 2 2 = false) : isP d = false := by
  cases d with
  | tuple ds =>
    match ds, h with
    | [], _ => rfl
    | [_], _ => rfl
    | [_, _], h => cases h
    | _ :: _ :: _ :: _, _ => rfl
  | _ => rfl
theorem tup2 {d : D} (h : tupIn d 2 2 = true) : ∃ a b, d = .tuple [a, b] := by
  cases d with
  | tuple ds =>
    have h' : (decide ((2 : Int) ≤ ds.length) && decide ((ds.length : Int) ≤ 2)) = true := h
    simp only [Bool.and_eq_true, decide_eq_true_eq] at h'
    match ds, h' with
    | [], h' => simp at h'
    | [_], h' => simp at h'
    | [a, b], _ => exact ⟨a, b, rfl⟩
    | _ :: _ :: _ :: _, h' => simp at h'; omega
  | _ => cases h
theorem r_isP {d : D} (h : LfP d) : x_is_pair [.im d] = .ok (.bool (isP d)) := by
  have e0 : xNot (xTru (xCall x_is_tuple (xgIm (xVar 0) (xgIm (xC (.int 2)) (xgIm (xC (.int 2)) xgNil))))) [.im d] = .ok (!tupIn d 2 2) := tru_b (xcall_ok (xgc (xvr rfl) (xgc rfl (xg1 rfl))) (r_tupIn d 2 2))
  cases ht : tupIn d 2 2 with
  | false =>
    rw [isP_len ht]
    rw [ht] at e0
    exact xdef_rt rfl (xseq_rt (xifT e0 rfl))
  | true =>
    rw [ht] at e0
    obtain ⟨a, b, rfl⟩ := tup2 ht
    obtain ⟨ha, hb⟩ := h a b rfl
    exact xdef_rt rfl (xseq_nx (xifF e0 rfl) (xret_ok (xandV_b (xcall_ok (xgc (xop_ok (xlk rfl) rfl (ixT (i := 0) (ds := [a, b]) (show 0 < 2 by decide))) (xgc rfl (xg1 rfl))) (r_short ha 8)) (xcall_ok (xgc (xop_ok (xlk rfl) rfl (ixT (i := 1) (ds := [a, b]) (show 1 < 2 by decide))) (xgc rfl (xg1 rfl))) (r_short hb 5)))))
def fstL (d : D) : List Nat := match d with
  | .tuple (.str s :: _) => s.cps.toList
  | _ => []
def sndL (d : D) : List Nat := match d with
  | .tuple [_, .str s] => s.cps.toList
  | _ => []
theorem fst_p (p q : List Nat) : fstL (.tuple [sD p, sD q]) = p := by
  show (S p).cps.toList = p
  simp [S]
theorem snd_p (p q : List Nat) : sndL (.tuple [sD p, sD q]) = q := by
  show (S q).cps.toList = q
  simp [S]
def dupB (ds : List D) (i : Nat) (x : D) : Bool := (ds.take i).any fun y => decide (fstL y = fstL x) || decide (sndL y = sndL x)
def goodAt (ds : List D) (i : Nat) : Bool := isP (ds.getD i .none) && !dupB ds i (ds.getD i .none)
def badAt (ds : List D) : Option Nat := firstF (goodAt ds) 0 ds.length
/-- what is told of what is no book -/
def bkV (d : D) : Option D := match d with
  | .tuple ds => if tupIn d 1 40 = true then (badAt ds).map fun (k : Nat) => PyData.int (k : Int) else some .none
  | _ => some .none
def LfB (d : D) : Prop := ∀ ds, d = .tuple ds → ∀ x ∈ ds, LfP x
abbrev bkX (v : D) : Xd := ⟨"BadBook", [("number", v)]⟩
def kvL (f : D → List Nat) (ds : List D) : List (D × D) := ds.map fun x => (sD (f x), .bool true)
theorem S_inj {a b : List Nat} : (S a = S b) ↔ a = b := by
  constructor
  · intro h
    have := congrArg (fun s : Str => s.cps.toList) h
    simpa [S] using this
  · rintro rfl; rfl
theorem look_kv (f : D → List Nat) (p : List Nat) : ∀ ds : List D, (lookK (kvL f ds) (.inr (S p))).isSome = ds.any fun y => decide (f y = p)
  | [] => rfl
  | y :: r => by
    have ih := look_kv f p r
    show (if keyOf (sD (f y)) = some (.inr (S p)) then some (PyData.bool true) else lookK (kvL f r) (.inr (S p))).isSome = _
    rw [List.any_cons, ← ih]
    by_cases h : f y = p
    · rw [if_pos (by show some (Sum.inr (S (f y))) = _; rw [h]), decide_eq_true h]; rfl
    · rw [if_neg (fun z => h (S_inj.mp (by injection z with z; injection z))), decide_eq_false h]; rfl
theorem put_kv (f : D → List Nat) {p : List Nat} {ds : List D} (h : (ds.any fun y => decide (f y = p)) = false) : putD' (kvL f ds) (.inr (S p)) (.bool true) = kvL f ds ++ [(sD p, .bool true)] := by
  unfold putD'
  have : ((kvL f ds).any fun q => decide (keyOf q.1 = some (.inr (S p)))) = false := by
    rw [← h]
    unfold kvL
    rw [List.any_map]
    congr 1
    funext y
    refine decide_eq_decide.mpr (show ((some (Sum.inr (S (f y))) : Option Key) = some (Sum.inr (S p))) ↔ f y = p from ⟨fun z => S_inj.mp (by injection z with z; injection z), fun e => by rw [e]⟩)
  rw [if_neg (by rw [this]; simp)]
  rfl
theorem take_snoc {ds : List D} {i : Nat} (h : i < ds.length) : ds.take (i + 1) = ds.take i ++ [ds.getD i .none] := by
  rw [List.take_succ, List.getD_eq_getElem?_getD, List.getElem?_eq_getElem h]
  rfl
theorem xinK_ok {xa xb : XE} {ρ : List En} {p : List Nat} {kvs : List (D × D)} (e1 : xa ρ = .ok (sD p)) (e2 : xb ρ = .ok (.dict kvs)) : xInK false xa xb ρ = .ok (.bool (lookK kvs (.inr (S p))).isSome) := by
  show (xa ρ).bind _ = _
  rw [e1]
  show (xb ρ).bind _ = _
  rw [e2]
  rfl
theorem xlkd {i : Nat} {kvs : List (D × D)} {ρ : List En} (h : ρ[i]? = some (.dc kvs)) : xLook i ρ = .ok (.dict kvs) := by
  show Rs.ofO (ρ[i]?.bind En.look) = _
  rw [h]
  rfl
theorem xdput_ok {i : Nat} {xa xb : XE} {ρ : List En} {p : List Nat} {d : D} {kvs : List (D × D)} (e0 : xa ρ = .ok d) (e : ρ[i]? = some (.dc kvs)) (e1 : xb ρ = .ok (sD p)) (h : kvs.length < LIM) : xDput i xa xb ρ = .ok (.nx (ρ.set i (.dc (putD' kvs (.inr (S p)) d)))) := by
  show lift (xa ρ) ρ _ = _
  rw [e0]
  show (Rs.ofO (ρ[i]?.bind dcE)).bind _ = _
  rw [e]
  show lift (xb ρ) ρ _ = _
  rw [e1]
  exact guard_pos h
theorem xraise_ok {xa : XE} {ρ : List En} {d : D} {n f : Str} (e : xa ρ = .ok d) : xRaise n (some f) xa ρ = .ok (.xx ⟨n, [(f, d)]⟩ ρ) := by
  show lift (xa ρ) ρ _ = _
  rw [e]
  rfl
abbrev nbX : XS := xSeq (xIf (xNot (xTru (xCall x_is_pair (xgIm (xOp ixD (xLook 0) (xLook 3)) xgNil)))) (xRaise "BadBook" (some "number") (xVar 3)) xNext) (xSeq (xAsg (xOp ixD (xLook 0) (xLook 3)) (xgT [4, 5])) (xSeq (xIf (xOr (xTst (xInK false (xLook 4) (xLook 1))) (xTst (xInK false (xLook 5) (xLook 2)))) (xRaise "BadBook" (some "number") (xVar 3)) xNext) (xSeq (xDput 1 (xC (.bool true)) (xLook 4)) (xDput 2 (xC (.bool true)) (xLook 5)))))
abbrev nbE (ds : List D) (i : Nat) (e3 e4 e5 : En) : List En := [.im (.tuple ds), .dc (kvL fstL (ds.take i)), .dc (kvL sndL (ds.take i)), e3, e4, e5]
theorem any_or {ds : List D} {p q : List Nat} : (ds.any fun y => decide (fstL y = p) || decide (sndL y = q)) = ((ds.any fun y => decide (fstL y = p)) || ds.any fun y => decide (sndL y = q)) := by
  induction ds with
  | nil => rfl
  | cons a r ih =>
    rw [List.any_cons, List.any_cons, List.any_cons, ih]
    cases decide (fstL a = p) <;> cases decide (sndL a = q) <;> simp
theorem nb_body {ds : List D} {i : Nat} (hi : i < ds.length) (hl : ds.length ≤ 40) (h : LfP (ds.getD i .none)) (e4 e5 : En) :
    (goodAt ds i = true → ∃ e4 e5, nbX (nbE ds i (.im (.int i)) e4' e5') = .ok (.nx (nbE ds (i + 1) (.im (.int i)) e4 e5))) ∧ (goodAt ds i = false → ∃ ρ, nbX (nbE ds i (.im (.int i)) e4' e5') = .ok (.xx (bkX (.int i)) ρ)) := by
  have t0 : xNot (xTru (xCall x_is_pair (xgIm (xOp ixD (xLook 0) (xLook 3)) xgNil))) (nbE ds i (.im (.int i)) e4' e5') = .ok (!isP (ds.getD i .none)) := tru_b (xcall_ok (xg1 (xop_ok (xlk rfl) (xlk rfl) (ixT hi))) (r_isP h))
  cases hp : isP (ds.getD i .none) with
  | false =>
    have hg : goodAt ds i = false := by unfold goodAt; rw [hp]; rfl
    rw [hg]
    refine ⟨fun z => (by cases z), fun _ => ⟨_, xseq_xx (xifT (by rw [t0, hp]; rfl) (xraise_ok (xvr rfl)))⟩⟩
  | true =>
    obtain ⟨p, q, ex, hp1, hq1, wp, wq⟩ := isP_inv h hp
    have hg : goodAt ds i = !((ds.take i).any (fun y => decide (fstL y = p)) || (ds.take i).any fun y => decide (sndL y = q)) := by
      unfold goodAt dupB
      rw [hp, ex, fst_p, snd_p, any_or]
      rfl
    have asg : xAsg (xOp ixD (xLook 0) (xLook 3)) (xgT [4, 5]) (nbE ds i (.im (.int i)) e4' e5') = .ok (.nx (nbE ds i (.im (.int i)) (.im (sD p)) (.im (sD q)))) := by
      have e1 : xOp ixD (xLook 0) (xLook 3) (nbE ds i (.im (.int i)) e4' e5') = .ok (.tuple [sD p, sD q]) := xop_ok (xlk rfl) (xlk rfl) (by rw [ixT hi, ex])
      show lift (xOp ixD (xLook 0) (xLook 3) (nbE ds i (.im (.int i)) e4' e5')) _ _ = _
      rw [e1]
      rfl
    have tst : xOr (xTst (xInK false (xLook 4) (xLook 1))) (xTst (xInK false (xLook 5) (xLook 2))) (nbE ds i (.im (.int i)) (.im (sD p)) (.im (sD q))) = .ok ((ds.take i).any (fun y => decide (fstL y = p)) || (ds.take i).any fun y => decide (sndL y = q)) := by
      have a1 := xinK_ok (xa := xLook 4) (xb := xLook 1) (ρ := nbE ds i (.im (.int i)) (.im (sD p)) (.im (sD q))) (p := p) (kvs := kvL fstL (ds.take i)) (xlk rfl) (xlkd rfl)
      have a2 := xinK_ok (xa := xLook 5) (xb := xLook 2) (ρ := nbE ds i (.im (.int i)) (.im (sD p)) (.im (sD q))) (p := q) (kvs := kvL sndL (ds.take i)) (xlk rfl) (xlkd rfl)
      rw [look_kv] at a1 a2
      exact xor_b (xtst_ok a1) (xtst_ok a2)
    rw [hg]
    cases hb : ((ds.take i).any (fun y => decide (fstL y = p)) || (ds.take i).any fun y => decide (sndL y = q)) with
    | true =>
      refine ⟨fun z => (by cases z), fun _ => ⟨_, xseq_nx (xifF (by rw [t0, hp]; rfl) rfl) (xseq_nx asg (xseq_xx (xifT (by rw [tst, hb]) (xraise_ok (xvr rfl)))))⟩⟩
    | false =>
      have hb' := Bool.or_eq_false_iff.mp hb
      have len1 : ∀ f : D → List Nat, (kvL f (ds.take i)).length < LIM := fun f => by
        unfold kvL
        rw [List.length_map, List.length_take]
        exact lim40 (by omega)
      refine ⟨fun _ => ⟨.im (sD p), .im (sD q), ?_⟩, fun z => (by cases z)⟩
      refine xseq_nx (xifF (by rw [t0, hp]; rfl) rfl) (xseq_nx asg (xseq_nx (xifF (by rw [tst, hb]) rfl) (xseq_nx (xdput_ok rfl rfl (xlk (i := 4) rfl) (len1 _)) ?_)))
      rw [put_kv fstL hb'.1]
      refine (xdput_ok (i := 2) rfl rfl (xlk (i := 5) rfl) (len1 _)).trans ?_
      rw [put_kv sndL hb'.2]
      have k1 : kvL fstL (ds.take (i + 1)) = kvL fstL (ds.take i) ++ [(sD p, .bool true)] := by
        rw [take_snoc hi, ex]
        unfold kvL
        rw [List.map_append, List.map_cons, fst_p]
        rfl
      have k2 : kvL sndL (ds.take (i + 1)) = kvL sndL (ds.take i) ++ [(sD q, .bool true)] := by
        rw [take_snoc hi, ex]
        unfold kvL
        rw [List.map_append, List.map_cons, snd_p]
        rfl
      show _ = Rs.ok (Fl.nx [.im (.tuple ds), .dc (kvL fstL (ds.take (i + 1))), .dc (kvL sndL (ds.take (i + 1))), .im (.int i), .im (sD p), .im (sD q)])
      rw [k1, k2]
      rfl
theorem r_book {d : D} (h : LfB d) : x_need_book [.im d] = match bkV d with
    | none => .ok d
    | some v => .ex (bkX v) := by
  have e0 : xNot (xTru (xCall x_is_tuple (xgIm (xVar 0) (xgIm (xC (.int 1)) (xgIm (xC (.int 40)) xgNil))))) [.im d, .un, .un, .un, .un, .un] = .ok (!tupIn d 1 40) := tru_b (xcall_ok (xgc (xvr rfl) (xgc rfl (xg1 rfl))) (r_tupIn d 1 40))
  cases ht : tupIn d 1 40 with
  | false =>
    rw [ht] at e0
    have : bkV d = some .none := by
      cases d <;> first | rfl | exact if_neg (by rw [ht]; simp)
    rw [this]
    exact xdef_xx rfl (xseq_xx (xifT e0 (xraise_ok rfl)))
  | true =>
    rw [ht] at e0
    cases d with
    | tuple ds =>
      have hl : ds.length ≤ 40 := by
        have h' : (decide ((1 : Int) ≤ ds.length) && decide ((ds.length : Int) ≤ 40)) = true := ht
        simp only [Bool.and_eq_true, decide_eq_true_eq] at h'
        omega
      have er : bkV (.tuple ds) = (badAt ds).map fun (k : Nat) => PyData.int (k : Int) := by
        unfold bkV
        exact if_pos ht
      rw [er]
      have key := xfor_find (tg := xgN 3) (xs := nbX)
        (fun i ρ => ∃ e3 e4 e5, ρ = nbE ds i e3 e4 e5) (goodAt ds) (fun i f => ∃ ρ, f = .xx (bkX (.int i)) ρ) (fun i f ⟨ρ, e⟩ => .inr ⟨_, ρ, e⟩) (rngD 0 ds.length) 0 (nbE ds 0 .un .un .un) (fun i hi ρ ⟨e3, e4, e5, he⟩ => ?_) ⟨_, _, _, rfl⟩
      · rw [rng_len] at key
        have range : xRng (xF lenD (xLook 0)) (nbE ds 0 .un .un .un) = .ok (rngD 0 ds.length) := xrng_ok (xf_ok (xlk rfl) rfl) (by omega)
        have forE : ∀ f, xfor (xgN 3) nbX (rngD 0 ds.length) (nbE ds 0 .un .un .un) = .ok f → xFor (xRng (xF lenD (xLook 0))) (xgN 3) nbX (nbE ds 0 .un .un .un) = .ok f := fun f e => by
          show lift (xRng _ _) _ _ = _
          rw [range]
          exact e
        cases hb : badAt ds with
        | none =>
          obtain ⟨ρ', e1, e3, e4, e5, rfl⟩ := key.1 hb
          exact xdef_rt rfl (xseq_nx (xifF e0 rfl) (xseq_nx rfl (xseq_nx rfl (xseq_nx (forE _ e1) (xret_ok (xvr rfl))))))
        | some k =>
          obtain ⟨f, e1, ρ', rfl⟩ := key.2 k hb
          exact xdef_xx rfl (xseq_nx (xifF e0 rfl) (xseq_nx rfl (xseq_nx rfl (xseq_xx (forE _ e1)))))
      · rw [rng_len] at hi
        subst he
        have e1 : (rngD 0 ds.length)[i]'(by rw [rng_len]; exact hi) = .int i := by rw [rng_at]; congr 1; omega
        rw [Nat.zero_add]
        have hx : LfP (ds.getD i .none) := by
          rw [List.getD_eq_getElem?_getD, List.getElem?_eq_getElem hi]
          exact h ds rfl _ (List.getElem_mem hi)
        obtain ⟨y, n⟩ := nb_body (e4' := e4) (e5' := e5) hi hl hx .un .un
        refine ⟨nbE ds i (.im (.int i)) e4 e5, by rw [e1]; rfl, fun hp => ?_, fun hp => ?_⟩
        · obtain ⟨a, b, e⟩ := y hp
          exact ⟨_, e, _, _, _, rfl⟩
        · obtain ⟨ρ, e⟩ := n hp
          exact ⟨_, e, _, rfl⟩
    | _ => cases ht
end Pf

/-! L4: the law's own look at books -/
namespace Pf
open PySem L2 HW
def bookT (v : D) : D := .tuple [.str "book", v]
def dueD (d : D) : D := match bkV d with
  | none => .list [d]
  | some v => bookT v
theorem tup_book {xa : XE} {ρ : List En} {v : D} (e : xa ρ = .ok v) : xTup (xCons (xC (.str "book")) (xCons xa xNil)) ρ = .ok (bookT v) := xtup_ok (xcons_ok rfl (xcons_ok e rfl)) (show 2 ≤ LIM by decide)
theorem wl_code {l : List Nat} {m : Int} (h : isWl l m = true) : ∀ c ∈ l, c ∈ codeL := by
  unfold isWl at h
  simp only [Bool.and_eq_true] at h
  exact isC_iff.mp h.2.2
theorem rp_pair {d : D} (h : LfP d) (e : isP d = true) : Rp d 300 1 := by
  obtain ⟨p, q, rfl, hp, hq, wp, wq⟩ := isP_inv h e
  exact (rp_tup (rpA_cons (rp_str (wl_code wp) hp.1) (rpA_cons (rp_str (wl_code wq) hq.1) rpA_nil))).mono (by decide) (by decide)
theorem slt_ok {xa : XE} {xl xu : XO} {ρ : List En} {ds : List D} {l u : Option Int} (e : xa ρ = .ok (.tuple ds)) (e1 : xl ρ = .ok l) (e2 : xu ρ = .ok u) : xSlT xa xl xu ρ = .ok (.tuple (cutL ds l u)) := by
  show (xa ρ).bind _ = _
  rw [e]
  show (xl ρ).bind _ = _
  rw [e1]
  show (xu ρ).bind _ = _
  rw [e2]
  rfl
theorem cutLo {α : Type} (l : List α) {i : Nat} (h : i ≤ l.length) : cutL l none (some (i : Int)) = l.take i := by
  unfold cutL
  rw [HT.sIx_nat, HT.sIx_none, show min i l.length - 0 = i by omega]
  rfl
theorem xitT_ok {xa : XE} {ρ : List En} {ds : List D} (e : xa ρ = .ok (.tuple ds)) : xItT xa ρ = .ok ds := by
  show (xa ρ).bind _ = _
  rw [e]
  rfl
abbrev rtB : XE := xTup (xCons (xC (.str "book")) (xCons (xVar 1) xNil))
abbrev samT : XT := xOr (xTst (xOp eqD (xOp ixD (xLook 4) (xC (.int 0))) (xOp ixD (xLook 2) (xC (.int 0))))) (xTst (xOp eqD (xOp ixD (xLook 4) (xC (.int 1))) (xOp ixD (xLook 2) (xC (.int 1)))))
abbrev samL : XE := xLc (xItT (xVar 3)) samT (xVar 4) 4 [4]
abbrev duX : XS := xSeq (xIf (xOr (xNot (xTru (xF (isiD "tuple") (xLook 2)))) (xTst (xOp neD (xF lenD (xLook 2)) (xC (.int 2))))) (xRet rtB) xNext) (xSeq (xIf (xOr (xNot (xTru (xCall x_u_law_is_word (xgIm (xOp ixD (xLook 2) (xC (.int 0))) (xgIm (xC (.int 8)) xgNil))))) (xNot (xTru (xCall x_u_law_is_word (xgIm (xOp ixD (xLook 2) (xC (.int 1))) (xgIm (xC (.int 5)) xgNil)))))) (xRet rtB) xNext) (xSeq (xSet 3 (xSlT (xLook 0) xNo (xSo (xLook 1)))) (xIf (xTst (xOp neD samL (xLst xNil))) (xRet rtB) xNext)))
abbrev duE (ds : List D) (i : Nat) (x : D) (e3 e4 : En) : List En := [.im (.tuple ds), .im (.int i), .im x, e3, e4]
theorem ix20 (a b : D) : ixD (.tuple [a, b]) (.int 0) = some a := rfl
theorem ix21 (a b : D) : ixD (.tuple [a, b]) (.int 1) = some b := rfl
theorem not_all {α : Type} (p : α → Bool) : ∀ l : List α, (!l.all fun y => !p y) = l.any p
  | [] => rfl
  | a :: r => by
    rw [List.all_cons, List.any_cons, ← not_all p r]
    cases p a <;> simp
theorem sam_ok {ds : List D} {i : Nat} {p q : List Nat} (hp : SOk p) (hq : SOk q) (hl : ds.length ≤ 40) (h : ∀ y ∈ ds.take i, LfP y ∧ isP y = true) (e4 : En) :
    xTst (xOp neD samL (xLst xNil)) (duE ds i (.tuple [sD p, sD q]) (.im (.tuple (ds.take i))) e4) = .ok ((ds.take i).any fun y => decide (fstL y = p) || decide (sndL y = q)) := by
  have lc := xlc_filL (xt := samT) (xe := xVar 4) (ρ := wipeE (duE ds i (.tuple [sD p, sD q]) (.im (.tuple (ds.take i))) e4) [4]) (j := 4) (fun y => decide (fstL y = p) || decide (sndL y = q)) (fun y => y) (fun y => y) (ds.take i) fun y hy => by
    obtain ⟨h1, h2⟩ := h y hy
    obtain ⟨p', q', rfl, hp', hq', _, _⟩ := isP_inv h1 h2
    rw [fst_p, snd_p]
    exact ⟨xor_b (xtst_ok (xop_ok (xop_ok (xlk rfl) rfl (ix20 _ _)) (xop_ok (xlk rfl) rfl (ix20 _ _)) (eq_S hp'.lo hp.lo))) (xtst_ok (xop_ok (xop_ok (xlk rfl) rfl (ix21 _ _)) (xop_ok (xlk rfl) rfl (ix21 _ _)) (eq_S hq'.lo hq.lo))), fun _ => xvr rfl⟩
  rw [show (ds.take i).map (fun y => y) = ds.take i by simp, show ∀ l : List D, l.map (fun y => y) = l from fun l => by simp] at lc
  have ra : RpA ((ds.take i).filter fun y => decide (fstL y = p) || decide (sndL y = q)) _ 1 := rpA_all (W := 300) fun y hy => by
    obtain ⟨h1, h2⟩ := h y (List.mem_filter.mp hy).1
    exact rp_pair h1 h2
  refine xtst_ok (xop_ok (xlcW_ok (xitT_ok (xvr rfl)) (by rw [List.length_take]; omega) lc) (xlst_ok rfl (Nat.zero_le _)) ((ne_empty ra.f ra.l (by have := ra.d; omega)).trans ?_))
  congr 2
  have := fil_empty (fun y => !(decide (fstL y = p) || decide (sndL y = q))) (ds.take i)
  simp only [Bool.not_not] at this
  rw [this]
  exact not_all (fun y => decide (fstL y = p) || decide (sndL y = q)) _
theorem du_body {ds : List D} {i : Nat} (hi : i < ds.length) (hl : ds.length ≤ 40) (hx : LfP (ds.getD i .none)) (h : ∀ y ∈ ds.take i, LfP y ∧ isP y = true) (e3 e4 : En) :
    (goodAt ds i = true → ∃ e3 e4, duX (duE ds i (ds.getD i .none) e3' e4') = .ok (.nx (duE ds i (ds.getD i .none) e3 e4))) ∧ (goodAt ds i = false → duX (duE ds i (ds.getD i .none) e3' e4') = .ok (.rt (bookT (.int i)))) := by
  have rt : ∀ {x e3 e4}, rtB (duE ds i x e3 e4) = .ok (bookT (.int i)) := tup_book (xvr rfl)
  unfold goodAt
  generalize hd : ds.getD i .none = d
  rw [hd] at hx
  have notp : ∀ {r : XS}, (∀ a b, d ≠ .tuple [a, b]) → xSeq (xIf (xOr (xNot (xTru (xF (isiD "tuple") (xLook 2)))) (xTst (xOp neD (xF lenD (xLook 2)) (xC (.int 2))))) (xRet rtB) xNext) r (duE ds i d e3' e4') = .ok (.rt (bookT (.int i))) := fun {r} hn => by
    cases d with
    | tuple es =>
      have e1 : xOr (xNot (xTru (xF (isiD "tuple") (xLook 2)))) (xTst (xOp neD (xF lenD (xLook 2)) (xC (.int 2)))) (duE ds i (.tuple es) e3' e4') = .ok (false || !((es.length : Int) == 2)) := xor_b (tru_b (b := true) (xf_ok (xlk rfl) rfl)) (xtst_ok (xop_ok (xf_ok (xlk rfl) rfl) rfl (ne_i _ _)))
      have h1 : (false || !((es.length : Int) == 2)) = true := by
        simp only [Bool.false_or, Bool.not_eq_true', beq_eq_false_iff_ne]
        intro z
        match es, z with
        | [a, b], _ => exact hn a b rfl
        | [], z => simp at z
        | [_], z => simp at z
        | _ :: _ :: _ :: _, z => simp at z; omega
      exact xseq_rt (xifT (by rw [e1, h1]) (xret_ok rt))
    | _ => exact xseq_rt (xifT (xorT (tru_b (b := false) (xf_ok (xlk rfl) rfl))) (xret_ok rt))
  by_cases hn : ∃ a b, d = .tuple [a, b]
  · obtain ⟨a, b, rfl⟩ := hn
    obtain ⟨ha, hb⟩ := hx a b rfl
    have e1 : xOr (xNot (xTru (xF (isiD "tuple") (xLook 2)))) (xTst (xOp neD (xF lenD (xLook 2)) (xC (.int 2)))) (duE ds i (.tuple [a, b]) e3' e4') = .ok false := xorF (tru_b (b := true) (xf_ok (xlk rfl) rfl)) (xtst_ok (xop_ok (x := .int 2) (xf_ok (xlk rfl) rfl) rfl (ne_i 2 2)))
    have e2 : xOr (xNot (xTru (xCall x_u_law_is_word (xgIm (xOp ixD (xLook 2) (xC (.int 0))) (xgIm (xC (.int 8)) xgNil))))) (xNot (xTru (xCall x_u_law_is_word (xgIm (xOp ixD (xLook 2) (xC (.int 1))) (xgIm (xC (.int 5)) xgNil))))) (duE ds i (.tuple [a, b]) e3' e4') = .ok (!isWd a 8 || !isWd b 5) :=
      xor_b (tru_b (xcall_ok (xgc (xop_ok (xlk rfl) rfl (ix20 a b)) (xg1 rfl)) (r_lawW ha 8))) (tru_b (xcall_ok (xgc (xop_ok (xlk rfl) rfl (ix21 a b)) (xg1 rfl)) (r_lawW hb 5)))
    have ep : isP (.tuple [a, b]) = (isWd a 8 && isWd b 5) := rfl
    cases hp : isP (.tuple [a, b]) with
    | false =>
      rw [ep] at hp
      have h2 : (!isWd a 8 || !isWd b 5) = true := by
        revert hp
        cases isWd a 8 <;> cases isWd b 5 <;> simp
      exact ⟨fun z => (by cases z), fun _ => xseq_nx (xifF e1 rfl) (xseq_rt (xifT (by rw [e2, h2]) (xret_ok rt)))⟩
    | true =>
      obtain ⟨p, q, ex, hp1, hq1, wp, wq⟩ := isP_inv hx hp
      rw [ep] at hp
      have h2 : (!isWd a 8 || !isWd b 5) = false := by
        revert hp
        cases isWd a 8 <;> cases isWd b 5 <;> simp
      rw [ex]
      rw [ex] at e1 e2
      have st3 : xSet 3 (xSlT (xLook 0) xNo (xSo (xLook 1))) (duE ds i (.tuple [sD p, sD q]) e3' e4') = .ok (.nx (duE ds i (.tuple [sD p, sD q]) (.im (.tuple (ds.take i))) e4')) := by
        have := xset_ok (i := 3) (slt_ok (xa := xLook 0) (xl := xNo) (xu := xSo (xLook 1)) (ρ := duE ds i (.tuple [sD p, sD q]) e3' e4') (ds := ds) (l := none) (u := some (i : Int)) (xlk rfl) rfl (xso_ok (xlk rfl)))
        rw [cutLo ds (Nat.le_of_lt hi)] at this
        exact this
      have s4 := sam_ok hp1 hq1 hl h e4'
      have dp : dupB ds i (.tuple [sD p, sD q]) = (ds.take i).any fun y => decide (fstL y = p) || decide (sndL y = q) := by
        unfold dupB
        rw [fst_p, snd_p]
      rw [dp]
      cases hb2 : ((ds.take i).any fun y => decide (fstL y = p) || decide (sndL y = q)) with
      | true => exact ⟨fun z => (by cases z), fun _ => xseq_nx (xifF e1 rfl) (xseq_nx (xifF (by rw [e2, h2]) rfl) (xseq_nx st3 (xifT (by rw [s4, hb2]) (xret_ok rt))))⟩
      | false => exact ⟨fun _ => ⟨_, _, xseq_nx (xifF e1 rfl) (xseq_nx (xifF (by rw [e2, h2]) rfl) (xseq_nx st3 (xifF (by rw [s4, hb2]) rfl)))⟩, fun z => (by cases z)⟩
  · have hn' : ∀ a b, d ≠ .tuple [a, b] := fun a b e => hn ⟨a, b, e⟩
    have hp : isP d = false := by
      cases d with
      | tuple es =>
        match es, hn' with
        | [], _ => rfl
        | [_], _ => rfl
        | [a, b], z => exact absurd rfl (z a b)
        | _ :: _ :: _ :: _, _ => rfl
      | _ => rfl
    rw [hp]
    exact ⟨fun z => (by cases z), fun _ => notp hn'⟩
theorem r_due {d : D} (h : LfB d) : x_u_law_due [.im d] = .ok (dueD d) := by
  cases d with
  | tuple ds =>
    have c0 : xChain leAD leAD (xC (.int 1)) (xF lenD (xLook 0)) (xC (.int 40)) [.im (.tuple ds), .un, .un, .un, .un] = .ok (.bool (decide ((1 : Int) ≤ ds.length) && decide ((ds.length : Int) ≤ 40))) := xchain_b rfl (xf_ok (xlk rfl) rfl) rfl (le_i _ _) (le_i _ _)
    have e0 : xOr (xNot (xTru (xF (isiD "tuple") (xLook 0)))) (xNot (xTst (xChain leAD leAD (xC (.int 1)) (xF lenD (xLook 0)) (xC (.int 40))))) [.im (.tuple ds), .un, .un, .un, .un] = .ok (false || !tupIn (.tuple ds) 1 40) := xor_b (tru_b (b := true) (xf_ok (xlk rfl) rfl)) (xnot_b (xtst_ok c0))
    have rt0 : xTup (xCons (xC (.str "book")) (xCons (xC .none) xNil)) [.im (.tuple ds), .un, .un, .un, .un] = .ok (bookT .none) := tup_book rfl
    cases ht : tupIn (.tuple ds) 1 40 with
    | false =>
      rw [ht] at e0
      have er : dueD (.tuple ds) = bookT .none := by
        unfold dueD bkV
        simp only [ht, Bool.false_eq_true, if_false]
      rw [er]
      exact xdef_rt rfl (ifRet e0 rt0 rfl)
    | true =>
      rw [ht] at e0
      have hl : ds.length ≤ 40 := by
        have h' : (decide ((1 : Int) ≤ ds.length) && decide ((ds.length : Int) ≤ 40)) = true := ht
        simp only [Bool.and_eq_true, decide_eq_true_eq] at h'
        omega
      have er : bkV (.tuple ds) = (badAt ds).map fun (k : Nat) => PyData.int (k : Int) := by
        unfold bkV
        exact if_pos ht
      have key := xfor_find (tg := xgT [1, 2]) (xs := duX) (fun i ρ => (∀ y ∈ ds.take i, LfP y ∧ isP y = true) ∧ ∃ e1 e2 e3 e4, ρ = [.im (.tuple ds), e1, e2, e3, e4]) (goodAt ds) (fun i f => f = .rt (bookT (.int i))) (fun i f e => .inl ⟨_, e⟩) (enumD ds) 0 [.im (.tuple ds), .un, .un, .un, .un] (fun i hi ρ ⟨hy, e1, e2, e3, e4, he⟩ => ?_) ⟨fun y hy => (by simp at hy), _, _, _, _, rfl⟩
      · rw [enum_len] at key
        have forE : ∀ f, xfor (xgT [1, 2]) duX (enumD ds) [.im (.tuple ds), .un, .un, .un, .un] = .ok f → xFor (xEnT (xVar 0)) (xgT [1, 2]) duX [.im (.tuple ds), .un, .un, .un, .un] = .ok f := fun f e => by
          show lift (xEnT _ _) _ _ = _
          rw [xent_ok (xvr rfl)]
          exact e
        cases hb : badAt ds with
        | none =>
          obtain ⟨ρ', e1, _, a1, a2, a3, a4, rfl⟩ := key.1 hb
          have e2 : dueD (.tuple ds) = .list [.tuple ds] := by
            unfold dueD
            rw [er, hb]
            rfl
          rw [e2]
          exact xdef_rt rfl (ifRet e0 rt0 (xseq_nx (forE _ e1) (xret_ok rfl)))
        | some k =>
          obtain ⟨f, e1, rfl⟩ := key.2 k hb
          have e2 : dueD (.tuple ds) = bookT (.int k) := by
            unfold dueD
            rw [er, hb]
            rfl
          rw [e2]
          exact xdef_rt rfl (ifRet e0 rt0 (xseq_rt (forE _ e1)))
      · rw [enum_len] at hi
        subst he
        rw [Nat.zero_add] at hy ⊢
        have hx : LfP (ds.getD i .none) := by
          rw [List.getD_eq_getElem?_getD, List.getElem?_eq_getElem hi]
          exact h ds rfl _ (List.getElem_mem hi)
        refine ⟨duE ds i (ds.getD i .none) e3 e4, ?_, ?_⟩
        · rw [enum_at]
          show some _ = _
          congr 4
          rw [List.getD_eq_getElem?_getD]
          simp [hi]
        · obtain ⟨yes, no⟩ := du_body (e3' := e3) (e4' := e4) hi hl hx hy .un .un
          refine ⟨fun hp => ?_, fun hp => ⟨_, no hp, rfl⟩⟩
          obtain ⟨a, b, e⟩ := yes hp
          refine ⟨_, e, fun y hy2 => ?_, _, _, _, _, rfl⟩
          rw [take_snoc hi] at hy2
          rcases List.mem_append.mp hy2 with z | z
          · exact hy y z
          · rw [List.mem_singleton.mp z]
            have : (isP (ds.getD i .none) && !dupB ds i (ds.getD i .none)) = true := hp
            exact ⟨hx, (Bool.and_eq_true_iff.mp this).1⟩
  | _ => exact xdef_rt rfl (ifRet (b := true) (xorT (tru_b (b := false) (xf_ok (xlk rfl) rfl))) (tup_book rfl) rfl)
end Pf

/-! L5: how calls go with what is no book, with odd texts and tellings -/
namespace Pf
open PySem L2 HW
theorem mask_im {ρ : List En} {i : Nat} {d : D} (h : ρ[i]? = some (.im d)) : (maskE ρ)[i]? = some (.im d) := by
  unfold maskE
  rw [List.getElem?_map, h]
  rfl
theorem xout_ok {ns : List Str} {rs : List FRow} {xa : XE} {ρ : List En} {d : D} (e : xa (maskE ρ) = .ok d) : xOut ns rs xa ρ = .ok (.list [d]) := by
  unfold xOut
  rw [e]
theorem xout_ex {ns : List Str} {rs : List FRow} {xa : XE} {ρ : List En} {x : Xd} {y : D} (e : xa (maskE ρ) = .ex x) (hx : x.C ∈ ns) (hf : faultD rs x = some y) : xOut ns rs xa ρ = .ok y := by
  unfold xOut
  rw [e]
  show (if x.C ∈ ns then Rs.ofO (faultD rs x) else .bad) = _
  rw [if_pos hx, hf]
  rfl
theorem xdrop_ex {xa : XE} {ρ : List En} {x : Xd} (e : xa ρ = .ex x) : xDrop xa ρ = .ok (.xx x ρ) := by
  show lift (xa ρ) ρ _ = _
  rw [e]
  rfl
theorem xcallX_ex {x : XFn} {xg : XG} {ρ : List En} {es : List En} {y : Xd} (e : xg ρ = .ok es) (e1 : x es = .ex y) : xCallX x xg ρ = .ex y := by
  show (xg ρ).bind _ = _
  rw [e]
  exact e1

abbrev oP : Xd := ⟨"OutOfPlace", []⟩
abbrev placeT : D := .tuple [.str "place", .none]
theorem bk_in (v : D) : (bkX v).C ∈ tnO := show ("BadBook" : Str) ∈ tnO by decide
theorem bk_fd (v : D) : faultD rsO (bkX v) = some (bookT v) := by kernel_rfl
theorem oP_in : oP.C ∈ tnO := by decide
theorem oP_fd : faultD rsO oP = some placeT := by kernel_rfl
section
variable {d v : D} {ρ : List En}
theorem book_ex (hB : LfB d) (h : bkV d = some v) : x_need_book [.im d] = .ex (bkX v) := by
  rw [r_book hB, h]
theorem book_ok (hB : LfB d) (h : bkV d = none) : x_need_book [.im d] = .ok d := by
  rw [r_book hB, h]
theorem need_ex {xr : XS} (hB : LfB d) (h : bkV d = some v) (e : ρ[0]? = some (.im d)) : xSeq (xDrop (xCallX x_need_book (xgIm (xVar 0) xgNil))) xr ρ = .ok (.xx (bkX v) ρ) := xseq_xx (xdrop_ex (xcallX_ex (xg1 (xvr e)) (book_ex hB h)))
theorem need_go {xr : XS} {r : Rs Fl} (hB : LfB d) (h : bkV d = none) (e : ρ[0]? = some (.im d)) (k : xr ρ = r) : xSeq (xDrop (xCallX x_need_book (xgIm (xVar 0) xgNil))) xr ρ = r := xseq_nx (xdrop_ok (xcallX_ok (xg1 (xvr e)) (book_ok hB h))) k
theorem out_bk {xa : XE} (e : xa (maskE ρ) = .ex (bkX v)) : xOut tnO rsO xa ρ = .ok (bookT v) := xout_ex e (bk_in v) (bk_fd v)
theorem out_oP {xa : XE} (e : xa (maskE ρ) = .ex oP) : xOut tnO rsO xa ρ = .ok placeT := xout_ex e oP_in oP_fd
theorem c1 {f : XFn} {i : Nat} {r : Rs D} (e : ρ[i]? = some (.im d)) (h : f [.im d] = r) : xCallX f (xgIm (xVar i) xgNil) ρ = r := by
  show (xgIm (xVar i) xgNil ρ).bind _ = _
  rw [xg1 (xvr e)]
  exact h
theorem c2 {f : XFn} {i : Nat} {xa : XE} {t : D} {r : Rs D} (e : ρ[i]? = some (.im d)) (e2 : xa ρ = .ok t) (h : f [.im d, .im t] = r) : xCallX f (xgIm (xVar i) (xgIm xa xgNil)) ρ = r := by
  show (xgIm (xVar i) (xgIm xa xgNil) ρ).bind _ = _
  rw [xgc (xvr e) (xg1 e2)]
  exact h
theorem c3 {f : XFn} {i : Nat} {xa xb : XE} {t u : D} {r : Rs D} (e : ρ[i]? = some (.im d)) (e2 : xa ρ = .ok t) (e3 : xb ρ = .ok u) (h : f [.im d, .im t, .im u] = r) : xCallX f (xgIm (xVar i) (xgIm xa (xgIm xb xgNil))) ρ = r := by
  show (xgIm (xVar i) (xgIm xa (xgIm xb xgNil)) ρ).bind _ = _
  rw [xgc (xvr e) (xgc e2 (xg1 e3))]
  exact h
theorem c_sent {t : D} {xd : Xd} (h : x_sent [.im d, .im t] = .ex xd) : True := True.intro
/-- the law's calls with a text: all refused alike -/
theorem r_allX {t : D} {x : Xd} {y : D} (hx : x.C ∈ tnO) (hf : faultD rsO x = some y) (h1 : x_least_cost [.im d, .im t] = .ex x) (h2 : x_telling [.im d, .im t] = .ex x) (h3 : x_many_tellings [.im d, .im t] = .ex x) (h4 : x_cost_paper [.im d, .im t] = .ex x) (h5 : x_check_cost [.im d, .im t, .im .none] = .ex x) (h6 : x_reads [.im d, .im t] = .ex x) (h7 : x_many_reads [.im d, .im t] = .ex x) :
    x_u_law_all [.im d, .im t] = .ok (.list [y, y, y, y, y, y, y]) := by
  have o2 : ∀ {f : XFn} {ρ : List En}, ρ[0]? = some (.im d) → ρ[1]? = some (.im t) → f [.im d, .im t] = .ex x → xOut tnO rsO (xCallX f (xgIm (xVar 0) (xgIm (xVar 1) xgNil))) ρ = .ok y := fun e e2 h => xout_ex (c2 (mask_im e) (xvr (mask_im e2)) h) hx hf
  refine xdef_rt rfl (xseq_nx (xownl_ok (xcons_ok (o2 rfl rfl h1) rfl) (show 1 ≤ 1000 by decide)) (xseq_nx (xapp_ok rfl (o2 rfl rfl h2) (show 1 < LIM by decide)) (xseq_nx (xapp_ok rfl (o2 rfl rfl h3) (show 2 < LIM by decide)) (xseq_nx (xapp_ok rfl (o2 rfl rfl h4) (show 3 < LIM by decide)) (xseq_nx (xapp_ok rfl (xout_ex (c3 (mask_im rfl) (xvr (mask_im rfl)) rfl h5) hx hf) (show 4 < LIM by decide)) (xseq_nx (xapp_ok rfl (o2 rfl rfl h6) (show 5 < LIM by decide)) (xret_ok (xcat_ok (u := [y, y, y, y, y, y]) (v := [y]) rfl (xlst_ok (xcons_ok (o2 rfl rfl h7) rfl) (show 1 ≤ LIM by decide)) (show 6 + 1 ≤ 1000 by decide)))))))))
theorem r_all (hB : LfB d) (h : bkV d = some v) (t : D) : x_u_law_all [.im d, .im t] = .ok (.list [bookT v, bookT v, bookT v, bookT v, bookT v, bookT v, bookT v]) :=
  r_allX (bk_in v) (bk_fd v) (xdef_xx rfl (need_ex hB h rfl)) (xdef_xx rfl (need_ex hB h rfl)) (xdef_xx rfl (need_ex hB h rfl)) (xdef_xx rfl (need_ex hB h rfl)) (xdef_xx rfl (need_ex hB h rfl)) (xdef_xx rfl (need_ex hB h rfl)) (xdef_xx rfl (need_ex hB h rfl))
theorem text_ex {xr : XS} {t : D} {x : Str} {ρ : List En} (e : ρ[1]? = some (.im t)) (h : x_need_text [.im t, .im (.int 200), .im (.str x)] = .ex oP) : xSeq (xDrop (xCallX x_need_text (xgIm (xVar 1) (xgIm (xC (.int 200)) (xgIm (xC (.str x)) xgNil))))) xr ρ = .ok (.xx oP ρ) := xseq_xx (xdrop_ex (xcallX_ex (xgc (xvr e) (xgc rfl (xg1 rfl))) h))
theorem r_allT (hB : LfB d) (h : bkV d = none) {t : D} (ht : x_need_text [.im t, .im (.int 200), .im (.str "the text")] = .ex oP) (hr : x_need_text [.im t, .im (.int 200), .im (.str "the row")] = .ex oP) : x_u_law_all [.im d, .im t] = .ok (.list [placeT, placeT, placeT, placeT, placeT, placeT, placeT]) :=
  r_allX oP_in oP_fd (xdef_xx rfl (need_go hB h rfl (text_ex rfl ht))) (xdef_xx rfl (need_go hB h rfl (text_ex rfl ht))) (xdef_xx rfl (need_go hB h rfl (text_ex rfl ht))) (xdef_xx rfl (need_go hB h rfl (text_ex rfl ht))) (xdef_xx rfl (need_go hB h rfl (text_ex rfl ht))) (xdef_xx rfl (need_go hB h rfl (text_ex rfl hr))) (xdef_xx rfl (need_go hB h rfl (text_ex rfl hr)))
theorem r_rest (hB : LfB d) (h : bkV d = some v) : x_u_law_rest [.im d] = .ok (.list [bookT v, bookT v, bookT v, bookT v]) :=
  xdef_rt rfl (xseq_nx (xownl_ok (xcons_ok (out_bk (c2 (t := .none) (mask_im rfl) rfl (xdef_xx rfl (need_ex hB h rfl)))) (xcons_ok (out_bk (c1 (mask_im rfl) (xdef_xx rfl (need_ex hB h rfl)))) rfl)) (show 2 ≤ 1000 by decide)) (xseq_nx (xapp_ok rfl (out_bk (c1 (mask_im rfl) (xdef_xx rfl (need_ex hB h rfl)))) (show 2 < LIM by decide)) (xret_ok (xcat_ok (u := [bookT v, bookT v, bookT v]) (v := [bookT v]) rfl (xlst_ok (xcons_ok (out_bk (c2 (t := .none) (mask_im rfl) rfl (xdef_xx rfl (need_ex hB h rfl)))) rfl) (show 1 ≤ LIM by decide)) (show 3 + 1 ≤ 1000 by decide)))))
theorem out_book {i : Nat} (hB : LfB d) (e : ρ[i]? = some (.im d)) : xOut tnO rsO (xCallX x_need_book (xgIm (xVar i) xgNil)) ρ = .ok (dueD d) := by
  unfold dueD
  cases h : bkV d with
  | none => exact xout_ok (c1 (mask_im e) (book_ok hB h))
  | some v => exact out_bk (c1 (mask_im e) (book_ex hB h))
end
/-! what is told is shown alike -/
theorem rp_none : Rp .none 0 0 := ⟨rfl, Nat.le_refl _, rfl, rfl, by unfold okS; decide +kernel, rfl, rfl, Nat.le_refl _⟩
theorem rp_w {x : Str} (h : ∃ l, x = S l ∧ (∀ c ∈ l, c ∈ codeL) ∧ l.length ≤ 12) : Rp (.str x) 100 0 := by
  obtain ⟨l, rfl, h1, h2⟩ := h
  exact rp_str h1 h2
theorem rp_bookT {v : D} (h : v = .none ∨ ∃ k : Nat, v = .int k ∧ k < 100) : Rp (bookT v) 200 1 := by
  have hv : Rp v 34 0 := by
    rcases h with rfl | ⟨k, rfl, hk⟩
    · exact rp_none.mono (by decide) (Nat.le_refl _)
    · exact rp_int (by omega) (by omega)
  exact (rp_tup (rpA_cons (rp_w ⟨[98, 111, 111, 107], rfl, by decide, by decide⟩) (rpA_cons hv rpA_nil))).mono (by decide) (by decide)
theorem rp_place : Rp placeT 200 1 := (rp_tup (rpA_cons (rp_w ⟨[112, 108, 97, 99, 101], rfl, by decide, by decide⟩) (rpA_cons rp_none rpA_nil))).mono (by decide) (by decide)
theorem firstF_lt {p : Nat → Bool} : ∀ {m n k : Nat}, firstF p n m = some k → n ≤ k ∧ k < n + m ∧ p k = false
  | 0, _, _, h => by cases h
  | m + 1, n, k, h => by
    by_cases hp : p n = true
    · have h' : firstF p (n + 1) m = some k := (if_pos hp).symm.trans h
      have := firstF_lt h'
      exact ⟨by omega, by omega, this.2.2⟩
    · have h' : some n = some k := (if_neg hp).symm.trans h
      cases h'
      exact ⟨Nat.le_refl _, by omega, by simpa using hp⟩
theorem firstF_all {p : Nat → Bool} : ∀ {m n : Nat}, firstF p n m = none → ∀ i, i < m → p (n + i) = true
  | 0, _, _, i, hi => by omega
  | m + 1, n, h, i, hi => by
    by_cases hp : p n = true
    · have h' : firstF p (n + 1) m = none := (if_pos hp).symm.trans h
      cases i with
      | zero => exact hp
      | succ i =>
        have := firstF_all h' i (by omega)
        rw [show n + (i + 1) = n + 1 + i by omega]
        exact this
    · have h' : some n = none := (if_neg hp).symm.trans h
      cases h'

theorem bkV_some {d v : D} (h : bkV d = some v) : v = .none ∨ ∃ k : Nat, v = .int k ∧ k < 100 := by
  cases d with
  | tuple ds =>
    unfold bkV at h
    by_cases ht : tupIn (.tuple ds) 1 40 = true
    · have h' : ((badAt ds).map fun (k : Nat) => PyData.int (k : Int)) = some v := (if_pos ht).symm.trans h
      obtain ⟨k, hk, rfl⟩ := Option.map_eq_some_iff.mp h'
      have := firstF_lt hk
      have ht' : (decide ((1 : Int) ≤ ds.length) && decide ((ds.length : Int) ≤ 40)) = true := ht
      simp only [Bool.and_eq_true, decide_eq_true_eq] at ht'
      exact .inr ⟨k, rfl, by omega⟩
    · have h' : some PyData.none = some v := (if_neg ht).symm.trans h
      cases h'
      exact .inl rfl
  | _ => cases h; exact .inl rfl
theorem bk_right {d : D} (h : bkV d = none) : ∃ ds, d = .tuple ds ∧ 1 ≤ ds.length ∧ ds.length ≤ 40 ∧ ∀ x ∈ ds, isP x = true := by
  cases d with
  | tuple ds =>
    unfold bkV at h
    by_cases ht : tupIn (.tuple ds) 1 40 = true
    · have h' : ((badAt ds).map fun (k : Nat) => PyData.int (k : Int)) = none := (if_pos ht).symm.trans h
      have hb : badAt ds = none := by
        cases e : badAt ds with
        | none => rfl
        | some k => rw [e] at h'; cases h'
      have ht' : (decide ((1 : Int) ≤ ds.length) && decide ((ds.length : Int) ≤ 40)) = true := ht
      simp only [Bool.and_eq_true, decide_eq_true_eq] at ht'
      refine ⟨ds, rfl, by omega, by omega, fun x hx => ?_⟩
      obtain ⟨i, hi, rfl⟩ := List.getElem_of_mem hx
      have := firstF_all hb i hi
      rw [Nat.zero_add] at this
      have e : (isP (ds.getD i .none) && !dupB ds i (ds.getD i .none)) = true := this
      have := (Bool.and_eq_true_iff.mp e).1
      rw [List.getD_eq_getElem?_getD, List.getElem?_eq_getElem hi] at this
      exact this
    · have h' : some PyData.none = none := (if_neg ht).symm.trans h
      cases h'
  | _ => cases h
theorem rp_right {d : D} (hB : LfB d) (h : bkV d = none) : Rp d 20000 2 := by
  obtain ⟨ds, rfl, h1, h2, h3⟩ := bk_right h
  exact (rp_tup (rpA_all (W := 300) (dep := 1) fun x hx => rp_pair (hB ds rfl x hx) (h3 x hx))).mono (by omega) (Nat.le_refl _)
theorem rp_due {d : D} (hB : LfB d) : Rp (dueD d) 30000 3 ∧ isRef (dueD d) = true := by
  unfold dueD
  cases h : bkV d with
  | none => exact ⟨(rp_list (rpA_cons (rp_right hB h) rpA_nil)).mono (by decide) (by decide), rfl⟩
  | some v => exact ⟨(rp_bookT (bkV_some h)).mono (by decide) (by decide), rfl⟩
/-! odd texts, odd tellings -/
abbrev as201 : Str := S (List.replicate 201 97)
def oddT : List D := [.none, .int 5, .str "a b", .str "A", .str as201, .list [.str "a"]]
theorem odd_t : ∀ t ∈ oddT, x_need_text [.im t, .im (.int 200), .im (.str "the text")] = .ex oP ∧ x_need_text [.im t, .im (.int 200), .im (.str "the row")] = .ex oP := by
  intro t ht
  simp only [oddT, List.mem_cons, List.not_mem_nil, or_false] at ht
  rcases ht with rfl | rfl | rfl | rfl | rfl | rfl <;> exact ⟨by kernel_rfl, by kernel_rfl⟩
def oddN (n : Int) : List D := [.none, .list [.int 0], .tuple [.int n], .tuple [.int (-1)], .tuple [.bool true], .tuple (List.replicate 201 (.int 0)), .int 0]
end Pf

/-! L6: the law's walks over things, odd texts, odd tellings -/
namespace Pf
open PySem L2 HW
theorem gs {ρ : List En} {i j : Nat} {e : En} (h : i ≠ j) : (ρ.set i e)[j]? = ρ[j]? := List.getElem?_set_ne h
theorem gh {ρ : List En} {i : Nat} {e : En} (h : i < ρ.length) : (ρ.set i e)[i]? = some e := List.getElem?_set_self h
theorem xreplist {xb : XE} {ρ : List En} {ds : List D} {n : Int} {xA : XA} (e : xA ρ = .ok ds) (e2 : xb ρ = .ok (.int n)) (h1 : ds.length ≤ LIM) (h2 : -(2 ^ 62) ≤ n ∧ n ≤ 2 ^ 62 ∧ ds.length * n.toNat ≤ LIM) : xRepL xA xb ρ = .ok (.list (List.replicate n.toNat ds).flatten) := by
  show (xA ρ).bind _ = _
  rw [e]
  refine (guard_pos h1).trans ?_
  rw [e2]
  exact guard_pos h2
theorem xlkl {i : Nat} {ds : List D} {ρ : List En} (h : ρ[i]? = some (.ls ds)) : xLook i ρ = .ok (.list ds) := by
  show Rs.ofO (ρ[i]?.bind En.look) = _
  rw [h]
  rfl

structure St (p : D) (ρ : List En) : Prop where
  len : ρ.length = 14
  m : ρ[1]? = some .st
  pa : ρ[3]? = some (.im p)
theorem St.set {p : D} {ρ : List En} {i : Nat} {e : En} (h : St p ρ) (h1 : i ≠ 1) (h3 : i ≠ 3) : St p (ρ.set i e) := ⟨by rw [List.length_set]; exact h.len, by rw [gs h1]; exact h.m, by rw [gs h3]; exact h.pa⟩
theorem eleven (t : D) : (List.replicate (11 : Int).toNat [t]).flatten = [t, t, t, t, t, t, t, t, t, t, t] := rfl
theorem seven (t : D) : (List.replicate (7 : Int).toNat [t]).flatten = [t, t, t, t, t, t, t] := rfl
theorem ne_many {t : D} {W dep : Nat} {ds : List D} (r : Rp t W dep) (hd : dep ≤ 50) (h : ∀ x ∈ ds, x = t) : neD (.list ds) (.list ds) = some (.bool false) :=
  ne_rp (rp_list (rpA_all (W := W) (dep := dep) fun x hx => by rw [h x hx]; exact r)) (by omega)
abbrev thingBody : XS := (xSeq (xSet 12 (xCall x_u_law_due (xgIm (xVar 10) xgNil))) (xSeq (xIf (xTst (xOp neD (xF reprD (xOut tnO rsO (xCallX x_need_book (xgIm (xVar 10) xgNil)))) (xF reprD (xLook 12)))) (xRet (xC (.bool false))) xNext) (xIf (xAnd (xTru (xF (isiD "tuple") (xLook 12))) (xTst (xOp neD (xOp catD (xCall x_u_law_all (xgIm (xVar 10) (xgIm (xC .none) xgNil))) (xCall x_u_law_rest (xgIm (xVar 10) xgNil))) (xRepL (xCons (xVar 12) xNil) (xC (.int 11)))))) (xRet (xC (.bool false))) xNext)))
theorem thing_body {ρ : List En} {d : D} (hl : ρ.length = 14) (hB : LfB d) : thingBody (ρ.set 10 (.im d)) = .ok (.nx ((ρ.set 10 (.im d)).set 12 (.im (dueD d)))) := by
  have a8 : (ρ.set 10 (.im d))[10]? = some (.im d) := gh (by omega)
  have b8 : ((ρ.set 10 (.im d)).set 12 (.im (dueD d)))[10]? = some (.im d) := by rw [gs (by decide)]; exact a8
  have b9 : ((ρ.set 10 (.im d)).set 12 (.im (dueD d)))[12]? = some (.im (dueD d)) := gh (by rw [List.length_set]; omega)
  refine xseq_nx (xset_ok (xcall_ok (xg1 (xvr a8)) (r_due hB))) ?_
  obtain ⟨rp, rf⟩ := rp_due hB
  obtain ⟨q1, q2⟩ := rep_ok rp rf (by decide) (by decide)
  refine xseq_nx (xifF (xtst_ok (b := false) (xop_ok (xf_ok (out_book hB b8) q1) (xf_ok (xlk b9) q1) (ne_same q2))) rfl) ?_
  refine xifF ?_ rfl
  cases h : bkV d with
  | none =>
    have e : dueD d = .list [d] := by unfold dueD; rw [h]
    exact xandF (xtru_ok (xf_ok (xlk (by rw [b9, e])) rfl))
  | some v =>
    have e : dueD d = bookT v := by unfold dueD; rw [h]
    rw [e] at b9 b8 ⊢
    refine xandT (xtru_ok (xf_ok (xlk b9) rfl)) (xtst_ok (xop_ok (x := .list [bookT v, bookT v, bookT v, bookT v, bookT v, bookT v, bookT v, bookT v, bookT v, bookT v, bookT v]) (xcat_ok (u := [bookT v, bookT v, bookT v, bookT v, bookT v, bookT v, bookT v]) (v := [bookT v, bookT v, bookT v, bookT v]) (xcall_ok (xgc (xvr b8) (xg1 rfl)) (r_all hB h _)) (xcall_ok (xg1 (xvr b8)) (r_rest hB h)) (show 7 + 4 ≤ 1000 by decide)) (xreplist (ds := [bookT v]) (n := 11) (xcons_ok (xvr b9) rfl) rfl (show 1 ≤ LIM by decide) ⟨by decide, by decide, (show 1 * 11 ≤ LIM by decide)⟩) ?_))
    rw [eleven]
    exact ne_many (rp_bookT (bkV_some h)) (by decide) fun x hx => by
      simp only [List.mem_cons, List.not_mem_nil, or_false, or_self] at hx
      exact hx
abbrev eightE : XE := (xF tupD (xLc (xRng2 (xC (.int 1)) (xC (.int 9))) xYes (xTup (xCons (xOp mulSD (xC (.str "x")) (xLook 11)) (xCons (xOp addD (xSl (xC (.str "yz")) xNo (xSo (xC (.int 1)))) (xF reprID (xLook 11))) xNil))) 11 [11]))
def eightD : D := .tuple ((List.range 8).map fun i => .tuple [sD (List.replicate (i + 1) 120), sD [121, 49 + i]])
theorem eight_ok {ρ : List En} (h : ρ.length = 14) : eightE ρ = .ok eightD := by
  match ρ, h with
  | [e0, e1, e2, e3, e4, e5, e6, e7, e8, e9, e10, e11, e12, e13], _ => kernel_rfl
theorem lfs_c {l : List Nat} (h : l.length ≤ 12) (hc : ∀ c ∈ l, c ∈ codeL) : LfS (sD l) := fun s e => by
  cases e
  exact ⟨l, rfl, h, .inl hc⟩
theorem lfp_c {p q : D} (hp : LfS p) (hq : LfS q) : LfP (.tuple [p, q]) := fun a b e => by
  cases e
  exact ⟨hp, hq⟩
theorem eight_lf : LfB eightD := fun ds e x hx => by
  cases e
  obtain ⟨i, hi, rfl⟩ := List.mem_map.mp hx
  have hi' := List.mem_range.mp hi
  refine lfp_c (lfs_c (by rw [List.length_replicate]; omega) fun c hc => ?_) (lfs_c (show 2 ≤ 12 by decide) fun c hc => ?_)
  · rw [List.eq_of_mem_replicate hc]; decide
  · rcases List.mem_cons.mp hc with rfl | hc
    · decide
    · rw [List.mem_singleton.mp hc]
      have : ∀ i, i < 8 → 49 + i ∈ codeL := by decide
      exact this i hi'
theorem r_things {p : D} {ρ : List En} {ds : List D} (h : St p ρ) (e : ρ[6]? = some (.ls ds)) (hl : ds.length ≤ 100) (hB : ∀ x ∈ ds, LfB x) : ∃ ρ', x_lafbbbbbbba ρ = .ok (.nx ρ') ∧ St p ρ' := by
  have walk : xItL (xOp catD (xLook 6) (xLst (xCons eightE xNil))) ρ = .ok (ds ++ [eightD]) := xitL_ok (xcat_ok (xlkl e) (xlst_ok (xcons_ok (eight_ok h.len) rfl) (show 1 ≤ LIM by decide)) (by rw [List.length_singleton]; omega))
  have hB' : ∀ x ∈ ds ++ [eightD], LfB x := fun x hx => by
    rcases List.mem_append.mp hx with z | z
    · exact hB x z
    · rw [List.mem_singleton.mp z]; exact eight_lf
  exact xfor_go (tg := xgN 10) (xs := thingBody) (fun _ ρ => St p ρ) walk (fun i hi ρ hs => ⟨_, _, rfl, thing_body hs.len (hB' _ (List.getElem_mem hi)), (hs.set (by decide) (by decide)).set (by decide) (by decide)⟩) h
/-- odd texts -/
theorem r_texts {p : D} {ρ : List En} (hB : LfB p) (hr : bkV p = none) (h : St p ρ) : ∃ ρ', x_lafbbbbbbbba ρ = .ok (.nx ρ') ∧ St p ρ' := by
  have walk : xItT (xTup (xCons (xC .none) (xCons (xC (.int 5)) (xCons (xC (.str "a b")) (xCons (xC (.str "A")) (xCons (xOp mulSD (xC (.str "a")) (xC (.int 201))) (xCons (xLst (xCons (xC (.str "a")) xNil)) xNil))))))) ρ = .ok oddT := by kernel_rfl
  refine xfor_go (tg := xgN 13) (xs := (xIf (xTst (xOp neD (xCall x_u_law_all (xgIm (xVar 3) (xgIm (xVar 13) xgNil))) (xRepL (xCons (xTup (xCons (xC (.str "place")) (xCons (xC .none) xNil))) xNil) (xC (.int 7))))) (xRet (xC (.bool false))) xNext)) (fun _ ρ => St p ρ) walk (fun i hi ρ hs => ?_) h
  obtain ⟨t1, t2⟩ := odd_t _ (List.getElem_mem hi)
  have s : St p (ρ.set 13 (.im oddT[i])) := hs.set (by decide) (by decide)
  refine ⟨_, _, rfl, xifF (xtst_ok (b := false) (xop_ok (xcall_ok (xgc (xvr s.pa) (xg1 (xvr (gh (by rw [hs.len]; decide))))) (r_allT hB hr t1 t2)) (xreplist (ds := [placeT]) (n := 7) (xcons_ok rfl rfl) rfl (show 1 ≤ LIM by decide) ⟨by decide, by decide, (show 1 * 7 ≤ LIM by decide)⟩) ?_)) rfl, s⟩
  rw [seven]
  exact ne_many rp_place (by decide) fun x hx => by
    simp only [List.mem_cons, List.not_mem_nil, or_false, or_self] at hx
    exact hx
/-- odd tellings -/
theorem tell_no {p t : D} {n : Nat} (hl : lenD p = some (.int n)) (h : t ∈ oddN n) : x_is_telling [.im p, .im t] = .ok (.bool false) := by
  have big : ∀ {t : D}, tupIn t 0 200 = false → x_is_telling [.im p, .im t] = .ok (.bool false) := fun {t} ht => by
    have e0 : xNot (xTru (xCall x_is_tuple (xgIm (xVar 1) (xgIm (xC (.int 0)) (xgIm (xC (.int 200)) xgNil))))) [.im p, .im t, .un] = .ok (!false) := tru_b (xcall_ok (xgc (xvr rfl) (xgc rfl (xg1 rfl))) (by rw [r_tupIn, ht]))
    exact xdef_rt rfl (xseq_rt (xifT e0 rfl))
  have one : ∀ {t : D}, isI t 0 ((n : Int) - 1) = false → x_is_telling [.im p, .im (.tuple [t])] = .ok (.bool false) := fun {t} ht => by
    have e0 : xNot (xTru (xCall x_is_tuple (xgIm (xVar 1) (xgIm (xC (.int 0)) (xgIm (xC (.int 200)) xgNil))))) [.im p, .im (.tuple [t]), .un] = .ok (!true) := tru_b (xcall_ok (xgc (xvr rfl) (xgc rfl (xg1 rfl))) (by rw [r_tupIn]; rfl))
    have lc := xlc_all (xe := xCall x_is_integer (xgIm (xVar 2) (xgIm (xC (.int 0)) (xgIm (xOp subD (xF lenD (xLook 0)) (xC (.int 1))) xgNil)))) (ρ := wipeE [.im p, .im (.tuple [t]), .un] [2]) (j := 2) [t] [.bool false] rfl fun i h1 h2 => by
      have : i = 0 := by simp at h1; omega
      subst this
      exact xcall_ok (xgc (xvr (d := t) rfl) (xgc rfl (xg1 (xop_ok (xf_ok (xlk rfl) hl) rfl (sub_i _ _))))) (by rw [r_isI, ht]; rfl)
    exact xdef_rt rfl (xseq_nx (xifF e0 rfl) (xret_ok (xf_ok (xlc_ok (xitT_ok (xvr rfl)) (show 1 ≤ 1000 by decide) lc) rfl)))
  simp only [oddN, List.mem_cons, List.not_mem_nil, or_false] at h
  rcases h with rfl | rfl | rfl | rfl | rfl | rfl | rfl
  · exact big rfl
  · exact big rfl
  · refine one ?_
    show (decide (0 ≤ (n : Int)) && decide ((n : Int) ≤ (n : Int) - 1)) = false
    rw [decide_eq_false (p := (n : Int) ≤ (n : Int) - 1) (by omega)]
    simp
  · exact one rfl
  · exact one rfl
  · exact big rfl
  · exact big rfl
theorem sent_ex {p t : D} {n : Nat} (hB : LfB p) (hr : bkV p = none) (hl : lenD p = some (.int n)) (h : t ∈ oddN n) : x_sent [.im p, .im t] = .ex oP := by
  have e0 : xNot (xTru (xCall x_is_telling (xgIm (xVar 0) (xgIm (xVar 1) xgNil)))) [.im p, .im t] = .ok (!false) := tru_b (xcall_ok (xgc (xvr rfl) (xg1 (xvr rfl))) (tell_no hl h))
  exact xdef_xx rfl (need_go hB hr rfl (xseq_xx (xifT e0 rfl)))
theorem r_tells {p : D} {ρ : List En} {n : Nat} (hB : LfB p) (hr : bkV p = none) (hl : lenD p = some (.int n)) (h : St p ρ) : ∃ ρ', x_lafbbbbbbbbb ρ = .ok (.nx ρ') ∧ St p ρ' := by
  have one : ∀ {xa : XE} {d : D}, xa ρ = .ok d → xTup (xCons xa xNil) ρ = .ok (.tuple [d]) := fun e => xtup_ok (xcons_ok e rfl) (show 1 ≤ LIM by decide)
  have r201 : repTAD (.tuple [.int 0]) (.int 201) = some (.tuple (List.replicate 201 (.int 0))) := by kernel_rfl
  have walk : xItT (xTup (xCons (xC .none) (xCons (xLst (xCons (xC (.int 0)) xNil)) (xCons (xTup (xCons (xF lenD (xLook 3)) xNil)) (xCons (xTup (xCons (xF negD (xC (.int 1))) xNil)) (xCons (xTup (xCons (xC (.bool true)) xNil)) (xCons (xOp repTAD (xTup (xCons (xC (.int 0)) xNil)) (xC (.int 201))) (xCons (xC (.int 0)) xNil)))))))) ρ = .ok (oddN n) :=
    xitT_ok (xtup_ok (xcons_ok rfl (xcons_ok (xlst_ok (xcons_ok rfl rfl) (show 1 ≤ LIM by decide)) (xcons_ok (one (xf_ok (xlk h.pa) hl)) (xcons_ok (one (xf_ok (x := .int 1) rfl neg1)) (xcons_ok (one rfl) (xcons_ok (xop_ok (one rfl) rfl r201) (xcons_ok rfl rfl))))))) (show 7 ≤ LIM by decide))
  refine xfor_go (tg := xgN 13) (xs := (xIf (xTst (xOp neD (xOut tnO rsO (xCallX x_sent (xgIm (xVar 3) (xgIm (xVar 13) xgNil)))) (xTup (xCons (xC (.str "place")) (xCons (xC .none) xNil))))) (xRet (xC (.bool false))) xNext)) (fun _ ρ => St p ρ) walk (fun i hi ρ hs => ?_) h
  have s : St p (ρ.set 13 (.im (oddN n)[i])) := hs.set (by decide) (by decide)
  exact ⟨_, _, rfl, xifF (xtst_ok (b := false) (xop_ok (out_oP (c2 (mask_im s.pa) (xvr (mask_im (gh (by rw [hs.len]; decide)))) (sent_ex hB hr hl (List.getElem_mem hi)))) rfl (ne_rp rp_place (by decide)))) rfl, s⟩
end Pf

/-! L7: what is drawn: odd things, bent ones -/
namespace Pf
open PySem L2 HW
/-- one of some things -/
theorem l_of {ds : List D} {c : Nat} {Q : D → Nat → Prop} (h1 : 1 ≤ ds.length) (h2 : ds.length ≤ 1000) (hc : c < 2 ^ 60) (q : ∀ d ∈ ds, Q d (c + 1)) : f_u_law_of [.st, .im (.list ds)] c Q := by
  refine ⟨rfl, _, _, rfl, rfl, ?_⟩
  refine drw (i := 0) (k_f k_look) (t := (ds.length : Int)) rfl rfl (by omega) (by omega) hc fun n hn => ?_
  have hn' : n < ds.length := by omega
  refine ⟨ds[n], ?_, q _ (List.getElem_mem _)⟩
  show atI ds n = _
  unfold atI ixN
  rw [if_pos (by omega), if_pos (by omega)]
  have : ((n : Int)).toNat = n := by omega
  rw [this]
  simp [hn']
def oddL : List D := [.none, .bool true, .bool false, .int 0, .int 1, .int (-1), .int 8, .int 41, .int 1001, .int 1000000000000000000000000000000, .str "", .str "a", .str "A", .str "ab", .str "two", .tuple [], .tuple [.int 0], .tuple [.int 0, .int 0],
  .list [], .list [.int 0], .dict [], .tuple [.tuple []], .tuple [.int 1, .int 1, .int 1], .tuple [.str "a", .str "b"], .tuple [.str "a", .tuple [.int 0]], .str "a b"]
theorem r_odds : x_u_law_odds [] = .ok (.list oddL) := by kernel_rfl
theorem l_odds {ρ : List En} {c : Nat} {Q : D → Nat → Prop} (q : Q (.list oddL) c) : wCall f_u_law_odds HW.gNil ρ c Q := k_u_law_odds [] c Q (by rw [r_odds]; exact q)

/-- how deep and how wide a thing is at most, and what its leaves are -/
def Bq (P : D → Prop) (L : Nat) : Nat → D → Prop
  | 0, d => (∀ ds, d = .tuple ds → ds = []) ∧ ((∀ ds, d ≠ .tuple ds) → P d)
  | n + 1, d => (∀ ds, d = .tuple ds → ds.length ≤ L ∧ ∀ x ∈ ds, Bq P L n x) ∧ ((∀ ds, d ≠ .tuple ds) → P d)
theorem Bq.up {P P' : D → Prop} (hP : ∀ d, P d → P' d) {L M : Nat} (h : L ≤ M) : ∀ {n m : Nat} {d : D}, n ≤ m → Bq P L n d → Bq P' M m d
  | 0, 0, _, _, b => ⟨b.1, fun z => hP _ (b.2 z)⟩
  | 0, m + 1, _, _, b => ⟨fun ds e => by
    have := b.1 ds e
    subst this
    exact ⟨Nat.zero_le _, fun x hx => by cases hx⟩, fun z => hP _ (b.2 z)⟩
  | n + 1, 0, _, hn, _ => by omega
  | n + 1, m + 1, _, hn, b => ⟨fun ds e => ⟨Nat.le_trans (b.1 ds e).1 h, fun x hx => Bq.up hP h (by omega) ((b.1 ds e).2 x hx)⟩, fun z => hP _ (b.2 z)⟩
theorem Bq.tup {P : D → Prop} {L n : Nat} {es : List D} (hl : es.length ≤ L) (h : ∀ x ∈ es, Bq P L n x) : Bq P L (n + 1) (.tuple es) := ⟨fun ds e => by
  cases e
  exact ⟨hl, h⟩, fun z => absurd rfl (z es)⟩
theorem Bq.flat {P : D → Prop} {L n : Nat} {d : D} (h : ∀ ds, d ≠ .tuple ds) (p : P d) : Bq P L n d := by
  cases n with
  | zero => exact ⟨fun ds e => absurd e (h ds), fun _ => p⟩
  | succ n => exact ⟨fun ds e => absurd e (h ds), fun _ => p⟩
theorem Bq.leaf {P : D → Prop} {L n : Nat} {d : D} (b : Bq P L n d) (h : ∀ ds, d ≠ .tuple ds) : P d := by
  cases n with
  | zero => exact b.2 h
  | succ n => exact b.2 h
def bqB (f : D → Bool) (L : Nat) : Nat → D → Bool
  | 0, .tuple ds => ds.isEmpty
  | n + 1, .tuple ds => decide (ds.length ≤ L) && ds.all (bqB f L n)
  | _, d => f d
theorem bqB_ok {P : D → Prop} {f : D → Bool} (hf : ∀ d, f d = true → P d) {L : Nat} : ∀ {n : Nat} {d : D}, bqB f L n d = true → Bq P L n d
  | 0, d, h => by
    cases d with
    | tuple ds => exact ⟨fun es e => by cases e; exact List.isEmpty_iff.mp h, fun z => absurd rfl (z ds)⟩
    | _ => exact ⟨fun es e => (by cases e), fun _ => hf _ h⟩
  | n + 1, d, h => by
    cases d with
    | tuple ds =>
      have h' : (decide (ds.length ≤ L) && ds.all (bqB f L n)) = true := h
      rw [Bool.and_eq_true, decide_eq_true_eq, List.all_eq_true] at h'
      exact Bq.tup h'.1 fun x hx => bqB_ok hf (h'.2 x hx)
    | _ => exact ⟨fun es e => (by cases e), fun _ => hf _ h⟩
def lfB : D → Bool
  | .str s => decide (s.cps.toList.length ≤ 12) && (isC s.cps.toList || (decide (s.cps.toList = [65]) || decide (s.cps.toList = [97, 32, 98])))
  | _ => true
theorem lfB_ok (d : D) (h : lfB d = true) : LfS d := fun s e => by
  subst e
  have h' : (decide (s.cps.toList.length ≤ 12) && (isC s.cps.toList || (decide (s.cps.toList = [65]) || decide (s.cps.toList = [97, 32, 98])))) = true := h
  simp only [Bool.and_eq_true, Bool.or_eq_true, decide_eq_true_eq] at h'
  refine ⟨s.cps.toList, by simp [S], h'.1, ?_⟩
  rcases h'.2 with z | z | z
  · exact .inl (isC_iff.mp z)
  · exact .inr (.inl z)
  · exact .inr (.inr z)
theorem odd_all : oddL.all (bqB lfB 3 2) = true := by kernel_rfl
theorem odd_bq : ∀ d ∈ oddL, Bq LfS 3 2 d := fun d hd => bqB_ok lfB_ok (List.all_eq_true.mp odd_all d hd)
theorem ofT {R : RR} {xt : XT} {wt : WT} (k : RfT R xt wt) {ρ : List En} {b : Bool} (e : xt ρ = .ok b) {Q : Bool → Nat → Prop} {c : Nat} (q : Q b c) : wt ρ c Q := k ρ c Q (by rw [e]; exact q)
theorem ofE {R : RR} {xa : XE} {wa : WE} (k : RfE R xa wa) {ρ : List En} {d : D} (e : xa ρ = .ok d) {Q : D → Nat → Prop} {c : Nat} (q : Q d c) : wa ρ c Q := k ρ c Q (by rw [e]; exact q)
abbrev fR : RR := fun _ _ _ => False
theorem cutHi {α : Type} (l : List α) {i : Nat} (h : i ≤ l.length) : cutL l (some (i : Int)) none = l.drop i := by
  unfold cutL
  rw [HT.sIx_nat, HT.sIx_none, show min i l.length = i by omega, List.take_of_length_le (by simp)]
theorem cat_ok {xa xb : XE} {ρ : List En} {u v : List D} (e1 : xa ρ = .ok (.tuple u)) (e2 : xb ρ = .ok (.tuple v)) (h : u.length + v.length ≤ LIM) : xOp catTD xa xb ρ = .ok (.tuple (u ++ v)) := xop_ok e1 e2 (if_pos h)
abbrev bE (d : D) (e3 e4 : En) : List En := [.st, .im d, .im (.list oddL), e3, e4]
theorem odd_len : oddL.length = 26 := rfl
/-- one of the odd things -/
theorem l_odd1 {P' : D → Prop} {d : D} {e3 e4 : En} {c L n : Nat} {Q : D → Nat → Prop} (hL : 3 ≤ L) (hn : 2 ≤ n) (hc : c < 2 ^ 60) (hO : ∀ x ∈ oddL, Bq P' 3 2 x) (q : ∀ x, Bq P' L n x → Q x (c + 1)) : wCall f_u_law_of (gSt 0 (gIm (wVar 2) HW.gNil)) (bE d e3 e4) c Q :=
  ⟨rfl, _, rfl, l_of (by rw [odd_len]; omega) (by rw [odd_len]; omega) hc fun x hx => q x ((hO x hx).up (fun _ h => h) hL hn)⟩
theorem isi_tup (ds : List D) : isiD "tuple" (.tuple ds) = some (.bool true) := rfl
def isTup : D → Bool
  | .tuple _ => true
  | _ => false
theorem isi_t (d : D) : isiD "tuple" d = some (.bool (isTup d)) := by cases d <;> rfl
theorem ret_in {we : WE} {dd : Dd} {ρ : List En} {c : Nat} (h : we ρ c dd.rt) : wRet we dd ρ c := h
theorem op_in {f : D → D → Option D} {wa wb : WE} {ρ : List En} {c : Nat} {Q : D → Nat → Prop} (h : wa ρ c fun x c1 => wb ρ c1 fun y c2 => ∃ z, f x y = some z ∧ Q z c2) : wOp f wa wb ρ c Q := h
theorem back_in {wa : WE} {ρ : List En} {c : Nat} {Q : D → Nat → Prop} (h : wa ρ c fun d c1 => ∃ ds, d = .tuple ds ∧ Q (.tuple ds.reverse) c1) : wBackT wa ρ c Q := h
theorem nx_in {dd : Dd} {ρ : List En} {c : Nat} (h : dd.nx ρ c) : wNext dd ρ c := h
theorem if1 {d : D} {e3 e4 : En} {c : Nat} {P K : Nat → Prop} (hc : c < 2 ^ 60) (h1 : ∀ i c1, d = .int i → c ≤ c1 → c1 ≤ c + 1 → P c1) (h2 : ∀ c1, c ≤ c1 → c1 ≤ c + 1 → K c1) :
    wAnd (wTru (wF (isiD "int") (wLook 1))) (wAnd (wNot (wTru (wF (isiD "bool") (wLook 1)))) (wTst (wOp gtD (wCall nextW (gSt 0 (gIm (wC (.int 3)) HW.gNil))) (wC (.int 0))))) (bE d e3 e4) c (fun b c1 => if b = true then P c1 else K c1) := by
  have no : ∀ b : Bool, isiD "int" d = some (.bool false) → wAnd (wTru (wF (isiD "int") (wLook 1))) (wAnd (wNot (wTru (wF (isiD "bool") (wLook 1)))) (wTst (wOp gtD (wCall nextW (gSt 0 (gIm (wC (.int 3)) HW.gNil))) (wC (.int 0))))) (bE d e3 e4) c (fun b c1 => if b = true then P c1 else K c1) := fun b e =>
    ofT (R := fR) (b := false) (k_tru (k_f k_look)) (xtru_ok (xf_ok (xlk rfl) e)) (iteF (iteF (h2 c (Nat.le_refl _) (by omega))))
  cases d with
  | int i =>
    show wTru (wF (isiD "int") (wLook 1)) (bE (.int i) e3 e4) c _
    refine ofT (R := fR) (b := true) (k_tru (k_f k_look)) (xtru_ok (xf_ok (x := .int i) (xlk rfl) rfl)) ?_
    refine iteT ?_
    show wNot (wTru (wF (isiD "bool") (wLook 1))) (bE (.int i) e3 e4) c _
    refine ofT (R := fR) (b := true) (k_not (k_tru (k_f k_look))) (xnot_b (b := false) (xtru_ok (xf_ok (x := .int i) (xlk rfl) rfl))) ?_
    refine iteT ?_
    refine drw (i := 0) k_c (t := 3) rfl rfl (by omega) (by omega) hc fun n hn => ⟨_, gt_i _ _, _, rfl, ?_⟩
    by_cases h : (0 : Int) < (n : Int)
    · rw [decide_eq_true h]
      exact iteT (h1 i _ rfl (by omega) (by omega))
    · rw [decide_eq_false h]
      exact iteF (h2 _ (by omega) (by omega))
  | bool b =>
    show wTru (wF (isiD "int") (wLook 1)) (bE (.bool b) e3 e4) c _
    refine ofT (R := fR) (b := true) (k_tru (k_f k_look)) (xtru_ok (xf_ok (x := .bool b) (xlk rfl) rfl)) ?_
    refine iteT ?_
    show wNot (wTru (wF (isiD "bool") (wLook 1))) (bE (.bool b) e3 e4) c _
    exact ofT (R := fR) (b := false) (k_not (k_tru (k_f k_look))) (xnot_b (b := true) (xtru_ok (xf_ok (x := .bool b) (xlk rfl) rfl))) (iteF (iteF (h2 c (Nat.le_refl _) (by omega))))
  | _ => exact no true rfl
theorem if2 {d : D} {e3 e4 : En} {c : Nat} {P K : Nat → Prop} (hc : c < 2 ^ 60) (h1 : ∀ c1, c ≤ c1 → c1 ≤ c + 1 → P c1) (h2 : ∀ ds c1, d = .tuple ds → ds ≠ [] → c ≤ c1 → c1 ≤ c + 1 → K c1) :
    wOr (wNot (wTru (wF (isiD "tuple") (wLook 1)))) (wOr (wTst (wOp eqED (wLook 1) (wTup wNil))) (wTst (wOp eqD (wCall nextW (gSt 0 (gIm (wC (.int 8)) HW.gNil))) (wC (.int 0))))) (bE d e3 e4) c (fun b c1 => if b = true then P c1 else K c1) := by
  refine ofT (R := fR) (b := !isTup d) (k_not (k_tru (k_f k_look))) (xnot_b (b := isTup d) (xtru_ok (xf_ok (xlk rfl) (isi_t d)))) ?_
  cases d with
  | tuple ds =>
    refine iteF ?_
    refine ofT (R := fR) (b := ds.isEmpty) (k_tst (k_op k_look (k_tup k_nil))) (xtst_ok (xop_ok (x := .tuple ds) (y := .tuple []) (xlk rfl) (xtup_ok rfl (Nat.zero_le _)) rfl)) ?_
    cases ds with
    | nil => exact iteT (iteT (h1 c (Nat.le_refl _) (by omega)))
    | cons x r =>
      refine iteF ?_
      refine drw (i := 0) k_c (t := 8) rfl rfl (by omega) (by omega) hc fun n hn => ⟨_, eq_i _ _, _, rfl, ?_⟩
      by_cases h : ((n : Int) == 0) = true
      · rw [h]
        exact iteT (h1 _ (by omega) (by omega))
      · have h' : ((n : Int) == 0) = false := by simpa using h
        rw [h']
        exact iteF (h2 _ _ rfl (by simp) (by omega) (by omega))
  | _ => exact iteT (iteT (h1 c (Nat.le_refl _) (by omega)))
theorem way_is {d : D} {e3 : En} {w j : Int} {c : Nat} {P K : Nat → Prop} (h1 : w = j → P c) (h2 : w ≠ j → K c) : wTst (wOp eqD (wLook 4) (wC (.int j))) (bE d e3 (.im (.int w))) c (fun b c1 => if b = true then P c1 else K c1) := by
  refine ofT (R := fR) (b := (w == j)) (k_tst (k_op k_look k_c)) (xtst_ok (xop_ok (xlk rfl) rfl (eq_i _ _))) ?_
  by_cases h : w = j
  · rw [show (w == j) = true by simpa using h]
    exact iteT (h1 h)
  · rw [show (w == j) = false by simpa using h]
    exact iteF (h2 h)
theorem lo_ok {ds : List D} {k : Nat} {e4 : En} (h : k < ds.length) : xSlT (xLook 1) xNo (xSo (xLook 3)) (bE (.tuple ds) (.im (.int (k : Int))) e4) = .ok (.tuple (ds.take k)) := by
  rw [← cutLo ds (Nat.le_of_lt h)]
  exact slt_ok (xlk rfl) rfl (xso_ok (xlk rfl))
theorem hi_ok {ds : List D} {k : Nat} {e4 : En} (h : k < ds.length) : xSlT (xLook 1) (xSo (xLook 3)) xNo (bE (.tuple ds) (.im (.int (k : Int))) e4) = .ok (.tuple (ds.drop k)) := by
  rw [← cutHi ds (Nat.le_of_lt h)]
  exact slt_ok (xlk rfl) (xso_ok (xlk rfl)) rfl
theorem hi1_ok {ds : List D} {k : Nat} {e4 : En} (h : k < ds.length) : xSlT (xLook 1) (xSo (xOp addD (xLook 3) (xC (.int 1)))) xNo (bE (.tuple ds) (.im (.int (k : Int))) e4) = .ok (.tuple (ds.drop (k + 1))) := by
  rw [← cutHi ds (i := k + 1) h]
  have : xSo (xOp addD (xLook 3) (xC (.int 1))) (bE (.tuple ds) (.im (.int (k : Int))) e4) = .ok (some ((k + 1 : Nat) : Int)) := xso_ok (xop_ok (xlk rfl) rfl (add_i _ _))
  exact slt_ok (xlk rfl) this rfl
theorem lim_of {n : Nat} (h : n ≤ 100000) : n ≤ LIM := Nat.le_trans h (by decide)
theorem l_five {d : D} {e3 e4 : En} {c : Nat} {Q : D → Nat → Prop} (hc : c < 2 ^ 60) (q : ∀ j : Int, j ∈ [1, -1, 2, -2, 40] → Q (.int j) (c + 1)) : wCall f_u_law_of (gSt 0 (gIm (wLst (wCons (wC (.int 1)) (wCons (wF negD (wC (.int 1))) (wCons (wC (.int 2)) (wCons (wF negD (wC (.int 2))) (wCons (wC (.int 40)) wNil)))))) HW.gNil)) (bE d e3 e4) c Q := by
  refine ⟨rfl, ?_⟩
  show wLst (wCons (wC (.int 1)) (wCons (wF negD (wC (.int 1))) (wCons (wC (.int 2)) (wCons (wF negD (wC (.int 2))) (wCons (wC (.int 40)) wNil))))) (bE d e3 e4) c _
  refine ofE (R := fR) (d := .list [.int 1, .int (-1), .int 2, .int (-2), .int 40]) (k_lst (k_cons k_c (k_cons (k_f k_c) (k_cons k_c (k_cons (k_f k_c) (k_cons k_c k_nil)))))) (xlst_ok rfl (by decide : 5 ≤ LIM)) ?_
  refine l_of (by decide) (by decide) hc fun x hx => ?_
  simp only [List.mem_cons, List.not_mem_nil, or_false] at hx
  rcases hx with rfl | rfl | rfl | rfl | rfl <;> exact q _ (by decide)
theorem l_bent {P P' : D → Prop} (hP : ∀ d, P d → P' d) (hI : ∀ i j : Int, P (.int i) → j ∈ [1, -1, 2, -2, 40] → P' (.int (i + j))) (hO : ∀ x ∈ oddL, Bq P' 3 2 x) : ∀ (n m L : Nat) (d : D) (c : Nat) (Q : D → Nat → Prop), n ≤ m → 3 ≤ L → L ≤ 1000 → Bq P L n d → c + 8 * (n + 1) < 2 ^ 60 → (∀ y c', Bq P' (L + 1) (n + 2) y → c ≤ c' → c' ≤ c + 8 * (n + 1) → Q y c') → fN_u_law_bent (m + 1) [.st, .im d, .im (.list oddL)] c Q := by
  intro n
  induction n with
  | zero =>
    intro m L d c Q hnm hL hL2 hb hc q
    refine ⟨rfl, ?_⟩
    refine if1 (e3 := .un) (e4 := .un) (by omega) (fun i c1 e k1 k2 => ?_) fun c1 k1 k2 => ?_
    · subst e
      refine ret_in (op_in ?_)
      refine ofE (R := fR) (d := .int i) k_look (xlk rfl) ?_
      exact l_five (by omega) fun j hj => ⟨_, add_i _ _, q _ _ (Bq.flat (fun ds e => by cases e) (hI i j (hb.leaf fun ds e => by cases e) hj)) (by omega) (by omega)⟩
    · refine if2 (e3 := .un) (e4 := .un) (by omega) (fun c2 k3 k4 => ?_) fun ds c2 e ne k3 k4 => ?_
      · exact l_odd1 (P' := P') (n := 2) (L := L + 1) (by omega) (by omega) (by omega) hO fun x hx => q x _ hx (by omega) (by omega)
      · exact absurd (hb.1 ds e) ne
  | succ n ih =>
    intro m L d c Q hnm hL hL2 hb hc q
    obtain ⟨m, rfl⟩ : ∃ m', m = m' + 1 := ⟨m - 1, by omega⟩
    refine ⟨rfl, ?_⟩
    refine if1 (e3 := .un) (e4 := .un) (by omega) (fun i c1 e k1 k2 => ?_) fun c1 k1 k2 => ?_
    · subst e
      refine ret_in (op_in ?_)
      refine ofE (R := fR) (d := .int i) k_look (xlk rfl) ?_
      exact l_five (by omega) fun j hj => ⟨_, add_i _ _, q _ _ (Bq.flat (fun ds e => by cases e) (hI i j (hb.leaf fun ds e => by cases e) hj)) (by omega) (by omega)⟩
    · refine if2 (e3 := .un) (e4 := .un) (by omega) (fun c2 k3 k4 => ?_) fun ds c2 e ne k3 k4 => ?_
      · exact l_odd1 (P' := P') (n := n + 1 + 2) (L := L + 1) (by omega) (by omega) (by omega) hO fun x hx => q x _ hx (by omega) (by omega)
      · subst e
        obtain ⟨hl, hx⟩ := hb.1 ds rfl
        have len1 : 1 ≤ ds.length := by cases ds with
          | nil => exact absurd rfl ne
          | cons _ _ => simp
        have hx' : ∀ x ∈ ds, Bq P' (L + 1) (n + 2) x := fun x h => (hx x h).up hP (by omega) (by omega)
        refine drw (i := 0) (k_f k_look) (t := (ds.length : Int)) rfl rfl (by omega) (by omega) (by omega) fun k hk => ?_
        refine drw (i := 0) k_c (t := 9) rfl rfl (by omega) (by omega) (by omega) fun w hw => ?_
        have hk' : k < ds.length := by omega
        have tk : ∀ x ∈ ds.take k, Bq P' (L + 1) (n + 2) x := fun x h => hx' x (List.mem_of_mem_take h)
        have dk : ∀ j, ∀ x ∈ ds.drop j, Bq P' (L + 1) (n + 2) x := fun j x h => hx' x (List.mem_of_mem_drop h)
        have lt : (ds.take k).length = k := by rw [List.length_take]; omega
        refine way_is (e3 := .im (.int (k : Int))) (fun _ => ?_) fun _ => ?_
        · refine ofE (R := fR) (k_op (k_slT k_look k_no (k_so k_look)) (k_slT k_look (k_so (k_op k_look k_c)) k_no)) (cat_ok (lo_ok hk') (hi1_ok hk') (lim_of (by rw [lt, List.length_drop]; omega))) (q _ _ (Bq.tup (by rw [List.length_append, lt, List.length_drop]; omega) fun x h => ?_) (by omega) (by omega))
          exact (List.mem_append.mp h).elim (tk x) (dk _ x)
        refine way_is (e3 := .im (.int (k : Int))) (fun _ => ?_) fun _ => ?_
        · have ix : ixD (.tuple ds) (.int (k : Int)) = some (ds.getD k .none) := ixT hk'
          refine ofE (R := fR) (k_op (k_op (k_slT k_look k_no (k_so k_look)) (k_tup (k_cons (k_op k_look k_look) k_nil))) (k_slT k_look (k_so k_look) k_no)) (cat_ok (cat_ok (lo_ok hk') (xtup_ok (xcons_ok (xop_ok (xlk rfl) (xlk rfl) ix) rfl) (show 1 ≤ LIM by decide)) (lim_of (by rw [lt]; simp; omega))) (hi_ok hk') (lim_of (by rw [List.length_append, lt, List.length_drop]; simp; omega))) (q _ _ (Bq.tup (by rw [List.length_append, List.length_append, lt, List.length_drop]; simp; omega) fun x h => ?_) (by omega) (by omega))
          rcases List.mem_append.mp h with h | h
          · rcases List.mem_append.mp h with h | h
            · exact tk x h
            · rw [List.mem_singleton.mp h, List.getD_eq_getElem?_getD, List.getElem?_eq_getElem hk']
              exact hx' _ (List.getElem_mem hk')
          · exact dk _ x h
        refine way_is (e3 := .im (.int (k : Int))) (fun _ => ?_) fun _ => ?_
        · refine ret_in (op_in (op_in ?_))
          refine ofE (R := fR) (k_slT k_look k_no (k_so k_look)) (lo_ok hk') ?_
          refine l_odd1 (P' := P') (n := n + 2) (L := L + 1) (by omega) (by omega) (by omega) hO fun x hxo => ⟨(by decide : 1 ≤ LIM), _, if_pos (lim_of (by rw [lt]; simp; omega)), ?_⟩
          refine ofE (R := fR) (k_slT k_look (k_so k_look) k_no) (hi_ok hk') ⟨_, if_pos (lim_of (by rw [List.length_append, lt, List.length_drop]; simp; omega)), q _ _ (Bq.tup (by rw [List.length_append, List.length_append, lt, List.length_drop]; simp; omega) fun y h => ?_) (by omega) (by omega)⟩
          rcases List.mem_append.mp h with h | h
          · rcases List.mem_append.mp h with h | h
            · exact tk y h
            · rw [List.mem_singleton.mp h]
              exact hxo
          · exact dk _ y h
        refine way_is (e3 := .im (.int (k : Int))) (fun _ => ?_) fun _ => ?_
        · refine ret_in (back_in ?_)
          exact ofE (R := fR) (d := .tuple ds) k_look (xlk rfl) ⟨ds, rfl, q _ _ (Bq.tup (by rw [List.length_reverse]; omega) fun x h => hx' x (List.mem_reverse.mp h)) (by omega) (by omega)⟩
        · refine nx_in ?_
          dsimp only
          refine ret_in (op_in (op_in ?_))
          refine ofE (R := fR) (k_slT k_look k_no (k_so k_look)) (lo_ok hk') ?_
          have ix : ixD (.tuple ds) (.int (k : Int)) = some (ds.getD k .none) := ixT hk'
          have bk : Bq P L n (ds.getD k .none) := by
            rw [List.getD_eq_getElem?_getD, List.getElem?_eq_getElem hk']
            exact hx _ (List.getElem_mem hk')
          refine ⟨rfl, ofE (R := fR) (k_op k_look k_look) (xop_ok (xlk rfl) (xlk rfl) ix) ⟨_, rfl, ?_⟩⟩
          refine ih m L _ _ _ (by omega) hL hL2 bk (by omega) fun y c' hy j1 j2 => ⟨(by decide : 1 ≤ LIM), _, if_pos (lim_of (by rw [lt]; simp; omega)), ?_⟩
          refine ofE (R := fR) (k_slT k_look (k_so (k_op k_look k_c)) k_no) (hi1_ok hk') ⟨_, if_pos (lim_of (by rw [List.length_append, lt, List.length_drop]; simp; omega)), q _ _ (Bq.tup (by rw [List.length_append, List.length_append, lt, List.length_drop]; simp; omega) fun z h => ?_) (by omega) (by omega)⟩
          rcases List.mem_append.mp h with h | h
          · rcases List.mem_append.mp h with h | h
            · exact tk z h
            · rw [List.mem_singleton.mp h]
              exact hy
          · exact dk _ z h
end Pf

/-! L8: the drawn book -/
namespace Pf
open PySem L2 HW
theorem strs_of : ∀ ps : List (List Nat), strsOf (ps.map sD) = some (ps.map S)
  | [] => rfl
  | p :: r => by
    show (strsOf (r.map sD)).map (S p :: ·) = _
    rw [strs_of r]
    rfl
theorem nin_ok (p : List Nat) (ps : List (List Nat)) : inD true (sD p) (.list (ps.map sD)) = some (.bool (!decide (p ∈ ps))) := by
  have : inB (sD p) (.list (ps.map sD)) = some (decide (p ∈ ps)) := by
    show (some (ps.map sD)).bind (fun ds => (strsOf ds).map fun xs => decide (S p ∈ xs)) = _
    show (strsOf (ps.map sD)).map (fun xs => decide (S p ∈ xs)) = _
    rw [strs_of]
    show some (decide (S p ∈ ps.map S)) = _
    congr 1
    refine decide_eq_decide.mpr ⟨fun h => ?_, fun h => List.mem_map.mpr ⟨p, h, rfl⟩⟩
    obtain ⟨q, hq, e⟩ := List.mem_map.mp h
    rw [← S_inj.mp e]
    exact hq
  unfold inD
  rw [this]
  rfl
/-- one sign of some -/
theorem l_ofS {l : List Nat} {c : Nat} {Q : D → Nat → Prop} (h : 0 < l.length) (h2 : l.length ≤ 1000) (hc : c < 2 ^ 60) (q : ∀ x ∈ l, Q (cD x) (c + 1)) : f_u_law_of [.st, sE l] c Q := by
  refine ⟨rfl, ?_⟩
  refine ⟨_, _, rfl, rfl, ?_⟩
  refine drw (i := 0) (k_f k_look) (t := l.length) (xf_ok rfl (len_S l (lim h2))) rfl (by omega) (by omega) hc fun n hn => ?_
  have hl : n < l.length := by omega
  exact ⟨_, ixS l hl (lim h2), q _ (List.getElem_mem hl)⟩
abbrev wdW : WE := wMS joinD (wC (.str "")) (wLc (wRng (wOp addD (wC (.int 1)) (wCall nextW (gSt 0 (gIm (wC (.int 3)) HW.gNil))))) wYes (wCall f_u_law_of (gSt 0 (gIm (wVar 2) HW.gNil))) 8 [8])
theorem wd_go {ls : List Nat} (h1 : 0 < ls.length) (h2 : ls.length ≤ 1000) {e1 e3 e4 e5 e6 e7 e8 e9 : En} {Q : D → Nat → Prop} : ∀ (ds : List D) (acc : List Nat) (c : Nat), c + ds.length < 2 ^ 60 → (∀ r : List Nat, r.length = ds.length → (∀ x ∈ r, x ∈ ls) → Q (.list ((acc ++ r).map cD)) (c + ds.length)) → lcGo wYes (wCall f_u_law_of (gSt 0 (gIm (wVar 2) HW.gNil))) [.st, e1, sE ls, e3, e4, e5, e6, e7, e8, e9] 8 ds (acc.map cD) c Q
  | [], acc, c, _, q => by have := q [] rfl (by simp); rwa [List.append_nil] at this
  | d :: r, acc, c, hc, q => by
    rw [List.length_cons] at hc
    refine iteT (B := lcGo wYes (wCall f_u_law_of (gSt 0 (gIm (wVar 2) HW.gNil))) [.st, e1, sE ls, e3, e4, e5, e6, e7, e8, e9] 8 r (acc.map cD) c Q) ⟨rfl, _, rfl, l_ofS h1 h2 (by omega) fun x hx => ?_⟩
    have := wd_go h1 h2 (e1 := e1) (e3 := e3) (e4 := e4) (e5 := e5) (e6 := e6) (e7 := e7) (e8 := e8) (e9 := e9) (Q := Q) r (acc ++ [x]) (c + 1) (by omega) fun r' hl hr' => by
      have := q (x :: r') (by rw [List.length_cons, hl, List.length_cons]) (by
        intro y hy
        rcases List.mem_cons.mp hy with rfl | z
        · exact hx
        · exact hr' y z)
      rw [List.length_cons] at this
      rw [List.append_assoc, show c + 1 + r.length = c + (r.length + 1) by omega]
      exact this
    rw [List.map_append] at this
    exact this
/-- a drawn word -/
def Wk (l : List Nat) : Prop := 1 ≤ l.length ∧ l.length ≤ 3 ∧ ∀ c ∈ l, c ∈ codeL
theorem l_word {ls : List Nat} (h1 : 0 < ls.length) (h2 : ls.length ≤ 1000) (hls : ∀ c ∈ ls, c ∈ codeL) {e1 e3 e4 e5 e6 e7 e8 e9 : En} {c : Nat} {Q : D → Nat → Prop} (hc : c < 2 ^ 59) (q : ∀ r c', Wk r → c ≤ c' → c' ≤ c + 10 → Q (sD r) c') : wdW [.st, e1, sE ls, e3, e4, e5, e6, e7, e8, e9] c Q := by
  refine ⟨⟨"", rfl⟩, ?_⟩
  refine drw (i := 0) k_c (t := 3) rfl rfl (by omega) (by omega) (by omega) fun g hg => ⟨_, add_i _ _, _, rfl, (rng_in (by omega) (by omega)).1, (rng_in (by omega) (by omega)).2, ?_⟩
  rw [cast1, Int.toNat_natCast]
  refine ⟨by rw [rng_len]; omega, ?_⟩
  refine wd_go h1 h2 _ [] _ (by rw [rng_len]; omega) fun r hl hr => ?_
  rw [rng_len] at hl
  rw [rng_len, List.nil_append]
  exact ⟨_, joinS r (by omega), q r _ ⟨by omega, by omega, fun c hc => hls c (hr c hc)⟩ (by omega) (by omega)⟩
abbrev Pr := List Nat × List Nat
def prD (p : Pr) : D := .tuple [sD p.1, sD p.2]
def nbD (ps : List Pr) : D := .tuple (ps.map prD)
structure BkOk (ps : List Pr) : Prop where
  w : ∀ p ∈ ps, Wk p.1 ∧ Wk p.2
  n1 : (ps.map (·.1)).Nodup
  n2 : (ps.map (·.2)).Nodup
theorem Wk.sok {l : List Nat} (h : Wk l) : SOk l := ⟨by have := h.2.1; omega, .inl h.2.2⟩
theorem Wk.wl {l : List Nat} (h : Wk l) {m : Int} (hm : 3 ≤ m) : isWl l m = true := by
  obtain ⟨h1, h2, h3⟩ := h
  unfold isWl
  rw [decide_eq_true (by omega), decide_eq_true (by omega), isC_iff.mpr h3]
  rfl
theorem isP_pr {p : Pr} (h : Wk p.1 ∧ Wk p.2) : isP (prD p) = true := by
  show (isWd (sD p.1) 8 && isWd (sD p.2) 5) = true
  rw [isWd_S, isWd_S, h.1.wl (by decide), h.2.wl (by decide)]
  rfl
theorem firstF_none {p : Nat → Bool} : ∀ {m n : Nat}, (∀ i, i < m → p (n + i) = true) → firstF p n m = none
  | 0, _, _ => rfl
  | m + 1, n, h => by
    refine (if_pos (h 0 (by omega))).trans (firstF_none fun i hi => ?_)
    have := h (i + 1) (by omega)
    rw [show n + (i + 1) = n + 1 + i by omega] at this
    exact this
theorem nodup_at {α : Type} {l : List α} (h : l.Nodup) {i j : Nat} (hi : i < l.length) (hj : j < l.length) (ij : i < j) : l[i] ≠ l[j] := List.pairwise_iff_getElem.mp h i j hi hj ij
theorem bk_drawn {ps : List Pr} (h : BkOk ps) (h1 : 1 ≤ ps.length) (h2 : ps.length ≤ 40) : bkV (nbD ps) = none := by
  have ht : tupIn (nbD ps) 1 40 = true := by
    show (decide ((1 : Int) ≤ (ps.map prD).length) && decide (((ps.map prD).length : Int) ≤ 40)) = true
    rw [List.length_map, decide_eq_true (by omega), decide_eq_true (by omega)]
    rfl
  have hb : badAt (ps.map prD) = none := firstF_none fun i hi => by
    rw [List.length_map] at hi
    have ex : (ps.map prD).getD i .none = prD ps[i] := by
      rw [List.getD_eq_getElem?_getD, List.getElem?_map, List.getElem?_eq_getElem hi]
      rfl
    rw [Nat.zero_add]
    unfold goodAt
    rw [ex, isP_pr (h.w _ (List.getElem_mem hi))]
    show (!dupB (ps.map prD) i (prD ps[i])) = true
    have : dupB (ps.map prD) i (prD ps[i]) = false := by
      unfold dupB
      rw [List.any_eq_false]
      intro y hy
      rw [← List.map_take] at hy
      obtain ⟨p, hp, rfl⟩ := List.mem_map.mp hy
      obtain ⟨j, hj, rfl⟩ := List.getElem_of_mem hp
      rw [List.length_take] at hj
      have hj1 : j < i := by omega
      have hj2 : j < ps.length := by omega
      rw [List.getElem_take]
      have a1 : ps[j].1 ≠ ps[i].1 := by
        have := nodup_at h.n1 (i := j) (j := i) (by rw [List.length_map]; exact hj2) (by rw [List.length_map]; exact hi) hj1
        simpa using this
      have a2 : ps[j].2 ≠ ps[i].2 := by
        have := nodup_at h.n2 (i := j) (j := i) (by rw [List.length_map]; exact hj2) (by rw [List.length_map]; exact hi) hj1
        simpa using this
      show ¬ (decide (fstL (prD ps[j]) = fstL (prD ps[i])) || decide (sndL (prD ps[j]) = sndL (prD ps[i]))) = true
      rw [show fstL (prD ps[j]) = ps[j].1 from fst_p _ _, show fstL (prD ps[i]) = ps[i].1 from fst_p _ _, show sndL (prD ps[j]) = ps[j].2 from snd_p _ _, show sndL (prD ps[i]) = ps[i].2 from snd_p _ _, decide_eq_false a1, decide_eq_false a2]
      simp
    rw [this]
    rfl
  show (if tupIn (nbD ps) 1 40 = true then (badAt (ps.map prD)).map fun (k : Nat) => PyData.int (k : Int) else some .none) = none
  rw [if_pos ht, hb]
  rfl
abbrev bkE (ls : List Nat) (ps : List Pr) (e6 e7 e8 e9 : En) : List En := [.st, .im (.int 4), sE ls, .ls (ps.map prD), .im (.list ((ps.map (·.1)).map sD)), .im (.list ((ps.map (·.2)).map sD)), e6, e7, e8, e9]
theorem bk_put {ls : List Nat} {ps : List Pr} {p q : List Nat} {e6 e8 : En} (hb : BkOk ps) (hp : Wk p) (hq : Wk q) (hl : ps.length ≤ 100) : ∃ ps', x_u_law_book_bbafbb (bkE ls ps e6 (.im (sD p)) e8 (.im (sD q))) = .ok (.nx (bkE ls ps' e6 (.im (sD p)) e8 (.im (sD q)))) ∧ BkOk ps' ∧ ps.length ≤ ps'.length ∧ ps'.length ≤ ps.length + 1 ∧ 1 ≤ ps'.length := by
  have t1 : xTst (xOp (inD true) (xLook 7) (xLook 4)) (bkE ls ps e6 (.im (sD p)) e8 (.im (sD q))) = .ok (!decide (p ∈ ps.map (·.1))) := xtst_ok (xop_ok (xlk rfl) (xlk rfl) (nin_ok _ _))
  have t2 : xTst (xOp (inD true) (xLook 9) (xLook 5)) (bkE ls ps e6 (.im (sD p)) e8 (.im (sD q))) = .ok (!decide (q ∈ ps.map (·.2))) := xtst_ok (xop_ok (xlk rfl) (xlk rfl) (nin_ok _ _))
  have keep : (∃ z ∈ ps.map (·.1), z = p) ∨ (∃ z ∈ ps.map (·.2), z = q) → 1 ≤ ps.length := fun h => by
    cases ps with
    | nil => rcases h with ⟨z, hz, _⟩ | ⟨z, hz, _⟩ <;> cases hz
    | cons _ _ => simp
  by_cases h1 : p ∈ ps.map (·.1)
  · exact ⟨ps, xifF (xandF (by rw [t1, decide_eq_true h1]; rfl)) rfl, hb, Nat.le_refl _, by omega, keep (.inl ⟨p, h1, rfl⟩)⟩
  · by_cases h2 : q ∈ ps.map (·.2)
    · exact ⟨ps, xifF (xandT (by rw [t1, decide_eq_false h1]; rfl) (by rw [t2, decide_eq_true h2]; rfl)) rfl, hb, Nat.le_refl _, by omega, keep (.inr ⟨q, h2, rfl⟩)⟩
    · have new : BkOk (ps ++ [(p, q)]) := by
        refine ⟨fun x hx => ?_, ?_, ?_⟩
        · rcases List.mem_append.mp hx with z | z
          · exact hb.w x z
          · rw [List.mem_singleton.mp z]; exact ⟨hp, hq⟩
        · rw [List.map_append]
          exact List.nodup_append.mpr ⟨hb.n1, by simp, fun a ha b hb' => by rw [List.mem_singleton.mp hb']; exact fun z => h1 (show p ∈ ps.map (·.1) from (show a = p from z) ▸ ha)⟩
        · rw [List.map_append]
          exact List.nodup_append.mpr ⟨hb.n2, by simp, fun a ha b hb' => by rw [List.mem_singleton.mp hb']; exact fun z => h2 (show q ∈ ps.map (·.2) from (show a = q from z) ▸ ha)⟩
      refine ⟨ps ++ [(p, q)], ?_, new, by simp, by simp, by simp⟩
      refine xifT (xandT (by rw [t1, decide_eq_false h1]; rfl) (by rw [t2, decide_eq_false h2]; rfl)) ?_
      have c1' : xOp catD (xLook 4) (xLst (xCons (xVar 7) xNil)) (bkE ls ps e6 (.im (sD p)) e8 (.im (sD q))) = .ok (.list ((ps.map (·.1)).map sD ++ [sD p])) := xcat_ok (xlk rfl) (xlst_ok (xcons_ok (xvr rfl) rfl) (show 1 ≤ LIM by decide)) (by rw [List.length_map, List.length_map, List.length_singleton]; omega)
      have c2' : xOp catD (xLook 5) (xLst (xCons (xVar 9) xNil)) (bkE ls ps e6 (.im (sD p)) e8 (.im (sD q))) = .ok (.list ((ps.map (·.2)).map sD ++ [sD q])) := xcat_ok (xlk rfl) (xlst_ok (xcons_ok (xvr rfl) rfl) (show 1 ≤ LIM by decide)) (by rw [List.length_map, List.length_map, List.length_singleton]; omega)
      have par : xPar 4 5 (xOp catD (xLook 4) (xLst (xCons (xVar 7) xNil))) (xOp catD (xLook 5) (xLst (xCons (xVar 9) xNil))) (bkE ls ps e6 (.im (sD p)) e8 (.im (sD q))) = .ok (.nx [.st, .im (.int 4), sE ls, .ls (ps.map prD), .im (.list ((ps.map (·.1)).map sD ++ [sD p])), .im (.list ((ps.map (·.2)).map sD ++ [sD q])), e6, .im (sD p), e8, .im (sD q)]) := by
        show lift (xOp catD (xLook 4) (xLst (xCons (xVar 7) xNil)) _) _ _ = _
        rw [c1']
        show lift (xOp catD (xLook 5) (xLst (xCons (xVar 9) xNil)) _) _ _ = _
        rw [c2']
        rfl
      refine xseq_nx par ?_
      refine (xapp_ok (i := 3) (ds := ps.map prD) (d := prD (p, q)) rfl (xtup_ok (xcons_ok (xvr rfl) (xcons_ok (xvr rfl) rfl)) (show 2 ≤ LIM by decide)) (by rw [List.length_map]; exact lim40 (by omega))).trans ?_
      unfold bkE
      rw [List.map_append, List.map_append, List.map_append, List.map_append, List.map_append]
      rfl
/-- the book -/
theorem l_book {c : Nat} {Q : D → Nat → Prop} (hc : c < 2 ^ 58) (q : ∀ ps c', BkOk ps → 1 ≤ ps.length → ps.length ≤ 5 → c ≤ c' → c' ≤ c + 300 → Q (nbD ps) c') : f_u_law_book [.st, .im (.int 4)] c Q := by
  refine ⟨rfl, ⟨rfl, ?_⟩⟩
  refine ofE (R := fR) (d := .list [.str "ab", .str "ab", .str "abc", .str "a1"]) (k_lst (k_cons k_c (k_cons k_c (k_cons k_c (k_cons k_c k_nil))))) (xlst_ok rfl (by decide : 4 ≤ LIM)) ?_
  refine l_of (by decide) (by decide) (by omega) fun x hx => ?_
  obtain ⟨ls, rfl, l1, l2, l3⟩ : ∃ ls : List Nat, x = sD ls ∧ 0 < ls.length ∧ ls.length ≤ 1000 ∧ ∀ c ∈ ls, c ∈ codeL := by
    simp only [List.mem_cons, List.not_mem_nil, or_false] at hx
    rcases hx with rfl | rfl | rfl | rfl
    · exact ⟨[97, 98], rfl, by decide, by decide, by decide⟩
    · exact ⟨[97, 98], rfl, by decide, by decide, by decide⟩
    · exact ⟨[97, 98, 99], rfl, by decide, by decide, by decide⟩
    · exact ⟨[97, 49], rfl, by decide, by decide, by decide⟩
  refine nxt k_u_law_book_ba (ρ' := bkE ls [] .un .un .un .un) rfl ?_
  refine drw (i := 0) k_var (t := 4) rfl rfl (by omega) (by omega) (by omega) fun g hg => ⟨_, add_i _ _, _, rfl, (rng_in (by omega) (by omega)).1, (rng_in (by omega) (by omega)).2, ?_⟩
  have e2 : ((2 : Int) + (g : Int)).toNat = g + 2 := by omega
  rw [e2]
  refine forGo_inv (fun i ρ c' => c ≤ c' ∧ c' ≤ c + 2 + 20 * i ∧ ∃ (ps : List Pr) (e6 e7 e8 e9 : En), BkOk ps ∧ ps.length ≤ i ∧ (1 ≤ i → 1 ≤ ps.length) ∧ ρ = bkE ls ps e6 e7 e8 e9) _ 0 _ _ ?_ ⟨by omega, by omega, [], .un, .un, .un, .un, ⟨(fun p hp => by cases hp), List.Pairwise.nil, List.Pairwise.nil⟩, by simp, by omega, rfl⟩ ?_
  · rintro i hi ρ c1 dd' ed ⟨k0, k1, ps, e6, e7, e8, e9, hb, hl, hl2, rfl⟩ k
    rw [rng_len] at hi
    simp only [Nat.zero_add] at k1 k hl
    refine l_word l1 l2 l3 (by omega) fun p c2 hp j0 j1 => ?_
    refine l_word l1 l2 l3 (by omega) fun q2 c3 hq j2 j3 => ?_
    obtain ⟨ps', e, hb', g1, g2, g3⟩ := bk_put (ls := ls) (e6 := .im ((rngD 0 (g + 2))[i]'(by rw [rng_len]; exact hi))) (e8 := e8) hb hp hq (by omega)
    exact nxt k_u_law_book_bbafbb e (k _ _ ⟨by omega, by omega, ps', _, _, _, _, hb', by omega, fun _ => g3, rfl⟩)
  · rintro ρ c1 ⟨k0, k1, ps, e6, e7, e8, e9, hb, hl, hl2, rfl⟩
    rw [rng_len] at hl hl2 k1
    have hq := q ps c1 hb (hl2 (by omega)) (by omega) k0 (by omega)
    refine rtn k_u_law_book_bbb (d := nbD ps) (xret_ok (xf_ok (xlkl rfl) rfl)) hq
end Pf

/-! L9: the law's own words hold -/
namespace Pf
open PySem L2 HW
theorem min_i (i j : Int) : minD (.int i) (.int j) = some (.int (min i j)) := by
  show some (PyData.int (if j < i then j else i)) = _
  congr 2
  split <;> omega
theorem Bq.lfs {L n : Nat} {d : D} (b : Bq LfS L n d) : LfS d := fun s e => (b.leaf (fun ds z => by rw [e] at z; cases z)) s e
theorem Bq.lfp {L n : Nat} {d : D} (b : Bq LfS L n d) : LfP d := fun x y e => by
  cases n with
  | zero => have := b.1 _ e; cases this
  | succ n =>
    obtain ⟨_, h⟩ := b.1 _ e
    exact ⟨(h x (by simp)).lfs, (h y (by simp)).lfs⟩
theorem Bq.lfb {L n : Nat} {d : D} (b : Bq LfS L n d) : LfB d := fun ds e x hx => by
  cases n with
  | zero => have := b.1 _ e; subst this; cases hx
  | succ n => exact ((b.1 _ e).2 x hx).lfp
theorem lfs_w {l : List Nat} (h : Wk l) : LfS (sD l) := fun s e => by
  cases e
  exact ⟨l, rfl, h.sok⟩
theorem lfp_pr {p : Pr} (h : Wk p.1 ∧ Wk p.2) : LfP (prD p) := lfp_c (lfs_w h.1) (lfs_w h.2)
theorem bq_book {ps : List Pr} (h : BkOk ps) (hl : ps.length ≤ 5) : Bq LfS 5 2 (nbD ps) := Bq.tup (by rw [List.length_map]; exact hl) fun x hx => by
  obtain ⟨p, hp, rfl⟩ := List.mem_map.mp hx
  obtain ⟨h1, h2⟩ := h.w p hp
  refine Bq.tup (show 2 ≤ 5 by decide) fun y hy => ?_
  rcases List.mem_cons.mp hy with rfl | hy
  · exact Bq.flat (fun ds e => by cases e) (lfs_w h1)
  · rw [List.mem_singleton.mp hy]
    exact Bq.flat (fun ds e => by cases e) (lfs_w h2)
theorem lfb_app {ds : List D} {x : D} (h : LfB (.tuple ds)) (hx : LfP x) : LfB (.tuple (ds ++ [x])) := fun es e y hy => by
  cases e
  rcases List.mem_append.mp hy with z | z
  · exact h ds rfl y z
  · rw [List.mem_singleton.mp z]; exact hx
structure Sx (p : D) (n : Nat) (ρ : List En) : Prop extends St p ρ where
  ls : ∃ ds, ρ[6]? = some (.ls ds) ∧ ds.length = n ∧ ∀ x ∈ ds, LfB x
theorem Sx.set {p : D} {n : Nat} {ρ : List En} {i : Nat} {e : En} (h : Sx p n ρ) (h1 : i ≠ 1) (h3 : i ≠ 3) (h6 : i ≠ 6) : Sx p n (ρ.set i e) := ⟨h.toSt.set h1 h3, by rw [gs h6]; exact h.ls⟩
theorem Sx.add {p : D} {n : Nat} {ρ : List En} {ds : List D} {x : D} (h : Sx p n ρ) (e : ρ[6]? = some (.ls ds)) (hx : LfB x) : Sx p (n + 1) (ρ.set 6 (.ls (ds ++ [x]))) := ⟨h.toSt.set (by decide) (by decide), ds ++ [x], gh (by rw [h.len]; decide), by
    obtain ⟨es, e1, e2, _⟩ := h.ls
    rw [e] at e1
    cases e1
    rw [List.length_append, e2]; rfl, fun y hy => by
    obtain ⟨es, e1, _, e3⟩ := h.ls
    rw [e] at e1
    cases e1
    rcases List.mem_append.mp hy with z | z
    · exact e3 y z
    · rw [List.mem_singleton.mp z]; exact hx⟩
abbrev addX : XS := xApp 6 (xOp catTD (xLook 3) (xTup (xCons (xVar 9) xNil)))
theorem r_adds {ds qs : List D} {n : Nat} {ρ : List En} {xi : XA} (hB : LfB (.tuple ds)) (hd : ds.length ≤ 100) (hn : n + qs.length ≤ 100) (walk : xi ρ = .ok qs) (hq : ∀ x ∈ qs, LfP x) (h : Sx (.tuple ds) n ρ) : ∃ ρ', xFor xi (xgN 9) addX ρ = .ok (.nx ρ') ∧ Sx (.tuple ds) (n + qs.length) ρ' := by
  refine xfor_go (tg := xgN 9) (xs := addX) (fun i ρ => Sx (.tuple ds) (n + i) ρ) walk (fun i hi ρ hs => ?_) h
  have s9 : Sx (.tuple ds) (n + i) (ρ.set 9 (.im qs[i])) := hs.set (by decide) (by decide) (by decide)
  obtain ⟨es, e6, el, _⟩ := s9.ls
  have cat : xOp catTD (xLook 3) (xTup (xCons (xVar 9) xNil)) (ρ.set 9 (.im qs[i])) = .ok (.tuple (ds ++ [qs[i]])) := cat_ok (xlk s9.pa) (xtup_ok (xcons_ok (xvr (gh (by rw [hs.len]; decide))) rfl) (show 1 ≤ LIM by decide)) (lim_of (by rw [List.length_singleton]; omega))
  exact ⟨_, _, rfl, xapp_ok e6 cat (lim40 (by omega)), s9.add e6 (lfb_app hB (hq _ (List.getElem_mem hi)))⟩
theorem lfs_lit {x : Str} (h : lfB (.str x) = true) : LfS (.str x) := lfB_ok _ h
abbrev body : WS := (wSeq w_lafa (wSeq w_lafba (wSeq w_lafbba (wSeq w_lafbbba (wSeq w_lafbbbba (wSeq w_lafbbbbba (wSeq w_lafbbbbbba (wSeq w_lafbbbbbbba (wSeq w_lafbbbbbbbba w_lafbbbbbbbbb)))))))))
theorem a9 : mulSD (.str "a") (.int 9) = some (sD [97, 97, 97, 97, 97, 97, 97, 97, 97]) := by kernel_rfl
theorem b6 : mulSD (.str "b") (.int 6) = some (sD [98, 98, 98, 98, 98, 98]) := by kernel_rfl
theorem l_rest {ps : List Pr} {k n : Nat} {ρ : List En} {dd : Dd} {c : Nat} (hb : BkOk ps) (h1 : 1 ≤ ps.length) (h5 : ps.length ≤ 5) (hk : k < ps.length) (hn : n ≤ 50) (h : Sx (nbD ps) n ρ) (e5 : ρ[5]? = some (.im (.int k))) (q : ∀ ρ', St (nbD ps) ρ' → dd.nx ρ' c) :
    (wSeq w_lafbbbba (wSeq w_lafbbbbba (wSeq w_lafbbbbbba (wSeq w_lafbbbbbbba (wSeq w_lafbbbbbbbba w_lafbbbbbbbbb))))) dd ρ c := by
  have hB : LfB (nbD ps) := (bq_book hb h5).lfb
  have hr := bk_drawn hb h1 (by omega)
  have hw := hb.w _ (List.getElem_mem hk)
  have asg : x_lafbbbba ρ = .ok (.nx ((ρ.set 7 (.im (sD ps[k].1))).set 8 (.im (sD ps[k].2)))) := by
    have e1 : xOp ixD (xLook 3) (xLook 5) ρ = .ok (prD ps[k]) := xop_ok (xlk h.pa) (xlk e5) (by
      rw [show nbD ps = .tuple (ps.map prD) from rfl, ixT (by rw [List.length_map]; exact hk), List.getD_eq_getElem?_getD, List.getElem?_map, List.getElem?_eq_getElem hk]
      rfl)
    show lift (xOp ixD (xLook 3) (xLook 5) ρ) _ _ = _
    rw [e1]
    rfl
  refine nxt k_lafbbbba asg ?_
  have s1 : Sx (nbD ps) n ((ρ.set 7 (.im (sD ps[k].1))).set 8 (.im (sD ps[k].2))) := (h.set (by decide) (by decide) (by decide)).set (by decide) (by decide) (by decide)
  have a7 : ((ρ.set 7 (.im (sD ps[k].1))).set 8 (.im (sD ps[k].2)))[7]? = some (.im (sD ps[k].1)) := by rw [gs (by decide)]; exact gh (by rw [h.len]; decide)
  have a8 : ((ρ.set 7 (.im (sD ps[k].1))).set 8 (.im (sD ps[k].2)))[8]? = some (.im (sD ps[k].2)) := gh (by rw [List.length_set, h.len]; decide)
  obtain ⟨ρ1, eρ⟩ : ∃ ρ1, ρ1 = (ρ.set 7 (.im (sD ps[k].1))).set 8 (.im (sD ps[k].2)) := ⟨_, rfl⟩
  rw [← eρ] at s1 a7 a8
  show (wSeq w_lafbbbbba (wSeq w_lafbbbbbba (wSeq w_lafbbbbbbba (wSeq w_lafbbbbbbbba w_lafbbbbbbbbb)))) dd ((ρ.set 7 (.im (sD ps[k].1))).set 8 (.im (sD ps[k].2))) c
  rw [← eρ]
  have tp : ∀ {xa xb : XE} {a b : D}, xa ρ1 = .ok a → xb ρ1 = .ok b → xTup (xCons xa (xCons xb xNil)) ρ1 = .ok (.tuple [a, b]) := fun e e2 => xtup_ok (xcons_ok e (xcons_ok e2 rfl)) (show 2 ≤ LIM by decide)
  obtain ⟨ρ2, e2, s2⟩ := r_adds (xi := xItT (xTup (xCons (xTup (xCons (xVar 7) (xCons (xVar 8) xNil))) (xCons (xTup (xCons (xVar 7) (xCons (xC (.str "00000")) xNil))) (xCons (xTup (xCons (xC (.str "zzzzzzzz")) (xCons (xVar 8) xNil))) (xCons (xTup (xCons (xOp mulSD (xC (.str "a")) (xC (.int 9))) (xCons (xC (.str "z")) xNil))) xNil))))))
    (qs := [.tuple [sD ps[k].1, sD ps[k].2], .tuple [sD ps[k].1, .str "00000"], .tuple [.str "zzzzzzzz", sD ps[k].2], .tuple [sD [97, 97, 97, 97, 97, 97, 97, 97, 97], .str "z"]]) hB (by rw [List.length_map]; omega) (by simp; omega)
    (xitT_ok (xtup_ok (xcons_ok (tp (xvr a7) (xvr a8)) (xcons_ok (tp (xvr a7) rfl) (xcons_ok (tp rfl (xvr a8)) (xcons_ok (tp (xop_ok rfl rfl a9) rfl) rfl)))) (show 4 ≤ LIM by decide))) (fun x hx => by
      simp only [List.mem_cons, List.not_mem_nil, or_false] at hx
      rcases hx with rfl | rfl | rfl | rfl
      · exact lfp_pr hw
      · exact lfp_c (lfs_w hw.1) (lfs_lit (by kernel_rfl))
      · exact lfp_c (lfs_lit (by kernel_rfl)) (lfs_w hw.2)
      · exact lfp_c (lfs_lit (by kernel_rfl)) (lfs_lit (by kernel_rfl))) s1
  refine nxt k_lafbbbbba e2 ?_
  have tp2 : ∀ {xa xb : XE} {a b : D}, xa ρ2 = .ok a → xb ρ2 = .ok b → xTup (xCons xa (xCons xb xNil)) ρ2 = .ok (.tuple [a, b]) := fun e e2 => xtup_ok (xcons_ok e (xcons_ok e2 rfl)) (show 2 ≤ LIM by decide)
  obtain ⟨ρ3, e3, s3⟩ := r_adds (xi := xItT (xTup (xCons (xTup (xCons (xC (.str "z")) (xCons (xOp mulSD (xC (.str "b")) (xC (.int 6))) xNil))) (xCons (xTup (xCons (xC (.str "")) (xCons (xC (.str "z")) xNil))) (xCons (xTup (xCons (xC (.str "A")) (xCons (xC (.str "z")) xNil))) xNil)))))
    (qs := [.tuple [.str "z", sD [98, 98, 98, 98, 98, 98]], .tuple [.str "", .str "z"], .tuple [.str "A", .str "z"]]) hB (by rw [List.length_map]; omega) (by simp; omega)
    (xitT_ok (xtup_ok (xcons_ok (tp2 rfl (xop_ok rfl rfl b6)) (xcons_ok (tp2 rfl rfl) (xcons_ok (tp2 rfl rfl) rfl))) (show 3 ≤ LIM by decide))) (fun x hx => by
      simp only [List.mem_cons, List.not_mem_nil, or_false] at hx
      rcases hx with rfl | rfl | rfl <;> exact lfp_c (lfs_lit (by kernel_rfl)) (lfs_lit (by kernel_rfl))) s2
  refine nxt k_lafbbbbbba e3 ?_
  obtain ⟨ds, e6, el, hds⟩ := s3.ls
  obtain ⟨ρ4, e4, s4⟩ := r_things s3.toSt e6 (by rw [el]; simp; omega) hds
  refine nxt k_lafbbbbbbba e4 ?_
  obtain ⟨ρ5, e5', s5⟩ := r_texts hB hr s4
  refine nxt k_lafbbbbbbbba e5' ?_
  obtain ⟨ρ6, e6', s6⟩ := r_tells (n := (ps.map prD).length) hB hr rfl s5
  exact nxt k_lafbbbbbbbbb e6' (q _ s6)
/-- one round of the law -/
theorem l_body {ρ : List En} {dd : Dd} {c : Nat} (hl : ρ.length = 14) (hm : ρ[1]? = some .st) (hc : c ≤ 10 ^ 6) (q : ∀ ρ' c', ρ'.length = 14 → ρ'[1]? = some .st → c' ≤ c + 1000 → dd.nx ρ' c') : body dd ρ c := by
  show wCall f_u_law_book (gSt 1 (gIm (wC (.int 4)) HW.gNil)) ρ c _
  refine ⟨hm, l_book (by omega) fun ps c1 hb h1 h5 k1 k2 => ?_⟩
  have m3 : (ρ.set 3 (.im (nbD ps)))[1]? = some .st := by rw [gs (by decide)]; exact hm
  have p3 : (ρ.set 3 (.im (nbD ps)))[3]? = some (.im (nbD ps)) := gh (by omega)
  show wCall f_u_law_bent (gSt 1 (gIm (wVar 3) (gIm (wCall f_u_law_odds HW.gNil) HW.gNil))) (ρ.set 3 (.im (nbD ps))) c1 _
  have hI : ∀ i j : Int, LfS (.int i) → j ∈ [1, -1, 2, -2, 40] → LfS (.int (i + j)) := fun i j _ _ s e => by cases e
  refine ⟨m3, _, p3, l_odds ?_⟩
  refine l_bent (P := LfS) (P' := LfS) (fun _ h => h) hI odd_bq 2 9 5 _ _ _ (by decide) (by decide) (by decide) (bq_book hb h5) (by omega) fun b c2 hbb k3 k4 => ?_
  refine drw (i := 1) (k_f k_look) (t := (ps.length : Int)) (xf_ok (xlk p3) (show lenD (nbD ps) = _ from by show some (PyData.int ((ps.map prD).length : Int)) = _; rw [List.length_map])) m3 (by omega) (by omega) (by omega) fun k hk => ?_
  have s : St (nbD ps) (((ρ.set 3 (.im (nbD ps))).set 4 (.im b)).set 5 (.im (.int k))) := ⟨by simp [hl], by rw [gs (by decide), gs (by decide)]; exact m3, by rw [gs (by decide), gs (by decide)]; exact p3⟩
  have b4 : (((ρ.set 3 (.im (nbD ps))).set 4 (.im b)).set 5 (.im (.int k)))[4]? = some (.im b) := by rw [gs (by decide)]; exact gh (by simp [hl])
  have b5 : (((ρ.set 3 (.im (nbD ps))).set 4 (.im b)).set 5 (.im (.int k)))[5]? = some (.im (.int k)) := gh (by simp [hl])
  obtain ⟨ρ1, eρ⟩ : ∃ ρ1, ρ1 = ((ρ.set 3 (.im (nbD ps))).set 4 (.im b)).set 5 (.im (.int (k : Int))) := ⟨_, rfl⟩
  show w_lafbba _ (((ρ.set 3 (.im (nbD ps))).set 4 (.im b)).set 5 (.im (.int (k : Int)))) _
  rw [← eρ] at s b4 b5 ⊢
  refine ⟨_, s.pa, _, b4, ⟨s.m, _, b4, l_odds ?_⟩⟩
  refine l_bent (P := LfS) (P' := LfS) (fun _ h => h) hI odd_bq 4 9 6 _ _ _ (by decide) (by decide) (by decide) hbb (by omega) fun b2 c3 hb2 k5 k6 => ?_
  refine ⟨_, _, s.pa, rfl, _, rfl, (show 4 ≤ LIM by decide), ?_⟩
  have s6 : Sx (nbD ps) 4 (ρ1.set 6 (.ls [nbD ps, b, b2, .list (ps.map prD)])) := ⟨s.set (by decide) (by decide), _, gh (by rw [s.len]; decide), rfl, fun x hx => by
    simp only [List.mem_cons, List.not_mem_nil, or_false] at hx
    rcases hx with rfl | rfl | rfl | rfl
    · exact (bq_book hb h5).lfb
    · exact hbb.lfb
    · exact hb2.lfb
    · exact fun es e => by cases e⟩
  obtain ⟨ds, e6, el, _⟩ := s6.ls
  refine ⟨⟨ds, e6⟩, s6.m, l_odds (l_of (by rw [odd_len]; omega) (by rw [odd_len]; omega) (by omega) fun o ho => ?_)⟩
  refine ⟨ds, e6, lim40 (by omega), ?_⟩
  have s7 := s6.add e6 (odd_bq o ho).lfb
  have f5 : ((ρ1.set 6 (.ls [nbD ps, b, b2, .list (ps.map prD)])).set 6 (.ls (ds ++ [o])))[5]? = some (.im (.int k)) := by rw [gs (by decide), gs (by decide)]; exact b5
  exact l_rest hb h1 h5 (by omega) (show 4 + 1 ≤ 50 by decide) s7 f5 fun ρ' h => q ρ' _ h.len h.m (by omega)
theorem lenI (ns : List Int) : lenD (.list (dI ns)) = some (.int ns.length) := by
  show some (PyData.int ((dI ns).length : Int)) = _
  rw [show (dI ns).length = ns.length by simp [dI]]
theorem math (ns : List Int) (h : ns.length ≤ 63) : w_law { nx := fun _ _ => False, rt := fun d _ => d = .bool true } ((startE n_law [.im (.list (dI ns))]).set 1 .st) 0 := by
  show w_la _ ((startE n_law [.im (.list (dI ns))]).set 1 .st) 0
  refine ⟨_, _, rfl, rfl, _, lenI ns, _, min_i _ _, _, add_i _ _, _, rfl, (rng_in (by omega) (by omega)).1, (rng_in (by omega) (by omega)).2, ?_⟩
  refine forGo_inv (fun i ρ c => ρ.length = 14 ∧ ρ[1]? = some .st ∧ c ≤ i * 1000) _ 0 _ _ ?_ ⟨rfl, rfl, by omega⟩ ?_
  · rintro i hi ρ c dd' ed ⟨k0, k1, k2⟩ k
    rw [rng_len] at hi
    refine l_body (ρ := ρ.set 2 _) (by rw [List.length_set]; exact k0) (by rw [gs (by decide)]; exact k1) (by omega) fun ρ' c' h1 h2 h3 => k _ _ ⟨h1, h2, by omega⟩
  · rintro ρ c _
    show w_lb { nx := fun _ _ => False, rt := fun d _ => d = .bool true } ρ c
    exact rtn (d := .bool true) (dd := { nx := fun _ _ => False, rt := fun d _ => d = .bool true }) k_lb rfl (show PyData.bool true = .bool true from rfl)
end Pf

open PySem PySem.W PyProof.Rows
set_option maxRecDepth 100000 in
set_option maxHeartbeats 0 in
theorem PySem.Challenge.cw_towerline_k44_books_checked_holds : PySem.Challenge.rw_towerline_k44_books_checked.Holds := by
  w_on; o_law; k_head; (case hw => w_witness2)
  k_fill
  refine HW.walkGT (l := PySem.Challenge.rw_towerline_k44_books_checked) (k := 14) (x := "script") rfl (by decide) rfl ⟨rfl, by decide, by decide⟩ (fun w h Y => by first | exact PySem.W.km_in_of Y | exact PySem.W.kIn_of Y) ?F
  case F =>
    intro w mg fa h KX G tabs hmg
    refine' Pf.all_mk KX G tabs hmg ?a0 ?l0 ?c0 ?k0 ?a1 ?l1 ?c1 ?k1 ?a2 ?l2 ?c2 ?k2 ?a3 ?l3 ?c3 ?k3 ?a4 ?l4 ?c4 ?k4 ?a5 ?l5 ?c5 ?k5 ?a6 ?l6 ?c6 ?k6 ?a7 ?l7 ?c7 ?k7 ?a8 ?l8 ?c8 ?k8 ?a9 ?l9 ?c9 ?k9 ?a10 ?l10 ?c10 ?k10 ?a11 ?l11 ?c11 ?k11 ?a12 ?l12 ?c12 ?k12 ?a13 ?l13 ?c13 ?k13 ?a14 ?l14 ?c14 ?k14 ?a15 ?l15 ?c15 ?k15 ?a16 ?l16 ?c16 ?k16 ?a17 ?l17 ?c17 ?k17 ?a18 ?l18 ?c18 ?k18 ?a19 ?l19 ?c19 ?k19 ?a20 ?l20 ?c20 ?k20 ?a21 ?l21 ?c21 ?k21 ?a22 ?l22 ?c22 ?k22 ?a23 ?l23 ?c23 ?k23 ?a24 ?l24 ?c24 ?k24 ?a25 ?l25 ?c25 ?k25 ?a26 ?l26 ?c26 ?k26 ?a27 ?l27 ?c27 ?k27 ?a28 ?l28 ?c28 ?k28 ?a29 ?l29 ?c29 ?k29 ?a30 ?l30 ?c30 ?k30 ?a31 ?l31 ?c31 ?k31 ?a32 ?l32 ?c32 ?k32 ?a33 ?l33 ?c33 ?k33 ?a34 ?l34 ?c34 ?k34 ?u34 ?v34 ?x34 ?r34 ?a35 ?l35 ?c35 ?k35 ?u35 ?v35 ?x35 ?r35 ?a36 ?l36 ?c36 ?k36 ?a37 ?l37 ?c37 ?k37 ?a38 ?l38 ?c38 ?k38 ?u38 ?v38 ?x38 ?r38 ?ne34_35 ?ne34_38 ?ne35_38 ?z0 ?z1 ?z2 ?z3 ?z4 ?z5 ?z6 ?z7 ?z8 ?z9 ?z10 ?z11 ?z12 ?z13 ?z14 ?y0 ?y1 ?y2 ?y3 ?y4 ?y5 ?vV ?gS ?gT ?A0 ?V0 ?W0 ?Q0 ?R0 ?H0 ?ca0 ?mr0 ?B0 ?A1 ?V1 ?W1 ?Q1 ?R1 ?H1 ?ca1 ?mr1 ?B1 ?X1 ?S1 ?P1 ?J1 ?T1 ?L1 ?E1 ?K1 ?A2 ?V2 ?W2 ?Q2 ?R2 ?H2 ?ca2 ?mr2 ?B2 ?X2 ?S2 ?P2 ?J2 ?T2 ?L2 ?E2 ?K2 ?A3 ?V3 ?W3 ?Q3 ?R3 ?H3 ?ca3 ?mr3 ?B3 ?A4 ?V4 ?W4 ?Q4 ?R4 ?H4 ?ca4 ?mr4 ?A5 ?V5 ?W5 ?Q5 ?R5 ?H5 ?ca5 ?mr5 ?X5 ?S5 ?P5 ?J5 ?T5 ?L5 ?E5 ?K5 ?A6 ?V6 ?W6 ?Q6 ?R6 ?H6 ?ca6 ?mr6 ?B6 ?D0_0 ?D0_1 ?D0_2 ?D0_3 ?D0_4 ?D0_5 ?D0_6 ?D1_0 ?D1_1 ?D1_2 ?D1_3 ?D1_4 ?D1_5 ?D1_6 ?D2_0 ?D2_1 ?D2_2 ?D2_3 ?D2_4 ?D2_5 ?D2_6 ?D3_0 ?D3_1 ?D3_2 ?D3_3 ?D3_4 ?D3_5 ?D3_6 ?D4_0 ?D4_1 ?D4_2 ?D4_3 ?D4_4 ?D4_5 ?D4_6 ?D5_0 ?D5_1 ?D5_2 ?D5_3 ?D5_4 ?D5_5 ?D5_6 ?D6_0 ?D6_1 ?D6_2 ?D6_3 ?D6_4 ?D6_5 ?D6_6 Pf.math
    (case a0 => k_is); (case l0 => k_is); (case c0 => k_is); (case k0 => k_is); (case a1 => k_is); (case l1 => k_is); (case c1 => k_is); (case k1 => k_is); (case a2 => k_is); (case l2 => k_is); (case c2 => k_is); (case k2 => k_is); (case a3 => k_is); (case l3 => k_is); (case c3 => k_is); (case k3 => k_is); (case a4 => k_is); (case l4 => k_is); (case c4 => k_is); (case k4 => k_is); (case a5 => k_is); (case l5 => k_is); (case c5 => k_is); (case k5 => k_is); (case a6 => k_is); (case l6 => k_is); (case c6 => k_is); (case k6 => k_is); (case a7 => k_is); (case l7 => k_is); (case c7 => k_is); (case k7 => k_is); (case a8 => k_is); (case l8 => k_is); (case c8 => k_is); (case k8 => k_is); (case a9 => k_is); (case l9 => k_is); (case c9 => k_is); (case k9 => k_is); (case a10 => k_is); (case l10 => k_is); (case c10 => k_is); (case k10 => k_is); (case a11 => k_is); (case l11 => k_is); (case c11 => k_is); (case k11 => k_is); (case a12 => k_is); (case l12 => k_is); (case c12 => k_is); (case k12 => k_is); (case a13 => k_is); (case l13 => k_is); (case c13 => k_is); (case k13 => k_is); (case a14 => k_is); (case l14 => k_is); (case c14 => k_is); (case k14 => k_is); (case a15 => k_is); (case l15 => k_is); (case c15 => k_is); (case k15 => k_is); (case a16 => k_is); (case l16 => k_is); (case c16 => k_is); (case k16 => k_is); (case a17 => k_is); (case l17 => k_is); (case c17 => k_is); (case k17 => k_is); (case a18 => k_is); (case l18 => k_is); (case c18 => k_is); (case k18 => k_is); (case a19 => k_is); (case l19 => k_is); (case c19 => k_is); (case k19 => k_is); (case a20 => k_is); (case l20 => k_is); (case c20 => k_is); (case k20 => k_is); (case a21 => k_is); (case l21 => k_is); (case c21 => k_is); (case k21 => k_is); (case a22 => k_is); (case l22 => k_is); (case c22 => k_is); (case k22 => k_is); (case a23 => k_is); (case l23 => k_is); (case c23 => k_is); (case k23 => k_is); (case a24 => k_is); (case l24 => k_is); (case c24 => k_is); (case k24 => k_is); (case a25 => k_is); (case l25 => k_is); (case c25 => k_is); (case k25 => k_is); (case a26 => k_is); (case l26 => k_is); (case c26 => k_is); (case k26 => k_is); (case a27 => k_is); (case l27 => k_is); (case c27 => k_is); (case k27 => k_is); (case a28 => k_is); (case l28 => k_is); (case c28 => k_is); (case k28 => k_is); (case a29 => k_is); (case l29 => k_is); (case c29 => k_is); (case k29 => k_is); (case a30 => k_is); (case l30 => k_is); (case c30 => k_is); (case k30 => k_is); (case a31 => k_is); (case l31 => k_is); (case c31 => k_is); (case k31 => k_is); (case a32 => k_is); (case l32 => k_is); (case c32 => k_is); (case k32 => k_is); (case a33 => k_is); (case l33 => k_is); (case c33 => k_is); (case k33 => k_is); (case a34 => k_is); (case l34 => k_is); (case c34 => k_is); (case k34 => k_is); (case u34 => k_is); (case a35 => k_is); (case l35 => k_is); (case c35 => k_is); (case k35 => k_is); (case u35 => k_is); (case a36 => k_is); (case l36 => k_is); (case c36 => k_is); (case k36 => k_is); (case a37 => k_is); (case l37 => k_is); (case c37 => k_is); (case k37 => k_is); (case a38 => k_is); (case l38 => k_is); (case c38 => k_is); (case k38 => k_is); (case u38 => k_is); (case z0 => k_is); (case z1 => k_is); (case z2 => k_is); (case z3 => k_is); (case z4 => k_is); (case z5 => k_is); (case z6 => k_is); (case z7 => k_is); (case z8 => k_is); (case z9 => k_is); (case z10 => k_is); (case z11 => k_is); (case z12 => k_is); (case z13 => k_is); (case z14 => k_is); (case y0 => k_is); (case y1 => k_is); (case y2 => k_is); (case y3 => k_is); (case y4 => k_is); (case y5 => k_is); (case vV => k_is); (case gS => k_is); (case gT => k_is); (case A0 => k_is); (case V0 => k_is); (case W0 => k_is); (case Q0 => k_is); (case R0 => k_is); (case H0 => k_is); (case ca0 => k_is); (case mr0 => k_is); (case B0 => k_is); (case A1 => k_is); (case V1 => k_is); (case W1 => k_is); (case Q1 => k_is); (case R1 => k_is); (case H1 => k_is); (case ca1 => k_is); (case mr1 => k_is); (case B1 => k_is); (case X1 => k_is); (case S1 => k_is); (case P1 => k_is); (case J1 => k_is); (case T1 => k_is); (case L1 => k_is); (case E1 => k_is); (case K1 => k_is); (case A2 => k_is); (case V2 => k_is); (case W2 => k_is); (case Q2 => k_is); (case R2 => k_is); (case H2 => k_is); (case ca2 => k_is); (case mr2 => k_is); (case B2 => k_is); (case X2 => k_is); (case S2 => k_is); (case P2 => k_is); (case J2 => k_is); (case T2 => k_is); (case L2 => k_is); (case E2 => k_is); (case K2 => k_is); (case A3 => k_is); (case V3 => k_is); (case W3 => k_is); (case Q3 => k_is); (case R3 => k_is); (case H3 => k_is); (case ca3 => k_is); (case mr3 => k_is); (case B3 => k_is); (case A4 => k_is); (case V4 => k_is); (case W4 => k_is); (case Q4 => k_is); (case R4 => k_is); (case H4 => k_is); (case ca4 => k_is); (case mr4 => k_is); (case A5 => k_is); (case V5 => k_is); (case W5 => k_is); (case Q5 => k_is); (case R5 => k_is); (case H5 => k_is); (case ca5 => k_is); (case mr5 => k_is); (case X5 => k_is); (case S5 => k_is); (case P5 => k_is); (case J5 => k_is); (case T5 => k_is); (case L5 => k_is); (case E5 => k_is); (case K5 => k_is); (case A6 => k_is); (case V6 => k_is); (case W6 => k_is); (case Q6 => k_is); (case R6 => k_is); (case H6 => k_is); (case ca6 => k_is); (case mr6 => k_is); (case B6 => k_is); (case D0_0 => k_is); (case D0_1 => k_is); (case D0_2 => k_is); (case D0_3 => k_is); (case D0_4 => k_is); (case D0_5 => k_is); (case D0_6 => k_is); (case D1_0 => k_is); (case D1_1 => k_is); (case D1_2 => k_is); (case D1_3 => k_is); (case D1_4 => k_is); (case D1_5 => k_is); (case D1_6 => k_is); (case D2_0 => k_is); (case D2_1 => k_is); (case D2_2 => k_is); (case D2_3 => k_is); (case D2_4 => k_is); (case D2_5 => k_is); (case D2_6 => k_is); (case D3_0 => k_is); (case D3_1 => k_is); (case D3_2 => k_is); (case D3_3 => k_is); (case D3_4 => k_is); (case D3_5 => k_is); (case D3_6 => k_is); (case D4_0 => k_is); (case D4_1 => k_is); (case D4_2 => k_is); (case D4_3 => k_is); (case D4_4 => k_is); (case D4_5 => k_is); (case D4_6 => k_is); (case D5_0 => k_is); (case D5_1 => k_is); (case D5_2 => k_is); (case D5_3 => k_is); (case D5_4 => k_is); (case D5_5 => k_is); (case D5_6 => k_is); (case D6_0 => k_is); (case D6_1 => k_is); (case D6_2 => k_is); (case D6_3 => k_is); (case D6_4 => k_is); (case D6_5 => k_is); (case D6_6 => k_is)
    (case v34 => first | rfl | k_is); (case x34 => first | kernel_rfl | rfl | decide +kernel); (case r34 => first | rfl | decide +kernel); (case v35 => first | rfl | k_is); (case x35 => first | kernel_rfl | rfl | decide +kernel); (case r35 => first | rfl | decide +kernel); (case v38 => first | rfl | k_is); (case x38 => first | kernel_rfl | rfl | decide +kernel); (case r38 => first | rfl | decide +kernel); (case ne34_35 => first | decide | k_is); (case ne34_38 => first | decide | k_is); (case ne35_38 => first | decide | k_is)
