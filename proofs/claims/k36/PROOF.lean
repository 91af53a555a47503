import PyProof.Rows.All
import Wide.All
import OpenK.AllK
import Wide.FinOn
import Lean
import PyProof.EqAt
import PyProof.EqKinds
import PyProof.TupleCall
import PyProof.NeKinds
import PyProof.EnumMake
import PyProof.EnumFor
import PyProof.ZipIter
import PyProof.Rows.ZipGen
import KE.KLam
import PyProof.DictItems
import KE.KTurnsDict
import KE.KPairComp
import KE.KDictList
import PySem.Challenge.RW_roadcall_k36_sets_met
set_option linter.all false
set_option Elab.async false
set_option maxRecDepth 100000
namespace L2
open PySem PySem.Spec PyProof.Rows
abbrev Key := Sum Int Str
def lV : Key → Value → Bool
  | .inl k, v => Value.isInt k v
  | .inr x, v => Value.isStrOf x v
def K0 (w : World) : Key → Int
  | .inl k => hashInt k
  | .inr x => hashStr w x
theorem bT : ∀ {k : Key} {v : Value}, lV k v = true → (∃ i t, k = Sum.inl i ∧ v = Value.int i t) ∨ (∃ x t, k = Sum.inr x ∧ v = Value.str x t)
  | .inl i, v, h => by
    obtain ⟨t, e⟩ := Value.isInt_shape (k := i) (v := v) h
    exact .inl ⟨i, t, rfl, e⟩
  | .inr x, v, h => by
    obtain ⟨t, e⟩ := Value.isStrOf_shape (x := x) (v := v) h
    exact .inr ⟨x, t, rfl, e⟩
theorem xC (i : Int) (t : Tok) : lV (.inl i) (.int i t) = true := by simp [lV, Value.isInt]
theorem xD (x : Str) (t : Tok) : lV (.inr x) (.str x t) = true := by simp [lV, Value.isStrOf]
theorem EY (a b : Int) : decide ((Sum.inl a : Key) = Sum.inl b) = (a == b) := by
  by_cases e : a = b
  · subst e; simp
  · have h : ¬ (Sum.inl a : Key) = Sum.inl b := fun q => e (Sum.inl.inj q)
    rw [decide_eq_false h]
    exact (beq_eq_false_iff_ne.mpr e).symm
theorem EZ (a b : Str) : decide ((Sum.inr a : Key) = Sum.inr b) = decide (a = b) := by
  by_cases e : a = b
  · subst e; simp
  · have h : ¬ (Sum.inr a : Key) = Sum.inr b := fun q => e (Sum.inr.inj q)
    rw [decide_eq_false h, decide_eq_false e]
theorem E1 (a : Int) (b : Str) : decide ((Sum.inl a : Key) = Sum.inr b) = false := decide_eq_false (fun q => nomatch q)
theorem E2 (a : Str) (b : Int) : decide ((Sum.inr a : Key) = Sum.inl b) = false := decide_eq_false (fun q => nomatch q)
def bK (prog : Program) (w : World) : PySem.KeyKind prog w Key where
  is := lV
  hash := K0 w
  inj := fun v a b ha hb => by
    rcases bT ha with ⟨i, t, rfl, rfl⟩ | ⟨x, t, rfl, rfl⟩
    · rcases bT hb with ⟨j, u, rfl, e⟩ | ⟨y, u, rfl, e⟩
      · injection e with e1 _; rw [e1]
      · exact nomatch e
    · rcases bT hb with ⟨j, u, rfl, e⟩ | ⟨y, u, rfl, e⟩
      · exact nomatch e
      · injection e with e1 _; rw [e1]
  byValue := fun k v h => by
    rcases bT h with ⟨i, t, rfl, rfl⟩ | ⟨x, t, rfl, rfl⟩ <;> rfl
  pyHash := fun hv h => by
    rcases bT hv with ⟨i, t, rfl, rfl⟩ | ⟨x, t, rfl, rfl⟩
    · exact wpAny_pyHash_int h
    · exact wpAny_pyHash_str h
  eqBool := fun hu hv h => by
    rcases bT hu with ⟨i, t, rfl, rfl⟩ | ⟨x, t, rfl, rfl⟩
    · rcases bT hv with ⟨j, u, rfl, rfl⟩ | ⟨y, u, rfl, rfl⟩
      · rw [EY] at h; exact wpAny_eqBool_int h
      · rw [E1] at h; exact SeqAt.EqAt.int_str i t y u _ _ _ _ h
    · rcases bT hv with ⟨j, u, rfl, rfl⟩ | ⟨y, u, rfl, rfl⟩
      · rw [E2] at h; exact SeqAt.EqAt.str_int x t j u _ _ _ _ h
      · rw [EZ] at h; exact wpAny_eqBool_str h
  «strs» := fun k x t v h => by
    rcases bT h with ⟨i, u, rfl, e⟩ | ⟨y, u, rfl, e⟩
    · exact nomatch e
    · injection e with e1 _
      subst e1
      cases v <;> rfl
theorem uC (prog : Program) (w : World) (i : Int) (t : Tok) : (bK prog w).is (.inl i) (.int i t) = true := xC i t
theorem uD (prog : Program) (w : World) (x : Str) (t : Tok) : (bK prog w).is (.inr x) (.str x t) = true := xD x t
inductive V where
  | aq | bl (b : Bool) | int (i : Int) | str (x : Str) | iI (b : Array UInt8) | uY (b : UInt64) | ref (a : Addr) | ty (n : String)
  deriving DecidableEq
def RelV : V → Value → Prop
  | .aq, u => u = Value.none
  | .bl b, u => u = Value.bool b
  | .int i, u => ∃ t, u = Value.int i t
  | .str x, u => ∃ t, u = Value.str x t
  | .iI b, u => ∃ t, u = Value.bytes b t
  | .uY b, u => ∃ t, u = Value.float b t
  | .ref a, u => u = Value.ref a
  | .ty n, u => u = Value.type n
abbrev Vals : List V → List Value → Prop := Paired RelV
theorem Vals.length {xs : List V} {us : List Value} (r : Vals xs us) : xs.length = us.length := Paired.length r
theorem Vals.get : ∀ {xs : List V} {us : List Value} {i : Nat} {x : V}, Vals xs us → xs[i]? = some x → ∃ u, us[i]? = some u ∧ RelV x u
  | _, _, _, _, .nil, e => by simp at e
  | _, _, 0, _, .cons r _, e => by simp at e; subst e; exact ⟨_, rfl, r⟩
  | _, _, i + 1, x, .cons _ t, e => by
    obtain ⟨u, h1, h2⟩ := Vals.get (i := i) (x := x) t (by simpa using e)
    exact ⟨u, by simpa using h1, h2⟩
theorem Vals.set {x : V} {u : Value} (r : RelV x u) : ∀ {xs : List V} {us : List Value} (i : Nat), Vals xs us → Vals (xs.set i x) (us.set i u)
  | _, _, _, .nil => .nil
  | _, _, 0, .cons _ t => .cons r t
  | _, _, i + 1, .cons q t => .cons q (Vals.set r i t)
theorem Vals.append : ∀ {xs ys : List V} {us ws : List Value}, Vals xs us → Vals ys ws → Vals (xs ++ ys) (us ++ ws)
  | _, _, _, _, .nil, s => s
  | _, _, _, _, .cons r t, s => .cons r (Vals.append t s)
theorem Vals.take : ∀ {xs : List V} {us : List Value} (n : Nat), Vals xs us → Vals (xs.take n) (us.take n)
  | _, _, 0, _ => .nil
  | _, _, _ + 1, .nil => .nil
  | _, _, n + 1, .cons r t => .cons r (Vals.take n t)
theorem Vals.drop : ∀ {xs : List V} {us : List Value} (n : Nat), Vals xs us → Vals (xs.drop n) (us.drop n)
  | _, _, 0, r => r
  | _, _, _ + 1, .nil => .nil
  | _, _, n + 1, .cons _ t => Vals.drop n t
def iJ : Option V → Option Value → Prop
  | some v, some u => RelV v u
  | none, none => True
  | _, _ => False
def KV {κ : Type} : List (κ × V) → List (κ × Value) → Prop := Paired fun (p : κ × V) (q : κ × Value) => p.1 = q.1 ∧ RelV p.2 q.2
def kV : Key → V
  | .inl i => .int i
  | .inr x => .str x
inductive HO where
  | lst (xs : List V)
  | tup (xs : List V)
  | dK (ao : List (Key × V)) | dT (ao : List (List Key × V))
  | set (S : Int → Bool) (n : Nat)
  | ins (C dx : Addr) (fs : List (Str × V))
  | own (x : Addr)
  | xd (fs : List (Str × V))
  | met (f x : Addr)
  | rng (lo hi : Int)
  | cN (o : Obj) (u : HO)
  | cD (ps : Array Value)
  | lam (ps : Array Value)
  | ext (φ : Heap → Prop)
abbrev Hp := Addr → Option HO
def upd (H : Hp) (a : Addr) (o : HO) : Hp := fun b => if b = a then some o else H b
theorem aD {H : Hp} {a : Addr} {o : HO} : upd H a o a = some o := by unfold upd; rw [if_pos rfl]
theorem af {H : Hp} {a b : Addr} {o : HO} (h : b ≠ a) : upd H a o b = H b := by unfold upd; rw [if_neg h]
theorem vQ {H : Hp} {a b : Addr} {o u : HO} (h : H a = some o) (h' : H b = some u) (d : o ≠ u) : a ≠ b := by
  intro e; subst e; rw [h] at h'; exact d (Option.some.inj h')
theorem aU {H : Hp} {a b : Addr} {o : HO} (h : H a = some o) (h' : H b = none) : a ≠ b := by
  intro e; subst e; rw [h] at h'; cases h'
section
variable (P : Program) (w : World)
def jt (h : Heap) (a : Addr) (items : Array Value) : Prop := ∃ o, h.get? a = some o ∧ o.cls = .type "tuple" ∧ ∃ n, o.data = .seq items n ∧ o.dict = none
theorem jt.tup {h : Heap} {a : Addr} {items : Array Value} (x : jt h a items) : IsTup h a items := let ⟨o, e, c, n, d, _⟩ := x; ⟨o, e, c, n, d⟩
theorem jt.lt {h : Heap} {a : Addr} {items : Array Value} (x : jt h a items) : a < h.objs.size := x.tup.lt
theorem jt.new (h : Heap) (items : Array Value) : jt (h.push { cls := .type "tuple", data := .seq items }) h.objs.size items := ⟨_, Heap.get?_push_size _ rfl, rfl, _, rfl, rfl⟩
def ObjOk (H : Hp) (h : Heap) (a : Addr) : HO → Prop
  | .lst xs => xs.length ≤ sizeLine ∧ ∃ (its : List Value) (n : Nat), Vals xs its ∧ h.get? a = some { cls := .type "list", data := .seq its.toArray n }
  | .tup xs => xs.length ≤ sizeLine ∧ ∃ its : List Value, Vals xs its ∧ jt h a its.toArray
  | .dK ao => ao.length ≤ sizeLine ∧ (a == sysModules) = false ∧ ∃ vs, KV ao vs ∧ h.DictOf (bK P w) a vs
  | .dT ao => ao.length ≤ sizeLine ∧ (a == sysModules) = false ∧ ∃ xs : List (List Key × Addr × Value),
      Paired (fun (p : List Key × V) (q : List Key × Addr × Value) => p.1 = q.1 ∧ H q.2.1 = some (.tup (p.1.map kV)) ∧ RelV p.2 q.2.2) ao xs ∧
      ∃ o es ep, h.get? a = some o ∧ o.ExactDict ∧ o.data = .dict es ep ∧ es.toList = xs.map (entryOfKey (tupleKind (bK P w))) ∧ (xs.map (·.1)).Nodup
  | .set S n => h.SetOf (intKind P w) a S n
  | .ins C dx fs => H dx = some (.own a) ∧ fs.length ≤ 1000 ∧ dx ≠ a ∧ h.get? a = some (PySem.W.instObj C dx) ∧
      ∃ mA, h.Ns1 dx mA ∧ (∀ f, iJ (fs.lookup f) (mA f)) ∧ PySem.Within mA (fs.map (·.1))
  | .own _ => ∃ o, h.get? a = some o
  | .xd fs => ∃ mA, h.Ns1 a mA ∧ ∀ f, iJ (fs.lookup f) (mA f)
  | .rng lo hi => ∃ t u v, h.get? a = some { cls := .type "range", data := .fields #[.int lo t, .int hi u, .int 1 v] }
  | .cN o u => h.get? a = some o ∧ ObjOk H h a u
  | .cD ps => h.get? a = some { cls := .none, data := .fields ps }
  | .lam ps => h.get? a = some { cls := .none, data := .fields ps }
  | .met f x => h.get? a = some (PySem.W.methodObj (.ref f) (.ref x))
  | .ext φ => φ h ∧ (∃ o, h.get? a = some o) ∧ ∀ h1 h2 : Heap, φ h1 → (∀ o, h1.get? a = some o → h2.get? a = some o) → φ h2
def cj (H : Hp) (h : Heap) : Prop := ∀ a o, H a = some o → ObjOk P w H h a o
end
section
variable {P : Program} {w : World} {H H' : Hp} {h h' : Heap} {a : Addr} {o : HO}
theorem ObjOk.lt (x : ObjOk P w H h a o) : a < h.objs.size := by
  cases o with
  | lst xs => obtain ⟨_, _, _, _, e⟩ := x; exact Heap.lt_size e
  | tup xs => obtain ⟨_, _, _, p⟩ := x; exact p.lt
  | dK ao => obtain ⟨_, _, _, _, o, _, _, e, _⟩ := x; exact Heap.lt_size e
  | dT ao => obtain ⟨_, _, _, _, o, _, _, e, _⟩ := x; exact Heap.lt_size e
  | set S n => obtain ⟨o, _, _, _, e, _⟩ := x; exact Heap.lt_size e
  | ins C dx fs => obtain ⟨_, _, _, e, _⟩ := x; exact Heap.lt_size e
  | own y => obtain ⟨_, e⟩ := x; exact Heap.lt_size e
  | xd fs => obtain ⟨_, ⟨_, _, _, e, _⟩, _⟩ := x; exact Heap.lt_size e
  | rng lo hi => obtain ⟨_, _, _, e⟩ := x; exact Heap.lt_size e
  | cN ob u => obtain ⟨e, _⟩ := x; exact Heap.lt_size e
  | cD ps => exact Heap.lt_size (show h.get? a = some _ from x)
  | lam ps => exact Heap.lt_size (show h.get? a = some _ from x)
  | met f y => exact Heap.lt_size (show h.get? a = some _ from x)
  | ext φ => obtain ⟨_, ⟨_, e⟩, _⟩ := x; exact Heap.lt_size e
theorem Paired.AF {α β : Type} {F G : α → β → Prop} : ∀ {E3 : List α} {E4 : List β}, Paired F E3 E4 → (∀ a b, F a b → G a b) → Paired G E3 E4
  | _, _, .nil, _ => .nil
  | _, _, .cons r t, f => .cons (f _ _ r) (Paired.AF t f)
theorem ObjOk.b9 (x : ObjOk P w H h a o) (k : ∀ b u, (b = a ∨ H b = some (.own a)) → h.get? b = some u → h'.get? b = some u)
    (ho : ∀ b, H b = some (.own a) → H' b = some (.own a)) (ht : ∀ b xs, H b = some (.tup xs) → H' b = some (.tup xs)) : ObjOk P w H' h' a o := by
  induction o with
  | lst xs => obtain ⟨z, its, n, r, e⟩ := x; exact ⟨z, its, n, r, k _ _ (.inl rfl) e⟩
  | tup xs => obtain ⟨z, its, r, ob, e, c⟩ := x; exact ⟨z, its, r, ob, k _ _ (.inl rfl) e, c⟩
  | dK ao => obtain ⟨z, y, vs, r, ob, es, ep, e, c⟩ := x; exact ⟨z, y, vs, r, ob, es, ep, k _ _ (.inl rfl) e, c⟩
  | dT ao =>
    obtain ⟨z, y, xs, r, ob, es, ep, e, c⟩ := x
    exact ⟨z, y, xs, Paired.AF r fun p q z => ⟨z.1, ht _ _ z.2.1, z.2.2⟩, ob, es, ep, k _ _ (.inl rfl) e, c⟩
  | set S n => obtain ⟨ob, es, ep, t, e, c⟩ := x; exact ⟨ob, es, ep, t, k _ _ (.inl rfl) e, c⟩
  | ins C dx fs =>
    obtain ⟨d, z, ne, e, mA, ⟨od, es, ep, e2, c⟩, r⟩ := x
    exact ⟨ho _ d, z, ne, k _ _ (.inl rfl) e, mA, ⟨od, es, ep, k _ _ (.inr d) e2, c⟩, r⟩
  | own y => obtain ⟨ob, e⟩ := x; exact ⟨ob, k _ _ (.inl rfl) e⟩
  | xd fs => obtain ⟨mA, ⟨od, es, ep, e, c⟩, r⟩ := x; exact ⟨mA, ⟨od, es, ep, k _ _ (.inl rfl) e, c⟩, r⟩
  | rng lo hi => obtain ⟨t, u, v, e⟩ := x; exact ⟨t, u, v, k _ _ (.inl rfl) e⟩
  | cN ob u ih => obtain ⟨e, q⟩ := x; exact ⟨k _ _ (.inl rfl) e, ih q⟩
  | cD ps =>
    have e : h.get? a = some { cls := .none, data := .fields ps } := x
    show h'.get? a = some { cls := .none, data := .fields ps }
    exact k a _ (.inl rfl) e
  | lam ps =>
    have e : h.get? a = some { cls := .none, data := .fields ps } := x
    show h'.get? a = some { cls := .none, data := .fields ps }
    exact k a _ (.inl rfl) e
  | met f y =>
    have e : h.get? a = some (PySem.W.methodObj (.ref f) (.ref y)) := x
    show h'.get? a = some (PySem.W.methodObj (.ref f) (.ref y))
    exact k a _ (.inl rfl) e
  | ext φ => obtain ⟨p, ⟨o, e⟩, st⟩ := x; exact ⟨st _ _ p fun o q => k _ _ (.inl rfl) q, ⟨o, k _ _ (.inl rfl) e⟩, st⟩
theorem cj.lt (x : cj P w H h) (e : H a = some o) : a < h.objs.size := (x a o e).lt
theorem cj.fresh (x : cj P w H h) (e : h.objs.size ≤ a) : H a = none := by
  cases q : H a with
  | none => rfl
  | some u => exact absurd (Nat.lt_of_lt_of_le (x.lt q) e) (Nat.lt_irrefl _)
theorem cj.kept (x : cj P w H h) (k : ∀ b u, h.get? b = some u → h'.get? b = some u) : cj P w H h' := fun a o e =>
  (x a o e).b9 (fun b u _ q => k b u q) (fun _ q => q) fun _ _ q => q
theorem cj.laid (x : cj P w H h) (k : ∀ b u, h.get? b = some u → h'.get? b = some u) (hp : h.objs.size ≤ a) (new : ObjOk P w (upd H a o) h' a o) : cj P w (upd H a o) h' := fun b u e => by
  have hn := x.fresh hp
  by_cases hb : b = a
  · subst hb; rw [aD] at e; cases e; exact new
  · rw [af hb] at e
    exact (x b u e).b9 (fun c v _ q => k c v q) (fun c q => by rw [af (aU q hn)]; exact q) fun c xs q => by rw [af (aU q hn)]; exact q
end
def Rd (H : Hp) (a : Addr) (u : HO) : Prop := H a = some u ∨ ∃ o, H a = some (.cN o u)
theorem Rd.ok {P : Program} {w : World} {H : Hp} {h : Heap} {a : Addr} {u : HO} (r : Rd H a u) (x : cj P w H h) : ObjOk P w H h a u := by
  rcases r with r | ⟨o, r⟩
  · exact x a u r
  · obtain ⟨_, q⟩ := x a _ r
    exact q
def xE : Option HO → Prop
  | some (.lst _) => True
  | some (.dK _) => True
  | some (.dT _) => True
  | some (.set _ _) => True
  | some (.ins _ _ _) => True
  | some (.ext _) => True
  | some (.lam _) => True
  | _ => False
section
variable {P : Program} {w : World} {H : Hp} {h h' : Heap} {x e : Addr} {o' : HO}
theorem cj.write (ok : cj P w H h) (mu : xE (H x)) (he : e = x ∨ H e = some (.own x)) (k : ∀ b u, b ≠ e → h.get? b = some u → h'.get? b = some u) (uZ : ∃ u, h'.get? e = some u)
    (new : ObjOk P w (upd H x o') h' x o') : cj P w (upd H x o') h' := fun b u q => by
  have E5 : ∀ c y, H c = some (.own y) → c ≠ x := fun c y r z => by subst z; rw [r] at mu; exact mu
  have K1 : ∀ c xs, H c = some (.tup xs) → c ≠ x := fun c xs r z => by subst z; rw [r] at mu; exact mu
  by_cases hb : b = x
  · subst hb; rw [aD] at q; cases q; exact new
  · rw [af hb] at q
    by_cases sd : b = e
    · have q' : H b = some (.own x) := by
        rcases he with z | z
        · exact absurd (sd.trans z) hb
        · rw [sd]; exact z
      rw [q] at q'; cases q'
      obtain ⟨v, hv⟩ := uZ
      exact ⟨v, by rw [sd]; exact hv⟩
    · refine (ok b u q).b9 (fun c v hc r => k c v ?_ r) (fun c r => by rw [af (E5 c b r)]; exact r) fun c xs r => by rw [af (K1 c xs r)]; exact r
      rcases hc with rfl | hc
      · exact sd
      · rintro rfl
        rcases he with z | z
        · exact E5 c b hc z
        · rw [hc] at z; cases z; exact hb rfl
end
structure Un (fs ex : List Addr) (H H' : Hp) (h h' : Heap) : Prop where
  keep : ∀ b o, h.get? b = some o → H b = none → b ∉ fs → b ∉ ex → h'.get? b = some o
  slot : ∀ b o, h.get? b = some o → H b = none → b ∈ fs → b ∉ ex → ∃ sl, h'.get? b = some { o with slots := sl }
  free : ∀ b o, h.get? b = some o → H b = none → b ∉ ex → H' b = none
  there : ∀ b o, h.get? b = some o → b ∉ ex → ∃ o', h'.get? b = some o'
  tups : ∀ b xs, H b = some (.tup xs) → H' b = some (.tup xs)
  frzs : ∀ b o u, H b = some (.cN o u) → H' b = some (.cN o u)
  tbls : ∀ b ps, H b = some (.cD ps) → ∃ more, H' b = some (.cD (ps ++ more))
section
variable {fs Ms ex O0 : List Addr} {H H1 H2 : Hp} {h h1 h2 h' : Heap} {a x e : Addr} {o : HO}
theorem Un.any (u : Un fs ex H H1 h h1) {b : Addr} {ob : Obj} (q : h.get? b = some ob) (n : H b = none) (hx : b ∉ ex) : ∃ sl, h1.get? b = some { ob with slots := sl } := by
  by_cases hb : b ∈ fs
  · exact u.slot b ob q n hb hx
  · exact ⟨ob.slots, u.keep b ob q n hb hx⟩
theorem Un.kept (k : ∀ b u, h.get? b = some u → h'.get? b = some u) : Un fs ex H H h h' :=
  ⟨fun b ob q _ _ _ => k b ob q, fun b ob q _ _ _ => ⟨ob.slots, k b ob q⟩, fun _ _ _ n _ => n, fun b ob q _ => ⟨ob, k b ob q⟩, fun _ _ q => q, fun _ _ _ q => q, fun _ ps q => ⟨#[], by rw [q]; simp⟩⟩
theorem Un.refl : Un fs ex H H h h := Un.kept fun _ _ q => q
theorem Un.laid (k : ∀ b u, h.get? b = some u → h'.get? b = some u) (hp : h.objs.size ≤ a) (hn : H a = none) : Un fs ex H (upd H a o) h h' where
  keep := fun b u q _ _ _ => k b u q
  slot := fun b u q _ _ _ => ⟨u.slots, k b u q⟩
  free := fun b u q n _ => by rw [af (Nat.ne_of_lt (Nat.lt_of_lt_of_le (Heap.lt_size q) hp))]; exact n
  there := fun b u q _ => ⟨u, k b u q⟩
  tups := fun b xs q => by rw [af (aU q hn)]; exact q
  frzs := fun b u xs q => by rw [af (aU q hn)]; exact q
  tbls := fun b ps q => ⟨#[], by rw [af (aU q hn), q]; simp⟩
theorem Un.write (mu : xE (H x)) (he : e = x ∨ H e = some (.own x)) (k : ∀ b u, b ≠ e → h.get? b = some u → h'.get? b = some u) (uZ : ∃ u, h'.get? e = some u) : Un fs ex H (upd H x o) h h' := by
  have hx : ∀ b, H b = none → b ≠ x := fun b n z => by subst z; rw [n] at mu; exact mu
  have hb : ∀ b, H b = none → b ≠ e := fun b n z => by
    subst z
    rcases he with r | r
    · exact hx b n r
    · rw [n] at r; cases r
  have hm : ∀ b u, H b = some u → ¬ xE (some u) → b ≠ x := fun b u q nm z => by subst z; rw [q] at mu; exact nm mu
  refine ⟨fun b u q n _ _ => k b u (hb b n) q, fun b u q n _ _ => ⟨u.slots, k b u (hb b n) q⟩, fun b u q n _ => by rw [af (hx b n)]; exact n, fun b u q _ => ?_,
    fun b xs q => by rw [af (hm b _ q fun z => z)]; exact q, fun b u xs q => by rw [af (hm b _ q fun z => z)]; exact q, fun b ps q => ⟨#[], by rw [af (hm b _ q fun z => z), q]; simp⟩⟩
  by_cases sd : b = e
  · subst sd; exact uZ
  · exact ⟨u, k b u sd q⟩
end
def Ct (h : Heap) (H : Hp) : List Addr := (List.range h.objs.size).filter fun a => (H a).isSome
def iK (h : Heap) (H : Hp) : Heap := PySem.W.hideAll h (Ct h H)
theorem xF (h : Heap) (H : Hp) : (iK h H).objs.size = h.objs.size := PySem.W.hideAll_size _ _
theorem AG {h : Heap} {H : Hp} {b : Addr} {o : Obj} (e : h.get? b = some o) (n : H b = none) : (iK h H).get? b = some o :=
  PySem.W.hideAll_get _ e fun hm => by
    have q : (H b).isSome = true := (List.mem_filter.mp hm).2
    rw [n] at q; simp at q
theorem DG {h : Heap} {H : Hp} {b : Addr} {o : Obj} (e : (iK h H).get? b = some o) : h.get? b = some o ∧ H b = none := by
  have e' : h.get? b = some o := PySem.W.of_hideAll (Ct h H) e
  refine ⟨e', ?_⟩
  cases q : H b with
  | none => rfl
  | some x =>
    have hm : b ∈ Ct h H := List.mem_filter.mpr ⟨List.mem_range.mpr (Heap.lt_size e'), by simp [q]⟩
    have z : (iK h H).get? b = none := PySem.W.hideAll_none (Ct h H) hm
    rw [z] at e; cases e
def DH (g h : Heap) (L : Addr) : List (Addr × Obj) := (List.range h.objs.size).filterMap fun a => if a = L ∨ (g.get? a).isSome = true then none else (h.get? a).map fun o => (a, o)
def rest (g h : Heap) (L d : Addr) : List (Addr × Obj) := (DH g h L).filter fun p => decide (p.1 ≠ d)
structure Mod (K : PySem.W.Frag) (mg : Str → Option Value) (base : Heap) : Prop where
  kin : K.In base
  glob : base.Ns mainGlobals mg
  blt : ∃ mb, base.Ns builtinsNs mb ∧ ∀ x : Str, x ≠ "__name__" → mb x = bootBuiltins x
  nolimit : base.NoLimit
structure Cx where
  prog : Program
  w : World
  K : PySem.W.Frag
  mg : Str → Option Value
  base : Heap
  A : Around
  N : List Str
  s₀ : Shared
  H₀ : Hp
  env : Env
  outer : List Env
  stack : List Env
  ex : List Addr
  fn : Str → Bool
  calm : Bool
  pn : List (Addr × Obj)
  xe : Value → Shared → Prop
def dP (l : List Env) : List Addr := l.filterMap (·.frame)
abbrev Cx.fs (X : Cx) : List Addr := dP X.outer
def mD (sc : Scope) (x : Str) : Prop := sc.names.lookup x = some .local ∨ sc.names.lookup x = some .cell ∨ sc.names.lookup x = some .free
def Loc (sc : Scope) (x : Str) : Prop := sc.names.lookup x = some .local ∨ sc.names.lookup x = some .cell
def Look (env : Env) (h : Heap) (m : Str → Option Value) (x : Str) (u : Value) : Prop :=
  (env.kindOf x = some .local ∧ m x = some u) ∨ ((env.kindOf x = some .cell ∨ env.kindOf x = some .free) ∧ ∃ c, env.cells.lookup x = some c ∧ h.IsCell c (some u))
structure Cx.Ok (X : Cx) : Prop where
  mod : Mod X.K X.mg X.base
  kind : X.env.scope.kind = .function
  glob : X.env.globals = mainGlobals
  blt : X.env.builtins = builtinsNs
  above : X.s₀.heap.objs.size ≤ X.env.locals
  inj : ∀ x y c, X.env.cells.lookup x = some c → X.env.cells.lookup y = some c → x = y
  has : ∀ x, (X.env.kindOf x = some .cell ∨ X.env.kindOf x = some .free) → ∃ c, X.env.cells.lookup x = some c
  cab : ∀ x c, X.fn x = true → X.env.cells.lookup x = some c → X.s₀.heap.objs.size ≤ c
  hd : X.calm = true → X.A.handled = none
  frames : X.A.frames = some X.stack
  stk : X.stack = X.outer ∨ (X.stack = X.env :: X.outer ∧ X.env.frame = some X.env.locals)
  exf : ∀ b ∈ X.ex, b ≠ X.env.locals ∧ ∀ x c, X.env.cells.lookup x = some c → c ≠ b
  bs : ∀ b o, X.base.get? b = some o → X.s₀.heap.get? b = some o ∧ X.H₀ b = none
  bsz : X.base.objs.size ≤ X.s₀.heap.objs.size
  noex : ∀ b o, X.base.get? b = some o → b ∉ X.ex
  exfs : ∀ b ∈ X.ex, b ∉ X.fs
  funs : X.s₀.heap.FunFrames X.base X.outer
  frf : ∀ b ∈ X.fs, X.H₀ b = none
def Gn (n : Nat) (g : Array GenState) : Prop := AllBare g ∧ n ≤ g.size
theorem Gn.self {n : Nat} {g : Array GenState} (x : Gn n g) : Gn g.size g := ⟨x.1, Nat.le_refl _⟩
theorem Gn.trans {n : Nat} {g g' : Array GenState} (x : Gn n g) (y : Gn g.size g') : Gn n g' := ⟨y.1, Nat.le_trans x.2 y.2⟩
structure Inv (X : Cx) (pins : List (Addr × Obj)) (σ : List (Option V)) (H : Hp) (s : Shared) : Prop where
  ok : X.Ok
  os : s.os = X.s₀.os
  bare : Gn X.s₀.gens.size s.gens
  base : Un X.fs X.ex X.H₀ H X.s₀.heap s.heap
  loc : ∃ m, s.heap.Ns X.env.locals m ∧ ∀ (i : Nat) (x : Str) (v : V), X.N[i]? = some x → σ[i]? = some (some v) → mD X.env.scope x → ∃ u, RelV v u ∧ Look X.env s.heap m x u
  cell : ∀ x c, X.env.cells.lookup x = some c → ∃ v, s.heap.IsCell c v
  free : H X.env.locals = none
  freeC : ∀ x c, X.env.cells.lookup x = some c → H c = none
  pin : ∀ p ∈ X.pn ++ pins, s.heap.get? p.1 = some p.2 ∧ H p.1 = none ∧ p.1 ≠ X.env.locals ∧ p.1 ∉ X.fs ∧ ∀ v, p.2.data ≠ .cell v
  hok : cj X.prog X.w H s.heap
  len : σ.length = X.N.length
section
variable {X : Cx} {pins : List (Addr × Obj)} {σ : List (Option V)} {H H' : Hp} {s : Shared} {h' : Heap}
theorem Cx.Ok.K2 (ok : X.Ok) {b : Addr} {o : Obj} (e : X.base.get? b = some o) : b ∉ X.fs := fun hb => by
  have := (ok.funs.mem hb).1
  rw [e] at this; cases this
theorem Inv.bs (I : Inv X pins σ H s) : ∀ b o, X.base.get? b = some o → s.heap.get? b = some o ∧ H b = none := fun b o e =>
  ⟨I.base.keep b o (I.ok.bs b o e).1 (I.ok.bs b o e).2 (I.ok.K2 e) (I.ok.noex b o e), I.base.free b o (I.ok.bs b o e).1 (I.ok.bs b o e).2 (I.ok.noex b o e)⟩
theorem Inv.bk (I : Inv X pins σ H s) : ∀ b o, X.base.get? b = some o → s.heap.get? b = some o := fun b o e => (I.bs b o e).1
theorem Inv.mod (I : Inv X pins σ H s) : Mod X.K X.mg X.base := I.ok.mod
theorem Inv.fT (I : Inv X pins σ H s) : X.K.In s.heap := I.ok.mod.kin.keeps I.bk
theorem Inv.nolimit (I : Inv X pins σ H s) : s.heap.NoLimit := I.ok.mod.nolimit.keeps I.bk
theorem Inv.lt (I : Inv X pins σ H s) : X.env.locals < s.heap.objs.size := let ⟨_, hn, _⟩ := I.loc; hn.lt
theorem Inv.sz (I : Inv X pins σ H s) : X.s₀.heap.objs.size ≤ s.heap.objs.size := Nat.le_trans I.ok.above (Nat.le_of_lt I.lt)
theorem Inv.E6 (I : Inv X pins σ H s) {a : Addr} (h : s.heap.objs.size ≤ a) : a ∉ X.fs := fun hb => by
  obtain ⟨_, o, ho, _⟩ := I.ok.funs.mem hb
  exact absurd (Nat.lt_of_lt_of_le (Heap.lt_size ho) (Nat.le_trans I.sz h)) (Nat.lt_irrefl _)
theorem Inv.pV (I : Inv X pins σ H s) : ∀ x c, X.env.cells.lookup x = some c → c ≠ X.env.locals := fun x c e z => by
  obtain ⟨v, o, ho, hd⟩ := I.cell x c e
  obtain ⟨m, ⟨o', es, ep, gC, jd, _⟩, _⟩ := I.loc
  rw [z, gC] at ho; cases ho; rw [jd] at hd; cases hd
theorem Inv.funs (I : Inv X pins σ H s) : s.heap.FunFrames X.base X.outer := by
  have all : ∀ (l : List Env), (∀ b ∈ dP l, b ∈ X.fs) → X.s₀.heap.FunFrames X.base l → s.heap.FunFrames X.base l := by
    intro l
    induction l with
    | nil => intro _ _; trivial
    | cons env r ih =>
      intro hs hl
      obtain ⟨hk, ⟨L, o, hf, hn, ho, hd⟩, hr⟩ := hl
      have hL : L ∈ X.fs := hs L (by unfold dP; rw [List.filterMap_cons, hf]; exact List.mem_cons_self)
      obtain ⟨sl, e⟩ := I.base.slot L o ho (I.ok.frf L hL) hL fun z => I.ok.exfs L z hL
      exact ⟨hk, ⟨L, _, hf, hn, e, hd⟩, ih (fun b hb => hs b (by unfold dP; rw [List.filterMap_cons, hf]; exact List.mem_cons_of_mem _ hb)) hr⟩
  exact all X.outer (fun _ hb => hb) I.ok.funs
theorem Inv.stack (I : Inv X pins σ H s) : s.heap.FunFrames X.base X.stack := by
  rcases I.ok.stk with e | ⟨e, hf⟩
  · rw [e]; exact I.funs
  · rw [e]
    obtain ⟨m, hn, _⟩ := I.loc
    refine .cons (by rw [I.ok.kind]; decide) hf hn ?_ I.funs
    exact Heap.get?_none_of_le (Nat.le_trans I.ok.bsz I.ok.above)
theorem Inv.eC (I : Inv X pins σ H s) : ∀ b ∈ dP X.stack, b ∈ X.env.locals :: X.fs := fun b hb => by
  rcases I.ok.stk with e | ⟨e, hf⟩
  · rw [e] at hb; exact List.mem_cons_of_mem _ hb
  · rw [e] at hb
    unfold dP at hb
    rw [List.filterMap_cons, hf] at hb
    exact hb
theorem Inv.jz (I : Inv X pins σ H s) : ∀ b ∈ dP X.stack, H b = none := fun b hb => by
  rcases List.mem_cons.mp (I.eC b hb) with e | hb
  · rw [e]; exact I.free
  · obtain ⟨_, o, ho, _⟩ := I.ok.funs.mem hb
    exact I.base.free b o ho (I.ok.frf b hb) fun z => I.ok.exfs b z hb
theorem Inv.step {g' : Array GenState} {t' : Nat} {d' : Drawn} {ch : List Addr} (I : Inv X pins σ H s)
    (mE : ∀ b ∈ ch, (b ∈ X.ex ∨ X.s₀.heap.objs.size ≤ b) ∧ b ≠ X.env.locals ∧ (∀ x c, X.env.cells.lookup x = some c → c ≠ b) ∧ ∀ p ∈ X.pn ++ pins, p.1 ≠ b)
    (keep : ∀ b o, b ≠ X.env.locals → b ∉ X.fs → b ∉ ch → s.heap.get? b = some o → H b = none → h'.get? b = some o)
    (slot : ∀ b o, b ≠ X.env.locals → b ∈ X.fs → b ∉ ch → s.heap.get? b = some o → H b = none → ∃ sl, h'.get? b = some { o with slots := sl }) (free : ∀ b o, b ∉ ch → s.heap.get? b = some o → H b = none → H' b = none)
    (there : ∀ b o, b ∉ ch → s.heap.get? b = some o → ∃ o', h'.get? b = some o')
    (tups : ∀ b xs, H b = some (.tup xs) → H' b = some (.tup xs)) (frzs : ∀ b o u, H b = some (.cN o u) → H' b = some (.cN o u)) (tbls : ∀ b ps, H b = some (.cD ps) → ∃ more, H' b = some (.cD (ps ++ more)))
    (ns : ∀ m, s.heap.Ns X.env.locals m → h'.Ns X.env.locals m) (hok : cj X.prog X.w H' h') (hg : Gn s.gens.size g') :
    Inv X pins σ H' { s with heap := h', gens := g', drawn := d', toks := t' } := by
  have JR : ∀ b o, X.s₀.heap.get? b = some o → b ≠ X.env.locals := fun b o e => Nat.ne_of_lt (Nat.lt_of_lt_of_le (Heap.lt_size e) I.ok.above)
  have Cu : ∀ b o, X.s₀.heap.get? b = some o → b ∉ X.ex → b ∉ ch := fun b o e hx hb => by
    rcases (mE b hb).1 with z | z
    · exact hx z
    · exact absurd (Nat.lt_of_lt_of_le (Heap.lt_size e) z) (Nat.lt_irrefl _)
  have cellK : ∀ x c, X.env.cells.lookup x = some c → ∀ v, s.heap.IsCell c v → h'.IsCell c v := fun x c e v ⟨o, ho, hd⟩ => by
    have xG : c ∉ ch := fun z => (mE c z).2.2.1 x c e rfl
    by_cases hc : c ∈ X.fs
    · obtain ⟨sl, q⟩ := slot c o (I.pV x c e) hc xG ho (I.freeC x c e)
      exact ⟨_, q, hd⟩
    · exact ⟨o, keep c o (I.pV x c e) hc xG ho (I.freeC x c e), hd⟩
  refine ⟨I.ok, I.os, I.bare.trans hg, ⟨fun b o e n hb hx => ?_, fun b o e n hb hx => ?_, fun b o e n hx => ?_, fun b o e hx => ?_, fun b xs e => tups b xs (I.base.tups b xs e), fun b o xs e => frzs b o xs (I.base.frzs b o xs e), fun b ps e => ?_⟩, ?_, fun x c e => ?_, ?_, fun x c e => ?_, fun p hp => ?_, hok, I.len⟩
  · exact keep b o (JR b o e) hb (Cu b o e hx) (I.base.keep b o e n hb hx) (I.base.free b o e n hx)
  · obtain ⟨sl, e1⟩ := I.base.slot b o e n hb hx
    obtain ⟨JS, e2⟩ := slot b _ (JR b o e) hb (Cu b o e hx) e1 (I.base.free b o e n hx)
    exact ⟨JS, e2⟩
  · obtain ⟨o', e1⟩ := I.base.there b o e hx
    exact free b o' (Cu b o e hx) e1 (I.base.free b o e n hx)
  · obtain ⟨o', e1⟩ := I.base.there b o e hx
    exact there b o' (Cu b o e hx) e1
  · obtain ⟨m1, e1⟩ := I.base.tbls b ps e
    obtain ⟨m2, e2⟩ := tbls b _ e1
    exact ⟨m1 ++ m2, by rw [e2, Array.append_assoc]⟩
  · obtain ⟨m, hn, hl⟩ := I.loc
    refine ⟨m, ns m hn, fun i x v e1 e2 e3 => ?_⟩
    obtain ⟨u, r, l⟩ := hl i x v e1 e2 e3
    refine ⟨u, r, ?_⟩
    rcases l with l | ⟨k, c, e, z⟩
    · exact .inl l
    · exact .inr ⟨k, c, e, cellK x c e _ z⟩
  · obtain ⟨v, z⟩ := I.cell x c e
    exact ⟨v, cellK x c e v z⟩
  · obtain ⟨m, ⟨o, _, _, ho, _⟩, _⟩ := I.loc
    exact free _ o (fun z => (mE _ z).2.1 rfl) ho I.free
  · obtain ⟨v, o, ho, hd⟩ := I.cell x c e
    exact free c o (fun z => (mE c z).2.2.1 x c e rfl) ho (I.freeC x c e)
  · obtain ⟨e, n, ne, nf, d⟩ := I.pin p hp
    have xG : p.1 ∉ ch := fun z => (mE p.1 z).2.2.2 p hp rfl
    exact ⟨keep p.1 p.2 ne nf xG e n, free p.1 p.2 xG e n, ne, nf, d⟩
theorem Inv.un {t' : Nat} (I : Inv X pins σ H s) (u : Un X.fs [] H H' s.heap h') (hok : cj X.prog X.w H' h') : Inv X pins σ H' { s with heap := h', toks := t' } := by
  obtain ⟨m, ⟨o, es, ep, ho, r⟩, _⟩ := id I.loc
  obtain ⟨sl, hL⟩ := u.any ho I.free (by simp)
  exact I.step (g' := s.gens) (d' := s.drawn) (ch := []) (fun _ z => nomatch z) (fun b o _ hb _ e n => u.keep b o e n hb (by simp)) (fun b o _ hb _ e n => u.slot b o e n hb (by simp)) (fun b o _ e n => u.free b o e n (by simp)) (fun b o _ e => u.there b o e (by simp)) u.tups u.frzs u.tbls (fun m' hm => by
    obtain ⟨o', gW, E7, gC, r'⟩ := hm
    rw [ho] at gC; cases gC
    exact ⟨_, gW, E7, hL, r'⟩) hok I.bare.self
theorem Inv.call {g' : Array GenState} {t' : Nat} {d' : Drawn} {ch : List Addr} (I : Inv X pins σ H s) (u : Un (dP X.stack) ch H H' s.heap h') (hok : cj X.prog X.w H' h') (hg : Gn s.gens.size g')
    (mE : ∀ b ∈ ch, (b ∈ X.ex ∨ X.s₀.heap.objs.size ≤ b) ∧ b ≠ X.env.locals ∧ (∀ x c, X.env.cells.lookup x = some c → c ≠ b) ∧ ∀ p ∈ X.pn ++ pins, p.1 ≠ b) :
    Inv X pins σ H' { s with heap := h', gens := g', drawn := d', toks := t' } := by
  obtain ⟨m, ⟨o, es, ep, ho, r⟩, _⟩ := id I.loc
  obtain ⟨sl, hL⟩ := u.any ho I.free fun z => (mE _ z).2.1 rfl
  exact I.step (ch := ch) mE (fun b o hL hb hc e n => u.keep b o e n (fun z => (List.mem_cons.mp (I.eC b z)).elim hL hb) hc) (fun b o _ _ hc e n => u.any e n hc) (fun b o hc e n => u.free b o e n hc) (fun b o hc e => u.there b o e hc) u.tups u.frzs u.tbls (fun m' hm => by
    obtain ⟨o', gW, E7, gC, r'⟩ := hm
    rw [ho] at gC; cases gC
    exact ⟨_, gW, E7, hL, r'⟩) hok hg
theorem Inv.turned {t' : Nat} {it : Addr} (I : Inv X pins σ H s) (k : ∀ b o, b ≠ it → s.heap.get? b = some o → h'.get? b = some o) (hn : H it = none) (hL : it ≠ X.env.locals)
    (h1 : it ∈ X.ex ∨ X.s₀.heap.objs.size ≤ it) (h2 : ∀ x c, X.env.cells.lookup x = some c → c ≠ it) (h3 : ∀ p ∈ X.pn ++ pins, p.1 ≠ it) : Inv X pins σ H { s with heap := h', toks := t' } := by
  have xH : ∀ b u, H b = some u → b ≠ it := fun b u e z => by rw [z, hn] at e; cases e
  refine I.step (g' := s.gens) (d' := s.drawn) (ch := [it]) (fun b hb => ?_) (fun b o _ _ hc e _ => k b o (fun z => hc (by simp [z])) e) (fun b o _ _ hc e _ => ⟨o.slots, k b o (fun z => hc (by simp [z])) e⟩) (fun _ _ _ _ n => n)
    (fun b o hc e => ⟨o, k b o (fun z => hc (by simp [z])) e⟩) (fun _ _ e => e) (fun _ _ _ e => e) (fun b ps e => ⟨#[], by rw [e]; simp⟩) (fun m hm => ?_) (fun b u e => ?_) I.bare.self
  · have e : b = it := by simpa using hb
    subst e
    exact ⟨h1, hL, h2, h3⟩
  · obtain ⟨o, es, ep, ho, r⟩ := hm
    exact ⟨o, es, ep, k _ o (Ne.symm hL) ho, r⟩
  · refine (I.hok b u e).b9 (fun c v hc q => k c v ?_ q) (fun _ q => q) fun _ _ q => q
    rcases hc with z | z
    · rw [z]; exact xH b u e
    · exact xH c _ z
theorem Inv.tok (I : Inv X pins σ H s) (t : Nat) : Inv X pins σ H { s with toks := t } := I.un (h' := s.heap) (t' := t) Un.refl I.hok
theorem Inv.kept {t' : Nat} (I : Inv X pins σ H s) (k : ∀ b u, s.heap.get? b = some u → h'.get? b = some u) : Inv X pins σ H { s with heap := h', toks := t' } := I.un (Un.kept k) (I.hok.kept k)
theorem Inv.laid {a : Addr} {o : HO} {t' : Nat} (I : Inv X pins σ H s) (k : ∀ b u, s.heap.get? b = some u → h'.get? b = some u) (hp : s.heap.objs.size ≤ a) (new : ObjOk X.prog X.w (upd H a o) h' a o) :
    Inv X pins σ (upd H a o) { s with heap := h', toks := t' } := I.un (Un.laid k hp (I.hok.fresh hp)) (I.hok.laid k hp new)
theorem Inv.write {x e : Addr} {o : HO} {t' : Nat} (I : Inv X pins σ H s) (mu : xE (H x)) (he : e = x ∨ H e = some (.own x)) (k : ∀ b u, b ≠ e → s.heap.get? b = some u → h'.get? b = some u) (uZ : ∃ u, h'.get? e = some u)
    (new : ObjOk X.prog X.w (upd H x o) h' x o) : Inv X pins σ (upd H x o) { s with heap := h', toks := t' } := I.un (Un.write mu he k uZ) (I.hok.write mu he k uZ new)
theorem Inv.oY {pins' : List (Addr × Obj)} (I : Inv X pins σ H s) (h : ∀ p ∈ pins', s.heap.get? p.1 = some p.2 ∧ H p.1 = none ∧ p.1 ≠ X.env.locals ∧ p.1 ∉ X.fs ∧ ∀ v, p.2.data ≠ .cell v) : Inv X pins' σ H s :=
  ⟨I.ok, I.os, I.bare, I.base, I.loc, I.cell, I.free, I.freeC, fun p hp => (List.mem_append.mp hp).elim (fun z => I.pin p (List.mem_append_left _ z)) (h p), I.hok, I.len⟩
theorem se {N : List Str} (hN : N.Nodup) {i j : Nat} {x : Str} (a : N[i]? = some x) (b : N[j]? = some x) : i = j := by
  obtain ⟨h1, e1⟩ := List.getElem?_eq_some_iff.mp a
  obtain ⟨h2, e2⟩ := List.getElem?_eq_some_iff.mp b
  exact (List.getElem_inj hN).mp (e1.trans e2.symm)
theorem store_ok2 {M : Model} {A : Around} {E : Value → Shared → Prop} {i : Nat} {x : Str} {v : V} {u : Value} {Q : Unit → Shared → Prop} (I : Inv X pins σ H s) (hN : X.N.Nodup) (hi : X.N[i]? = some x) (hx : Loc X.env.scope x) (r : RelV v u)
    (h : ∀ s', Inv X pins (σ.set i (some v)) H s' → (∃ a, Heap.SameBut a s.heap s'.heap ∧ (a = X.env.locals ∨ X.env.cells.lookup x = some a)) → Q () s') (hf : X.fn x = true ∨ X.env.scope.names.lookup x = some .local := by first | exact .inl rfl | exact .inr rfl | assumption) : wpAny M A (storeName X.env x u) Q E s := by
  obtain ⟨m, hn, hl⟩ := id I.loc
  have K3 : (X.env.scope.kind == .class || (X.env.scope.kind == .module && X.env.locals != X.env.globals)) = false := by rw [I.ok.kind]; rfl
  have E8 : i < σ.length := by rw [I.len]; exact (List.getElem?_eq_some_iff.mp hi).1
  have pV := I.pV
  have tracked : ∀ {a : Addr} {h' : Heap}, (∃ o, s.heap.get? a = some o ∧ H a = none) → Heap.SameBut a s.heap h' → cj X.prog X.w H h' := fun {a h'} ha hs b ob e => by
    obtain ⟨_, _, lW⟩ := ha
    refine (I.hok b ob e).b9 (fun c w' hc q => (hs.2 c ?_).trans q) (fun _ q => q) fun _ _ q => q
    rintro rfl
    rcases hc with rfl | hc
    · rw [lW] at e; cases e
    · rw [lW] at hc; cases hc
  rcases hx with hk | hk
  · refine wpAny_storeName_local hk hn (fun h' xI hs => ?_) K3
    obtain ⟨oL, _, _, xJ, _⟩ := id hn
    refine h _ ⟨I.ok, I.os, I.bare, ⟨fun b o e n hb hx => ?_, fun b o e n hb hx => ?_, I.base.free, fun b o e hx => ?_, I.base.tups, I.base.frzs, I.base.tbls⟩, ⟨_, xI, fun j y v' e1 e2 e3 => ?_⟩, fun y c e => ?_, I.free, I.freeC, fun p hp => ?_, tracked ⟨oL, xJ, I.free⟩ hs, by simpa using I.len⟩ ⟨_, hs, .inl rfl⟩
    · exact (hs.2 b (Nat.ne_of_lt (Nat.lt_of_lt_of_le (Heap.lt_size e) I.ok.above))).trans (I.base.keep b o e n hb hx)
    · obtain ⟨sl, e1⟩ := I.base.slot b o e n hb hx
      exact ⟨sl, (hs.2 b (Nat.ne_of_lt (Nat.lt_of_lt_of_le (Heap.lt_size e) I.ok.above))).trans e1⟩
    · obtain ⟨o', e1⟩ := I.base.there b o e hx
      exact ⟨o', (hs.2 b (Nat.ne_of_lt (Nat.lt_of_lt_of_le (Heap.lt_size e) I.ok.above))).trans e1⟩
    · by_cases hj : j = i
      · subst hj
        rw [hi] at e1; cases e1
        rw [List.getElem?_set_self E8] at e2
        cases e2
        exact ⟨u, r, .inl ⟨hk, by simp⟩⟩
      · rw [List.getElem?_set_ne (Ne.symm hj)] at e2
        obtain ⟨u', r', q⟩ := hl j y v' e1 e2 e3
        refine ⟨u', r', ?_⟩
        rcases q with ⟨k, e⟩ | ⟨k, c, e, z⟩
        · refine .inl ⟨k, ?_⟩
          have : y ≠ x := fun e => hj (se hN e1 (e ▸ hi))
          simp [this, e]
        · exact .inr ⟨k, c, e, z.sameBut hs (pV y c e)⟩
    · obtain ⟨w', z⟩ := I.cell y c e
      exact ⟨w', z.sameBut hs (pV y c e)⟩
    · obtain ⟨e, n, ne, nf, d⟩ := I.pin p hp
      exact ⟨(hs.2 p.1 ne).trans e, n, ne, nf, d⟩
  · have nH : X.fn x = true := by
      rcases hf with z | z
      · exact z
      · rw [z] at hk; cases hk
    obtain ⟨c, hc⟩ := I.ok.has x (.inl hk)
    obtain ⟨w', z⟩ := I.cell x c hc
    refine wpAny_storeName_cell I.ok.kind hk hc z (fun h' Cv hs => ?_)
    obtain ⟨oc, pW, K4⟩ := id z
    refine h { s with heap := h' } ⟨I.ok, I.os, I.bare, ⟨fun b o e n hb hx => ?_, fun b o e n hb hx => ?_, I.base.free, fun b o e hx => ?_, I.base.tups, I.base.frzs, I.base.tbls⟩, ⟨m, hn.sameBut hs (Ne.symm (pV x c hc)), fun j y v' e1 e2 e3 => ?_⟩, fun y c' e => ?_, I.free, I.freeC, fun p hp => ?_, tracked ⟨oc, pW, I.freeC x c hc⟩ hs, by simpa using I.len⟩ ⟨c, hs, .inr hc⟩
    · exact (hs.2 b (Nat.ne_of_lt (Nat.lt_of_lt_of_le (Heap.lt_size e) (I.ok.cab x c nH hc)))).trans (I.base.keep b o e n hb hx)
    · obtain ⟨sl, e1⟩ := I.base.slot b o e n hb hx
      exact ⟨sl, (hs.2 b (Nat.ne_of_lt (Nat.lt_of_lt_of_le (Heap.lt_size e) (I.ok.cab x c nH hc)))).trans e1⟩
    · obtain ⟨o', e1⟩ := I.base.there b o e hx
      exact ⟨o', (hs.2 b (Nat.ne_of_lt (Nat.lt_of_lt_of_le (Heap.lt_size e) (I.ok.cab x c nH hc)))).trans e1⟩
    · by_cases hj : j = i
      · subst hj
        rw [hi] at e1; cases e1
        rw [List.getElem?_set_self E8] at e2
        cases e2
        exact ⟨u, r, .inr ⟨.inl hk, c, hc, Cv⟩⟩
      · rw [List.getElem?_set_ne (Ne.symm hj)] at e2
        obtain ⟨u', r', q⟩ := hl j y v' e1 e2 e3
        refine ⟨u', r', ?_⟩
        rcases q with q | ⟨k, c', e, z'⟩
        · exact .inl q
        · refine .inr ⟨k, c', e, z'.sameBut hs ?_⟩
          rintro rfl
          exact hj (se hN e1 (I.ok.inj _ _ _ e hc ▸ hi))
    · by_cases JT : c' = c
      · subst JT; exact ⟨_, Cv⟩
      · obtain ⟨w2, z2⟩ := I.cell y c' e
        exact ⟨w2, z2.sameBut hs JT⟩
    · obtain ⟨e, n, ne, nf, d⟩ := I.pin p hp
      refine ⟨(hs.2 p.1 ?_).trans e, n, ne, nf, d⟩
      intro q
      rw [q, pW] at e
      have q' : oc = p.2 := Option.some.inj e
      exact d w' (by rw [← q']; exact K4)
theorem sf {M : Model} {A : Around} {E : Value → Shared → Prop} {i : Nat} {x : Str} {v : V} {u : Value} {Q : Unit → Shared → Prop} (I : Inv X pins σ H s) (hN : X.N.Nodup) (hi : X.N[i]? = some x) (hx : Loc X.env.scope x) (r : RelV v u)
    (h : ∀ s', Inv X pins (σ.set i (some v)) H s' → Q () s') (hf : X.fn x = true ∨ X.env.scope.names.lookup x = some .local := by first | exact .inl rfl | exact .inr rfl | assumption) : wpAny M A (storeName X.env x u) Q E s :=
  store_ok2 I hN hi hx r (fun s' I' _ => h s' I') hf
theorem Inv.nI {s' : Shared} {ch : List Addr} (I : Inv X pins σ H s) (ho : s'.os = s.os) (u : Un (dP X.stack) ch H H' s.heap s'.heap) (hok : cj X.prog X.w H' s'.heap) (hg : Gn s.gens.size s'.gens)
    (mE : ∀ b ∈ ch, (b ∈ X.ex ∨ X.s₀.heap.objs.size ≤ b) ∧ b ≠ X.env.locals ∧ (∀ x c, X.env.cells.lookup x = some c → c ≠ b) ∧ ∀ p ∈ X.pn ++ pins, p.1 ≠ b) : Inv X pins σ H' s' := by
  obtain ⟨h', g', d', t', o'⟩ := s'
  have e : o' = s.os := ho
  subst e
  exact I.call (g' := g') (t' := t') (d' := d') u hok hg mE
end
abbrev XK := Value → Option Addr → Hp → Prop
abbrev St := List (Option V)
abbrev VK := V → Hp → Prop
abbrev TE := St → Hp → VK → Prop
abbrev TT := St → Hp → (Bool → Hp → Prop) → Prop
abbrev TA := St → Hp → (List V → Hp → Prop) → Prop
structure Ends where
  nx : St → Hp → Prop
  rt : VK
  bk : St → Hp → Prop := fun _ _ => False
  ct : St → Hp → Prop := fun _ _ => False
abbrev TS := Ends → St → Hp → Prop
def EP (X : Cx) (pins : List (Addr × Obj)) (σ : St) (Q : VK) (u : Value) (s' : Shared) : Prop := ∃ v H', Inv X pins σ H' s' ∧ RelV v u ∧ Q v H'
def TP (X : Cx) (pins : List (Addr × Obj)) (σ : St) (Q : Bool → Hp → Prop) (b : Bool) (s' : Shared) : Prop := ∃ H', Inv X pins σ H' s' ∧ Q b H'
def AP (X : Cx) (pins : List (Addr × Obj)) (σ : St) (Q : List V → Hp → Prop) (us : List Value) (s' : Shared) : Prop := ∃ vs H', Inv X pins σ H' s' ∧ Vals vs us ∧ Q vs H'
def SP (X : Cx) (pins : List (Addr × Obj)) (D : Ends) (f : Flow) (s' : Shared) : Prop :=
  match f with
  | .next => ∃ aH H', Inv X pins aH H' s' ∧ D.nx aH H'
  | .brk => ∃ aH H', Inv X pins aH H' s' ∧ D.bk aH H'
  | .cont => ∃ aH H', Inv X pins aH H' s' ∧ D.ct aH H'
  | .ret u => ∃ v aH H', Inv X pins aH H' s' ∧ RelV v u ∧ D.rt v H'
structure PE (X : Cx) (e : Expr) (t : TE) : Prop where
  run : ∀ (pins : List (Addr × Obj)) (s : Shared) (σ : St) (H : Hp) (Q : VK), Inv X pins σ H s → t σ H Q → wpAny (model X.prog X.w) X.A (eval e X.env) (EP X pins σ Q) X.xe s
instance {X : Cx} {e : Expr} {t : TE} : CoeFun (PE X e t) (fun _ => ∀ (pins : List (Addr × Obj)) (s : Shared) (σ : St) (H : Hp) (Q : VK), Inv X pins σ H s → t σ H Q → wpAny (model X.prog X.w) X.A (eval e X.env) (EP X pins σ Q) X.xe s) := ⟨PE.run⟩
structure PT (X : Cx) (e : Expr) (t : TT) : Prop where
  run : ∀ (pins : List (Addr × Obj)) (s : Shared) (σ : St) (H : Hp) (Q : Bool → Hp → Prop), Inv X pins σ H s → t σ H Q → wpAny (model X.prog X.w) X.A (isTrue e X.env (eval e X.env)) (TP X pins σ Q) X.xe s
instance {X : Cx} {e : Expr} {t : TT} : CoeFun (PT X e t) (fun _ => ∀ (pins : List (Addr × Obj)) (s : Shared) (σ : St) (H : Hp) (Q : Bool → Hp → Prop), Inv X pins σ H s → t σ H Q → wpAny (model X.prog X.w) X.A (isTrue e X.env (eval e X.env)) (TP X pins σ Q) X.xe s) := ⟨PT.run⟩
def PW (X : Cx) (e : Expr) (t : TT) : Prop :=
  ∀ (whole : Sem Value) (pins : List (Addr × Obj)) (s : Shared) (σ : St) (H : Hp) (Q : Bool → Hp → Prop), Inv X pins σ H s → t σ H Q → wpAny (model X.prog X.w) X.A (isTrue e X.env whole) (TP X pins σ Q) X.xe s
theorem PW.pt {X : Cx} {e : Expr} {t : TT} (h : PW X e t) : PT X e t := ⟨h _⟩
structure PA (X : Cx) (es : List Expr) (t : TA) : Prop where
  run : ∀ (pos : Pos) (pins : List (Addr × Obj)) (s : Shared) (σ : St) (H : Hp) (Q : List V → Hp → Prop), Inv X pins σ H s → t σ H Q → wpAny (model X.prog X.w) X.A (spliced (backTo pos (starEach es X.env))) (AP X pins σ Q) X.xe s
instance {X : Cx} {es : List Expr} {t : TA} : CoeFun (PA X es t) (fun _ => ∀ (pos : Pos) (pins : List (Addr × Obj)) (s : Shared) (σ : St) (H : Hp) (Q : List V → Hp → Prop), Inv X pins σ H s → t σ H Q → wpAny (model X.prog X.w) X.A (spliced (backTo pos (starEach es X.env))) (AP X pins σ Q) X.xe s) := ⟨PA.run⟩
structure PS (X : Cx) (st : Stmt) (t : TS) : Prop where
  run : ∀ (pins : List (Addr × Obj)) (s : Shared) (σ : St) (H : Hp) (D : Ends), Inv X pins σ H s → t D σ H → wpAny (model X.prog X.w) X.A (exec st X.env) (SP X pins D) X.xe s
instance {X : Cx} {st : Stmt} {t : TS} : CoeFun (PS X st t) (fun _ => ∀ (pins : List (Addr × Obj)) (s : Shared) (σ : St) (H : Hp) (D : Ends), Inv X pins σ H s → t D σ H → wpAny (model X.prog X.w) X.A (exec st X.env) (SP X pins D) X.xe s) := ⟨PS.run⟩
structure fK (X : Cx) (st : List Stmt) (t : TS) : Prop where
  run : ∀ (pins : List (Addr × Obj)) (s : Shared) (σ : St) (H : Hp) (D : Ends), Inv X pins σ H s → t D σ H → wpAny (model X.prog X.w) X.A (execs st X.env) (SP X pins D) X.xe s
instance {X : Cx} {st : List Stmt} {t : TS} : CoeFun (fK X st t) (fun _ => ∀ (pins : List (Addr × Obj)) (s : Shared) (σ : St) (H : Hp) (D : Ends), Inv X pins σ H s → t D σ H → wpAny (model X.prog X.w) X.A (execs st X.env) (SP X pins D) X.xe s) := ⟨fK.run⟩
theorem thn {α : Type} {t : Sem α} {Q Q' : α → Shared → Prop} {M : Model} {A : Around} {E : Value → Shared → Prop} {s : Shared} (h : wpAny M A t Q E s) (hQ : ∀ a s, Q a s → Q' a s) : wpAny M A t Q' E s := wpAny_mono h hQ fun _ _ x => x
section
variable {X : Cx}
theorem bin {a b : Expr} {ta tb : TE} (ha : PE X a ta) (hb : PE X b tb) {pins : List (Addr × Obj)} {s : Shared} {σ : St} {H : Hp} {R : V → V → Hp → Prop} (I : Inv X pins σ H s) (h : ta σ H fun x H1 => tb σ H1 fun y H2 => R x y H2)
    {α : Type} {Q : α → Shared → Prop} {f : Value → Value → Sem α}
    (hf : ∀ v u s2 x y H2, Inv X pins σ H2 s2 → RelV x v → RelV y u → R x y H2 → wpAny (model X.prog X.w) X.A (f v u) Q X.xe s2) :
    wpAny (model X.prog X.w) X.A (eval a X.env) (fun v az => wpAny (model X.prog X.w) X.A (eval b X.env) (fun u gI => wpAny (model X.prog X.w) X.A (f v u) Q X.xe gI) X.xe az) X.xe s := by
  refine thn (ha pins s σ H _ I h) fun v s1 ⟨x, H1, I1, r1, q1⟩ => ?_
  refine thn (hb pins s1 σ H1 _ I1 q1) fun u s2 ⟨y, H2, I2, r2, q2⟩ => ?_
  exact hf v u s2 x y H2 I2 r1 r2 q2
def E9 (i : Nat) : TE := fun σ H Q => ∃ v, σ[i]? = some (some v) ∧ Q v H
def tC (v : V) : TE := fun _ H Q => Q v H
theorem sg {i : Nat} {x : Str} {pos : Pos} (hN : X.N[i]? = some x) (hv : mD X.env.scope x) (hd : (x == ("__debug__" : Str)) = false := by decide) (dD : (x == ("__classdict__" : Str)) = false := by decide) : PE X (.Name x pos) (E9 i) := by
  refine ⟨?_⟩
  intro pins s σ H Q I h
  obtain ⟨v, e, h⟩ := h
  obtain ⟨m, hn, hl⟩ := I.loc
  obtain ⟨u, r, l⟩ := hl i x v hN e hv
  have fin : EP X pins σ Q u s := ⟨v, H, I, r, h⟩
  rcases l with ⟨hk, hm⟩ | ⟨hk, c, hc, rL⟩
  · exact wpAny_Name (wpAny_loadName_local I.ok.kind hk hn hm fin) hd
  · rcases hk with hk | hk
    · exact wpAny_Name (wpAny_loadName_cell I.ok.kind hk hc rL fin) hd
    · exact wpAny_Name (wpAny_loadName_free I.ok.kind hk hc rL fin dD) hd
theorem Fb {i j pos} : PE X (.Constant (.int i) j pos) (tC (.int i)) := ⟨fun _ _ _ H _ I h => wpAny_Constant_int ⟨.int i, H, I.tok _, ⟨_, rfl⟩, h⟩⟩
theorem IB {b j pos} : PE X (.Constant (.bool b) j pos) (tC (.bl b)) := ⟨fun _ _ _ H _ I h => Constant_bool ⟨.bl b, H, I, rfl, h⟩⟩
theorem Fc {j pos} : PE X (.Constant .none j pos) (tC .aq) := ⟨fun _ _ _ H _ I h => Constant_none ⟨.aq, H, I, rfl, h⟩⟩
theorem Fd {x j pos} : PE X (.Constant (.str x) j pos) (tC (.str x)) := ⟨fun _ _ _ H _ I h => Calls.Constant_str ⟨.str x, H, I.tok _, ⟨_, rfl⟩, h⟩⟩
def Gl (X : Cx) (x : Str) : Prop := X.env.kindOf x = some .globalImplicit
theorem lX {E : Value → Shared → Prop} {pins : List (Addr × Obj)} {s : Shared} {σ : St} {H : Hp} {x : Str} {u : Value} {pos : Pos} {Q : Value → Shared → Prop} (I : Inv X pins σ H s) (hg : Gl X x) (hm : X.mg x = some u) (h : Q u s)
    (hd : (x == ("__debug__" : Str)) = false := by decide) : wpAny (model X.prog X.w) X.A (eval (.Name x pos) X.env) Q E s :=
  Calls.Name_function_global I.ok.kind hg (Calls.loadGlobal_global (by rw [I.ok.glob]; exact I.mod.glob.keeps I.bk) hm h) hd
theorem dY {E : Value → Shared → Prop} {pins : List (Addr × Obj)} {s : Shared} {σ : St} {H : Hp} {x : Str} {u : Value} {pos : Pos} {Q : Value → Shared → Prop} (I : Inv X pins σ H s) (hg : Gl X x) (hm : X.mg x = none) (hv : bootBuiltins x = some u) (h : Q u s)
    (hn : x ≠ "__name__" := by decide) (hd : (x == ("__debug__" : Str)) = false := by decide) : wpAny (model X.prog X.w) X.A (eval (.Name x pos) X.env) Q E s := by
  obtain ⟨mb, h1, h2⟩ := I.mod.blt
  exact Calls.Name_function_global I.ok.kind hg (Calls.loadGlobal_builtin (by rw [I.ok.glob]; exact I.mod.glob.keeps I.bk) hm (by rw [I.ok.blt]; exact h1.keeps I.bk) ((h2 x hn).trans hv) h) hd
theorem u0 {x : Str} {v : V} {u : Value} {pos : Pos} (hg : Gl X x) (hm : X.mg x = some u) (r : RelV v u) (hd : (x == ("__debug__" : Str)) = false := by decide) : PE X (.Name x pos) (tC v) := ⟨fun _ _ _ H _ I h => lX I hg hm ⟨v, H, I, r, h⟩ hd⟩
theorem DI {x : Str} {v : V} {u : Value} {pos : Pos} (hg : Gl X x) (hm : X.mg x = none) (hv : bootBuiltins x = some u) (r : RelV v u) (hn : x ≠ "__name__" := by decide) (hd : (x == ("__debug__" : Str)) = false := by decide) : PE X (.Name x pos) (tC v) := ⟨fun _ _ _ H _ I h => dY I hg hm hv ⟨v, H, I, r, h⟩ hn hd⟩
variable {a b : Expr} {ta tb : TE} {pos : Pos}
def PC (X : Cx) (op : CmpOp) (a b : Expr) (t : TE) : Prop :=
  ∀ (pins : List (Addr × Obj)) (s : Shared) (σ : St) (H : Hp) (Q : VK), Inv X pins σ H s → t σ H Q →
    wpAny (model X.prog X.w) X.A (eval a X.env) (fun v az => wpAny (model X.prog X.w) X.A (eval b X.env) (fun u gI => wpAny (model X.prog X.w) X.A (compareOp op v u) (EP X pins σ Q) X.xe gI) X.xe az) X.xe s
theorem AH (b : Expr) {op : CmpOp} (h : op ≠ .In) (h2 : op ≠ .NotIn) : behindInMarks op b = false := by
  have e1 : (op == CmpOp.In) = false := by cases op <;> first | rfl | exact absurd rfl h
  have e2 : (op == CmpOp.NotIn) = false := by cases op <;> first | rfl | exact absurd rfl h2
  cases b <;> simp [behindInMarks, e1, e2]
def tB (t : TE) : TT := fun σ H Q => t σ H fun x H1 => ∃ c, x = .bl c ∧ Q c H1
theorem Mt {op : CmpOp} {t : TE} (h : PC X op a b t) (h1 : behindInMarks op b = false := by first | exact AH _ (by decide) (by decide) | rfl) : PT X (.Compare a [op] [b] pos) (tB t) := by
  refine ⟨?_⟩
  intro pins s σ H Q I hw
  refine wpAny_isTrue_Compare1 (thn (h pins s σ H _ I hw) fun v s1 h1 => thn h1 fun u s2 h2 => thn h2 fun c s3 ⟨x, H1, I1, r1, q1⟩ => ?_) h1
  obtain ⟨d, rfl, q⟩ := q1
  cases r1
  exact wpAny_truthy_bool ⟨H1, I1, q⟩
theorem Fe {e : Expr} {t : TE} (h : PE X e t) (he : ∀ whole, isTrue e X.env whole = (do let v ← whole; standAt e.pos; holding [v] (truthy v)) := by intro _; rfl) : PT X e (tB t) := by
  refine ⟨?_⟩
  intro pins s σ H Q I hw
  refine isTrue_plain (thn (h pins s σ H _ I hw) fun v s1 ⟨x, H1, I1, r1, q1⟩ => ?_) (he _)
  obtain ⟨d, rfl, q⟩ := q1
  cases r1
  exact wpAny_truthy_bool ⟨H1, I1, q⟩
variable {tA nJ : TT} {rest : List Expr}
def K5 (t u : TT) : TT := fun σ H Q => t σ H fun c H1 => if c = true then u σ H1 Q else Q false H1
def Mu (t u : TT) : TT := fun σ H Q => t σ H fun c H1 => if c = true then Q true H1 else u σ H1 Q
def K6 (t : TT) : TT := fun σ H Q => t σ H fun c H1 => Q (!c) H1
theorem DJ (ha : PT X a tA) : PW X (.BoolOp .And [a] pos) tA := by
  intro wh pins s σ H Q I h
  refine isTrue_and (thn (ha pins s σ H Q I h) fun c s1 e => ?_)
  cases c with
  | true => exact isTrue_and_nil e
  | false => exact e
theorem Ff (ha : PT X a tA) : PW X (.BoolOp .Or [a] pos) tA := by
  intro wh pins s σ H Q I h
  refine isTrue_or (thn (ha pins s σ H Q I h) fun c s1 e => ?_)
  cases c with
  | false => exact isTrue_or_nil e
  | true => exact e
theorem Fg (ha : PT X a tA) (hb : PW X (.BoolOp .And (b :: rest) pos) nJ) : PW X (.BoolOp .And (a :: b :: rest) pos) (K5 tA nJ) := by
  intro wh pins s σ H Q I h
  refine isTrue_and (thn (ha pins s σ H _ I h) fun c s1 ⟨H1, I1, q1⟩ => ?_)
  cases c with
  | true => exact hb wh pins s1 σ H1 Q I1 q1
  | false => exact ⟨H1, I1, q1⟩
theorem IC (ha : PT X a tA) (hb : PW X (.BoolOp .Or (b :: rest) pos) nJ) : PW X (.BoolOp .Or (a :: b :: rest) pos) (Mu tA nJ) := by
  intro wh pins s σ H Q I h
  refine isTrue_or (thn (ha pins s σ H _ I h) fun c s1 ⟨H1, I1, q1⟩ => ?_)
  cases c with
  | true => exact ⟨H1, I1, q1⟩
  | false => exact hb wh pins s1 σ H1 Q I1 q1
theorem Fh (ha : PT X a tA) : PT X (.UnaryOp .Not a pos) (K6 tA) := by
  refine ⟨?_⟩
  intro pins s σ H Q I h
  exact isTrue_not (ha pins s σ H (fun c H1 => Q (!c) H1) I h)
def IE (ta tb : TE) : TE := fun σ H Q => ta σ H fun x H1 => ∃ c, x = .bl c ∧ if c = true then tb σ H1 Q else Q (.bl false) H1
def IG (ta : TE) : TE := fun σ H Q => ta σ H fun x H1 => ∃ c, x = .bl c ∧ Q (.bl (!c)) H1
theorem Fi {op} {t : TE} (h : PE X a t) : PE X (.BoolOp op [a] pos) t := ⟨fun pins s σ H Q I hw => BoolOp_one (h pins s σ H Q I hw)⟩
theorem Fj (ha : PE X a ta) (hb : PE X (.BoolOp .And (b :: rest) pos) tb) : PE X (.BoolOp .And (a :: b :: rest) pos) (IE ta tb) := by
  refine ⟨?_⟩
  intro pins s σ H Q I h
  refine BoolOp_and (thn (ha pins s σ H _ I h) fun v s1 ⟨x, H1, I1, r1, q1⟩ => ?_)
  obtain ⟨c, rfl, q1⟩ := q1
  cases r1
  refine wpAny_truthy_bool ?_
  cases c with
  | true => exact hb pins s1 σ H1 Q I1 q1
  | false => exact ⟨.bl false, H1, I1, rfl, q1⟩
theorem Fl (ha : PE X a ta) : PE X (.UnaryOp .Not a pos) (IG ta) := by
  refine ⟨?_⟩
  intro pins s σ H Q I h
  refine UnaryOp_ (thn (ha pins s σ H _ I h) fun v s1 ⟨x, H1, I1, r1, q1⟩ => ?_)
  obtain ⟨c, rfl, q1⟩ := q1
  cases r1
  exact not_of (wpAny_truthy_bool ⟨.bl (!c), H1, I1, rfl, q1⟩)
end
def bE (K : PySem.W.Frag) (H : Hp) (a : Addr) (xs : List V) : Prop :=
  Rd H a (.lst xs) ∨
    ∃ (o : Obj) (its : Array Value) (n : Nat), K.lookup a = some o ∧ o.cls = .type "list" ∧ o.dict = none ∧ o.data = .seq its n ∧ its.size ≤ sizeLine ∧ Vals xs its.toList
def cO (K : PySem.W.Frag) (H : Hp) (a : Addr) (xs : List V) : Prop :=
  Rd H a (.tup xs) ∨
    ∃ (o : Obj) (its : Array Value) (n : Nat), K.lookup a = some o ∧ o.cls = .type "tuple" ∧ o.data = .seq its n ∧ its.size ≤ sizeLine ∧ Vals xs its.toList
def K7 : Value → Option V
  | .none => some .aq
  | .bool b => some (.bl b)
  | .int i _ => some (.int i)
  | .str x _ => some (.str x)
  | .bytes b _ => some (.iI b)
  | .float b _ => some (.uY b)
  | .ref a => some (.ref a)
  | .type n => some (.ty n)
  | _ => none
theorem RelV.abs {x : V} {u : Value} (r : RelV x u) : K7 u = some x := by
  cases x with
  | aq => cases r; rfl
  | bl _ => cases r; rfl
  | int _ => obtain ⟨t, rfl⟩ := r; rfl
  | str _ => obtain ⟨t, rfl⟩ := r; rfl
  | iI _ => obtain ⟨t, rfl⟩ := r; rfl
  | uY _ => obtain ⟨t, rfl⟩ := r; rfl
  | ref _ => cases r; rfl
  | ty _ => cases r; rfl
theorem RelV.inj {x y : V} {u : Value} (r : RelV x u) (q : RelV y u) : x = y := Option.some.inj (r.abs.symm.trans q.abs)
theorem Vals.inj : ∀ {xs ys : List V} {us : List Value}, Vals xs us → Vals ys us → xs = ys
  | _, _, _, .nil, .nil => rfl
  | _, _, _, .cons r t, .cons r' t' => by rw [r.inj r', Vals.inj t t']
section
variable {X : Cx} {pins : List (Addr × Obj)} {σ : St} {H : Hp} {s : Shared} {a : Addr} {xs ys : List V}
theorem bE.of {K : PySem.W.Frag} (h : H a = some (.lst xs)) : bE K H a xs := .inl (.inl h)
theorem cO.of {K : PySem.W.Frag} (h : H a = some (.tup xs)) : cO K H a xs := .inl (.inl h)
theorem Inv.list (I : Inv X pins σ H s) (h : bE X.K H a xs) : ∃ its : List Value, Vals xs its ∧ PlainL s.heap a its.toArray ∧ xs.length ≤ sizeLine := by
  rcases h with h | ⟨o, its, n, hk, hc, hd, hs, hz, r⟩
  · obtain ⟨z, its, n, r, e⟩ := h.ok I.hok
    exact ⟨its, r, ⟨_, n, e, rfl, rfl, rfl⟩, z⟩
  · refine ⟨its.toList, r, ⟨o, n, I.fT a o hk, hc, hd, by simpa using hs⟩, ?_⟩
    have e := r.length
    simp only [Array.length_toList] at e
    omega
theorem Inv.tuple (I : Inv X pins σ H s) (h : cO X.K H a xs) : ∃ its : List Value, Vals xs its ∧ IsTup s.heap a its.toArray ∧ xs.length ≤ sizeLine := by
  rcases h with h | ⟨o, its, n, hk, hc, hs, hz, r⟩
  · obtain ⟨z, its, r, p⟩ := h.ok I.hok
    exact ⟨its, r, jt.tup p, z⟩
  · refine ⟨its.toList, r, ⟨o, I.fT a o hk, hc, n, by simpa using hs⟩, ?_⟩
    have e := r.length
    simp only [Array.length_toList] at e
    omega
theorem Inv.sh (I : Inv X pins σ H s) (h : bE X.K H a xs) (h' : bE X.K H a ys) : xs = ys := by
  obtain ⟨its, r, ⟨o, n, e, _, _, d⟩, _⟩ := I.list h
  obtain ⟨its', r', ⟨o', n', e', _, _, d'⟩, _⟩ := I.list h'
  rw [e] at e'; cases e'
  rw [d] at d'
  injection d' with d1 _
  have : its = its' := by simpa using congrArg Array.toList d1
  subst this
  exact r.inj r'
theorem Inv.pX (I : Inv X pins σ H s) (h : cO X.K H a xs) (h' : cO X.K H a ys) : xs = ys := by
  obtain ⟨its, r, ⟨o, e, _, n, d⟩, _⟩ := I.tuple h
  obtain ⟨its', r', ⟨o', e', _, n', d'⟩, _⟩ := I.tuple h'
  rw [e] at e'; cases e'
  rw [d] at d'
  injection d' with d1 _
  have : its = its' := by simpa using congrArg Array.toList d1
  subst this
  exact r.inj r'
end
abbrev Cx.iL (X : Cx) (E : Value → Shared → Prop) : Cx := { X with xe := E }
abbrev Cx.kB (X : Cx) : Cx := X.iL fun _ _ => False
theorem Cx.Ok.iL {X : Cx} (ok : X.Ok) (E : Value → Shared → Prop) : (X.iL E).Ok :=
  ⟨ok.mod, ok.kind, ok.glob, ok.blt, ok.above, ok.inj, ok.has, ok.cab, ok.hd, ok.frames, ok.stk, ok.exf, ok.bs, ok.bsz, ok.noex, ok.exfs, ok.funs, ok.frf⟩
theorem Cx.Ok.fU {X : Cx} {E : Value → Shared → Prop} (ok : (X.iL E).Ok) : X.Ok :=
  ⟨ok.mod, ok.kind, ok.glob, ok.blt, ok.above, ok.inj, ok.has, ok.cab, ok.hd, ok.frames, ok.stk, ok.exf, ok.bs, ok.bsz, ok.noex, ok.exfs, ok.funs, ok.frf⟩
section
variable {X : Cx} {pins : List (Addr × Obj)} {σ : St} {H : Hp} {s : Shared} {E : Value → Shared → Prop}
theorem Inv.iL (I : Inv X pins σ H s) (E : Value → Shared → Prop) : Inv (X.iL E) pins σ H s := ⟨I.ok.iL E, I.os, I.bare, I.base, I.loc, I.cell, I.free, I.freeC, I.pin, I.hok, I.len⟩
theorem Inv.fU (I : Inv (X.iL E) pins σ H s) : Inv X pins σ H s := ⟨I.ok.fU, I.os, I.bare, I.base, I.loc, I.cell, I.free, I.freeC, I.pin, I.hok, I.len⟩
theorem SP.fU {D : Ends} {f : Flow} {s' : Shared} (h : SP (X.iL E) pins D f s') : SP X pins D f s' := by
  cases f with
  | next => obtain ⟨aH, H', I, q⟩ := h; exact ⟨aH, H', I.fU, q⟩
  | brk => obtain ⟨aH, H', I, q⟩ := h; exact ⟨aH, H', I.fU, q⟩
  | cont => obtain ⟨aH, H', I, q⟩ := h; exact ⟨aH, H', I.fU, q⟩
  | ret u => obtain ⟨v, aH, H', I, r, q⟩ := h; exact ⟨v, aH, H', I.fU, r, q⟩
theorem PE.kB {e : Expr} {t : TE} (h : PE X.kB e t) : PE X e t := ⟨fun pins s σ H Q I hw =>
  wpAny_mono (h pins s σ H Q (I.iL _) hw) (fun _ _ ⟨v, H', I', r, q⟩ => ⟨v, H', I'.fU, r, q⟩) fun _ _ z => False.elim z⟩
theorem fK.kB {st : List Stmt} {t : TS} (h : fK X.kB st t) : fK X st t := ⟨fun pins s σ H D I hw =>
  wpAny_mono (h pins s σ H D (I.iL _) hw) (fun _ _ q => q.fU) fun _ _ z => False.elim z⟩
end
section
variable {X : Cx} {st : Stmt} {rest : List Stmt} {t u : TS} {e : Expr} {te : TE} {pos : Pos}
def IH : TS := fun D σ H => D.nx σ H
def K8 (t u : TS) : TS := fun D σ H => t { D with nx := u D } σ H
theorem DK : fK X [] IH := ⟨fun _ _ σ H _ I h => wpAny_execs_nil ⟨σ, H, I, h⟩⟩
theorem AI (h1 : PS X st t) (h2 : fK X rest u) : fK X (st :: rest) (K8 t u) := by
  refine ⟨?_⟩
  intro pins s σ H D I h
  refine wpAny_execs_cons (thn (h1 pins s σ H { D with nx := u D } I h) fun f s1 q => ?_)
  cases f with
  | next =>
    obtain ⟨aH, H', I', q⟩ := q
    exact h2 pins s1 aH H' D I' q
  | ret v => exact q
  | brk => exact q
  | cont => exact q
theorem DL (h1 : PS X st t) : fK X [st] t := by
  refine ⟨?_⟩
  intro pins s σ H D I h
  refine wpAny_execs_cons (thn (h1 pins s σ H D I h) fun f s1 q => ?_)
  cases f with
  | next => exact wpAny_execs_nil q
  | ret v => exact q
  | brk => exact q
  | cont => exact q
theorem Inv.quiet {pins : List (Addr × Obj)} {σ : St} {H : Hp} {s : Shared} (I : Inv X pins σ H s) : interactive X.env = false := by simp [interactive, I.ok.kind]
def II (te : TE) : TS := fun D σ H => te σ H fun _ H1 => D.nx σ H1
theorem DM (he : PE X e te) (hs : swapsWith e none pos.line X.env = pure false := by rfl) : PS X (.Expr e pos) (II te) := by
  refine ⟨?_⟩
  intro pins s σ H D I h
  exact wpAny_Expr_any (thn (he pins s σ H _ I h) fun v s1 ⟨x, H1, I1, r1, q1⟩ => ⟨σ, H1, I1, q1⟩) I.quiet hs
def K9 (te : TE) : TS := fun D σ H => te σ H D.rt
theorem Fm (he : PE X e te) : PS X (.Return (some e) pos) (K9 te) := by
  refine ⟨?_⟩
  intro pins s σ H D I h
  exact wpAny_Return_some (thn (he pins s σ H _ I h) fun v s1 ⟨x, H1, I1, r1, q1⟩ => ⟨x, σ, H1, I1, r1, q1⟩)
def La (c : TT) (t u : TS) : TS := fun D σ H => c σ H fun b H1 => if b = true then t D σ H1 else u D σ H1
theorem IJ {c : Expr} {a b : List Stmt} {tc : TT} (hc : PT X c tc) (ha : fK X a t) (hb : fK X b u) : PS X (.If c a b pos) (La tc t u) := by
  refine ⟨?_⟩
  intro pins s σ H D I h
  refine wpAny_If (thn (hc pins s σ H _ I h) fun d s1 ⟨H1, I1, q1⟩ => ?_)
  cases d with
  | true => exact ha pins s1 σ H1 D I1 q1
  | false => exact hb pins s1 σ H1 D I1 q1
end
abbrev TG := V → St → Hp → (St → Hp → Prop) → Prop
abbrev nK := List V → St → Hp → (St → Hp → Prop) → Prop
def PG (X : Cx) (target : Expr) (t : TG) : Prop :=
  ∀ (pins : List (Addr × Obj)) (s : Shared) (σ : St) (H : Hp) (v : V) (u : Value) (Q : St → Hp → Prop), Inv X pins σ H s → RelV v u → t v σ H Q →
    wpAny (model X.prog X.w) X.A (assign target X.env u) (fun _ s' => ∃ aH H', Inv X pins aH H' s' ∧ Q aH H') X.xe s
def pY (X : Cx) (ts : List Expr) (t : nK) : Prop :=
  ∀ (pins : List (Addr × Obj)) (s : Shared) (σ : St) (H : Hp) (vs : List V) (us : List Value) (Q : St → Hp → Prop), Inv X pins σ H s → Vals vs us → t vs σ H Q →
    wpAny (model X.prog X.w) X.A (assignInOrder ((assignEach ts X.env).map (·.2)) us) (fun _ s' => ∃ aH H', Inv X pins aH H' s' ∧ Q aH H') X.xe s
abbrev AJ := V → V → V → Hp → (Hp → Prop) → Prop
def Fn (X : Cx) (t : AJ) : Prop :=
  ∀ (pins : List (Addr × Obj)) (s : Shared) (σ : St) (H : Hp) (o i v : V) (ov iv u : Value) (Q : Hp → Prop), Inv X pins σ H s → RelV o ov → RelV i iv → RelV v u → t o i v H Q →
    wpAny (model X.prog X.w) X.A (setItem ov iv u) (fun _ s' => ∃ H', Inv X pins σ H' s' ∧ Q H') X.xe s
section
variable {X : Cx} {pos : Pos}
def nL (i : Nat) : TG := fun v σ H Q => Q (σ.set i (some v)) H
theorem DN {i : Nat} {x : Str} (hN : X.N.Nodup) (hi : X.N[i]? = some x) (hx : Loc X.env.scope x) (hf : X.fn x = true ∨ X.env.scope.names.lookup x = some .local := by first | exact .inl rfl | exact .inr rfl | assumption) : PG X (.Name x pos) (nL i) := by
  intro pins s σ H v u Q I r h
  exact wpAny_assign_Name (sf I hN hi hx r (fun s' I' => ⟨_, H, I', h⟩) hf)
def Lb : nK := fun vs σ H Q => vs = [] ∧ Q σ H
def IK (t : TG) (u : nK) : nK := fun vs σ H Q => ∃ v r, vs = v :: r ∧ t v σ H fun aH H' => u r aH H' Q
theorem DP : pY X [] Lb := by
  intro pins s σ H vs us Q I r h
  obtain ⟨e, h⟩ := h
  subst e
  cases r
  exact assignInOrder_nil ⟨σ, H, I, h⟩
theorem AK {e : Expr} {es : List Expr} {t : TG} {u : nK} (h1 : PG X e t) (h2 : pY X es u)
    (hs : (assignEach (e :: es) X.env).map (·.2) = assign e X.env :: (assignEach es X.env).map (·.2) := by rfl) : pY X (e :: es) (IK t u) := by
  intro pins s σ H vs us Q I r h
  obtain ⟨v, vr, e1, h⟩ := h
  subst e1
  cases r with
  | cons r rr =>
    rw [hs]
    refine assignInOrder_cons (thn (h1 pins s σ H _ _ _ I r h) fun _ s1 ⟨nM, H1, I1, q1⟩ => ?_)
    exact h2 pins s1 nM H1 _ _ Q I1 rr q1
def Lc (K : PySem.W.Frag) (n : Nat) (t : nK) : TG := fun v σ H Q => ∃ a xs, v = .ref a ∧ cO K H a xs ∧ xs.length = n ∧ t xs σ H Q
theorem Fo {es : List Expr} {k : Nat} {t : nK} {n : Nat} (hc : X.calm = true) (h : pY X es t)
    (hn : (assignEach es X.env).length = n := by rfl) (mF : (assignEach es X.env).findIdx? (·.1) = none := by rfl) : PG X (.Tuple es k pos) (Lc X.K n t) := by
  intro pins s σ H v u Q I r hw
  obtain ⟨a, xs, e1, hq, hl, hw⟩ := hw
  subst e1
  cases r
  obtain ⟨its, rv, ht, hz⟩ := I.tuple hq
  refine assign_Tuple_tuple (I.ok.hd hc) ht (by simp [hn, ← hl, rv.length]) mF fun h' hx => ?_
  have I1 : Inv X pins σ H { s with heap := h' } := I.kept (t' := s.toks) fun b o e => hx b o (Nat.ne_of_lt (Heap.lt_size e)) e
  exact h pins _ σ H xs _ Q I1 (by simpa using rv) hw
def Ld (to ti : TE) (t : AJ) : TG := fun v σ H Q => to σ H fun o H1 => ti σ H1 fun i H2 => t o i v H2 fun H3 => Q σ H3
theorem Fp {o i : Expr} {to ti : TE} {t : AJ} (ho : PE X o to) (hi : PE X i ti) (hs : Fn X t)
    (ha : ∀ v, assign (.Subscript o i pos) X.env v = (do
      let ov ← holding [v] (eval o X.env)
      let iv ← holding [v, ov] (eval i X.env)
      standAt pos
      holding [v, ov, iv] (setItem ov iv v)
      release [v, ov, iv] []) := by intro _; rfl) : PG X (.Subscript o i pos) (Ld to ti t) := by
  intro pins s σ H v u Q I r h
  rw [ha]
  refine wpAny_bind (wpAny_holding (thn (ho pins s σ H _ I h) fun ov s1 ⟨x, H1, I1, r1, q1⟩ => ?_))
  refine wpAny_bind (wpAny_holding (thn (hi pins s1 σ H1 _ I1 q1) fun iv s2 ⟨y, H2, I2, r2, q2⟩ => ?_))
  refine wpAny_bind (wpAny_standAt (wpAny_bind (wpAny_holding (thn (hs pins s2 σ H2 x y v ov iv u _ I2 r1 r2 r q2) fun _ s3 ⟨H3, I3, q3⟩ => ?_))))
  exact wpAny_release ⟨σ, H3, I3, q3⟩
def oZ (te : TE) (g : TG) : TS := fun D σ H => te σ H fun x H1 => g x σ H1 D.nx
theorem Fq {tg e : Expr} {te : TE} {g : TG} (he : PE X e te) (hg : PG X tg g) (hs : swapsWithSole [tg] e pos.line X.env = pure false := by rfl) (hw : swappedStores [tg] e X.env = pure none := by rfl)
    (h1 : (assignEach [tg] X.env).map (·.2) = [assign tg X.env] := by rfl) : PS X (.Assign [tg] e pos) (oZ te g) := by
  refine ⟨?_⟩
  intro pins s σ H D I h
  refine wpAny_Assign_stores (thn (he pins s σ H _ I h) fun v s1 ⟨x, H1, I1, r1, q1⟩ => ?_) hs hw
  rw [h1]
  exact thn (hg pins s1 σ H1 x v _ I1 r1 q1) fun _ s2 q => q
theorem Fs {i : Nat} {x : Str} {e : Expr} {te : TE} {pos' : Pos} (hN : X.N.Nodup) (hi : X.N[i]? = some x) (hx : Loc X.env.scope x) (he : PE X e te) (hs : swapsWith e (some (.Name x pos')) pos.line X.env = pure false := by rfl) (hf : X.fn x = true ∨ X.env.scope.names.lookup x = some .local := by first | exact .inl rfl | exact .inr rfl | assumption) :
    PS X (.Assign [.Name x pos'] e pos) (oZ te (nL i)) := by
  refine ⟨?_⟩
  intro pins s σ H D I h
  refine wpAny_Assign_Name (thn (he pins s σ H _ I h) fun v s1 ⟨y, H1, I1, r1, q1⟩ => ?_) hs
  exact sf I1 hN hi hx r1 (fun s2 I2 => ⟨_, H1, I2, q1⟩) hf
end
section
variable {X : Cx} {pos : Pos}
def xK (c : TT) (tb : TS) : TS := fun D σ H => ∃ W : Nat → St → Hp → Prop, (∃ m, W m σ H) ∧ ∀ m σ H, W m σ H →
  c σ H fun b H1 => if b = true then ∃ N : St → Hp → Prop, (∀ aH H', N aH H' → ∃ m', m' < m ∧ W m' aH H') ∧ tb { D with nx := N, ct := N, bk := D.nx } σ H1 else D.nx σ H1
theorem AO {c : Expr} {body : List Stmt} {tc : TT} {tb : TS} (hp : PassesOwn (model X.prog X.w) X.A X.env X.xe) (hc : PT X c tc) (hb : fK X body tb) : PS X (.While c body [] pos) (xK tc tb) := by
  refine ⟨?_⟩
  intro pins s σ H D I h
  obtain ⟨W, ⟨m0, w0⟩, turn⟩ := h
  refine wpAny_While (codeAny_whileLoop (fun n s' => ∃ aH H', Inv X pins aH H' s' ∧ W n aH H') ?_ m0 ⟨σ, H, I, w0⟩)
  rintro n s1 ⟨nM, H1, I1, w1⟩
  refine wpAny_passesOwn hp (thn (hc pins s1 nM H1 _ I1 (turn n nM H1 w1)) fun b s2 ⟨H2, I2, q2⟩ => ?_)
  cases b with
  | true =>
    obtain ⟨N, hN, q2⟩ := q2
    rw [if_pos rfl]
    refine wpAny_passesOwn hp (thn (hb pins s2 nM H2 _ I2 q2) fun f s3 q3 => ?_)
    cases f with
    | next =>
      obtain ⟨kj, H3, I3, n3⟩ := q3
      obtain ⟨m', hm, w3⟩ := hN kj H3 n3
      exact ⟨m', hm, kj, H3, I3, w3⟩
    | cont =>
      obtain ⟨kj, H3, I3, n3⟩ := q3
      obtain ⟨m', hm, w3⟩ := hN kj H3 n3
      exact ⟨m', hm, kj, H3, I3, w3⟩
    | brk => exact q3
    | ret v => exact q3
  | false =>
    rw [if_neg Bool.false_ne_true]
    exact wpAny_execs_nil ⟨nM, H2, I2, q2⟩
end
structure It where
  go : Nat → Hp → Prop
  yld : Nat → Hp → V → Hp → Prop
  stop : Nat → Hp → Prop
def c7 (X : Cx) (pins : List (Addr × Obj)) (H : Hp) (b : Addr) : Prop :=
  H b = none ∧ b ≠ X.env.locals ∧ b ∉ X.fs ∧ (b ∈ X.ex ∨ X.s₀.heap.objs.size ≤ b) ∧ (∀ x c, X.env.cells.lookup x = some c → c ≠ b) ∧ ∀ p ∈ X.pn ++ pins, p.1 ≠ b
theorem Inv.ju {X : Cx} {pins : List (Addr × Obj)} {σ : St} {H H' : Hp} {s : Shared} {b : Addr} (I : Inv X pins σ H s) (hb : s.heap.objs.size ≤ b) (hn : H' b = none) : c7 X pins H' b := by
  refine ⟨hn, Nat.ne_of_gt (Nat.lt_of_lt_of_le I.lt hb), I.E6 hb, .inr (Nat.le_trans I.sz hb), fun x c e z => ?_, fun p hp z => ?_⟩
  · obtain ⟨v, q⟩ := I.cell x c e
    exact absurd (Nat.lt_of_lt_of_le q.lt (by rw [z]; exact hb)) (Nat.lt_irrefl _)
  · exact absurd (Nat.lt_of_lt_of_le (Heap.lt_size (I.pin p hp).1) (by rw [z]; exact hb)) (Nat.lt_irrefl _)
structure Turn (P : Program) (w : World) (K : PySem.W.Frag) (tg : Expr) (J : It) (fp : List Addr) (it : Addr) (tn : Nat → Heap → Prop) : Prop where
  mem : it ∈ fp
  obj : ∀ i h, tn i h → ∀ b ∈ fp, ∃ o, h.get? b = some o ∧ ∀ v, o.data ≠ .cell v
  keep : ∀ i h h', tn i h → (∀ b ∈ fp, ∀ o, h.get? b = some o → h'.get? b = some o) → tn i h'
  item : ∀ (X : Cx), X.prog = P → X.w = w → X.K = K → X.calm = true → ∀ (i : Nat) (pins : List (Addr × Obj)) (s : Shared) (σ : St) (H : Hp) (E : Value → Shared → Prop), Inv X pins σ H s → (∀ b ∈ fp, c7 X pins H b) → tn i s.heap → J.go i H →
    wpAny (model P w) X.A (pyNext (.ref it)) (fun r s1 => ∃ u, r = some u ∧
      wpAny (model P w) X.A (letOwnedTupleGo tg (.ref it) u) (fun _ s2 => ∃ x H', Inv X pins σ H' s2 ∧ RelV x u ∧ J.yld i H x H' ∧ tn (i + 1) s2.heap ∧ ∀ b ∈ fp, H' b = none) E s1) E s
  done : ∀ (X : Cx), X.prog = P → X.w = w → X.K = K → X.calm = true → ∀ (i : Nat) (pins : List (Addr × Obj)) (s : Shared) (σ : St) (H : Hp) (E : Value → Shared → Prop), Inv X pins σ H s → (∀ b ∈ fp, c7 X pins H b) → tn i s.heap → J.stop i H →
    wpAny (model P w) X.A (pyNext (.ref it)) (fun r s1 => r = none ∧ Inv X pins σ H s1) E s
  self : ∀ (A : Around) (i : Nat) (s : Shared) (Q : Value → Shared → Prop) (E : Value → Shared → Prop), tn i s.heap → Q (.ref it) s → wpAny (model P w) A (pyIter (.ref it)) Q E s
abbrev TI := St → Hp → (It → Hp → Prop) → Prop
def JU (X : Cx) (pins : List (Addr × Obj)) (σ : St) (tg : Expr) (R : It → Hp → Prop) (si : Value) (s2 : Shared) : Prop :=
  ∃ (it : Addr) (fp : List Addr) (tn : Nat → Heap → Prop) (J : It) (H' : Hp), si = .ref it ∧ Inv X pins σ H' s2 ∧ Turn X.prog X.w X.K tg J fp it tn ∧ tn 0 s2.heap ∧ (∀ b ∈ fp, c7 X pins H' b) ∧ R J H'
def PI (X : Cx) (tg iter : Expr) (wi : TI) : Prop :=
  ∀ (pins : List (Addr × Obj)) (s : Shared) (σ : St) (H : Hp) (R : It → Hp → Prop), Inv X pins σ H s → wi σ H R →
    wpAny (model X.prog X.w) X.A (eval iter X.env) (fun v s1 => wpAny (model X.prog X.w) X.A (pyIter v) (JU X pins σ tg R) X.xe s1) X.xe s
theorem vR {M : Model} {A : Around} {E : Value → Shared → Prop} {s : Shared} {tg : Expr} {it : Addr} {u : Value} {o : Obj} {n : String} {vs : Array Value} {Q : Unit → Shared → Prop} (ho : s.heap.get? it = some o) (hc : o.cls = .type n) (hd : o.data = .fields vs)
    (hn : ["enumerate", "zip", "dict_itemiterator", "dict_reverseitemiterator", "odict_iterator", "itertools.zip_longest", "itertools.pairwise"].contains n = false) (hQ : Q () s) : wpAny M A (letOwnedTupleGo tg (.ref it) u) Q E s := by
  unfold letOwnedTupleGo
  cases tg <;> first
    | exact wpAny_pure hQ
    | (cases u <;> first
        | exact wpAny_pure hQ
        | (refine wpAny_bind (wpAny_load ho ?_)
           rw [hc, hd]
           show wpAny M A (if (["enumerate", "zip", "dict_itemiterator", "dict_reverseitemiterator", "odict_iterator", "itertools.zip_longest", "itertools.pairwise"].contains n && vs[0]? == some (rawInt _)) = true then _ else _) Q E s
           rw [if_neg (by intro h; rw [hn, Bool.false_and] at h; cases h)]
           exact wpAny_pure hQ))
def Ft (K : PySem.W.Frag) (a : Addr) : It :=
  ⟨fun i H => ∃ xs x, bE K H a xs ∧ xs[i]? = some x, fun i H x H' => H' = H ∧ ∀ xs, bE K H a xs → xs[i]? = some x, fun i H => ∃ xs, bE K H a xs ∧ xs.length ≤ i⟩
def Fu (K : PySem.W.Frag) (a : Addr) : It :=
  ⟨fun i H => ∃ xs x, cO K H a xs ∧ xs[i]? = some x, fun i H x H' => H' = H ∧ ∀ xs, cO K H a xs → xs[i]? = some x, fun i H => ∃ xs, cO K H a xs ∧ xs.length ≤ i⟩
def xM (lo : Int) (n : Nat) : It := ⟨fun i _ => i < n, fun i H x H' => H' = H ∧ x = .int (lo + i), fun i _ => n ≤ i⟩
theorem xN {P : Program} {w : World} {K : PySem.W.Frag} {tg : Expr} (a it : Addr) : Turn P w K tg (Ft K a) [it] it (fun i h => h.IsListIter it a i) where
  mem := by simp
  obj := fun i h st b hb => by
    have e : b = it := by simpa using hb
    subst e
    obtain ⟨o, e, c, d⟩ := st
    exact ⟨o, e, fun v z => by rw [d] at z; cases z⟩
  keep := fun i h h' st k => st.at fun o e => k it (by simp) o e
  item := by
    intro X hP hw hK hc i pins s σ H E I hf st hg
    subst hP hw hK
    obtain ⟨xs, x, hq, hx⟩ := hg
    obtain ⟨its, rv, p, hz⟩ := I.list hq
    obtain ⟨u, hu, ru⟩ := rv.get hx
    obtain ⟨f0, f1, f2, f3, f4, f5⟩ := hf it (by simp)
    refine wpAny_pyNext_list_item st p.isList (x := u) (by simpa using hu) fun h' pZ sb => ?_
    have I1 : Inv X pins σ H { s with heap := h' } := I.turned (t' := s.toks) (fun b o hb e => (sb.2 b hb).trans e) f0 f1 f3 f4 f5
    obtain ⟨o, e, c, d⟩ := id pZ
    exact ⟨u, rfl, vR (s := { s with heap := h' }) e c d (by decide) ⟨x, H, I1, ru, ⟨rfl, fun ys hy => by rw [I.sh hy hq]; exact hx⟩, pZ, fun b hb => (hf b hb).1⟩⟩
  done := by
    intro X hP hw hK hc i pins s σ H E I hf st hg
    subst hP hw hK
    obtain ⟨xs, hq, hx⟩ := hg
    obtain ⟨its, rv, p, hz⟩ := I.list hq
    obtain ⟨f0, f1, f2, f3, f4, f5⟩ := hf it (by simp)
    have hl := rv.length
    exact wpAny_pyNext_list_end (I.ok.hd hc) st p.isList (by simp; omega) fun h' eb => ⟨rfl, I.turned (t' := s.toks) (fun b o hb e => eb b o hb e) f0 f1 f3 f4 f5⟩
  self := fun _ _ _ _ _ st h => wpAny_pyIter_listiter st h
theorem vS {P : Program} {w : World} {K : PySem.W.Frag} {tg : Expr} (a it : Addr) : Turn P w K tg (Fu K a) [it] it (fun i h => h.IsTupleIter it a i) where
  mem := by simp
  obj := fun i h st b hb => by
    have e : b = it := by simpa using hb
    subst e
    obtain ⟨o, e, c, d⟩ := st
    exact ⟨o, e, fun v z => by rw [d] at z; cases z⟩
  keep := fun i h h' st k => st.at fun o e => k it (by simp) o e
  item := by
    intro X hP hw hK hc i pins s σ H E I hf st hg
    subst hP hw hK
    obtain ⟨xs, x, hq, hx⟩ := hg
    obtain ⟨its, rv, p, hz⟩ := I.tuple hq
    obtain ⟨u, hu, ru⟩ := rv.get hx
    obtain ⟨f0, f1, f2, f3, f4, f5⟩ := hf it (by simp)
    refine wpAny_pyNext_tuple_item st (show s.heap.IsTuple a its.toArray from p) (x := u) (by simpa using hu) fun h' pZ sb => ?_
    have I1 : Inv X pins σ H { s with heap := h' } := I.turned (t' := s.toks) (fun b o hb e => (sb.2 b hb).trans e) f0 f1 f3 f4 f5
    obtain ⟨o, e, c, d⟩ := id pZ
    exact ⟨u, rfl, vR (s := { s with heap := h' }) e c d (by decide) ⟨x, H, I1, ru, ⟨rfl, fun ys hy => by rw [I.pX hy hq]; exact hx⟩, pZ, fun b hb => (hf b hb).1⟩⟩
  done := by
    intro X hP hw hK hc i pins s σ H E I hf st hg
    subst hP hw hK
    obtain ⟨xs, hq, hx⟩ := hg
    obtain ⟨its, rv, p, hz⟩ := I.tuple hq
    obtain ⟨f0, f1, f2, f3, f4, f5⟩ := hf it (by simp)
    have hl := rv.length
    exact wpAny_pyNext_tuple_end (I.ok.hd hc) st (show s.heap.IsTuple a its.toArray from p) (by simp; omega) fun h' eb => ⟨rfl, I.turned (t' := s.toks) (fun b o hb e => eb b o hb e) f0 f1 f3 f4 f5⟩
  self := fun _ _ _ _ _ st h => wpAny_pyIter_tupleiter st h
theorem vT {P : Program} {w : World} {K : PySem.W.Frag} {tg : Expr} (it : Addr) (lo : Int) (n : Nat) : Turn P w K tg (xM lo n) [it] it (fun i h => IsRangeIter h it (lo + (i : Nat) * 1) ((n : Int) - (i : Nat)) 1) where
  mem := by simp
  obj := fun i h st b hb => by
    have e : b = it := by simpa using hb
    subst e
    exact ⟨_, st, fun v z => by
      have z' : Data.fields _ = Data.cell v := z
      cases z'⟩
  keep := fun i h h' st k => k it (by simp) _ st
  item := by
    intro X hP hw hK hc i pins s σ H E I hf st hg
    subst hP hw hK
    obtain ⟨f0, f1, f2, f3, f4, f5⟩ := hf it (by simp)
    have W := Walks.range (prog := X.prog) (w := X.w) (I.ok.hd hc) it lo 1 n
    refine W.item i s _ _ hg st fun v h' tk hv pZ kk => ?_
    obtain ⟨t, rfl⟩ := hv
    have I1 : Inv X pins σ H { s with heap := h', toks := tk } := I.turned (fun b o hb e => kk b o (by simpa using hb) e) f0 f1 f3 f4 f5
    refine ⟨_, rfl, vR (s := { s with heap := h', toks := tk }) (n := "range_iterator") pZ rfl rfl (by decide) ⟨.int (lo + i), H, I1, ⟨t, ?_⟩, ⟨rfl, rfl⟩, pZ, fun b hb => (hf b hb).1⟩⟩
    rw [Int.mul_one]
  done := by
    intro X hP hw hK hc i pins s σ H E I hf st hg
    subst hP hw hK
    obtain ⟨f0, f1, f2, f3, f4, f5⟩ := hf it (by simp)
    exact wpAny_pyNext_range_end (I.ok.hd hc) st (by have : n ≤ i := hg; omega) fun h' eb => ⟨rfl, I.turned (t' := s.toks) (fun b o hb e => eb b o hb e) f0 f1 f3 f4 f5⟩
  self := fun _ _ _ _ _ st h => wpAny_pyIter_rangeiter st h
section
variable {X : Cx} {tg : Expr}
def Cw (K : PySem.W.Frag) (tl : TE) : TI := fun σ H R => tl σ H fun x H1 => ∃ a, x = .ref a ∧ (∃ xs, bE K H1 a xs) ∧ R (Ft K a) H1
def Fv (K : PySem.W.Frag) (tl : TE) : TI := fun σ H R => tl σ H fun x H1 => ∃ a, x = .ref a ∧ (∃ xs, cO K H1 a xs) ∧ R (Fu K a) H1
theorem DQ {l : Expr} {tl : TE} (hl : PE X l tl) : PI X tg l (Cw X.K tl) := by
  intro pins s σ H R I h
  refine thn (hl pins s σ H _ I h) fun v s1 ⟨x, H1, I1, r1, q1⟩ => ?_
  obtain ⟨a, e, ⟨xs, hq⟩, q⟩ := q1
  subst e
  cases r1
  obtain ⟨its, rv, p, hz⟩ := I1.list hq
  refine wpAny_pyIter_list p.isList ?_
  refine ⟨s1.heap.objs.size, [s1.heap.objs.size], _, _, H1, rfl, I1.kept (t' := s1.toks) fun b o e => Heap.get?_push_of_some _ e, xN a _, ⟨_, Heap.get?_push_size _ rfl, rfl, rfl⟩, fun b hb => ?_, q⟩
  have e : b = s1.heap.objs.size := by simpa using hb
  subst e
  exact I1.ju (Nat.le_refl _) (I1.hok.fresh (Nat.le_refl _))
theorem Fw {l : Expr} {tl : TE} (hl : PE X l tl) : PI X tg l (Fv X.K tl) := by
  intro pins s σ H R I h
  refine thn (hl pins s σ H _ I h) fun v s1 ⟨x, H1, I1, r1, q1⟩ => ?_
  obtain ⟨a, e, ⟨xs, hq⟩, q⟩ := q1
  subst e
  cases r1
  obtain ⟨its, rv, p, hz⟩ := I1.tuple hq
  refine wpAny_pyIter_tuple (show s1.heap.IsTuple a its.toArray from p) ?_
  refine ⟨s1.heap.objs.size, [s1.heap.objs.size], _, _, H1, rfl, I1.kept (t' := s1.toks) fun b o e => Heap.get?_push_of_some _ e, vS a _, ⟨_, Heap.get?_push_size _ rfl, rfl, rfl⟩, fun b hb => ?_, q⟩
  have e : b = s1.heap.objs.size := by simpa using hb
  subst e
  exact I1.ju (Nat.le_refl _) (I1.hok.fresh (Nat.le_refl _))
theorem sj {pins : List (Addr × Obj)} {σ : St} {H : Hp} {s : Shared} {R : It → Hp → Prop} {E : Value → Shared → Prop} {lo hi : Int} {t u v : Tok} {tk : Nat} (I : Inv X pins σ H s) (h1 : -(2 ^ 62) ≤ lo) (h2 : lo < 2 ^ 62) (h3 : -(2 ^ 62) ≤ hi) (h4 : hi < 2 ^ 62)
    (q : R (xM lo (hi - lo).toNat) H) : wpAny (model X.prog X.w) X.A (pyIter (.ref s.heap.objs.size)) (JU X pins σ tg R) E { s with heap := s.heap.push { cls := .type "range", data := .fields #[.int lo t, .int hi u, .int 1 v] }, toks := tk } := by
  refine wpAny_pyIter_range (IsRange.new ..) (small_one h1 h2 h3 h4) ?_
  have I1 : Inv X pins σ H { s with heap := s.heap.push { cls := .type "range", data := .fields #[.int lo t, .int hi u, .int 1 v] }, toks := tk } := I.kept fun b o e => Heap.get?_push_of_some _ e
  refine ⟨(s.heap.push { cls := .type "range", data := .fields #[.int lo t, .int hi u, .int 1 v] }).objs.size, [(s.heap.push { cls := .type "range", data := .fields #[.int lo t, .int hi u, .int 1 v] }).objs.size], _, _, H, rfl,
    I1.kept (t' := tk) fun b o e => Heap.get?_push_of_some _ e, vT _ lo (hi - lo).toNat, ?_, fun b hb => ?_, q⟩
  · have e1 : lo + ((0 : Nat) : Int) * 1 = lo := by simp
    have e2 : (((hi - lo).toNat : Nat) : Int) - ((0 : Nat) : Int) = Builtin.Range.rangeSize lo hi 1 := by rw [rangeSize_one]; split <;> omega
    show IsRangeIter _ _ (lo + ((0 : Nat) : Int) * 1) ((((hi - lo).toNat : Nat) : Int) - ((0 : Nat) : Int)) 1
    rw [e1, e2]
    exact Heap.get?_push_size _ rfl
  · have e : b = (s.heap.push { cls := .type "range", data := .fields #[.int lo t, .int hi u, .int 1 v] }).objs.size := by simpa using hb
    subst e
    exact I1.ju (Nat.le_refl _) (I1.hok.fresh (Nat.le_refl _))
def Cy (ta : TA) : TI := fun σ H R => ta σ H fun vs H1 => ∃ j : Int, vs = [.int j] ∧ -(2 ^ 62) ≤ j ∧ j < 2 ^ 62 ∧ R (xM 0 j.toNat) H1
def Cz (ta : TA) : TI := fun σ H R => ta σ H fun vs H1 => ∃ i j : Int, vs = [.int i, .int j] ∧ (-(2 ^ 62) ≤ i ∧ i < 2 ^ 62 ∧ -(2 ^ 62) ≤ j ∧ j < 2 ^ 62) ∧ R (xM i (j - i).toNat) H1
theorem xO {a : Expr} {ta : TA} {p pos : Pos} (hg : Gl X "range") (hm : X.mg "range" = none) (ha : PA X [a] ta) (hs : starEach [a] X.env = [(false, eval a X.env)] := by rfl) : PI X tg (.Call (.Name "range" p) [a] [] pos) (Cy ta) := by
  intro pins s σ H R I h
  refine Call_ (dY I hg hm boot_range (PyProof.Rows.callWith_type1 (thn (ha pos pins s σ H _ I h) fun us s1 ⟨vs, H1, I1, r1, q1⟩ => ?_) hs rfl))
  obtain ⟨j, e, q1, q2, q⟩ := q1
  subst e
  cases r1 with
  | cons r rr =>
    cases rr
    obtain ⟨t, rfl⟩ := r
    exact call_range_1 (sj I1 (by omega) (by omega) q1 q2 (by simpa using q))
theorem xP {a b : Expr} {ta : TA} {p pos : Pos} (hg : Gl X "range") (hm : X.mg "range" = none) (ha : PA X [a, b] ta) (hs : starEach [a, b] X.env = [(false, eval a X.env), (false, eval b X.env)] := by rfl) (km : starEach [b] X.env = [(false, eval b X.env)] := by rfl) :
    PI X tg (.Call (.Name "range" p) [a, b] [] pos) (Cz ta) := by
  intro pins s σ H R I h
  refine Call_ (dY I hg hm boot_range (PyProof.Rows.callWith_type1 (thn (ha pos pins s σ H _ I h) fun us s1 ⟨vs, H1, I1, r1, q1⟩ => ?_) (by rw [hs, km]) (by rw [km]; rfl)))
  obtain ⟨i, j, e, ⟨q1, q2, q3, q4⟩, q⟩ := q1
  subst e
  cases r1 with
  | cons r rr =>
    cases rr with
    | cons r' rr =>
      cases rr
      obtain ⟨t, rfl⟩ := r
      obtain ⟨t', rfl⟩ := r'
      exact call_range_2 (sj I1 q1 q2 q3 q4 q)
def Fx (wi : TI) (g : TG) (tb : TS) : TS := fun D σ H => wi σ H fun J H1 => ∃ W : Nat → Nat → St → Hp → Prop, (∃ m, W 0 m σ H1) ∧ ∀ i m σ H, W i m σ H →
  (J.stop i H ∧ D.nx σ H) ∨ (J.go i H ∧ ∃ N : St → Hp → Prop, (∀ aH H', N aH H' → ∃ m', m' < m ∧ W (i + 1) m' aH H') ∧ ∀ x H', J.yld i H x H' → g x σ H' fun nN H2 => tb { D with nx := N, ct := N, bk := D.nx } nN H2)
def gX (fp : List Addr) (h : Heap) : List (Addr × Obj) := fp.filterMap fun b => (h.get? b).map fun o => (b, o)
theorem cy {fp : List Addr} {h : Heap} {b : Addr} {o : Obj} (hb : b ∈ fp) (e : h.get? b = some o) : (b, o) ∈ gX fp h := List.mem_filterMap.mpr ⟨b, hb, by rw [e]; rfl⟩
theorem xQ {fp : List Addr} {h : Heap} {p : Addr × Obj} (hp : p ∈ gX fp h) : p.1 ∈ fp ∧ h.get? p.1 = some p.2 := by
  obtain ⟨b, hb, e⟩ := List.mem_filterMap.mp hp
  cases q : h.get? b with
  | none => rw [q] at e; cases e
  | some o =>
    rw [q] at e
    have e' : (b, o) = p := Option.some.inj e
    subst e'
    exact ⟨hb, q⟩
theorem Inv.pinned {pins : List (Addr × Obj)} {σ : St} {H : Hp} {s : Shared} {fp : List Addr} (I : Inv X pins σ H s) (hf : ∀ b ∈ fp, c7 X pins H b) (ho : ∀ b ∈ fp, ∃ o, s.heap.get? b = some o ∧ ∀ v, o.data ≠ .cell v) : Inv X (pins ++ gX fp s.heap) σ H s :=
  I.oY fun p hp => (List.mem_append.mp hp).elim (fun z => I.pin p (List.mem_append_right _ z)) fun z => by
    obtain ⟨hb, e⟩ := xQ z
    obtain ⟨f0, f1, f2, _⟩ := hf p.1 hb
    obtain ⟨o, e', d⟩ := ho p.1 hb
    rw [e] at e'; cases e'
    exact ⟨e, f0, f1, f2, d⟩
theorem Inv.dU {pins pl : List (Addr × Obj)} {σ : St} {H : Hp} {s : Shared} (I : Inv X (pins ++ pl) σ H s) : Inv X pins σ H s := I.oY fun p hp => I.pin p (List.mem_append_right _ (List.mem_append_left _ hp))
theorem Fy {iter : Expr} {body : List Stmt} {wi : TI} {g : TG} {tb : TS} {pos : Pos} (hp : PassesOwn (model X.prog X.w) X.A X.env X.xe) (hc : X.calm = true) (hi : PI X tg iter wi) (hg : PG X tg g) (hb : fK X body tb)
    (hs : ∀ x, foldedSetIterable iter X.env x = pure x := by intro _; rfl) : PS X (.For tg iter body [] pos) (Fx wi g tb) := by
  refine ⟨?_⟩
  intro pins s σ H D I h
  refine wpAny_For (thn (hi pins s σ H _ I h) fun v s1 h1 => thn h1 fun si s2 h2 => ?_) hs
  obtain ⟨it, fp, tn, J, H2, e, I2, T, kC, f2, W, ⟨m0, w0⟩, turn⟩ := h2
  subst e
  have stat : ∀ {H' : Hp}, (∀ b ∈ fp, H' b = none) → ∀ b ∈ fp, c7 X pins H' b := fun hn b hb => ⟨hn b hb, (f2 b hb).2⟩
  refine codeAny_forLoop_any (fun n s' => ∃ i aH H', Inv X pins aH H' s' ∧ tn i s'.heap ∧ (∀ b ∈ fp, H' b = none) ∧ W i n aH H') ?_ m0 ⟨0, σ, H2, I2, kC, fun b hb => (f2 b hb).1, w0⟩
  rintro n s3 ⟨i, kj, H3, I3, je, kD, w3⟩
  rcases turn i n kj H3 w3 with ⟨stop, qn⟩ | ⟨go, N, hN, step⟩
  · refine wpAny_passesOwn hp (thn (T.done X rfl rfl rfl hc i pins s3 kj H3 X.xe I3 (stat kD) je stop) fun r s4 ⟨hr, I4⟩ => ?_)
    subst hr
    exact wpAny_execs_nil ⟨kj, H3, I4, qn⟩
  · refine wpAny_passesOwn hp (thn (T.item X rfl rfl rfl hc i pins s3 kj H3 X.xe I3 (stat kD) je go) fun r s4 ⟨u, hr, h4⟩ => ?_)
    subst hr
    refine wpAny_passesOwn hp (thn h4 fun _ s5 ⟨x, H5, I5, r5, y5, fV, nO⟩ => ?_)
    have nQ := I5.pinned (stat nO) (T.obj _ _ fV)
    refine wpAny_passesOwn hp (thn (hg _ s5 kj H5 x u _ nQ r5 (step x H5 y5)) fun _ s6 ⟨Mv, H6, I6, q6⟩ => ?_)
    refine wpAny_passesOwn hp (thn (hb _ s6 Mv H6 _ I6 q6) fun f s7 q7 => ?_)
    have again : ∀ {kE : St} {H7 : Hp}, Inv X (pins ++ gX fp s5.heap) kE H7 s7 → N kE H7 → ∃ m, m < n ∧ ∃ i aH H', Inv X pins aH H' s7 ∧ tn i s7.heap ∧ (∀ b ∈ fp, H' b = none) ∧ W i m aH H' := fun {kE H7} I7 n7 => by
      obtain ⟨m', hm, w7⟩ := hN kE H7 n7
      refine ⟨m', hm, i + 1, kE, H7, I7.dU, T.keep _ _ _ fV fun b hb o e => (I7.pin (b, o) (List.mem_append_right _ (List.mem_append_right _ (cy hb e)))).1, fun b hb => ?_, w7⟩
      obtain ⟨o, e, d⟩ := T.obj _ _ fV b hb
      exact (I7.pin (b, o) (List.mem_append_right _ (List.mem_append_right _ (cy hb e)))).2.1
    cases f with
    | next => obtain ⟨kE, H7, I7, n7⟩ := q7; exact again I7 n7
    | cont => obtain ⟨kE, H7, I7, n7⟩ := q7; exact again I7 n7
    | brk => obtain ⟨kE, H7, I7, q7⟩ := q7; exact ⟨kE, H7, I7.dU, q7⟩
    | ret v => obtain ⟨x7, kE, H7, I7, r7, q7⟩ := q7; exact ⟨x7, kE, H7, I7.dU, r7, q7⟩
end
abbrev R2 := V → V → Hp → VK → Prop
def OpR (X : Cx) (f : Value → Value → Sem Value) (r : R2) : Prop :=
  ∀ (pins : List (Addr × Obj)) (s : Shared) (σ : St) (H : Hp) (x y : V) (v u : Value) (Q : VK), Inv X pins σ H s → RelV x v → RelV y u → r x y H Q →
    wpAny (model X.prog X.w) X.A (f v u) (EP X pins σ Q) X.xe s
def cR (X : Cx) (f : Value) (r : List V → Hp → VK → Prop) : Prop :=
  ∀ (pins : List (Addr × Obj)) (s : Shared) (σ : St) (H : Hp) (xs : List V) (us : List Value) (Q : VK), Inv X pins σ H s → Vals xs us → r xs H Q →
    wpAny (model X.prog X.w) X.A (call f us) (EP X pins σ Q) X.xe s
def Le (X : Cx) (r : V → Hp → (Bool → Hp → Prop) → Prop) : Prop :=
  ∀ (pins : List (Addr × Obj)) (s : Shared) (σ : St) (H : Hp) (x : V) (v : Value) (Q : Bool → Hp → Prop), Inv X pins σ H s → RelV x v → r x H Q →
    wpAny (model X.prog X.w) X.A (truthy v) (TP X pins σ Q) X.xe s
def xR (r : R2) (ta tb : TE) : TE := fun σ H Q => ta σ H fun x H1 => tb σ H1 fun y H2 => r x y H2 Q
def rI (C : Int → Int → Prop) (g : Int → Int → V) : R2 := fun x y H Q => ∃ i j, x = .int i ∧ y = .int j ∧ C i j ∧ Q (g i j) H
def p0 (g : Int → Int → V) : R2 := fun x y H Q => ∃ i j, x = .int i ∧ y = .int j ∧ Q (g i j) H
section
variable {X : Cx} {a b c : Expr} {ta tb tc : TE} {pos : Pos}
theorem AQ (ha : PE X a ta) (hb : PE X b tb) {pins : List (Addr × Obj)} {s : Shared} {σ : St} {H : Hp} {R : V → V → Hp → Prop} (I : Inv X pins σ H s)
    (h : ta σ H fun x H1 => tb σ H1 fun y H2 => R x y H2) {Q : Value → Shared → Prop} {f : Value → Value → Sem Value}
    (hf : ∀ v u s2 x y H2, Inv X pins σ H2 s2 → RelV x v → RelV y u → R x y H2 → wpAny (model X.prog X.w) X.A (f v u) Q X.xe s2) :
    wpAny (model X.prog X.w) X.A (eval a X.env) (fun v az => wpAny (model X.prog X.w) X.A (eval b X.env) (fun u gI => wpAny (model X.prog X.w) X.A (f v u) Q X.xe gI) X.xe az) X.xe s := by
  refine thn (ha pins s σ H _ I h) fun v s1 ⟨x, H1, I1, r1, q1⟩ => ?_
  refine thn (hb pins s1 σ H1 _ I1 q1) fun u s2 ⟨y, H2, I2, r2, q2⟩ => ?_
  exact hf v u s2 x y H2 I2 r1 r2 q2
theorem IL {op : Operator} {r : R2} (ho : OpR X (binaryOp op) r) (ha : PE X a ta) (hb : PE X b tb) : PE X (.BinOp a op b pos) (xR r ta tb) := by
  refine ⟨?_⟩
  intro pins s σ H Q I h
  exact wpAny_BinOp (AQ ha hb I h fun v u s2 x y H2 I2 rx ry q => ho pins s2 σ H2 x y v u Q I2 rx ry q)
theorem CA {f : Value → Value → Sem Value} {C : Int → Int → Prop} {g : Int → Int → Int}
    (rule : ∀ (i j : Int) (t u : Tok) (s : Shared) (Q : Value → Shared → Prop) (E : Value → Shared → Prop), C i j → Q (.int (g i j) s.toks) { s with toks := s.toks + 1 } → wpAny (model X.prog X.w) X.A (f (.int i t) (.int j u)) Q E s) :
    OpR X f (rI C fun i j => .int (g i j)) := by
  intro pins s σ H x y v u Q I rx ry h
  obtain ⟨i, j, rfl, rfl, hc, q⟩ := h
  obtain ⟨t, rfl⟩ := rx
  obtain ⟨t', rfl⟩ := ry
  exact rule i j t t' s _ _ hc ⟨.int (g i j), H, I.tok _, ⟨_, rfl⟩, q⟩
theorem FA {f : Value → Value → Sem Value} {g : Int → Int → Int}
    (rule : ∀ (i j : Int) (t u : Tok) (s : Shared) (Q : Value → Shared → Prop) (E : Value → Shared → Prop), Q (.int (g i j) s.toks) { s with toks := s.toks + 1 } → wpAny (model X.prog X.w) X.A (f (.int i t) (.int j u)) Q E s) :
    OpR X f (p0 fun i j => .int (g i j)) := by
  intro pins s σ H x y v u Q I rx ry h
  obtain ⟨i, j, rfl, rfl, q⟩ := h
  obtain ⟨t, rfl⟩ := rx
  obtain ⟨t', rfl⟩ := ry
  exact rule i j t t' s _ _ ⟨.int (g i j), H, I.tok _, ⟨_, rfl⟩, q⟩
theorem AR {f : Value → Value → Sem Value} {g : Int → Int → Bool}
    (rule : ∀ (i j : Int) (t u : Tok) (s : Shared) (Q : Value → Shared → Prop) (E : Value → Shared → Prop), Q (.bool (g i j)) s → wpAny (model X.prog X.w) X.A (f (.int i t) (.int j u)) Q E s) :
    OpR X f (p0 fun i j => .bl (g i j)) := by
  intro pins s σ H x y v u Q I rx ry h
  obtain ⟨i, j, rfl, rfl, q⟩ := h
  obtain ⟨t, rfl⟩ := rx
  obtain ⟨t', rfl⟩ := ry
  exact rule i j t t' s _ _ ⟨.bl (g i j), H, I, rfl, q⟩
def FC (i j : Int) : Prop := 0 < j ∧ j < 1073741824
def FD (i j : Int) : Prop := 0 ≤ j ∧ j ≤ 1000000 ∧ i.natAbs < 2 ^ 64
def vU (i j : Int) : Prop := (-(2 ^ 64) < i ∧ i < 2 ^ 64) ∨ (-(2 ^ 64) < j ∧ j < 2 ^ 64)
theorem vU.ok {i j : Int} (h : vU i j) : IntMulOk i j := by
  rcases h with ⟨h1, h2⟩ | ⟨h1, h2⟩
  · exact .of_left (intBits_le_64 h1 h2)
  · exact .of_right (intBits_le_64 h1 h2)
theorem FE : OpR X (binaryOp .Add) (p0 fun i j => .int (i + j)) := FA fun _ _ _ _ _ _ _ q => add_int q
theorem FG : OpR X (binaryOp .Sub) (p0 fun i j => .int (i - j)) := FA fun _ _ _ _ _ _ _ q => sub_int q
theorem FH : OpR X (binaryOp .Mult) (rI vU fun i j => .int (i * j)) := CA fun _ _ _ _ _ _ _ hc q => mul_int q hc.ok
theorem DR : OpR X (binaryOp .FloorDiv) (rI FC fun i j => .int (i / j)) := CA fun i j _ _ _ _ _ hc q => by
  have h1 : (0 : Int) < j := hc.1
  have h2 : j < 1073741824 := hc.2
  exact floordiv_int (by omega) (by rw [Int.fdiv_eq_ediv_of_nonneg i (by omega)]; exact q) (.inl (PyProof.noPylong_small (by omega)))
theorem FI : OpR X (binaryOp .Mod) (rI (fun _ j => 0 < j) fun i j => .int (i % j)) := CA fun i j _ _ _ _ _ hc q => by
  have h1 : (0 : Int) < j := hc
  exact mod_int' (by omega) (by rw [Int.fmod_eq_emod_of_nonneg i (by omega)]; exact q)
theorem FJ : OpR X (binaryOp .Pow) (rI FD fun i j => .int (i ^ j.toNat)) := CA fun _ _ _ _ _ _ _ hc q => pow_int_small hc.1 hc.2.1 hc.2.2 q
end
def AU : V → V → Bool
  | .aq, .aq => true | .aq, .int _ => true | .int _, .aq => true | .aq, .bl _ => true | .bl _, .aq => true | .aq, .str _ => true | .str _, .aq => true
  | .int _, .int _ => true | .bl _, .bl _ => true | .str _, .str _ => true | .iI _, .iI _ => true
  | .int _, .str _ => true | .str _, .int _ => true | .bl _, .str _ => true | .str _, .bl _ => true
  | _, _ => false
def Mw : R2 := fun x y H Q => AU x y = true ∧ Q (.bl (decide (x = y))) H
def Mx : R2 := fun x y H Q => AU x y = true ∧ Q (.bl (!decide (x = y))) H
theorem u5 {i j : Int} : decide (V.int i = V.int j) = (i == j) := by
  rw [Bool.eq_iff_iff]
  simp
theorem xS {i j : Bool} : decide (V.bl i = V.bl j) = (i == j) := by
  rw [Bool.eq_iff_iff]
  simp
theorem u6 {i j : Str} : decide (V.str i = V.str j) = (i == j) := by
  rw [Bool.eq_iff_iff]
  simp
theorem u9 {i j : Array UInt8} : decide (V.iI i = V.iI j) = (i.toList == j.toList) := by
  rw [Bool.eq_iff_iff]
  cases i
  cases j
  simp
section
variable {X : Cx} {a b c : Expr} {ta tb tc : TE} {pos : Pos}
theorem aS {pins : List (Addr × Obj)} {σ : St} {H : Hp} {s : Shared} {Q : VK} {k k' : Bool} (I : Inv X pins σ H s) (q : Q (.bl k) H) (e : k = k') : EP X pins σ Q (.bool k') s := by
  subst e
  exact ⟨.bl k, H, I, rfl, q⟩
theorem IM : OpR X (compareOp .Eq) Mw := by
  intro pins s σ H x y v u Q I rx ry h
  obtain ⟨hs, q⟩ := h
  cases x with
  | aq =>
    cases rx
    cases y with
    | aq => cases ry; exact PySem.EqNone.eq_none_none (aS I q (by simp))
    | bl j => cases ry; exact PySem.EqNone.eq_none_bool (aS I q (by simp))
    | int j => obtain ⟨t', rfl⟩ := ry; exact PySem.EqNone.eq_none_int (aS I q (by simp))
    | str j => obtain ⟨t', rfl⟩ := ry; exact PySem.EqNone.eq_none_str (aS I q (by simp))
    | _ => exact absurd (show false = true from hs) Bool.false_ne_true
  | bl i =>
    cases rx
    cases y with
    | aq => cases ry; exact PySem.EqNone.eq_bool_none (aS I q (by simp))
    | bl j => cases ry; exact eq_bool (aS I q xS)
    | str j => obtain ⟨t', rfl⟩ := ry; exact PySem.EqMixed.eq_bool_str (aS I q (by simp))
    | _ => exact absurd (show false = true from hs) Bool.false_ne_true
  | int i =>
    obtain ⟨t, rfl⟩ := rx
    cases y with
    | aq => cases ry; exact PySem.EqNone.eq_int_none (aS I q (by simp))
    | int j => obtain ⟨t', rfl⟩ := ry; exact eq_int (aS I q u5)
    | str j => obtain ⟨t', rfl⟩ := ry; exact PySem.EqMixed.eq_int_str (aS I q (by simp))
    | _ => exact absurd (show false = true from hs) Bool.false_ne_true
  | str i =>
    obtain ⟨t, rfl⟩ := rx
    cases y with
    | aq => cases ry; exact PySem.EqNone.eq_str_none (aS I q (by simp))
    | bl j => cases ry; exact PySem.EqMixed.eq_str_bool (aS I q (by simp))
    | int j => obtain ⟨t', rfl⟩ := ry; exact PySem.EqMixed.eq_str_int (aS I q (by simp))
    | str j => obtain ⟨t', rfl⟩ := ry; exact eq_str (aS I q u6)
    | _ => exact absurd (show false = true from hs) Bool.false_ne_true
  | iI i =>
    obtain ⟨t, rfl⟩ := rx
    cases y with
    | iI j => obtain ⟨t', rfl⟩ := ry; exact PySem.W.eq_bytes (aS I q u9)
    | _ => exact absurd (show false = true from hs) Bool.false_ne_true
  | _ => cases y <;> exact absurd (show false = true from hs) Bool.false_ne_true
theorem IP : OpR X (compareOp .NotEq) Mx := by
  intro pins s σ H x y v u Q I rx ry h
  obtain ⟨hs, q⟩ := h
  cases x with
  | aq =>
    cases rx
    cases y with
    | aq => cases ry; exact PySem.EqNone.ne_none_none (aS I q (by simp))
    | bl j => cases ry; exact PySem.EqNone.ne_none_bool (aS I q (by simp))
    | int j => obtain ⟨t', rfl⟩ := ry; exact PySem.EqNone.ne_none_int (aS I q (by simp))
    | str j => obtain ⟨t', rfl⟩ := ry; exact PySem.EqNone.ne_none_str (aS I q (by simp))
    | _ => exact absurd (show false = true from hs) Bool.false_ne_true
  | bl i =>
    cases rx
    cases y with
    | aq => cases ry; exact PySem.EqNone.ne_bool_none (aS I q (by simp))
    | bl j => cases ry; exact ne_bool (aS I q (congrArg not xS))
    | str j => obtain ⟨t', rfl⟩ := ry; exact PySem.EqMixed.ne_bool_str (aS I q (by simp))
    | _ => exact absurd (show false = true from hs) Bool.false_ne_true
  | int i =>
    obtain ⟨t, rfl⟩ := rx
    cases y with
    | aq => cases ry; exact PySem.EqNone.ne_int_none (aS I q (by simp))
    | int j => obtain ⟨t', rfl⟩ := ry; exact ne_int (aS I q (congrArg not u5))
    | str j => obtain ⟨t', rfl⟩ := ry; exact PySem.EqMixed.ne_int_str (aS I q (by simp))
    | _ => exact absurd (show false = true from hs) Bool.false_ne_true
  | str i =>
    obtain ⟨t, rfl⟩ := rx
    cases y with
    | aq => cases ry; exact PySem.EqNone.ne_str_none (aS I q (by simp))
    | bl j => cases ry; exact PySem.EqMixed.ne_str_bool (aS I q (by simp))
    | int j => obtain ⟨t', rfl⟩ := ry; exact PySem.EqMixed.ne_str_int (aS I q (by simp))
    | str j => obtain ⟨t', rfl⟩ := ry; exact ne_str (aS I q (congrArg not u6))
    | _ => exact absurd (show false = true from hs) Bool.false_ne_true
  | iI i =>
    obtain ⟨t, rfl⟩ := rx
    cases y with
    | iI j => obtain ⟨t', rfl⟩ := ry; exact PySem.W.ne_bytes (aS I q (congrArg not u9))
    | _ => exact absurd (show false = true from hs) Bool.false_ne_true
  | _ => cases y <;> exact absurd (show false = true from hs) Bool.false_ne_true
theorem IQ : OpR X (compareOp .Lt) (p0 fun i j => .bl (decide (i < j))) := AR fun _ _ _ _ _ _ _ q => lt_int q
theorem IU : OpR X (compareOp .LtE) (p0 fun i j => .bl (decide (i ≤ j))) := AR fun _ _ _ _ _ _ _ q => le_int q
theorem IV : OpR X (compareOp .Gt) (p0 fun i j => .bl (decide (j < i))) := AR fun _ _ _ _ _ _ _ q => gt_int q
theorem FK : OpR X (compareOp .Is) (fun x y H Q => y = .aq ∧ Q (.bl (decide (x = .aq))) H) := by
  intro pins s σ H x y v u Q I rx ry h
  obtain ⟨rfl, q⟩ := h
  cases ry
  refine is_none_gen (aS I q ?_)
  cases x <;> first
    | (cases rx; rfl)
    | (obtain ⟨t, rfl⟩ := rx; rfl)
theorem aZ (b : Expr) {op : CmpOp} (h : op ≠ .In := by decide) (h2 : op ≠ .NotIn := by decide) : behindInMarks op b = false := by
  have e1 : (op == CmpOp.In) = false := by cases op <;> first | rfl | exact absurd rfl h
  have e2 : (op == CmpOp.NotIn) = false := by cases op <;> first | rfl | exact absurd rfl h2
  cases b <;> simp [behindInMarks, e1, e2]
theorem DS {op : CmpOp} {r : R2} (ho : OpR X (compareOp op) r) (ha : PE X a ta) (hb : PE X b tb) (hm : behindInMarks op b = false) : PE X (.Compare a [op] [b] pos) (xR r ta tb) := by
  refine ⟨?_⟩
  intro pins s σ H Q I h
  exact wpAny_Compare1 (AQ ha hb I h fun v u s2 x y H2 I2 rx ry q => ho pins s2 σ H2 x y v u Q I2 rx ry q) hm
def vV (t : TE) : TT := fun σ H Q => t σ H fun x H' => ∃ k, x = .bl k ∧ Q k H'
theorem DT {op : CmpOp} {r : R2} (ho : OpR X (compareOp op) r) (ha : PE X a ta) (hb : PE X b tb) (hm : behindInMarks op b = false) : PT X (.Compare a [op] [b] pos) (vV (xR r ta tb)) := by
  refine ⟨?_⟩
  intro pins s σ H Q I h
  refine wpAny_isTrue_Compare1 (thn (ha pins s σ H _ I h) fun v s1 ⟨x, H1, I1, r1, q1⟩ => thn (hb pins s1 σ H1 _ I1 q1) fun u s2 ⟨y, H2, I2, r2, q2⟩ =>
    thn (ho pins s2 σ H2 x y v u _ I2 r1 r2 q2) fun c s3 ⟨z, H3, I3, r3, k, e, q3⟩ => ?_) hm
  subst e
  cases r3
  exact wpAny_truthy_bool ⟨H3, I3, q3⟩
def sk (r r' : R2) (ta tb tc : TE) : TE := fun σ H Q => ta σ H fun x H1 => tb σ H1 fun y H2 => r x y H2 fun z H3 => ∃ k, z = .bl k ∧
  (if k = true then tc σ H3 fun w' H4 => r' y w' H4 Q else Q (.bl false) H3)
theorem AV {op iM : CmpOp} {r r' : R2} (ho : OpR X (compareOp op) r) (gC : OpR X (compareOp iM) r') (ha : PE X a ta) (hb : PE X b tb) (hc : PE X c tc)
    (hm : lastMarks [op, iM] [b, c] = false := by with_unfolding_all rfl) : PE X (.Compare a [op, iM] [b, c] pos) (sk r r' ta tb tc) := by
  refine ⟨?_⟩
  intro pins s σ H Q I h
  refine Compare_chain (thn (ha pins s σ H _ I h) fun v s1 ⟨x, H1, I1, r1, q1⟩ => chain_link (thn (hb pins s1 σ H1 _ I1 q1) fun u s2 ⟨y, H2, I2, r2, q2⟩ =>
    thn (ho pins s2 σ H2 x y v u _ I2 r1 r2 q2) fun d s3 ⟨z, H3, I3, r3, k, e, q3⟩ => ?_)) hm
  subst e
  cases r3
  refine wpAny_truthy_bool ?_
  cases k with
  | false => exact ite_ff ⟨.bl false, H3, I3, rfl, q3⟩
  | true => exact ite_tt (chain_last (thn (hc pins s3 σ H3 _ I3 q3) fun w' s4 ⟨z', H4, I4, r4, q4⟩ => gC pins s4 σ H4 y z' u w' Q I4 r2 r4 q4))
theorem AW {op iM : CmpOp} {r r' : R2} (ho : OpR X (compareOp op) r) (gC : OpR X (compareOp iM) r') (ha : PE X a ta) (hb : PE X b tb) (hc : PE X c tc)
    (hm : lastMarks [op, iM] [b, c] = false := by with_unfolding_all rfl) : PT X (.Compare a [op, iM] [b, c] pos) (vV (sk r r' ta tb tc)) := by
  refine ⟨?_⟩
  intro pins s σ H Q I h
  refine isTrue_chain (thn (ha pins s σ H _ I h) fun v s1 ⟨x, H1, I1, r1, q1⟩ => test_link (thn (hb pins s1 σ H1 _ I1 q1) fun u s2 ⟨y, H2, I2, r2, q2⟩ =>
    thn (ho pins s2 σ H2 x y v u _ I2 r1 r2 q2) fun d s3 ⟨z, H3, I3, r3, k, e, q3⟩ => ?_)) hm
  subst e
  cases r3
  refine wpAny_truthy_bool ?_
  cases k with
  | false =>
    obtain ⟨k', e', q'⟩ := q3
    cases e'
    exact ite_ff ⟨H3, I3, q'⟩
  | true =>
    refine ite_tt (test_last (thn (hc pins s3 σ H3 _ I3 q3) fun w' s4 ⟨z', H4, I4, r4, q4⟩ => thn (gC pins s4 σ H4 y z' u w' _ I4 r2 r4 q4) fun d' s5 ⟨z2, H5, I5, r5, k2, e2, q5⟩ => ?_))
    subst e2
    cases r5
    exact wpAny_truthy_bool ⟨H5, I5, q5⟩
def AX (K : PySem.W.Frag) (x : V) (H : Hp) (k : Bool) : Prop :=
  match x with
  | .aq => k = false
  | .bl b => k = b
  | .int i => k = (i != 0)
  | .str y => y.length ≤ sizeLine ∧ k = ((y.length : Int) != 0)
  | .iI y => y.size ≤ sizeLine ∧ k = ((y.size : Int) != 0)
  | .ref p => (∃ xs, bE K H p xs ∧ k = !xs.isEmpty) ∨ (∃ xs, cO K H p xs ∧ k = !xs.isEmpty) ∨ ∃ ao, H p = some (.dK ao) ∧ k = !ao.isEmpty
  | _ => False
theorem vW {κ : Type} {ao : List (κ × V)} {vs : List (κ × Value)} (r : KV ao vs) : (!vs.isEmpty) = !ao.isEmpty := by
  cases r <;> rfl
theorem nR {xs : List V} {its : List Value} (r : Vals xs its) : (!its.toArray.isEmpty) = !xs.isEmpty := by
  cases r <;> simp
theorem jA : (sizeLine : Nat) < 2 ^ 63 := by rw [sizeLine_eq]; decide
theorem FL : Le X (fun x H Q => ∃ k, AX X.K x H k ∧ Q k H) := by
  intro pins s σ H x v Q I rx h
  obtain ⟨k, e, q⟩ := h
  have hl := jA
  have hs : sizeLine = 16777216 := sizeLine_eq
  cases x with
  | aq =>
    cases rx
    have e' : k = false := e
    subst e'
    exact truthy_none ⟨H, I, q⟩
  | bl b =>
    cases rx
    have e' : k = b := e
    subst e'
    exact wpAny_truthy_bool ⟨H, I, q⟩
  | int i =>
    obtain ⟨t, rfl⟩ := rx
    have e' : k = (i != 0) := e
    subst e'
    exact PySem.P.truthy_int ⟨H, I, q⟩
  | str y =>
    obtain ⟨t, rfl⟩ := rx
    obtain ⟨hy, e'⟩ : y.length ≤ sizeLine ∧ k = ((y.length : Int) != 0) := e
    subst e'
    exact PySem.P.truthy_str (by omega) ⟨H, I.tok _, q⟩
  | iI y =>
    obtain ⟨t, rfl⟩ := rx
    obtain ⟨hy, e'⟩ : y.size ≤ sizeLine ∧ k = ((y.size : Int) != 0) := e
    subst e'
    exact PySem.W.truthy_bytes (by omega) ⟨H, I.tok _, q⟩
  | ref p =>
    cases rx
    have e' : (∃ xs, bE X.K H p xs ∧ k = !xs.isEmpty) ∨ (∃ xs, cO X.K H p xs ∧ k = !xs.isEmpty) ∨ ∃ ao, H p = some (.dK ao) ∧ k = !ao.isEmpty := e
    rcases e' with ⟨xs, hx, e'⟩ | ⟨xs, hx, e'⟩ | ⟨ao, hx, e'⟩
    · subst e'
      obtain ⟨its, r, pl, hz⟩ := I.list hx
      have hlen := r.length
      exact wpAny_truthy_list pl.isList (by simp only [List.size_toArray]; omega) ⟨H, I.tok _, by rw [nR r]; exact q⟩
    · subst e'
      obtain ⟨its, r, pl, hz⟩ := I.tuple hx
      have hlen := r.length
      exact truthy_tuple pl (by simp only [List.size_toArray]; omega) ⟨H, I.tok _, by rw [nR r]; exact q⟩
    · subst e'
      obtain ⟨hz, hS, vs, r, m⟩ : ao.length ≤ sizeLine ∧ (p == sysModules) = false ∧ ∃ vs, KV ao vs ∧ s.heap.DictOf (bK X.prog X.w) p vs := I.hok p _ hx
      have hlen : ao.length = vs.length := Paired.length r
      exact wpAny_truthy_dict hS m (by omega) ⟨H, I.tok _, by rw [vW r]; exact q⟩
  | _ => exact (show False from e).elim
theorem AY (ha : PE X a ta) (he : ∀ whole, isTrue a X.env whole = (do let v ← whole; standAt a.pos; holding [v] (truthy v))) :
    PT X a (fun σ H Q => ta σ H fun x H' => ∃ k, AX X.K x H' k ∧ Q k H') := by
  refine ⟨?_⟩
  intro pins s σ H Q I h
  exact isTrue_plain (thn (ha pins s σ H _ I h) fun v s1 ⟨x, H1, I1, r1, q1⟩ => FL pins s1 σ H1 x v Q I1 r1 q1) (he _)
theorem vX : OpR X (binaryOp .Add) (fun x y H Q => ∃ i j, x = .str i ∧ y = .str j ∧ i.length + j.length ≤ sizeLine ∧ Q (.str (i ++ j)) H) := by
  intro pins s σ H x y v u Q I rx ry h
  obtain ⟨i, j, rfl, rfl, hz, q⟩ := h
  obtain ⟨t, rfl⟩ := rx
  obtain ⟨t', rfl⟩ := ry
  exact add_str (fun t' tk => ⟨.str (i ++ j), H, I.tok _, ⟨_, rfl⟩, q⟩) hz
theorem vals1 {x : V} {us : List Value} (r : Vals [x] us) : ∃ u, us = [u] ∧ RelV x u := by
  cases r with
  | cons r1 r2 => cases r2; exact ⟨_, rfl, r1⟩
theorem vals2 {x y : V} {us : List Value} (r : Vals [x, y] us) : ∃ u w', us = [u, w'] ∧ RelV x u ∧ RelV y w' := by
  cases r with
  | cons r1 r2 =>
    cases r2 with
    | cons r3 r4 => cases r4; exact ⟨_, _, rfl, r1, r3⟩
theorem AZ : cR X (.builtin "abs") (fun xs H Q => ∃ i, xs = [.int i] ∧ Q (.int (if i < 0 then -i else i)) H) := by
  intro pins s σ H xs us Q I r h
  obtain ⟨i, rfl, q⟩ := h
  obtain ⟨u, rfl, t, rfl⟩ := vals1 r
  exact call_abs_int fun u tk => ⟨.int (if i < 0 then -i else i), H, I.tok _, ⟨_, rfl⟩, q⟩
theorem xT (hc : X.calm = true) : cR X (.builtin "max") (fun xs H Q => ∃ i j, xs = [.int i, .int j] ∧ Q (.int (if j > i then j else i)) H) := by
  intro pins s σ H xs us Q I r h
  obtain ⟨i, j, rfl, q⟩ := h
  obtain ⟨u, w', rfl, ⟨t, rfl⟩, ⟨t', rfl⟩⟩ := vals2 r
  refine max_two_ints (I.ok.hd hc) fun h' tk k => ⟨_, H, I.kept k, ?_, q⟩
  by_cases hj : j > i
  · rw [if_pos hj, if_pos hj]; exact ⟨_, rfl⟩
  · rw [if_neg hj, if_neg hj]; exact ⟨_, rfl⟩
theorem xU (hc : X.calm = true) : cR X (.builtin "min") (fun xs H Q => ∃ i j, xs = [.int i, .int j] ∧ Q (.int (if j < i then j else i)) H) := by
  intro pins s σ H xs us Q I r h
  obtain ⟨i, j, rfl, q⟩ := h
  obtain ⟨u, w', rfl, ⟨t, rfl⟩, ⟨t', rfl⟩⟩ := vals2 r
  refine min_two_ints (I.ok.hd hc) fun h' tk k => ⟨_, H, I.kept k, ?_, q⟩
  by_cases hj : j < i
  · rw [if_pos hj, if_pos hj]; exact ⟨_, rfl⟩
  · rw [if_neg hj, if_neg hj]; exact ⟨_, rfl⟩
def FN (K : PySem.W.Frag) (x : V) (H : Hp) (n : Nat) : Prop :=
  match x with
  | .str y => y.length ≤ sizeLine ∧ n = y.length
  | .iI y => y.size ≤ sizeLine ∧ n = y.size
  | .ref p => (∃ xs, bE K H p xs ∧ n = xs.length) ∨ ∃ xs, cO K H p xs ∧ n = xs.length
  | _ => False
theorem A0 : cR X (.builtin "len") (fun xs H Q => ∃ x n, xs = [x] ∧ FN X.K x H n ∧ Q (.int n) H) := by
  intro pins s σ H xs us Q I r h
  obtain ⟨x, n, rfl, e, q⟩ := h
  obtain ⟨u, rfl, rx⟩ := vals1 r
  have hl := jA
  have hs : sizeLine = 16777216 := sizeLine_eq
  cases x with
  | str y =>
    obtain ⟨t, rfl⟩ := rx
    obtain ⟨hy, e'⟩ : y.length ≤ sizeLine ∧ n = y.length := e
    subst e'
    exact len_str (by omega) ⟨.int _, H, I.tok _, ⟨_, rfl⟩, q⟩
  | iI y =>
    obtain ⟨t, rfl⟩ := rx
    obtain ⟨hy, e'⟩ : y.size ≤ sizeLine ∧ n = y.size := e
    subst e'
    exact PySem.W.len_bytes (by omega) ⟨.int _, H, I.tok _, ⟨_, rfl⟩, q⟩
  | ref p =>
    cases rx
    have e' : (∃ xs, bE X.K H p xs ∧ n = xs.length) ∨ ∃ xs, cO X.K H p xs ∧ n = xs.length := e
    rcases e' with ⟨xs, hx, e'⟩ | ⟨xs, hx, e'⟩
    · subst e'
      obtain ⟨its, r', pl, hz⟩ := I.list hx
      have hlen := r'.length
      exact Calls.call_len_list pl.isList (by simp only [List.size_toArray]; omega) ⟨.int xs.length, H, I.tok _, ⟨_, by simp only [List.size_toArray]; rw [hlen]⟩, q⟩
    · subst e'
      obtain ⟨its, r', pl, hz⟩ := I.tuple hx
      have hlen := r'.length
      exact len_tuple pl (by simp only [List.size_toArray]; omega) ⟨.int xs.length, H, I.tok _, ⟨_, by simp only [List.size_toArray]; rw [hlen]⟩, q⟩
  | _ => exact (show False from e).elim
end
structure A1 (h : Heap) (x dx C : Addr) (mA : Str → Option Value) : Prop where
  obj : h.get? x = some (PySem.W.instObj C dx)
  ns : h.Ns1 dx mA
  ne : dx ≠ x
theorem xV {h : Heap} {dx : Addr} {mA : Str → Option Value} (n : h.Ns1 dx mA) : ∃ od, h.get? dx = some od ∧ ∀ name, PySem.W.lookIn name od = some (mA name) := by
  obtain ⟨o, es, ep, ho, hd, hk, _, hm⟩ := n
  refine ⟨o, ho, fun name => ?_⟩
  have e := hm name
  unfold nsFind findBy at e
  rw [← Array.find?_toList] at e
  unfold PySem.W.lookIn
  rw [hd]
  dsimp only
  split
  · rename_i y q
    rw [q] at e
    exact congrArg some e
  · rename_i q
    rw [q] at e
    have a : es.toList.any (·.refKey) = false := by
      rw [List.any_eq_false]
      intro y hy
      obtain ⟨z, t, vY⟩ := hk y (Array.mem_toList_iff.mp hy)
      simp [DictEntry.refKey, vY]
    have a' : ¬ es.toList.any (·.refKey) = true := by rw [a]; exact Bool.false_ne_true
    rw [if_neg a']
    exact congrArg some e
theorem A1.look {h : Heap} {x dx C : Addr} {mA : Str → Option Value} (I : A1 h x dx C mA) : ∃ od, PySem.W.InstAt h x (PySem.W.instObj C dx) C (some od) ∧ ∀ name, PySem.W.lookIn name od = some (mA name) :=
  let ⟨od, ho, hl⟩ := xV I.ns
  ⟨od, ⟨I.obj, rfl, rfl, ho⟩, hl⟩
theorem iJ.some_of {v : V} {o : Option Value} (r : iJ (some v) o) : ∃ u, o = some u ∧ RelV v u := by
  cases o with
  | none => exact (show False from r).elim
  | some u => exact ⟨u, rfl, r⟩
section
variable {P : Program} {w : World} {H H' : Hp} {h h' : Heap} {a C dx : Addr} {fs Ms : List (Str × V)}
theorem DU (hok : cj P w H h) (e : H a = some (.ins C dx fs)) : ∃ mA, A1 h a dx C mA ∧ (∀ f, iJ (fs.lookup f) (mA f)) ∧ PySem.Within mA (fs.map (·.1)) ∧ fs.length ≤ 1000 ∧ H dx = some (.own a) := by
  obtain ⟨d, z, ne, ob, mA, n, r, q⟩ := (show ObjOk P w H h a (.ins C dx fs) from hok a _ e)
  exact ⟨mA, ⟨ob, n, ne⟩, r, q, z, d⟩
end
structure FO (K : PySem.W.Frag) (C : Addr) : Prop where
  pg : PySem.W.plainGet K C Str.empty = true
  hd : PySem.W.hasDictIn K C = true
  po : PySem.W.plainOver K C = true
  sa : PySem.W.findIn K (.ref C) "__setattr__" = some (some (.builtin "object.__setattr__"))
theorem FO.get {K : PySem.W.Frag} {C : Addr} (c : FO K C) (f : Str) : PySem.W.plainGet K C f = true := c.pg
section
variable {X : Cx} {pins : List (Addr × Obj)} {σ : St} {H : Hp} {s : Shared} {A : Around} {E : Value → Shared → Prop} {Q : Value → Shared → Prop} {c : Value} {b : Bool}
inductive fA (K : PySem.W.Frag) (H : Hp) : V → Value → Prop where
  | aq : fA K H .aq (.type "NoneType")
  | bl (x : Bool) : fA K H (.bl x) (.type "bool")
  | int (i : Int) : fA K H (.int i) (.type "int")
  | str (x : Str) : fA K H (.str x) (.type "str")
  | uY (x : UInt64) : fA K H (.uY x) (.type "float")
  | lst {a : Addr} {xs : List V} (e : H a = some (.lst xs)) : fA K H (.ref a) (.type "list")
  | cN {a : Addr} {o : Obj} {xs : List V} (e : H a = some (.cN o (.lst xs))) : fA K H (.ref a) (.type "list")
  | tup {a : Addr} {xs : List V} (e : H a = some (.tup xs)) : fA K H (.ref a) (.type "tuple")
  | dK {a : Addr} {ao : List (Key × V)} (e : H a = some (.dK ao)) : fA K H (.ref a) (.type "dict")
  | dT {a : Addr} {ao : List (List Key × V)} (e : H a = some (.dT ao)) : fA K H (.ref a) (.type "dict")
  | ins {a C dx : Addr} {fs : List (Str × V)} (e : H a = some (.ins C dx fs)) (cl : FO K C) (ha : PySem.W.findIn K (.ref C) "__class__" = some (some (.builtin "object.__class__")))
      (hn : PySem.W.specialIn K (.builtin "object.__class__") "__get__" = some (some (.builtin "getset_descriptor.__get__"))) (JV : PySem.W.takesIn K (.builtin "object.__class__") = some true)
      (hm : PySem.W.mroIn K C (.type "object") = some true) : fA K H (.ref a) (.ref C)
theorem xW {x : V} {u t : Value} (I : Inv X pins σ H s) (rx : RelV x u) (ty : fA X.K H x t) (e : PySem.W.kitOne X.K t c = some b) (h : ∀ tk, Q (.bool b) { s with toks := tk }) :
    wpAny (model X.prog X.w) A (call (.builtin "isinstance") [u, c]) Q E s := by
  cases ty with
  | aq => cases (show u = Value.none from rx); exact PySem.W.kia_one PySem.W.kitx_none I.fT True.intro e (fun z => nomatch z) h
  | bl y => cases (show u = Value.bool y from rx); exact PySem.W.kia_one PySem.W.kitx_bool I.fT True.intro e (fun z => nomatch z) h
  | int i => obtain ⟨t, q⟩ := (show ∃ t, u = Value.int i t from rx); cases q; exact PySem.W.kia_one PySem.W.kitx_int I.fT True.intro e (fun z => nomatch z) h
  | str y => obtain ⟨t, q⟩ := (show ∃ t, u = Value.str y t from rx); cases q; exact PySem.W.kia_one PySem.W.kitx_str I.fT True.intro e (fun z => nomatch z) h
  | uY y => obtain ⟨t, q⟩ := (show ∃ t, u = Value.float y t from rx); cases q; exact PySem.W.kia_one PySem.W.kitx_float I.fT True.intro e (fun z => nomatch z) h
  | @lst a xs ea =>
    cases (show u = Value.ref a from rx)
    obtain ⟨_, _, n, _, h1⟩ := (show ObjOk X.prog X.w H s.heap a (.lst xs) from I.hok a _ ea)
    exact PySem.W.kia_one PySem.W.kitx_list I.fT ⟨_, h1, rfl⟩ e (fun z => nomatch z) h
  | @cN a ob xs ea =>
    cases (show u = Value.ref a from rx)
    obtain ⟨_, _, _, n, _, h1⟩ := (show ObjOk X.prog X.w H s.heap a (.cN ob (.lst xs)) from I.hok a _ ea)
    exact PySem.W.kia_one PySem.W.kitx_list I.fT ⟨_, h1, rfl⟩ e (fun z => nomatch z) h
  | @tup a xs ea =>
    cases (show u = Value.ref a from rx)
    obtain ⟨_, _, _, p⟩ := (show ObjOk X.prog X.w H s.heap a (.tup xs) from I.hok a _ ea)
    obtain ⟨o, h1, h2, _⟩ := p
    exact PySem.W.kia_one PySem.W.kitx_tuple I.fT ⟨o, h1, h2⟩ e (fun z => nomatch z) h
  | @dK a ao ea =>
    cases (show u = Value.ref a from rx)
    obtain ⟨_, _, vs, _, p⟩ := (show ObjOk X.prog X.w H s.heap a (.dK ao) from I.hok a _ ea)
    obtain ⟨o, es, ep, h1, h2, _⟩ := p
    exact PySem.W.kia_one PySem.W.kitx_dict I.fT ⟨o, h1, h2.1⟩ e (fun z => nomatch z) h
  | @dT a ao ea =>
    cases (show u = Value.ref a from rx)
    obtain ⟨_, _, xs, _, o, es, ep, h1, h2, _⟩ := (show ObjOk X.prog X.w H s.heap a (.dT ao) from I.hok a _ ea)
    exact PySem.W.kia_one PySem.W.kitx_dict I.fT ⟨o, h1, h2.1⟩ e (fun z => nomatch z) h
  | @ins a C dx fs ea cl ha hn JV hm =>
    cases (show u = Value.ref a from rx)
    obtain ⟨mA, O, _⟩ := DU I.hok ea
    obtain ⟨od, J, _⟩ := O.look
    exact PySem.W.kia_one (PySem.W.kitx_own (cl.get _) cl.hd ha hn JV hm) I.fT J e (fun z => nomatch z) h
end
structure bG (k : Nat) (A : Around) : Prop where
  hd : A.handled = none
  dp : A.depth + 3 * k + 5 < recursionLimit
  un : A.units + 16 * k + 200 < cLine
theorem bG.mono {j k : Nat} {A : Around} (r : bG k A) (h : j ≤ k) : bG j A := ⟨r.hd, by have := r.dp; omega, by have := r.un; omega⟩
theorem bG.deeper {k : Nat} {A : Around} (r : bG (k + 1) A) (env : Env) : bG k (A.deeper env) :=
  ⟨r.hd, by have := r.dp; show A.depth + 1 + 3 * k + 5 < _; omega, by have := r.un; show A.units + 3 + 16 * k + 200 < _; omega⟩
theorem bG.depth {k : Nat} {A : Around} (r : bG k A) : A.depth < recursionLimit := by have := r.dp; omega
theorem bG.units {k : Nat} {A : Around} (r : bG k A) : A.units + 64 < cLine := by have := r.un; omega
def Lf : TA := fun _ H Q => Q [] H
def IW (ta : TE) (tr : TA) : TA := fun σ H Q => ta σ H fun x H1 => tr σ H1 fun xs H2 => Q (x :: xs) H2
section
variable {X : Cx} {e : Expr} {es : List Expr} {te : TE} {t : TA} {pos : Pos}
theorem FP : PA X [] Lf := ⟨fun _ _ _ _ H Q I h => Calls.spliced_nil ⟨[], H, I, .nil, h⟩⟩
theorem lY (ha : PE X e te) (hr : PA X es t) (hs : starEach (e :: es) X.env = (false, eval e X.env) :: starEach es X.env := by rfl) : PA X (e :: es) (IW te t) := by
  refine ⟨?_⟩
  intro pos pins s σ H Q I h
  rw [hs]
  show wpAny _ _ (spliced ((false, eval e X.env) :: backTo pos (starEach es X.env))) _ _ s
  refine Calls.spliced_cons (thn (ha pins s σ H _ I h) fun u s1 ⟨x, H1, I1, r1, q1⟩ => ?_)
  exact thn (hr pos pins s1 σ H1 _ I1 q1) fun us s2 ⟨xs, H2, I2, r2, q2⟩ => ⟨x :: xs, H2, I2, .cons r1 r2, q2⟩
def Lg (t : TA) : TE := fun σ H Q => t σ H fun xs H1 => xs.length ≤ sizeLine ∧ ∀ p, H1 p = none → Q (.ref p) (upd H1 p (.tup xs))
def Lh (t : TA) : TE := fun σ H Q => t σ H fun xs H1 => xs.length ≤ sizeLine ∧ ∀ p, H1 p = none → Q (.ref p) (upd H1 p (.lst xs))
theorem FQ {x1} (h : PA X es t) : PE X (.Tuple es x1 pos) (Lg t) := by
  refine ⟨?_⟩
  intro pins s σ H Q I hq
  refine wpAny_Tuple_spliced (thn (h pos pins s σ H _ I hq) fun us s1 ⟨xs, H1, I1, r, z, q⟩ => ⟨by rw [← r.length]; exact z, ?_⟩)
  have hf : H1 s1.heap.objs.size = none := I1.hok.fresh (Nat.le_refl _)
  refine ⟨.ref s1.heap.objs.size, upd H1 s1.heap.objs.size (.tup xs), I1.laid (t' := s1.toks) (fun b u e => Heap.get?_push_of_some _ e) (Nat.le_refl _) ?_, rfl, q _ hf⟩
  exact ⟨z, us, r, ⟨_, Heap.get?_push_size _ rfl, rfl, _, rfl, rfl⟩⟩
theorem xX (h : PA X es t) : PE X (.List es pos) (Lh t) := by
  refine ⟨?_⟩
  intro pins s σ H Q I hq
  refine wpAny_List_spliced (thn (h pos pins s σ H _ I hq) fun us s1 ⟨xs, H1, I1, r, z, q⟩ => ⟨by rw [← r.length]; exact z, ?_⟩)
  have hf : H1 s1.heap.objs.size = none := I1.hok.fresh (Nat.le_refl _)
  refine ⟨.ref s1.heap.objs.size, upd H1 s1.heap.objs.size (.lst xs), I1.laid (t' := s1.toks) (fun b u e => Heap.get?_push_of_some _ e) (Nat.le_refl _) ?_, rfl, q _ hf⟩
  exact ⟨z, us, 0, r, Heap.get?_push_size _ rfl⟩
end
abbrev Sp := List V → Hp → VK → XK → Prop
abbrev fW := List Env → Hp → Shared → XK → Value → Shared → Prop
structure o6 (P : Program) (w : World) (K : PySem.W.Frag) (mg : Str → Option Value) (base : Heap) (A : Around) (outer : List Env) (s : Shared) (H : Hp) : Prop where
  frames : A.frames = some outer
  mod : Mod K mg base
  bs : ∀ b o, base.get? b = some o → s.heap.get? b = some o ∧ H b = none
  bsz : base.objs.size ≤ s.heap.objs.size
  funs : s.heap.FunFrames base outer
  frf : ∀ b ∈ dP outer, H b = none
  hok : cj P w H s.heap
  bare : AllBare s.gens
def CE (outer : List Env) (P : Program) (w : World) (H : Hp) (s : Shared) (Q : VK) (u : Value) (s' : Shared) : Prop :=
  ∃ v H', s'.os = s.os ∧ Gn s.gens.size s'.gens ∧ Un (dP outer) [] H H' s.heap s'.heap ∧ cj P w H' s'.heap ∧ RelV v u ∧ Q v H'
def CR (CX : fW) (outer : List Env) (P : Program) (w : World) (H : Hp) (s : Shared) (Q : VK) (E : XK) (r : Result) (s' : Shared) : Prop :=
  match r with
  | .ok (.ret u) => CE outer P w H s Q u s'
  | .ok _ => False
  | .error e => CX outer H s E e s'
structure FnOk (P : Program) (w : World) (K : PySem.W.Frag) (mg : Str → Option Value) (base : Heap) (CX : fW) (k : Nat) (f : Addr) (fd : FuncData) (ps : List Str) (sp : Sp) : Prop where
  len : ∀ vs H Q E, sp vs H Q E → vs.length = ps.length
  run : ∀ (A : Around) (outer : List Env) (s : Shared) (H : Hp) (args : Args) (us : List Value) (vs : List V) (Q : VK) (E : XK), bG k A → o6 P w K mg base A outer s H → BindsTo s fd args (ps.zip us) → Vals vs us → sp vs H Q E →
    codeAny (model P w) A (.call (.ref f) args) (CR CX outer P w H s Q E) s
theorem FnOk.mono {P : Program} {w : World} {K : PySem.W.Frag} {mg : Str → Option Value} {base : Heap} {CX : fW} {j k : Nat} {f : Addr} {fd : FuncData} {ps : List Str} {sp : Sp} (F : FnOk P w K mg base CX j f fd ps sp) (h : j ≤ k) :
    FnOk P w K mg base CX k f fd ps sp := ⟨F.len, fun A outer s H args us vs Q E hr => F.run A outer s H args us vs Q E (hr.mono h)⟩
theorem FnOk.imp {P : Program} {w : World} {K : PySem.W.Frag} {mg : Str → Option Value} {base : Heap} {CX : fW} {k : Nat} {f : Addr} {fd : FuncData} {ps : List Str} {sp JW : Sp} (F : FnOk P w K mg base CX k f fd ps sp)
    (h : ∀ vs H Q E, JW vs H Q E → sp vs H Q E) : FnOk P w K mg base CX k f fd ps JW :=
  ⟨fun vs H Q E q => F.len vs H Q E (h _ _ _ _ q), fun A outer s H args us vs Q E hr he hb hv hs => F.run A outer s H args us vs Q E hr he hb hv (h _ _ _ _ hs)⟩
section
variable {X : Cx} {pins : List (Addr × Obj)} {σ : St} {H : Hp} {s s' : Shared}
theorem Inv.Li (I : Inv X pins σ H s) : o6 X.prog X.w X.K X.mg X.base X.A X.stack s H :=
  ⟨I.ok.frames, I.ok.mod, I.bs, Nat.le_trans I.ok.bsz I.sz, I.stack, I.jz, I.hok, I.bare.1⟩
theorem Inv.after {Q : VK} {u : Value} (I : Inv X pins σ H s) (h : CE X.stack X.prog X.w H s Q u s') : EP X pins σ Q u s' := by
  obtain ⟨v, H', os, bare, un, hok, r, q⟩ := h
  obtain ⟨hh, g, d, t, CB⟩ := s'
  obtain rfl : CB = s.os := os
  exact ⟨v, H', I.call (h' := hh) (g' := g) (d' := d) (t' := t) (ch := []) un hok bare (fun b z => absurd z (by simp)), r, q⟩
end
def CC (sp : Sp) (fk : List V) (E : XK) (t : TA) : TE := fun σ H Q => t σ H fun vs H1 => sp (vs ++ fk) H1 Q E
def Binds (K : PySem.W.Frag) (fd : FuncData) (ps : List Str) (ds : List Value) : Prop :=
  ∀ (s : Shared) (us : List Value), K.In s.heap → (us ++ ds).length = ps.length → BindsTo s fd ⟨us, []⟩ (ps.zip (us ++ ds))
theorem Binds.all {K : PySem.W.Frag} {fd : FuncData} {ps : List Str} (h : ∀ us : List Value, us.length = ps.length → bindArgs fd ⟨us, []⟩ = pure (ps.zip us)) : Binds K fd ps [] := fun s us _ hl => by
  rw [List.append_nil] at hl ⊢
  exact .of_eq (h us hl)
def Passes (CX : fW) (X : Cx) (E : XK) : Prop := ∀ (pins : List (Addr × Obj)) (σ : St) (H : Hp) (s : Shared) (e : Value) (s' : Shared), Inv X pins σ H s → CX X.stack H s E e s' → X.xe e s'
section
variable {X : Cx} {CX : fW} {k : Nat} {f C : Addr} {fd : FuncData} {ps : List Str} {sp : Sp} {fk : List V} {ds : List Value} {E : XK} {x m : Str} {p pos apos : Pos} {e o : Expr} {es : List Expr} {ta : TE} {t : TA}
theorem xY {pins : List (Addr × Obj)} {σ : St} {H : Hp} {s : Shared} {Q : VK} {us : List Value} {vs : List V} (F : FnOk X.prog X.w X.K X.mg X.base CX k f fd ps sp) (hr : bG k X.A) (hb : Binds X.K fd ps ds) (hd : Vals fk ds) (hx : Passes CX X E)
    (I : Inv X pins σ H s) (r : Vals vs us) (h : sp (vs ++ fk) H Q E) : wpAny (model X.prog X.w) X.A (call (.ref f) us) (EP X pins σ Q) X.xe s := by
  have r2 : Vals (vs ++ fk) (us ++ ds) := r.append hd
  have hl : (us ++ ds).length = ps.length := by rw [← r2.length]; exact F.len _ _ _ _ h
  refine wpAny_call (codeAny_mono (F.run X.A X.stack s H ⟨us, []⟩ (us ++ ds) (vs ++ fk) Q E hr I.Li (hb s us I.fT hl) r2 h) fun r s' hq => ?_)
  cases r with
  | error e => exact hx pins σ H s e s' I hq
  | ok fl =>
    cases fl with
    | ret u => exact I.after hq
    | next => exact False.elim hq
    | brk => exact False.elim hq
    | cont => exact False.elim hq
theorem DV (F : FnOk X.prog X.w X.K X.mg X.base CX k f fd ps sp) (hr : bG k X.A) (hg : Gl X x) (hm : X.mg x = some (.ref f)) (hk : PySem.W.keepIn X.K (.ref f) = true) (hb : Binds X.K fd ps ds) (hd : Vals fk ds) (hx : Passes CX X E)
    (ha : PA X (e :: es) t) (eE : (x == ("__debug__" : Str)) = false := by decide) (he : starEach (e :: es) X.env = (false, eval e X.env) :: starEach es X.env := by rfl) (bR : (backTo pos (starEach es X.env)).any (·.1) = false := by rfl) :
    PE X (.Call (.Name x p) (e :: es) [] pos) (CC sp fk E t) := by
  refine ⟨?_⟩
  intro pins s σ H Q I h
  refine wpAny_Call_Name_kw (lX I hg hm ?_ eE)
  refine PySem.W.callWith_K (h₀ := X.base) I.ok.mod.kin hk (thn (ha pos pins s σ H _ I h) fun us s1 ⟨vs, H1, I1, r, q⟩ => ⟨I1.fT, ?_⟩) he bR
  exact xY F hr hb hd hx I1 r q
end
structure aV (N P : List Str) (sc : Scope) : Prop where
  kind : sc.kind = .function
  co : sc.isCoroutine = false
  gen : sc.isGenerator = false
  nd : N.Nodup
  pre : N.take P.length = P
  par : ∀ x ∈ P, sc.names.lookup x = some .local ∨ sc.names.lookup x = some .cell
  nofree : ∀ y ∈ sc.names, y.2 ≠ .free
theorem p8 {kindOf : Str → Option NameKind} {x : Str} : ∀ {binds : List (Str × Value)} {m : Str → Option Value}, (∀ v, (x, v) ∉ binds) → bindL kindOf binds m x = m x
  | [], _, _ => rfl
  | (n, v) :: r, m, h => by
    unfold bindL
    rw [p8 fun w hw => h w (List.mem_cons_of_mem _ hw)]
    split
    · have : x ≠ n := by rintro rfl; exact h v List.mem_cons_self
      simp [this]
    · rfl
theorem qa {kindOf : Str → Option NameKind} {x : Str} : ∀ {binds : List (Str × Value)} {m : Str → Option Value}, (∀ v, (x, v) ∉ binds) → bindC kindOf binds m x = m x
  | [], _, _ => rfl
  | (n, v) :: r, m, h => by
    unfold bindC
    rw [qa fun w hw => h w (List.mem_cons_of_mem _ hw)]
    split
    · rfl
    · have : x ≠ n := by rintro rfl; exact h v List.mem_cons_self
      simp [this]
theorem qb {kindOf : Str → Option NameKind} {x : Str} {v : Value} : ∀ {P : List Str} {vs : List Value} {i : Nat} {m : Str → Option Value}, P.Nodup → P[i]? = some x → vs[i]? = some v → kindOf x = some .local →
    bindL kindOf (P.zip vs) m x = some v
  | [], _, _, _, _, h, _, _ => by simp at h
  | _ :: _, [], _, _, _, _, h, _ => by simp at h
  | p :: P, w :: vs, 0, m, nd, h1, h2, hk => by
    simp at h1 h2; subst h1; subst h2
    show bindL kindOf ((p, w) :: P.zip vs) m p = _
    unfold bindL
    rw [p8 fun v hv => (List.nodup_cons.mp nd).1 (List.of_mem_zip hv).1, if_pos hk]
    simp
  | p :: P, w :: vs, i + 1, m, nd, h1, h2, hk => by
    show bindL kindOf ((p, w) :: P.zip vs) m x = _
    unfold bindL
    exact qb (i := i) (List.nodup_cons.mp nd).2 (by simpa using h1) (by simpa using h2) hk
theorem qd {kindOf : Str → Option NameKind} {x : Str} {v : Value} : ∀ {P : List Str} {vs : List Value} {i : Nat} {m : Str → Option Value}, P.Nodup → P[i]? = some x → vs[i]? = some v → kindOf x ≠ some .local →
    bindC kindOf (P.zip vs) m x = some v
  | [], _, _, _, _, h, _, _ => by simp at h
  | _ :: _, [], _, _, _, _, h, _ => by simp at h
  | p :: P, w :: vs, 0, m, nd, h1, h2, hk => by
    simp at h1 h2; subst h1; subst h2
    show bindC kindOf ((p, w) :: P.zip vs) m p = _
    unfold bindC
    rw [qa fun v hv => (List.nodup_cons.mp nd).1 (List.of_mem_zip hv).1, if_neg hk]
    simp
  | p :: P, w :: vs, i + 1, m, nd, h1, h2, hk => by
    show bindC kindOf ((p, w) :: P.zip vs) m x = _
    unfold bindC
    exact qd (i := i) (List.nodup_cons.mp nd).2 (by simpa using h1) (by simpa using h2) hk
def start (N : List Str) (vs : List V) : St := vs.map some ++ List.replicate (N.length - vs.length) none
def fi (CX : fW) (P : Program) (w : World) (K : PySem.W.Frag) (mg : Str → Option Value) (base : Heap) (N : List Str) (qual : Str) (scope : Scope) (f : Addr) (cd : Value) (A : Around) (outer : List Env) (s : Shared) (H : Hp) (E : XK) : Cx where
  prog := P
  w := w
  K := K
  mg := mg
  base := base
  A := A.deeper (envOfC qual scope s.heap.objs.size f cd)
  N := N
  s₀ := s
  H₀ := H
  env := envOfC qual scope s.heap.objs.size f cd
  outer := outer
  stack := envOfC qual scope s.heap.objs.size f cd :: outer
  ex := []
  calm := true
  fn := fun _ => true
  pn := []
  xe := fun e s' => wpAny (model P w) (A.deeper (envOfC qual scope s.heap.objs.size f cd)) (leaving (envOfC qual scope s.heap.objs.size f cd) e) (fun _ bZ => CX outer H s E e bZ) (fun e' bZ => CX outer H s E e' bZ) s'
theorem sm {sc : Scope} {n : Nat} {x : Str} (h : sc.names.lookup x = some .cell) : ∃ c, (cellsFrom n sc.names []).lookup x = some c := by
  have q := PySem.W.cellsFrom_some sc.names n [] (.inl h)
  exact Option.isSome_iff_exists.mp q
theorem xZ {CX : fW} {P : Program} {w : World} {K : PySem.W.Frag} {mg : Str → Option Value} {base : Heap} {N ps : List Str} {qual : Str} {scope : Scope} {f : Addr} {cd : Value} {A : Around} {outer : List Env} {s s1 : Shared} {H : Hp} {E : XK} {us : List Value} {vs : List V}
    (S : aV N ps scope) (hd : A.handled = none) (e0 : o6 P w K mg base A outer s H) (hl : vs.length = ps.length) (r : Vals vs us)
    (x : InCallC s s.heap.objs.size (bindL (envOfC qual scope s.heap.objs.size f cd).kindOf (ps.zip us) fun _ => none) (cellsFrom (s.heap.objs.size + 1) scope.names []) (bindC (envOfC qual scope s.heap.objs.size f cd).kindOf (ps.zip us) fun _ => none) s1) :
    Inv (fi CX P w K mg base N qual scope f cd A outer s H E) [] (start N vs) H s1 := by
  have bR : ps.length ≤ N.length := by have := congrArg List.length S.pre; rw [List.length_take] at this; omega
  obtain ⟨h1, tk, rfl, hk⟩ := x.done
  have FR : ∀ b : Addr, b ∉ (fi CX P w K mg base N qual scope f cd A outer s H E).ex := fun b z => absurd (show b ∈ ([] : List Addr) from z) (by simp)
  refine ⟨⟨e0.mod, S.kind, rfl, rfl, Nat.le_refl _, fun y z c h1 h2 => ?_, fun y hy => ?_, fun y c _ h => ?_, fun _ => hd, Around.frames_deeper e0.frames, .inr ⟨rfl, rfl⟩, fun b z => absurd z (FR b), e0.bs, e0.bsz, fun b _ _ => FR b, fun b z => absurd z (FR b), e0.funs, e0.frf⟩,
    rfl, ⟨e0.bare, Nat.le_refl _⟩, Un.kept hk, ⟨_, x.toInCall.ns, fun i y v h1 h2 h3 => ?_⟩, fun y c h => ⟨_, x.cell y c h⟩, e0.hok.fresh (Nat.le_refl _), fun y c h => ?_, fun p hp => absurd (show p ∈ ([] : List (Addr × Obj)) from hp) (by simp), e0.hok.kept hk, ?_⟩
  · exact name_of_addr x.apart (PySem.mem_of_lookup h1) (PySem.mem_of_lookup h2)
  · have hy : scope.names.lookup y = some .cell ∨ scope.names.lookup y = some .free := hy
    rcases hy with hy | hy
    · exact sm hy
    · exact absurd rfl (S.nofree _ (PySem.mem_of_lookup hy))
  · exact Nat.le_of_lt (x.above y c (PySem.mem_of_lookup h))
  · have hi : i < vs.length := by
      unfold start at h2
      by_cases hi : i < vs.length
      · exact hi
      · rw [List.getElem?_append_right (by simpa using hi)] at h2
        rw [List.getElem?_replicate] at h2
        split at h2 <;> cases h2
    have ha : vs[i]? = some v := by
      unfold start at h2
      rw [List.getElem?_append_left (by simpa using hi), List.getElem?_map] at h2
      cases e : vs[i]? with
      | none => rw [e] at h2; cases h2
      | some a => rw [e] at h2; cases h2; rfl
    obtain ⟨u, hu, rv⟩ := r.get ha
    have hp : ps[i]? = some y := by
      rw [← S.pre, List.getElem?_take_of_lt (by omega)]; exact h1
    have JX : ps.Nodup := by rw [← S.pre]; exact S.nd.sublist (List.take_sublist _ _)
    refine ⟨u, rv, ?_⟩
    rcases S.par y (List.mem_of_getElem? hp) with k | k
    · exact .inl ⟨k, qb JX hp hu k⟩
    · obtain ⟨c, e⟩ := sm (n := s.heap.objs.size + 1) k
      refine .inr ⟨.inl k, c, e, ?_⟩
      have q := x.cell y c e
      rw [qd JX hp hu (by show scope.names.lookup y ≠ _; rw [k]; decide)] at q
      exact q
  · exact e0.hok.fresh (Nat.le_of_lt (x.above y c (PySem.mem_of_lookup h)))
  · unfold start
    show _ = N.length
    rw [List.length_append, List.length_map, List.length_replicate]
    omega
theorem vZ {CX : fW} {P : Program} {w : World} {K : PySem.W.Frag} {mg : Str → Option Value} {base : Heap} {k : Nat} {f : Addr} {name qual : Str} {params : Arguments} {body : List Stmt} {scope : Scope} {dV kV doc pm cq ct oc : Value} {an od : Option Addr}
    {jf : Array (Option Value)} {N ps : List Str} {sp : Sp} (lk : K.lookup f = some ⟨oc, od, .func (PySem.W.fnOf name qual params body scope dV kV doc pm an cq ct), jf⟩) (dD : PySem.W.codeIn K cq qual = true) (S : aV N ps scope)
    (len : ∀ vs H Q E, sp vs H Q E → vs.length = ps.length)
    (jR : ∀ (A : Around) (outer : List Env) (s : Shared) (H : Hp) (vs : List V) (Q : VK) (E : XK), bG k (A.deeper (envOfC qual scope s.heap.objs.size f cq)) → sp vs H Q E →
      ∃ t, fK (fi CX P w K mg base N qual scope f cq A outer s H E) body t ∧ t { nx := fun _ H' => Q .aq H', rt := Q } (start N vs) H) :
    FnOk P w K mg base CX (k + 1) f (PySem.W.fnOf name qual params body scope dV kV doc pm an cq ct) ps sp := by
  refine ⟨len, fun A outer s H args us vs Q E hr e0 hb r jg => ?_⟩
  have hl := len _ _ _ _ jg
  have KX : K.In s.heap := e0.mod.kin.keeps fun b o e => (e0.bs b o e).1
  have lim : s.heap.NoLimit := e0.mod.nolimit.keeps fun b o e => (e0.bs b o e).1
  have lZ : ∀ y ∈ ps.zip us, scope.names.lookup y.1 = some .local ∨ (scope.names.lookup y.1 = some .cell ∧ ((cellsFrom (s.heap.objs.size + 1) scope.names []).lookup y.1).isSome = true) := fun ⟨n, v⟩ hy => by
    rcases S.par n (List.of_mem_zip hy).1 with q | q
    · exact .inl q
    · exact .inr ⟨q, PySem.W.cellsFrom_some _ _ _ (.inl q)⟩
  refine codeAny_call_function hr.depth (KX _ _ lk) rfl S.co S.gen rfl (PySem.W.codeRec_of KX dD) (hb _ _ _ _ ?_)
  refine wpAny_newFunctionEnv_cells S.kind lZ fun env he s1 x => ?_
  subst he
  refine ⟨lim.keeps x.toInCall.keep, codeAny_func ?_⟩
  obtain ⟨t, ht, hq⟩ := jR A outer s H vs Q E (hr.deeper _) jg
  have I : Inv (fi CX P w K mg base N qual scope f cq A outer s H E) [] (start N vs) H s1 := xZ S hr.hd e0 hl r x
  refine wpAny_mono (ht [] s1 (start N vs) H _ I hq) (fun fl s' hs => ?_) fun e s' hs => hs
  have fin : ∀ {aH : St} {H' : Hp} {v : V} {u : Value}, Inv (fi CX P w K mg base N qual scope f cq A outer s H E) [] aH H' s' → RelV v u → Q v H' → CE outer P w H s Q u s' :=
    fun {aH H' v u} J rv q => ⟨v, H', J.os, J.bare, J.base, J.hok, rv, q⟩
  cases fl with
  | ret u =>
    obtain ⟨v, aH, H', J, rv, q⟩ := hs
    exact fin J rv q
  | next =>
    obtain ⟨aH, H', J, q⟩ := hs
    exact fin (v := V.aq) (u := Value.none) J rfl q
  | brk =>
    obtain ⟨_, _, _, q⟩ := hs
    exact False.elim q
  | cont =>
    obtain ⟨_, _, _, q⟩ := hs
    exact False.elim q
section
variable {X : Cx} {x : Str} {p pos : Pos} {e : Expr} {es : List Expr} {t : TA} {id T : String} {r : List V → Hp → VK → Prop}
def FT (r : List V → Hp → VK → Prop) (t : TA) : TE := fun σ H Q => t σ H fun vs H1 => r vs H1 Q
theorem A6 (hc : cR X (.builtin id) r) (hg : Gl X x) (hm : X.mg x = none) (hv : bootBuiltins x = some (.builtin id)) (ha : PA X (e :: es) t) (hn : x ≠ "__name__" := by decide) (eE : (x == ("__debug__" : Str)) = false := by decide)
    (he : starEach (e :: es) X.env = (false, eval e X.env) :: starEach es X.env := by rfl) (bR : (backTo pos (starEach es X.env)).any (·.1) = false := by rfl) : PE X (.Call (.Name x p) (e :: es) [] pos) (FT r t) := by
  refine ⟨?_⟩
  intro pins s σ H Q I h
  refine wpAny_Call_Name_kw (dY I hg hm hv ?_ hn eE)
  exact PyProof.Rows.callWith_builtin1 (thn (ha pos pins s σ H _ I h) fun us s1 ⟨vs, H1, I1, r1, q1⟩ => hc pins s1 σ H1 vs us Q I1 r1 q1) he bR
theorem ya (hc : cR X (.type T) r) (hg : Gl X x) (hm : X.mg x = none) (hv : bootBuiltins x = some (.type T)) (ha : PA X (e :: es) t) (hn : x ≠ "__name__" := by decide) (eE : (x == ("__debug__" : Str)) = false := by decide)
    (he : starEach (e :: es) X.env = (false, eval e X.env) :: starEach es X.env := by rfl) (bR : (backTo pos (starEach es X.env)).any (·.1) = false := by rfl) : PE X (.Call (.Name x p) (e :: es) [] pos) (FT r t) := by
  refine ⟨?_⟩
  intro pins s σ H Q I h
  refine wpAny_Call_Name_kw (dY I hg hm hv ?_ hn eE)
  exact PyProof.Rows.callWith_type1 (thn (ha pos pins s σ H _ I h) fun us s1 ⟨vs, H1, I1, r1, q1⟩ => hc pins s1 σ H1 vs us Q I1 r1 q1) he bR
end
end L2
namespace HT
open PySem PyProof.Rows
section
variable {prog : Program} {w : World} {A : Around} {E : Value → Shared → Prop} {s : Shared}
def iN (n d : Nat) : Option Int → Nat
  | none => d
  | some v => if v < 0 then (v + (n : Int)).toNat else min v.toNat n
end
end HT
namespace L2
open PySem PySem.Spec PyProof.Rows
abbrev TO := St → Hp → (Option Int → Hp → Prop) → Prop
section
variable {X : Cx} {e : Expr} {te : TE} {lo hi : Option Expr} {tl th : TO} {pos p2 : Pos}
def MA (X : Cx) (r : V → Option Int → Option Int → Hp → VK → Prop) : Prop :=
  ∀ (pins : List (Addr × Obj)) (s : Shared) (σ : St) (H : Hp) (x : V) (v vl vu : Value) (lo hi : Option Int) (sl : Addr) (Q : VK), Inv X pins σ H s → RelV x v → s.heap.IsSliceOf sl vl vu .none → IsPart vl lo → IsPart vu hi → r x lo hi H Q →
    ∃ T id, typeLookup (.type T) "__getitem__" = pure (some (.builtin id)) ∧ s.TypeIs v T ∧ wpAny (model X.prog X.w) X.A (getItem v (.ref sl)) (EP X pins σ Q) X.xe s
def v3 (xs : List V) (lo hi : Option Int) : List V := (xs.drop (HT.iN xs.length 0 lo)).take (HT.iN xs.length xs.length hi - HT.iN xs.length 0 lo)
theorem uE (xs : List V) (lo hi : Option Int) : (v3 xs lo hi).length ≤ xs.length := by
  unfold v3
  rw [List.length_take, List.length_drop]
  omega
end
def gY (n : Nat) (i : Int) : Option Nat := if 0 ≤ i then (if i < n then some i.toNat else none) else if -(n : Int) ≤ i then some (i + n).toNat else none
def di {α : Type} (xs : List α) (i : Int) : Option α := (gY xs.length i).bind fun j => xs[j]?
theorem o7 {n : Nat} {i : Int} {j : Nat} (h : gY n i = some j) : seqIndex? i n = some j ∧ j < n ∧ -(n : Int) ≤ i ∧ i < n := by
  unfold gY at h
  by_cases h0 : 0 ≤ i
  · rw [if_pos h0] at h
    by_cases h1 : i < n
    · rw [if_pos h1] at h
      have e : i.toNat = j := Option.some.inj h
      exact ⟨by rw [seqIndex_of h0 h1, e], by omega, by omega, h1⟩
    · rw [if_neg h1] at h; cases h
  · rw [if_neg h0] at h
    by_cases h1 : -(n : Int) ≤ i
    · rw [if_pos h1] at h
      have e : (i + n).toNat = j := Option.some.inj h
      exact ⟨by rw [seqIndex_neg (by omega) h1, e], by omega, h1, by omega⟩
    · rw [if_neg h1] at h; cases h
theorem o8 {α : Type} {xs : List α} {i : Int} {v : α} (h : di xs i = some v) : ∃ j, seqIndex? i xs.length = some j ∧ xs[j]? = some v ∧ j < xs.length ∧ -(xs.length : Int) ≤ i ∧ i < xs.length := by
  unfold di at h
  cases e : gY xs.length i with
  | none => rw [e] at h; cases h
  | some j =>
    rw [e] at h
    obtain ⟨h1, h2, h3, h4⟩ := o7 e
    exact ⟨j, h1, h, h2, h3, h4⟩
theorem dE {α : Type} {xs : List α} {j : Nat} {v : α} (h : xs[j]? = some v) : di xs (j : Int) = some v := by
  have hj : j < xs.length := (List.getElem?_eq_some_iff.mp h).1
  have e : gY xs.length (j : Int) = some j := by
    unfold gY
    rw [if_pos (by omega), if_pos (by omega)]; simp
  unfold di; rw [e]; exact h
def va (b : Expr) : Prop := ∀ o i, subscripted b false o i = operate [o, i] (getItem o i)
def kF (X : Cx) (r : R2) : Prop :=
  ∀ (value slice : Expr) (pins : List (Addr × Obj)) (s : Shared) (σ : St) (H : Hp) (x y : V) (v u : Value) (Q : VK), Inv X pins σ H s → RelV x v → RelV y u → r x y H Q →
    subscripted slice false v u = operate [v, u] (getItem v u) → wpAny (model X.prog X.w) X.A (subscriptTail value slice v u) (EP X pins σ Q) X.xe s
def yb (X : Cx) (id : String) (r : V → List V → Hp → VK → Prop) : Prop :=
  ∀ (pins : List (Addr × Obj)) (s : Shared) (σ : St) (H : Hp) (x : V) (xs : List V) (v : Value) (us : List Value) (Q : VK), Inv X pins σ H s → RelV x v → Vals xs us → r x xs H Q →
    wpAny (model X.prog X.w) X.A (call (.builtin id) (v :: us)) (EP X pins σ Q) X.xe s
section
variable {X : Cx} {a b : Expr} {ta tb : TE} {pos : Pos}
theorem kF.or {r r' : R2} (h : kF X r) (h' : kF X r') : kF X (fun x y H Q => r x y H Q ∨ r' x y H Q) := by
  intro value slice pins s σ H x y v u Q I rx ry q hs
  rcases q with q | q
  · exact h value slice pins s σ H x y v u Q I rx ry q hs
  · exact h' value slice pins s σ H x y v u Q I rx ry q hs
theorem IX {r : R2} (hr : kF X r) (ha : PE X a ta) (hb : PE X b tb) (hs : va b) : PE X (.Subscript a b pos) (xR r ta tb) := by
  refine ⟨?_⟩
  intro pins s σ H Q I h
  exact Subscript_ (AQ ha hb I h fun v u s2 x y H2 I2 rx ry q => hr a b pins s2 σ H2 x y v u Q I2 rx ry q (hs _ _))
def FU (K : PySem.W.Frag) : R2 := fun x y H Q => ∃ p xs i v, x = .ref p ∧ y = .int i ∧ bE K H p xs ∧ di xs i = some v ∧ Q v H
def FV (K : PySem.W.Frag) : R2 := fun x y H Q => ∃ p xs i v, x = .ref p ∧ y = .int i ∧ cO K H p xs ∧ di xs i = some v ∧ Q v H
def FW : R2 := fun x y H Q => ∃ z i c, x = .str z ∧ y = .int i ∧ z.length ≤ sizeLine ∧ di z.cps.toList i = some c ∧ Q (.str ⟨#[c]⟩) H
theorem DW : kF X (FU X.K) := by
  intro value slice pins s σ H x y v u Q I rx ry h hs
  obtain ⟨p, xs, i, z, rfl, rfl, hq, he, q⟩ := h
  cases rx
  obtain ⟨t, rfl⟩ := ry
  obtain ⟨its, r, pl, hz⟩ := I.list hq
  obtain ⟨j, h1, h2, h3, h4, h5⟩ := o8 he
  obtain ⟨w, ew, jB⟩ := r.get h2
  have hl := r.length
  have hn := jA
  have fin : EP X pins σ Q w s := ⟨z, H, I, jB, q⟩
  by_cases h0 : 0 ≤ i
  · have hj : i.toNat = j := by
      rw [seqIndex_of h0 h5] at h1
      exact Option.some.inj h1
    exact item_listR pl.isList h0 (by omega) (by rw [hj]; simpa using ew) fin hs
  · have hj : (i + (its.toArray.size : Int)).toNat = j := by
      rw [seqIndex_neg (by omega) h4] at h1
      rw [List.size_toArray, ← hl]
      exact Option.some.inj h1
    exact subscriptTail_builtinR (x := w) pl.isList.typeIs slot_list_getitem.lookup
      (wpAny_getItem_list_neg (Q := fun r s' => r = w ∧ EP X pins σ Q r s') pl.isList (by omega) (by rw [List.size_toArray] <;> omega) (by omega) (by rw [hj]; simpa using ew) ⟨rfl, fin⟩) hs
theorem FX : kF X (FV X.K) := by
  intro value slice pins s σ H x y v u Q I rx ry h hs
  obtain ⟨p, xs, i, z, rfl, rfl, hq, he, q⟩ := h
  cases rx
  obtain ⟨t, rfl⟩ := ry
  obtain ⟨its, r, pl, hz⟩ := I.tuple hq
  obtain ⟨j, h1, h2, h3, h4, h5⟩ := o8 he
  obtain ⟨w, ew, jB⟩ := r.get h2
  have hl := r.length
  have hn := jA
  have fin : EP X pins σ Q w s := ⟨z, H, I, jB, q⟩
  exact subscriptTail_builtinR (x := w) pl.typeIs slot_tuple_getitem.lookup
    (getItem_tuple (j := j) (Q := fun r s' => r = w ∧ EP X pins σ Q r s') pl (by omega) (by omega) (by rw [List.size_toArray, ← hl]; exact h1) (by simpa using ew) ⟨rfl, fin⟩) hs
theorem FY : kF X FW := by
  intro value slice pins s σ H x y v u Q I rx ry h hs
  obtain ⟨z, i, c, rfl, rfl, hz, he, q⟩ := h
  obtain ⟨t, rfl⟩ := rx
  obtain ⟨t', rfl⟩ := ry
  obtain ⟨j, h1, h2, h3, h4, h5⟩ := o8 he
  have hl : z.cps.toList.length = z.length := by simp [Str.length]
  rw [hl] at h1 h4 h5
  have hn := jA
  exact tail_any (typeIs_str s z t) slot_str_getitem.lookup (getItem_str (c := c) (by
    have e1 : decide (i < -(2 ^ 63 : Int)) = false := decide_eq_false (by omega)
    have e2 : decide (i ≥ 2 ^ 63) = false := decide_eq_false (by omega)
    rw [e1, e2, Bool.or_false]) (by rw [h1]; simpa using h2) ⟨.str ⟨#[c]⟩, H, I.tok _, ⟨_, rfl⟩, q⟩) hs
def JY (K : PySem.W.Frag) : R2 := fun x y H Q => FU K x y H Q ∨ FV K x y H Q ∨ FW x y H Q
theorem FZ : kF X (JY X.K) := DW.or (FX.or FY)
theorem v7 (its : List Value) (n j : Nat) (u : Value) : Obj.mapSeq (·.setIfInBounds j u) { cls := .type "list", data := .seq its.toArray n } = { cls := .type "list", data := .seq (its.set j u).toArray n } := by
  simp [Obj.mapSeq]
theorem Inv.lst {pins : List (Addr × Obj)} {σ : St} {H : Hp} {s : Shared} {p : Addr} {xs : List V} (I : Inv X pins σ H s) (h : H p = some (.lst xs)) :
    ∃ (its : List Value) (n : Nat), Vals xs its ∧ s.heap.get? p = some { cls := .type "list", data := .seq its.toArray n } ∧ xs.length ≤ sizeLine := by
  obtain ⟨z, its, n, r, e⟩ := I.hok p _ h
  exact ⟨its, n, r, e, z⟩
theorem Inv.F0 {pins : List (Addr × Obj)} {σ : St} {H : Hp} {s : Shared} {p : Addr} {xs ys : List V} {its its' : List Value} {n n' : Nat} {f : Obj → Obj} (I : Inv X pins σ H s) (h : H p = some (.lst xs))
    (ho : s.heap.get? p = some { cls := .type "list", data := .seq its.toArray n }) (hf : f { cls := .type "list", data := .seq its.toArray n } = { cls := .type "list", data := .seq its'.toArray n' }) (r : Vals ys its') (hz : ys.length ≤ sizeLine) (t : Nat) :
    Inv X pins σ (upd H p (.lst ys)) { s with heap := s.heap.update p f, toks := t } := by
  have e : (s.heap.update p f).get? p = some { cls := .type "list", data := .seq its'.toArray n' } := by
    rw [Heap.get?_update_self f ho (by rw [hf] <;> rfl), hf]
  refine I.write (x := p) (e := p) (by rw [h]; trivial) (.inl rfl) (fun b u hb q => (Heap.get?_update_other _ _ (Ne.symm hb)).trans q) ⟨_, e⟩ ?_
  exact ⟨hz, its', n', r, e⟩
def IY : V → V → V → Hp → (Hp → Prop) → Prop := fun o i v H Q => ∃ p xs k j, o = .ref p ∧ i = .int k ∧ H p = some (.lst xs) ∧ gY xs.length k = some j ∧ Q (upd H p (.lst (xs.set j v)))
theorem set_list : Fn X IY := by
  intro pins s σ H o i v ov iv u Q I ro ri rv h
  obtain ⟨p, xs, k, j, rfl, rfl, hp, hj, q⟩ := h
  cases ro
  obtain ⟨t, rfl⟩ := ri
  obtain ⟨its, n, r, ho, hz⟩ := I.lst hp
  obtain ⟨h1, h2, h3, h4⟩ := o7 hj
  have hl := r.length
  have hn := jA
  have I' : Inv X pins σ (upd H p (.lst (xs.set j v))) { s with heap := s.heap.update p (Obj.mapSeq (·.setIfInBounds j u)) } :=
    I.F0 hp ho (v7 its n j u) (r.set rv j) (by rw [List.length_set]; exact hz) s.toks
  by_cases h0 : 0 ≤ k
  · have hk : k.toNat = j := by
      rw [seqIndex_of h0 h4] at h1
      exact Option.some.inj h1
    exact PySem.W.ki_setAt ho h0 (by omega) (by rw [List.size_toArray, ← hl]; exact h4) (by rw [hk]; exact ⟨_, I', q⟩)
  · have hk : (k + (its.toArray.size : Int)).toNat = j := by
      rw [seqIndex_neg (by omega) h3] at h1
      rw [List.size_toArray, ← hl]
      exact Option.some.inj h1
    exact PySem.W.ki_setBack ho (by omega) (by rw [List.size_toArray, ← hl]; exact h3) (by omega) (by rw [hk]; exact ⟨_, I', q⟩)
theorem so (lo hi : Option Int) (n : Nat) : (sliceBounds lo hi none n).1 = ((HT.iN n 0 lo : Nat) : Int) ∧ (sliceBounds lo hi none n).2.1 = ((HT.iN n n hi : Nat) : Int) ∧ (sliceBounds lo hi none n).2.2 = 1 := by
  refine ⟨?_, ?_, rfl⟩
  · cases lo with
    | none => simp [sliceBounds, HT.iN]
    | some i =>
      simp only [sliceBounds, HT.iN, Option.getD_none, show (1 : Int) > 0 by decide, if_true]
      by_cases h : i < 0
      · simp only [h, if_true] <;> omega
      · simp only [h, if_false] <;> omega
  · cases hi with
    | none => simp [sliceBounds, HT.iN]
    | some i =>
      simp only [sliceBounds, HT.iN, Option.getD_none, show (1 : Int) > 0 by decide, if_true]
      by_cases h : i < 0
      · simp only [h, if_true] <;> omega
      · simp only [h, if_false] <;> omega
theorem rn (its : List Value) (lo hi : Option Int) : slicePick its.toArray lo hi none = ((its.drop (HT.iN its.length 0 lo)).take (HT.iN its.length its.length hi - HT.iN its.length 0 lo)).toArray := by
  obtain ⟨h1, h2, h3⟩ := so lo hi its.toArray.size
  unfold slicePick
  rw [h1, h2, h3]
  simp only [sliceRange_one, pick_run, List.size_toArray] <;> rfl
def Lj (K : PySem.W.Frag) : V → Option Int → Option Int → Hp → VK → Prop := fun x lo hi H Q => ∃ a xs, x = .ref a ∧ bE K H a xs ∧ ∀ p, H p = none → Q (.ref p) (upd H p (.lst (v3 xs lo hi)))
theorem Mr : MA X (Lj X.K) := by
  intro pins s σ H x v vl vu lo hi sl Q I rx hs pl pu h
  obtain ⟨a, xs, rfl, hx, q⟩ := h
  cases rx
  obtain ⟨its, r, ht, hz⟩ := I.list hx
  have hlen := r.length
  refine ⟨"list", _, slot_list_getitem.lookup, ht.isList.typeIs, ?_⟩
  refine wpAny_getItem_list_slice ht.isList hs pl pu .none (by simp) ?_ (by rw [List.size_toArray] <;> omega)
  rw [rn, ← hlen]
  refine ⟨.ref s.heap.objs.size, _, I.laid (t' := s.toks) (o := .lst (v3 xs lo hi)) (fun b ob q => Heap.get?_push_of_some _ q) (Nat.le_refl _) ?_, rfl, q _ (I.hok.fresh (Nat.le_refl _))⟩
  exact ⟨Nat.le_trans (uE xs lo hi) hz, _, 0, (r.drop (HT.iN xs.length 0 lo)).take (HT.iN xs.length xs.length hi - HT.iN xs.length 0 lo), Heap.get?_push_size _ rfl⟩
theorem rq : cR X (.type "tuple") (fun xs H Q => ∃ p ys, xs = [.ref p] ∧ ((bE X.K H p ys ∧ ∀ l, H l = none → Q (.ref l) (upd H l (.tup ys))) ∨ (cO X.K H p ys ∧ Q (.ref p) H))) := by
  intro pins s σ H xs us Q I r h
  obtain ⟨p, ys, rfl, h⟩ := h
  obtain ⟨u, rfl, rx⟩ := vals1 r
  cases rx
  rcases h with ⟨hq, q⟩ | ⟨hq, q⟩
  · obtain ⟨its, r', pl, hz⟩ := I.list hq
    have hlen := r'.length
    refine call_tuple_list pl.isList (fun h' kp => ?_) (by simp only [List.size_toArray] <;> omega)
    have I1 : Inv X pins σ H { s with heap := h' } := I.kept (t' := s.toks) kp
    have I2 : Inv X pins σ (upd H h'.objs.size (.tup ys)) { s with heap := h'.push { cls := .type "tuple", data := .seq its.toArray } } :=
      I1.laid (t' := s.toks) (fun b o e => Heap.get?_push_of_some _ e) (Nat.le_refl _) (show ObjOk X.prog X.w _ _ _ (.tup ys) from ⟨hz, its, r', jt.new _ _⟩)
    exact ⟨.ref h'.objs.size, _, I2, rfl, q _ (I1.hok.fresh (Nat.le_refl _))⟩
  · obtain ⟨its, r', pl, hz⟩ := I.tuple hq
    exact call_tuple_same pl ⟨.ref p, H, I, rfl, q⟩
def CD (K : PySem.W.Frag) (T : String) (x : V) (H : Hp) : Prop := match x with
  | .str _ => T = "str"
  | .int _ => T = "int"
  | .ref p => (T = "list" ∧ ∃ xs, bE K H p xs) ∨ (T = "tuple" ∧ ((∃ o, K.lookup p = some o ∧ o.cls = .type "tuple" ∧ o.dict = none) ∨ ∃ xs, H p = some (.tup xs))) ∨
      (T = "dict" ∧ ((∃ ao, H p = some (.dK ao)) ∨ ∃ ao, H p = some (.dT ao))) ∨ (T = "set" ∧ ∃ S n, H p = some (.set S n))
  | _ => False
theorem yc {pins : List (Addr × Obj)} {σ : St} {H : Hp} {s : Shared} {T : String} {x : V} {v : Value} (I : Inv X pins σ H s) (r : RelV x v) (ty : CD X.K T x H) :
    s.TypeIs v T ∧ ∀ a, v = .ref a → ∃ ob, s.heap.get? a = some ob ∧ ob.dict = none := by
  cases x with
  | str z =>
    obtain ⟨t, rfl⟩ := r
    cases (show T = "str" from ty)
    exact ⟨typeIs_str s z t, fun _ e => nomatch e⟩
  | int i =>
    obtain ⟨t, rfl⟩ := r
    cases (show T = "int" from ty)
    exact ⟨typeIs_int s i t, fun _ e => nomatch e⟩
  | ref p =>
    cases r
    rcases ty with ⟨rfl, xs, hq⟩ | ⟨rfl, ⟨o, hk, hc, hd⟩ | ⟨xs, hk⟩⟩ | ⟨rfl, hk⟩ | ⟨rfl, S, n, hk⟩
    · obtain ⟨its, _, pl, _⟩ := I.list hq
      refine ⟨pl.isList.typeIs, fun a e => ?_⟩
      cases e
      obtain ⟨o, n, e, c, hd, _⟩ := pl
      exact ⟨o, e, hd⟩
    · refine ⟨⟨o, I.fT p o hk, hc⟩, fun a e => ?_⟩
      cases e
      exact ⟨o, I.fT _ o hk, hd⟩
    · obtain ⟨_, its, _, o, e, c, n, d, hd⟩ := I.hok p _ hk
      refine ⟨⟨o, e, c⟩, fun a e2 => ?_⟩
      cases e2
      exact ⟨o, e, hd⟩
    · have z : ∃ o, s.heap.get? p = some o ∧ o.ExactDict := by
        rcases hk with ⟨ao, hk⟩ | ⟨ao, hk⟩
        · obtain ⟨_, _, _, _, o, _, _, e, ex, _⟩ := I.hok p _ hk
          exact ⟨o, e, ex⟩
        · obtain ⟨_, _, _, _, o, _, _, e, ex, _⟩ := I.hok p _ hk
          exact ⟨o, e, ex⟩
      obtain ⟨o, e, ex⟩ := z
      refine ⟨⟨o, e, ex.1⟩, fun a e2 => ?_⟩
      cases e2
      exact ⟨o, e, ex.2.1⟩
    · obtain ⟨o, _, _, _, e, ex, _⟩ := I.hok p _ hk
      refine ⟨⟨o, e, ex.1⟩, fun a e2 => ?_⟩
      cases e2
      exact ⟨o, e, ex.2.1⟩
  | _ => exact False.elim ty
def F1 (K : PySem.W.Frag) (T : String) (r : V → List V → Hp → VK → Prop) (to : TE) : TE := fun σ H Q => to σ H fun x H1 => CD K T x H1 ∧ r x [] H1 Q
def JZ (K : PySem.W.Frag) (T : String) (r : V → List V → Hp → VK → Prop) (to : TE) (t : TA) : TE := fun σ H Q => to σ H fun x H1 => CD K T x H1 ∧ t σ H1 fun xs H2 => r x xs H2 Q
variable {o e : Expr} {es : List Expr} {to : TE} {t : TA} {name : Str} {apos aW : Pos} {T id : String} {r : V → List V → Hp → VK → Prop}
theorem F2 (pa : PlainAttrs T) (slot : Slot T name id) (kG : typeOf (.builtin id) = pure (.type "method_descriptor")) (hm : yb X id r) (ho : PE X o to)
    (fX : attributeBase o name X.env (eval o X.env) = eval o X.env := by rfl) (hline : (apos.endLine == aW.line) = true := by rfl) : PE X (.Call (.Attribute o name apos) [] [] aW) (F1 X.K T r to) := by
  refine ⟨?_⟩
  intro pins s σ H Q I h
  refine wpAny_Call_method0_late fX hline (thn (ho pins s σ H _ I h) fun v s1 ⟨x, H1, I1, r1, ty, q1⟩ => ?_)
  obtain ⟨h1, h2⟩ := yc I1 r1 ty
  exact ⟨T, id, pa, slot, kG, h1, h2, Calls.callWith_builtin rfl (PySem.evalArgs_none (hm pins s1 σ H1 x [] v [] Q I1 r1 .nil q1))⟩
theorem IZ (pa : PlainAttrs T) (slot : Slot T name id) (kG : typeOf (.builtin id) = pure (.type "method_descriptor")) (hm : yb X id r) (ho : PE X o to) (ha : PA X (e :: es) t)
    (fX : attributeBase o name X.env (eval o X.env) = eval o X.env := by rfl)
    (sr : ((backTo aW (starEach (e :: es) X.env)).all (fun x => !x.1) && (backToKw aW (keywordEach [] X.env)).all (fun x => x.1.isSome)
      && decide ((e :: es).length + ([] : List Keyword).length + (if ([] : List Keyword).isEmpty then 0 else 1) < 30)) = true := by rfl)
    (hline : (apos.endLine == aW.line) = true := by rfl) (hs : starEach (e :: es) X.env = (false, eval e X.env) :: starEach es X.env := by rfl) (kH : (backTo aW (starEach es X.env)).any (·.1) = false := by rfl) :
    PE X (.Call (.Attribute o name apos) (e :: es) [] aW) (JZ X.K T r to t) := by
  refine ⟨?_⟩
  intro pins s σ H Q I h
  refine wpAny_Call_method_late fX sr hline rfl (thn (ho pins s σ H _ I h) fun v s1 ⟨x, H1, I1, r1, ty, q1⟩ => ?_)
  obtain ⟨h1, h2⟩ := yc I1 r1 ty
  refine ⟨T, id, pa, slot, kG, h1, h2, ?_⟩
  have hA := ha aW pins s1 σ H1 _ I1 q1
  rw [hs] at hA ⊢
  refine Calls.callWith_builtin (by show (false || (backTo aW (starEach es X.env)).any (·.1)) = false; rw [kH] <;> rfl) (Calls.evalArgs_plain ?_)
  exact thn hA fun us s2 ⟨vs, H2, I2, r2, q2⟩ => hm pins s2 σ H2 x vs v us Q I2 r1 r2 q2
end
def ye (X : Cx) (id : String) (r : V → List V → Hp → VK → Prop) : Prop :=
  ∀ (pins : List (Addr × Obj)) (s : Shared) (σ : St) (H : Hp) (x : V) (xs : List V) (v : Value) (us : List Value) (Q : VK), Inv X pins σ H s → RelV x v → Vals xs us → r x xs H Q →
    wpAny (model X.prog X.w) X.A (call (.builtin id) (v :: us)) (EP X pins σ Q) X.xe s
theorem Vals.one : ∀ {x : V} {us : List Value}, Vals [x] us → ∃ u, us = [u] ∧ RelV x u
  | _, _, .cons r .nil => ⟨_, rfl, r⟩
theorem Vals.zero : ∀ {us : List Value}, Vals [] us → us = []
  | _, .nil => rfl
theorem Vals.dropLast {xs : List V} {us : List Value} (h : Vals xs us) : Vals xs.dropLast us.dropLast := by
  induction h with
  | nil => exact .nil
  | cons r t ih =>
    cases t with
    | nil => exact .nil
    | cons q t' => exact .cons r ih
theorem Vals.eraseIdx : ∀ {xs : List V} {us : List Value} (i : Nat), Vals xs us → Vals (xs.eraseIdx i) (us.eraseIdx i)
  | _, _, _, .nil => .nil
  | _, _, 0, .cons _ t => t
  | _, _, i + 1, .cons r t => .cons r (Vals.eraseIdx i t)
theorem v8 {α : Type} (l : List α) : l.eraseIdx (l.length - 1) = l.dropLast := by
  induction l with
  | nil => rfl
  | cons a r ih =>
    cases r with
    | nil => rfl
    | cons b r =>
      have e : (a :: b :: r).length - 1 = ((b :: r).length - 1) + 1 := by
        have h1 : (a :: b :: r).length = r.length + 2 := rfl
        have h2 : (b :: r).length = r.length + 1 := rfl
        omega
      rw [e, List.eraseIdx_cons_succ, ih]
      all_goals rfl
theorem qf {α : Type} : ∀ (l : List α) (i : Nat), (l.eraseIdx i).length ≤ l.length
  | [], _ => Nat.le_refl _
  | _ :: _, 0 => Nat.le_succ _
  | _ :: r, i + 1 => Nat.succ_le_succ (qf r i)
section
variable {X : Cx} {pins : List (Addr × Obj)} {σ : St} {H : Hp} {s : Shared} {l b : Addr} {xs ys zs : List V}
theorem Inv.su {its its' : List Value} {n : Nat} {f : Array Value → Array Value} {t' : Nat} (I : Inv X pins σ H s) (hH : H l = some (.lst xs))
    (e : s.heap.get? l = some { cls := .type "list", data := .seq its.toArray n }) (hf : f its.toArray = its'.toArray) (hv : Vals ys its') (hz : ys.length ≤ sizeLine) :
    Inv X pins σ (upd H l (.lst ys)) { s with heap := s.heap.update l (Obj.mapSeq f), toks := t' } := by
  have q := PySem.IsL.update e f
  rw [hf] at q
  refine I.write (x := l) (e := l) (by rw [hH]; exact trivial) (.inl rfl) (fun b' u hb hu => (Heap.get?_update_other s.heap (Obj.mapSeq f) (Ne.symm hb)).trans hu) ⟨_, q⟩ ?_
  exact ⟨hz, its', _, hv, q⟩
theorem Inv.Lk {its : List Value} {t' : Nat} (I : Inv X pins σ H s) (hv : Vals ys its) (hz : ys.length ≤ sizeLine) :
    Inv X pins σ (upd H s.heap.objs.size (.lst ys)) { s with heap := s.heap.push { cls := .type "list", data := .seq its.toArray }, toks := t' } :=
  I.laid (fun _ _ q => Heap.get?_push_of_some _ q) (Nat.le_refl _) ⟨hz, its, 0, hv, Heap.get?_push_size _ rfl⟩
theorem Inv.fresh (I : Inv X pins σ H s) : H s.heap.objs.size = none := I.hok.fresh (Nat.le_refl _)
theorem Inv.kI (I : Inv X pins σ H s) (hH : H l = some (.lst xs)) : xs.length ≤ sizeLine ∧ ∃ (its : List Value) (n : Nat), Vals xs its ∧ xs.length = its.length ∧ s.heap.get? l = some { cls := .type "list", data := .seq its.toArray n } := by
  obtain ⟨z, its, n, r, e⟩ := I.hok l _ hH
  exact ⟨z, its, n, r, r.length, e⟩
theorem A7 {n : Nat} (h : n ≤ sizeLine) : Builtin.List.listTooLong n = false := by
  unfold Builtin.List.listTooLong
  exact decide_eq_false (by omega)
end
section
variable {X : Cx}
def DX : V → List V → Hp → VK → Prop := fun x vs H Q => ∃ l xs y, x = .ref l ∧ vs = [y] ∧ H l = some (.lst xs) ∧ xs.length < sizeLine ∧ Q .aq (upd H l (.lst (xs ++ [y])))
theorem kJ : ye X "list.append" DX := by
  intro pins s σ H x vs v us Q I rx rv h
  obtain ⟨l, xs, y, rfl, rfl, hH, hz, q⟩ := h
  cases rx
  obtain ⟨u, rfl, ru⟩ := rv.one
  obtain ⟨z, its, n, r, hl, e⟩ := I.kI hH
  refine call_meets F.slot_list_append ⟨_, e, rfl⟩ F.entry_list_append (F.args_list_append_2 _ _) (PySem.list_append l its.toArray n u (by rw [List.size_toArray]; omega)) ⟨e, ?_⟩
  refine ⟨.aq, _, I.su (its' := its ++ [u]) hH e (by simp) (r.append (.cons ru .nil)) ?_, rfl, q⟩
  rw [List.length_append, List.length_singleton]
  omega
def DY : V → List V → Hp → VK → Prop := fun x vs H Q => ∃ l b xs zs, x = .ref l ∧ vs = [.ref b] ∧ H l = some (.lst xs) ∧ H b = some (.lst zs) ∧ xs.length + zs.length ≤ sizeLine ∧ Q .aq (upd H l (.lst (xs ++ zs)))
theorem J0 : ye X "list.extend" DY := by
  intro pins s σ H x vs v us Q I rx rv h
  obtain ⟨l, b, xs, zs, rfl, rfl, hH, hB, hz, q⟩ := h
  cases rx
  obtain ⟨u, rfl, ru⟩ := rv.one
  cases ru
  obtain ⟨z, its, n, r, hl, e⟩ := I.kI hH
  obtain ⟨z2, cS, n2, r2, jh, e2⟩ := I.kI hB
  have hsz : its.toArray.size + cS.toArray.size ≤ sizeLine := by rw [List.size_toArray, List.size_toArray]; omega
  have Ja : ¬ (!its.toArray.isEmpty && Builtin.List.listTooLong (its.toArray.size + cS.toArray.size)) = true := by
    rw [A7 hsz, Bool.and_false]
    exact Bool.false_ne_true
  refine call_meets F.slot_list_extend ⟨_, e, rfl⟩ F.entry_list_extend (F.args_list_extend_2 _ _)
    (AutoSeq1.list_extend_list_list_0 l its.toArray n b cS.toArray n2 Ja (by rw [List.size_toArray]; omega) (by omega)) ⟨e, e2, ?_⟩
  refine ⟨.aq, _, I.su (its' := its ++ cS) hH e (by simp) (r.append r2) ?_, rfl, q⟩
  rw [List.length_append]
  omega
def Ln : V → List V → Hp → VK → Prop := fun x vs H Q => ∃ l xs y, x = .ref l ∧ vs = [] ∧ H l = some (.lst xs) ∧ xs[xs.length - 1]? = some y ∧ Q y (upd H l (.lst xs.dropLast))
theorem MB : ye X "list.pop" Ln := by
  intro pins s σ H x vs v us Q I rx rv h
  obtain ⟨l, xs, y, rfl, rfl, hH, hy, q⟩ := h
  cases rx
  have F3 := rv.zero
  subst F3
  obtain ⟨z, its, n, r, hl, e⟩ := I.kI hH
  obtain ⟨u, hu, ru⟩ := r.get hy
  have F4 : its.toArray[its.toArray.size - 1]? = some u := by
    show its.toArray[its.length - 1]? = some u
    rw [← Array.getElem?_toList, ← hl]
    exact hu
  refine call_meets F.slot_list_pop ⟨_, e, rfl⟩ F.entry_list_pop (F.args_list_pop_1 _) (MeetsSeq.list_pop_last l its.toArray n u F4 (by rw [List.size_toArray]; omega)) ⟨e, ?_⟩
  refine ⟨y, _, I.su (its' := its.dropLast) hH e ?_ r.dropLast ?_, ru, q⟩
  · show its.toArray.eraseIdxIfInBounds (its.toArray.size - 1) = its.dropLast.toArray
    rw [List.size_toArray, List.eraseIdxIfInBounds_toArray, v8]
  · rw [List.length_dropLast]
    omega
def F5 : V → List V → Hp → VK → Prop := fun x vs H Q => ∃ l xs i k y, x = .ref l ∧ vs = [.int i] ∧ H l = some (.lst xs) ∧ -(2 ^ 63) ≤ i ∧ i < 2 ^ 63 ∧ seqIndex? i xs.length = some k ∧ xs[k]? = some y ∧ Q y (upd H l (.lst (xs.eraseIdx k)))
theorem A8 : ye X "list.pop" F5 := by
  intro pins s σ H x vs v us Q I rx rv h
  obtain ⟨l, xs, i, k, y, rfl, rfl, hH, h1, h2, hk, hy, q⟩ := h
  cases rx
  obtain ⟨u, rfl, ru⟩ := rv.one
  obtain ⟨t, rfl⟩ := ru
  obtain ⟨z, its, n, r, hl, e⟩ := I.kI hH
  obtain ⟨w, hw, jB⟩ := r.get hy
  refine call_meets F.slot_list_pop ⟨_, e, rfl⟩ F.entry_list_pop (F.args_list_pop_2 _ _)
    (MeetsSeq.list_pop_at l its.toArray n i t k w (fitsIndex_both h1 h2) (by rw [List.size_toArray, ← hl]; exact hk) (by rw [← Array.getElem?_toList]; exact hw) (by rw [List.size_toArray]; omega)) ⟨e, ?_⟩
  refine ⟨y, _, I.su (its' := its.eraseIdx k) hH e ?_ (r.eraseIdx k) ?_, jB, q⟩
  · show its.toArray.eraseIdxIfInBounds k = (its.eraseIdx k).toArray
    rw [List.eraseIdxIfInBounds_toArray]
  · have := qf xs k
    omega
def F6 : V → List V → Hp → VK → Prop := fun x vs H Q => ∃ l xs, x = .ref l ∧ vs = [] ∧ H l = some (.lst xs) ∧ Q .aq (upd H l (.lst []))
theorem A9 : ye X "list.clear" F6 := by
  intro pins s σ H x vs v us Q I rx rv h
  obtain ⟨l, xs, rfl, rfl, hH, q⟩ := h
  cases rx
  have F3 := rv.zero
  subst F3
  obtain ⟨z, its, n, r, hl, e⟩ := I.kI hH
  refine call_meets F.slot_list_clear ⟨_, e, rfl⟩ F.entry_list_clear (F.args_list_clear_1 _) (AutoSeq1.list_clear_list_0 l its.toArray n (by rw [List.size_toArray]; omega)) ⟨e, ?_⟩
  exact ⟨.aq, _, I.su (its' := []) (ys := []) hH e rfl .nil (Nat.zero_le _), rfl, q⟩
def Lp : R2 := fun x y H Q => ∃ l b xs zs, x = .ref l ∧ y = .ref b ∧ H l = some (.lst xs) ∧ H b = some (.lst zs) ∧ xs.length + zs.length ≤ sizeLine ∧ ∀ p, H p = none → Q (.ref p) (upd H p (.lst (xs ++ zs)))
theorem F7 : OpR X (binaryOp .Add) Lp := by
  intro pins s σ H x y v u Q I rx ry h
  obtain ⟨l, b, xs, zs, rfl, rfl, hH, hB, hz, q⟩ := h
  cases rx
  cases ry
  obtain ⟨z, its, n, r, hl, e⟩ := I.kI hH
  obtain ⟨z2, cS, n2, r2, jh, e2⟩ := I.kI hB
  refine PySem.P.add_list e e2 ?_ (by rw [List.size_toArray, List.size_toArray]; omega)
  have ea : its.toArray ++ cS.toArray = (its ++ cS).toArray := by simp
  rw [ea]
  exact ⟨.ref _, _, I.Lk (t' := s.toks) (r.append r2) (by rw [List.length_append]; omega), rfl, q _ I.fresh⟩
end
end L2
namespace J1
open PySem PySem.W PySem.Calls PyProof.Rows
theorem nS {P : Params} {h : Heap} : ∀ (ns : List Int) (vs : List Value), WellAll P h vs (ns.map WData.int) → IntsAre vs ns := by
  intro ns
  induction ns with
  | nil =>
    intro vs w
    rw [List.map_nil] at w
    cases w
    exact .nil
  | cons n ns ih =>
    intro vs w
    rw [List.map_cons] at w
    cases w with
    | cons a b =>
      cases a
      exact .cons _ _ (ih _ b)
theorem yf {l : OpenLaw} {n : Nat} (hn : l.most = some n) {P : Params} {h : Heap} {args : List WData} {vals : List Value}
    (wa : l.row.toRowW.claim.pre args = true) (yg : WellAll P h vals args) :
    ∃ a vs ns, vals = [Value.ref a] ∧ args = [WData.list (ns.map WData.int)] ∧ h.get? a = some { cls := .type "list", data := .seq vs.toArray } ∧ IntsAre vs ns ∧ ns.length ≤ n := by
  have MC : WShape.hasAll [] args [.list .int] = true := (pre_splitW wa).1
  have hc : l.pre.holds [] { args := args } = true := (pre_splitW wa).2
  obtain ⟨d, r, rfl, h1, h2⟩ := hasAllW_cons MC
  obtain rfl := hasAllW_nil h2
  obtain ⟨xs, rfl, h3⟩ := hasW_list h1
  obtain ⟨ns, rfl⟩ := items_int h3
  have hlen : ns.length ≤ n := by
    unfold OpenLaw.pre at hc
    have h4 : (WTm.not (.lt (.lit (.int (n : Int))) (.len (.arg 0)))).holds [] { args := [.list (ns.map .int)] } = true := by
      have h4 := (holds_andW hc).1
      rw [hn] at h4
      exact h4
    have h5 := condW_of h4 (w_not (w_lt w_lit (w_len_list (w_arg rfl))))
    rw [List.length_map] at h5
    refine Nat.le_of_not_lt fun q => ?_
    have q' : (n : Int) < ((ns.length : Nat) : Int) := by omega
    first
      | (rw [decide_eq_true q'] at h5; exact absurd h5 (by decide))
      | (simp at h5; omega)
  cases yg with
  | cons w1 w2 =>
    cases w2
    cases w1 with
    | list ho Lq => exact ⟨_, _, ns, rfl, rfl, ho, nS ns _ Lq, hlen⟩
theorem yh (l : OpenLaw) (args : List WData) : l.row.toRowW.claim.post args (.bool true) args = true :=
  postW_of (r := l.row.toRowW) (X := (true == true))
    (show WShape.has [] (.bool true) .bool = true by first | rfl | decide | simp [WShape.has, WShape.arms, WShape.armsAll])
    (show (WTm.eq .res (.lit (.bool true))).value [] { args := args, res := some (.bool true), after := args } = some (.bool (true == true)) from w_eq_bool (w_res rfl) w_lit) rfl
theorem uF {l : OpenLaw} {n : Nat} {q : Program} {loose : List Str} {XP : (Str → Option Value) → Heap → Prop} {YP : World → Heap → Prop} {d : DefRec}
    (hn : l.most = some n) (yi : d.params.defaults = [])
    (call : ∀ (w : World) (s₀ az : Shared) (mg mb : Str → Option Value) (fa : Addr) (o : Obj) (pm cd doc : Value) (a : Addr) (vs : List Value) (ns : List Int),
      Ground q loose [] XP w s₀ mg mb az.heap → YP w az.heap →
      az.heap.get? fa = some o → o.data = .func (docDef d.name d.params d.body d.scope pm cd doc) → az.heap.CodeRec cd d.name → mg d.name = some (.ref fa) →
      az.heap.get? a = some { cls := .type "list", data := .seq vs.toArray } → IntsAre vs ns → ns.length ≤ n → az.gens = #[] →
      codeAny (model l.prog w) callerA (.call (.ref fa) ⟨[.ref a], []⟩) (fun r s' => r = .ok (.ret (.bool true)) ∧ OldK az.heap s'.heap ∧ s'.os = az.os ∧ AllBare s'.gens) az) :
    WalkO q loose XP YP l.row.toRowW d [] (fun f vs => PySem.call f vs) := by
  intro w s₀ az mg mb G Y fa o pm cd doc dV kV ho hd dD hD yj hg args vals as wa OU O1 yg O2
  obtain rfl : dV = .none := Dflts.none hD yi
  obtain rfl : kV = .none := Dflts.noKw hD
  obtain ⟨a, vs, ns, rfl, rfl, Ba, hints, hlen⟩ := yf hn wa yg
  refine enter_call (codeAny_mono (call w s₀ az mg mb fa o pm cd doc a vs ns G Y ho (fd_plain hd) dD yj Ba hints hlen hg) fun r s' hq => ?_)
  obtain ⟨rfl, h2, h3, h4⟩ := hq
  exact ⟨.inl ⟨.bool true, .bool true, [], rfl, fun _ => rfl, .bool true, yh l _, fun _ => ⟨List.Pairwise.nil, fun _ hm => (nomatch hm)⟩⟩, h2, h3, h4⟩
end J1
namespace L2
open PySem PySem.Spec PyProof.Rows
theorem qg : ∀ {vs : List Value} {ns : List Int}, IntsAre vs ns → Vals (ns.map V.int) vs
  | _, _, .nil => .nil
  | _, _, .cons n t h => .cons ⟨t, rfl⟩ (qg h)
def cJ (s : Stmt) : Arguments := match s with
  | .FunctionDef _ a _ _ _ _ _ _ _ _ => a
  | _ => { posonlyargs := [], args := [], vararg := none, kwonlyargs := [], kw_defaults := [], kwarg := none, defaults := [] }
def bu (s : Stmt) : List Stmt := match s with
  | .FunctionDef _ _ b _ _ _ _ _ _ _ => b
  | _ => []
def ai (s : Stmt) : Scope := match s with
  | .FunctionDef _ _ _ _ _ _ sc _ _ _ => sc
  | _ => { kind := .function, names := [], isGenerator := false, isCoroutine := false }
abbrev bj : fW := fun _ _ _ _ _ _ => False
abbrev E0 : XK := fun _ _ _ => False
theorem bb {X : Cx} : Passes bj X E0 := fun _ _ _ _ _ _ _ h => h.elim
structure qh (K : PySem.W.Frag) (x qual : Str) (st : Stmt) (f : Addr) (fd : FuncData) : Prop where
  ex : ∃ (oc : Value) (od : Option Addr) (kV doc pm : Value) (an : Option Addr) (cq ct : Value) (jf : Array (Option Value)),
    fd = PySem.W.fnOf x qual (cJ st) (bu st) (ai st) .none kV doc pm an cq ct ∧ K.lookup f = some ⟨oc, od, .func fd, jf⟩ ∧ PySem.W.codeIn K cq qual = true
  kp : PySem.W.keepIn K (.ref f) = true
section
variable {P : Program} {w : World} {K : PySem.W.Frag} {mg : Str → Option Value} {base : Heap}
theorem qh.binds {x qual : Str} {st : Stmt} {f : Addr} {fd : FuncData} {ps : List Str} (F : qh K x qual st f fd)
    (h : ∀ (kV doc pm : Value) (an : Option Addr) (cq ct : Value) (us : List Value), us.length = ps.length → bindArgs (PySem.W.fnOf x qual (cJ st) (bu st) (ai st) .none kV doc pm an cq ct) ⟨us, []⟩ = pure (ps.zip us)) : Binds K fd ps [] := by
  obtain ⟨oc, od, kV, doc, pm, an, cq, ct, jf, rfl, lk, dD⟩ := F.ex
  exact .all (h kV doc pm an cq ct)
theorem F8 {x qual : Str} {st : Stmt} {f : Addr} {oc : Value} {od an : Option Addr} {jf : Array (Option Value)} {kV doc pm cq ct : Value} (l : K.lookup f = some ⟨oc, od, .func (PySem.W.fnOf x qual (cJ st) (bu st) (ai st) .none kV doc pm an cq ct), jf⟩)
    (c : PySem.W.codeIn K cq qual = true) (k : PySem.W.keepIn K (.ref f) = true) : qh K x qual st f (PySem.W.fnOf x qual (cJ st) (bu st) (ai st) .none kV doc pm an cq ct) := ⟨⟨oc, od, kV, doc, pm, an, cq, ct, jf, rfl, l, c⟩, k⟩
end
section
variable {X : Cx}
theorem pv (i : Nat) {x : Str} {pos : Pos} (hN : X.N[i]? = some x := by rfl) (hv : mD X.env.scope x := by first | exact Or.inl rfl | exact Or.inr (Or.inl rfl) | exact Or.inr (Or.inr rfl)) (hd : (x == ("__debug__" : Str)) = false := by decide)
    (dD : (x == ("__classdict__" : Str)) = false := by decide) : PE X (.Name x pos) (E9 i) := sg hN hv hd dD
end
end L2
set_option maxHeartbeats 4000000
namespace L2
open PySem PySem.Spec PyProof.Rows
theorem jS {env : Env} : ∀ (names : List (Str × NameKind)) (acc : List (Str × Addr)), (∀ n, (n, NameKind.free) ∈ names → ∃ c, env.cells.lookup n = some c) →
    (∀ n c, acc.lookup n = some c → env.cells.lookup n = some c) →
    ∃ cl, (forIn names acc fun x r => if (x.2 == NameKind.free) = true then (do let a ← cellOf env x.1; pure (ForInStep.yield ((x.1, a) :: r))) else pure (ForInStep.yield r) : Sem (List (Str × Addr))) = pure cl ∧
      (∀ n c, cl.lookup n = some c → env.cells.lookup n = some c) ∧ (∀ n, (n, NameKind.free) ∈ names → ∃ c, cl.lookup n = some c) ∧ (∀ n c, acc.lookup n = some c → ∃ c', cl.lookup n = some c')
  | [], acc, _, h2 => ⟨acc, rfl, h2, fun n h => by simp at h, fun n c h => ⟨c, h⟩⟩
  | (n, k) :: r, acc, h1, h2 => by
    rw [List.forIn_cons]
    cases hk : (k == NameKind.free) with
    | true =>
      have ek : k = NameKind.free := by simpa using hk
      subst ek
      obtain ⟨c, hc⟩ := h1 n List.mem_cons_self
      have e1 : cellOf env n = pure c := by unfold cellOf; rw [hc]
      obtain ⟨cl, e, a1, a2, a3⟩ := jS r ((n, c) :: acc) (fun m hm => h1 m (List.mem_cons_of_mem _ hm)) (fun m c' hm => by
        rw [List.lookup_cons] at hm
        cases hb : m == n with
        | true =>
          rw [hb] at hm
          have e2 : m = n := by simpa using hb
          rw [e2, hc]; exact hm
        | false => rw [hb] at hm; exact h2 m c' hm)
      refine ⟨cl, ?_, a1, fun m hm => ?_, fun m c' hm => ?_⟩
      · simp only [if_true, e1]
        exact e
      · rcases List.mem_cons.mp hm with z | z
        · cases z
          exact a3 n c (by rw [List.lookup_cons]; simp)
        · exact a2 m z
      · by_cases hb : m = n
        · subst hb
          exact a3 m c (by rw [List.lookup_cons]; simp)
        · exact a3 m c' (by
            rw [List.lookup_cons]
            have : (m == n) = false := by simpa using hb
            rw [this]; exact hm)
    | false =>
      obtain ⟨cl, e, a1, a2, a3⟩ := jS r acc (fun m hm => h1 m (List.mem_cons_of_mem _ hm)) h2
      refine ⟨cl, ?_, a1, fun m hm => ?_, a3⟩
      · simp only [Bool.false_eq_true, if_false]
        exact e
      · rcases List.mem_cons.mp hm with z | z
        · cases z; simp at hk
        · exact a2 m z
theorem eU {scope : Scope} {env : Env} (h : ∀ n, (n, NameKind.free) ∈ scope.names → ∃ c, env.cells.lookup n = some c) :
    ∃ cl, closureFor scope env = pure cl ∧ (∀ n c, cl.lookup n = some c → env.cells.lookup n = some c) ∧ (∀ n, (n, NameKind.free) ∈ scope.names → ∃ c, cl.lookup n = some c) := by
  obtain ⟨cl, e, a1, a2, _⟩ := jS (env := env) scope.names [] h (fun n c hn => by simp at hn)
  refine ⟨cl, ?_, a1, a2⟩
  simp only [closureFor]
  rw [e]
  rfl
def cxBlock (X : Cx) (N' : List Str) (env' : Env) (A' : Around) (stack' : List Env) (s : Shared) (H : Hp) (ex : List Addr) : Cx :=
  { X with N := N', s₀ := s, H₀ := H, env := env', A := A', outer := X.stack, stack := stack', ex := ex, fn := fun _ => false, pn := [], xe := fun _ _ => False }
theorem kK {X : Cx} {pins : List (Addr × Obj)} {σ aH : St} {H H' : Hp} {s : Shared} {N' : List Str} {env' : Env} {A' : Around} {stack' : List Env} {ex : List Addr} {h1 : Heap} {m0 : Str → Option Value} {g' : Array GenState} {tk : Nat}
    (I : Inv X pins σ H s) (lZ : env'.scope.kind = .function) (Jb : env'.globals = X.env.globals) (Lr : env'.builtins = X.env.builtins)
    (cW : ∀ n c, env'.cells.lookup n = some c → X.env.cells.lookup n = some c)
    (mX : ∀ x, (env'.kindOf x = some .cell ∨ env'.kindOf x = some .free) → ∃ c, env'.cells.lookup x = some c)
    (hh : X.calm = true → A'.handled = none) (yk : A'.frames = some stack') (Ls : stack' = X.stack ∨ (stack' = env' :: X.stack ∧ env'.frame = some env'.locals))
    (hC : s.heap.objs.size ≤ env'.locals) (hf : ∀ b ∈ ex, c7 X pins H b) (wc : ∀ b ∈ ex, b < s.heap.objs.size)
    (yl : Un (dP X.stack) ex H H' s.heap h1) (hok : cj X.prog X.w H' h1) (nU : H' env'.locals = none) (nV : ∀ b o, s.heap.get? b = some o → h1.get? b = some o) (fL : h1.Ns env'.locals m0)
    (sv : ∀ (i : Nat) (x : Str) (v : V), N'[i]? = some x → aH[i]? = some (some v) → mD env'.scope x → (env'.kindOf x = some .cell ∨ env'.kindOf x = some .free) ∧ mD X.env.scope x ∧ (X.env.kindOf x = some .cell ∨ X.env.kindOf x = some .free) ∧ ∃ j : Nat, X.N[j]? = some x ∧ σ[j]? = some (some v))
    (hlen : aH.length = N'.length) (hg : Gn s.gens.size g') : Inv (cxBlock X N' env' A' stack' s H ex) [] aH H' { s with heap := h1, gens := g', toks := tk } := by
  have ym : ∀ b ∈ ex, ∀ x c, X.env.cells.lookup x = some c → c ≠ b := fun b hb => (hf b hb).2.2.2.2.1
  refine ⟨⟨I.ok.mod, lZ, Jb.trans I.ok.glob, Lr.trans I.ok.blt, hC, fun x y c a b => I.ok.inj x y c (cW x c a) (cW y c b), mX, fun _ _ z => (nomatch z), hh, yk, Ls, fun b hb => ⟨Nat.ne_of_lt (Nat.lt_of_lt_of_le (wc b hb) hC), fun x c e => ym b hb x c (cW x c e)⟩,
      I.bs, Nat.le_trans I.ok.bsz I.sz, fun b o e hb => ?_, fun b hb z => ?_, I.stack, I.jz⟩, rfl, hg, yl, ⟨m0, fL, fun i x v e1 e2 e3 => ?_⟩, fun x c e => ?_, nU, fun x c e => ?_, fun p hp => absurd (show p ∈ ([] : List (Addr × Obj)) from hp) (by simp), hok, hlen⟩
  · rcases (hf b hb).2.2.2.1 with z | z
    · exact I.ok.noex b o e z
    · exact absurd (Nat.lt_of_lt_of_le (Heap.lt_size e) (Nat.le_trans I.ok.bsz z)) (Nat.lt_irrefl _)
  · rcases List.mem_cons.mp (I.eC b z) with q | q
    · exact (hf b hb).2.1 q
    · exact (hf b hb).2.2.1 q
  · obtain ⟨k1, vx, k2, j, n1, n2⟩ := sv i x v e1 e2 e3
    obtain ⟨m, hn, hl⟩ := I.loc
    obtain ⟨u, r, l⟩ := hl j x v n1 n2 vx
    refine ⟨u, r, .inr ⟨k1, ?_⟩⟩
    obtain ⟨c', yn⟩ := mX x k1
    rcases l with ⟨kl, _⟩ | ⟨_, c, ec, z⟩
    · rcases k2 with q | q <;> (rw [kl] at q; cases q)
    · have : c' = c := Option.some.inj ((cW x c' yn).symm.trans ec)
      subst this
      exact ⟨c', yn, z.keeps nV⟩
  · obtain ⟨v, z⟩ := I.cell x c (cW x c e)
    exact ⟨v, z.keeps nV⟩
  · obtain ⟨v, o, ho, hd⟩ := I.cell x c (cW x c e)
    exact yl.free c o ho (I.freeC x c (cW x c e)) fun z => ym c z x c (cW x c e) rfl
theorem lookup_map2 {c : Str → NameKind → NameKind} : ∀ {names : List (Str × NameKind)} {x : Str}, (names.map fun (p : Str × NameKind) => (p.1, c p.1 p.2)).lookup x = (names.lookup x).map (c x)
  | [], x => rfl
  | (n, k') :: r, x => by
    have ih := @lookup_map2 c r x
    rw [List.map_cons, List.lookup_cons, List.lookup_cons]
    cases hx : x == n with
    | true =>
      have e : x = n := by simpa using hx
      subst e
      rfl
    | false => exact ih
theorem c9 {scope : Scope} {env : Env} (x : Str) : (relabel scope env).names.lookup x = (scope.names.lookup x).map fun k => if (k == .free && env.scope.kind == .function && env.kindOf x == some .cell) = true then .cell else k := by
  have e : (relabel scope env).names = scope.names.map fun p => (p.1, (fun n k => if (k == NameKind.free && env.scope.kind == .function && env.kindOf n == some .cell) = true then NameKind.cell else k) p.1 p.2) := by
    unfold relabel
    dsimp only
    congr 1
    funext p
    obtain ⟨n, k⟩ := p
    dsimp only
    split <;> rfl
  rw [e]
  exact lookup_map2 (c := fun n k => if (k == NameKind.free && env.scope.kind == .function && env.kindOf n == some .cell) = true then NameKind.cell else k)
def aF (N : List Str) (sc scope : Scope) (N' : List Str) (tn : Nat) (idx : List Nat) : Prop :=
  scope.kind = .function ∧ (∀ y ∈ scope.names, y.2 ≠ .cell ∧ (y.2 = .local → scope.names.lookup y.1 = some .local) ∧ (y.2 = .free → sc.names.lookup y.1 = some .cell ∨ sc.names.lookup y.1 = some .free)) ∧
    N'.length = tn + idx.length ∧ ∀ p ∈ idx.zip (N'.drop tn), N[p.1]? = some p.2 ∧ scope.names.lookup p.2 = some .free
instance (N : List Str) (sc scope : Scope) (N' : List Str) (tn : Nat) (idx : List Nat) : Decidable (aF N sc scope N' tn idx) := by unfold aF; infer_instance
def bg (tn : Nat) (idx : List Nat) (σ : St) : St := List.replicate tn none ++ idx.map fun i => (σ[i]?).join
theorem aF.at {N : List Str} {sc scope : Scope} {N' : List Str} {tn : Nat} {idx : List Nat} (B : aF N sc scope N' tn idx) {σ : St} {i : Nat} {x : Str} {v : V} (h1 : N'[i]? = some x) (h2 : (bg tn idx σ)[i]? = some (some v)) :
    scope.names.lookup x = some .free ∧ ∃ j : Nat, N[j]? = some x ∧ σ[j]? = some (some v) := by
  obtain ⟨_, _, b3, b4⟩ := B
  unfold bg at h2
  by_cases hi : i < tn
  · rw [List.getElem?_append_left (by simpa using hi), List.getElem?_replicate, if_pos hi] at h2
    cases h2
  · rw [List.getElem?_append_right (by simpa using hi), List.length_replicate, List.getElem?_map] at h2
    cases e : idx[i - tn]? with
    | none => rw [e] at h2; cases h2
    | some k =>
      rw [e] at h2
      have h3 : (σ[k]?).join = some v := Option.some.inj h2
      have e2 : (N'.drop tn)[i - tn]? = some x := by
        rw [List.getElem?_drop]
        have : tn + (i - tn) = i := by omega
        rw [this]; exact h1
      have m : (k, x) ∈ idx.zip (N'.drop tn) := by
        refine List.mem_of_getElem? (i := i - tn) ?_
        rw [List.getElem?_zip_eq_some]
        exact ⟨e, e2⟩
      obtain ⟨a, b⟩ := b4 _ m
      refine ⟨b, k, a, ?_⟩
      cases q : σ[k]? with
      | none => rw [q] at h3; cases h3
      | some w => rw [q] at h3; exact congrArg some h3
theorem aF.len {N : List Str} {sc scope : Scope} {N' : List Str} {tn : Nat} {idx : List Nat} (B : aF N sc scope N' tn idx) (σ : St) : (bg tn idx σ).length = N'.length := by
  rw [B.2.2.1]
  unfold bg
  simp
section
variable {X : Cx}
def iO (X : Cx) (ifs : List Expr) (tt : TT) : Prop :=
  ∀ (pins : List (Addr × Obj)) (s : Shared) (σ : St) (H : Hp) (Q : Bool → Hp → Prop), Inv X pins σ H s → tt σ H Q →
    wpAny (model X.prog X.w) X.A (forIn ifs true fun c r => if r = true then do let ok ← isTrue c X.env (eval c X.env); pure (ForInStep.yield ok) else pure (ForInStep.yield r)) (TP X pins σ Q) X.xe s
def Jc : TT := fun _ H Q => Q true H
theorem DZ : iO X [] Jc := fun _ _ _ H _ I h => wpAny_tests_nil ⟨H, I, h⟩
theorem D0 {c : Expr} {tc : TT} (h : PT X c tc) : iO X [c] tc := fun pins s σ H Q I q => wpAny_tests_one (h pins s σ H Q I q)
abbrev gD (X : Cx) (N' : List Str) (scope : Scope) (cl : List (Str × Addr)) (C : Addr) (s : Shared) (H : Hp) (fp : List Addr) : Cx := cxBlock X N' (compEnvC scope cl C X.env) X.A X.stack s H fp
abbrev Blk (X : Cx) (N' : List Str) (scope : Scope) (P : Cx → Prop) : Prop := ∀ (cl : List (Str × Addr)) (C : Addr) (s : Shared) (H : Hp) (fp : List Addr), P (gD X N' scope cl C s H fp)
def we (J : It) (g : TG) (tt : TT) (te : TE) (D : Addr) (Q : VK) (W : Nat → Nat → St → Hp → Prop) : Prop := ∀ i m τ H, W i m τ H →
  (J.stop i H ∧ Q (.ref D) H) ∨ (J.go i H ∧ ∀ x H', J.yld i H x H' → g x τ H' fun aC H2 => tt aC H2 fun b H3 => if b = true then te aC H3 fun y H4 => ∃ ys m', H4 D = some (.lst ys) ∧ ys.length < sizeLine ∧ m' < m ∧ W (i + 1) m' aC (upd H4 D (.lst (ys ++ [y]))) else ∃ m', m' < m ∧ W (i + 1) m' aC H3)
def nW (tn : Nat) (idx : List Nat) (wi : TI) (g : TG) (tt : TT) (te : TE) : TE := fun σ H Q => wi σ H fun J H1 => ∀ D, H1 D = none → ∃ W : Nat → Nat → St → Hp → Prop, (∃ m, W 0 m (bg tn idx σ) (upd H1 D (.lst []))) ∧ we J g tt te D Q W
theorem qi {pins : List (Addr × Obj)} {σ : St} {H2 : Hp} {s2 : Shared} {tg elt iter : Expr} {ifs : List Expr} {scope : Scope} {pos : Pos} {N' : List Str} {tn : Nat} {idx : List Nat} {g : TG} {tt : TT} {te : TE} {it : Addr} {fp : List Addr} {cE : Nat → Heap → Prop} {J : It}
    {cl : List (Str × Addr)} {E : Value → Shared → Prop} {RR : Value → Addr → Result → Shared → Prop} {Q : VK}
    (hc : X.calm = true) (B : aF X.N X.env.scope scope N' tn idx)
    (hg : Blk X N' scope fun Y => PG Y tg g) (ht : Blk X N' scope fun Y => iO Y ifs tt) (he : Blk X N' scope fun Y => PE Y elt te)
    (I : Inv X pins σ H2 s2) (T : Turn X.prog X.w X.K tg J fp it cE) (st : cE 0 s2.heap) (f2 : ∀ b ∈ fp, c7 X pins H2 b)
    (cM : ∀ n c, cl.lookup n = some c → X.env.cells.lookup n = some c) (ez : ∀ n, (n, NameKind.free) ∈ scope.names → ∃ c, cl.lookup n = some c)
    (hq : ∀ D, H2 D = none → ∃ W : Nat → Nat → St → Hp → Prop, (∃ m, W 0 m (bg tn idx σ) (upd H2 D (.lst []))) ∧ we J g tt te D Q W)
    (yo : ∀ D C m s' H', Inv X pins σ H' s' → c7 X pins H' C → s'.heap.Ns C m → Q (.ref D) H' → RR (.ref D) C (.ok .next) s') :
    wpAny (model X.prog X.w) X.A (newList []) (fun acc dF => wpAny (model X.prog X.w) X.A (newFunctionEnv scope X.env.globals cl [] X.env.qual none .none (some X.env)) (fun kL sx =>
      codeAny (model X.prog X.w) X.A (.compStart (.ListComp elt [⟨tg, iter, ifs, 0⟩] scope pos) 0 (.ref it) acc { kL with scope := relabel scope X.env }) (RR acc kL.locals) sx) E dF) E s2 := by
  obtain ⟨b1, b2, b3, b4⟩ := id B
  refine wpAny_newObj_type (wpAny_newFunctionEnv (fun y hy => (b2 y hy).1) (by intro y hy; simp at hy) (fun cF fY fZ => ?_) b1)
  dsimp only at fY fZ ⊢
  generalize hG : s2.heap.push { cls := .type "list", dict := none, data := .seq ([] : List Value).toArray } = G at fY fZ ⊢
  have hC : G.objs.size = s2.heap.objs.size + 1 := by rw [← hG, Heap.size_push]
  have sy : s2.heap.objs.size ≠ G.objs.size := by rw [hC]; exact Nat.ne_of_lt (Nat.lt_succ_self _)
  have gJ : s2.heap.objs.size ≤ G.objs.size := by rw [hC]; exact Nat.le_succ _
  have below : ∀ b, b < s2.heap.objs.size → b ≠ G.objs.size := fun b hb => by rw [hC]; exact Nat.ne_of_lt (Nat.lt_succ_of_lt hb)
  have old : ∀ b o, s2.heap.get? b = some o → cF.get? b = some o := fun b o e => fZ.extBut b o (below b (Heap.lt_size e)) (Heap.get?_push_of_some _ (hG ▸ Heap.get?_push_of_some _ e))
  have yp : cF.get? s2.heap.objs.size = some { cls := .type "list", data := .seq ([] : List Value).toArray } := fZ.extBut _ _ sy (Heap.get?_push_of_some _ (hG ▸ Heap.get?_push_size _ rfl))
  have qj : H2 s2.heap.objs.size = none := I.hok.fresh (Nat.le_refl _)
  have nU : upd H2 s2.heap.objs.size (.lst []) G.objs.size = none := by rw [af (Ne.symm sy)]; exact I.hok.fresh gJ
  have sA : cj X.prog X.w (upd H2 s2.heap.objs.size (.lst [])) cF := I.hok.laid old (Nat.le_refl _) ⟨Nat.zero_le _, [], 0, .nil, yp⟩
  have ig : ∀ b ∈ fp, b < s2.heap.objs.size := fun b hb => let ⟨o, e, _⟩ := T.obj _ _ st b hb; Heap.lt_size e
  obtain ⟨W, ⟨m0, w0⟩, turn⟩ := hq s2.heap.objs.size qj
  have I1 : Inv (gD X N' scope cl G.objs.size s2 H2 fp) [] (bg tn idx σ) (upd H2 s2.heap.objs.size (.lst [])) { s2 with heap := cF, toks := s2.toks + ([] : List (Str × Value)).length } := by
    refine kK (g' := s2.gens) (m0 := fun x => ([] : List (Str × Value)).reverse.lookup x) I b1 rfl rfl cM (fun x hx => ?_) (fun z => I.ok.hd z) I.ok.frames (.inl rfl) gJ f2 ig (Un.laid old (Nat.le_refl _) qj) sA nU old fY (fun i x v e1 e2 e3 => ?_) (B.len σ) I.bare.self
    · have gE : (relabel scope X.env).names.lookup x = some .cell ∨ (relabel scope X.env).names.lookup x = some .free := hx
      rw [c9] at gE
      cases q : scope.names.lookup x with
      | none => rw [q] at gE; rcases gE with z | z <;> cases z
      | some k0 =>
        have hm := PySem.mem_of_lookup q
        rw [q] at gE
        by_cases hk : k0 = .free
        · subst hk; exact ez x hm
        · have nk : (k0 == NameKind.free) = false := by simpa using hk
          have nc := (b2 _ hm).1
          simp only [Option.map_some, nk, Bool.false_and, Bool.false_eq_true, if_false] at gE
          rcases gE with z | z
          · exact absurd (Option.some.inj z) nc
          · exact absurd (Option.some.inj z) hk
    · obtain ⟨fr, j, e4, e5⟩ := B.at e1 e2
      have kx := (b2 _ (PySem.mem_of_lookup fr)).2.2 rfl
      refine ⟨?_, .inr kx, kx, j, e4, e5⟩
      show (relabel scope X.env).names.lookup x = some .cell ∨ (relabel scope X.env).names.lookup x = some .free
      rw [c9, fr]
      simp only [Option.map_some]
      split
      · exact .inl rfl
      · exact .inr rfl
  have stat : ∀ {H' : Hp}, (∀ b ∈ fp, H' b = none) → ∀ b ∈ fp, c7 (gD X N' scope cl G.objs.size s2 H2 fp) [] H' b := fun hn b hb => by
    refine ⟨hn b hb, below b (ig b hb), fun z => ?_, .inl hb, fun x c e => (f2 b hb).2.2.2.2.1 x c (cM x c e), fun p hp => absurd (show p ∈ ([] : List (Addr × Obj)) from hp) (by simp)⟩
    rcases List.mem_cons.mp (I.eC b z) with q | q
    · exact (f2 b hb).2.1 q
    · exact (f2 b hb).2.2.1 q
  have loop : ∀ dF : Shared, dF = { s2 with heap := cF, toks := s2.toks + ([] : List (Str × Value)).length } →
      codeAny (model X.prog X.w) X.A (.compLoop (.ListComp elt [⟨tg, iter, ifs, 0⟩] scope pos) 0 (.ref it) (.ref s2.heap.objs.size) (compEnvC scope cl G.objs.size X.env))
        (RR (.ref s2.heap.objs.size) G.objs.size) dF := by
    rintro dF rfl
    refine codeAny_loop rfl (fun n s' => ∃ i τ H', Inv (gD X N' scope cl G.objs.size s2 H2 fp) [] τ H' s' ∧ cE i s'.heap ∧ (∀ b ∈ fp, H' b = none) ∧ W i n τ H') (fun n s hI => ?_) m0
      ⟨0, _, _, I1, T.keep _ _ _ st fun b _ o e => old b o e, fun b hb => by rw [af (Nat.ne_of_lt (ig b hb))]; exact (f2 b hb).1, w0⟩
    show wpAny _ X.A ((compTurn (.ListComp elt [⟨tg, iter, ifs, 0⟩] scope pos) 0 (.ref it) (.ref s2.heap.objs.size) (compEnvC scope cl G.objs.size X.env)).onRaise (fun x => do noteFrame x (compEnvC scope cl G.objs.size X.env); theTreesLotGoes x)) _ _ s
    refine wpAny_noted ?_
    rw [compTurn_list]
    obtain ⟨i, τ, H3, I3, je, kD, w3⟩ := hI
    rcases turn i n τ H3 w3 with ⟨stop, qn⟩ | ⟨go, step⟩
    · refine wpAny_bind (wpAny_standAt (wpAny_bind (wpAny_mono (T.done (gD X N' scope cl G.objs.size s2 H2 fp) rfl rfl rfl hc i [] s τ H3 (fun _ _ => False) I3 (stat kD) je stop) (fun r s4 ⟨hr, I4⟩ => ?_) fun _ _ z => z.elim)))
      subst hr
      refine wpAny_pure ?_
      have J2 : Inv X pins σ H3 s4 := I.nI I4.os I4.base I4.hok I4.bare fun b hb => ⟨(f2 b hb).2.2.2.1, (f2 b hb).2.1, (f2 b hb).2.2.2.2.1, (f2 b hb).2.2.2.2.2⟩
      obtain ⟨mm, hm, _⟩ := I4.loc
      exact yo _ _ mm s4 H3 J2 (I.ju gJ I4.free) hm qn
    · refine wpAny_bind (wpAny_standAt (wpAny_bind (wpAny_mono (T.item (gD X N' scope cl G.objs.size s2 H2 fp) rfl rfl rfl hc i [] s τ H3 (fun _ _ => False) I3 (stat kD) je go) (fun r s4 ⟨u, hr, h4⟩ => ?_) fun _ _ z => z.elim)))
      subst hr
      refine wpAny_bind (wpAny_mono h4 (fun _ s5 ⟨x, H5, I5, r5, y5, fV, nO⟩ => ?_) fun _ _ z => z.elim)
      have nQ := I5.pinned (stat nO) (T.obj _ _ fV)
      have again : ∀ {gZ : St} {H7 : Hp} {s7 : Shared}, Inv (gD X N' scope cl G.objs.size s2 H2 fp) ([] ++ gX fp s5.heap) gZ H7 s7 → (∃ m', m' < n ∧ W (i + 1) m' gZ H7) →
          ∃ m, m < n ∧ ∃ i τ H', Inv (gD X N' scope cl G.objs.size s2 H2 fp) [] τ H' s7 ∧ cE i s7.heap ∧ (∀ b ∈ fp, H' b = none) ∧ W i m τ H' := fun {gZ H7 s7} I7 n7 => by
        obtain ⟨m', hm, w7⟩ := n7
        refine ⟨m', hm, i + 1, gZ, H7, I7.dU, T.keep _ _ _ fV fun b hb o e => (I7.pin (b, o) (List.mem_append_right _ (List.mem_append_right _ (cy hb e)))).1, fun b hb => ?_, w7⟩
        obtain ⟨o, e, d⟩ := T.obj _ _ fV b hb
        exact (I7.pin (b, o) (List.mem_append_right _ (List.mem_append_right _ (cy hb e)))).2.1
      refine wpAny_bind (wpAny_mono (hg cl G.objs.size s2 H2 fp _ s5 τ H5 x u _ nQ r5 (step x H5 y5)) (fun _ s6 ⟨ik, H6, I6, q6⟩ => ?_) fun _ _ z => z.elim)
      refine wpAny_bind (wpAny_mono (ht cl G.objs.size s2 H2 fp _ s6 ik H6 _ I6 q6) (fun ok s7 ⟨H7, I7, q7⟩ => ?_) fun _ _ z => z.elim)
      cases ok with
      | false => exact wpAny_pure ⟨rfl, again I7 q7⟩
      | true =>
        refine wpAny_bind (wpAny_bind (wpAny_mono (he cl G.objs.size s2 H2 fp _ s7 ik H7 _ I7 q7) (fun yv s8 ⟨y, H8, I8, r8, q8⟩ => ?_) fun _ _ z => z.elim))
        obtain ⟨ys, m', hD, hsz, kM, w8⟩ := q8
        refine wpAny_bind (wpAny_mono (kJ (X := gD X N' scope cl G.objs.size s2 H2 fp) _ s8 ik H8 (.ref s2.heap.objs.size) [y] (.ref s2.heap.objs.size) [yv] (fun v H9 => v = .aq ∧ H9 = upd H8 s2.heap.objs.size (.lst (ys ++ [y]))) I8 rfl (.cons r8 .nil) ⟨_, ys, y, rfl, rfl, hD, hsz, rfl, rfl⟩) (fun rv s9 ⟨v9, H9, I9, _, _, e9⟩ => ?_) fun _ _ z => z.elim)
        subst e9
        exact wpAny_pure (wpAny_pure ⟨rfl, again I9 ⟨m', kM, w8⟩⟩)
  exact codeAny_compStart_list (loop _ rfl) (T.self _ 0 _ _ _ (T.keep _ _ _ st fun b _ o e => old b o e) (loop _ rfl))
variable {tg elt iter : Expr} {ifs : List Expr} {scope : Scope} {pos : Pos} {N' : List Str} {tn : Nat} {idx : List Nat} {wi : TI} {g : TG} {tt : TT} {te : TE}
theorem c7.turn {pins : List (Addr × Obj)} {σ : St} {H : Hp} {s : Shared} {C : Addr} {h' : Heap} (f : c7 X pins H C) (I : Inv X pins σ H s) (hs : Heap.SameBut C s.heap h') : Inv X pins σ H { s with heap := h' } :=
  I.turned (t' := s.toks) (fun b o hb e => (hs.2 b hb).trans e) f.1 f.2.1 f.2.2.2.1 f.2.2.2.2.1 f.2.2.2.2.2
theorem mG (hc : X.calm = true) (B : aF X.N X.env.scope scope N' tn idx) (hi : PI X tg iter wi)
    (hg : Blk X N' scope fun Y => PG Y tg g) (ht : Blk X N' scope fun Y => iO Y ifs tt) (he : Blk X N' scope fun Y => PE Y elt te)
    (hs : ∀ x, foldedSetIterable iter X.env x = pure x := by intro _; rfl) : PE X (.ListComp elt [⟨tg, iter, ifs, 0⟩] scope pos) (nW tn idx wi g tt te) := by
  refine ⟨?_⟩
  intro pins s σ H Q I h
  obtain ⟨cl, fv, cM, ez⟩ := eU (scope := scope) (env := X.env) fun n hn => I.ok.has n ((B.2.1 _ hn).2.2 rfl)
  rw [eval_ListComp]
  refine wpAny_comprehension_free (use := none) rfl hs fv B.1 (fun y hy => (B.2.1 y hy).2.1) (wpAny_mono (hi pins s σ H _ I h) (fun xv s1 h1 => wpAny_mono h1 (fun si s2 h2 => ?_) fun _ _ z => z) fun _ _ z => z)
  obtain ⟨it, fp, cE, J, H2, e, I2, T, kC, f2, q2⟩ := h2
  subst e
  refine qi (RR := fun acc C => compPost (model X.prog X.w) X.A X.xe none (EP X pins σ Q) acc C) hc B hg ht he I2 T kC f2 cM ez q2 fun D C m s' H' J2 fC hm q => ?_
  exact ⟨m, hm, fun h' mH => ⟨.ref D, H', fC.turn J2 mH, rfl, q⟩⟩
theorem nX {i : Nat} {y : Str} {py f6 : Pos} (hN : X.N.Nodup) (cY : X.N[i]? = some y) (hy : X.env.scope.names.lookup y = some .local) (hc : X.calm = true) (B : aF X.N X.env.scope scope N' tn idx) (hi : PI X tg iter wi)
    (hg : Blk X N' scope fun Y => PG Y tg g) (ht : Blk X N' scope fun Y => iO Y ifs tt) (he : Blk X N' scope fun Y => PE Y elt te)
    (nY : swapsWith (.ListComp elt [⟨tg, iter, ifs, 0⟩] scope pos) (some (.Name y py)) f6.line X.env = pure true := by rfl)
    (hs : ∀ x, foldedSetIterable iter X.env x = pure x := by intro _; rfl) : PS X (.Assign [.Name y py] (.ListComp elt [⟨tg, iter, ifs, 0⟩] scope pos) f6) (oZ (nW tn idx wi g tt te) (nL i)) := by
  refine ⟨?_⟩
  intro pins s σ H D I h
  obtain ⟨cl, fv, cM, ez⟩ := eU (scope := scope) (env := X.env) fun n hn => I.ok.has n ((B.2.1 _ hn).2.2 rfl)
  rw [exec_Assign_Name_used _ _ _ _ nY]
  refine wpAny_bind (wpAny_standAt (wpAny_bind ?_))
  show wpAny _ X.A (do let _ ← comprehension (.ListComp elt [⟨tg, iter, ifs, 0⟩] scope pos) scope X.env _ (newList []) false (eval iter X.env) (some (assign (.Name y py) X.env))) _ _ s
  refine wpAny_bind (wpAny_mono (wpAny_comprehension_free (use := some (assign (.Name y py) X.env)) (Q := fun _ s' => SP X pins D .next s') rfl hs fv B.1 (fun y hy => (B.2.1 y hy).2.1)
    (wpAny_mono (hi pins s σ H _ I h) (fun xv s1 h1 => wpAny_mono h1 (fun si s2 h2 => ?_) fun _ _ z => z) fun _ _ z => z)) (fun _ s' hq => wpAny_pure (wpAny_pure hq)) fun _ _ z => z)
  obtain ⟨it, fp, cE, J, H2, e, I2, T, kC, f2, q2⟩ := h2
  subst e
  refine qi (RR := fun acc C => compPost (model X.prog X.w) X.A X.xe (some (assign (.Name y py) X.env)) (fun _ s' => SP X pins D .next s') acc C) hc B hg ht he I2 T kC f2 cM ez q2 fun E C m s' H' J2 fC hm q => ?_
  show wpAny _ X.A (assign (.Name y py) X.env (.ref E)) _ _ s'
  refine wpAny_assign_Name (store_ok2 J2 hN cY (.inl hy) (v := .ref E) rfl (fun s3 J3 ⟨a, f7, ha⟩ => ?_) (.inr hy))
  have fh : C ≠ a := by
    rcases ha with z | z
    · rw [z]; exact fC.2.1
    · exact fun w => fC.2.2.2.2.1 _ _ z w.symm
  exact ⟨m, hm.sameBut f7 fh, fun h' mH => ⟨_, H', fC.turn J3 mH, q⟩⟩
end
def Tb (P : Addr) (H : Hp) : Prop := ∃ ps, H P = some (.cD ps) ∧ TriplesOk ps.toList
section
variable {X : Cx} {pins : List (Addr × Obj)} {σ : St} {H : Hp} {s : Shared} {P : Addr} {ps more : Array Value} {h' : Heap}
theorem Inv.grown (I : Inv X pins σ H s) (hP : H P = some (.cD ps)) (k : ∀ b o, b ≠ P → s.heap.get? b = some o → h'.get? b = some o) (n : h'.get? P = some { cls := .none, data := .fields (ps ++ more) }) (t' : Nat) :
    Inv X pins σ (upd H P (.cD (ps ++ more))) { s with heap := h', toks := t' } := by
  have ne : ∀ b u, H b = some u → u ≠ .cD ps → b ≠ P := fun b u e d => vQ e hP d
  have nn : ∀ b, H b = none → b ≠ P := fun b e z => by rw [z, hP] at e; cases e
  refine I.un ⟨fun b o e q _ _ => k b o (nn b q) e, fun b o e q _ _ => ⟨o.slots, k b o (nn b q) e⟩, fun b o e q _ => by rw [af (nn b q)]; exact q, fun b o e _ => ?_, fun b xs e => by rw [af (ne b _ e (by intro z; cases z))]; exact e,
    fun b o u e => by rw [af (ne b _ e (by intro z; cases z))]; exact e, fun b qs e => ?_⟩ fun b u e => ?_
  · by_cases hb : b = P
    · subst hb; exact ⟨_, n⟩
    · exact ⟨o, k b o hb e⟩
  · by_cases hb : b = P
    · subst hb
      rw [hP] at e; cases e
      exact ⟨more, aD⟩
    · exact ⟨#[], by rw [af hb, e]; simp⟩
  · by_cases hb : b = P
    · subst hb
      rw [aD] at e; cases e
      exact n
    · rw [af hb] at e
      refine (I.hok b u e).b9 (fun c v hc q => k c v ?_ q) (fun c q => ?_) fun c xs q => ?_
      · rcases hc with z | z
        · rw [z]; exact hb
        · exact ne c _ z (by intro w; cases w)
      · rw [af (ne c _ q (by intro w; cases w))]; exact q
      · rw [af (ne c _ q (by intro w; cases w))]; exact q
theorem o9 {c : Addr} {pos : Pos} {qn : Str} {scope : Scope} {Q : Value → Shared → Prop} {A : Around} {E : Value → Shared → Prop} (I : Inv X pins σ H s) (hc : X.env.code = .ref c) (hd : PySem.W.CodeHd X.base c P) (hP : H P = some (.cD ps)) (ht : TriplesOk ps.toList)
    (h : ∀ code f9 s', TriplesOk f9.toList → Inv X pins σ (upd H P (.cD f9)) s' → (∀ b o, b ≠ P → s.heap.get? b = some o → s'.heap.get? b = some o) → s'.gens = s.gens → Q code s') : wpAny (model X.prog X.w) A (genexprCode X.env pos qn scope) Q E s := by
  have sC : s.heap.get? P = some (PySem.W.tabObj ps) := I.hok P _ hP
  have jd := hd.keeps I.bk
  have ic := jd.code sC ht
  cases q : codeAmong pos ps.toList with
  | some c' =>
    refine wpAny_genexprCode_hit hc ic q (h c' ps s ht ?_ (fun _ _ _ e => e) rfl)
    have e : upd H P (.cD ps) = H := by
      funext b
      by_cases hb : b = P
      · subst hb; rw [aD, hP]
      · rw [af hb]
    rw [e]; exact I
  | none =>
    refine wpAny_genexprCodeX hc ic (jd.tab sC) q fun c' h' tk ex h1 h2 O3 _ ta _ => ?_
    obtain ⟨_, CF⟩ := ta
    have tr : TriplesOk (ps ++ #[rawInt pos.line, rawInt pos.col, Value.ref c']).toList := by
      rw [Array.toList_append]
      exact TriplesOk_snoc _ _ _ _ ht
    exact h _ _ _ tr (I.grown hP (fun b o hb e => ex b o hb e) CF tk) (fun b o hb e => ex b o hb e) rfl
end
def mY (s bZ : Shared) : Prop := bZ.heap = s.heap ∧ bZ.os = s.os ∧ Gn s.gens.size bZ.gens
theorem Inv.mZ {X : Cx} {pins : List (Addr × Obj)} {σ : St} {H : Hp} {s bZ : Shared} (I : Inv X pins σ H s) (o : mY s bZ) : Inv X pins σ H bZ := by
  obtain ⟨h, g, d, t, os⟩ := s
  obtain ⟨h', g', d', t', CB⟩ := bZ
  obtain ⟨e1, e2, e3⟩ := o
  cases e1
  cases e2
  exact ⟨I.ok, I.os, I.bare.trans e3, I.base, I.loc, I.cell, I.free, I.freeC, I.pin, I.hok, I.len⟩
section
variable {Y : Cx} {A2 : Around} {tg elt iter : Expr} {ifs : List Expr} {scope : Scope} {pos : Pos} {it : Addr} {fp : List Addr} {cE : Nat → Heap → Prop} {J : It} {g : TG} {tt : TT} {te : TE} {pp : List (Addr × Obj)} {R : GenEnd} {Yp : Protocol}
def F9 (J : It) (g : TG) (tt : TT) (te : TE) (stopAt : Bool) (Z : Bool → Hp → Prop) (W : Nat → Nat → St → Hp → Prop) : Prop := ∀ i m τ H, W i m τ H →
  (J.stop i H ∧ Z (!stopAt) H) ∨ (J.go i H ∧ ∀ x H', J.yld i H x H' → g x τ H' fun aC H2 => tt aC H2 fun b H3 => if b = true then te aC H3 fun y H4 => ∃ c, y = .bl c ∧ (if c = stopAt then Z stopAt H4 else ∃ m', m' < m ∧ W (i + 1) m' aC H4) else ∃ m', m' < m ∧ W (i + 1) m' aC H3)
theorem Bb (hA : Y.A = A2.over (.compLoop (.GeneratorExp elt [⟨tg, iter, ifs, 0⟩] scope pos) 0 (.ref it) .none Y.env) []) (Ga : Y.xe = fun _ _ => False) (hc : Y.calm = true) (qk : Y.env.scope.isCoroutine = false)
    (T : Turn Y.prog Y.w Y.K tg J fp it cE) (hg : PG Y tg g) (ht : iO Y ifs tt) (he : PE Y elt te) (stat : ∀ {H' : Hp}, (∀ b ∈ fp, H' b = none) → ∀ b ∈ fp, c7 Y pp H' b)
    {W : Nat → Nat → St → Hp → Prop} {Z : Bool → Hp → Prop} {stopAt : Bool} (turn : F9 J g tt te stopAt Z W)
    (hR : ∀ n s₀ az τ H, Inv Y pp τ H az → Z (!stopAt) H → R n s₀ (.ok .next) az)
    (hY : ∀ n s₀ s sD c τ H, Inv Y pp τ H s → (c = stopAt → Z stopAt H) → (c ≠ stopAt → ∀ bZ, mY s bZ → sD (.send .none) bZ) → Yp n s₀ (.bool c) s sD) :
    ∀ (m n i : Nat) (τ : St) (H : Hp) (s s₀ : Shared), m < n → W i m τ H → Inv Y pp τ H s → cE i s.heap → (∀ b ∈ fp, H b = none) →
      Seg (model Y.prog Y.w) A2 R Yp n s₀ (.compLoop (.GeneratorExp elt [⟨tg, iter, ifs, 0⟩] scope pos) 0 (.ref it) .none Y.env)
        ((model Y.prog Y.w).den (.compLoop (.GeneratorExp elt [⟨tg, iter, ifs, 0⟩] scope pos) 0 (.ref it) .none Y.env)) [] s := by
  intro m
  induction m using Nat.strongRecOn with
  | ind m ih =>
    intro n i τ H s s₀ O4 w I st fr
    show Seg _ A2 _ _ _ s₀ _ ((compTurn (.GeneratorExp elt [⟨tg, iter, ifs, 0⟩] scope pos) 0 (.ref it) .none Y.env).onRaise (leaving Y.env)) [] s
    rw [compTurn_gen, Sem.onRaise_eq_wrap]
    rcases turn i m τ H w with ⟨stop, qn⟩ | ⟨go, step⟩
    · refine seg_bind_wrap (wpAny_standAt ?_)
      have d := T.done Y rfl rfl rfl hc i pp s τ H (fun _ _ => False) I (stat fr) st stop
      rw [hA] at d
      refine seg_bind_wrap (wpAny_mono d (fun r s1 ⟨hr, I1⟩ => ?_) fun _ _ z => z.elim)
      subst hr
      exact seg_end (.ok .next) (hR _ _ _ _ _ I1 qn)
    · refine seg_bind_wrap (wpAny_standAt ?_)
      have d := T.item Y rfl rfl rfl hc i pp s τ H (fun _ _ => False) I (stat fr) st go
      rw [hA] at d
      refine seg_bind_wrap (wpAny_mono d (fun r s4 ⟨u, hr, h4⟩ => ?_) fun _ _ z => z.elim)
      subst hr
      refine seg_bind_wrap (wpAny_mono h4 (fun _ s5 ⟨x, H5, I5, r5, y5, fV, nO⟩ => ?_) fun _ _ z => z.elim)
      have nQ := I5.pinned (stat nO) (T.obj _ _ fV)
      have back : ∀ {gZ : St} {H7 : Hp} {s7 : Shared}, Inv Y (pp ++ gX fp s5.heap) gZ H7 s7 → cE (i + 1) s7.heap ∧ ∀ b ∈ fp, H7 b = none := fun {gZ H7 s7} I7 => by
        refine ⟨T.keep _ _ _ fV fun b hb o e => (I7.pin (b, o) (List.mem_append_right _ (List.mem_append_right _ (cy hb e)))).1, fun b hb => ?_⟩
        obtain ⟨o, e, d⟩ := T.obj _ _ fV b hb
        exact (I7.pin (b, o) (List.mem_append_right _ (List.mem_append_right _ (cy hb e)))).2.1
      have d2 := hg _ s5 τ H5 x u _ nQ r5 (step x H5 y5)
      rw [hA, Ga] at d2
      refine seg_bind_wrap (wpAny_mono d2 (fun _ s6 ⟨ik, H6, I6, q6⟩ => ?_) fun _ _ z => z.elim)
      have d3 := ht _ s6 ik H6 _ I6 q6
      rw [hA, Ga] at d3
      refine seg_bind_wrap (wpAny_mono d3 (fun ok s7 ⟨H7, I7, q7⟩ => ?_) fun _ _ z => z.elim)
      have hy : ∀ v, yieldOut Y.env v = yieldValue v := fun v => by simp only [yieldOut, qk, Bool.false_eq_true, if_false]
      cases ok with
      | false =>
        simp only [Bool.false_eq_true, if_false] at q7 ⊢
        obtain ⟨m', kM, w7⟩ := q7
        exact seg_again rfl (ih m' kM n (i + 1) ik H7 s7 s₀ (by omega) w7 I7.dU (back I7).1 (back I7).2)
      | true =>
        simp only [if_true] at q7 ⊢
        simp only [hy]
        rw [Sem.bind_eq_wrap', Sem.bind_eq_wrap', Sem.wrap_wrap, Sem.wrap_wrap]
        have d4 := he _ s7 ik H7 _ I7 q7
        rw [hA, Ga] at d4
        refine seg_wrap (wpAny_mono d4 (fun yv s8 ⟨y, H8, I8, r8, q8⟩ => ?_) fun _ _ z => z.elim)
        obtain ⟨c, ey, q8⟩ := q8
        subst ey
        cases (show yv = Value.bool c from r8)
        obtain ⟨n, rfl⟩ : ∃ n', n = n' + 1 := ⟨n - 1, by omega⟩
        refine seg_at (seg_yield rfl rfl rfl (hY _ _ _ _ c ik H8 I8.dU (fun e => by rw [if_pos e] at q8; exact q8) fun e bZ ok => ?_))
        rw [if_neg e] at q8
        obtain ⟨m', kM, w8⟩ := q8
        have I9 := I8.mZ ok
        exact seg_again rfl (ih m' kM n (i + 1) ik H8 bZ bZ (by omega) w8 I9.dU (back I9).1 (back I9).2)
end
abbrev dW (elt tg iter : Expr) (ifs : List Expr) (scope : Scope) (pos : Pos) : Expr := .GeneratorExp elt [⟨tg, iter, ifs, 0⟩] scope pos
abbrev Gb (X : Cx) (N' : List Str) (scope : Scope) (cl : List (Str × Addr)) (C : Addr) (code : Value) (A' : Around) (s : Shared) (H : Hp) (fp : List Addr) : Cx :=
  cxBlock X N' (genEnv scope cl C code builtinsNs X.env) A' (genEnv scope cl C code builtinsNs X.env :: X.stack) s H fp
abbrev m4 (X : Cx) (N' : List Str) (scope : Scope) (k : Nat) (P : Cx → Prop) : Prop := ∀ (cl : List (Str × Addr)) (C : Addr) (code : Value) (A' : Around) (s : Shared) (H : Hp) (fp : List Addr), bG k A' → P (Gb X N' scope cl C code A' s H fp)
structure Lv (X : Cx) (pins : List (Addr × Obj)) (σ : St) (N' : List Str) (scope : Scope) (tn : Nat) (idx : List Nat) (k : Nat) (elt tg iter : Expr) (ifs : List Expr) (pos : Pos) (J : It) (H3 : Hp) (a : Addr) (s5 : Shared)
    (Y : Cx) (it : Addr) (fp : List Addr) (cE : Nat → Heap → Prop) (g : Nat) (pp : List (Addr × Obj)) : Prop where
  inv : Inv Y pp (bg tn idx σ) H3 s5
  isg : ∀ {τ : St} {H' : Hp} {s' : Shared}, Inv Y pp τ H' s' → s'.heap.IsGen a g
  st : s5.gens[g]? = some (.fresh (.compStart (dW elt tg iter ifs scope pos) 0 (.ref it) .none Y.env))
  T : Turn Y.prog Y.w Y.K tg J fp it cE
  tn0 : cE 0 s5.heap
  fr : ∀ b ∈ fp, H3 b = none
  stat : ∀ {H' : Hp}, (∀ b ∈ fp, H' b = none) → ∀ b ∈ fp, c7 Y pp H' b
  out : ∀ {τ : St} {H' : Hp} {s' : Shared}, Inv Y pp τ H' s' → Inv X pins σ H' s'
  A : Y.A = X.A.in4.in1.over (.compLoop (dW elt tg iter ifs scope pos) 0 (.ref it) .none Y.env) []
  xe : Y.xe = fun _ _ => False
  calm : Y.calm = true
  co : Y.env.scope.isCoroutine = false
  gsz : ∀ {τ : St} {H' : Hp} {s' : Shared}, Inv Y pp τ H' s' → g < s'.gens.size
  blk : ∀ P : Cx → Prop, m4 X N' scope k P → P Y
  prog : Y.prog = X.prog
  w : Y.w = X.w
section
variable {X : Cx} {tg elt iter : Expr} {ifs : List Expr} {scope : Scope} {pos : Pos} {N' : List Str} {tn : Nat} {idx : List Nat} {wi : TI} {g : TG} {tt : TT} {te : TE} {c P : Addr} {k : Nat}
def Gd (P : Addr) (wi : TI) (R : It → Hp → Prop) : St → Hp → Prop := fun σ H => wi σ H fun J H1 => Tb P H1 ∧ ∀ ps, TriplesOk ps.toList → R J (upd H1 P (.cD ps))
theorem Bc {pins : List (Addr × Obj)} {s : Shared} {σ : St} {H : Hp} {QQ : Value → Shared → Prop} {R : It → Hp → Prop} (hr : bG (k + 1) X.A) (hc : X.calm = true) (B : aF X.N X.env.scope scope N' tn idx)
    (h0 : scope.names.lookup (".0" : Str) = some .local) (qk : scope.isCoroutine = false) (fw : X.env.code = .ref c) (hd : PySem.W.CodeHd X.base c P) (fm : ∃ bm ob, BMod X.base mainGlobals X.mg bm ob)
    (hi : PI X tg iter wi) (hs : ∀ x, genFold iter X.env x = pure x) (I : Inv X pins σ H s) (h : Gd P wi R σ H)
    (q : ∀ J H3 a s5 Y it fp cE gn pp, Lv X pins σ N' scope tn idx k elt tg iter ifs pos J H3 a s5 Y it fp cE gn pp → R J H3 → QQ (.ref a) s5) :
    wpAny (model X.prog X.w) X.A (eval (dW elt tg iter ifs scope pos) X.env) QQ X.xe s := by
  obtain ⟨cl, fv, cM, ez⟩ := eU (scope := scope) (env := X.env) fun n hn => I.ok.has n ((B.2.1 _ hn).2.2 rfl)
  refine wpAny_GeneratorExp_make qk fv (fun y hy => (B.2.1 y hy).1) h0 B.1 hr.depth (thn (hi pins s σ H _ I h) fun xv s1 h1 => thn h1 fun si s2 h2 => ?_) hs
  obtain ⟨it, fp, cE, J, H2, e, I2, T, kC, f2, ⟨ps, hP, kN⟩, q2⟩ := h2
  subst e
  refine ⟨I2.nolimit, o9 I2 fw hd hP kN fun code f9 s3 MD I3 kp O5 => ?_⟩
  obtain ⟨bm, ob, bmod⟩ := fm
  have fM := bmod.keeps I3.bk
  refine wpAny_builtinsFor (by rw [I3.ok.glob]; exact fM.ns) fM.name fM.ne fM.obj fM.cls fM.dict fM.data ?_
  intro h' xI mH
  have J4 : ∀ b ∈ fp, b ≠ P := fun b hb z => by have := (f2 b hb).1; rw [z, hP] at this; cases this
  have je : cE 0 s3.heap := T.keep _ _ _ kC fun b hb o e => kp b o (J4 b hb) e
  have ig : ∀ b ∈ fp, b < s3.heap.objs.size := fun b hb => let ⟨o, e, _⟩ := T.obj _ _ je b hb; Heap.lt_size e
  have f3 : ∀ b ∈ fp, c7 X pins (upd H2 P (.cD f9)) b := fun b hb => ⟨by rw [af (J4 b hb)]; exact (f2 b hb).1, (f2 b hb).2⟩
  have hsz : h'.objs.size = s3.heap.objs.size + 1 := by rw [mH.1, Heap.size_push]
  have Jd : ∀ b o, s3.heap.get? b = some o → h'.get? b = some o := fun b o e => mH.extBut b o (Nat.ne_of_lt (Heap.lt_size e)) (Heap.get?_push_of_some _ e)
  have J5 : Gn s3.gens.size (s3.gens.push (.fresh (.compStart (dW elt tg iter ifs scope pos) 0 (.ref it) .none (genEnv scope cl s3.heap.objs.size code builtinsNs X.env)))) := ⟨AllBare.push I3.bare.1 rfl, by rw [Array.size_push]; exact Nat.le_succ _⟩
  have J6 : Inv X pins σ (upd H2 P (.cD f9)) { s3 with gens := s3.gens.push (.fresh (.compStart (dW elt tg iter ifs scope pos) 0 (.ref it) .none (genEnv scope cl s3.heap.objs.size code builtinsNs X.env))) } := I3.mZ ⟨rfl, rfl, J5⟩
  have hA : (X.A.in4.in1.over (.compLoop (dW elt tg iter ifs scope pos) 0 (.ref it) .none (genEnv scope cl s3.heap.objs.size code builtinsNs X.env)) []).frames = some (genEnv scope cl s3.heap.objs.size code builtinsNs X.env :: X.stack) := by
    show pushEnvs [_] (pushEnvs [] X.A.frames) = _
    rw [I.ok.frames]; rfl
  have jT : bG k (X.A.in4.in1.over (.compLoop (dW elt tg iter ifs scope pos) 0 (.ref it) .none (genEnv scope cl s3.heap.objs.size code builtinsNs X.env)) []) := by
    refine ⟨hr.hd, ?_, ?_⟩
    · show X.A.depth + 0 + 1 + 3 * k + 5 < recursionLimit
      have := hr.dp
      omega
    · show X.A.units + 1 + 1 + 1 + 1 + 1 + 0 + 3 + 16 * k + 200 < cLine
      have := hr.un
      omega
  generalize sE : ({ cls := .type "generator", data := .fields #[.int s3.gens.size 0, .str "<genexpr>" (s3.toks + 1), .str (X.env.qual ++ "<genexpr>") (s3.toks + 1 + 1)] } : Obj) = mI
  have rM : ∀ b o, s3.heap.get? b = some o → (h'.push mI).get? b = some o := fun b o e => Heap.get?_push_of_some _ (Jd b o e)
  have Lw : mI.isFreed = false := by rw [← sE]; rfl
  have ME : (h'.push mI).get? h'.objs.size = some mI := Heap.get?_push_size _ Lw
  have MF : h'.objs.size ≠ s3.heap.objs.size := by rw [hsz]; exact Nat.succ_ne_self _
  have MG : upd H2 P (.cD f9) h'.objs.size = none := I3.hok.fresh (by rw [hsz]; exact Nat.le_succ _)
  have I5 := kK (X := X) (N' := N') (A' := X.A.in4.in1.over (.compLoop (dW elt tg iter ifs scope pos) 0 (.ref it) .none (genEnv scope cl s3.heap.objs.size code builtinsNs X.env)) []) (env' := genEnv scope cl s3.heap.objs.size code builtinsNs X.env) (stack' := genEnv scope cl s3.heap.objs.size code builtinsNs X.env :: X.stack) (ex := fp) (h1 := h'.push mI) (m0 := fun y => if y = ".0" then some (.ref it) else none)
    (g' := s3.gens.push (.fresh (.compStart (dW elt tg iter ifs scope pos) 0 (.ref it) .none (genEnv scope cl s3.heap.objs.size code builtinsNs X.env)))) (tk := s3.toks + 1 + 1 + 1) (aH := bg tn idx σ) J6 B.1 rfl I3.ok.blt.symm cM (fun x hx => by
      have gE : scope.names.lookup x = some .cell ∨ scope.names.lookup x = some .free := hx
      rcases gE with z | z
      · exact absurd rfl ((B.2.1 _ (PySem.mem_of_lookup z)).1)
      · exact ez x (PySem.mem_of_lookup z)) (fun z => I.ok.hd z) hA (.inr ⟨rfl, rfl⟩) (Nat.le_refl _) f3 ig (Un.kept rM) (I3.hok.kept rM) (I3.hok.fresh (Nat.le_refl _)) rM (xI.push _) (fun i x v e1 e2 e3 => by
      obtain ⟨fr, j, e4, e5⟩ := B.at e1 e2
      have kx := (B.2.1 _ (PySem.mem_of_lookup fr)).2.2 rfl
      exact ⟨.inr fr, .inr kx, kx, j, e4, e5⟩) (B.len σ) (Gn.self J5)
  have MH : h'.objs.size ∉ dP X.stack := fun z => by
    rcases List.mem_cons.mp (I3.eC _ z) with q | q
    · exact Nat.ne_of_gt (Nat.lt_of_lt_of_le I3.lt (by rw [hsz]; exact Nat.le_succ _)) q
    · exact I3.E6 (by rw [hsz]; exact Nat.le_succ _) q
  have rL : ∀ v, mI.data ≠ .cell v := by rw [← sE]; intro v z; cases z
  have I6 := I5.oY (pins' := [(h'.objs.size, mI)]) (fun p hp => by
    rcases List.mem_singleton.mp hp with rfl
    exact ⟨ME, MG, MF, MH, rL⟩)
  refine q J _ _ _ (Gb X N' scope cl s3.heap.objs.size code _ _ _ fp) it fp cE s3.gens.size [(h'.objs.size, mI)] ⟨I6, fun {τ H' s'} J' => ?_, ?_, T, T.keep _ _ _ je fun b _ o e => rM b o e, fun b hb => (f3 b hb).1, fun {H'} hn b hb => ?_, fun {τ H' s'} J' => ?_, rfl, rfl, hc, qk, fun {τ H' s'} J' => ?_, fun Pp hb => hb cl _ code _ _ _ fp jT, rfl, rfl⟩ (q2 f9 MD)
  · have := (J'.pin (h'.objs.size, mI) (List.mem_append_right _ (List.mem_singleton.mpr rfl))).1
    exact ⟨mI, _, _, this, by rw [← sE], by rw [← sE], by rw [← sE]⟩
  · exact Array.getElem?_push_size ..
  · refine ⟨hn b hb, Nat.ne_of_lt (ig b hb), fun z => ?_, .inl hb, fun x c e => (f2 b hb).2.2.2.2.1 x c (cM x c e), fun p hp z => ?_⟩
    · rcases List.mem_cons.mp (I2.eC b z) with q | q
      · exact (f2 b hb).2.1 q
      · exact (f2 b hb).2.2.1 q
    · rcases List.mem_singleton.mp hp with rfl
      have z' : h'.objs.size = b := z
      have := ig b hb
      rw [← z', hsz] at this
      exact absurd this (Nat.not_lt.mpr (Nat.le_succ _))
  · exact J6.nI J'.os J'.base J'.hok J'.bare fun b hb => ⟨(f3 b hb).2.2.2.1, (f3 b hb).2.1, (f3 b hb).2.2.2.2.1, (f3 b hb).2.2.2.2.2⟩
  · have := J'.bare.2
    have e : (Gb X N' scope cl s3.heap.objs.size code (X.A.in4.in1.over (.compLoop (dW elt tg iter ifs scope pos) 0 (.ref it) .none (genEnv scope cl s3.heap.objs.size code builtinsNs X.env)) []) { s3 with gens := s3.gens.push (.fresh (.compStart (dW elt tg iter ifs scope pos) 0 (.ref it) .none (genEnv scope cl s3.heap.objs.size code builtinsNs X.env))) } (upd H2 P (.cD f9)) fp).s₀.gens.size = s3.gens.size + 1 := by
      show (s3.gens.push _).size = _
      rw [Array.size_push]
    rw [e] at this
    omega
theorem Bd {prog : Program} {w : World} {A : Around} {a : Addr} {R' : Result → Shared → Prop} (In : Nat → Shared → Prop)
    (turn : ∀ n s, In n s → wpAny (model prog w) A.in1 (pyNext (.ref a)) (fun r s1 => match r with
      | none => R' (.ok (.ret (.bool true))) s1
      | some v => ∃ c, v = .bool c ∧ if c = true then ∃ m, m < n ∧ In m s1 else R' (.ok (.ret (.bool false))) s1) (fun e s' => R' (.error e) s') s) :
    ∀ (n : Nat) (s : Shared), In n s → codeAny (model prog w) A (.builtin "all.loop" ⟨[.ref a], []⟩) R' s := by
  intro n
  induction n using Nat.strongRecOn with
  | ind n ih =>
    intro s h
    refine codeAny_builtin F.entry_all_loop ?_
    rw [Around.under_plainId F.plain_all_loop _]
    show wpAny _ A.in1 (pyNext (.ref a) >>= _) _ _ s
    refine wpAny_bind (wpAny_mono (turn n s h) (fun r s1 q => ?_) fun _ _ z => z)
    cases r with
    | none => exact wpAny_bind (wpAny_rule (wpAny_pure q))
    | some v =>
      obtain ⟨c, e, q⟩ := q
      subst e
      refine wpAny_bind (wpAny_holding (wpAny_truthy_bool ?_))
      refine wpAny_bind (wpAny_letGo ?_)
      cases c with
      | true =>
        simp only [if_true] at q ⊢
        obtain ⟨m, hm, hI⟩ := q
        exact wpAny_pure ⟨plainId_quiet F.plain_all_loop _, ih m hm s1 hI⟩
      | false =>
        simp only [Bool.false_eq_true, if_false] at q ⊢
        exact wpAny_bind (wpAny_rule (wpAny_pure q))
theorem kO {s : Shared} {g : Nat} {x : GenState} {n : Nat} (h : Gn n s.gens) (hx : x.bare = true) : Gn s.gens.size (s.setGen g x).gens := by
  refine ⟨fun y hy => ?_, ?_⟩
  · have F4 : y ∈ s.gens.setIfInBounds g x := hy
    rcases Array.mem_or_eq_of_mem_setIfInBounds F4 with z | z
    · exact h.1 y z
    · rw [z]; exact hx
  · show s.gens.size ≤ (s.gens.setIfInBounds g x).size
    rw [Array.size_setIfInBounds]
    exact Nat.le_refl _
theorem yq {s : Shared} {g : Nat} {x : GenState} (h : g < s.gens.size) : (s.setGen g x).gens[g]? = some x := by
  show (s.gens.setIfInBounds g x)[g]? = _
  rw [Array.getElem?_setIfInBounds_self]
  simp [h]
theorem yr {Y : Cx} {A2 : Around} {R : GenEnd} {Yp : Protocol} {n : Nat} {s₀ s : Shared} {it : Addr} {J : It} {fp : List Addr} {cE : Nat → Heap → Prop} (T : Turn Y.prog Y.w Y.K tg J fp it cE) {i : Nat} (st : cE i s.heap)
    (loop : Seg (model Y.prog Y.w) A2 R Yp n s₀ (.compLoop (dW elt tg iter ifs scope pos) 0 (.ref it) .none Y.env) ((model Y.prog Y.w).den (.compLoop (dW elt tg iter ifs scope pos) 0 (.ref it) .none Y.env)) [] s) :
    Seg (model Y.prog Y.w) A2 R Yp n s₀ (.compStart (dW elt tg iter ifs scope pos) 0 (.ref it) .none Y.env) ((model Y.prog Y.w).den (.compStart (dW elt tg iter ifs scope pos) 0 (.ref it) .none Y.env)) [] s := by
  show Seg _ A2 _ _ _ s₀ _ ((compStart (dW elt tg iter ifs scope pos) 0 (.ref it) .none Y.env).onRaise (leaving Y.env)) [] s
  unfold compStart
  rw [Sem.onRaise_eq_wrap]
  show Seg _ A2 _ _ _ s₀ _ ((ask >>= _).wrap _ _ _ _) [] s
  refine seg_bind_wrap (wpAny_askSetting ?_)
  split
  · exact seg_again rfl loop
  · first
      | exact seg_bind_wrap (wpAny_rule (seg_bind_wrap (wpAny_standAt (seg_bind_wrap (T.self _ i s _ _ st (seg_again rfl loop))))))
      | (refine seg_bind_wrap (wpAny_rule ?_); show Seg _ A2 _ _ _ s₀ _ ((standAt iter.pos >>= _).wrap _ _ _ _) [] s; exact seg_bind_wrap (wpAny_standAt (seg_bind_wrap (T.self _ i s _ _ st (seg_again rfl loop)))))
def Ge (P : Addr) (tn : Nat) (idx : List Nat) (wi : TI) (g : TG) (tt : TT) (te : TE) : TE := fun σ H Q => Gd P wi (fun J H1 => ∃ W : Nat → Nat → St → Hp → Prop, (∃ m, W 0 m (bg tn idx σ) H1) ∧ F9 J g tt te false (fun b H2 => Q (.bl b) H2) W) σ H
theorem Gf {p sF : Pos} (hr : bG (k + 1) X.A) (hc : X.calm = true) (B : aF X.N X.env.scope scope N' tn idx)
    (h0 : scope.names.lookup (".0" : Str) = some .local) (qk : scope.isCoroutine = false) (fw : X.env.code = .ref c) (hd : PySem.W.CodeHd X.base c P) (fm : ∃ bm ob, BMod X.base mainGlobals X.mg bm ob)
    (vb : Gl X "all") (hm : X.mg "all" = none) (hi : PI X tg iter wi) (hg : m4 X N' scope k fun Y => PG Y tg g) (ht : m4 X N' scope k fun Y => iO Y ifs tt) (he : m4 X N' scope k fun Y => PE Y elt te)
    (hs : ∀ x, genFold iter X.env x = pure x := by intro _; rfl) : PE X (.Call (.Name "all" p) [dW elt tg iter ifs scope sF] [] pos) (Ge P tn idx wi g tt te) := by
  refine ⟨?_⟩
  intro pins s σ H Q I h
  refine wpAny_Call_Name_kw (dY I vb hm PyProof.Rows.boot_all ?_)
  refine PyProof.Rows.callWith_builtin1 ?_ rfl rfl
  show wpAny _ _ (spliced ((false, eval (dW elt tg iter ifs scope sF) X.env) :: [])) _ _ s
  refine Calls.spliced_cons (Bc hr hc B h0 qk fw hd fm hi hs I h ?_)
  intro J H3 a s5 Y it fp cE gn pp G ⟨W, ⟨m0, w0⟩, turn⟩
  refine Calls.spliced_nil ?_
  refine call_function_tree F.kind_all F.plain_all F.entry_all (F.args_all1 _) ?_
  unfold Builtin.«all»
  refine wpAny_bind (m := oneArg "all" _) (wpAny_pure ?_)
  refine wpAny_bind (wpAny_pyIter_gen (G.isg G.inv) ?_)
  refine wpAny_pure ⟨plainId_quiet F.plain_all_loop _, ?_⟩
  have Gg := Bb (A2 := X.A.in4.in1) (pp := pp) (R := fun n s₀ r az => r = .ok .next ∧ ∃ τ H, Inv Y pp τ H az ∧ Q (.bl true) H)
    (Yp := fun n s₀ v s sD => ∃ c τ H, v = .bool c ∧ Inv Y pp τ H s ∧ (c = false → Q (.bl false) H) ∧ (c ≠ false → ∀ bZ, mY s bZ → sD (.send .none) bZ)) G.A G.xe G.calm G.co G.T (G.blk _ hg) (G.blk _ ht) (G.blk _ he) G.stat turn
    (fun n s₀ az τ H J z => ⟨rfl, τ, H, J, z⟩) (fun n s₀ s sD c τ H J z1 z2 => ⟨c, τ, H, rfl, J, z1, z2⟩)
  have hP := G.prog
  have hW := G.w
  rw [hP, hW] at Gg
  refine Bd (A := X.A) (fun n s => (∃ τ H, Inv Y pp τ H s) ∧ ∃ gs, s.gens[gn]? = some gs ∧ ∀ bZ, mY s bZ → gs.Goes (model X.prog X.w) X.A.in4.in1 (fun n s₀ r az => r = .ok .next ∧ ∃ τ H, Inv Y pp τ H az ∧ Q (.bl true) H)
    (fun n s₀ v s sD => ∃ c τ H, v = .bool c ∧ Inv Y pp τ H s ∧ (c = false → Q (.bl false) H) ∧ (c ≠ false → ∀ bZ, mY s bZ → sD (.send .none) bZ)) n (.send .none) bZ) ?_ (m0 + 1) s5 ?_
  · rintro n s6 ⟨⟨τ, H6, I6⟩, gs, MI, sE⟩
    have OV := G.gsz I6
    refine wpAny_of_in1 (wpAny_of_in1 (wpAny_of_in1 ?_))
    show wpAny (model X.prog X.w) X.A.in4 (pyNext (.ref a)) _ _ s6
    refine wpAny_pyNext_genexpQ (A := X.A.in4) (P := fun n s₀ az => ∃ τ H, Inv Y pp τ H az ∧ Q (.bl true) H) hr.hd I6.nolimit hr.depth (G.isg I6) MI (sE _ ⟨rfl, rfl, kO I6.bare rfl⟩) (fun v s1 J7 hb hv => ?_) (fun s1 hp h' hk => ?_)
    · obtain ⟨c, J8, H1, e, I1, z1, z2⟩ := hv
      subst e
      refine ⟨c, rfl, ?_⟩
      have yt : mY s1 (s1.setGen gn J7) := ⟨rfl, rfl, kO I1.bare hb⟩
      cases c with
      | false =>
        rw [if_neg Bool.false_ne_true]
        exact ⟨.bl false, H1, G.out (I1.mZ yt), rfl, z1 rfl⟩
      | true =>
        rw [if_pos rfl]
        have z3 := z2 (by decide)
        cases n with
        | zero => exact (z3 s1 ⟨rfl, rfl, I1.bare.self⟩).elim
        | succ m =>
          refine ⟨m, Nat.lt_succ_self _, ⟨J8, H1, I1.mZ yt⟩, J7, yq (G.gsz I1), fun bZ o => z3 bZ ⟨o.1, o.2.1, ?_⟩⟩
          exact yt.2.2.trans o.2.2
    · obtain ⟨J8, H1, I1, z1⟩ := hp
      have I2 := I1.kept (t' := s1.toks) hk
      have MJ : mY { s1 with heap := h' } { s1.setGen gn .finished with heap := h' } := ⟨rfl, rfl, kO (s := s1) I1.bare rfl⟩
      exact ⟨.bl true, H1, G.out (I2.mZ MJ), rfl, z1⟩
  · refine ⟨⟨_, _, G.inv⟩, _, G.st, fun bZ o => ⟨rfl, ?_⟩⟩
    have I7 := G.inv.mZ o
    have J9 : cE 0 bZ.heap := by rw [o.1]; exact G.tn0
    have q := yr (iter := iter) (ifs := ifs) (scope := scope) (pos := sF) (elt := elt) G.T J9 (by rw [hP, hW]; exact Gg m0 (m0 + 1) 0 _ _ bZ bZ (Nat.lt_succ_self _) w0 I7 J9 G.fr)
    rw [hP, hW] at q
    exact q
end
section
variable {X : Cx} {tg l : Expr} {tl : TE}
theorem dQ {xs : List V} {us : List Value} (r : Vals xs us) {j : Nat} (h : j < us.toArray.size) : RelV (xs.getD j .aq) us.toArray[j] := by
  have hl := r.length
  have hj : j < xs.length := by simpa [hl] using h
  obtain ⟨u, e, q⟩ := r.get (i := j) (x := xs[j]) (List.getElem?_eq_getElem hj)
  have e2 : us.toArray[j] = u := by
    rw [List.getElem?_eq_some_iff] at e
    obtain ⟨h', e⟩ := e
    simpa using e
  rw [e2, List.getD_eq_getElem?_getD, List.getElem?_eq_getElem hj]
  exact q
theorem uG : cR X (.builtin "isinstance") (fun xs H Q => ∃ x T t b, xs = [x, .ty T] ∧ fA X.K H x t ∧ PySem.W.kitOne X.K t (.type T) = some b ∧ Q (.bl b) H) := by
  intro pins s σ H xs us Q I r h
  obtain ⟨x, T, t, b, rfl, ty, e, q⟩ := h
  obtain ⟨u, w', rfl, r1, r2⟩ := vals2 r
  cases (show w' = Value.type T from r2)
  exact xW I r1 ty e fun tk => ⟨.bl b, H, I.tok tk, rfl, q⟩
theorem gS : ∀ {xs : List V} {us : List Value}, xs.length = us.length → (∀ (i : Nat) (v : V), xs[i]? = some v → ∃ u, us[i]? = some u ∧ RelV v u) → Vals xs us
  | [], [], _, _ => .nil
  | [], _ :: _, h, _ => by simp at h
  | _ :: _, [], h, _ => by simp at h
  | x :: xs, u :: us, h, g => by
    obtain ⟨u', e, r⟩ := g 0 x rfl
    have e' : u = u' := by simpa using e
    subst e'
    exact .cons r (gS (by simpa using h) fun i v hv => by
      obtain ⟨w, e2, r2⟩ := g (i + 1) v (by simpa using hv)
      exact ⟨w, by simpa using e2, r2⟩)
theorem sG {e : Expr} {te : TE} {p p1 p2 pos : Pos} (hc : X.calm = true) (hg : Gl X "list") (hm : X.mg "list" = none) (sH : Gl X "range") (sI : X.mg "range" = none) (he : PE X e te) (hs : starEach [e] X.env = [(false, eval e X.env)] := by rfl) :
    PE X (.Call (.Name "list" p) [.Call (.Name "range" p1) [e] [] p2] [] pos) (fun σ H Q => te σ H fun x H1 => ∃ j : Int, x = .int j ∧ -(2 ^ 24) ≤ j ∧ j ≤ 2 ^ 24 ∧ ∀ l, H1 l = none → Q (.ref l) (upd H1 l (.lst ((List.range j.toNat).map fun i => V.int (i : Nat))))) := by
  refine ⟨?_⟩
  intro pins s σ H Q I h
  refine wpAny_Call_Name_kw (dY I hg hm (by decide +kernel : bootBuiltins "list" = some (.type "list")) ?_)
  refine PyProof.Rows.callWith_type1 ?_ rfl rfl
  show wpAny _ _ (spliced ((false, eval (.Call (.Name "range" p1) [e] [] p2) X.env) :: [])) _ _ s
  refine Calls.spliced_cons ?_
  refine Call_ (dY I sH sI boot_range (PyProof.Rows.callWith_type1 ?_ hs rfl))
  rw [hs]
  refine Calls.spliced_cons (thn (he pins s σ H _ I h) fun v s1 ⟨x, H1, I1, r1, q1⟩ => Calls.spliced_nil ?_)
  obtain ⟨j, rfl, b1, b2, q⟩ := q1
  obtain ⟨t, rfl⟩ := r1
  refine call_range_1 ?_
  refine Calls.spliced_nil ?_
  refine call_list_range (n := j.toNat) (I1.ok.hd hc) (IsRange.new ..) (small_one (by omega) (by omega) (by omega) (by omega)) (by rw [PyProof.Rows.rangeSize_nat]; simp) (by omega) fun h' tk gb c' hk hS hit => ?_
  have I2 : Inv X pins σ H1 { s1 with heap := s1.heap.push { cls := .type "range", data := .fields #[.int 0 s1.toks, .int j t, .int 1 (s1.toks + 1)] }, toks := s1.toks + 1 + 1 } := I1.kept fun b o e => Heap.get?_push_of_some _ e
  obtain ⟨hsz, sJ⟩ := hit
  have rv : Vals ((List.range j.toNat).map fun i => V.int (i : Nat)) gb.toList := by
    refine gS (by simpa using hsz.symm) fun i v e => ?_
    rw [List.getElem?_map] at e
    cases q2 : (List.range j.toNat)[i]? with
    | none => rw [q2] at e; cases e
    | some k =>
      rw [q2] at e
      have ek : k = i := by
        obtain ⟨_, e3⟩ := List.getElem?_eq_some_iff.mp q2
        simpa using e3.symm
      have hi : i < gb.size := by
        have := (List.getElem?_eq_some_iff.mp q2).1
        rw [List.length_range] at this
        omega
      obtain ⟨t2, e4⟩ := sJ i gb[i] (by simp [hi])
      refine ⟨gb[i], by simp [hi], ?_⟩
      rw [e4]
      have e5 : v = V.int (k : Nat) := (Option.some.inj e).symm
      rw [e5, ek]
      exact ⟨t2, by simp⟩
  have ob : ObjOk X.prog X.w (upd H1 (s1.heap.push { cls := .type "range", data := .fields #[.int 0 s1.toks, .int j t, .int 1 (s1.toks + 1)] }).objs.size (.lst ((List.range j.toNat).map fun i => V.int (i : Nat)))) h' (s1.heap.push { cls := .type "range", data := .fields #[.int 0 s1.toks, .int j t, .int 1 (s1.toks + 1)] }).objs.size (.lst ((List.range j.toNat).map fun i => V.int (i : Nat))) := by
    refine ⟨?_, gb.toList, c', rv, by simpa using hS⟩
    rw [List.length_map, List.length_range]
    exact Nat.le_trans (show j.toNat ≤ 2 ^ 24 by omega) (by decide)
  exact ⟨.ref _, _, I2.laid (t' := tk) hk (Nat.le_refl _) ob, rfl, q _ (I2.hok.fresh (Nat.le_refl _))⟩
end
theorem sL : bootBuiltins "int" = some (.type "int") := by decide +kernel
theorem nZ : bootBuiltins "str" = some (.type "str") := by decide +kernel
theorem pf : bootBuiltins "bool" = some (.type "bool") := by decide +kernel
theorem cn : bootBuiltins "tuple" = some (.type "tuple") := by decide +kernel
theorem fN : bootBuiltins "list" = some (.type "list") := by decide +kernel
theorem yu : bootBuiltins "min" = some (.builtin "min") := by decide +kernel
theorem Gh : bootBuiltins "max" = some (.builtin "max") := by decide +kernel
theorem Gi : bootBuiltins "abs" = some (.builtin "abs") := by decide +kernel
theorem aB : bootBuiltins "isinstance" = some (.builtin "isinstance") := by decide +kernel
structure Bl (mg : Str → Option Value) : Prop where
  len_ : mg "len" = none
  range_ : mg "range" = none
  min_ : mg "min" = none
  max_ : mg "max" = none
  abs_ : mg "abs" = none
  list_ : mg "list" = none
  tuple_ : mg "tuple" = none
  int_ : mg "int" = none
  str_ : mg "str" = none
  bool_ : mg "bool" = none
  isinstance_ : mg "isinstance" = none
  all_ : mg "all" = none
  set_ : mg "set" = none
  sorted_ : mg "sorted" = none
  zip_ : mg "zip" = none
  enumerate_ : mg "enumerate" = none
  sum_ : mg "sum" = none
  reversed_ : mg "reversed" = none
  divmod_ : mg "divmod" = none
  any_ : mg "any" = none
  ValueError_ : mg "ValueError" = none
structure Df (K : PySem.W.Frag) (mg : Str → Option Value) (x : Str) (st : Stmt) (ps : List Str) (f : Addr) (fd : FuncData) : Prop where
  fn : qh K x x st f fd
  bd : Binds K fd ps []
  mg : mg x = some (.ref f)
structure yw (base : Heap) (fd : FuncData) (c P : Addr) : Prop where
  code : fd.code = .ref c
  hd : PySem.W.CodeHd base c P
section
variable {P : Program} {w : World} {K : PySem.W.Frag} {mg : Str → Option Value} {base : Heap}
theorem qh.MK {x qual : Str} {st : Stmt} {f : Addr} {fd : FuncData} {N ps : List Str} {k : Nat} {sp : Sp} (F : qh K x qual st f fd) (S : aV N ps (ai st)) (len : ∀ vs H Q E, sp vs H Q E → vs.length = ps.length)
    (jR : ∀ (A : Around) (outer : List Env) (s : Shared) (H : Hp) (vs : List V) (Q : VK) (E : XK), bG k (A.deeper (envOfC qual (ai st) s.heap.objs.size f fd.code)) → sp vs H Q E →
      ∃ t, fK (fi bj P w K mg base N qual (ai st) f fd.code A outer s H E).kB (bu st) t ∧ t { nx := fun _ H' => Q .aq H', rt := Q } (start N vs) H) : FnOk P w K mg base bj (k + 1) f fd ps sp := by
  obtain ⟨oc, od, kV, doc, pm, an, cq, ct, jf, rfl, lk, dD⟩ := F.ex
  refine vZ lk dD S len fun A outer s H vs Q E hr jg => ?_
  obtain ⟨t, h, q⟩ := jR A outer s H vs Q E hr jg
  exact ⟨t, h.kB, q⟩
end
def O6 : V → Bool | .int _ => true | _ => false
def below (m : Int) : V → Bool | .int i => decide (0 ≤ i) && decide (i < m) | _ => false
structure dX (ah : List (List Int)) (w : Nat) : Prop where
  one : 1 ≤ ah.length
  nine : ah.length ≤ 9
  wid : w = 2 ∨ w = 3
  row : ∀ r ∈ ah, r.length = w ∧ ∀ g ∈ r, 0 ≤ g ∧ g < (ah.length : Int)
def CG (tb : List Addr) (H : Hp) : Prop := ∀ p ∈ tb, Tb p H
def Je (H : Hp) (b : Addr) : Prop := ∃ c m : Int, H b = some (.lst [.int c, .int m]) ∧ 0 ≤ c ∧ 0 ≤ m
def Runs (J : It) (ys : List V) (H : Hp) : Prop := ∀ i, (i < ys.length → J.go i H ∧ ∀ x H', J.yld i H x H' → H' = H ∧ ys[i]? = some x) ∧ (ys.length ≤ i → J.stop i H)
theorem Be {K : PySem.W.Frag} {a : Addr} {ys : List V} {H : Hp} (h : cO K H a ys) : Runs (Fu K a) ys H := fun i =>
  ⟨fun hi => ⟨⟨ys, ys[i], h, List.getElem?_eq_getElem hi⟩, fun x H' y => ⟨y.1, y.2 ys h⟩⟩, fun hi => ⟨ys, h, hi⟩⟩
theorem yx {K : PySem.W.Frag} {a : Addr} {ys : List V} {H : Hp} (h : bE K H a ys) : Runs (Ft K a) ys H := fun i =>
  ⟨fun hi => ⟨⟨ys, ys[i], h, List.getElem?_eq_getElem hi⟩, fun x H' y => ⟨y.1, y.2 ys h⟩⟩, fun hi => ⟨ys, h, hi⟩⟩
theorem n5 {lo : Int} {n : Nat} {H : Hp} : Runs (xM lo n) ((List.range n).map fun i => V.int (lo + (i : Nat))) H := fun i => by
  have el : ((List.range n).map fun i => V.int (lo + (i : Nat))).length = n := by simp
  rw [el]
  refine ⟨fun hi => ⟨hi, fun x H' y => ?_⟩, fun hi => hi⟩
  obtain ⟨e1, e2⟩ := y
  refine ⟨e1, ?_⟩
  rw [e2, List.getElem?_map, List.getElem?_range hi]
  rfl
section
variable {X : Cx} {K : PySem.W.Frag}
theorem vc (h : X.K = K) : kF X (JY K) := h ▸ FZ
theorem yy (h : X.K = K) : cR X (.builtin "len") (fun xs H Q => ∃ x n, xs = [x] ∧ FN K x H n ∧ Q (.int n) H) := h ▸ A0
theorem ph (h : X.K = K) : cR X (.type "tuple") (fun xs H Q => ∃ p ys, xs = [.ref p] ∧ ((bE K H p ys ∧ ∀ l, H l = none → Q (.ref l) (upd H l (.tup ys))) ∨ (cO K H p ys ∧ Q (.ref p) H))) := h ▸ rq
theorem sM (h : X.K = K) : cR X (.builtin "isinstance") (fun xs H Q => ∃ x T t b, xs = [x, .ty T] ∧ fA K H x t ∧ PySem.W.kitOne K t (.type T) = some b ∧ Q (.bl b) H) := h ▸ uG
theorem Bf {tg l : Expr} {tl : TE} (h : X.K = K) (hl : PE X l tl) : PI X tg l (Cw K tl) := h ▸ DQ hl
theorem D1 {tg l : Expr} {tl : TE} (h : X.K = K) (hl : PE X l tl) : PI X tg l (Fv K tl) := h ▸ Fw hl
variable {o e : Expr} {es : List Expr} {to : TE} {t : TA} {name : Str} {apos aW : Pos} {T id : String} {r : V → List V → Hp → VK → Prop}
theorem D2 (h : X.K = K) (pa : PlainAttrs T) (slot : Slot T name id) (kG : typeOf (.builtin id) = pure (.type "method_descriptor")) (hm : yb X id r) (ho : PE X o to) (fX : attributeBase o name X.env (eval o X.env) = eval o X.env := by rfl) (hline : (apos.endLine == aW.line) = true := by rfl) :
    PE X (.Call (.Attribute o name apos) [] [] aW) (F1 K T r to) := h ▸ F2 pa slot kG hm ho fX hline
theorem Gj (h : X.K = K) (pa : PlainAttrs T) (slot : Slot T name id) (kG : typeOf (.builtin id) = pure (.type "method_descriptor")) (hm : yb X id r) (ho : PE X o to) (ha : PA X (e :: es) t) (fX : attributeBase o name X.env (eval o X.env) = eval o X.env := by rfl)
    (sr : ((backTo aW (starEach (e :: es) X.env)).all (fun x => !x.1) && (backToKw aW (keywordEach [] X.env)).all (fun x => x.1.isSome)
      && decide ((e :: es).length + ([] : List Keyword).length + (if ([] : List Keyword).isEmpty then 0 else 1) < 30)) = true := by rfl)
    (hline : (apos.endLine == aW.line) = true := by rfl) (hs : starEach (e :: es) X.env = (false, eval e X.env) :: starEach es X.env := by rfl) (kH : (backTo aW (starEach es X.env)).any (·.1) = false := by rfl) :
    PE X (.Call (.Attribute o name apos) (e :: es) [] aW) (JZ K T r to t) := h ▸ IZ pa slot kG hm ho ha fX sr hline hs kH
end
abbrev cK (K : PySem.W.Frag) (x : Str) (st : Stmt) : Prop :=
  ∃ (f : Addr) (oc : Value) (od : Option Addr) (sl : Array (Option Value)) (kV dc pm : Value) (an : Option Addr) (cd ct : Value),
    PySem.W.nsIn K mainGlobals x = some (some (.ref f)) ∧ K.lookup f = some ⟨oc, od, .func (PySem.W.fnOf x x (cJ st) (bu st) (ai st) .none kV dc pm an cd ct), sl⟩ ∧ PySem.W.codeIn K cd x = true ∧ PySem.W.keepIn K (.ref f) = true
theorem bz {K : PySem.W.Frag} {x : Str} {st : Stmt} {f : Addr} {oc : Value} {od : Option Addr} {sl : Array (Option Value)} {kV dc pm : Value} {an : Option Addr} {cd ct : Value} (a : PySem.W.nsIn K mainGlobals x = some (some (.ref f)))
    (l : K.lookup f = some ⟨oc, od, .func (PySem.W.fnOf x x (cJ st) (bu st) (ai st) .none kV dc pm an cd ct), sl⟩) (c : PySem.W.codeIn K cd x = true) (k : PySem.W.keepIn K (.ref f) = true) : cK K x st := ⟨f, oc, od, sl, kV, dc, pm, an, cd, ct, a, l, c, k⟩
theorem Bg {K : PySem.W.Frag} {x : Str} {z : Str} {tk : Tok} (a : PySem.W.nsIn K mainGlobals x = some (some (.str z tk))) : ∃ tk, PySem.W.nsIn K mainGlobals x = some (some (.str z tk)) := ⟨tk, a⟩
theorem Bh {K : PySem.W.Frag} {x : Str} {z : Int} {tk : Tok} (a : PySem.W.nsIn K mainGlobals x = some (some (.int z tk))) : ∃ tk, PySem.W.nsIn K mainGlobals x = some (some (.int z tk)) := ⟨tk, a⟩
section
variable {K : PySem.W.Frag} {mg : Str → Option Value} {h base : Heap}
theorem cK.df {x : Str} {st : Stmt} (d : cK K x st) (X : K.In h) (G : h.Ns mainGlobals mg) (ps : List Str)
    (hb : ∀ (kV doc pm : Value) (an : Option Addr) (cq ct : Value) (us : List Value), us.length = ps.length → bindArgs (PySem.W.fnOf x x (cJ st) (bu st) (ai st) .none kV doc pm an cq ct) ⟨us, []⟩ = pure (ps.zip us)) :
    ∃ f fd, Df K mg x st ps f fd := by
  obtain ⟨f, oc, od, sl, kV, dc, pm, an, cd, ct, a, l, c, k⟩ := d
  have F := F8 (st := st) l c k
  exact ⟨f, _, F, F.binds hb, PySem.W.mg_of X G a⟩
theorem sN {x : Str} {st : Stmt} {ps : List Str} {f p : Addr} {fd : FuncData} (D : Df K mg x st ps f fd) (X : K.In h)
    (t : ∃ f o fd c, mg x = some (.ref f) ∧ h.get? f = some o ∧ o.data = .func fd ∧ fd.code = .ref c ∧ PySem.W.CodeHd h c p) (tr : ∀ c p, PySem.W.CodeHd h c p → PySem.W.CodeHd base c p) : ∃ c, yw base fd c p := by
  obtain ⟨f', o, CH, c, e1, e2, e3, e4, e5⟩ := t
  obtain ⟨oc, od, kV, doc, pm, an, cq, ct, jf, rfl, lk, dD⟩ := D.fn.ex
  have e := D.mg.symm.trans e1
  cases e
  have q := (X _ _ lk).symm.trans e2
  cases q
  cases e3
  exact ⟨c, e4, tr _ _ e5⟩
theorem Df.bind1 {x y : Str} {st : Stmt} {f : Addr} {fd : FuncData} (D : Df K mg x st [y] f fd) (s : Shared) (v : Value)
    (hb : ∀ (kV doc pm : Value) (an : Option Addr) (cq ct : Value) (u : Value), bindArgs (PySem.W.fnOf x x (cJ st) (bu st) (ai st) .none kV doc pm an cq ct) ⟨[u], []⟩ = pure [(y, u)]) : BindsTo s fd ⟨[v], []⟩ [(y, v)] := by
  obtain ⟨oc, od, kV, doc, pm, an, cq, ct, jf, rfl, lk, dD⟩ := D.fn.ex
  exact .of_eq (hb kV doc pm an cq ct v)
theorem jv {α β : Type} {F : α → β → Prop} {a : α} {r : List α} {t : List β} (h : Paired F (a :: r) t) : ∃ b t', t = b :: t' ∧ F a b ∧ Paired F r t' := by
  cases h with
  | cons x y => exact ⟨_, _, rfl, x, y⟩
theorem D3 {q : Program} {nms : List Str} (h : (nms.all fun y => (recsOf q).any fun r => decide (r.name = y)) = true) : ∀ y ∈ nms, ∃ r ∈ recsOf q, r.name = y := fun y hy => by
  have := List.all_eq_true.mp h y hy
  obtain ⟨r, hr, e⟩ := List.any_eq_true.mp this
  exact ⟨r, hr, of_decide_eq_true e⟩
end
def jC (xs : Array Nat) : Prop := xs.toList.Pairwise (· < ·)
theorem n6 {xs : Array Nat} (h : jC xs) {i j : Nat} (Ka : i < j) (hj : j < xs.size) : xs[i] < xs[j] := by
  have := List.pairwise_iff_getElem.mp h i j (by simpa using Nat.lt_trans Ka hj) (by simpa using hj) Ka
  simpa using this
theorem below_go {xs : Array Nat} {v : Nat} (h : jC xs) : ∀ (fuel lo hi : Nat), hi - lo ≤ fuel → lo ≤ hi → hi ≤ xs.size → (∀ i (cY : i < xs.size), i < lo → xs[i] < v) → (∀ i (cY : i < xs.size), hi ≤ i → v ≤ xs[i]) →
    SetTable.below.go xs v fuel lo hi ≤ xs.size ∧ (∀ i (cY : i < xs.size), i < SetTable.below.go xs v fuel lo hi → xs[i] < v) ∧ ∀ i (cY : i < xs.size), SetTable.below.go xs v fuel lo hi ≤ i → v ≤ xs[i]
  | 0, lo, hi, hf, h1, h2, ha, hb => by
    have e : lo = hi := by omega
    subst e
    exact ⟨h2, ha, hb⟩
  | fuel + 1, lo, hi, hf, h1, h2, ha, hb => by
    unfold SetTable.below.go
    by_cases aT : lo < hi
    · rw [if_pos aT]
      dsimp only
      have hm : (lo + hi) / 2 < xs.size := by omega
      have e : xs.getD ((lo + hi) / 2) v = xs[(lo + hi) / 2] := by simp [Array.getD, hm]
      rw [e]
      by_cases hc : xs[(lo + hi) / 2] < v
      · rw [if_pos hc]
        refine below_go h fuel _ _ (by omega) (by omega) h2 (fun i cY hl => ?_) hb
        by_cases ei : i = (lo + hi) / 2
        · subst ei; exact hc
        · exact Nat.lt_trans (n6 h (show i < (lo + hi) / 2 by omega) hm) hc
      · rw [if_neg hc]
        refine below_go h fuel _ _ (by omega) (by omega) (by omega) ha (fun i cY hl => ?_)
        by_cases ei : i = (lo + hi) / 2
        · subst ei; exact Nat.le_of_not_lt hc
        · exact Nat.le_trans (Nat.le_of_not_lt hc) (Nat.le_of_lt (n6 h (show (lo + hi) / 2 < i by omega) cY))
    · rw [if_neg aT]
      have e : lo = hi := by omega
      subst e
      exact ⟨h2, ha, hb⟩
theorem m5 {xs : Array Nat} (v : Nat) (h : jC xs) : SetTable.below xs v ≤ xs.size ∧ (∀ i (cY : i < xs.size), i < SetTable.below xs v → xs[i] < v) ∧ ∀ i (cY : i < xs.size), SetTable.below xs v ≤ i → v ≤ xs[i] :=
  below_go h _ _ _ (by omega) (Nat.zero_le _) (Nat.le_refl _) (fun i _ z => absurd z (Nat.not_lt_zero _)) (fun i z z' => absurd z (Nat.not_lt.mpr z'))
theorem wg {xs : Array Nat} {v : Nat} (h : jC xs) (hn : xs[SetTable.below xs v]? ≠ some v) : jC (SetTable.insertAt xs (SetTable.below xs v) v) := by
  obtain ⟨b0, b1, b2⟩ := m5 v h
  generalize SetTable.below xs v = p at *
  unfold jC SetTable.insertAt
  have e : ((xs.extract 0 p).push v ++ xs.extract p xs.size).toList = xs.toList.take p ++ [v] ++ xs.toList.drop p := by
    simp
    exact List.take_of_length_le (by simp)
  rw [e]
  have hl : ∀ y ∈ xs.toList.take p, y < v := fun y hy => by
    obtain ⟨i, hi, rfl⟩ := List.mem_take_iff_getElem.mp hy
    have mJ : i < p ∧ i < xs.size := by simpa [Nat.lt_min] using hi
    simpa using b1 i mJ.2 mJ.1
  have hr : ∀ y ∈ xs.toList.drop p, v < y := fun y hy => by
    obtain ⟨i, hi, rfl⟩ := List.mem_drop_iff_getElem.mp hy
    have mJ : p + i < xs.size := by rw [Nat.add_comm]; simpa using hi
    have h1 : v ≤ xs[p + i] := b2 (p + i) mJ (Nat.le_add_right _ _)
    have h2 : v ≠ xs[p + i] := fun z => by
      by_cases ML : i = 0
      · subst ML
        exact hn (by rw [Nat.add_zero] at mJ; rw [Array.getElem?_eq_getElem mJ]; simpa using z.symm)
      · have q := n6 h (show p < p + i by omega) mJ
        have q2 := b2 p (by omega) (Nat.le_refl _)
        omega
    have : xs.toList[p + i]'(by simpa using mJ) = xs[p + i] := by simp
    rw [this]
    omega
  have hp := List.take_append_drop p xs.toList
  have MM : (xs.toList.take p ++ xs.toList.drop p).Pairwise (· < ·) := by rw [hp]; exact h
  obtain ⟨q1, q2, q3⟩ := List.pairwise_append.mp MM
  refine List.pairwise_append.mpr ⟨List.pairwise_append.mpr ⟨q1, List.pairwise_singleton _ _, fun a ha b hb => ?_⟩, q2, fun a ha b hb => ?_⟩
  · rw [List.mem_singleton] at hb; subst hb; exact hl a ha
  · rcases List.mem_append.mp ha with ha | ha
    · exact q3 a ha b hb
    · rw [List.mem_singleton] at ha; subst ha; exact hr b hb
structure bM (w : World) (t : SetTable) : Prop where
  dum : t.dummies = #[]
  ris : jC t.place
  led : t.led = !w.params.followText "set-order"
theorem yz (n : Nat) : jC (Array.range n) := by
  unfold jC
  rw [Array.toList_range]
  exact List.pairwise_lt_range
theorem bM.standIn {w : World} {t : SetTable} (h : bM w t) (n : Nat) : bM w (t.standIn n) := ⟨rfl, yz n, h.led⟩
theorem bM.orStandIn {w : World} {t : SetTable} (h : bM w t) (n : Nat) : bM w (t.orStandIn n) := by
  unfold SetTable.orStandIn
  split
  · exact h
  · exact h.standIn n
theorem vd (j : Nat) : SetTable.has #[] j = false := by
  unfold SetTable.has
  have : (#[] : Array Nat)[SetTable.below #[] j]? = none := by simp
  rw [this]
  rfl
theorem sO {w : World} {t : SetTable} (h : bM w t) {hashAt : Nat → Int} {hh : Int} {j : Nat} {d : Option Nat} : ∀ (fuel : Nat) (p : SetTable.Probe), p.dummy = none → SetTable.probe.go t hashAt hh fuel p = some (.empty j d) → t.slot j = .empty ∧ d = none
  | 0, p, _, e => by simp [SetTable.probe.go] at e
  | fuel + 1, p, hp, e => by
    unfold SetTable.probe.go at e
    have Lx : ∀ p : SetTable.Probe, (t.advance p).dummy = p.dummy := fun p => by
      unfold SetTable.advance
      split <;> rfl
    cases hs : t.slot p.j with
    | empty =>
      rw [hs] at e
      have e' := Option.some.inj e
      injection e' with e1 e2
      exact ⟨by rw [← e1]; exact hs, by rw [← e2]; exact hp⟩
    | dummy =>
      exfalso
      unfold SetTable.slot at hs
      dsimp only at hs
      rw [h.dum, vd] at hs
      split at hs <;> simp at hs
    | live i =>
      rw [hs] at e
      dsimp only at e
      split at e
      · simp at e
      · exact sO h fuel _ (by rw [Lx]; exact hp) e
theorem wj {w : World} {t : SetTable} (h : bM w t) {j : Nat} (e : t.slot j = .empty) : t.place[SetTable.below t.place j]? ≠ some j := fun z => by
  unfold SetTable.slot at e
  dsimp only at e
  rw [z] at e
  simp at e
theorem bM.put {w : World} {t : SetTable} (h : bM w t) {j : Nat} (e : t.slot j = .empty) : bM w (t.put j).1 := by
  unfold SetTable.put
  refine ⟨?_, wg h.ris (wj h e), h.led⟩
  show (if SetTable.has t.dummies j then _ else t.dummies) = #[]
  rw [h.dum, vd]
  rfl
theorem bM.layNew {w : World} {t : SetTable} (h : bM w t) (es : Array (Int × Value)) (hh : Int) (x : Value) : bM w (layNew t es hh x).2.1 := by
  unfold PySem.layNew
  split
  · rename_i slot m6 hf
    unfold SetTable.freeSlot at hf
    refine (bM.put h ?_).orStandIn _
    split at hf
    · rename_i j dummy hp
      obtain ⟨e1, e2⟩ := sO h _ _ rfl hp
      subst e2
      have := Option.some.inj hf
      injection this with z1 _
      rw [← z1]
      exact e1
    · cases hf
  · exact h.standIn _
theorem Bi {α : Type} (f : Nat → Option α) (n : Nat) : jC (((List.range n).filterMap fun j => (f j).map (j, ·)).map (·.1)).toArray := by
  unfold jC
  have e : (((List.range n).filterMap fun j => (f j).map (j, ·)).map (·.1)).toArray.toList = (List.range n).filter fun j => (f j).isSome := by
    rw [List.toList_toArray]
    induction List.range n with
    | nil => rfl
    | cons a l ih =>
      cases hf : f a with
      | none => simp [List.filterMap_cons, hf, ih]
      | some b => simp [List.filterMap_cons, hf, ih]
  rw [e]
  exact List.Pairwise.filter _ List.pairwise_lt_range
theorem bM.Jf {w : World} {t : SetTable} (h : bM w t) (es : Array (Int × Value)) (wanted : Nat) : bM w (relayAll t es wanted).2.1 := by
  unfold relayAll
  split
  · rename_i t' order hr
    dsimp only
    split
    · unfold SetTable.relaid SetTable.laid at hr
      simp only [Option.bind_eq_bind, Option.bind_eq_some_iff, Option.pure_def] at hr
      obtain ⟨owner, _, hr⟩ := hr
      have := Option.some.inj hr
      injection this with z1 _
      subst z1
      exact ⟨rfl, Bi (fun j => owner.getD j none) _, h.led⟩
    · exact h.standIn _
  · exact h.standIn _
theorem bM.Bj {w : World} {t : SetTable} (h : bM w t) (b : Bool) : bM w (if b = true then t else { t with plain := false }) := by
  split
  · exact h
  · exact ⟨h.dum, h.ris, h.led⟩
def dn (e : Int × Value) : Int := match e.2 with | .int i _ => i | _ => 0
def bH (P : Program) (w : World) (h : Heap) (a : Addr) (ns : List Int) : Prop :=
  ∃ o es ep t, h.get? a = some o ∧ o.ExactSet ∧ o.data = .set es ep t ∧ ElemsOf (intKind P w) es.toList ∧ (es.toList.map dn).Perm ns ∧ ns.Nodup ∧ es.size < scanBound ∧ t.fits es.size = true ∧ bM w t
theorem bH.b9 {P : Program} {w : World} {h h' : Heap} {a : Addr} {ns : List Int} (x : bH P w h a ns) (k : ∀ o, h.get? a = some o → h'.get? a = some o) : bH P w h' a ns :=
  let ⟨o, es, ep, t, e, r⟩ := x; ⟨o, es, ep, t, k o e, r⟩
def fB (P : Program) (w : World) (a : Addr) (ns : List Int) : HO := .ext fun h => bH P w h a ns
def cG (ns : List Int) (m : Int) : List Int := if m ∈ ns then ns else ns ++ [m]
theorem uH {P : Program} {w : World} {es : List (Int × Value)} (h : ElemsOf (intKind P w) es) {k : Int} : (∃ e ∈ es, (intKind P w).is k e.2 = true) ↔ k ∈ es.map dn := by
  constructor
  · rintro ⟨e, he, hk⟩
    obtain ⟨t, e2⟩ := Value.isInt_shape (k := k) (v := e.2) hk
    exact List.mem_map.mpr ⟨e, he, by unfold dn; rw [e2]⟩
  · intro hm
    obtain ⟨e, he, q⟩ := List.mem_map.mp hm
    obtain ⟨⟨k', ql, _⟩, _⟩ := h e he
    obtain ⟨t, e2⟩ := Value.isInt_shape (k := k') (v := e.2) ql
    have : k' = k := by rw [← q]; unfold dn; rw [e2]
    exact ⟨e, he, this ▸ ql⟩
section
variable {P : Program} {w : World} {A : Around} {E : Value → Shared → Prop} {s : Shared}
theorem n8 {h : Heap} {a : Addr} {o : Obj} {es : Array (Int × Value)} {ep : Nat} {t : SetTable} (ho : h.get? a = some o) (hex : o.ExactSet) (hd : o.data = .set es ep t)
    {gW : Array (Int × Value)} {t' : SetTable} {ns : List Int} (ji : ElemsOf (intKind P w) gW.toList) (hp : (gW.toList.map dn).Perm ns) (hn : ns.Nodup) (hb : gW.size < scanBound) (hf : t'.fits gW.size = true) (ht : bM w t') :
    (h.update a (Obj.putSet gW t')).get? a = some { o with data := .set gW (ep + 1) t' } ∧ bH P w (h.update a (Obj.putSet gW t')) a ns := by
  have hg : (h.update a (Obj.putSet gW t')).get? a = some { o with data := .set gW (ep + 1) t' } := by
    have := Heap.get?_update_self (Obj.putSet gW t') ho (by rw [putSet_of gW t' hd]; rfl)
    rw [putSet_of gW t' hd] at this; exact this
  exact ⟨hg, _, gW, ep + 1, t', hg, hex, rfl, ji, hp, hn, hb, hf, ht⟩
theorem sP {g : Bool → Sem Unit} (hg : ∀ (b : Bool) (az : Shared) (Q' : Unit → Shared → Prop), Q' () az → wpAny (model P w) A (g b) Q' E az)
    {a : Addr} {o : Obj} {es : Array (Int × Value)} {ep : Nat} {t : SetTable} (ho : s.heap.get? a = some o) (hex : o.ExactSet) (hd : o.data = .set es ep t)
    {dZ : Array (Int × Value)} {t2 : SetTable} {ns : List Int} (sQ : ElemsOf (intKind P w) dZ.toList) (yA : (dZ.toList.map dn).Perm ns) (hn : ns.Nodup)
    (ve : dZ.size < scanBound) (MN : t2.fits dZ.size = true) (Kb : bM w t2) {m6 : Bool} {R : Option Bool → Shared → Prop}
    (h : ∀ h', Heap.SameBut a s.heap h' → bH P w h' a ns → R (some true) { s with heap := h' }) :
    wpAny (model P w) A (do
        storeSet a dZ t2
        if (!m6 && t2.tooFull) = true then do
            g (relayAll t2 dZ (SetTable.grown dZ.size)).2.2
            storeSet a (relayAll t2 dZ (SetTable.grown dZ.size)).1 (relayAll t2 dZ (SetTable.grown dZ.size)).2.1
            pure (some true)
          else pure (some true)) R E s := by
  refine wpAny_bind (wpAny_storeSet_of ho hd ?_ (fits_of_scanBound ve))
  obtain ⟨Kc, yB⟩ := n8 (P := P) (w := w) ho hex hd sQ yA hn ve MN Kb
  have Gk := Heap.SameBut.update s.heap a (Obj.putSet dZ t2)
  split
  · have hp := relayAll_perm t2 dZ (SetTable.grown dZ.size)
    have yk := relayAll_fits t2 dZ (SetTable.grown dZ.size)
    have kN := Kb.Jf dZ (SetTable.grown dZ.size)
    generalize relayAll t2 dZ (SetTable.grown dZ.size) = Rl at hp yk kN ⊢
    obtain ⟨Kd, t3, OJ⟩ := Rl
    dsimp only at hp yk kN ⊢
    have hsz : Kd.size = dZ.size := by rw [← Array.length_toList, hp.length_eq, Array.length_toList]
    have CI : Kd.size < scanBound := by rw [hsz]; exact ve
    refine wpAny_bind (hg _ _ _ (wpAny_bind (wpAny_storeSet_of Kc rfl ?_ (fits_of_scanBound CI))))
    obtain ⟨_, Gm⟩ := n8 (P := P) (w := w) Kc hex rfl (sQ.perm hp) ((hp.map dn).trans yA) hn CI yk kN
    exact wpAny_pure (h _ (Gk.trans (Heap.SameBut.update _ a _)) Gm)
  · exact wpAny_pure (h _ Gk yB)
theorem qm {a : Addr} {ns : List Int} {m : Int} {tk : Tok} {Q : Bool → Shared → Prop} (hS : bH P w s.heap a ns) (jT : ns.length + 1 < scanBound)
    (h : ∀ h', Heap.SameBut a s.heap h' → bH P w h' a (cG ns m) → Q (decide (m ∉ ns)) { s with heap := h', toks := s.toks + 1 }) : wpAny (model P w) A (setAdd a (.int m tk)) Q E s := by
  unfold setAdd
  refine wpAny_holding (wpAny_bind ((intKind P w).pyHash (k := m) (intKind_is _ _ _ _) ?_))
  have vY : (intKind P w).is m (.int m tk) = true := intKind_is _ _ _ _
  obtain ⟨o, es, ep, t, ho, hex, hd, ji, hp, hn, hb, hf, ht⟩ := hS
  have wk : ∀ k, (∃ e ∈ es.toList, (intKind P w).is k e.2 = true) ↔ k ∈ ns := fun k => (uH ji).trans hp.mem_iff
  have hlen : es.size = ns.length := by rw [← Array.length_toList, ← hp.length_eq, List.length_map]
  unfold setAddHashed setAddHashedIn
  refine wpAny_holding (wpAny_bind (wpAny_setState_of (s := { s with toks := s.toks + 1 }) ho hd hf ?_))
  dsimp only
  rw [byScan_of (x := .int m tk) rfl hb ji]
  simp only [↓reduceIte]
  unfold setAddByScan
  refine wpAny_bind (wpAny_bind (wpAny_rule (wpAny_bind (wpAny_setScan_of vY ho hd hf ji ?_))))
  cases hr : List.findIdx? (fun e => (intKind P w).is m e.2) es.toList with
  | some j =>
    dsimp only
    obtain ⟨hj, MO, _⟩ := List.findIdx?_eq_some_iff_getElem.mp hr
    have hm : m ∈ ns := (wk m).mp ⟨es.toList[j], List.getElem_mem hj, MO⟩
    have := h s.heap (Heap.SameBut.refl a s.heap) (by unfold cG; rw [if_pos hm]; exact ⟨o, es, ep, t, ho, hex, hd, ji, hp, hn, hb, hf, ht⟩)
    rw [decide_eq_false (fun z => z hm)] at this
    exact wpAny_pure (wpAny_pure this)
  | none =>
    dsimp only
    have hm : m ∉ ns := fun z => by
      obtain ⟨e, he, q⟩ := (wk m).mpr z
      have := List.findIdx?_eq_none_iff.mp hr e he
      rw [q] at this; cases this
    have l0 := layNew_perm t es ((intKind P w).hash m) (.int m tk)
    have oe := layNew_fits t es ((intKind P w).hash m) (.int m tk)
    have iP := ht.layNew es ((intKind P w).hash m) (.int m tk)
    generalize layNew t es ((intKind P w).hash m) (.int m tk) = L at l0 oe iP ⊢
    obtain ⟨dZ, t1, m6, OW⟩ := L
    dsimp only at l0 oe iP ⊢
    rw [Array.toList_push] at l0
    have sQ : ElemsOf (intKind P w) dZ.toList := (ji.push vY rfl).perm l0
    have Gp : cG ns m = ns ++ [m] := by unfold cG; rw [if_neg hm]
    have yA : (dZ.toList.map dn).Perm (cG ns m) := by
      rw [Gp]
      refine (l0.map dn).trans ?_
      rw [List.map_append]
      exact List.Perm.append hp (.refl _)
    have Ke : (cG ns m).Nodup := by
      rw [Gp]
      exact List.nodup_append.mpr ⟨hn, by simp, fun a ha b hb => by rw [List.mem_singleton] at hb; rw [hb]; exact fun z => hm (z ▸ ha)⟩
    have ve : dZ.size < scanBound := by rw [← Array.length_toList, l0.length_eq, List.length_append, Array.length_toList, hlen]; simpa using jT
    have Gq : ∀ (b : Bool) (az : Shared) (Q' : Unit → Shared → Prop), Q' () az → wpAny (model P w) A (match b with | true => rule "set.scan.the-table-gave-way" | false => pure ()) Q' E az :=
      fun b az Q' hq => by cases b <;> first | exact wpAny_pure hq | exact wpAny_rule hq
    have pj : ∀ h', Heap.SameBut a s.heap h' → bH P w h' a (cG ns m) → Q true { s with heap := h', toks := s.toks + 1 } := by
      intro h' f7 g6
      have := h h' f7 g6
      rw [decide_eq_true hm] at this
      exact this
    refine wpAny_bind (Gq _ _ _ ?_)
    split
    · refine wpAny_bind ?_
      rw [hashByValue_scannable 8 (x := .int m tk) rfl]
      refine wpAny_pure (sP (P := P) (w := w) (s := { s with toks := s.toks + 1 }) Gq ho hex hd sQ yA Ke ve ?_ (iP.Bj _) fun h' f7 g6 => wpAny_pure (pj h' f7 g6))
      split
      · exact oe
      · exact SetTable.fits_plain_off oe
    · refine wpAny_bind (wpAny_pure ?_)
      simp only [↓reduceIte]
      exact sP (P := P) (w := w) (s := { s with toks := s.toks + 1 }) Gq ho hex hd sQ yA Ke ve oe iP fun h' f7 g6 => wpAny_pure (pj h' f7 g6)
theorem wm {ns : List Int} (h : ns.Nodup) (m : Int) : (cG ns m).Nodup := by
  unfold cG
  split
  · exact h
  · rename_i hm
    exact List.nodup_append.mpr ⟨h, by simp, fun a ha b hb => by rw [List.mem_singleton] at hb; rw [hb]; exact fun z => hm (z ▸ ha)⟩
theorem Bk {ns : List Int} {m k : Int} : k ∈ cG ns m ↔ k ∈ ns ∨ k = m := by
  unfold cG
  split
  · rename_i hm
    exact ⟨.inl, fun h => h.elim id fun e => e ▸ hm⟩
  · simp
theorem sR {ns : List Int} {m : Int} : (cG ns m).length ≤ ns.length + 1 := by
  unfold cG
  split
  · omega
  · simp
end
def cT (ns : List Int) : List Int := ns.foldl cG []
theorem yC (ns : List Int) (m : Int) : cT (ns ++ [m]) = cG (cT ns) m := by
  unfold cT
  rw [List.foldl_append]
  rfl
theorem wo (ns : List Int) : (cT ns).Nodup := by
  unfold cT
  have : ∀ (l acc : List Int), acc.Nodup → (l.foldl cG acc).Nodup := fun l => by
    induction l with
    | nil => exact fun acc h => h
    | cons a l ih => exact fun acc h => ih _ (wm h a)
  exact this ns [] .nil
theorem Bm {ns : List Int} {k : Int} : k ∈ cT ns ↔ k ∈ ns := by
  unfold cT
  have : ∀ (l acc : List Int), k ∈ l.foldl cG acc ↔ k ∈ acc ∨ k ∈ l := fun l => by
    induction l with
    | nil => intro acc; simp
    | cons a l ih =>
      intro acc
      rw [List.foldl_cons, ih, Bk, List.mem_cons]
      constructor
      · rintro ((h | h) | h)
        · exact .inl h
        · exact .inr (.inl h)
        · exact .inr (.inr h)
      · rintro (h | h | h)
        · exact .inl (.inl h)
        · exact .inl (.inr h)
        · exact .inr h
  rw [this]
  simp
theorem m7 (ns : List Int) : (cT ns).length ≤ ns.length := by
  unfold cT
  have : ∀ (l acc : List Int), (l.foldl cG acc).length ≤ acc.length + l.length := fun l => by
    induction l with
    | nil => intro acc; simp
    | cons a l ih =>
      intro acc
      rw [List.foldl_cons, List.length_cons]
      have h1 := ih (cG acc a)
      have h2 := @sR acc a
      omega
  simpa using this ns []
section
variable {P : Program} {w : World} {A : Around} {R : Result → Shared → Prop} {I : Addr} {fp wr : List Addr} {G : Array GenState → Array GenState → Prop} {n : Nat} {St : Nat → Shared → Prop}
theorem Bn {vs : List Int} {Pv : Nat → Value → Prop} (W : WalksS P w A.in1 I fp wr G vs.length Pv St) (S : Addr) (sS : S ∉ fp) (Bo : ∀ (i : Nat) (v : Value), Pv i v → ∃ m t, vs[i]? = some m ∧ v = .int m t) (hb : vs.length + 1 < scanBound) :
    ∀ (k i : Nat) (s : Shared), vs.length - i = k → i ≤ vs.length → St i s → bH P w s.heap S (cT (vs.take i)) →
      (∀ s', Moved (S :: wr) G s s' → bH P w s'.heap S (cT vs) → R (.ok (.ret .none)) s') →
      codeAny (model P w) A (.builtin "set.update.loop" ⟨[.ref S, .ref I], []⟩) R s := by
  have Kf : S ∉ wr := fun h => sS (W.sub _ h)
  have m8 : ∀ b ∈ wr, b ∈ S :: wr := fun b hb => List.mem_cons_of_mem _ hb
  intro k
  induction k with
  | zero =>
    intro i s hk hi mF hS hR
    have qo : i = vs.length := by omega
    subst qo
    refine codeAny_builtin F.entry_set_update_loop ?_
    rw [Around.under_plainId F.plain_set_update_loop _]
    show wpAny _ A.in1 (pyNext (.ref I) >>= _) _ _ s
    refine wpAny_bind (W.done s _ _ mF fun s' hm => ?_)
    rw [List.take_length] at hS
    exact wpAny_pure (hR s' (hm.mono m8) (hS.b9 fun o e => hm.heap S _ Kf e))
  | succ k ih =>
    intro i s hk hi mF hS hR
    have aT : i < vs.length := by omega
    refine codeAny_builtin F.entry_set_update_loop ?_
    rw [Around.under_plainId F.plain_set_update_loop _]
    show wpAny _ A.in1 (pyNext (.ref I) >>= _) _ _ s
    refine wpAny_bind (W.item i s _ _ aT mF fun v s' hP Ly hm => ?_)
    obtain ⟨m, t, jD, rfl⟩ := Bo i v hP
    have g6 : bH P w s'.heap S (cT (vs.take i)) := hS.b9 fun o e => hm.heap S _ Kf e
    show wpAny _ A.in1 (holding [Value.int m t] (setAdd S (.int m t)) >>= _) _ _ s'
    have jT : (cT (vs.take i)).length + 1 < scanBound := by
      have h1 := m7 (vs.take i)
      rw [List.length_take] at h1
      omega
    refine wpAny_bind (wpAny_holding (qm g6 jT fun h' f7 Gm => ?_))
    have MP : bH P w h' S (cT (vs.take (i + 1))) := by
      rw [List.take_add_one, jD]
      show bH P w h' S (cT (vs.take i ++ [m]))
      rw [yC]
      exact Gm
    refine wpAny_pure ⟨plainId_quiet F.plain_set_update_loop _, ih (i + 1) _ (by omega) aT (W.frame _ s' _ _ Ly (Nat.le_succ _) fun b hb o e => ?_) MP fun bZ Lz LA => ?_⟩
    · rw [f7.2 b (fun h : b = S => sS (by rw [← h]; exact hb))]; exact e
    · refine hR bZ (Moved.trans W.gtrans ((hm.mono m8).then_heap (Nat.le_succ _) fun b o hb e => ?_) Lz) LA
      rw [f7.2 b (fun h : b = S => hb (by rw [h]; exact List.mem_cons_self))]; exact e
end
theorem sub_tuple_set : isSubtype (.type "tuple") (.type "set") = pure false := by rw [isSubtype_type]; kernel_rfl
theorem pq : isSubtype (.type "tuple") (.type "frozenset") = pure false := by rw [isSubtype_type]; kernel_rfl
section
variable {P : Program} {w : World} {A : Around} {E : Value → Shared → Prop} {s : Shared}
abbrev fD (w : World) : Obj := { cls := .type "set", dict := none, data := .set #[] 0 (.fresh 0 0 (!w.params.followText "set-order")) }
theorem vf {h : Heap} : bH P w (h.push (fD w)) h.objs.size [] := ⟨_, #[], 0, _, Heap.get?_push_size _ rfl, ⟨rfl, rfl, rfl⟩, rfl, fun e he => by simp at he, by simp, by simp, by decide, by rfl, rfl, List.Pairwise.nil, rfl⟩
theorem Bp (a : Value) {Q₁ : Value → Shared → Prop} (h : Q₁ (.ref s.heap.objs.size) { s with heap := s.heap.push (fD w) }) :
    codeAny (model P w) A (.call (.builtin "set.__new__") ⟨[.type "set", a], []⟩) (wants Q₁ E) s := by
  refine codeAny_of_tree ?_
  show wpAny _ A.in1 (do checkBuiltinCall "set.__new__" ⟨[.type "set", a], []⟩; again (.builtin "set.__new__" ⟨[.type "set", a], []⟩)) _ _ s
  refine wpAny_bind (wpAny_of_eq (F.newCall_set_1 a) (wpAny_pure ⟨plainId_quiet F.plain_set_new _, codeAny_builtin F.entry_set_new ?_⟩))
  rw [Around.under_plainId F.plain_set_new _]
  unfold Builtin.«set.__new__» Builtin.Frozenset.newClass
  have m8 := sub_set_self
  obtain ⟨hp, g, d, tk, os⟩ := s
  dsimp only
  wp_walk
  refine wpAny_askSetting (wpAny_pure ?_)
  dsimp only
  simp only [newObj]
  refine wpAny_bind (wpAny_alloc (wpAny_pure ?_))
  exact wpAny_pure h
theorem bH.typeIs {h : Heap} {a : Addr} {ns : List Int} {s : Shared} (x : bH P w s.heap a ns) : s.TypeIs (.ref a) "set" := let ⟨o, _, _, _, ho, hex, _⟩ := x; ⟨o, ho, hex.1⟩
theorem kP {T : String} {l : Addr} {itob : Obj} {vs : List Int} {Pv : Nat → Value → Prop} {St : Addr → Nat → Heap → Prop} {Q : Value → Shared → Prop} (hh : A.handled = none)
    (hl : ∃ o, s.heap.get? l = some o) (hT : ∀ s1 : Shared, (∀ o, s.heap.get? l = some o → s1.heap.get? l = some o) → s1.TypeIs (.ref l) T) (h1 : isSubtype (.type T) (.type "set") = pure false) (h2 : isSubtype (.type T) (.type "frozenset") = pure false) (h3 : (Value.type T == Value.type "dict") = false)
    (hit : ∀ (A' : Around) (s1 : Shared) (Q' : Value → Shared → Prop) (E' : Value → Shared → Prop), (∀ o, s.heap.get? l = some o → s1.heap.get? l = some o) → Q' (.ref s1.heap.objs.size) { s1 with heap := s1.heap.push itob } → wpAny (model P w) A' (pyIter (.ref l)) Q' E' s1)
    (hW : ∀ (A' : Around) (I : Addr), A'.handled = none → l ≠ I → Walks P w A' I [I, l] [I] vs.length Pv (St I)) (MQ : ∀ h1 : Heap, (∀ o, s.heap.get? l = some o → h1.get? l = some o) → St h1.objs.size 0 (h1.push itob))
    (Bo : ∀ (i : Nat) (v : Value), Pv i v → ∃ m t, vs[i]? = some m ∧ v = .int m t) (hb : vs.length + 1 < scanBound)
    (h : ∀ (h' : Heap) (tk : Nat), bH P w h' s.heap.objs.size (cT vs) → (∀ b o, s.heap.get? b = some o → h'.get? b = some o) → Q (.ref s.heap.objs.size) { s with heap := h', toks := tk }) :
    wpAny (model P w) A (call (.type "set") [.ref l]) Q E s := by
  obtain ⟨c, tl, OX⟩ := F.called_set.mro
  have OM := F.called_set.made
  have m8 := F.called_set.sub
  refine wpAny_call (codeAny_of_tree ?_)
  show wpAny _ _ (callAny (.type "set") _) _ _ _
  refine wpAny_pure ⟨Code.quiet_builtin _ (by decide +kernel), codeAny_builtin F.entry_type_call ?_⟩
  rw [Around.under_plain (weight_type_call_type "set" [.ref l] []) rfl]
  have k1 := F.called_set.notType
  have k2 := F.called_set.canCreate
  have O7 := F.typeCall_set_1 (.ref l)
  repeat (any_goals (first | assumption | wp_step))
  refine codeAny_mono (Bp (P := P) (w := w) (.ref l) (E := E) (Q₁ := fun obj az => obj = .ref s.heap.objs.size ∧ az = { s with heap := s.heap.push (fD w) }) ⟨rfl, rfl⟩) fun r az hr => ?_
  cases r with
  | error e => exact hr
  | ok fl =>
    cases fl with
    | ret obj =>
      obtain ⟨rfl, rfl⟩ := hr
      have hS : (s.heap.push (fD w)).get? s.heap.objs.size = some { cls := .type "set", dict := none, data := .set #[] 0 (.fresh 0 0 (!w.params.followText "set-order")) } := Heap.get?_push_size _ rfl
      have MR : Shared.TypeIs { s with heap := s.heap.push (fD w) } (.ref s.heap.objs.size) "set" := ⟨_, hS, rfl⟩
      have kp : ∀ b o, s.heap.get? b = some o → (s.heap.push (fD w)).get? b = some o := fun b o e => Heap.get?_push_of_some _ e
      have sz : (s.heap.push (fD w)).objs.size = s.heap.objs.size + 1 := by rw [Heap.size_push]
      have sT := F.called_set.init.lookup
      have Kg := F.called_set.init.bind (.ref s.heap.objs.size)
      repeat (any_goals (first | assumption | wp_step))
      refine codeAny_mono (codeAny_call_builtin (R := wants (fun r gI => r = .none ∧ ∃ h' tk, gI = { s with heap := h', toks := tk } ∧ bH P w h' s.heap.objs.size (cT vs) ∧
          (∀ b o, s.heap.get? b = some o → h'.get? b = some o)) E) F.called_set.init.plain F.entry_set_init (check_set_init_1 MR ?_)) fun LC gI wq => ?_
      · have O8 := hT { s with heap := s.heap.push (fD w) } (fun o e => kp l o e)
        unfold Builtin.«set.__init__» noKeywords Builtin.Frozenset.updateFrom
        generalize MS : pyIter = PI
        wp_walk
        subst MS
        obtain ⟨ol, sU⟩ := hl
        have Kh : l < s.heap.objs.size := Heap.lt_size sU
        refine hit _ { s with heap := s.heap.push (fD w) } _ _ (fun o e => kp l o e) ?_
        refine wpAny_bind (wpAny_runValue ?_)
        have MT : A.in1.in1.in1.handled = none := by simp [hh]
        have LD : l ≠ (s.heap.push (fD w)).objs.size := by rw [sz]; exact Nat.ne_of_lt (Nat.lt_succ_of_lt Kh)
        have sS : s.heap.objs.size ∉ [(s.heap.push (fD w)).objs.size, l] := by
          rw [sz]; simp only [List.mem_cons, List.not_mem_nil, or_false, not_or]
          exact ⟨Nat.ne_of_lt (Nat.lt_succ_self _), Nat.ne_of_gt Kh⟩
        refine Bn ((hW _ (s.heap.push (fD w)).objs.size MT LD).toS) s.heap.objs.size sS Bo hb (vs.length - 0) 0 _ (by omega) (Nat.zero_le _) (MQ (s.heap.push (fD w)) fun o e => kp l o e) (vf.b9 fun o e => Heap.get?_push_of_some _ e) ?_
        intro s' hm g6
        obtain ⟨h', g', d', yD, CB⟩ := s'
        have eg : g' = s.gens := hm.gens
        have ed : d' = s.drawn := hm.drawn
        have eo : CB = s.os := hm.os
        subst eg; subst ed; subst eo
        show wpAny _ _ _ _ _ _
        refine wpAny_pure ?_
        show wpAny _ _ (ret Value.none) _ _ _
        refine wpAny_pure ⟨rfl, h', yD, rfl, g6, fun b o e => ?_⟩
        have CJ : b < s.heap.objs.size := Heap.lt_size e
        refine hm.heap b o ?_ (Heap.get?_push_of_some _ (kp b o e))
        simp only [List.mem_cons, List.not_mem_nil, or_false, not_or]
        exact ⟨Nat.ne_of_lt CJ, by rw [sz]; exact Nat.ne_of_lt (Nat.lt_succ_of_lt CJ)⟩
      · cases LC with
        | error e => exact wq
        | ok Jg =>
          cases Jg with
          | ret r =>
            obtain ⟨rfl, h', tk, rfl, g6, ql⟩ := wq
            repeat (any_goals (first | assumption | wp_step))
            exact h _ _ g6 ql
          | _ => exact wq.elim
    | _ => exact hr.elim
end
theorem yE : Manifest.owners.lookup (String.ofList ['r', 'o', 't', 'a', 'r', 'e', 't', 'i', '_', 't', 'e', 's'].reverse) = some Manifest.sig_set_iterator := by kernel_rfl
theorem bU : Slot "set_iterator" "__next__" "set_iterator.__next__" :=
  .of (owner := "set_iterator") (n := "__next__") (by rw [typeLookup_type, builtinLookup_eq_fast]; kernel_rfl) (by decide +kernel) (by decide +kernel) (by decide +kernel)
    (by first | exact .inl (by decide +kernel) | exact .inr (by decide +kernel)) (by rw [isSubtype_type]; kernel_rfl)
theorem ir : entryFor table "set_iterator.__next__" = some Builtin.«set_iterator.__next__» := entryFor_of_tree (by kernel_rfl)
theorem iu (a : Value) : argsOk "set_iterator.__next__" ⟨[a], []⟩ := by
  unfold argsOk; rw [signature?_of (id := "set_iterator.__next__") (n := ['_', '_', 't', 'x', 'e', 'n', '_', '_']) (o := ['r', 'o', 't', 'a', 'r', 'e', 't', 'i', '_', 't', 'e', 's']) (by kernel_rfl) yE]; kernel_rfl
theorem og : Slot "set_iterator" "__iter__" "set_iterator.__iter__" :=
  .of (owner := "set_iterator") (n := "__iter__") (by rw [typeLookup_type, builtinLookup_eq_fast]; kernel_rfl) (by decide +kernel) (by decide +kernel) (by decide +kernel)
    (by first | exact .inl (by decide +kernel) | exact .inr (by decide +kernel)) (by rw [isSubtype_type]; kernel_rfl)
theorem wt : entryFor table "set_iterator.__iter__" = some Builtin.«dict_keyiterator.__iter__» :=
  entryFor_alias (id' := "dict_keyiterator.__iter__") (by kernel_rfl) (by first | rfl | decide +kernel | (unfold String.splitOn; simp +decide [String.splitOnAux])) (by decide +kernel) (by kernel_rfl)
theorem wu (a : Value) : argsOk "set_iterator.__iter__" ⟨[a], []⟩ := by
  unfold argsOk; rw [signature?_of (id := "set_iterator.__iter__") (n := ['_', '_', 'r', 'e', 't', 'i', '_', '_']) (o := ['r', 'o', 't', 'a', 'r', 'e', 't', 'i', '_', 't', 'e', 's']) (by kernel_rfl) yE]; kernel_rfl
theorem uI : entryFor table "set.__iter__" = some Builtin.«frozenset.__iter__» :=
  entryFor_alias (id' := "frozenset.__iter__") (by kernel_rfl) (by first | rfl | decide +kernel | (unfold String.splitOn; simp +decide [String.splitOnAux])) (by decide +kernel) (by kernel_rfl)
def d6 (h : Heap) (I a : Addr) (first : Value) (i n ep : Nat) : Prop := ∃ o, h.get? I = some o ∧ o.cls = .type "set_iterator" ∧ o.data = .fields #[first, .int i 0, .ref a, .int n 0, .int ep 0]
theorem d6.typeIs {s : Shared} {I a : Addr} {first : Value} {i n ep : Nat} (x : d6 s.heap I a first i n ep) : s.TypeIs (.ref I) "set_iterator" := let ⟨o, ho, hc, _⟩ := x; ⟨o, ho, hc⟩
theorem eV {α : Type} : ∀ {l : List α} {i : Nat} (h : i < l.length), (l[i] :: l.eraseIdx i).Perm l
  | [], i, h => by simp at h
  | x :: l, 0, h => .refl _
  | x :: l, i + 1, h => by
    rw [List.eraseIdx_cons_succ, List.getElem_cons_succ]
    exact (List.Perm.swap _ _ _).trans (.cons _ (eV (by simpa using h)))
section
variable {P : Program} {w : World} {A : Around} {E : Value → Shared → Prop} {s : Shared}
theorem wp_choose {src : Source} {n : Nat} {Q : Nat → Shared → Prop} (hn : n ≠ 0) (h : ∀ i d, i < n → Q i { s with drawn := d }) : wpAny (model P w) A (choose src n) Q E s := fun Γ p _ => by
  refine ⟨hn, ?_⟩
  exact h _ _ (Nat.mod_lt _ (Nat.pos_of_ne_zero hn))
theorem kQ {α : Type} : ∀ (n : Nat) (xs : List α) {s : Shared} {Q : List α → Shared → Prop}, n = xs.length → (∀ ys d, ys.Perm xs → Q ys { s with drawn := d }) → wpAny (model P w) A (drawOrder n xs) Q E s
  | 0, xs, s, Q, hn, h => by
    have : xs = [] := List.eq_nil_of_length_eq_zero hn.symm
    subst this
    exact wpAny_pure (h [] s.drawn .nil)
  | n + 1, [], s, Q, hn, h => by simp at hn
  | n + 1, x :: xs, s, Q, hn, h => by
    show wpAny _ _ (choose .order (x :: xs).length >>= _) _ _ s
    refine wpAny_bind (wp_choose (by simp) fun i d hi => ?_)
    have e : (x :: xs)[i]? = some (x :: xs)[i] := List.getElem?_eq_getElem hi
    rw [e]
    dsimp only
    refine wpAny_bind (kQ n _ (by rw [List.length_eraseIdx_of_lt hi]; simp at hn ⊢; omega) fun ys d' hp => wpAny_pure (h _ _ ?_))
    exact (List.Perm.cons _ hp).trans (eV hi)
end
section
variable {P : Program} {w : World} {A : Around} {E : Value → Shared → Prop} {s : Shared}
structure iQ (P : Program) (w : World) (h : Heap) (a : Addr) (es : Array (Int × Value)) (ep : Nat) (t : SetTable) : Prop where
  at_ : ∃ o, h.get? a = some o ∧ o.ExactSet ∧ o.data = .set es ep t
  fits : t.fits es.size = true
  tab : bM w t
theorem vg {α : Type} (next : Nat → Nat) : ∀ (fuel k : Nat) (left : List α) (out : Array α), fuel = left.length → (pickOrder.go next fuel k left out).toList.Perm (out.toList ++ left)
  | 0, k, left, out, h => by
    have : left = [] := List.eq_nil_of_length_eq_zero h.symm
    subst this
    simp [pickOrder.go]
  | fuel + 1, k, left, out, h => by
    unfold pickOrder.go
    have hl : next k % left.length < left.length := Nat.mod_lt _ (by omega)
    rw [List.getElem?_eq_getElem hl]
    dsimp only
    refine (vg next fuel (k + 1) _ _ (by rw [List.length_eraseIdx_of_lt hl]; omega)).trans ?_
    rw [Array.toList_push, List.append_assoc]
    exact List.Perm.append_left _ (eV hl)
theorem qp {α : Type} (next : Nat → Nat) (xs : Array α) : (pickOrder next xs).toList.Perm xs.toList := by
  unfold pickOrder
  exact (vg next xs.size 0 xs.toList #[] (by simp)).trans (by simp)
theorem kR {Q : Bool → Shared → Prop} (h : Q (w.params.followText "set-order") s) : wpAny (model P w) A setsByText Q E s := by
  unfold setsByText
  exact wpAny_bind (wpAny_askSetting (wpAny_pure h))
theorem oh {a : Addr} {es : Array (Int × Value)} {ep : Nat} {t : SetTable} {slot given : Nat} {Q : Option (Value × Nat) → Shared → Prop} (hE : iQ P w s.heap a es ep t)
    (hd : w.params.followText "set-order" = false → (!t.plain && decide (es.size > 1)) = false)
    (h1 : w.params.followText "set-order" = true → Q ((pickOrder (w.params.setOrder a ep) es)[given]?.map fun e => (e.2, slot)) s)
    (h2 : w.params.followText "set-order" = false → Q (match es[SetTable.below t.place slot]?, t.place[SetTable.below t.place slot]? with | some (_, x), some j => some (x, j + 1) | _, _ => none) s) :
    wpAny (model P w) A (setNext a slot given ep) Q E s := by
  obtain ⟨⟨o, ho, hex, mK⟩, hf, ht⟩ := hE
  unfold setNext
  refine wpAny_bind (wpAny_setState_of ho mK hf ?_)
  dsimp only
  refine wpAny_bind (kR ?_)
  cases hb : w.params.followText "set-order" with
  | true =>
    simp only [if_true, bne_self_eq_false, Bool.false_eq_true, if_false]
    unfold setWalk
    refine wpAny_bind (wpAny_bind (wpAny_setState_of ho mK hf ?_))
    dsimp only
    refine wpAny_bind (kR ?_)
    rw [hb]
    simp only [if_true]
    refine wpAny_bind (wpAny_askSetting (wpAny_pure (wpAny_pure ?_)))
    exact h1 hb
  | false =>
    simp only [Bool.false_eq_true, if_false]
    have jd := hd hb
    have LI : t.led = true := by rw [ht.led, hb]; rfl
    show wpAny _ _ (if (!t.plain && decide (es.size > 1)) = true then _ else _) _ _ s
    rw [jd]
    simp only [Bool.false_eq_true, if_false]
    refine wpAny_bind ?_
    show wpAny _ _ (if (!t.led && !es.isEmpty) = true then _ else _) _ _ s
    rw [LI]
    simp only [Bool.not_true, Bool.false_and, Bool.false_eq_true, if_false]
    exact wpAny_pure (wpAny_pure (h2 hb))
end
section
variable {P : Program} {w : World} {A : Around} {E : Value → Shared → Prop} {s : Shared}
theorem d6.Gr {h : Heap} {I a : Addr} {first x : Value} {i n ep : Nat} (hit : d6 h I a first i n ep) : d6 (h.update I (Obj.mapFields (·.setIfInBounds 0 x))) I a x i n ep := by
  obtain ⟨o, ho, hc, hd⟩ := hit
  exact ⟨_, Heap.get?_update_self _ ho (Obj.isFreed_of_fields (Obj.data_mapFields hd _)), (Obj.cls_mapFields ..).trans hc, by rw [Obj.data_mapFields hd]; simp⟩
theorem d6.sV {h : Heap} {I a : Addr} {first : Value} {i n ep : Nat} (hit : d6 h I a first i n ep) : d6 (h.update I (Obj.mapFields (·.setIfInBounds 1 (rawInt ((i : Int) + 1))))) I a first (i + 1) n ep := by
  obtain ⟨o, ho, hc, hd⟩ := hit
  exact ⟨_, Heap.get?_update_self _ ho (Obj.isFreed_of_fields (Obj.data_mapFields hd _)), (Obj.cls_mapFields ..).trans hc, by rw [Obj.data_mapFields hd]; simp [rawInt]⟩
theorem jE {I a : Addr} {first x : Value} {i n ep k : Nat} {Q : Unit → Shared → Prop} (hk : k < 5) (hit : d6 s.heap I a first i n ep) (h : Q () { s with heap := s.heap.update I (Obj.mapFields (·.setIfInBounds k x)) }) : wpAny (model P w) A (setField (.ref I) k x) Q E s := by
  obtain ⟨o, ho, hc, hd⟩ := hit
  exact wpAny_setField ho hd (by simpa using hk) h
theorem vh {Q : Fin → Shared → Prop} (hh : A.handled = none) (h : ∀ e h', s.TypeIs e "StopIteration" ∨ True → (∀ b o, s.heap.get? b = some o → h'.get? b = some o) → Shared.TypeIs { s with heap := h' } e "StopIteration" → E e { s with heap := h' }) :
    wpAny (model P w) A (newExc (.type "StopIteration") [] >>= fun e => raiseNew e) Q E s := by
  refine wpAny_bind ?_
  simp only [newExc, newTuple]
  refine wpAny_bind (wpAny_newObj_type ?_ (by size_fits))
  refine wpAny_bind (m := firstArgMember _ _) (wpAny_of_eq (a := Value.none) (by first | rfl | (simp only [firstArgMember]; rfl)) ?_)
  refine wpAny_newObj_type ?_ (by size_fits)
  simp only [raiseNew]
  refine wpAny_bind (wpAny_handled ?_)
  rw [hh]
  refine wpAny_bind (wpAny_pure (wpAny_throw ?_))
  exact h _ _ (.inr trivial) (fun b o e => Heap.get?_push_of_some _ (Heap.get?_push_of_some _ e)) ⟨_, Heap.get?_push_size _ rfl, rfl⟩
theorem sW {Q : Option Value → Shared → Prop} {e : Value} (hT : s.TypeIs e "StopIteration") (h : Q none s) : wpAny (model P w) A (do let b ← isInstance e (.type "StopIteration"); if b = true then pure none else throw e) Q E s :=
  wpAny_bind (wpAny_isInstance (T := "StopIteration") (b := true) hT isSubtype_stop (wpAny_pure h))
theorem D4 {I a : Addr} {slot i ep next : Nat} {es : Array (Int × Value)} {t : SetTable} {x : Value} {Q : Option Value → Shared → Prop} (hit : d6 s.heap I a (.int slot 0) i es.size ep) (hE : iQ P w s.heap a es ep t)
    (hd : w.params.followText "set-order" = false → (!t.plain && decide (es.size > 1)) = false)
    (h1 : w.params.followText "set-order" = true → (pickOrder (w.params.setOrder a ep) es)[i]?.map (fun e => (e.2, slot)) = some (x, next))
    (h2 : w.params.followText "set-order" = false → (match es[SetTable.below t.place slot]?, t.place[SetTable.below t.place slot]? with | some (_, x), some j => some (x, j + 1) | _, _ => none) = some (x, next))
    (hQ : ∀ h', d6 h' I a (.int next 0) (i + 1) es.size ep → Heap.SameBut I s.heap h' → Q (some x) { s with heap := h' }) : wpAny (model P w) A (pyNext (.ref I)) Q E s := by
  obtain ⟨o, ho, hc, jd⟩ := id hit
  obtain ⟨oa, qt, Bq, qu⟩ := hE.at_
  unfold pyNext
  refine wpAny_bind (wpAny_attempt (wpAny_callSpecial?_slot (name := Str.ofString "__next__") hit.typeIs bU (wpAny_call_entry bU hit.typeIs ir ?_ (iu _))))
  unfold Builtin.«set_iterator.__next__»
  refine wpAny_bind (m := slotArgs "__next__" 0 _) (wpAny_pure ?_)
  dsimp only
  refine wpAny_bind (wpAny_fieldsOf ho jd ?_)
  dsimp only
  refine wpAny_bind (wpAny_setEntries_of qt qu hE.fits ?_)
  simp only [bne_self_eq_false, Bool.false_eq_true, if_false, Int.toNat_natCast]
  have fin : ∀ r, r = some (x, next) → wpAny (model P w) A.in1 (match r with
        | some (x, next) => do
          setField (Value.ref I) 0 (rawInt next)
          setField (Value.ref I) 1 (rawInt (↑i + 1))
          ret x
        | none => do
          setField (Value.ref I) 2 Value.none
          let __do_lift ← newExc (Value.type "StopIteration") []
          raiseNew __do_lift) (fun fin s' => ∃ v, fin = Fin.done (Flow.ret v) ∧ wpAny (model P w) A (pure (some v)) Q E s') (fun e s' => wpAny (model P w) A (do
          let __do_lift ← isInstance e (Value.type "StopIteration")
          if __do_lift = true then pure none else throw e) Q E s') s := fun r hr => by
    subst hr
    dsimp only
    refine wpAny_bind (jE (by decide) hit ?_)
    have Gs := hit.Gr (x := rawInt next)
    refine wpAny_bind (jE (by decide) Gs ?_)
    exact wpAny_pure ⟨x, rfl, wpAny_pure (hQ _ Gs.sV ((Heap.SameBut.update ..).trans (Heap.SameBut.update ..)))⟩
  exact wpAny_bind (oh hE hd (fun hb => fin _ (h1 hb)) (fun hb => fin _ (h2 hb)))
theorem D5 {I a : Addr} {slot i ep : Nat} {es : Array (Int × Value)} {t : SetTable} {Q : Option Value → Shared → Prop} (hh : A.handled = none) (hit : d6 s.heap I a (.int slot 0) i es.size ep) (hE : iQ P w s.heap a es ep t)
    (hd : w.params.followText "set-order" = false → (!t.plain && decide (es.size > 1)) = false)
    (h1 : w.params.followText "set-order" = true → (pickOrder (w.params.setOrder a ep) es)[i]?.map (fun e => (e.2, slot)) = none)
    (h2 : w.params.followText "set-order" = false → (match es[SetTable.below t.place slot]?, t.place[SetTable.below t.place slot]? with | some (_, x), some j => some (x, j + 1) | _, _ => none) = none)
    (hQ : ∀ h', (∀ b o, b ≠ I → s.heap.get? b = some o → h'.get? b = some o) → Q none { s with heap := h' }) : wpAny (model P w) A (pyNext (.ref I)) Q E s := by
  obtain ⟨o, ho, hc, jd⟩ := id hit
  obtain ⟨oa, qt, Bq, qu⟩ := hE.at_
  unfold pyNext
  refine wpAny_bind (wpAny_attempt (wpAny_callSpecial?_slot (name := Str.ofString "__next__") hit.typeIs bU (wpAny_call_entry bU hit.typeIs ir ?_ (iu _))))
  unfold Builtin.«set_iterator.__next__»
  refine wpAny_bind (m := slotArgs "__next__" 0 _) (wpAny_pure ?_)
  dsimp only
  refine wpAny_bind (wpAny_fieldsOf ho jd ?_)
  dsimp only
  refine wpAny_bind (wpAny_setEntries_of qt qu hE.fits ?_)
  simp only [bne_self_eq_false, Bool.false_eq_true, if_false, Int.toNat_natCast]
  have fin : ∀ r : Option (Value × Nat), r = none → wpAny (model P w) A.in1 (match r with
        | some (x, next) => do
          setField (Value.ref I) 0 (rawInt next)
          setField (Value.ref I) 1 (rawInt (↑i + 1))
          ret x
        | none => do
          setField (Value.ref I) 2 Value.none
          let __do_lift ← newExc (Value.type "StopIteration") []
          raiseNew __do_lift) (fun fin s' => ∃ v, fin = Fin.done (Flow.ret v) ∧ wpAny (model P w) A (pure (some v)) Q E s') (fun e s' => wpAny (model P w) A (do
          let __do_lift ← isInstance e (Value.type "StopIteration")
          if __do_lift = true then pure none else throw e) Q E s') s := fun r hr => by
    subst hr
    dsimp only
    refine wpAny_bind (jE (by decide) hit ?_)
    exact vh hh fun e h' _ k hT => sW hT (hQ h' fun b o hb q => k b o ((Heap.get?_update_other _ _ (Ne.symm hb)).trans q))
  exact wpAny_bind (oh hE hd (fun hb => fin _ (h1 hb)) (fun hb => fin _ (h2 hb)))
theorem D6 {I a T : Addr} {i ep j : Nat} {es : Array (Int × Value)} {t : SetTable} {ps : List Nat} {x : Int × Value} {Q : Option Value → Shared → Prop} (hit : d6 s.heap I a (.ref T) i es.size ep) (hE : iQ P w s.heap a es ep t)
    (hT : s.heap.IsTuple T (ps.map fun (i : Nat) => rawInt i).toArray) (hj : ps[i]? = some j) (hx : es[j]? = some x)
    (hQ : ∀ h', d6 h' I a (.ref T) (i + 1) es.size ep → Heap.SameBut I s.heap h' → Q (some x.2) { s with heap := h' }) : wpAny (model P w) A (pyNext (.ref I)) Q E s := by
  obtain ⟨o, ho, hc, jd⟩ := id hit
  obtain ⟨oa, qt, Bq, qu⟩ := hE.at_
  unfold pyNext
  refine wpAny_bind (wpAny_attempt (wpAny_callSpecial?_slot (name := Str.ofString "__next__") hit.typeIs bU (wpAny_call_entry bU hit.typeIs ir ?_ (iu _))))
  unfold Builtin.«set_iterator.__next__»
  refine wpAny_bind (m := slotArgs "__next__" 0 _) (wpAny_pure ?_)
  dsimp only
  refine wpAny_bind (wpAny_fieldsOf ho jd ?_)
  dsimp only
  refine wpAny_bind (wpAny_setEntries_of qt qu hE.fits ?_)
  simp only [bne_self_eq_false, Bool.false_eq_true, if_false, Int.toNat_natCast]
  obtain ⟨ot, Gu, _, nt, mK⟩ := hT
  refine wpAny_bind (wpAny_seqItems Gu mK ?_)
  have e : (ps.map fun (i : Nat) => rawInt i).toArray[i]? = some (rawInt j) := by simp [hj]
  dsimp only
  rw [e]
  show wpAny _ _ (setNextDrawn a (Int.toNat (j : Int)) ep >>= _) _ _ s
  rw [Int.toNat_natCast]
  refine wpAny_bind ?_
  unfold setNextDrawn
  refine wpAny_bind (wpAny_setState_of qt qu hE.fits ?_)
  simp only [bne_self_eq_false, Bool.false_eq_true, if_false, hx]
  refine wpAny_pure ?_
  refine wpAny_bind (jE (by decide) hit ?_)
  exact wpAny_pure ⟨x.2, rfl, wpAny_pure (hQ _ hit.sV (Heap.SameBut.update ..))⟩
theorem D7 {I a T : Addr} {i ep : Nat} {es : Array (Int × Value)} {t : SetTable} {ps : List Nat} {Q : Option Value → Shared → Prop} (hh : A.handled = none) (hit : d6 s.heap I a (.ref T) i es.size ep) (hE : iQ P w s.heap a es ep t)
    (hT : s.heap.IsTuple T (ps.map fun (i : Nat) => rawInt i).toArray) (hj : ps.length ≤ i)
    (hQ : ∀ h', (∀ b o, b ≠ I → s.heap.get? b = some o → h'.get? b = some o) → Q none { s with heap := h' }) : wpAny (model P w) A (pyNext (.ref I)) Q E s := by
  obtain ⟨o, ho, hc, jd⟩ := id hit
  obtain ⟨oa, qt, Bq, qu⟩ := hE.at_
  unfold pyNext
  refine wpAny_bind (wpAny_attempt (wpAny_callSpecial?_slot (name := Str.ofString "__next__") hit.typeIs bU (wpAny_call_entry bU hit.typeIs ir ?_ (iu _))))
  unfold Builtin.«set_iterator.__next__»
  refine wpAny_bind (m := slotArgs "__next__" 0 _) (wpAny_pure ?_)
  dsimp only
  refine wpAny_bind (wpAny_fieldsOf ho jd ?_)
  dsimp only
  refine wpAny_bind (wpAny_setEntries_of qt qu hE.fits ?_)
  simp only [bne_self_eq_false, Bool.false_eq_true, if_false, Int.toNat_natCast]
  obtain ⟨ot, Gu, _, nt, mK⟩ := hT
  refine wpAny_bind (wpAny_seqItems Gu mK ?_)
  have e : (ps.map fun (i : Nat) => rawInt i).toArray[i]? = none := by simp [hj]
  dsimp only
  rw [e]
  dsimp only
  refine wpAny_bind (jE (by decide) hit ?_)
  refine wpAny_bind (jE (by decide) (hit.Gr (x := rawInt 0)) ?_)
  exact vh hh fun e h' _ k hT => sW hT (hQ h' fun b o hb q => k b o ((Heap.get?_update_other _ _ (Ne.symm hb)).trans ((Heap.get?_update_other _ _ (Ne.symm hb)).trans q)))
end
theorem d6.b9 {h h' : Heap} {I a : Addr} {first : Value} {i n ep : Nat} (x : d6 h I a first i n ep) (k : ∀ o, h.get? I = some o → h'.get? I = some o) : d6 h' I a first i n ep := let ⟨o, ho, r⟩ := x; ⟨o, k o ho, r⟩
theorem iQ.b9 {P : Program} {w : World} {h h' : Heap} {a : Addr} {es : Array (Int × Value)} {ep : Nat} {t : SetTable} (x : iQ P w h a es ep t) (k : ∀ o, h.get? a = some o → h'.get? a = some o) : iQ P w h' a es ep t :=
  ⟨let ⟨o, ho, r⟩ := x.at_; ⟨o, k o ho, r⟩, x.fits, x.tab⟩
theorem wx {xs : Array Nat} (h : jC xs) {i : Nat} (hi : i < xs.size) : SetTable.below xs (xs[i] + 1) = i + 1 := by
  obtain ⟨b0, b1, b2⟩ := m5 (xs[i] + 1) h
  generalize SetTable.below xs (xs[i] + 1) = p at *
  have h1 : i < p := by
    refine Nat.lt_of_not_le fun hp => ?_
    have := b2 i hi hp
    omega
  refine Nat.le_antisymm (Nat.le_of_not_lt fun hp => ?_) h1
  have Ki : i + 1 < xs.size := by omega
  have q := b1 (i + 1) Ki hp
  have q2 := n6 h (show i < i + 1 by omega) Ki
  omega
theorem wy {xs : Array Nat} (h : jC xs) : SetTable.below xs 0 = 0 := by
  obtain ⟨b0, b1, b2⟩ := m5 0 h
  generalize SetTable.below xs 0 = p at *
  by_cases hp : p = 0
  · exact hp
  · have := b1 0 (by omega) (by omega)
    omega
section
variable {P : Program} {w : World} {A : Around} {E : Value → Shared → Prop} {s : Shared}
theorem si_self {I a : Addr} {first : Value} {i n ep : Nat} {Q : Value → Shared → Prop} (hit : d6 s.heap I a first i n ep) (h : Q (.ref I) s) : wpAny (model P w) A (pyIter (.ref I)) Q E s := by
  refine wpAny_pyIter_slot hit.typeIs og (wpAny_call_entry og hit.typeIs wt ?_ (wu _))
  show wpAny _ _ (ret (.ref I)) _ _ s
  exact wpAny_pure ⟨_, rfl, "set_iterator", _, hit.typeIs, bU.lookup, h⟩
theorem sX {es : List (Int × Value)} (h : ElemsOf (intKind P w) es) {e : Int × Value} (he : e ∈ es) : ∃ t, e.2 = .int (dn e) t := by
  obtain ⟨⟨k', ql, _⟩, _⟩ := h e he
  obtain ⟨t, e2⟩ := Value.isInt_shape (k := k') (v := e.2) ql
  exact ⟨t, by unfold dn; rw [e2]⟩
abbrev yF (xs : List Int) : Nat → Value → Prop := fun i v => ∃ m t, xs[i]? = some m ∧ v = .int m t
def eW (w : World) (a : Addr) (ep : Nat) (es : Array (Int × Value)) : List (Int × Value) := if w.params.followText "set-order" = true then (pickOrder (w.params.setOrder a ep) es).toList else es.toList
theorem iw (w : World) (a : Addr) (ep : Nat) (es : Array (Int × Value)) : (eW w a ep es).Perm es.toList := by
  unfold eW
  split
  · exact qp _ _
  · exact .refl _
theorem Br {I a : Addr} {es : Array (Int × Value)} {ep : Nat} {t : SetTable} (hh : A.handled = none) (fh : a ≠ I) (ji : ElemsOf (intKind P w) es.toList) (hd : w.params.followText "set-order" = false → (!t.plain && decide (es.size > 1)) = false) :
    WalksS P w A I [I, a] [I] (fun a b => b = a) ((eW w a ep es).map dn).length (yF ((eW w a ep es).map dn))
      (fun i s => iQ P w s.heap a es ep t ∧ ∃ slot : Nat, d6 s.heap I a (.int slot 0) i es.size ep ∧ (w.params.followText "set-order" = false → SetTable.below t.place slot = i)) where
  sub := fun b hb => by simp at hb; simp [hb]
  grefl := fun _ => rfl
  gtrans := fun _ _ _ h1 h2 => h2.trans h1
  frame := fun i s h' _ st _ hk => ⟨st.1.b9 fun o e => hk a (by simp) o e, let ⟨slot, h1, h2⟩ := st.2; ⟨slot, h1.b9 fun o e => hk I (by simp) o e, h2⟩⟩
  item := fun i s Q E hi st hQ => by
    obtain ⟨hE, slot, hit, hb⟩ := st
    have hl : i < (eW w a ep es).length := by simpa using hi
    have sT : i < es.size := by rw [← Array.length_toList, ← (iw w a ep es).length_eq]; exact hl
    obtain ⟨tk, he⟩ := sX (P := P) (w := w) ji ((iw w a ep es).mem_iff.mp (List.getElem_mem hl))
    have bR : i < t.place.size := by
      have := hE.fits
      simp only [SetTable.fits, Bool.and_eq_true, beq_iff_eq] at this
      rw [this.1]; exact sT
    refine D4 (next := if w.params.followText "set-order" = true then slot else t.place[i] + 1) (x := ((eW w a ep es)[i]).2) hit hE hd (fun gF => ?_) (fun gF => ?_) (fun h' Bs hs => hQ _ _ ⟨_, tk, by rw [List.getElem?_map, List.getElem?_eq_getElem hl]; rfl, he⟩ ⟨hE.b9 fun o e => by rw [hs.2 a fh]; exact e, _, Bs, fun gF => ?_⟩ ⟨fun b o hb e => by rw [hs.2 b (fun z => hb (by simp [z]))]; exact e, rfl, rfl, rfl, Nat.le_refl _⟩)
    · rw [if_pos gF]
      have e1 : eW w a ep es = (pickOrder (w.params.setOrder a ep) es).toList := by unfold eW; rw [if_pos gF]
      have e2 : (pickOrder (w.params.setOrder a ep) es)[i]? = some (eW w a ep es)[i] := by
        rw [← Array.getElem?_toList, ← e1]
        exact List.getElem?_eq_getElem hl
      rw [e2]
      rfl
    · rw [if_neg (by rw [gF]; decide), hb gF, Array.getElem?_eq_getElem sT, Array.getElem?_eq_getElem bR]
      have e1 : eW w a ep es = es.toList := by unfold eW; rw [if_neg (by rw [gF]; decide)]
      have e2 : (eW w a ep es)[i] = es[i] := by simp [e1]
      rw [e2]
    · rw [if_neg (by rw [gF]; decide)]
      exact wx hE.tab.ris bR
  done := fun s Q E st hQ => by
    obtain ⟨hE, slot, hit, hb⟩ := st
    have hl : ((eW w a ep es).map dn).length = es.size := by rw [List.length_map, (iw w a ep es).length_eq, Array.length_toList]
    rw [hl] at hit hb
    refine D5 hh hit hE hd (fun gF => ?_) (fun gF => ?_) (fun h' k => hQ _ ⟨fun b o hb e => k b o (fun z => hb (by simp [z])) e, rfl, rfl, rfl, Nat.le_refl _⟩)
    · have e1 : (pickOrder (w.params.setOrder a ep) es)[es.size]? = none := by
        refine Array.getElem?_eq_none ?_
        rw [← Array.length_toList, (qp _ es).length_eq, Array.length_toList]
        exact Nat.le_refl _
      rw [e1]
      rfl
    · rw [hb gF, Array.getElem?_eq_none (Nat.le_refl _)]
  self := fun i s Q E st hQ => let ⟨_, slot, hit, _⟩ := st; si_self hit hQ
theorem wz {I a T : Addr} {es : Array (Int × Value)} {ep : Nat} {t : SetTable} {ps : List Nat} (hh : A.handled = none) (fh : a ≠ I) (LJ : T ≠ I) (ji : ElemsOf (intKind P w) es.toList) (yG : ∀ j ∈ ps, j < es.size) (bR : ps.length = es.size) :
    WalksS P w A I [I, a, T] [I] (fun a b => b = a) (ps.map fun j => dn (es.getD j (0, .none))).length (yF (ps.map fun j => dn (es.getD j (0, .none))))
      (fun i s => iQ P w s.heap a es ep t ∧ s.heap.IsTuple T (ps.map fun (i : Nat) => rawInt i).toArray ∧ d6 s.heap I a (.ref T) i es.size ep) where
  sub := fun b hb => by simp at hb; simp [hb]
  grefl := fun _ => rfl
  gtrans := fun _ _ _ h1 h2 => h2.trans h1
  frame := fun i s h' _ st _ hk => ⟨st.1.b9 fun o e => hk a (by simp) o e, st.2.1.at fun o e => hk T (by simp) o e, st.2.2.b9 fun o e => hk I (by simp) o e⟩
  item := fun i s Q E hi st hQ => by
    obtain ⟨hE, hT, hit⟩ := st
    have hl : i < ps.length := by simpa using hi
    have hj := yG _ (List.getElem_mem hl)
    have hx : es[ps[i]]? = some es[ps[i]] := Array.getElem?_eq_getElem hj
    have hg : es.getD ps[i] (0, .none) = es[ps[i]] := by simp [Array.getD, hj]
    obtain ⟨tk, he⟩ := sX (P := P) (w := w) ji (show es[ps[i]] ∈ es.toList by simp)
    refine D6 hit hE hT (List.getElem?_eq_getElem hl) hx fun h' Bs hs => hQ _ _ ⟨_, tk, by rw [List.getElem?_map, List.getElem?_eq_getElem hl]; rfl, by dsimp only; rw [hg]; exact he⟩ ⟨hE.b9 fun o e => by rw [hs.2 a fh]; exact e, hT.at fun o e => by rw [hs.2 T LJ]; exact e, Bs⟩ ⟨fun b o hb e => by rw [hs.2 b (fun z => hb (by simp [z]))]; exact e, rfl, rfl, rfl, Nat.le_refl _⟩
  done := fun s Q E st hQ => by
    obtain ⟨hE, hT, hit⟩ := st
    have hl : (ps.map fun j => dn (es.getD j (0, .none))).length = ps.length := List.length_map _
    rw [hl] at hit
    exact D7 hh hit hE hT (Nat.le_refl _) fun h' k => hQ _ ⟨fun b o hb e => k b o (fun z => hb (by simp [z])) e, rfl, rfl, rfl, Nat.le_refl _⟩
  self := fun i s Q E st hQ => si_self st.2.2 hQ
theorem wA {a : Addr} {ns : List Int} {Q : Value → Shared → Prop} (hS : bH P w s.heap a ns)
    (hQ : ∀ (I : Addr) (h' : Heap) (d' : Drawn) (xs : List Int) (fp : List Addr) (St : Nat → Shared → Prop), xs.Perm ns → (∀ b o, s.heap.get? b = some o → h'.get? b = some o) → s.heap.objs.size ≤ I → (∀ b ∈ fp, b = a ∨ s.heap.objs.size ≤ b) →
      (∀ A' : Around, A'.handled = none → WalksS P w A' I fp [I] (fun a b => b = a) xs.length (yF xs) St) → St 0 { s with heap := h', drawn := d' } → Q (.ref I) { s with heap := h', drawn := d' }) : wpAny (model P w) A (pyIter (.ref a)) Q E s := by
  have Kj := hS.typeIs (h := s.heap)
  obtain ⟨o, es, ep, t, ho, hex, hd, ji, hp, hn, hb, hf, ht⟩ := hS
  have hE : iQ P w s.heap a es ep t := ⟨⟨o, ho, hex, hd⟩, hf, ht⟩
  have aT := Heap.lt_size ho
  refine wpAny_pyIter_slot Kj F.slot_set_iter (wpAny_call_entry F.slot_set_iter Kj uI ?_ (F.args_set_iter_1 _))
  unfold Builtin.«frozenset.__iter__»
  refine wpAny_bind (m := Builtin.Frozenset.slot0 "__iter__" _) (wpAny_pure ?_)
  unfold Builtin.Frozenset.sizeOf
  refine wpAny_bind (wpAny_bind (wpAny_setEntries_of ho hd hf (wpAny_pure ?_)))
  refine wpAny_bind ?_
  unfold setDrawn
  refine wpAny_bind (wpAny_setState_of ho hd hf ?_)
  dsimp only
  refine wpAny_bind (kR ?_)
  refine wpAny_pure ?_
  by_cases qw : (!w.params.followText "set-order" && (!t.plain && decide (es.size > 1))) = true
  · show wpAny _ _ (if (!w.params.followText "set-order" && (!t.plain && decide (es.size > 1))) = true then _ else _) _ _ s
    rw [if_pos qw]
    refine wpAny_bind (kQ _ _ (by simp) fun ps d yG => ?_)
    have bR : ps.length = es.size := by rw [yG.length_eq, List.length_range]
    refine wpAny_bind (wpAny_newTuple ?_ (by rw [List.length_map, bR]; exact fits_of_scanBound hb))
    refine wpAny_bind (wpAny_setEpoch_of (o := o) (Heap.get?_push_of_some _ ho) hd hf ?_)
    unfold newFields
    refine wpAny_bind (wpAny_newObj_type ?_ (by size_fits))
    have hsz : ∀ u : Obj, (s.heap.push u).objs.size = s.heap.objs.size + 1 := fun u => Heap.size_push _ _
    have hit : d6 ((s.heap.push { cls := .type "tuple", data := .seq (ps.map fun (i : Nat) => rawInt i).toArray }).push { cls := .type "set_iterator", data := .fields #[.ref s.heap.objs.size, .int (0 : Nat) 0, .ref a, .int es.size 0, .int ep 0] }) (s.heap.push { cls := .type "tuple", data := .seq (ps.map fun (i : Nat) => rawInt i).toArray }).objs.size a (.ref s.heap.objs.size) 0 es.size ep := ⟨_, Heap.get?_push_size _ rfl, rfl, rfl⟩
    have MU : (ps.map fun j => dn (es.getD j (0, .none))).Perm ns := by
      refine ((yG.map _).trans ?_).trans hp
      have : (List.range es.size).map (fun j => dn (es.getD j (0, .none))) = es.toList.map dn := by
        refine List.ext_getElem (by simp) fun n h1 h2 => ?_
        have xI : n < es.size := by simpa using h1
        simp [Array.getD, xI]
      rw [this]
    refine wpAny_pure ⟨_, rfl, "set_iterator", _, d6.typeIs (s := { s with heap := _, drawn := d }) hit, bU.lookup, ?_⟩
    refine hQ _ _ d _ [(s.heap.push { cls := .type "tuple", data := .seq (ps.map fun (i : Nat) => rawInt i).toArray }).objs.size, a, s.heap.objs.size] _ MU (fun b o e => Heap.get?_push_of_some _ (Heap.get?_push_of_some _ e)) (by rw [hsz]; exact Nat.le_succ _) (fun b hb => ?_) (fun A' hA => wz (t := t) (ep := ep) hA ?_ ?_ ji (fun j hj => by simpa using yG.mem_iff.mp hj) bR) ⟨hE.b9 fun o e => Heap.get?_push_of_some _ (Heap.get?_push_of_some _ e), ⟨_, Heap.get?_push_of_some _ (Heap.get?_push_size _ rfl), rfl, _, rfl⟩, hit⟩
    · simp only [List.mem_cons, List.not_mem_nil, or_false] at hb
      rcases hb with rfl | rfl | rfl
      · exact .inr (by rw [hsz]; exact Nat.le_succ _)
      · exact .inl rfl
      · exact .inr (Nat.le_refl _)
    · rw [hsz]; exact Nat.ne_of_lt (Nat.lt_succ_of_lt aT)
    · rw [hsz]; exact Nat.ne_of_lt (Nat.lt_succ_self _)
  · show wpAny _ _ (if (!w.params.followText "set-order" && (!t.plain && decide (es.size > 1))) = true then _ else _) _ _ s
    rw [if_neg qw]
    refine wpAny_bind (wpAny_pure (wpAny_bind (wpAny_setEpoch_of ho hd hf ?_)))
    unfold newFields
    refine wpAny_bind (wpAny_newObj_type ?_ (by size_fits))
    have hit : d6 (s.heap.push { cls := .type "set_iterator", data := .fields #[.int (0 : Nat) 0, .int (0 : Nat) 0, .ref a, .int es.size 0, .int ep 0] }) s.heap.objs.size a (.int (0 : Nat) 0) 0 es.size ep := ⟨_, Heap.get?_push_size _ rfl, rfl, rfl⟩
    refine wpAny_pure ⟨_, rfl, "set_iterator", _, d6.typeIs (s := { s with heap := _ }) hit, bU.lookup, ?_⟩
    refine hQ _ _ s.drawn _ [s.heap.objs.size, a] _ (((iw w a ep es).map dn).trans hp) (fun b o e => Heap.get?_push_of_some _ e) (Nat.le_refl _) (fun b hb => ?_) (fun A' hA => Br (t := t) (ep := ep) hA (Nat.ne_of_lt aT) ji fun hb => ?_) ⟨hE.b9 fun o e => Heap.get?_push_of_some _ e, 0, hit, fun _ => wy ht.ris⟩
    · simp only [List.mem_cons, List.not_mem_nil, or_false] at hb
      rcases hb with rfl | rfl
      · exact .inr (Nat.le_refl _)
      · exact .inl rfl
    · rw [hb] at qw
      simpa using qw
end
section
variable {P : Program} {w : World} {A : Around} {E : Value → Shared → Prop} {s : Shared}
theorem uJ {a : Addr} {Q : Bool → Shared → Prop} (hT : s.TypeIs (.ref a) "set") (h : Q false s) : wpAny (model P w) A (Builtin.List.listLengthHint (.ref a)) Q E s := by
  unfold Builtin.List.listLengthHint
  refine wpAny_bind (wpAny_specialOf hT F.slot_set_len.lookup ?_)
  have e : splitId "set.__len__" = some ("set", "__len__") := by kernel_rfl
  dsimp only
  rw [e]
  dsimp only
  refine wpAny_bind (wpAny_isInstance hT sub_set_self ?_)
  simp only [Bool.not_true, Bool.false_eq_true, if_false]
  show wpAny _ _ (if _ = true then _ else _) _ _ s
  rw [if_pos (by kernel_rfl)]
  exact wpAny_bind (wpAny_typeOf hT (wpAny_pure h))
theorem ints_of {xs : List Int} {acc : Array Value} (h : ItemsOf (yF xs) acc xs.length) : IntsAre acc.toList xs := by
  obtain ⟨hs, hi⟩ := h
  have : ∀ (vs : List Value) (xs : List Int), vs.length = xs.length → (∀ (j : Nat) (v : Value), vs[j]? = some v → yF xs j v) → IntsAre vs xs := by
    intro vs
    induction vs with
    | nil => intro xs hl _; cases xs with | nil => exact .nil | cons x xs => simp at hl
    | cons v vs ih =>
      intro xs hl hg
      cases xs with
      | nil => simp at hl
      | cons x xs =>
        obtain ⟨m, t, e1, rfl⟩ := hg 0 v rfl
        have e2 : x = m := by simpa using e1
        subst e2
        refine .cons _ _ (ih xs (by simpa using hl) fun j u hu => ?_)
        obtain ⟨m', t', e3, e4⟩ := hg (j + 1) u (by simpa using hu)
        exact ⟨m', t', by simpa using e3, e4⟩
  exact this acc.toList xs (by simpa using hs) fun j v hv => hi j v (by rw [← Array.getElem?_toList]; exact hv)
theorem uK {a : Addr} {ns : List Int} {QL : List Value → Shared → Prop} (hh : A.handled = none) (hS : bH P w s.heap a ns) (hz : ns.length ≤ sizeLine)
    (hQ : ∀ us xs h' d' tk, IntsAre us xs → xs.Perm ns → (∀ b o, s.heap.get? b = some o → h'.get? b = some o) → QL us { s with heap := h', drawn := d', toks := tk }) : wpAny (model P w) A (collect (.ref a)) QL E s := by
  have aT : a < s.heap.objs.size := let ⟨_, _, _, _, ho, _⟩ := hS; Heap.lt_size ho
  have Kk : s.heap.objs.size ≠ a := Nat.ne_of_gt aT
  unfold collect
  refine wpAny_bind (wpAny_runValue (codeAny_builtin F.entry_proto_collect ?_))
  rw [Around.under_plainId F.plain_proto_collect _]
  show wpAny _ A.in1 (newList [] >>= fun l => again (.builtin "list.__iadd__" ⟨[l, .ref a], []⟩)) _ _ s
  refine wpAny_bind (wpAny_newObj_type ?_)
  refine wpAny_pure ⟨plainId_quiet F.plain_list_iadd _, codeAny_builtin F.entry_list_iadd ?_⟩
  rw [Around.under_plainId F.plain_list_iadd _]
  have yB : bH P w (s.heap.push { cls := .type "list", data := .seq ([] : List Value).toArray }) a ns := hS.b9 fun o e => Heap.get?_push_of_some _ e
  have T1 : Shared.TypeIs { s with heap := s.heap.push { cls := .type "list", data := .seq ([] : List Value).toArray } } (.ref a) "set" := bH.typeIs (P := P) (w := w) (h := s.heap) (s := { s with heap := _ }) yB
  show wpAny _ A.in1 (Builtin.List.listExtendWith (.ref s.heap.objs.size) (.ref a) (.ref s.heap.objs.size)) _ _ _
  unfold Builtin.List.listExtendWith
  refine wpAny_bind (wpAny_typeOf T1 ?_)
  have h1 : Builtin.List.listSameRef (.ref s.heap.objs.size) (.ref a) = false := by simp [Builtin.List.listSameRef, Kk]
  have h2 : (Value.type "set" == Value.type "list") = false := by decide
  have h3 : (Value.type "set" == Value.type "tuple") = false := by decide
  simp only [h1, h2, h3, Bool.or_false, Bool.false_eq_true, if_false]
  refine wpAny_bind (wA (s := { s with heap := s.heap.push { cls := .type "list", data := .seq ([] : List Value).toArray } }) yB ?_)
  intro I h' d' xs fp St hp hk hI MV hW mF
  have T2 : Shared.TypeIs { s with heap := h', drawn := d' } (.ref a) "set" := bH.typeIs (P := P) (w := w) (h := s.heap) (s := { s with heap := _, drawn := d' }) (yB.b9 fun o e => hk a o e)
  refine wpAny_bind (wpAny_holding (uJ T2 ?_))
  show wpAny _ A.in1 (if _ = true then _ else _) _ _ _
  rw [if_pos (by kernel_rfl)]
  show wpAny _ A.in1 (rule "list.extend.makes-room" >>= fun _ => Builtin.List.listTouch (.ref s.heap.objs.size) >>= fun _ =>
    again (.builtin "list.extend.loop" ⟨[.ref s.heap.objs.size, .ref I, .ref s.heap.objs.size], []⟩)) _ _ _
  refine wpAny_bind (wpAny_rule ?_)
  have CK : h'.get? s.heap.objs.size = some { cls := .type "list", data := .seq ([] : List Value).toArray } := hk _ _ (Heap.get?_push_size _ rfl)
  refine wpAny_bind ?_
  show wpAny _ A.in1 (updateSeq s.heap.objs.size (·.push .none) >>= fun _ => updateSeq s.heap.objs.size (·.pop)) _ _ _
  refine wpAny_bind (wpAny_updateSeq CK rfl ?_)
  have CL := Heap.get?_update_self (Obj.mapSeq (·.push Value.none)) CK rfl
  refine wpAny_updateSeq CL rfl ?_
  have Jh := Heap.get?_update_self (Obj.mapSeq (·.pop)) CL rfl
  have Km : ∀ b o, b ≠ s.heap.objs.size → h'.get? b = some o → ((h'.update s.heap.objs.size (Obj.mapSeq (·.push Value.none))).update s.heap.objs.size (Obj.mapSeq (·.pop))).get? b = some o :=
    fun b o hb e => (Heap.get?_update_other _ _ (Ne.symm hb)).trans ((Heap.get?_update_other _ _ (Ne.symm hb)).trans e)
  have Gv : (s.heap.push { cls := .type "list", data := .seq ([] : List Value).toArray }).objs.size = s.heap.objs.size + 1 := Heap.size_push _ _
  have sS : s.heap.objs.size ∉ fp := fun hm => by
    rcases MV _ hm with z | z
    · exact Kk z
    · have z' : s.heap.objs.size + 1 ≤ s.heap.objs.size := by rw [← Gv]; exact z
      exact absurd z' (Nat.not_succ_le_self _)
  have W := hW A.in1.in1 (by simp [hh])
  have hl : xs.length ≤ sizeLine := by rw [hp.length_eq]; exact hz
  refine wpAny_pure ⟨plainId_quiet F.plain_extend_loop _, codeAny_extend_loopS (W.of_in1) hl _ sS _ xs.length 0 _ _ _ rfl (Nat.zero_le _) (W.frame 0 ({ s with heap := h', drawn := d' } : Shared) _ s.toks mF (Nat.le_refl _) fun b hb o e => Km b o (fun h => sS (h ▸ hb)) e) Jh (ItemsOf.nil _) fun s' gb c' hm g6 kS => ?_⟩
  show wpAny _ A (load s.heap.objs.size >>= _) _ _ s'
  refine wpAny_bind (wpAny_load g6 ?_)
  refine wpAny_pure ?_
  obtain ⟨h2, g2, d2, MX, os2⟩ := s'
  have eg : g2 = s.gens := hm.gens
  have ed : d2 = d' := hm.drawn
  have eo : os2 = s.os := hm.os
  subst eg; subst ed; subst eo
  refine hQ _ xs h2 _ MX (ints_of kS) hp fun b o e => hm.heap b o ?_ (Km b o (Nat.ne_of_lt (Heap.lt_size e)) (hk b o (Heap.get?_push_of_some _ e)))
  have hb : b < s.heap.objs.size := Heap.lt_size e
  simp only [List.mem_cons, List.not_mem_nil, or_false, not_or]
  refine ⟨Nat.ne_of_lt hb, fun z => ?_⟩
  have z' : s.heap.objs.size + 1 ≤ b := by rw [← Gv, z]; exact hI
  exact absurd (Nat.lt_of_lt_of_le (Nat.lt_succ_of_lt hb) z') (Nat.lt_irrefl _)
end
def sortI (ns : List Int) : List Int := ns.mergeSort fun a b => decide (a ≤ b)
theorem sortI_perm (ns : List Int) : (sortI ns).Perm ns := List.mergeSort_perm _ _
theorem sY (ns : List Int) : (sortI ns).Pairwise (· ≤ ·) := by
  have := List.pairwise_mergeSort (le := fun a b : Int => decide (a ≤ b)) (fun a b c h1 h2 => by simp only [decide_eq_true_eq] at *; omega) (fun a b => by simp only [Bool.or_eq_true, decide_eq_true_eq]; omega) ns
  exact this.imp fun h => by simpa using h
theorem uL {a b : List Int} (p : a.Perm b) (ha : a.Pairwise (· ≤ ·)) (hb : b.Pairwise (· ≤ ·)) : a = b := List.Perm.eq_of_pairwise (le := (· ≤ ·)) (fun x y _ _ h1 h2 => Int.le_antisymm h1 h2) ha hb p
theorem Bt {ms ns : List Int} (p : ms.Perm ns) (h : ms.Pairwise (· ≤ ·)) : ms = sortI ns := uL (p.trans (sortI_perm ns).symm) h (sY ns)
theorem wB : ∀ {ns : List Int} {us : List Value}, Vals (ns.map V.int) us → IntsAre us ns
  | [], _, .nil => .nil
  | n :: ns, _, .cons r t => by
    obtain ⟨k, rfl⟩ := r
    exact .cons _ _ (wB t)
theorem kU : ∀ {ns : List Int} {us : List Value}, IntsAre us ns → Vals (ns.map V.int) us
  | _, _, .nil => .nil
  | _, _, .cons n t r => .cons ⟨t, rfl⟩ (kU r)
section
variable {P : Program} {w : World} {A : Around} {E : Value → Shared → Prop} {s : Shared}
theorem mL {T : String} {l : Addr} {vs : List Value} {Q : List Value → Shared → Prop} {o : Obj} {n : Nat} (ho : s.heap.get? l = some o) (hc : o.cls = .type T) (hd : o.data = .seq vs.toArray n) (hT : T = "list" ∨ T = "tuple")
    (h : ∀ h', (∀ b o, s.heap.get? b = some o → h'.get? b = some o) → Q vs { s with heap := h' }) (hsz : vs.length ≤ sizeLine) : wpAny (model P w) A (collect (.ref l)) Q E s := by
  unfold collect
  refine wpAny_bind (wpAny_runValue (codeAny_builtin F.entry_proto_collect ?_))
  rw [Around.under_plainId F.plain_proto_collect _]
  show wpAny _ A.in1 (newList [] >>= fun l' => again (.builtin "list.__iadd__" ⟨[l', .ref l], []⟩)) _ _ s
  refine wpAny_bind (wpAny_newList (wpAny_pure ⟨plainId_quiet F.plain_list_iadd _, codeAny_builtin F.entry_list_iadd ?_⟩))
  rw [Around.under_plainId F.plain_list_iadd _]
  show wpAny _ A.in1 (Builtin.List.listExtendWith (.ref s.heap.objs.size) (.ref l) (.ref s.heap.objs.size)) _ _ { s with heap := s.heap.push (seqObj "list" #[] 0) }
  unfold Builtin.List.listExtendWith
  have gC : (s.heap.push (seqObj "list" #[] 0)).get? l = some o := Heap.get?_push_of_some _ ho
  refine wpAny_bind (wpAny_typeOf (T := T) ⟨o, gC, hc⟩ ?_)
  rw [if_pos (by rcases hT with rfl | rfl <;> simp)]
  refine wpAny_bind (listItems_at gC hd ?_)
  refine wpAny_bind (listItems_at (xs := #[]) (n := 0) (Heap.get?_push_size _ rfl) rfl ?_)
  rw [if_neg (by simp)]
  refine wpAny_bind (listUpdate_at (xs := #[]) (n := 0) (Heap.get?_push_size _ rfl) rfl ?_ (Nat.zero_le _) (by show (#[] ++ vs.toArray).size ≤ sizeLine + 1; simp only [Array.size_append, List.size_toArray, List.length_nil]; omega))
  refine wpAny_pure ?_
  show wpAny (model P w) A (load s.heap.objs.size >>= _) Q E _
  refine wpAny_bind (wpAny_load (get?_update_seq (Heap.get?_push_size _ rfl) _) ?_)
  show wpAny _ _ (pure ((#[] : Array Value) ++ vs.toArray).toList) Q E _
  rw [show ((#[] : Array Value) ++ vs.toArray).toList = vs by simp]
  exact wpAny_pure (h _ fun b o e => (Heap.get?_update_other _ _ (Nat.ne_of_gt (Heap.lt_size e))).trans (Heap.get?_push_of_some _ e))
theorem wC {a : Value} {ns : List Int} {Q : Value → Shared → Prop} (LK : ∀ QL : List Value → Shared → Prop, (∀ us xs h' d' tk, IntsAre us xs → xs.Perm ns → (∀ b o, s.heap.get? b = some o → h'.get? b = some o) → QL us { s with heap := h', drawn := d', toks := tk }) → wpAny (model P w) A.in1 (collect a) QL E s) (Gw : ns.length < 64)
    (h : ∀ (h1 h' : Heap) d' tk (us : List Value) e, IntsAre us (sortI ns) → (∀ b o, s.heap.get? b = some o → h1.get? b = some o) → (∀ b o, h1.get? b = some o → h'.get? b = some o) → h'.get? h1.objs.size = some { cls := .type "list", data := .seq us.toArray e } → Q (.ref h1.objs.size) { s with heap := h', drawn := d', toks := tk }) :
    wpAny (model P w) A (call (.builtin "sorted") [a]) Q E s := by
  refine Calls.call_function_entry kind_sorted plain_sorted entry_sorted (args_sorted1 _) ?_
  unfold Builtin.«sorted»
  refine wpAny_bind (m := checkCount "sorted" 1 1 _) (wpAny_pure ?_)
  refine wpAny_bind (LK _ fun us xs h' d' tk hI hp hk => ?_)
  have Gx : us.length < 64 := by
    have : us.length = xs.length := (kU hI).length.symm.trans (List.length_map _)
    rw [this, hp.length_eq]
    exact Gw
  refine wpAny_bind (wpAny_newList ?_ (hsz := Nat.le_trans (Nat.le_of_lt Gx) (by decide)))
  have xJ : (h'.push (seqObj "list" us.toArray 0)).get? h'.objs.size = some (seqObj "list" us.toArray 0) := Heap.get?_push_size _ rfl
  refine wpAny_bind (wpAny_holding (wpAny_call_entry slot_list_sort ⟨_, xJ, rfl⟩ entry_list_sort (list_sort_tree xJ hI Gx fun out O9 a1 a2 a3 => ⟨_, rfl, ?_⟩) (args_list_sort _)))
  refine wpAny_pure ⟨_, rfl, ?_⟩
  obtain ⟨e, he⟩ := sortedHeap_at (out := out) xJ
  refine h h' _ d' tk out.toList e (by rw [← Bt (a2.trans hp) a3]; exact a1) hk (fun b o hb => ?_) (by simpa using he)
  have aT := Heap.lt_size hb
  rw [sortedHeap_old (Nat.ne_of_lt aT) (by rw [Heap.size_push]; exact Nat.lt_succ_of_lt aT)]
  exact Heap.get?_push_of_some _ hb
end
theorem oi {P : Program} {w : World} {h : Heap} {a : Addr} {ns : List Int} (x : bH P w h a ns) : ∃ o, h.get? a = some o := let ⟨o, _, _, _, e, _⟩ := x; ⟨o, e⟩
theorem pw {P : Program} {w : World} {H : Hp} {h : Heap} {a : Addr} {ns : List Int} (x : bH P w h a ns) : ObjOk P w H h a (fB P w a ns) := ⟨x, oi x, fun h1 h2 y k => y.b9 k⟩
theorem vi {X : Cx} {pins : List (Addr × Obj)} {σ : St} {H : Hp} {s : Shared} {a : Addr} {ns : List Int} (I : Inv X pins σ H s) (h : H a = some (fB X.prog X.w a ns)) : bH X.prog X.w s.heap a ns := (I.hok a _ h).1
section
variable {P : Program} {w : World} {A : Around} {E : Value → Shared → Prop} {s : Shared}
theorem D8 {Q : Value → Shared → Prop} (h : Q (.ref s.heap.objs.size) { s with heap := s.heap.push (fD w) }) : wpAny (model P w) A (newSet (.type "set")) Q E s := by
  unfold newSet setsByText
  refine wpAny_bind (wpAny_bind (wpAny_askSetting (wpAny_pure ?_)))
  dsimp only
  simp only [newObj]
  exact wpAny_bind (wpAny_alloc (wpAny_pure h))
theorem yH {a : Addr} {ns : List Int} {m : Int} {tk : Tok} {Q : Value → Shared → Prop} (hS : bH P w s.heap a ns) (jT : ns.length + 1 < scanBound)
    (h : ∀ h' yD, Heap.SameBut a s.heap h' → bH P w h' a (cG ns m) → Q .none { s with heap := h', toks := yD }) : wpAny (model P w) A (call (.builtin "set.add") [.ref a, .int m tk]) Q E s := by
  refine wpAny_call_entry F.slot_set_add (bH.typeIs (h := s.heap) hS) F.entry_set_add ?_ (F.args_set_add_2 _ _)
  unfold Builtin.«set.add» Builtin.Frozenset.oneOther
  simp only [List.isEmpty_nil, bind_assoc]
  unfold Builtin.Frozenset.addrOf
  refine wpAny_bind (wpAny_pure ?_)
  try dsimp only
  refine wpAny_bind (wpAny_pure ?_)
  try dsimp only
  refine wpAny_bind (qm hS jT fun h' f7 g6 => ?_)
  show wpAny _ _ (ret Value.none) _ _ _
  exact wpAny_pure ⟨_, rfl, h h' _ f7 g6⟩
theorem sZ (elt target iter : Expr) (ifs : List Expr) (scope : Scope) (pos : Pos) (it acc : Value) (env : Env) :
    compTurn (.SetComp elt [⟨target, iter, ifs, 0⟩] scope pos) 0 it acc env = (do
      standAt iter.pos
      match ← pyNext it with
      | none => pure (.done .next)
      | some v =>
        letOwnedTupleGo target it v
        assign target env v
        let mut ok := true
        for c in ifs do
          if ok then ok ← isTrue c env (eval c env)
        if ok then
          (eval elt env >>= fun v => standAt elt.pos >>= fun _ => call (.builtin "set.add") [acc, v] >>= fun _ => pure ())
        again (.compLoop (.SetComp elt [⟨target, iter, ifs, 0⟩] scope pos) 0 it acc env)) := by rfl
theorem uM {R : Result → Shared → Prop} {elt target iter ifs rest scope pos it acc env}
    (h0 : codeAny (model P w) A (.compLoop (.SetComp elt (⟨target, iter, ifs, 0⟩ :: rest) scope pos) 0 it acc env) R s)
    (h : wpAny (model P w) A (pyIter it) (fun Gy s' => codeAny (model P w) A (.compLoop (.SetComp elt (⟨target, iter, ifs, 0⟩ :: rest) scope pos) 0 Gy acc env) R s')
      (notedBy (model P w) A env fun x s' => R (.error x) s') s) :
    codeAny (model P w) A (.compStart (.SetComp elt (⟨target, iter, ifs, 0⟩ :: rest) scope pos) 0 it acc env) R s := by
  refine codeAny_of_tree ?_
  show wpAny _ _ ((compStart (.SetComp elt (⟨target, iter, ifs, 0⟩ :: rest) scope pos) 0 it acc env).onRaise (fun x => do noteFrame x env; standAt theWindowsPlace)) _ _ s
  refine wpAny_notedAt ?_
  unfold compStart
  show wpAny _ _ (ask >>= _) _ _ s
  refine wpAny_bind (wpAny_askSetting (wpAny_ite ?_))
  split
  · first
      | exact wpAny_bind (wpAny_pure (wpAny_pure (And.intro rfl h0)))
      | exact wpAny_pure (And.intro rfl h0)
  · first
      | exact wpAny_bind (wpAny_rule (wpAny_bind (wpAny_standAt (wpAny_bind (wpAny_mono h (fun Gy s' h' => wpAny_pure (And.intro rfl h')) fun _ _ x => x)))))
      | (refine wpAny_bind (wpAny_rule ?_); show wpAny _ _ (standAt iter.pos >>= _) _ _ s; exact wpAny_bind (wpAny_standAt (wpAny_bind (wpAny_mono h (fun Gy s' h' => wpAny_pure (And.intro rfl h')) fun _ _ x => x))))
end
section
variable {X : Cx}
def yI (X : Cx) (J : It) (g : TG) (tt : TT) (te : TE) (D : Addr) (Q : VK) (W : Nat → Nat → St → Hp → Prop) : Prop := ∀ i m τ H, W i m τ H →
  (J.stop i H ∧ Q (.ref D) H) ∨ (J.go i H ∧ ∀ x H', J.yld i H x H' → g x τ H' fun aC H2 => tt aC H2 fun b H3 => if b = true then te aC H3 fun y H4 => ∃ k ns m', y = .int k ∧ H4 D = some (fB X.prog X.w D ns) ∧ ns.length + 1 < scanBound ∧ m' < m ∧ W (i + 1) m' aC (upd H4 D (fB X.prog X.w D (cG ns k))) else ∃ m', m' < m ∧ W (i + 1) m' aC H3)
def yJ (X : Cx) (tn : Nat) (idx : List Nat) (wi : TI) (g : TG) (tt : TT) (te : TE) : TE := fun σ H Q => wi σ H fun J H1 => ∀ D, H1 D = none → ∃ W : Nat → Nat → St → Hp → Prop, (∃ m, W 0 m (bg tn idx σ) (upd H1 D (fB X.prog X.w D []))) ∧ yI X J g tt te D Q W
theorem wD {pins : List (Addr × Obj)} {σ : St} {H2 : Hp} {s2 : Shared} {tg elt iter : Expr} {ifs : List Expr} {scope : Scope} {pos : Pos} {N' : List Str} {tn : Nat} {idx : List Nat} {g : TG} {tt : TT} {te : TE} {it : Addr} {fp : List Addr} {cE : Nat → Heap → Prop} {J : It}
    {cl : List (Str × Addr)} {E : Value → Shared → Prop} {RR : Value → Addr → Result → Shared → Prop} {Q : VK}
    (hc : X.calm = true) (B : aF X.N X.env.scope scope N' tn idx)
    (hg : Blk X N' scope fun Y => PG Y tg g) (ht : Blk X N' scope fun Y => iO Y ifs tt) (he : Blk X N' scope fun Y => PE Y elt te)
    (I : Inv X pins σ H2 s2) (T : Turn X.prog X.w X.K tg J fp it cE) (st : cE 0 s2.heap) (f2 : ∀ b ∈ fp, c7 X pins H2 b)
    (cM : ∀ n c, cl.lookup n = some c → X.env.cells.lookup n = some c) (ez : ∀ n, (n, NameKind.free) ∈ scope.names → ∃ c, cl.lookup n = some c)
    (hq : ∀ D, H2 D = none → ∃ W : Nat → Nat → St → Hp → Prop, (∃ m, W 0 m (bg tn idx σ) (upd H2 D (fB X.prog X.w D []))) ∧ yI X J g tt te D Q W)
    (yo : ∀ D C m s' H', Inv X pins σ H' s' → c7 X pins H' C → s'.heap.Ns C m → Q (.ref D) H' → RR (.ref D) C (.ok .next) s') :
    wpAny (model X.prog X.w) X.A (newSet (.type "set")) (fun acc dF => wpAny (model X.prog X.w) X.A (newFunctionEnv scope X.env.globals cl [] X.env.qual none .none (some X.env)) (fun kL sx =>
      codeAny (model X.prog X.w) X.A (.compStart (.SetComp elt [⟨tg, iter, ifs, 0⟩] scope pos) 0 (.ref it) acc { kL with scope := relabel scope X.env }) (RR acc kL.locals) sx) E dF) E s2 := by
  obtain ⟨b1, b2, b3, b4⟩ := id B
  refine D8 (wpAny_newFunctionEnv (fun y hy => (b2 y hy).1) (by intro y hy; simp at hy) (fun cF fY fZ => ?_) b1)
  dsimp only at fY fZ ⊢
  generalize hG : s2.heap.push (fD X.w) = G at fY fZ ⊢
  have hC : G.objs.size = s2.heap.objs.size + 1 := by rw [← hG, Heap.size_push]
  have sy : s2.heap.objs.size ≠ G.objs.size := by rw [hC]; exact Nat.ne_of_lt (Nat.lt_succ_self _)
  have gJ : s2.heap.objs.size ≤ G.objs.size := by rw [hC]; exact Nat.le_succ _
  have below : ∀ b, b < s2.heap.objs.size → b ≠ G.objs.size := fun b hb => by rw [hC]; exact Nat.ne_of_lt (Nat.lt_succ_of_lt hb)
  have old : ∀ b o, s2.heap.get? b = some o → cF.get? b = some o := fun b o e => fZ.extBut b o (below b (Heap.lt_size e)) (Heap.get?_push_of_some _ (hG ▸ Heap.get?_push_of_some _ e))
  have yp : bH X.prog X.w cF s2.heap.objs.size [] := by
    have q : bH X.prog X.w G s2.heap.objs.size [] := hG ▸ vf
    exact q.b9 fun o e => fZ.extBut _ _ sy (Heap.get?_push_of_some _ e)
  have qj : H2 s2.heap.objs.size = none := I.hok.fresh (Nat.le_refl _)
  have nU : upd H2 s2.heap.objs.size (fB X.prog X.w s2.heap.objs.size []) G.objs.size = none := by rw [af (Ne.symm sy)]; exact I.hok.fresh gJ
  have sA : cj X.prog X.w (upd H2 s2.heap.objs.size (fB X.prog X.w s2.heap.objs.size [])) cF := I.hok.laid old (Nat.le_refl _) (pw yp)
  have ig : ∀ b ∈ fp, b < s2.heap.objs.size := fun b hb => let ⟨o, e, _⟩ := T.obj _ _ st b hb; Heap.lt_size e
  obtain ⟨W, ⟨m0, w0⟩, turn⟩ := hq s2.heap.objs.size qj
  have I1 : Inv (gD X N' scope cl G.objs.size s2 H2 fp) [] (bg tn idx σ) (upd H2 s2.heap.objs.size (fB X.prog X.w s2.heap.objs.size [])) { s2 with heap := cF, toks := s2.toks + ([] : List (Str × Value)).length } := by
    refine kK (g' := s2.gens) (m0 := fun x => ([] : List (Str × Value)).reverse.lookup x) I b1 rfl rfl cM (fun x hx => ?_) (fun z => I.ok.hd z) I.ok.frames (.inl rfl) gJ f2 ig (Un.laid old (Nat.le_refl _) qj) sA nU old fY (fun i x v e1 e2 e3 => ?_) (B.len σ) I.bare.self
    · have gE : (relabel scope X.env).names.lookup x = some .cell ∨ (relabel scope X.env).names.lookup x = some .free := hx
      rw [c9] at gE
      cases q : scope.names.lookup x with
      | none => rw [q] at gE; rcases gE with z | z <;> cases z
      | some k0 =>
        have hm := PySem.mem_of_lookup q
        rw [q] at gE
        by_cases hk : k0 = .free
        · subst hk; exact ez x hm
        · have nk : (k0 == NameKind.free) = false := by simpa using hk
          have nc := (b2 _ hm).1
          simp only [Option.map_some, nk, Bool.false_and, Bool.false_eq_true, if_false] at gE
          rcases gE with z | z
          · exact absurd (Option.some.inj z) nc
          · exact absurd (Option.some.inj z) hk
    · obtain ⟨fr, j, e4, e5⟩ := B.at e1 e2
      have kx := (b2 _ (PySem.mem_of_lookup fr)).2.2 rfl
      refine ⟨?_, .inr kx, kx, j, e4, e5⟩
      show (relabel scope X.env).names.lookup x = some .cell ∨ (relabel scope X.env).names.lookup x = some .free
      rw [c9, fr]
      simp only [Option.map_some]
      split
      · exact .inl rfl
      · exact .inr rfl
  have stat : ∀ {H' : Hp}, (∀ b ∈ fp, H' b = none) → ∀ b ∈ fp, c7 (gD X N' scope cl G.objs.size s2 H2 fp) [] H' b := fun hn b hb => by
    refine ⟨hn b hb, below b (ig b hb), fun z => ?_, .inl hb, fun x c e => (f2 b hb).2.2.2.2.1 x c (cM x c e), fun p hp => absurd (show p ∈ ([] : List (Addr × Obj)) from hp) (by simp)⟩
    rcases List.mem_cons.mp (I.eC b z) with q | q
    · exact (f2 b hb).2.1 q
    · exact (f2 b hb).2.2.1 q
  have loop : ∀ dF : Shared, dF = { s2 with heap := cF, toks := s2.toks + ([] : List (Str × Value)).length } →
      codeAny (model X.prog X.w) X.A (.compLoop (.SetComp elt [⟨tg, iter, ifs, 0⟩] scope pos) 0 (.ref it) (.ref s2.heap.objs.size) (compEnvC scope cl G.objs.size X.env))
        (RR (.ref s2.heap.objs.size) G.objs.size) dF := by
    rintro dF rfl
    refine codeAny_loop rfl (fun n s' => ∃ i τ H', Inv (gD X N' scope cl G.objs.size s2 H2 fp) [] τ H' s' ∧ cE i s'.heap ∧ (∀ b ∈ fp, H' b = none) ∧ W i n τ H') (fun n s hI => ?_) m0
      ⟨0, _, _, I1, T.keep _ _ _ st fun b _ o e => old b o e, fun b hb => by rw [af (Nat.ne_of_lt (ig b hb))]; exact (f2 b hb).1, w0⟩
    show wpAny _ X.A ((compTurn (.SetComp elt [⟨tg, iter, ifs, 0⟩] scope pos) 0 (.ref it) (.ref s2.heap.objs.size) (compEnvC scope cl G.objs.size X.env)).onRaise (fun x => do noteFrame x (compEnvC scope cl G.objs.size X.env); theTreesLotGoes x)) _ _ s
    refine wpAny_noted ?_
    rw [sZ]
    obtain ⟨i, τ, H3, I3, je, kD, w3⟩ := hI
    rcases turn i n τ H3 w3 with ⟨stop, qn⟩ | ⟨go, step⟩
    · refine wpAny_bind (wpAny_standAt (wpAny_bind (wpAny_mono (T.done (gD X N' scope cl G.objs.size s2 H2 fp) rfl rfl rfl hc i [] s τ H3 (fun _ _ => False) I3 (stat kD) je stop) (fun r s4 ⟨hr, I4⟩ => ?_) fun _ _ z => z.elim)))
      subst hr
      refine wpAny_pure ?_
      have J2 : Inv X pins σ H3 s4 := I.nI I4.os I4.base I4.hok I4.bare fun b hb => ⟨(f2 b hb).2.2.2.1, (f2 b hb).2.1, (f2 b hb).2.2.2.2.1, (f2 b hb).2.2.2.2.2⟩
      obtain ⟨mm, hm, _⟩ := I4.loc
      exact yo _ _ mm s4 H3 J2 (I.ju gJ I4.free) hm qn
    · refine wpAny_bind (wpAny_standAt (wpAny_bind (wpAny_mono (T.item (gD X N' scope cl G.objs.size s2 H2 fp) rfl rfl rfl hc i [] s τ H3 (fun _ _ => False) I3 (stat kD) je go) (fun r s4 ⟨u, hr, h4⟩ => ?_) fun _ _ z => z.elim)))
      subst hr
      refine wpAny_bind (wpAny_mono h4 (fun _ s5 ⟨x, H5, I5, r5, y5, fV, nO⟩ => ?_) fun _ _ z => z.elim)
      have nQ := I5.pinned (stat nO) (T.obj _ _ fV)
      have again : ∀ {gZ : St} {H7 : Hp} {s7 : Shared}, Inv (gD X N' scope cl G.objs.size s2 H2 fp) ([] ++ gX fp s5.heap) gZ H7 s7 → (∃ m', m' < n ∧ W (i + 1) m' gZ H7) →
          ∃ m, m < n ∧ ∃ i τ H', Inv (gD X N' scope cl G.objs.size s2 H2 fp) [] τ H' s7 ∧ cE i s7.heap ∧ (∀ b ∈ fp, H' b = none) ∧ W i m τ H' := fun {gZ H7 s7} I7 n7 => by
        obtain ⟨m', hm, w7⟩ := n7
        refine ⟨m', hm, i + 1, gZ, H7, I7.dU, T.keep _ _ _ fV fun b hb o e => (I7.pin (b, o) (List.mem_append_right _ (List.mem_append_right _ (cy hb e)))).1, fun b hb => ?_, w7⟩
        obtain ⟨o, e, d⟩ := T.obj _ _ fV b hb
        exact (I7.pin (b, o) (List.mem_append_right _ (List.mem_append_right _ (cy hb e)))).2.1
      refine wpAny_bind (wpAny_mono (hg cl G.objs.size s2 H2 fp _ s5 τ H5 x u _ nQ r5 (step x H5 y5)) (fun _ s6 ⟨ik, H6, I6, q6⟩ => ?_) fun _ _ z => z.elim)
      refine wpAny_bind (wpAny_mono (ht cl G.objs.size s2 H2 fp _ s6 ik H6 _ I6 q6) (fun ok s7 ⟨H7, I7, q7⟩ => ?_) fun _ _ z => z.elim)
      cases ok with
      | false => exact wpAny_pure ⟨rfl, again I7 q7⟩
      | true =>
        refine wpAny_bind (wpAny_bind (wpAny_mono (he cl G.objs.size s2 H2 fp _ s7 ik H7 _ I7 q7) (fun yv s8 ⟨y, H8, I8, r8, q8⟩ => ?_) fun _ _ z => z.elim))
        obtain ⟨m, ns, m', ey, hD, hsz, kM, w8⟩ := q8
        subst ey
        obtain ⟨tk, rfl⟩ := r8
        refine wpAny_bind (wpAny_standAt (wpAny_bind (yH (vi (X := gD X N' scope cl G.objs.size s2 H2 fp) I8 hD) hsz fun h' yD f7 hM => ?_)))
        have I9 := I8.write (x := s2.heap.objs.size) (e := s2.heap.objs.size) (t' := yD) (by rw [hD]; exact trivial) (.inl rfl) (fun b u hb hu => (f7.2 b hb).trans hu) (oi hM) (pw hM)
        exact wpAny_pure (wpAny_pure ⟨rfl, again I9 ⟨m', kM, w8⟩⟩)
  exact uM (loop _ rfl) (T.self _ 0 _ _ _ (T.keep _ _ _ st fun b _ o e => old b o e) (loop _ rfl))
variable {tg elt iter : Expr} {ifs : List Expr} {scope : Scope} {pos : Pos} {N' : List Str} {tn : Nat} {idx : List Nat} {wi : TI} {g : TG} {tt : TT} {te : TE}
theorem wF (hc : X.calm = true) (B : aF X.N X.env.scope scope N' tn idx) (hi : PI X tg iter wi)
    (hg : Blk X N' scope fun Y => PG Y tg g) (ht : Blk X N' scope fun Y => iO Y ifs tt) (he : Blk X N' scope fun Y => PE Y elt te)
    (hs : ∀ x, foldedSetIterable iter X.env x = pure x := by intro _; rfl) : PE X (.SetComp elt [⟨tg, iter, ifs, 0⟩] scope pos) (yJ X tn idx wi g tt te) := by
  refine ⟨?_⟩
  intro pins s σ H Q I h
  obtain ⟨cl, fv, cM, ez⟩ := eU (scope := scope) (env := X.env) fun n hn => I.ok.has n ((B.2.1 _ hn).2.2 rfl)
  rw [arm_eval_SetComp]
  refine wpAny_comprehension_free (use := none) rfl hs fv B.1 (fun y hy => (B.2.1 y hy).2.1) (wpAny_mono (hi pins s σ H _ I h) (fun xv s1 h1 => wpAny_mono h1 (fun si s2 h2 => ?_) fun _ _ z => z) fun _ _ z => z)
  obtain ⟨it, fp, cE, J, H2, e, I2, T, kC, f2, q2⟩ := h2
  subst e
  refine wD (RR := fun acc C => compPost (model X.prog X.w) X.A X.xe none (EP X pins σ Q) acc C) hc B hg ht he I2 T kC f2 cM ez q2 fun D C m s' H' J2 fC hm q => ?_
  exact ⟨m, hm, fun h' mH => ⟨.ref D, H', fC.turn J2 mH, rfl, q⟩⟩
end
inductive Dt where
  | aq | bl (b : Bool) | int (i : Int) | str (x : Str) | lst (xs : List Dt) | tup (xs : List Dt)
inductive eF (H : Hp) : V → Dt → Prop where
  | aq : eF H .aq .aq
  | bl (b : Bool) : eF H (.bl b) (.bl b)
  | int (i : Int) : eF H (.int i) (.int i)
  | str (x : Str) : eF H (.str x) (.str x)
  | lst {a : Addr} {xs : List V} {ds : List Dt} (e : H a = some (.lst xs)) (hl : xs.length = ds.length) (h : ∀ (i : Nat) (x : V) (d : Dt), xs[i]? = some x → ds[i]? = some d → eF H x d) : eF H (.ref a) (.lst ds)
  | tup {a : Addr} {xs : List V} {ds : List Dt} (e : H a = some (.tup xs)) (hl : xs.length = ds.length) (h : ∀ (i : Nat) (x : V) (d : Dt), xs[i]? = some x → ds[i]? = some d → eF H x d) : eF H (.ref a) (.tup ds)
mutual
def eG : Dt → Dt → Bool
  | .aq, .aq => true
  | .bl a, .bl b => a == b
  | .bl a, .int b => (if a then 1 else 0) == b
  | .int a, .bl b => a == (if b then 1 else 0)
  | .int a, .int b => a == b
  | .str a, .str b => a == b
  | .lst xs, .lst ys => iR xs ys
  | .tup xs, .tup ys => iR xs ys
  | _, _ => false
def iR : List Dt → List Dt → Bool
  | [], [] => true
  | x :: xs, y :: ys => eG x y && iR xs ys
  | _, _ => false
end
mutual
theorem jU : ∀ d : Dt, eG d d = true
  | .aq => by simp [eG]
  | .bl b => by simp [eG]
  | .int i => by simp [eG]
  | .str x => by simp [eG]
  | .lst xs => by simp only [eG]; exact kW xs
  | .tup xs => by simp only [eG]; exact kW xs
theorem kW : ∀ ds : List Dt, iR ds ds = true
  | [] => by simp [iR]
  | d :: ds => by simp only [iR]; rw [jU d, kW ds]; rfl
end
theorem gd : ∀ (xs ys : List Dt), iR xs ys = ((List.range (min xs.length ys.length)).all (fun j => eG (xs.getD j .aq) (ys.getD j .aq)) && xs.length == ys.length)
  | [], [] => by simp [iR]
  | [], _ :: _ => by simp [iR]
  | _ :: _, [] => by simp [iR]
  | x :: xs, y :: ys => by
    rw [iR, gd xs ys]
    have e : min (x :: xs).length (y :: ys).length = min xs.length ys.length + 1 := by simp [Nat.succ_min_succ]
    rw [e, List.range_succ_eq_map, List.all_cons, List.all_map]
    have e2 : ((x :: xs).length == (y :: ys).length) = (xs.length == ys.length) := by simp
    rw [e2, Bool.and_assoc]
    rfl
theorem eF.inj {H : Hp} {v : V} {d : Dt} (h : eF H v d) : ∀ {d' : Dt}, eF H v d' → d = d' := by
  induction h with
  | aq => intro d' h'; cases h'; rfl
  | bl b => intro d' h'; cases h'; rfl
  | int i => intro d' h'; cases h'; rfl
  | str x => intro d' h'; cases h'; rfl
  | lst e hl h ih =>
    intro d' h'
    cases h' with
    | lst e' GA h' =>
      rw [e] at e'; cases e'
      congr 1
      refine List.ext_getElem? fun i => ?_
      rename_i xs ds fO
      by_cases hi : i < xs.length
      · rw [List.getElem?_eq_getElem (by omega), List.getElem?_eq_getElem (by omega)]
        exact congrArg some (ih i _ _ (List.getElem?_eq_getElem hi) (List.getElem?_eq_getElem (by omega)) (h' i _ _ (List.getElem?_eq_getElem hi) (List.getElem?_eq_getElem (by omega))))
      · rw [List.getElem?_eq_none (by omega), List.getElem?_eq_none (by omega)]
    | tup e' GA h' => rw [e] at e'; cases e'
  | tup e hl h ih =>
    intro d' h'
    cases h' with
    | lst e' GA h' => rw [e] at e'; cases e'
    | tup e' GA h' =>
      rw [e] at e'; cases e'
      congr 1
      refine List.ext_getElem? fun i => ?_
      rename_i xs ds fO
      by_cases hi : i < xs.length
      · rw [List.getElem?_eq_getElem (by omega), List.getElem?_eq_getElem (by omega)]
        exact congrArg some (ih i _ _ (List.getElem?_eq_getElem hi) (List.getElem?_eq_getElem (by omega)) (h' i _ _ (List.getElem?_eq_getElem hi) (List.getElem?_eq_getElem (by omega))))
      · rw [List.getElem?_eq_none (by omega), List.getElem?_eq_none (by omega)]
mutual
def kX : Dt → Nat
  | .lst xs => jw xs + 1
  | .tup xs => jw xs + 1
  | _ => 0
def jw : List Dt → Nat
  | [] => 0
  | x :: xs => max (kX x) (jw xs)
end
theorem kY : ∀ {ds : List Dt} {i : Nat} {d : Dt}, ds[i]? = some d → kX d ≤ jw ds
  | [], _, _, h => by simp at h
  | x :: xs, 0, d, h => by
    simp at h; subst h
    rw [jw]; exact Nat.le_max_left _ _
  | x :: xs, i + 1, d, h => by
    rw [jw]
    exact Nat.le_trans (kY (i := i) (by simpa using h)) (Nat.le_max_right _ _)
section
variable {X : Cx} {pins : List (Addr × Obj)} {σ : St} {H : Hp} {s : Shared}
theorem Inv.lists (I : Inv X pins σ H s) {a : Addr} {xs : List V} (h : H a = some (.lst xs)) : ∃ its : List Value, Vals xs its ∧ s.heap.IsList a its.toArray := by
  obtain ⟨its, rv, p, _⟩ := I.list (bE.of h)
  exact ⟨its, rv, p.isList⟩
theorem Inv.tups (I : Inv X pins σ H s) {a : Addr} {xs : List V} (h : H a = some (.tup xs)) : ∃ its : List Value, Vals xs its ∧ s.heap.IsTuple a its.toArray := by
  obtain ⟨its, rv, p, _⟩ := I.tuple (cO.of h)
  exact ⟨its, rv, p⟩
theorem yK (I : Inv X pins σ H s) {x y : V} {d : Dt} (hx : eF H x d) : ∀ {e : Dt} {u v : Value} {A : Around}, eF H y e → RelV x u → RelV y v → A.units + kX d < cLine → SeqAt.EqAt A s u v (eG d e) := by
  have lists := fun {a : Addr} {xs : List V} (h : H a = some (.lst xs)) => I.lists h
  have tups := fun {a : Addr} {xs : List V} (h : H a = some (.tup xs)) => I.tups h
  induction hx generalizing y with
  | aq =>
    intro e u v A hy rx ry hu
    have bw : A.units < cLine := by omega
    cases rx
    cases hy with
    | aq => cases ry; exact SeqAt.EqAt.same _
    | bl b => cases ry; exact SeqAt.EqAt.none_bool _
    | int i => obtain ⟨t, rfl⟩ := ry; exact SeqAt.EqAt.none_int _ _
    | str z => obtain ⟨t, rfl⟩ := ry; exact SeqAt.EqAt.none_str _ _
    | lst e2 _ _ => cases ry; obtain ⟨_, _, p⟩ := lists e2; exact SeqAt.EqAt.none_list p bw
    | tup e2 _ _ => cases ry; obtain ⟨_, _, p⟩ := tups e2; exact SeqAt.EqAt.none_tuple p bw
  | bl a =>
    intro e u v A hy rx ry hu
    have bw : A.units < cLine := by omega
    cases rx
    cases hy with
    | aq => cases ry; exact SeqAt.EqAt.bool_none _
    | bl b => cases ry; exact SeqAt.EqAt.bool_bool _ _
    | int i => obtain ⟨t, rfl⟩ := ry; exact SeqAt.EqAt.bool_int _ _ _
    | str z => obtain ⟨t, rfl⟩ := ry; exact SeqAt.EqAt.bool_str _ _ _
    | lst e2 _ _ => cases ry; obtain ⟨_, _, p⟩ := lists e2; exact SeqAt.EqAt.bool_list _ p bw
    | tup e2 _ _ => cases ry; obtain ⟨_, _, p⟩ := tups e2; exact SeqAt.EqAt.bool_tuple _ p bw
  | int a =>
    intro e u v A hy rx ry hu
    have bw : A.units < cLine := by omega
    obtain ⟨ta, rfl⟩ := rx
    cases hy with
    | aq => cases ry; exact SeqAt.EqAt.int_none _ _
    | bl b => cases ry; exact SeqAt.EqAt.int_bool _ _ _
    | int i => obtain ⟨t, rfl⟩ := ry; exact SeqAt.EqAt.int_int _ _ _ _
    | str z => obtain ⟨t, rfl⟩ := ry; exact SeqAt.EqAt.int_str _ _ _ _
    | lst e2 _ _ => cases ry; obtain ⟨_, _, p⟩ := lists e2; exact SeqAt.EqAt.int_list _ _ p bw
    | tup e2 _ _ => cases ry; obtain ⟨_, _, p⟩ := tups e2; exact SeqAt.EqAt.int_tuple _ _ p bw
  | str a =>
    intro e u v A hy rx ry hu
    have bw : A.units < cLine := by omega
    obtain ⟨ta, rfl⟩ := rx
    cases hy with
    | aq => cases ry; exact SeqAt.EqAt.str_none _ _
    | bl b => cases ry; exact SeqAt.EqAt.str_bool _ _ _
    | int i => obtain ⟨t, rfl⟩ := ry; exact SeqAt.EqAt.str_int _ _ _ _
    | str z => obtain ⟨t, rfl⟩ := ry; exact SeqAt.EqAt.str_str _ _ _ _
    | lst e2 _ _ => cases ry; obtain ⟨_, _, p⟩ := lists e2; exact SeqAt.EqAt.str_list _ _ p bw
    | tup e2 _ _ => cases ry; obtain ⟨_, _, p⟩ := tups e2; exact SeqAt.EqAt.str_tuple _ _ p bw
  | lst e1 mM h1 ih =>
    rename_i a xs ds
    intro e u v A hy rx ry hu
    have bw : A.units < cLine := by omega
    have yL : A.units + jw ds + 1 < cLine := by rw [kX] at hu; omega
    cases rx
    obtain ⟨its, rv, p⟩ := lists e1
    cases hy with
    | aq => cases ry; exact SeqAt.EqAt.list_none p bw
    | bl b => cases ry; exact SeqAt.EqAt.list_bool _ p bw
    | int i => obtain ⟨t, rfl⟩ := ry; exact SeqAt.EqAt.list_int _ _ p bw
    | str z => obtain ⟨t, rfl⟩ := ry; exact SeqAt.EqAt.list_str _ _ p bw
    | lst e2 jh h2 =>
      rename_i b ys es
      cases ry
      by_cases yM : a = b
      · subst yM
        have := (eF.lst e1 mM h1).inj (eF.lst e2 jh h2)
        cases this
        rw [jU]
        exact SeqAt.EqAt.same _
      · obtain ⟨cS, il, p2⟩ := lists e2
        have l1 := rv.length
        have l2 := il.length
        have at_ : ∀ j (g1 : j < its.toArray.size) (g2 : j < cS.toArray.size), SeqAt.EqAt A.in1 s its.toArray[j] cS.toArray[j] (eG (ds.getD j .aq) (es.getD j .aq)) := fun j g1 g2 => by
          have kZ : j < xs.length := by rw [l1]; simpa using g1
          have k4 : j < ys.length := by rw [l2]; simpa using g2
          have r1 := dQ rv g1
          have r2 := dQ il g2
          rw [List.getD_eq_getElem?_getD, List.getElem?_eq_getElem kZ] at r1
          rw [List.getD_eq_getElem?_getD, List.getElem?_eq_getElem k4] at r2
          have d1 : ds[j]? = some ds[j] := List.getElem?_eq_getElem (by omega)
          have d2 : es[j]? = some es[j] := List.getElem?_eq_getElem (by omega)
          rw [List.getD_eq_getElem?_getD, List.getD_eq_getElem?_getD, d1, d2]
          have := kY d1
          exact ih j _ _ (List.getElem?_eq_getElem kZ) d1 (h2 j _ _ (List.getElem?_eq_getElem k4) d2) r1 r2 (by show A.units + 1 + _ < cLine; omega)
        refine SeqAt.EqAt.of_refs yM ?_
        rw [eG, gd]
        by_cases hsz : ds.length = es.length
        · have q := SeqAt.RcAt.lists p p2 (by simp only [List.size_toArray]; omega) bw at_
          have z : (ds.length == es.length) = true := by simpa using hsz
          rw [z, Bool.and_true, ← hsz, Nat.min_self]
          rw [List.size_toArray, ← l1, mM] at q
          exact q
        · have z : (ds.length == es.length) = false := by simpa using hsz
          rw [z, Bool.and_false]
          exact SeqAt.RcAt.lists_lengths p p2 (by simp only [List.size_toArray]; simpa [bne_iff_ne] using (show its.length ≠ cS.length by omega)) bw
    | tup e2 jh h2 => cases ry; obtain ⟨_, _, p2⟩ := tups e2; exact SeqAt.EqAt.list_tuple p p2 bw
  | tup e1 mM h1 ih =>
    rename_i a xs ds
    intro e u v A hy rx ry hu
    have bw : A.units < cLine := by omega
    have yL : A.units + jw ds + 1 < cLine := by rw [kX] at hu; omega
    cases rx
    obtain ⟨its, rv, p⟩ := tups e1
    cases hy with
    | aq => cases ry; exact SeqAt.EqAt.tuple_none p bw
    | bl b => cases ry; exact SeqAt.EqAt.tuple_bool _ p bw
    | int i => obtain ⟨t, rfl⟩ := ry; exact SeqAt.EqAt.tuple_int _ _ p bw
    | str z => obtain ⟨t, rfl⟩ := ry; exact SeqAt.EqAt.tuple_str _ _ p bw
    | lst e2 jh h2 => cases ry; obtain ⟨_, _, p2⟩ := lists e2; exact SeqAt.EqAt.tuple_list p p2 bw
    | tup e2 jh h2 =>
      rename_i b ys es
      cases ry
      by_cases yM : a = b
      · subst yM
        have := (eF.tup e1 mM h1).inj (eF.tup e2 jh h2)
        cases this
        rw [jU]
        exact SeqAt.EqAt.same _
      · obtain ⟨cS, il, p2⟩ := tups e2
        have l1 := rv.length
        have l2 := il.length
        have at_ : ∀ j (g1 : j < its.toArray.size) (g2 : j < cS.toArray.size), SeqAt.EqAt A.in1 s its.toArray[j] cS.toArray[j] (eG (ds.getD j .aq) (es.getD j .aq)) := fun j g1 g2 => by
          have kZ : j < xs.length := by rw [l1]; simpa using g1
          have k4 : j < ys.length := by rw [l2]; simpa using g2
          have r1 := dQ rv g1
          have r2 := dQ il g2
          rw [List.getD_eq_getElem?_getD, List.getElem?_eq_getElem kZ] at r1
          rw [List.getD_eq_getElem?_getD, List.getElem?_eq_getElem k4] at r2
          have d1 : ds[j]? = some ds[j] := List.getElem?_eq_getElem (by omega)
          have d2 : es[j]? = some es[j] := List.getElem?_eq_getElem (by omega)
          rw [List.getD_eq_getElem?_getD, List.getD_eq_getElem?_getD, d1, d2]
          have := kY d1
          exact ih j _ _ (List.getElem?_eq_getElem kZ) d1 (h2 j _ _ (List.getElem?_eq_getElem k4) d2) r1 r2 (by show A.units + 1 + _ < cLine; omega)
        refine SeqAt.EqAt.of_refs yM ?_
        rw [eG, gd]
        have q := SeqAt.RcAt.tuples p p2 bw at_
        rw [List.size_toArray, List.size_toArray, ← l1, ← l2, mM, jh] at q
        exact q
end
section
variable {X : Cx} {pins : List (Addr × Obj)} {σ : St} {H : Hp} {s : Shared}
theorem GB (I : Inv X pins σ H s) {x y : V} {d e : Dt} {u v : Value} {A : Around} (hx : eF H x d) (hy : eF H y e) (rx : RelV x u) (ry : RelV y v) (hu : A.units + kX d < cLine) : SeqAt.RcAt A s u v (eG d e) := by
  have bw : A.units < cLine := by omega
  have lists := fun {a : Addr} {xs : List V} (h : H a = some (.lst xs)) => I.lists h
  have tups := fun {a : Addr} {xs : List V} (h : H a = some (.tup xs)) => I.tups h
  cases hx with
  | aq =>
    cases rx
    cases hy with
    | aq => cases ry; exact SeqAt.RcAt.none_none
    | bl b => cases ry; exact SeqAt.RcAt.none_bool _
    | int b => obtain ⟨t, rfl⟩ := ry; exact SeqAt.RcAt.none_int _ _
    | str b => obtain ⟨t, rfl⟩ := ry; exact SeqAt.RcAt.none_str _ _
    | lst e2 _ _ => cases ry; obtain ⟨_, _, p⟩ := lists e2; exact SeqAt.RcAt.none_list p bw
    | tup e2 _ _ => cases ry; obtain ⟨_, _, p⟩ := tups e2; exact SeqAt.RcAt.none_tuple p bw
  | bl a =>
    cases rx
    cases hy with
    | aq => cases ry; exact SeqAt.RcAt.bool_none _
    | bl b => cases ry; exact SeqAt.RcAt.bool_bool _ _
    | int b => obtain ⟨t, rfl⟩ := ry; exact SeqAt.RcAt.bool_int _ _ _
    | str b => obtain ⟨t, rfl⟩ := ry; exact SeqAt.RcAt.bool_str _ _ _
    | lst e2 _ _ => cases ry; obtain ⟨_, _, p⟩ := lists e2; exact SeqAt.RcAt.bool_list _ p bw
    | tup e2 _ _ => cases ry; obtain ⟨_, _, p⟩ := tups e2; exact SeqAt.RcAt.bool_tuple _ p bw
  | int a =>
    obtain ⟨ta, rfl⟩ := rx
    cases hy with
    | aq => cases ry; exact SeqAt.RcAt.int_none _ _
    | bl b => cases ry; exact SeqAt.RcAt.int_bool _ _ _
    | int b => obtain ⟨t, rfl⟩ := ry; exact SeqAt.RcAt.int_int _ _ _ _
    | str b => obtain ⟨t, rfl⟩ := ry; exact SeqAt.RcAt.int_str _ _ _ _
    | lst e2 _ _ => cases ry; obtain ⟨_, _, p⟩ := lists e2; exact SeqAt.RcAt.int_list _ _ p bw
    | tup e2 _ _ => cases ry; obtain ⟨_, _, p⟩ := tups e2; exact SeqAt.RcAt.int_tuple _ _ p bw
  | str a =>
    obtain ⟨ta, rfl⟩ := rx
    cases hy with
    | aq => cases ry; exact SeqAt.RcAt.str_none _ _
    | bl b => cases ry; exact SeqAt.RcAt.str_bool _ _ _
    | int b => obtain ⟨t, rfl⟩ := ry; exact SeqAt.RcAt.str_int _ _ _ _
    | str b => obtain ⟨t, rfl⟩ := ry; exact SeqAt.RcAt.str_str _ _ _ _
    | lst e2 _ _ => cases ry; obtain ⟨_, _, p⟩ := lists e2; exact SeqAt.RcAt.str_list _ _ p bw
    | tup e2 _ _ => cases ry; obtain ⟨_, _, p⟩ := tups e2; exact SeqAt.RcAt.str_tuple _ _ p bw
  | lst e1 mM h1 =>
    rename_i a xs ds
    have yL : A.units + jw ds + 1 < cLine := by rw [kX] at hu; omega
    cases rx
    obtain ⟨its, rv, p⟩ := lists e1
    cases hy with
    | aq => cases ry; exact SeqAt.RcAt.list_none p bw
    | bl b => cases ry; exact SeqAt.RcAt.list_bool _ p bw
    | int b => obtain ⟨t, rfl⟩ := ry; exact SeqAt.RcAt.list_int _ _ p bw
    | str b => obtain ⟨t, rfl⟩ := ry; exact SeqAt.RcAt.list_str _ _ p bw
    | lst e2 jh h2 =>
      rename_i b ys es
      cases ry
      obtain ⟨cS, il, p2⟩ := lists e2
      have l1 := rv.length
      have l2 := il.length
      have at_ : ∀ j (g1 : j < its.toArray.size) (g2 : j < cS.toArray.size), SeqAt.EqAt A.in1 s its.toArray[j] cS.toArray[j] (eG (ds.getD j .aq) (es.getD j .aq)) := fun j g1 g2 => by
        have kZ : j < xs.length := by rw [l1]; simpa using g1
        have k4 : j < ys.length := by rw [l2]; simpa using g2
        have r1 := dQ rv g1
        have r2 := dQ il g2
        rw [List.getD_eq_getElem?_getD, List.getElem?_eq_getElem kZ] at r1
        rw [List.getD_eq_getElem?_getD, List.getElem?_eq_getElem k4] at r2
        have d1 : ds[j]? = some ds[j] := List.getElem?_eq_getElem (by omega)
        have d2 : es[j]? = some es[j] := List.getElem?_eq_getElem (by omega)
        rw [List.getD_eq_getElem?_getD, List.getD_eq_getElem?_getD, d1, d2]
        have := kY d1
        exact yK I (h1 j _ _ (List.getElem?_eq_getElem kZ) d1) (h2 j _ _ (List.getElem?_eq_getElem k4) d2) r1 r2 (by show A.units + 1 + _ < cLine; omega)
      rw [eG, gd]
      by_cases hsz : ds.length = es.length
      · have q := SeqAt.RcAt.lists p p2 (by simp only [List.size_toArray]; omega) bw at_
        have z : (ds.length == es.length) = true := by simpa using hsz
        rw [z, Bool.and_true, ← hsz, Nat.min_self]
        rw [List.size_toArray, ← l1, mM] at q
        exact q
      · have z : (ds.length == es.length) = false := by simpa using hsz
        rw [z, Bool.and_false]
        exact SeqAt.RcAt.lists_lengths p p2 (by simp only [List.size_toArray]; simpa [bne_iff_ne] using (show its.length ≠ cS.length by omega)) bw
    | tup e2 jh h2 => cases ry; obtain ⟨_, _, p2⟩ := tups e2; exact SeqAt.RcAt.list_tuple p p2 bw
  | tup e1 mM h1 =>
    rename_i a xs ds
    have yL : A.units + jw ds + 1 < cLine := by rw [kX] at hu; omega
    cases rx
    obtain ⟨its, rv, p⟩ := tups e1
    cases hy with
    | aq => cases ry; exact SeqAt.RcAt.tuple_none p bw
    | bl b => cases ry; exact SeqAt.RcAt.tuple_bool _ p bw
    | int b => obtain ⟨t, rfl⟩ := ry; exact SeqAt.RcAt.tuple_int _ _ p bw
    | str b => obtain ⟨t, rfl⟩ := ry; exact SeqAt.RcAt.tuple_str _ _ p bw
    | lst e2 jh h2 => cases ry; obtain ⟨_, _, p2⟩ := lists e2; exact SeqAt.RcAt.tuple_list p p2 bw
    | tup e2 jh h2 =>
      rename_i b ys es
      cases ry
      obtain ⟨cS, il, p2⟩ := tups e2
      have l1 := rv.length
      have l2 := il.length
      have at_ : ∀ j (g1 : j < its.toArray.size) (g2 : j < cS.toArray.size), SeqAt.EqAt A.in1 s its.toArray[j] cS.toArray[j] (eG (ds.getD j .aq) (es.getD j .aq)) := fun j g1 g2 => by
        have kZ : j < xs.length := by rw [l1]; simpa using g1
        have k4 : j < ys.length := by rw [l2]; simpa using g2
        have r1 := dQ rv g1
        have r2 := dQ il g2
        rw [List.getD_eq_getElem?_getD, List.getElem?_eq_getElem kZ] at r1
        rw [List.getD_eq_getElem?_getD, List.getElem?_eq_getElem k4] at r2
        have d1 : ds[j]? = some ds[j] := List.getElem?_eq_getElem (by omega)
        have d2 : es[j]? = some es[j] := List.getElem?_eq_getElem (by omega)
        rw [List.getD_eq_getElem?_getD, List.getD_eq_getElem?_getD, d1, d2]
        have := kY d1
        exact yK I (h1 j _ _ (List.getElem?_eq_getElem kZ) d1) (h2 j _ _ (List.getElem?_eq_getElem k4) d2) r1 r2 (by show A.units + 1 + _ < cLine; omega)
      rw [eG, gd]
      have q := SeqAt.RcAt.tuples p p2 bw at_
      rw [List.size_toArray, List.size_toArray, ← l1, ← l2, mM, jh] at q
      exact q
end
section
variable {X : Cx}
def GC (neg : Bool) : R2 := fun x y H Q => ∃ d e, eF H x d ∧ eF H y e ∧ kX d ≤ 60 ∧ Q (.bl (if neg then !eG d e else eG d e)) H
theorem GD (hu : X.A.units + 64 < cLine) : OpR X (compareOp .Eq) (GC false) := by
  intro pins s σ H x y v u Q I rx ry h
  obtain ⟨d, e, hx, hy, hd, q⟩ := h
  exact GB I hx hy rx ry (by omega) X.prog X.w X.xe _ ⟨.bl _, H, I, rfl, q⟩
end
theorem GF : bootBuiltins "set" = some (.type "set") := by decide +kernel
theorem qy : bootBuiltins "sorted" = some (.builtin "sorted") := by decide +kernel
section
variable {X : Cx}
def yN (K : PySem.W.Frag) (H : Hp) (p : Addr) (ns : List Int) : Prop := bE K H p (ns.map V.int) ∨ cO K H p (ns.map V.int)
def tj (P : Program) (w : World) (K : PySem.W.Frag) : List V → Hp → VK → Prop := fun xs H Q => ∃ p ns, xs = [.ref p] ∧ yN K H p ns ∧ ns.length + 1 < scanBound ∧ ∀ l, H l = none → Q (.ref l) (upd H l (fB P w l (cT ns)))
theorem tm {ns : List Int} {us : List Value} (r : Vals (ns.map V.int) us) : ∀ (i : Nat) (v : Value), us.toArray[i]? = some v → ∃ m t, ns[i]? = some m ∧ v = .int m t := fun i v h => by
  have hl := r.length
  have h' : us[i]? = some v := by simpa using h
  have hi : i < us.length := (List.getElem?_eq_some_iff.mp h').1
  have cY : i < ns.length := by rw [List.length_map] at hl; omega
  obtain ⟨u, e, q⟩ := r.get (i := i) (x := V.int ns[i]) (by rw [List.getElem?_map, List.getElem?_eq_getElem cY]; rfl)
  rw [h'] at e; cases e
  obtain ⟨t, rfl⟩ := q
  exact ⟨_, t, List.getElem?_eq_getElem cY, rfl⟩
theorem yO (hc : X.calm = true) : cR X (.type "set") (tj X.prog X.w X.K) := by
  intro pins s σ H xs us Q I r h
  obtain ⟨p, ns, rfl, hq, hb, q⟩ := h
  obtain ⟨u, rfl, rx⟩ := vals1 r
  cases rx
  have fin : ∀ (h' : Heap) (tk : Nat), bH X.prog X.w h' s.heap.objs.size (cT ns) → (∀ b o, s.heap.get? b = some o → h'.get? b = some o) → EP X pins σ Q (.ref s.heap.objs.size) { s with heap := h', toks := tk } := fun h' tk hM hk =>
    ⟨.ref s.heap.objs.size, _, I.laid (t' := tk) hk (Nat.le_refl _) (pw hM), rfl, q _ (I.hok.fresh (Nat.le_refl _))⟩
  have hh := I.ok.hd hc
  rcases hq with hq | hq
  · obtain ⟨its, rv, pl, hz⟩ := I.list hq
    have hl : its.toArray.size = ns.length := by rw [List.size_toArray, ← rv.length, List.length_map]
    obtain ⟨o, ho, cW, n, hd⟩ := pl.isList
    refine kP (T := "list") (vs := ns) (itob := { cls := .type "list_iterator", data := .fields #[.ref p, .int 0 0] }) (Pv := fun i v => its.toArray[i]? = some v) (St := fun I i h => h.IsListIter I p i ∧ h.IsList p its.toArray) hh ⟨o, ho⟩ (fun s1 k => ⟨o, k o ho, cW⟩) F.sub_list_set F.sub_list_frozenset (by decide)
      (fun A' s1 Q' E' k tq => wpAny_pyIter_list ⟨o, k o ho, cW, n, hd⟩ tq) (fun A' I' hA fh => hl ▸ Walks.list hA I' p fh its.toArray) (fun h1 k => ⟨⟨_, Heap.get?_push_size _ rfl, rfl, rfl⟩, ⟨o, Heap.get?_push_of_some _ (k o ho), cW, n, hd⟩⟩) (tm rv) hb fin
  · obtain ⟨its, rv, pl, hz⟩ := I.tuple hq
    have hl : its.toArray.size = ns.length := by rw [List.size_toArray, ← rv.length, List.length_map]
    obtain ⟨o, ho, cW, n, hd⟩ := pl
    refine kP (T := "tuple") (vs := ns) (itob := { cls := .type "tuple_iterator", data := .fields #[.ref p, .int 0 0] }) (Pv := fun i v => its.toArray[i]? = some v) (St := fun I i h => h.IsTupleIter I p i ∧ h.IsTuple p its.toArray) hh ⟨o, ho⟩ (fun s1 k => ⟨o, k o ho, cW⟩) sub_tuple_set pq (by decide)
      (fun A' s1 Q' E' k tq => wpAny_pyIter_tuple ⟨o, k o ho, cW, n, hd⟩ tq) (fun A' I' hA fh => hl ▸ Walks.tuple hA I' p fh its.toArray) (fun h1 k => ⟨⟨_, Heap.get?_push_size _ rfl, rfl, rfl⟩, ⟨o, Heap.get?_push_of_some _ (k o ho), cW, n, hd⟩⟩) (tm rv) hb fin
def vj (P : Program) (w : World) (K : PySem.W.Frag) : List V → Hp → VK → Prop := fun xs H Q => ∃ p ns, xs = [.ref p] ∧ (H p = some (fB P w p ns) ∨ yN K H p ns) ∧ ns.length < 64 ∧ ∀ l, H l = none → Q (.ref l) (upd H l (.lst ((sortI ns).map V.int)))
theorem tu (hc : X.calm = true) : cR X (.builtin "sorted") (vj X.prog X.w X.K) := by
  intro pins s σ H xs us Q I r h
  obtain ⟨p, ns, rfl, hq, Gw, q⟩ := h
  obtain ⟨u, rfl, rx⟩ := vals1 r
  cases rx
  have hh := I.ok.hd hc
  refine wC (ns := ns) (fun QL GH => ?_) Gw (fun h1 h' d' tk us e hI k1 k2 he => ?_)
  · rcases hq with hq | hq | hq
    · exact uK (by simp [hh]) (vi I hq) (by have : sizeLine = 16777216 := sizeLine_eq; omega) GH
    · obtain ⟨its, rv, pl, hz⟩ := I.list hq
      have hl := rv.length
      obtain ⟨o, ho, cW, n, hd⟩ := pl.isList
      exact mL ho cW hd (.inl rfl) (fun h' k => GH its ns h' s.drawn s.toks (wB rv) (.refl _) k) (by omega)
    · obtain ⟨its, rv, pl, hz⟩ := I.tuple hq
      have hl := rv.length
      obtain ⟨o, ho, cW, n, hd⟩ := pl
      exact mL ho cW hd (.inr rfl) (fun h' k => GH its ns h' s.drawn s.toks (wB rv) (.refl _) k) (by omega)
  · have I1 : Inv X pins σ H { s with heap := h1, drawn := d' } := (I.kept (t' := s.toks) k1).mZ ⟨rfl, rfl, I.bare.self⟩
    have hsz : sizeLine = 16777216 := sizeLine_eq
    have ob : ObjOk X.prog X.w (upd H h1.objs.size (.lst ((sortI ns).map V.int))) h' h1.objs.size (.lst ((sortI ns).map V.int)) := ⟨by rw [List.length_map, (sortI_perm ns).length_eq]; omega, us, e, kU hI, he⟩
    exact ⟨.ref h1.objs.size, _, I1.laid (t' := tk) k2 (Nat.le_refl _) ob, rfl, q _ (I1.hok.fresh (Nat.le_refl _))⟩
end
section
variable {P : Program} {w : World} {A : Around} {E : Value → Shared → Prop} {s : Shared}
theorem rA {QL : List Value → Shared → Prop} {r : Addr} {a b c : Int} {t u v : Tok} {n : Nat} (hh : A.handled = none) (hr : IsRange s.heap r a b c t u v) (GI : Builtin.Range.small a b c = true)
    (hn : Builtin.Range.rangeSize a b c = n) (hlen : n ≤ 2 ^ 24)
    (hQ : ∀ acc h' tk, ItemsOf (fun i v => ∃ t, v = .int (a + i * c) t) acc n → (∀ b o, s.heap.get? b = some o → h'.get? b = some o) → QL acc.toList { s with heap := h', toks := tk }) : wpAny (model P w) A (collect (.ref r)) QL E s := by
  unfold collect
  refine wpAny_bind (wpAny_runValue (codeAny_builtin F.entry_proto_collect ?_))
  rw [Around.under_plainId F.plain_proto_collect _]
  show wpAny _ A.in1 (newList [] >>= fun l => again (.builtin "list.__iadd__" ⟨[l, .ref r], []⟩)) _ _ s
  refine wpAny_bind (wpAny_newObj_type ?_)
  refine wpAny_pure ⟨plainId_quiet F.plain_list_iadd _, codeAny_builtin F.entry_list_iadd ?_⟩
  rw [Around.under_plainId F.plain_list_iadd _]
  show wpAny _ A.in1 (Builtin.List.listExtendWith (.ref s.heap.objs.size) (.ref r) (.ref s.heap.objs.size)) _ _ _
  refine wpAny_extend_range (R := fun r s' => match r with
              | Except.ok (Flow.ret v) =>
                wpAny (model P w) A
                  (match v with
                  | Value.ref a => do
                    let __do_lift ← load a
                    match __do_lift.data with
                      | Data.seq xs OO => pure xs.toList
                      | x => unsupported "internal:collect"
                  | x => unsupported "internal:collect")
                  QL E s'
              | Except.ok a => False
              | Except.error e => E e s') (s := { s with heap := s.heap.push { cls := .type "list", data := .seq ([] : List Value).toArray } }) hh (Heap.get?_push_of_some _ hr) GI hn hlen _ _ 0 (Heap.get?_push_size _ rfl) fun h' tk gb c' hk g6 kS => ?_
  show wpAny _ A (load s.heap.objs.size >>= _) _ _ _
  refine wpAny_bind (wpAny_load g6 ?_)
  exact wpAny_pure (hQ gb h' tk kS fun b o e => hk b o (Nat.ne_of_lt (Heap.lt_size e)) (Heap.get?_push_of_some _ e))
theorem k6 {Q₁ : Value → Shared → Prop} {QL : List Value → Shared → Prop} {I : Addr} (hT : s.TypeIs (.ref I) "range")
    (W : wpAny (model P w) A.in1 (collect (.ref I)) QL E s) (hsz : ∀ us s', QL us s' → us.length ≤ sizeLine)
    (h : ∀ us s', QL us s' → Q₁ (.ref s'.heap.objs.size) { s' with heap := s'.heap.push { cls := .type "tuple", data := .seq us.toArray } }) :
    codeAny (model P w) A (.call (.builtin "tuple.__new__") ⟨[.type "tuple", .ref I], []⟩) (wants Q₁ E) s := by
  refine codeAny_of_tree ?_
  show wpAny _ A.in1 (do checkBuiltinCall "tuple.__new__" ⟨[.type "tuple", .ref I], []⟩; again (.builtin "tuple.__new__" ⟨[.type "tuple", .ref I], []⟩)) _ _ s
  refine wpAny_bind (wpAny_of_eq (F.newCall_tuple_1 _) (wpAny_pure ⟨plainId_quiet F.plain_tuple_new _, codeAny_builtin F.entry_tuple_new ?_⟩))
  rw [Around.under_plainId F.plain_tuple_new _]
  have m8 := sub_tuple_self
  have OQ := init_tuple_lookup
  have Pa := madeHere_tuple
  wp_walk using wpAny_typeOf hT, wpAny_mono W
  · intro us s' hq
    show wpAny _ _ (Builtin.Tuple.tupleExact us.toArray >>= fun v => ret v) _ _ _
    unfold Builtin.Tuple.tupleExact
    refine wpAny_bind (wpAny_newObj_type ?_ (by show us.toArray.size ≤ sizeLine; rw [List.size_toArray]; exact hsz us s' hq))
    exact wpAny_pure (h us s' hq)
  · exact fun _ _ z => z
end
def bF (n : Nat) : List Int := (List.range n).map fun i => ((i : Nat) : Int)
section
variable {X : Cx}
theorem rB {e : Expr} {te : TE} {p p1 p2 pos : Pos} (hc : X.calm = true) (hg : Gl X "tuple") (hm : X.mg "tuple" = none) (sH : Gl X "range") (sI : X.mg "range" = none) (he : PE X e te) (hs : starEach [e] X.env = [(false, eval e X.env)] := by rfl) :
    PE X (.Call (.Name "tuple" p) [.Call (.Name "range" p1) [e] [] p2] [] pos) (fun σ H Q => te σ H fun x H1 => ∃ j : Int, x = .int j ∧ -(2 ^ 20) ≤ j ∧ j ≤ 2 ^ 20 ∧ ∀ l, H1 l = none → Q (.ref l) (upd H1 l (.tup ((bF j.toNat).map V.int)))) := by
  refine ⟨?_⟩
  intro pins s σ H Q I h
  refine wpAny_Call_Name_kw (dY I hg hm cn ?_)
  refine PyProof.Rows.callWith_type1 ?_ rfl rfl
  show wpAny _ _ (spliced ((false, eval (.Call (.Name "range" p1) [e] [] p2) X.env) :: [])) _ _ s
  refine Calls.spliced_cons ?_
  refine Call_ (dY I sH sI boot_range (PyProof.Rows.callWith_type1 ?_ hs rfl))
  rw [hs]
  refine Calls.spliced_cons (thn (he pins s σ H _ I h) fun v s1 ⟨x, H1, I1, r1, q1⟩ => Calls.spliced_nil ?_)
  obtain ⟨j, rfl, b1, b2, q⟩ := q1
  obtain ⟨t, rfl⟩ := r1
  refine call_range_1 ?_
  refine Calls.spliced_nil ?_
  have hh := I1.ok.hd hc
  have I2 : Inv X pins σ H1 { s1 with heap := s1.heap.push { cls := .type "range", data := .fields #[.int 0 s1.toks, .int j t, .int 1 (s1.toks + 1)] }, toks := s1.toks + 1 + 1 } := I1.kept fun b o e => Heap.get?_push_of_some _ e
  generalize km : ({ s1 with heap := s1.heap.push { cls := .type "range", data := .fields #[.int 0 s1.toks, .int j t, .int 1 (s1.toks + 1)] }, toks := s1.toks + 1 + 1 } : Shared) = s2 at I2 ⊢
  have GJ : IsRange s2.heap s1.heap.objs.size 0 j 1 s1.toks t (s1.toks + 1) := by rw [← km]; exact IsRange.new ..
  have hT : s2.TypeIs (.ref s1.heap.objs.size) "range" := by
    rw [← km]; exact ⟨_, Heap.get?_push_size _ rfl, rfl⟩
  refine callType_codes (Q₁ := fun obj az => az.TypeIs obj "tuple" ∧ EP X pins σ Q obj az) F.called_tuple (F.typeCall_tuple_1 _) F.entry_object_init
    (k6 (QL := fun us s' => us.length ≤ sizeLine ∧ Inv X pins σ H1 s' ∧ Vals ((bF j.toNat).map V.int) us) hT
      (rA (n := j.toNat) (by simp [hh]) GJ (small_one (by omega) (by omega) (by omega) (by omega)) (by rw [PyProof.Rows.rangeSize_nat]; simp) (by omega) fun acc h' tk hit hk => ?_) (fun us s' q => q.1) fun us s' ⟨hl, I', rv⟩ => ⟨⟨_, Heap.get?_push_size _ rfl, rfl⟩, ?_⟩) fun obj az cF => ?_
  · have hsz : sizeLine = 16777216 := sizeLine_eq
    refine ⟨by rw [Array.length_toList, hit.1]; omega, I2.kept hk, ?_⟩
    refine gS (by have := hit.1; simp [bF]; omega) fun i v e => ?_
    have hi : i < j.toNat := by
      have := (List.getElem?_eq_some_iff.mp e).1
      simpa [bF] using this
    have yP : i < acc.size := by rw [hit.1]; exact hi
    obtain ⟨t2, e4⟩ := hit.2 i acc[i] (by simp [yP])
    refine ⟨acc[i], by simp [yP], ?_⟩
    have e5 : v = V.int (i : Nat) := by
      have : ((bF j.toNat).map V.int)[i]? = some (V.int (i : Nat)) := by simp [bF, hi]
      rw [this] at e; exact (Option.some.inj e).symm
    rw [e4, e5]
    exact ⟨t2, by simp⟩
  · have I3 : Inv X pins σ (upd H1 s'.heap.objs.size (.tup ((bF j.toNat).map V.int))) { s' with heap := s'.heap.push { cls := .type "tuple", data := .seq us.toArray } } :=
      I'.laid (t' := s'.toks) (fun b o e => Heap.get?_push_of_some _ e) (Nat.le_refl _) (show ObjOk X.prog X.w _ _ _ (.tup _) from ⟨by rw [rv.length]; exact hl, us, rv, jt.new _ _⟩)
    exact ⟨.ref s'.heap.objs.size, _, I3, rfl, q _ (I'.hok.fresh (Nat.le_refl _))⟩
  · exact ⟨cF.1, F.args_object_init_2 obj _, object_init_meets F.called_tuple.init.lookup F.called_tuple.made (by decide) X.prog X.w X.A.in1 _ az ⟨cF.1, rfl, cF.2⟩⟩
theorem wG {K : PySem.W.Frag} (h : X.K = K) (hc : X.calm = true) : cR X (.type "set") (tj X.prog X.w K) := h ▸ yO hc
end
theorem yQ : bootBuiltins "all" = some (.builtin "all") := PyProof.Rows.boot_all
section
variable {X : Cx}
def CM (K : PySem.W.Frag) : List V → Hp → VK → Prop := fun xs H Q => ∃ (p : Addr) (bs : List Bool), xs = [.ref p] ∧ bE K H p (bs.map V.bl) ∧ Q (.bl (bs.all id)) H
theorem yR (hc : X.calm = true) : cR X (.builtin "all") (CM X.K) := by
  intro pins s σ H xs us Q I r h
  obtain ⟨p, bs, rfl, hq, q⟩ := h
  obtain ⟨u, rfl, rx⟩ := vals1 r
  cases rx
  have hh := I.ok.hd hc
  obtain ⟨its, rv, pl, hz⟩ := I.list hq
  have hl : its.toArray.size = bs.length := by rw [List.size_toArray, ← rv.length, List.length_map]
  have sT : s.heap.IsList p its.toArray := pl.isList
  have aT : p < s.heap.objs.size := let ⟨o, ho, _⟩ := sT; Heap.lt_size ho
  have at_ : ∀ (i : Nat) (v : Value), its.toArray[i]? = some v → v = .bool (bs.getD i false) := fun i v hv => by
    have h' : its[i]? = some v := by simpa using hv
    have hi : i < its.length := (List.getElem?_eq_some_iff.mp h').1
    have cY : i < bs.length := by rw [List.size_toArray] at hl; omega
    obtain ⟨u, e, q2⟩ := rv.get (i := i) (x := V.bl bs[i]) (by rw [List.getElem?_map, List.getElem?_eq_getElem cY]; rfl)
    rw [h'] at e; cases e
    rw [List.getD_eq_getElem?_getD, List.getElem?_eq_getElem cY]
    exact q2
  refine call_function_tree F.kind_all F.plain_all F.entry_all (F.args_all1 _) ?_
  unfold Builtin.«all»
  refine wpAny_bind (m := oneArg "all" _) (wpAny_pure ?_)
  refine wpAny_bind (wpAny_pyIter_list sT ?_)
  have W := Walks.list (prog := X.prog) (w := X.w) (A := X.A.in1) (by simp [hh]) s.heap.objs.size p (Nat.ne_of_lt aT) its.toArray
  refine wpAny_pure ⟨plainId_quiet F.plain_all_loop _, codeAny_all_loop W (fun i => bs.getD i false) ?_ its.toArray.size 0 _ rfl (Nat.zero_le _) ⟨⟨_, Heap.get?_push_size _ rfl, rfl, rfl⟩, sT.push _⟩ fun h' tk hk => ?_⟩
  · intro i v s' Q' E' hv tq
    have := at_ i v hv
    subst this
    exact wpAny_truthy_bool tq
  · have e : ((List.range its.toArray.size).drop 0).all (fun i => bs.getD i false) = bs.all id := by
      rw [List.drop_zero, hl]
      refine Bool.eq_iff_iff.mpr ?_
      rw [List.all_eq_true, List.all_eq_true]
      constructor
      · intro hx b hb
        obtain ⟨i, hi⟩ := List.getElem?_of_mem hb
        have mJ := (List.getElem?_eq_some_iff.mp hi).1
        have := hx i (by rw [List.mem_range]; exact mJ)
        rw [List.getD_eq_getElem?_getD, hi] at this
        exact this
      · intro hx i hi
        rw [List.mem_range] at hi
        rw [List.getD_eq_getElem?_getD, List.getElem?_eq_getElem hi]
        exact hx _ (List.getElem_mem hi)
    have I2 : Inv X pins σ H { s with heap := h', toks := tk } := I.kept fun b o eb => hk b o (by simp only [List.mem_singleton]; exact Nat.ne_of_lt (Heap.lt_size eb)) (Heap.get?_push_of_some _ eb)
    refine ⟨.bl (bs.all id), H, I2, ?_, q⟩
    show Value.bool _ = Value.bool _
    rw [e]
theorem wH {K : PySem.W.Frag} (h : X.K = K) (hc : X.calm = true) : cR X (.builtin "all") (CM K) := h ▸ yR hc
end
theorem ObjOk.there {P : Program} {w : World} {H : Hp} {h : Heap} {a : Addr} {o : HO} (x : ObjOk P w H h a o) : ∃ u, h.get? a = some u := by
  cases o with
  | lst xs => obtain ⟨_, _, _, _, e⟩ := x; exact ⟨_, e⟩
  | tup xs => obtain ⟨_, _, _, ob, e, _⟩ := x; exact ⟨_, e⟩
  | dK ao => obtain ⟨_, _, _, _, o, _, _, e, _⟩ := x; exact ⟨_, e⟩
  | dT ao => obtain ⟨_, _, _, _, o, _, _, e, _⟩ := x; exact ⟨_, e⟩
  | set S n => obtain ⟨o, _, _, _, e, _⟩ := x; exact ⟨_, e⟩
  | ins C dx fs => obtain ⟨_, _, _, e, _⟩ := x; exact ⟨_, e⟩
  | own y => obtain ⟨_, e⟩ := x; exact ⟨_, e⟩
  | xd fs => obtain ⟨_, ⟨_, _, _, e, _⟩, _⟩ := x; exact ⟨_, e⟩
  | rng lo hi => obtain ⟨_, _, _, e⟩ := x; exact ⟨_, e⟩
  | cN ob u => obtain ⟨e, _⟩ := x; exact ⟨_, e⟩
  | cD ps => exact ⟨_, x⟩
  | lam ps => exact ⟨_, x⟩
  | met f y => exact ⟨_, x⟩
  | ext φ => obtain ⟨_, ⟨_, e⟩, _⟩ := x; exact ⟨_, e⟩
def gG (P : Program) (w : World) : fW := fun outer H s E e s' => ∃ (a C t : Addr) (B : Heap) (H' : Hp), e = .ref a ∧ s'.os = s.os ∧ Gn s.gens.size s'.gens ∧ Heap.FlyingW B outer a (.ref C) (.ref t) s'.heap ∧
  (∀ b o, s.heap.get? b = some o → b ∉ dP outer → ∃ o', B.get? b = some o') ∧ (∀ b u, H' b = some u → ∃ o', B.get? b = some o') ∧ Un (dP outer) [] H H' s.heap s'.heap ∧ cj P w H' s'.heap ∧ E (.ref C) none H'
section
variable {X : Cx} {pins : List (Addr × Obj)} {σ : St} {H H1 : Hp} {s s1 : Shared} {B h' : Heap}
theorem Inv.k7 (I : Inv X pins σ H s) {b : Addr} (h1 : b ≠ X.env.locals) (h2 : b ∉ X.fs) : b ∉ dP X.stack := fun z => by
  rcases List.mem_cons.mp (I.eC b z) with q | q
  · exact h1 q
  · exact h2 q
theorem Inv.rN (I : Inv X pins σ H s) {b : Addr} {o : Obj} (e : X.s₀.heap.get? b = some o) : b ≠ X.env.locals := fun z => by
  have l := Heap.lt_size e
  have := I.ok.above
  rw [← z] at this
  exact absurd l (Nat.not_lt.mpr this)
theorem Inv.Kn (I1 : Inv X pins σ H1 s1) (I : Inv X pins σ H s) (c1 : ∀ b o, s1.heap.get? b = some o → b ∉ dP X.stack → ∃ o', B.get? b = some o') (c2 : ∀ b u, H b = some u → ∃ o', B.get? b = some o')
    (k : B.StaysIn s.heap) (k' : B.StaysIn h') (up : s.heap.UpToSlots h') : Inv X pins σ H { s with heap := h' } := by
  have same : ∀ b o', (∃ o2, B.get? b = some o2) → s.heap.get? b = some o' → h'.get? b = some o' := fun b o' ⟨o2, e⟩ q => by
    have z := k b o2 e
    rw [q] at z
    cases z
    exact k' b _ e
  refine ⟨I.ok, I.os, I.bare, ⟨fun b o q n hb hx => ?_, fun b o q n hb hx => ?_, I.base.free, fun b o q hx => ?_, I.base.tups, I.base.frzs, I.base.tbls⟩, ?_, fun x c e => ?_, I.free, I.freeC, fun p hp => ?_, fun a o e => ?_, I.len⟩
  · exact same b o (c1 b o (I1.base.keep b o q n hb hx) (I.k7 (I.rN q) hb)) (I.base.keep b o q n hb hx)
  · obtain ⟨sl, e⟩ := I.base.slot b o q n hb hx
    obtain ⟨_, o2, e2, nf⟩ := I.funs.mem hb
    rw [e] at e2
    cases e2
    obtain ⟨MY, e4⟩ := up b { o with slots := sl } e nf
    exact ⟨MY, e4⟩
  · obtain ⟨o', e⟩ := I.base.there b o q hx
    by_cases hb : b ∈ X.fs
    · obtain ⟨_, o2, e2, nf⟩ := I.funs.mem hb
      obtain ⟨sl, e3⟩ := up b _ e2 nf
      exact ⟨_, e3⟩
    · obtain ⟨o1, q1⟩ := I1.base.there b o q hx
      exact ⟨o', same b o' (c1 b o1 q1 (I.k7 (I.rN q) hb)) e⟩
  · obtain ⟨m, hn, hl⟩ := I.loc
    refine ⟨m, up.ns hn, fun i x v a b c => ?_⟩
    obtain ⟨u, r, l⟩ := hl i x v a b c
    refine ⟨u, r, ?_⟩
    rcases l with l | ⟨kd, c, ec, o, ho, hd⟩
    · exact .inl l
    · obtain ⟨sl, e⟩ := up c o ho fun vs z => by rw [hd] at z; cases z
      exact .inr ⟨kd, c, ec, _, e, hd⟩
  · obtain ⟨v, o, ho, hd⟩ := I.cell x c e
    obtain ⟨sl, e⟩ := up c o ho fun vs z => by rw [hd] at z; cases z
    exact ⟨v, _, e, hd⟩
  · obtain ⟨p1, p2, p3, p4, p5⟩ := I.pin p hp
    exact ⟨same p.1 p.2 (c1 p.1 p.2 (I1.pin p hp).1 (I.k7 p3 p4)) p1, p2, p3, p4, p5⟩
  · refine (I.hok a o e).b9 (fun b u hb q => ?_) (fun _ q => q) fun _ _ q => q
    rcases hb with z | z
    · exact same b u (c2 b o (by rw [z]; exact e)) q
    · exact same b u (c2 b _ z) q
end
section
variable {P : Program} {w : World} {K : PySem.W.Frag} {mg : Str → Option Value} {base : Heap} {N : List Str} {qual : Str} {scope : Scope} {f : Addr} {cd : Value} {A : Around} {outer : List Env} {s0 : Shared} {H0 : Hp} {E : XK}
theorem CN : Passes (gG P w) (fi (gG P w) P w K mg base N qual scope f cd A outer s0 H0 E) E := by
  intro pins σ H s e s' I h
  obtain ⟨a, C, t, B, H', rfl, os, gn, fl, c1, c2, un, hok, q⟩ := h
  have I' := I.nI (ch := []) os un hok gn (fun b z => absurd z (by simp))
  refine wpAny_leaves_onW (cls := .ref C) (a0 := .ref t) I.ok.frames rfl fl fun h' Ko up => ?_
  have I2 := I.Kn I' c1 c2 fl.1 Ko.1 up
  refine ⟨a, C, t, B, H', rfl, I2.os, I2.bare, Ko, fun b o e n => ?_, c2, I2.base, I2.hok, q⟩
  obtain ⟨o1, e1⟩ := I.base.there b o e (fun z => absurd (show b ∈ ([] : List Addr) from z) (by simp))
  exact c1 b o1 e1 (I.k7 (I.rN e) n)
def Raises (X : Cx) (E : XK) : Prop := ∀ (pins : List (Addr × Obj)) (σ : St) (H : Hp) (s : Shared) (C : Addr) (h' : Heap) (a : Addr) (vs : List Value), Inv X pins σ H s → Heap.MadeExcOf s.heap h' a (.ref C) vs → E (.ref C) none H → X.xe (.ref a) { s with heap := h' }
theorem GK : Raises (fi (gG P w) P w K mg base N qual scope f cd A outer s0 H0 E) E := by
  intro pins σ H s C h' a vs I hx q
  have c1 : ∀ b o, s.heap.get? b = some o → b ∉ dP (fi (gG P w) P w K mg base N qual scope f cd A outer s0 H0 E).stack → ∃ o', (PySem.W.hideAll s.heap (dP (fi (gG P w) P w K mg base N qual scope f cd A outer s0 H0 E).stack)).get? b = some o' :=
    fun b o e n => ⟨o, PySem.W.hideAll_get _ e n⟩
  have c2 : ∀ b u, H b = some u → ∃ o', (PySem.W.hideAll s.heap (dP (fi (gG P w) P w K mg base N qual scope f cd A outer s0 H0 E).stack)).get? b = some o' := fun b u hu => by
    obtain ⟨o, e⟩ := (I.hok b u hu).there
    exact c1 b o e fun z => by rw [I.jz b z] at hu; cases hu
  have st : (PySem.W.hideAll s.heap (dP (fi (gG P w) P w K mg base N qual scope f cd A outer s0 H0 E).stack)).StaysIn s.heap := fun b o e => PySem.W.of_hideAll _ e
  refine wpAny_leaves_madeW (cls := .ref C) I.ok.frames rfl st (PySem.W.funFrames_hide I.stack fun env he b hb => List.mem_filterMap.mpr ⟨env, he, hb⟩) hx fun Pb t fl _ _ up => ?_
  have I2 := I.Kn I c1 c2 st fl.1 ((Heap.UpToSlots.of_keeps hx.keeps).trans up)
  refine ⟨a, C, t, _, H, rfl, I2.os, I2.bare, fl, fun b o e n => ?_, c2, I2.base, I2.hok, q⟩
  obtain ⟨o1, e1⟩ := I.base.there b o e (fun z => absurd (show b ∈ ([] : List Addr) from z) (by simp))
  exact c1 b o1 e1 (I.k7 (I.rN e) n)
end
theorem D9 {K : PySem.W.Frag} {h : Heap} {C : Addr} {qz : List Value} {newId : String} (X : K.In h) (q : PySem.W.excIn K C qz newId = true) :
    ∃ bm Nn nm qn bs hd sn sub ab col dd k0 k1 k2 k3 k5 mN, h.get? C = some (excClassObj nm qn C Nn bs bm hd sn sub ab col dd k0 k1 k2 k3 k5 newId) ∧ h.Ns Nn mN ∧ mN "__init__" = none ∧ OwnTail h qz bm := by
  unfold PySem.W.excIn at q
  split at q
  case h_2 => cases q
  case h_1 dd cd sl ho =>
    split at q
    case h_2 => cases q
    case h_1 C' bm k0 k1 k2 k3 n k5 hm hs =>
      rw [Bool.and_eq_true, Bool.and_eq_true, Bool.and_eq_true, Bool.and_eq_true, Bool.and_eq_true] at q
      obtain ⟨⟨⟨⟨⟨q1, q2⟩, q3⟩, q4⟩, q5⟩, q6⟩ := q
      have e1 : C' = C := beq_iff_eq.mp q1
      have e2 : n = newId := beq_iff_eq.mp q2
      have e3 : cd.hasDel = false := by simpa using q3
      subst e1 e2
      obtain ⟨nm, bs, mro, ns, qn, hd, sn, sub, ab, col, del⟩ := cd
      dsimp only at hm e3 q5 q6
      subst hm e3
      have es : sl = #[k0, k1, k2, k3, some (.builtin n), k5] := by
        cases sl with
        | mk l => exact congrArg Array.mk hs
      subst es
      exact ⟨bm, ns, nm, qn, bs, hd, sn, sub, ab, col, dd, k0, k1, k2, k3, k5, _, X _ _ ho, Heap.Ns.of_isNs (PySem.W.isNs_of_in X q5), PySem.W.nsMap_none_of_in X q5 (beq_iff_eq.mp q6), PySem.W.tail_of_in X q4⟩
section
variable {X : Cx} {x : Str} {C : Addr} {jx : Expr} {rest : List Expr} {t : TA} {qz : List Value} {B newId tD : String} {E : XK} {np aW pos : Pos}
def GL (C : Addr) (E : XK) (t : TA) : TS := fun _ σ H => t σ H fun vs H1 => vs.length ≤ sizeLine ∧ E (.ref C) none H1
theorem Bu (O : PySem.W.excIn X.K C qz newId = true) (FB : ExcBaseFacts B newId tD qz) (hc : X.calm = true) (hR : Raises X E) (hg : Gl X x) (hm : X.mg x = some (.ref C)) (ha : PA X (jx :: rest) t)
    (eE : (x == ("__debug__" : Str)) = false := by decide) (he : starEach (jx :: rest) X.env = (false, eval jx X.env) :: starEach rest X.env := by rfl) (bR : (backTo aW (starEach rest X.env)).any (·.1) = false := by rfl) :
    PS X (.Raise (some (.Call (.Name x np) (jx :: rest) [] aW)) none pos) (GL C E t) := by
  refine ⟨fun pins s σ H D I h => ?_⟩
  obtain ⟨bm, Nn, nm, qn, bs, hd, sn, sub, ab, col, dd, k0, k1, k2, k3, k5, mN, hC, hN, MZ, T⟩ := D9 I.ok.mod.kin O
  have hp : (backTo aW (starEach (jx :: rest) X.env)).any (·.1) = false := by
    rw [he]
    exact bR
  have jj := ha aW pins s σ H _ I h
  rw [he] at jj
  refine wpAny_Raise_call_subT (C := C) (nm := nm) (q := qn) (N := Nn) (bs := bs) (bm := bm) (hdct := hd) (sn := sn) (sub := sub) (ab := ab) (col := col) (dd := dd) (k0 := k0) (k1 := k1) (k2 := k2) (k3 := k3) (k5 := k5) FB (mN := mN)
    (T.hasType FB.hasBase) (I.ok.hd hc) hp MZ (lX I hg hm ⟨rfl, ?_⟩ eE)
  rw [he]
  refine Calls.evalArgs_plain (thn jj fun us s2 ⟨vs, H2, I2, r, l, q⟩ => ?_)
  exact ⟨rfl, by rw [← r.length]; exact l, I2.bk _ _ hC, hN.keeps I2.bk, T.keeps I2.bk, fun h' a hx => hR pins σ H2 s2 C h' a us I2 hx q⟩
end
end L2
namespace L2
open PySem PySem.Spec PyProof.Rows PySem.W Builtin Builtin.ObjectAttr Builtin.Getset_descriptor
def ExcAt (C a : Addr) (h : Heap) : Prop := ∃ o vs, h.get? a = some o ∧ o.cls = .ref C ∧ o.data = .fields vs
def LL (C a : Addr) : HO := .ext (ExcAt C a)
structure GN (K : Frag) (C : Addr) : Prop where
  cls : (clsIn K C).isSome = true
  ga : findIn K (.ref C) "__getattribute__" = some (some (.builtin "BaseException.__getattribute__"))
  gt : findIn K (.ref C) "__getattr__" = some none
  cl : findIn K (.ref C) "__class__" = some (some (.builtin "object.__class__"))
  gg : specialIn K (.builtin "object.__class__") "__get__" = some (some (.builtin "getset_descriptor.__get__"))
  tk : takesIn K (.builtin "object.__class__") = some true
  ob : mroIn K C (.type "object") = some true
  be : mroIn K C (.type "BaseException") = some true
end L2
namespace L2
open PySem PySem.Spec PyProof.Rows PySem.W
section
variable {X : Cx} {pins pins' : List (Addr × Obj)} {σ : St} {H : Hp} {s : Shared} {T : Value → Shared → Prop}
theorem Inv.Ji {a : Addr} {o : HO} (I : Inv X pins σ H s) (n0 : H a = none) (n1 : X.s₀.heap.get? a = none) (n2 : a ≠ X.env.locals) (n3 : ∀ x c, X.env.cells.lookup x = some c → c ≠ a) (n4 : ∀ p ∈ X.pn ++ pins, p.1 ≠ a)
    (ob : ObjOk X.prog X.w (upd H a o) s.heap a o) : Inv X pins σ (upd H a o) s := by
  have un : ∀ b u, H b = some u → upd H a o b = some u := fun b u e => by rw [af (aU e n0)]; exact e
  refine ⟨I.ok, I.os, I.bare, ⟨I.base.keep, I.base.slot, fun b u q n hx => ?_, I.base.there, fun b xs e => un _ _ (I.base.tups b xs e), fun b u v e => un _ _ (I.base.frzs b u v e), fun b ps e => ?_⟩, I.loc, I.cell, ?_, fun x c e => ?_, fun p hp => ?_, fun b u e => ?_, I.len⟩
  · rw [af (fun z => by rw [z, n1] at q; cases q)]
    exact I.base.free b u q n hx
  · obtain ⟨more, z⟩ := I.base.tbls b ps e
    exact ⟨more, un _ _ z⟩
  · rw [af (Ne.symm n2)]
    exact I.free
  · rw [af (n3 x c e)]
    exact I.freeC x c e
  · obtain ⟨p1, p2, p3⟩ := I.pin p hp
    exact ⟨p1, by rw [af (n4 p hp)]; exact p2, p3⟩
  · by_cases hb : b = a
    · subst hb
      rw [aD] at e
      cases e
      exact ob
    · rw [af hb] at e
      exact (I.hok b u e).b9 (fun _ _ _ q => q) (fun c q => un _ _ q) fun c xs q => un _ _ q
end
structure yS (K : Frag) (C0 : Addr) : Prop where
  ty : typeIn K (.ref C0) = some (.type "type")
  be : subIn K (.ref C0) (.type "BaseException") = some true
  it : (clsIn K C0).isSome = true
theorem CO {P : Program} {w : World} {X : Cx} : Passes (gG P w) X (fun _ _ _ => False) := fun _ _ _ _ _ _ _ h => by
  obtain ⟨_, _, _, _, _, _, _, _, _, _, _, _, _, q⟩ := h
  exact q.elim
theorem qh.yt {P : Program} {w : World} {K : PySem.W.Frag} {mg : Str → Option Value} {base : Heap} {x qual : Str} {st : Stmt} {f : Addr} {fd : FuncData} {N ps : List Str} {k : Nat} {sp : Sp} (F : qh K x qual st f fd) (S : aV N ps (ai st)) (len : ∀ vs H Q E, sp vs H Q E → vs.length = ps.length)
    (jR : ∀ (A : Around) (outer : List Env) (s : Shared) (H : Hp) (vs : List V) (Q : VK) (E : XK), bG k (A.deeper (envOfC qual (ai st) s.heap.objs.size f fd.code)) → sp vs H Q E →
      ∃ t, fK (fi (gG P w) P w K mg base N qual (ai st) f fd.code A outer s H E) (bu st) t ∧ t { nx := fun _ H' => Q .aq H', rt := Q } (start N vs) H) : FnOk P w K mg base (gG P w) (k + 1) f fd ps sp := by
  obtain ⟨oc, od, kV, doc, pm, an, cq, ct, jf, rfl, lk, dD⟩ := F.ex
  exact vZ lk dD S len fun A outer s H vs Q E hr jg => jR A outer s H vs Q E hr jg
def Kp : List Value := [.type "ValueError", .type "Exception", .type "BaseException", .type "object"]
def Bv (K : Frag) (C0 C : Addr) : Bool := excIn K C Kp "ValueError.__new__" && (clsIn K C).isSome && findIn K (.ref C) "__getattribute__" == some (some (.builtin "BaseException.__getattribute__")) && findIn K (.ref C) "__getattr__" == some none &&
  findIn K (.ref C) "__class__" == some (some (.builtin "object.__class__")) && mroIn K C (.type "object") == some true && mroIn K C (.type "BaseException") == some true && subIn K (.ref C) (.ref C0) == some true && kitOne K (.ref C) (.type "ValueError") == some true
def wI (K : Frag) (C0 : Addr) (cs : List Addr) : Bool := cs.all (Bv K C0) && (cs.all fun C => cs.all fun D => kitOne K (.ref C) (.ref D) == some (decide (C = D))) && specialIn K (.builtin "object.__class__") "__get__" == some (some (.builtin "getset_descriptor.__get__")) && takesIn K (.builtin "object.__class__") == some true &&
  typeIn K (.ref C0) == some (.type "type") && subIn K (.ref C0) (.type "BaseException") == some true && (clsIn K C0).isSome
structure GO (K : Frag) (C0 : Addr) (cs : List Addr) : Prop where
  ex : ∀ C ∈ cs, excIn K C Kp "ValueError.__new__" = true
  cl : ∀ C ∈ cs, GN K C
  sub : ∀ C ∈ cs, subIn K (.ref C) (.ref C0) = some true
  one : ∀ C ∈ cs, ∀ D ∈ cs, kitOne K (.ref C) (.ref D) = some (decide (C = D))
  val : ∀ C ∈ cs, kitOne K (.ref C) (.type "ValueError") = some true
  top : yS K C0
theorem Ea {K : Frag} {C0 : Addr} {cs : List Addr} (h : wI K C0 cs = true) : GO K C0 cs := by
  unfold wI at h
  simp only [Bool.and_eq_true] at h
  obtain ⟨⟨⟨⟨⟨⟨h1, h2⟩, h3⟩, h4⟩, h5⟩, h6⟩, h7⟩ := h
  have all : ∀ C ∈ cs, Bv K C0 C = true := List.all_eq_true.mp h1
  have part : ∀ C ∈ cs, _ := fun C hC => by
    have z := all C hC
    unfold Bv at z
    simp only [Bool.and_eq_true] at z
    exact z
  refine ⟨fun C hC => (part C hC).1.1.1.1.1.1.1.1, fun C hC => ?_, fun C hC => beq_iff_eq.mp (part C hC).1.2, fun C hC D hD => beq_iff_eq.mp (List.all_eq_true.mp (List.all_eq_true.mp h2 C hC) D hD), fun C hC => beq_iff_eq.mp (part C hC).2, ⟨beq_iff_eq.mp h5, beq_iff_eq.mp h6, h7⟩⟩
  obtain ⟨⟨⟨⟨⟨⟨⟨⟨_, p1⟩, p2⟩, p3⟩, p4⟩, p5⟩, p6⟩, _⟩, _⟩ := part C hC
  exact ⟨p1, beq_iff_eq.mp p2, beq_iff_eq.mp p3, beq_iff_eq.mp p4, beq_iff_eq.mp h3, beq_iff_eq.mp h4, beq_iff_eq.mp p5, beq_iff_eq.mp p6⟩
end L2
namespace L2
open PySem PySem.Spec PyProof.Rows Builtin.SmallTypes
def SqIt (k : Bool) (h : Heap) (it a : Addr) (i : Nat) : Prop := if k = true then h.IsListIter it a i else h.IsTupleIter it a i
def cc (k : Bool) (h : Heap) (a : Addr) (items : Array Value) : Prop := if k = true then h.IsList a items else h.IsTuple a items
theorem SqIt.at {k : Bool} {h h' : Heap} {it a : Addr} {i : Nat} (x : SqIt k h it a i) (q : ∀ o, h.get? it = some o → h'.get? it = some o) : SqIt k h' it a i := by
  cases k with
  | true => exact Heap.IsListIter.at (h := h) x q
  | false => exact Heap.IsTupleIter.at (h := h) x q
theorem SqIt.obj {k : Bool} {h : Heap} {it a : Addr} {i : Nat} (x : SqIt k h it a i) : ∃ o, h.get? it = some o ∧ ∃ vs, o.data = .fields vs := by
  cases k with
  | true => obtain ⟨o, e, _, d⟩ := (show h.IsListIter it a i from x); exact ⟨o, e, _, d⟩
  | false => obtain ⟨o, e, _, d⟩ := (show h.IsTupleIter it a i from x); exact ⟨o, e, _, d⟩
theorem cc.obj {k : Bool} {h : Heap} {a : Addr} {items : Array Value} (x : cc k h a items) : ∃ o n, h.get? a = some o ∧ o.data = .seq items n := by
  cases k with
  | true => obtain ⟨o, e, _, n, d⟩ := (show h.IsList a items from x); exact ⟨o, n, e, d⟩
  | false => obtain ⟨o, e, _, n, d⟩ := (show h.IsTuple a items from x); exact ⟨o, n, e, d⟩
theorem cc.at {k : Bool} {h h' : Heap} {a : Addr} {items : Array Value} (x : cc k h a items) (q : ∀ o, h.get? a = some o → h'.get? a = some o) : cc k h' a items := by
  cases k with
  | true => exact Heap.IsList.at (h := h) x q
  | false => exact Heap.IsTuple.at (h := h) x q
section
variable {prog : Program} {w : World} {A : Around} {E : Value → Shared → Prop} {s : Shared} {it a : Addr} {i : Nat} {items : Array Value} {x : Value} {k : Bool}
theorem Bw {Q : Option Value → Shared → Prop} (hit : s.heap.IsTupleIter it a i) (ha : s.heap.IsTuple a items) (hx : items[i]? = some x)
    (hQ : ∀ h', h'.IsTupleIter it a (i + 1) → Heap.SameBut it s.heap h' → Q (some x) { s with heap := h' }) : wpAny (model prog w) A (callSpecial? (.ref it) "__next__") Q E s := by
  obtain ⟨o, ho, hc, hd⟩ := id hit
  obtain ⟨ol, sU, _, nl, GP⟩ := ha
  have sl := F.slot_tuple_iterator_next
  refine wpAny_callSpecial?_slot (name := Str.ofString "__next__") hit.typeIs sl (wpAny_call_entry sl hit.typeIs F.entry_tuple_iterator_next ?_ (F.args_tuple_iterator_next_1 _))
  have nn : ¬ ((Value.ref a == Value.none) = true) := Bool.false_ne_true
  refine wpAny_bind (m := field (.ref it) 0) (wpAny_field ho hd (x := .ref a) rfl ?_)
  rw [if_neg nn]
  refine wpAny_bind (m := field (.ref it) 1) (wpAny_field ho hd (x := .int i 0) rfl (wpAny_bind (m := seqItems? (.ref a)) (wpAny_seqItems sU GP ?_)))
  simp only [Int.toNat_natCast, hx]
  refine wpAny_bind (m := setField _ _ _) (wpAny_setField ho hd (by simp) (wpAny_pure ⟨x, rfl, hQ _ ?_ (Heap.SameBut.update ..)⟩))
  refine ⟨_, Heap.get?_update_self _ ho (Obj.isFreed_of_fields (Obj.data_mapFields hd _)), (Obj.cls_mapFields ..).trans hc, ?_⟩
  rw [Obj.data_mapFields hd]
  simp [rawInt]
theorem By {Q : Option Value → Shared → Prop} (hh : A.handled = none) (hit : s.heap.IsTupleIter it a i) (ha : s.heap.IsTuple a items) (hx : items[i]? = none)
    (hE : ∀ h' e, Heap.ExtBut it s.heap h' → (∃ o, h'.get? e = some o ∧ o.cls = .type "StopIteration") → E (.ref e) { s with heap := h' }) : wpAny (model prog w) A (callSpecial? (.ref it) "__next__") Q E s := by
  obtain ⟨o, ho, hc, hd⟩ := id hit
  obtain ⟨ol, sU, _, nl, GP⟩ := ha
  have sl := F.slot_tuple_iterator_next
  refine wpAny_callSpecial?_slot (name := Str.ofString "__next__") hit.typeIs sl (wpAny_call_entry sl hit.typeIs F.entry_tuple_iterator_next ?_ (F.args_tuple_iterator_next_1 _))
  have nn : ¬ ((Value.ref a == Value.none) = true) := Bool.false_ne_true
  refine wpAny_bind (m := field (.ref it) 0) (wpAny_field ho hd (x := .ref a) rfl ?_)
  rw [if_neg nn]
  refine wpAny_bind (m := field (.ref it) 1) (wpAny_field ho hd (x := .int i 0) rfl (wpAny_bind (m := seqItems? (.ref a)) (wpAny_seqItems sU GP ?_)))
  simp only [Int.toNat_natCast, hx]
  refine wpAny_bind (wpAny_rule (wpAny_bind (m := setField _ _ _) (wpAny_setField ho hd (by simp) ?_)))
  refine wpAny_bind (m := newExc (.type "StopIteration") []) ?_
  unfold newExc newTuple
  refine wpAny_bind (wpAny_newObj_type ?_ (by size_fits))
  refine wpAny_bind (m := firstArgMember _ _) (wpAny_of_eq (a := Value.none) (by first | rfl | (simp only [firstArgMember]; rfl)) (wpAny_newObj_type ?_ (by size_fits)))
  refine wpAny_raiseNew_none hh ?_
  exact hE _ _ (((Heap.SameBut.update ..).extBut.push _).push _) ⟨_, Heap.get?_push_size _ rfl, rfl⟩
theorem md {Q : Value → Shared → Prop} (hit : SqIt k s.heap it a i) (ha : cc k s.heap a items) (hx : items[i]? = some x)
    (hQ : ∀ h', SqIt k h' it a (i + 1) → Heap.SameBut it s.heap h' → Q x { s with heap := h' }) : wpAny (model prog w) A (nextOf (.ref it)) Q E s := by
  cases k with
  | true => exact wpAny_nextOf_list_item hit ha hx hQ
  | false =>
    unfold nextOf
    exact wpAny_bind (Bw hit ha hx fun h' a b => wpAny_pure (hQ h' a b))
theorem px {Q : Value → Shared → Prop} (hh : A.handled = none) (hit : SqIt k s.heap it a i) (ha : cc k s.heap a items) (hx : items[i]? = none)
    (hE : ∀ h' e, Heap.ExtBut it s.heap h' → (∃ o, h'.get? e = some o ∧ o.cls = .type "StopIteration") → E (.ref e) { s with heap := h' }) : wpAny (model prog w) A (nextOf (.ref it)) Q E s := by
  cases k with
  | true => exact wpAny_nextOf_list_end hh hit ha hx hE
  | false =>
    unfold nextOf
    exact wpAny_bind (By hh hit ha hx hE)
end
section
variable {prog : Program} {w : World} {A : Around} {E : Value → Shared → Prop} {s : Shared} {e it a : Addr} {i : Nat} {items : Array Value} {x old : Value} {k : Bool}
theorem yT {Q : Value → Shared → Prop} (he : IsEnum s.heap e it i old) (fh : e ≠ it) (hit : SqIt k s.heap it a i) (ha : cc k s.heap a items) (hx : items[i]? = some x)
    (hQ : ∀ h', IsEnumOut h' e it ((i : Int) + 1) x s.heap.objs.size → SqIt k h' it a (i + 1) → h'.get? s.heap.objs.size = some { cls := .type "tuple", data := .seq #[.int i s.toks, x] } →
      (∀ b o, b ≠ e → b ≠ it → s.heap.get? b = some o → h'.get? b = some o) → Q (.ref s.heap.objs.size) { s with heap := h', toks := s.toks + 1 }) :
    wpAny (model prog w) A (Builtin.«enumerate.__next__» ⟨[.ref e], []⟩) (fun fin s' => ∃ v, fin = .done (.ret v) ∧ Q v s') E s := by
  obtain ⟨hp, g, d, tk, os⟩ := s
  refine wpAny_bind (m := field (.ref e) 2) (wpAny_field he rfl (x := .ref it) rfl (wpAny_bind (m := nextOf (.ref it)) (md hit ha hx fun h1 yU (fo : Heap.SameBut it hp h1) => ?_)))
  have e1 : IsEnum h1 e it i old := (fo.2 e fh).trans he
  refine wpAny_bind (m := field (.ref e) 3) (wpAny_field e1 rfl (x := rawInt i) rfl (wpAny_bind (m := field (.ref e) 4) (wpAny_field e1 rfl (x := .none) rfl (wpAny_bind (m := mkInt i) (wpAny_mkInt ?_)))))
  refine wpAny_bind (m := setField (.ref e) 3 _) (wpAny_setField_rec e1 (by simp) fun h2 (e2 : IsEnum h2 e it ((i : Int) + 1) old) (dR : Heap.SameBut e h1 h2) => ?_)
  refine wpAny_bind (m := setField (.ref e) 4 .none) (wpAny_setField_rec e2 (by simp) fun h3 (e3 : IsEnum h3 e it ((i : Int) + 1) old) (jk : Heap.SameBut e h2 h3) => ?_)
  refine wpAny_bind (m := newTuple [.int i tk, x]) (wpAny_newTuple ?_)
  have z3 : h3.objs.size = hp.objs.size := by rw [jk.1, dR.1, fo.1]
  have el : e < hp.objs.size := Heap.lt_size he
  have e4 : IsEnum (h3.push { cls := .type "tuple", data := .seq #[.int i tk, x] }) e it ((i : Int) + 1) old := Heap.get?_push_of_some _ e3
  have t4 : (h3.push { cls := .type "tuple", data := .seq #[.int i tk, x] }).get? hp.objs.size = some { cls := .type "tuple", data := .seq #[.int i tk, x] } := z3 ▸ Heap.get?_push_size _ rfl
  have up : ∀ b o, b ≠ e → h1.get? b = some o → (h3.push { cls := .type "tuple", data := .seq #[.int i tk, x] }).get? b = some o := fun b o n q => Heap.get?_push_of_some _ (jk.extBut b o n (dR.extBut b o n q))
  generalize h3.push { cls := .type "tuple", data := .seq #[.int i tk, x] } = h4 at e4 t4 up
  rw [z3]
  refine wpAny_bind (m := ownedTupleIsFree (.ref e)) ?_
  unfold ownedTupleIsFree
  refine wpAny_bind (m := field (.ref e) 0) (wpAny_field e4 rfl (x := .none) rfl (wpAny_pure ?_))
  rw [if_pos rfl]
  refine wpAny_bind (wpAny_rule (wpAny_bind (m := field (.ref e) 5) (wpAny_field e4 rfl (x := old) rfl ?_)))
  refine wpAny_bind (m := setField (.ref e) 5 x) (wpAny_setField_rec e4 (by simp) fun h5 (e5 : IsEnum h5 e it ((i : Int) + 1) x) (tE : Heap.SameBut e h4 h5) => ?_)
  refine wpAny_bind (m := ownedTupleHandOut (.ref e) _) ?_
  unfold ownedTupleHandOut
  refine wpAny_bind (wpAny_setField_rec e5 (by simp) fun h6 (e6 : IsEnumOut h6 e it ((i : Int) + 1) x hp.objs.size) (M6 : Heap.SameBut e h5 h6) => ?_)
  refine wpAny_setField_rec e6 (by simp) fun h7 (e7 : IsEnumOut h7 e it ((i : Int) + 1) x hp.objs.size) (CP : Heap.SameBut e h6 h7) => ?_
  have GQ : ∀ b o, b ≠ e → h4.get? b = some o → h7.get? b = some o := fun b o n q => CP.extBut b o n (M6.extBut b o n (tE.extBut b o n q))
  refine wpAny_bind (wpAny_letGo (wpAny_pure ⟨_, rfl, hQ h7 e7 (yU.at fun o q => GQ it o (Ne.symm fh) (up it o (Ne.symm fh) q)) (GQ _ _ (Nat.ne_of_gt el) t4) fun b o n1 n2 q => GQ b o n1 (up b o n1 ((fo.2 b n2).trans q))⟩))
theorem yV {Q : Option Value → Shared → Prop} (he : IsEnum s.heap e it i old) (fh : e ≠ it) (hit : SqIt k s.heap it a i) (ha : cc k s.heap a items) (hx : items[i]? = some x)
    (hQ : ∀ h', IsEnumOut h' e it ((i : Int) + 1) x s.heap.objs.size → SqIt k h' it a (i + 1) → h'.get? s.heap.objs.size = some { cls := .type "tuple", data := .seq #[.int i s.toks, x] } →
      (∀ b o, b ≠ e → b ≠ it → s.heap.get? b = some o → h'.get? b = some o) → Q (some (.ref s.heap.objs.size)) { s with heap := h', toks := s.toks + 1 }) :
    wpAny (model prog w) A (pyNext (.ref e)) Q E s := by
  have hT : s.TypeIs (.ref e) "enumerate" := ⟨_, he, rfl⟩
  have sl := F.slot_enumerate_next
  unfold pyNext
  exact wpAny_bind (wpAny_attempt (wpAny_callSpecial?_slot (name := Str.ofString "__next__") hT sl (wpAny_call_entry sl hT F.entry_enumerate_next (yT he fh hit ha hx fun h' a b c d => wpAny_pure (hQ h' a b c d)) (F.args_enumerate_next_1 _))))
theorem yW {Q : Option Value → Shared → Prop} (hh : A.handled = none) (he : IsEnum s.heap e it i old) (hit : SqIt k s.heap it a i) (ha : cc k s.heap a items) (hx : items[i]? = none)
    (hQ : ∀ h', Heap.ExtBut it s.heap h' → Q none { s with heap := h' }) : wpAny (model prog w) A (pyNext (.ref e)) Q E s := by
  have hT : s.TypeIs (.ref e) "enumerate" := ⟨_, he, rfl⟩
  have sl := F.slot_enumerate_next
  unfold pyNext
  refine wpAny_bind (wpAny_attempt (wpAny_callSpecial?_slot (name := Str.ofString "__next__") hT sl (wpAny_call_entry sl hT F.entry_enumerate_next ?_ (F.args_enumerate_next_1 _))))
  refine wpAny_bind (m := field (.ref e) 2) (wpAny_field he rfl (x := .ref it) rfl (wpAny_bind (m := nextOf (.ref it)) (px hh hit ha hx fun h' y eb ⟨o, ho, hc⟩ => ?_)))
  exact wpAny_bind (wpAny_isInstance (T := "StopIteration") (b := true) ⟨o, ho, hc⟩ isSubtype_stop (wpAny_pure (hQ _ eb)))
end
end L2
namespace L2
open PySem PySem.Spec PyProof.Rows Builtin.SmallTypes AutoSeq1
theorem tF : bootBuiltins "enumerate" = some (.type "enumerate") := by decide +kernel
theorem GR : bootBuiltins "zip" = some (.type "zip") := by decide +kernel
section
variable {X : Cx} {pins : List (Addr × Obj)} {σ : St} {H : Hp} {s : Shared} {h' : Heap}
theorem Inv.me {t' : Nat} {ch : List Addr} (I : Inv X pins σ H s) (k : ∀ b o, b ∉ ch → s.heap.get? b = some o → h'.get? b = some o) (hf : ∀ b ∈ ch, c7 X pins H b) : Inv X pins σ H { s with heap := h', toks := t' } := by
  have xH : ∀ b u, H b = some u → b ∉ ch := fun b u e z => by rw [(hf b z).1] at e; cases e
  refine I.step (g' := s.gens) (d' := s.drawn) (ch := ch) (fun b hb => ?_) (fun b o _ _ hc e _ => k b o hc e) (fun b o _ _ hc e _ => ⟨o.slots, k b o hc e⟩) (fun _ _ _ _ n => n)
    (fun b o hc e => ⟨o, k b o hc e⟩) (fun _ _ e => e) (fun _ _ _ e => e) (fun b ps e => ⟨#[], by rw [e]; simp⟩) (fun m hm => ?_) (fun b u e => ?_) I.bare.self
  · obtain ⟨_, f1, f2, f3, f4, f5⟩ := hf b hb
    exact ⟨f3, f1, f4, f5⟩
  · obtain ⟨o, es, ep, ho, r⟩ := hm
    exact ⟨o, es, ep, k _ o (fun z => (hf _ z).2.1 rfl) ho, r⟩
  · refine (I.hok b u e).b9 (fun c v hc q => k c v ?_ q) (fun _ q => q) fun _ _ q => q
    rcases hc with z | z
    · rw [z]; exact xH b u e
    · exact xH c _ z
theorem Inv.pair {t : Addr} {a b : V} {u v : Value} {h1 : Heap} {tk tk0 : Nat} (I0 : Inv X pins σ H { s with toks := tk0 }) (ht : s.heap.objs.size ≤ t) (I : Inv X pins σ H { s with heap := h1, toks := tk }) (e : h1.get? t = some { cls := .type "tuple", data := .seq #[u, v] }) (ru : RelV a u) (rv : RelV b v) :
    Inv X pins σ (upd H t (.tup [a, b])) { s with heap := h1, toks := tk } := by
  have f := Inv.ju (H' := H) I0 (b := t) ht (I0.hok.fresh ht)
  refine I.Ji f.1 ?_ f.2.1 f.2.2.2.2.1 f.2.2.2.2.2 ⟨by show 2 ≤ sizeLine; decide, [u, v], .cons ru (.cons rv .nil), ⟨_, e, rfl, _, rfl, rfl⟩⟩
  exact Heap.get?_none_of_le (Nat.le_trans I0.sz ht)
end
def Sq (k : Bool) (K : PySem.W.Frag) (H : Hp) (a : Addr) (xs : List V) : Prop := if k = true then bE K H a xs else cO K H a xs
theorem Inv.sq {X : Cx} {pins : List (Addr × Obj)} {σ : St} {H : Hp} {s : Shared} {k : Bool} {a : Addr} {xs : List V} (I : Inv X pins σ H s) (h : Sq k X.K H a xs) : ∃ its : List Value, Vals xs its ∧ cc k s.heap a its.toArray := by
  cases k with
  | true => obtain ⟨its, rv, p, _⟩ := I.list (show bE X.K H a xs from h); exact ⟨its, rv, p.isList⟩
  | false => obtain ⟨its, rv, p, _⟩ := I.tuple (show cO X.K H a xs from h); exact ⟨its, rv, p⟩
theorem Inv.tG {X : Cx} {pins : List (Addr × Obj)} {σ : St} {H : Hp} {s : Shared} {k : Bool} {a : Addr} {xs ys : List V} (I : Inv X pins σ H s) (h : Sq k X.K H a xs) (h' : Sq k X.K H a ys) : xs = ys := by
  cases k with
  | true => exact I.sh (show bE X.K H a xs from h) h'
  | false => exact I.pX (show cO X.K H a xs from h) h'
def CQ (k : Bool) (K : PySem.W.Frag) (a : Addr) : It :=
  ⟨fun i H => ∃ xs x, Sq k K H a xs ∧ xs[i]? = some x, fun i H v H' => ∃ t x, H t = none ∧ v = .ref t ∧ H' = upd H t (.tup [.int (i : Nat), x]) ∧ ∀ xs, Sq k K H a xs → xs[i]? = some x, fun i H => ∃ xs, Sq k K H a xs ∧ xs.length ≤ i⟩
theorem yX {P : Program} {w : World} {K : PySem.W.Frag} {elts : List Expr} {x1 : Nat} {pos : Pos} (k : Bool) (a it e : Addr) (fh : e ≠ it) :
    Turn P w K (.Tuple elts x1 pos) (CQ k K a) [e, it] e (fun i h => (∃ old, IsEnum h e it i old) ∧ SqIt k h it a i) where
  mem := by simp
  obj := fun i h st b hb => by
    obtain ⟨⟨old, he⟩, hit⟩ := st
    simp only [List.mem_cons, List.not_mem_nil, or_false] at hb
    rcases hb with rfl | rfl
    · exact ⟨_, he, fun v z => nomatch z⟩
    · obtain ⟨o, ho, vs, hd⟩ := hit.obj
      exact ⟨o, ho, fun v z => by rw [hd] at z; cases z⟩
  keep := fun i h h' st q => by
    obtain ⟨⟨old, he⟩, hit⟩ := st
    exact ⟨⟨old, q e (by simp) _ he⟩, hit.at fun o ho => q it (by simp) o ho⟩
  item := by
    intro X hP hw hK hc i pins s σ H E I hf st hg
    subst hP hw hK
    obtain ⟨⟨old, he⟩, hit⟩ := st
    obtain ⟨xs, x, hq, hx⟩ := hg
    obtain ⟨its, rv, p⟩ := I.sq hq
    obtain ⟨u, hu, ru⟩ := rv.get hx
    refine yV he fh hit p (x := u) (by simpa using hu) fun h1 eo yU t1 kk => ?_
    refine ⟨_, rfl, wpAny_letOwnedTupleGo_enum eo fun h2 e2 (dR : Heap.SameBut e h1 h2) => ?_⟩
    have el : e < s.heap.objs.size := Heap.lt_size he
    have I2 : Inv X pins σ H { s with heap := h2, toks := s.toks + 1 } := I.me (ch := [e, it]) (fun b o hb q => by
      simp only [List.mem_cons, List.not_mem_nil, or_false, not_or] at hb
      exact (dR.2 b hb.1).trans (kk b o hb.1 hb.2 q)) hf
    have t2 : h2.get? s.heap.objs.size = some { cls := .type "tuple", data := .seq #[.int i s.toks, u] } := (dR.2 _ (Nat.ne_of_gt el)).trans t1
    have hn : H s.heap.objs.size = none := I.hok.fresh (Nat.le_refl _)
    refine ⟨.ref s.heap.objs.size, _, Inv.pair (s := s) (tk0 := s.toks) I (Nat.le_refl _) I2 t2 (a := .int (i : Nat)) ⟨s.toks, rfl⟩ ru, rfl, ⟨_, x, hn, rfl, rfl, fun ys hy => by rw [I.tG hy hq]; exact hx⟩, ⟨⟨u, ?_⟩, yU.at fun o q => (dR.2 it (Ne.symm fh)).trans q⟩, fun b hb => ?_⟩
    · have c : ((i + 1 : Nat) : Int) = (i : Int) + 1 := by push_cast; rfl
      rw [c]
      exact e2
    · have l : b ≠ s.heap.objs.size := by
        simp only [List.mem_cons, List.not_mem_nil, or_false] at hb
        rcases hb with rfl | rfl
        · exact Nat.ne_of_lt el
        · obtain ⟨o, ho, _⟩ := hit.obj
          exact Nat.ne_of_lt (Heap.lt_size ho)
      rw [af l]
      exact (hf b hb).1
  done := by
    intro X hP hw hK hc i pins s σ H E I hf st hg
    subst hP hw hK
    obtain ⟨⟨old, he⟩, hit⟩ := st
    obtain ⟨xs, hq, hx⟩ := hg
    obtain ⟨its, rv, p⟩ := I.sq hq
    have hl := rv.length
    exact yW (I.ok.hd hc) he hit p (by simp; omega) fun h1 eb => ⟨rfl, I.me (t' := s.toks) (ch := [it]) (fun b o hb q => eb b o (by simpa using hb) q) fun b hb => hf b (by simp at hb; simp [hb])⟩
  self := fun _ _ _ _ _ st h => wpAny_pyIter_enum st.1.choose_spec h
abbrev yY (a : Addr) : Obj := { cls := .type "tuple_iterator", data := .fields #[.ref a, .int 0 0] }
abbrev GU (it : Addr) : Obj := { cls := .type "enumerate", data := .fields #[.none, .bool false, .ref it, rawInt 0, .none, .none] }
theorem Eb (a : Addr) (items : Array Value) (n : Nat) (dct : Option Addr) (sl : Array (Option Value)) :
    Meets (Builtin.«enumerate.__new__» ⟨[.type "enumerate", .ref a], []⟩) (fun _ R s => s.heap.get? a = some { cls := .type "tuple", dict := dct, data := .seq items n, slots := sl } ∧
      R (.ok (.ret (.ref (s.heap.push (yY a)).objs.size))) { s with heap := (s.heap.push (yY a)).push (GU s.heap.objs.size) }) :=
  .of_wp fun prog w A R s h => by
    obtain ⟨hp, g, d, tk, os⟩ := s
    obtain ⟨hl, h⟩ := h
    have m8 := sub_enumerate
    have hT : Heap.IsTuple (Shared.heap ⟨hp, g, d, tk, os⟩) a items := ⟨_, hl, rfl, n, rfl⟩
    wp_walk using wpAny_loadPart' hl
    refine wpAny_stack_any fun st => wpAny_pure ?_
    split
    case h_1 c _ _ _ _ _ => cases (c == Value.type "enumerate") <;> (wp_walk using wpAny_loadPart' hl, wpAny_pyIter_tuple hT; exact ⟨_, rfl, h⟩)
    case h_2 => wp_walk using wpAny_loadPart' hl, wpAny_pyIter_tuple hT; exact ⟨_, rfl, h⟩
section
variable {prog : Program} {w : World} {A : Around} {E : Value → Shared → Prop} {s : Shared}
theorem wJ {a : Addr} {items : Array Value} {Q : Value → Shared → Prop} (hT : s.heap.IsTuple a items)
    (h : ∀ h', IsEnum h' (s.heap.objs.size + 1) s.heap.objs.size 0 .none → h'.IsTupleIter s.heap.objs.size a 0 → (∀ b o, s.heap.get? b = some o → h'.get? b = some o) → Q (.ref (s.heap.objs.size + 1)) { s with heap := h' }) :
    wpAny (model prog w) A (call (.type "enumerate") [.ref a]) Q E s := by
  obtain ⟨ob, ho, hc, n, hd⟩ := hT
  obtain ⟨c, dd, dt, sl⟩ := ob
  dsimp only at hc hd
  subst hc hd
  refine callType_new F.called_enumerate (by decide) (F.typeCall_enumerate_1 _) (F.newCall_enumerate_1 _) (fun obj => F.args_object_init_2 obj _) F.entry_enumerate_new (Eb a items n dd sl) ⟨ho, ?_⟩
  have z : (s.heap.push (yY a)).objs.size = s.heap.objs.size + 1 := Heap.size_push ..
  have he : ((s.heap.push (yY a)).push (GU s.heap.objs.size)).get? (s.heap.objs.size + 1) = some (GU s.heap.objs.size) := z ▸ Heap.get?_push_size (s.heap.push (yY a)) rfl
  show _ ∧ _
  rw [z]
  exact ⟨⟨_, he, rfl⟩, h _ he ⟨_, Heap.get?_push_of_some _ (Heap.get?_push_size _ rfl), rfl, rfl⟩ fun b o x => Heap.get?_push_of_some _ (Heap.get?_push_of_some _ x)⟩
theorem yZ {k : Bool} {a : Addr} {items : Array Value} {Q : Value → Shared → Prop} (hT : cc k s.heap a items)
    (h : ∀ h', IsEnum h' (s.heap.objs.size + 1) s.heap.objs.size 0 .none → SqIt k h' s.heap.objs.size a 0 → (∀ b o, s.heap.get? b = some o → h'.get? b = some o) → Q (.ref (s.heap.objs.size + 1)) { s with heap := h' }) :
    wpAny (model prog w) A (call (.type "enumerate") [.ref a]) Q E s := by
  cases k with
  | true => exact call_enumerate_list hT fun h' a b _ c => h h' a b c
  | false => exact wJ hT h
end
section
variable {X : Cx} {l : Expr} {tl : TE} {elts : List Expr} {x1 : Nat} {tp p pos : Pos}
def Jj (k : Bool) (K : PySem.W.Frag) (tl : TE) : TI := fun σ H R => tl σ H fun x H1 => ∃ a, x = .ref a ∧ (∃ xs, Sq k K H1 a xs) ∧ R (CQ k K a) H1
theorem Ec (k : Bool) {K : PySem.W.Frag} (hK : X.K = K) (hg : Gl X "enumerate") (hm : X.mg "enumerate" = none) (hl : PE X l tl) (hs : starEach [l] X.env = [(false, eval l X.env)] := by rfl) :
    PI X (.Tuple elts x1 tp) (.Call (.Name "enumerate" p) [l] [] pos) (Jj k K tl) := by
  subst hK
  intro pins s σ H R I h
  refine wpAny_Call_Name_kw (dY I hg hm tF ?_)
  refine PyProof.Rows.callWith_type1 ?_ hs rfl
  rw [hs]
  refine Calls.spliced_cons (thn (hl pins s σ H _ I h) fun v s1 ⟨x, H1, I1, r1, q1⟩ => Calls.spliced_nil ?_)
  obtain ⟨a, rfl, ⟨xs, hq⟩, q⟩ := q1
  cases (show v = Value.ref a from r1)
  obtain ⟨its, rv, sq⟩ := I1.sq hq
  refine yZ sq fun h' he hit kk => ?_
  refine wpAny_pyIter_enum he ?_
  have I2 : Inv X pins σ H1 { s1 with heap := h' } := I1.kept (t' := s1.toks) kk
  have ne : s1.heap.objs.size + 1 ≠ s1.heap.objs.size := Nat.ne_of_gt (Nat.lt_succ_self _)
  refine ⟨_, [s1.heap.objs.size + 1, s1.heap.objs.size], _, CQ k X.K a, H1, rfl, I2, yX k a _ _ ne, ⟨⟨_, he⟩, hit⟩, fun b hb => ?_, q⟩
  simp only [List.mem_cons, List.not_mem_nil, or_false] at hb
  rcases hb with rfl | rfl
  · exact I1.ju (Nat.le_succ _) (I1.hok.fresh (Nat.le_succ _))
  · exact I1.ju (Nat.le_refl _) (I1.hok.fresh (Nat.le_refl _))
end
def wK (J : It) (ys : List (V × V)) (H : Hp) : Prop := ∀ i, (i < ys.length → J.go i H ∧ ∀ x H', J.yld i H x H' → ∃ t p, H t = none ∧ x = .ref t ∧ ys[i]? = some p ∧ H' = upd H t (.tup [p.1, p.2])) ∧ (ys.length ≤ i → J.stop i H)
theorem qA {k : Bool} {K : PySem.W.Frag} {a : Addr} {ys : List V} {H : Hp} (h : Sq k K H a ys) : wK (CQ k K a) ((List.range ys.length).map fun i => (V.int (i : Nat), ys.getD i .aq)) H := fun i => by
  have el : ((List.range ys.length).map fun i => (V.int (i : Nat), ys.getD i .aq)).length = ys.length := by simp
  rw [el]
  refine ⟨fun hi => ⟨⟨ys, ys[i], h, List.getElem?_eq_getElem hi⟩, fun x H' ⟨t, y, n, e1, e2, e3⟩ => ⟨t, (.int (i : Nat), y), n, e1, ?_, e2⟩⟩, fun hi => ⟨ys, h, hi⟩⟩
  rw [List.getElem?_map, List.getElem?_range hi]
  have := e3 ys h
  show some (V.int (i : Nat), ys.getD i .aq) = _
  rw [List.getD_eq_getElem?_getD, this]
  rfl
section
variable {prog : Program} {w : World} {A : Around} {E : Value → Shared → Prop} {s : Shared} {z TI TO i1 i2 l1 l2 : Addr} {n1 n2 : Nat} {xs ys : Array Value} {x y a b : Value} {k1 k2 : Bool}
theorem BA {Q : Value → Shared → Prop} (D : ZipApart z TI TO i1 i2 l1 l2) (hz : IsZip s.heap z TI TO .none) (gf : IsPair s.heap TI (.ref i1) (.ref i2)) (gH : IsPair s.heap TO a b)
    (h1 : SqIt k1 s.heap i1 l1 n1) (h2 : SqIt k2 s.heap i2 l2 n2) (q1 : cc k1 s.heap l1 xs) (q2 : cc k2 s.heap l2 ys) (hx : xs[n1]? = some x) (hy : ys[n2]? = some y)
    (hQ : ∀ h', IsZip h' z TI TO (rawInt s.heap.objs.size) → IsPair h' TO x y → SqIt k1 h' i1 l1 (n1 + 1) → SqIt k2 h' i2 l2 (n2 + 1) → IsPair h' s.heap.objs.size x y →
      (∀ c o, c ≠ z → c ≠ TO → c ≠ i1 → c ≠ i2 → s.heap.get? c = some o → h'.get? c = some o) → Q (.ref s.heap.objs.size) { s with heap := h' }) :
    wpAny (model prog w) A (Builtin.«zip.__next__» ⟨[.ref z], []⟩) (fun fin s' => ∃ v, fin = .done (.ret v) ∧ Q v s') E s := by
  refine wpAny_bind (m := field (.ref z) 2) (wpAny_field hz rfl (x := .bool false) rfl (wpAny_bind (m := field (.ref z) 3) (wpAny_field hz rfl (x := .ref TI) rfl (wpAny_bind (m := seqItems? (.ref TI)) (wpAny_seqItems gf rfl ?_)))))
  refine wpAny_bind (m := ownedTupleIsFree (.ref z)) ?_
  unfold ownedTupleIsFree
  refine wpAny_bind (m := field (.ref z) 0) (wpAny_field hz rfl (x := .none) rfl (wpAny_pure ?_))
  rw [if_pos rfl]
  refine wpAny_bind (wpAny_rule (wpAny_bind (m := field (.ref z) 4) (wpAny_field hz rfl (x := .ref TO) rfl (wpAny_bind (m := setField (.ref z) 0 .ellipsis) (wpAny_setField_rec hz (by simp) fun g1 (z1 : IsZip g1 z TI TO .ellipsis) fo => ?_)))))
  refine wpAny_bind ?_
  simp only [List.zipIdx_cons, List.zipIdx_nil, List.forIn_cons, List.forIn_nil]
  refine wpAny_bind (wpAny_bind (wpAny_onRaise ?_))
  refine wpAny_bind (m := nextOf (.ref i1)) (md (h1.at fun o e => fo.extBut _ o D.i1z e) (q1.at fun o e => fo.extBut _ o D.l1z e) hx fun g2 CT dR => wpAny_pure ?_)
  have o2 : IsPair g2 TO a b := dR.extBut _ _ D.TOi1 (fo.extBut _ _ D.TOz gH)
  refine wpAny_bind (wpAny_seqItems o2 rfl (wpAny_bind (wpAny_updateSeq_pair o2 fun g3 (o3 : IsPair g3 TO x b) jk => wpAny_bind (wpAny_letGo (wpAny_pure ?_)))))
  refine wpAny_bind (wpAny_bind (wpAny_onRaise ?_))
  refine wpAny_bind (m := nextOf (.ref i2)) (md (h2.at fun o e => jk.extBut _ o D.TOi2.symm (dR.extBut _ o D.i12.symm (fo.extBut _ o D.i2z e))) (q2.at fun o e => jk.extBut _ o D.l2TO (dR.extBut _ o D.l2i1 (fo.extBut _ o D.l2z e))) hy fun g4 M7 y0 => wpAny_pure ?_)
  have o4 : IsPair g4 TO x b := y0.extBut _ _ D.TOi2 o3
  refine wpAny_bind (wpAny_seqItems o4 rfl (wpAny_bind (wpAny_updateSeq_pair o4 fun g5 (o5 : IsPair g5 TO x y) tE => wpAny_bind (wpAny_letGo (wpAny_pure (wpAny_pure ?_))))))
  refine wpAny_bind (wpAny_seqItems o5 rfl (wpAny_bind (wpAny_newTuple ?_)))
  have sz : g5.objs.size = s.heap.objs.size := by rw [tE.1, y0.1, jk.1, dR.1, fo.1]
  have z5 : IsZip g5 z TI TO .ellipsis := tE.extBut _ _ D.TOz.symm (y0.extBut _ _ D.i2z.symm (jk.extBut _ _ D.TOz.symm (dR.extBut _ _ D.i1z.symm z1)))
  have k5 : ∀ c o, c ≠ z → c ≠ TO → c ≠ i1 → c ≠ i2 → s.heap.get? c = some o → g5.get? c = some o := fun c o c1 c2 c3 c4 e => tE.extBut _ _ c2 (y0.extBut _ _ c4 (jk.extBut _ _ c2 (dR.extBut _ _ c3 (fo.extBut _ _ c1 e))))
  have zl : z < g5.objs.size := Heap.lt_size z5
  refine wpAny_bind (m := ownedTupleHandOut (.ref z) _) ?_
  unfold ownedTupleHandOut
  have z6 : IsZip (g5.push { cls := .type "tuple", data := .seq #[x, y] }) z TI TO .ellipsis := Heap.get?_push_of_some _ z5
  refine wpAny_bind (wpAny_setField_rec z6 (by simp) fun g7 (z7 : IsZip g7 z TI TO (rawInt g5.objs.size)) CP => ?_)
  refine wpAny_setField_rec z7 (by simp) fun g8 (z8 : IsZip g8 z TI TO (rawInt g5.objs.size)) Kq => ?_
  have up : ∀ c o, c ≠ z → g5.get? c = some o → g8.get? c = some o := fun c o c1 e => Kq.extBut _ _ c1 (CP.extBut _ _ c1 (Heap.get?_push_of_some _ e))
  have t8 : IsPair g8 g5.objs.size x y := Kq.extBut _ _ (Nat.ne_of_gt zl) (CP.extBut _ _ (Nat.ne_of_gt zl) (Heap.get?_push_size _ rfl))
  rw [sz] at z8 t8
  refine wpAny_pure ⟨_, rfl, ?_⟩
  show Q (.ref g5.objs.size) _
  rw [sz]
  exact hQ g8 z8 (up _ _ D.TOz o5) (CT.at fun o e => up _ o D.i1z (tE.extBut _ o D.TOi1.symm (y0.extBut _ o D.i12 (jk.extBut _ o D.TOi1.symm e)))) (M7.at fun o e => up _ o D.i2z (tE.extBut _ o D.TOi2.symm e)) t8
    fun c o c1 c2 c3 c4 e => up c o c1 (k5 c o c1 c2 c3 c4 e)
theorem Ed {Q : Fin → Shared → Prop} (hh : A.handled = none) (D : ZipApart z TI TO i1 i2 l1 l2) (hz : IsZip s.heap z TI TO .none) (gf : IsPair s.heap TI (.ref i1) (.ref i2)) (gH : IsPair s.heap TO a b)
    (h1 : SqIt k1 s.heap i1 l1 n1) (h2 : SqIt k2 s.heap i2 l2 n2) (q1 : cc k1 s.heap l1 xs) (q2 : cc k2 s.heap l2 ys) (pj : xs[n1]? = none ∨ ys[n2]? = none)
    (hE : ∀ h' e, (∀ c o, c ≠ z → c ≠ TO → c ≠ i1 → c ≠ i2 → s.heap.get? c = some o → h'.get? c = some o) → (∃ o, h'.get? e = some o ∧ o.cls = .type "StopIteration") → E (.ref e) { s with heap := h' }) :
    wpAny (model prog w) A (Builtin.«zip.__next__» ⟨[.ref z], []⟩) Q E s := by
  refine wpAny_bind (m := field (.ref z) 2) (wpAny_field hz rfl (x := .bool false) rfl (wpAny_bind (m := field (.ref z) 3) (wpAny_field hz rfl (x := .ref TI) rfl (wpAny_bind (m := seqItems? (.ref TI)) (wpAny_seqItems gf rfl ?_)))))
  refine wpAny_bind (m := ownedTupleIsFree (.ref z)) ?_
  unfold ownedTupleIsFree
  refine wpAny_bind (m := field (.ref z) 0) (wpAny_field hz rfl (x := .none) rfl (wpAny_pure ?_))
  rw [if_pos rfl]
  refine wpAny_bind (wpAny_rule (wpAny_bind (m := field (.ref z) 4) (wpAny_field hz rfl (x := .ref TO) rfl (wpAny_bind (m := setField (.ref z) 0 .ellipsis) (wpAny_setField_rec hz (by simp) fun g1 (z1 : IsZip g1 z TI TO .ellipsis) fo => ?_)))))
  refine wpAny_bind ?_
  simp only [List.zipIdx_cons, List.zipIdx_nil, List.forIn_cons, List.forIn_nil]
  refine wpAny_bind (wpAny_bind (wpAny_onRaise ?_))
  have stop : ∀ (g : Heap) (e : Addr), IsZip g z TI TO .ellipsis → (∃ o, g.get? e = some o ∧ o.cls = .type "StopIteration") → (∀ c o, c ≠ z → c ≠ TO → c ≠ i1 → c ≠ i2 → s.heap.get? c = some o → g.get? c = some o) →
      wpAny (model prog w) A (setField (.ref z) 0 .none) (fun _ s' => E (.ref e) s') E { s with heap := g } := fun g e zg ⟨o, ho, hc⟩ kk => by
    have ne : e ≠ z := fun q => by subst q; rw [zg] at ho; cases ho; simp at hc
    exact wpAny_setField_rec zg (by simp) fun g' _ Kr => hE g' e (fun c o c1 c2 c3 c4 q => Kr.extBut _ _ c1 (kk c o c1 c2 c3 c4 q)) ⟨o, Kr.extBut _ _ ne ho, hc⟩
  cases hx : xs[n1]? with
  | none =>
    refine wpAny_bind (m := nextOf (.ref i1)) (px hh (h1.at fun o e => fo.extBut _ o D.i1z e) (q1.at fun o e => fo.extBut _ o D.l1z e) hx fun g2 e eb he => ?_)
    exact stop g2 e (eb _ _ D.i1z.symm z1) he fun c o c1 c2 c3 c4 q => eb _ _ c3 (fo.extBut _ _ c1 q)
  | some x =>
    have hy : ys[n2]? = none := pj.elim (fun q => by rw [hx] at q; cases q) id
    refine wpAny_bind (m := nextOf (.ref i1)) (md (h1.at fun o e => fo.extBut _ o D.i1z e) (q1.at fun o e => fo.extBut _ o D.l1z e) hx fun g2 CT dR => wpAny_pure ?_)
    have o2 : IsPair g2 TO a b := dR.extBut _ _ D.TOi1 (fo.extBut _ _ D.TOz gH)
    refine wpAny_bind (wpAny_seqItems o2 rfl (wpAny_bind (wpAny_updateSeq_pair o2 fun g3 (o3 : IsPair g3 TO x b) jk => wpAny_bind (wpAny_letGo (wpAny_pure ?_)))))
    refine wpAny_bind (wpAny_bind (wpAny_onRaise ?_))
    refine wpAny_bind (m := nextOf (.ref i2)) (px hh (h2.at fun o e => jk.extBut _ o D.TOi2.symm (dR.extBut _ o D.i12.symm (fo.extBut _ o D.i2z e))) (q2.at fun o e => jk.extBut _ o D.l2TO (dR.extBut _ o D.l2i1 (fo.extBut _ o D.l2z e))) hy fun g4 e eb he => ?_)
    exact stop g4 e (eb _ _ D.i2z.symm (jk.extBut _ _ D.TOz.symm (dR.extBut _ _ D.i1z.symm z1))) he fun c o c1 c2 c3 c4 q => eb _ _ c4 (jk.extBut _ _ c2 (dR.extBut _ _ c3 (fo.extBut _ _ c1 q)))
theorem BC {Q : Option Value → Shared → Prop} (D : ZipApart z TI TO i1 i2 l1 l2) (hz : IsZip s.heap z TI TO .none) (gf : IsPair s.heap TI (.ref i1) (.ref i2)) (gH : IsPair s.heap TO a b)
    (h1 : SqIt k1 s.heap i1 l1 n1) (h2 : SqIt k2 s.heap i2 l2 n2) (q1 : cc k1 s.heap l1 xs) (q2 : cc k2 s.heap l2 ys) (hx : xs[n1]? = some x) (hy : ys[n2]? = some y)
    (hQ : ∀ h', IsZip h' z TI TO (rawInt s.heap.objs.size) → IsPair h' TO x y → SqIt k1 h' i1 l1 (n1 + 1) → SqIt k2 h' i2 l2 (n2 + 1) → IsPair h' s.heap.objs.size x y →
      (∀ c o, c ≠ z → c ≠ TO → c ≠ i1 → c ≠ i2 → s.heap.get? c = some o → h'.get? c = some o) → Q (some (.ref s.heap.objs.size)) { s with heap := h' }) : wpAny (model prog w) A (pyNext (.ref z)) Q E s := by
  have hT : s.TypeIs (.ref z) "zip" := ⟨_, hz, rfl⟩
  have sl := F.slot_zip_next
  unfold pyNext
  exact wpAny_bind (wpAny_attempt (wpAny_callSpecial?_slot (name := Str.ofString "__next__") hT sl (wpAny_call_entry sl hT F.entry_zip_next (BA D hz gf gH h1 h2 q1 q2 hx hy fun h' b1 b2 b3 b4 b5 b6 => wpAny_pure (hQ h' b1 b2 b3 b4 b5 b6)) (F.args_zip_next_1 _))))
theorem BD {Q : Option Value → Shared → Prop} (hh : A.handled = none) (D : ZipApart z TI TO i1 i2 l1 l2) (hz : IsZip s.heap z TI TO .none) (gf : IsPair s.heap TI (.ref i1) (.ref i2)) (gH : IsPair s.heap TO a b)
    (h1 : SqIt k1 s.heap i1 l1 n1) (h2 : SqIt k2 s.heap i2 l2 n2) (q1 : cc k1 s.heap l1 xs) (q2 : cc k2 s.heap l2 ys) (pj : xs[n1]? = none ∨ ys[n2]? = none)
    (hQ : ∀ h', (∀ c o, c ≠ z → c ≠ TO → c ≠ i1 → c ≠ i2 → s.heap.get? c = some o → h'.get? c = some o) → Q none { s with heap := h' }) : wpAny (model prog w) A (pyNext (.ref z)) Q E s := by
  have hT : s.TypeIs (.ref z) "zip" := ⟨_, hz, rfl⟩
  have sl := F.slot_zip_next
  unfold pyNext
  refine wpAny_bind (wpAny_attempt (wpAny_callSpecial?_slot (name := Str.ofString "__next__") hT sl (wpAny_call_entry sl hT F.entry_zip_next (Ed hh D hz gf gH h1 h2 q1 q2 pj fun h' e kk ⟨o, ho, hc⟩ => ?_) (F.args_zip_next_1 _))))
  exact wpAny_bind (wpAny_isInstance (T := "StopIteration") (b := true) ⟨o, ho, hc⟩ isSubtype_stop (wpAny_pure (hQ _ kk)))
end
def CU (k1 k2 : Bool) (K : PySem.W.Frag) (a1 a2 : Addr) : It :=
  ⟨fun i H => ∃ xs ys x y, Sq k1 K H a1 xs ∧ Sq k2 K H a2 ys ∧ xs[i]? = some x ∧ ys[i]? = some y, fun i H v H' => ∃ t x y, H t = none ∧ v = .ref t ∧ H' = upd H t (.tup [x, y]) ∧ (∀ xs, Sq k1 K H a1 xs → xs[i]? = some x) ∧ ∀ ys, Sq k2 K H a2 ys → ys[i]? = some y,
    fun i H => ∃ xs ys, Sq k1 K H a1 xs ∧ Sq k2 K H a2 ys ∧ (xs.length ≤ i ∨ ys.length ≤ i)⟩
theorem BE {P : Program} {w : World} {K : PySem.W.Frag} {elts : List Expr} {x1 : Nat} {pos : Pos} (k1 k2 : Bool) (z TI TO i1 i2 l1 l2 : Addr) (D : ZipApart z TI TO i1 i2 l1 l2) :
    Turn P w K (.Tuple elts x1 pos) (CU k1 k2 K l1 l2) [z, TI, TO, i1, i2] z (fun i h => IsZip h z TI TO .none ∧ IsPair h TI (.ref i1) (.ref i2) ∧ (∃ a b, IsPair h TO a b) ∧ SqIt k1 h i1 l1 i ∧ SqIt k2 h i2 l2 i) where
  mem := by simp
  obj := fun i h st b hb => by
    obtain ⟨hz, gf, ⟨a, c, gH⟩, h1, h2⟩ := st
    simp only [List.mem_cons, List.not_mem_nil, or_false] at hb
    rcases hb with rfl | rfl | rfl | rfl | rfl
    · exact ⟨_, hz, fun v q => nomatch q⟩
    · exact ⟨_, gf, fun v q => nomatch q⟩
    · exact ⟨_, gH, fun v q => nomatch q⟩
    · obtain ⟨o, ho, vs, hd⟩ := h1.obj
      exact ⟨o, ho, fun v q => by rw [hd] at q; cases q⟩
    · obtain ⟨o, ho, vs, hd⟩ := h2.obj
      exact ⟨o, ho, fun v q => by rw [hd] at q; cases q⟩
  keep := fun i h h' st q => by
    obtain ⟨hz, gf, ⟨a, c, gH⟩, h1, h2⟩ := st
    exact ⟨q z (by simp) _ hz, q TI (by simp) _ gf, ⟨a, c, q TO (by simp) _ gH⟩, h1.at fun o ho => q i1 (by simp) o ho, h2.at fun o ho => q i2 (by simp) o ho⟩
  item := by
    intro X hP hw hK hc i pins s σ H E I hf st hg
    subst hP hw hK
    obtain ⟨hz, gf, ⟨a, c, gH⟩, h1, h2⟩ := st
    obtain ⟨xs, ys, x, y, vk, vm, hx, hy⟩ := hg
    obtain ⟨GV, CV, p1⟩ := I.sq vk
    obtain ⟨u1, yL, M8⟩ := CV.get hx
    obtain ⟨cS, il, p2⟩ := I.sq vm
    obtain ⟨u2, M9, Nb⟩ := il.get hy
    refine BC D hz gf gH h1 h2 p1 p2 (x := u1) (y := u2) (by simpa using yL) (by simpa using M9) fun g1 zo Nc yU CT t1 kk => ?_
    refine ⟨_, rfl, wpAny_letOwnedTupleGo_zip zo fun g2 z2 (dR : Heap.SameBut z g1 g2) => ?_⟩
    have zl : z < s.heap.objs.size := Heap.lt_size hz
    have I2 : Inv X pins σ H { s with heap := g2 } := I.me (t' := s.toks) (ch := [z, TO, i1, i2]) (fun b o hb q => by
      simp only [List.mem_cons, List.not_mem_nil, or_false, not_or] at hb
      exact (dR.2 b hb.1).trans (kk b o hb.1 hb.2.1 hb.2.2.1 hb.2.2.2 q)) fun b hb => hf b (by simp at hb ⊢; rcases hb with h | h | h | h <;> simp [h])
    have hn : H s.heap.objs.size = none := I.hok.fresh (Nat.le_refl _)
    refine ⟨.ref s.heap.objs.size, _, Inv.pair (s := s) (tk0 := s.toks) (tk := s.toks) I (Nat.le_refl _) I2 ((dR.2 _ (Nat.ne_of_gt zl)).trans t1) M8 Nb, rfl, ⟨_, x, y, hn, rfl, rfl, fun zs hs => by rw [I.tG hs vk]; exact hx, fun zs hs => by rw [I.tG hs vm]; exact hy⟩,
      ⟨z2, (dR.2 _ D.TIz).trans (kk _ _ D.TIz D.TITO D.TIi1 D.TIi2 gf), ⟨u1, u2, (dR.2 _ D.TOz).trans Nc⟩, yU.at fun o q => (dR.2 _ D.i1z).trans q, CT.at fun o q => (dR.2 _ D.i2z).trans q⟩, fun b hb => ?_⟩
    have l : b ≠ s.heap.objs.size := by
      have ex : ∃ o, s.heap.get? b = some o := by
        simp only [List.mem_cons, List.not_mem_nil, or_false] at hb
        rcases hb with rfl | rfl | rfl | rfl | rfl
        · exact ⟨_, hz⟩
        · exact ⟨_, gf⟩
        · exact ⟨_, gH⟩
        · obtain ⟨o, ho, _⟩ := h1.obj
          exact ⟨o, ho⟩
        · obtain ⟨o, ho, _⟩ := h2.obj
          exact ⟨o, ho⟩
      obtain ⟨o, ho⟩ := ex
      exact Nat.ne_of_lt (Heap.lt_size ho)
    rw [af l]
    exact (hf b hb).1
  done := by
    intro X hP hw hK hc i pins s σ H E I hf st hg
    subst hP hw hK
    obtain ⟨hz, gf, ⟨a, c, gH⟩, h1, h2⟩ := st
    obtain ⟨xs, ys, vk, vm, hx⟩ := hg
    obtain ⟨GV, CV, p1⟩ := I.sq vk
    obtain ⟨cS, il, p2⟩ := I.sq vm
    have mM := CV.length
    have jh := il.length
    exact BD (I.ok.hd hc) D hz gf gH h1 h2 p1 p2 (by rcases hx with h | h; exact .inl (by simp; omega); exact .inr (by simp; omega)) fun g1 kk => ⟨rfl, I.me (t' := s.toks) (ch := [z, TO, i1, i2]) (fun b o hb q => by
      simp only [List.mem_cons, List.not_mem_nil, or_false, not_or] at hb
      exact kk b o hb.1 hb.2.1 hb.2.2.1 hb.2.2.2 q) fun b hb => hf b (by simp at hb ⊢; rcases hb with h | h | h | h <;> simp [h])⟩
  self := fun _ _ _ _ _ st h => wpAny_pyIter_zip st.1 h
abbrev qB (k : Bool) (a : Addr) : Obj := { cls := .type (if k = true then "list_iterator" else "tuple_iterator"), data := .fields #[.ref a, .int 0 0] }
theorem qC {prog : Program} {w : World} {A : Around} {E : Value → Shared → Prop} {s : Shared} {k : Bool} {a : Addr} {items : Array Value} {Q : Value → Shared → Prop} (h : cc k s.heap a items) (hQ : Q (.ref s.heap.objs.size) { s with heap := s.heap.push (qB k a) }) :
    wpAny (model prog w) A (pyIter (.ref a)) Q E s := by
  cases k with
  | true => exact wpAny_pyIter_list h hQ
  | false => exact wpAny_pyIter_tuple h hQ
theorem y1 {k : Bool} {a it : Addr} {h : Heap} (e : h.get? it = some (qB k a)) : SqIt k h it a 0 := by
  cases k with
  | true => exact ⟨_, e, rfl, rfl⟩
  | false => exact ⟨_, e, rfl, rfl⟩
abbrev CW (k1 k2 : Bool) (h : Heap) (a1 a2 : Addr) : Heap := (h.push (qB k1 a1)).push (qB k2 a2)
abbrev CY (k1 k2 : Bool) (h : Heap) (a1 a2 : Addr) : Heap := (CW k1 k2 h a1 a2).push { cls := .type "tuple", data := .seq #[.ref h.objs.size, .ref (h.push (qB k1 a1)).objs.size] }
abbrev CZ (k1 k2 : Bool) (h : Heap) (a1 a2 : Addr) : Heap := (CY k1 k2 h a1 a2).push { cls := .type "tuple", data := .seq #[.none, .none] }
abbrev vn (k1 k2 : Bool) (h : Heap) (a1 a2 : Addr) : Heap := (CZ k1 k2 h a1 a2).push { cls := .type "zip", data := .fields #[.none, .bool false, .bool false, .ref (CW k1 k2 h a1 a2).objs.size, .ref (CY k1 k2 h a1 a2).objs.size] }
theorem GW (k1 k2 : Bool) (a1 a2 : Addr) (xs ys : Array Value) :
    Meets (Builtin.«zip.__new__» ⟨[.type "zip", .ref a1, .ref a2], []⟩) (fun _ R s => cc k1 s.heap a1 xs ∧ cc k2 s.heap a2 ys ∧ R (.ok (.ret (.ref (CZ k1 k2 s.heap a1 a2).objs.size))) { s with heap := vn k1 k2 s.heap a1 a2 }) :=
  .of_wp fun prog w A R s h => by
    obtain ⟨hp, g, d, tk, os⟩ := s
    obtain ⟨q1, q2, h⟩ := h
    have m8 := sub_zip
    have Q1 : cc k1 (Shared.heap ⟨hp, g, d, tk, os⟩) a1 xs := q1
    have Q2 : cc k2 (Shared.heap ⟨hp.push (qB k1 a1), g, d, tk, os⟩) a2 ys := cc.at (h := hp) q2 fun o e => Heap.get?_push_of_some _ e
    wp_walk using qC Q1, qC Q2
    exact ⟨_, rfl, h⟩
section
variable {prog : Program} {w : World} {A : Around} {E : Value → Shared → Prop} {s : Shared} {k1 k2 : Bool} {a1 a2 : Addr} {xs ys : Array Value}
theorem Ee {Q : Value → Shared → Prop} (q1 : cc k1 s.heap a1 xs) (q2 : cc k2 s.heap a2 ys)
    (h : ∀ h', IsZip h' (s.heap.objs.size + 4) (s.heap.objs.size + 2) (s.heap.objs.size + 3) .none → IsPair h' (s.heap.objs.size + 2) (.ref s.heap.objs.size) (.ref (s.heap.objs.size + 1)) → IsPair h' (s.heap.objs.size + 3) .none .none →
      SqIt k1 h' s.heap.objs.size a1 0 → SqIt k2 h' (s.heap.objs.size + 1) a2 0 → (∀ c o, s.heap.get? c = some o → h'.get? c = some o) → Q (.ref (s.heap.objs.size + 4)) { s with heap := h' }) :
    wpAny (model prog w) A (call (.type "zip") [.ref a1, .ref a2]) Q E s := by
  refine callType_new F.called_zip (by decide) (F.typeCall_zip_2 _ _) (F.newCall_zip_2 _ _) (fun obj => F.args_object_init_3 obj _ _) F.entry_zip_new (GW k1 k2 a1 a2 xs ys) ⟨q1, q2, ?_⟩
  have p : ∀ {g : Heap} {o o' : Obj} {b : Addr}, g.get? b = some o → (g.push o').get? b = some o := fun e => Heap.get?_push_of_some _ e
  have e1 : (s.heap.push (qB k1 a1)).objs.size = s.heap.objs.size + 1 := Heap.size_push ..
  have e2 : (CW k1 k2 s.heap a1 a2).objs.size = s.heap.objs.size + 2 := by rw [Heap.size_push, e1]
  have e3 : (CY k1 k2 s.heap a1 a2).objs.size = s.heap.objs.size + 3 := by rw [Heap.size_push, e2]
  have e4 : (CZ k1 k2 s.heap a1 a2).objs.size = s.heap.objs.size + 4 := by rw [Heap.size_push, e3]
  have g5 : (vn k1 k2 s.heap a1 a2).get? (CZ k1 k2 s.heap a1 a2).objs.size = some _ := Heap.get?_push_size _ rfl
  have g4 : (vn k1 k2 s.heap a1 a2).get? (CY k1 k2 s.heap a1 a2).objs.size = some _ := p (Heap.get?_push_size _ rfl)
  have g3 : (vn k1 k2 s.heap a1 a2).get? (CW k1 k2 s.heap a1 a2).objs.size = some _ := p (p (Heap.get?_push_size _ rfl))
  have g2 : (vn k1 k2 s.heap a1 a2).get? (s.heap.push (qB k1 a1)).objs.size = some _ := p (p (p (Heap.get?_push_size _ rfl)))
  have g1 : (vn k1 k2 s.heap a1 a2).get? s.heap.objs.size = some _ := p (p (p (p (Heap.get?_push_size _ rfl))))
  show _ ∧ _
  rw [e2, e3, e4] at g5
  rw [e1, e2] at g3
  rw [e3] at g4
  rw [e1] at g2
  rw [e4]
  exact ⟨⟨_, g5, rfl⟩, h _ g5 g3 g4 (y1 g1) (y1 g2) fun c o q => p (p (p (p (p q))))⟩
end
section
variable {X : Cx} {l1 l2 : Expr} {t1 t2 : TE} {elts : List Expr} {x1 : Nat} {tp p pos : Pos}
def LN (k1 k2 : Bool) (K : PySem.W.Frag) (t1 t2 : TE) : TI := fun σ H R => t1 σ H fun x H1 => t2 σ H1 fun y H2 => ∃ a1 a2, x = .ref a1 ∧ y = .ref a2 ∧ (∃ xs, Sq k1 K H2 a1 xs) ∧ (∃ ys, Sq k2 K H2 a2 ys) ∧ R (CU k1 k2 K a1 a2) H2
theorem GX (k1 k2 : Bool) {K : PySem.W.Frag} (hK : X.K = K) (hg : Gl X "zip") (hm : X.mg "zip" = none) (h1 : PE X l1 t1) (h2 : PE X l2 t2) (hs : starEach [l1, l2] X.env = (false, eval l1 X.env) :: starEach [l2] X.env := by rfl) (km : starEach [l2] X.env = [(false, eval l2 X.env)] := by rfl) :
    PI X (.Tuple elts x1 tp) (.Call (.Name "zip" p) [l1, l2] [] pos) (LN k1 k2 K t1 t2) := by
  subst hK
  intro pins s σ H R I h
  refine wpAny_Call_Name_kw (dY I hg hm GR ?_)
  refine PyProof.Rows.callWith_type1 ?_ hs (by rw [km]; rfl)
  rw [hs, km]
  refine Calls.spliced_cons (thn (h1 pins s σ H _ I h) fun v s1 ⟨x, H1, I1, r1, q1⟩ => Calls.spliced_cons (thn (h2 pins s1 σ H1 _ I1 q1) fun u s2 ⟨y, H2, I2, r2, q2⟩ => Calls.spliced_nil ?_))
  obtain ⟨a1, a2, rfl, rfl, ⟨xs, vk⟩, ⟨ys, vm⟩, q⟩ := q2
  cases (show v = Value.ref a1 from r1)
  cases (show u = Value.ref a2 from r2)
  obtain ⟨GV, CV, Ks⟩ := I2.sq vk
  obtain ⟨cS, il, Kt⟩ := I2.sq vm
  refine Ee Ks Kt fun h' hz gf gH i1 i2 kk => ?_
  refine wpAny_pyIter_zip hz ?_
  have I3 : Inv X pins σ H2 { s2 with heap := h' } := I2.kept (t' := s2.toks) kk
  have Nf : a1 < s2.heap.objs.size := let ⟨o, n, ho, _⟩ := Ks.obj; Heap.lt_size ho
  have Ng : a2 < s2.heap.objs.size := let ⟨o, n, ho, _⟩ := Kt.obj; Heap.lt_size ho
  refine ⟨_, [s2.heap.objs.size + 4, s2.heap.objs.size + 2, s2.heap.objs.size + 3, s2.heap.objs.size, s2.heap.objs.size + 1], _, CU k1 k2 X.K a1 a2, H2, rfl, I3, BE k1 k2 _ _ _ _ _ a1 a2 (zipApart_new Nf Ng), ⟨hz, gf, ⟨_, _, gH⟩, i1, i2⟩, fun b hb => ?_, q⟩
  have ge : s2.heap.objs.size ≤ b := by
    simp only [List.mem_cons, List.not_mem_nil, or_false] at hb
    rcases hb with rfl | rfl | rfl | rfl | rfl
    · exact Nat.le_add_right _ _
    · exact Nat.le_add_right _ _
    · exact Nat.le_add_right _ _
    · exact Nat.le_refl _
    · exact Nat.le_add_right _ _
  exact I2.ju ge (I2.hok.fresh ge)
end
theorem BF {k1 k2 : Bool} {K : PySem.W.Frag} {a1 a2 : Addr} {xs ys : List V} {H : Hp} (h1 : Sq k1 K H a1 xs) (h2 : Sq k2 K H a2 ys) : wK (CU k1 k2 K a1 a2) (xs.zip ys) H := fun i => by
  refine ⟨fun hi => ?_, fun hi => ?_⟩
  · have cY := hi
    rw [List.length_zip] at cY
    have i1 : i < xs.length := by omega
    have i2 : i < ys.length := by omega
    refine ⟨⟨xs, ys, xs[i], ys[i], h1, h2, List.getElem?_eq_getElem i1, List.getElem?_eq_getElem i2⟩, fun v H' ⟨t, x, y, n, e1, e2, e3, e4⟩ => ⟨t, (x, y), n, e1, ?_, e2⟩⟩
    rw [List.getElem?_zip_eq_some]
    exact ⟨e3 xs h1, e4 ys h2⟩
  · rw [List.length_zip] at hi
    exact ⟨xs, ys, h1, h2, by omega⟩
end L2
namespace L2
open PySem PySem.Spec PyProof.Rows
section
variable {X : Cx} {st : Stmt} {ι : Type} {Pre : ι → St → Hp → Prop} {D : ι → Ends}
theorem rC {P : Program} {w : World} {K : PySem.W.Frag} (hP : X.prog = P) (hw : X.w = w) (h : X.K = K) (hc : X.calm = true) : cR X (.builtin "sorted") (vj P w K) := by
  subst hP hw h
  exact tu hc
end
section
variable {κ : Type} [DecidableEq κ]
def ib (ao : List (κ × V)) (k : κ) : Option V := (ao.find? fun kv => decide (kv.1 = k)).map (·.2)
def putK (ao : List (κ × V)) (k : κ) (v : V) : List (κ × V) :=
  if (ao.any fun kv => decide (kv.1 = k)) = true then ao.map (fun kv => if kv.1 = k then (kv.1, v) else kv) else ao ++ [(k, v)]
theorem jV {p : κ × V} {r : List (κ × V)} {k : κ} (e : p.1 = k) : ib (p :: r) k = some p.2 := by simp [ib, List.find?_cons, e]
theorem jW {p : κ × V} {r : List (κ × V)} {k : κ} (e : ¬ p.1 = k) : ib (p :: r) k = ib r k := by simp [ib, List.find?_cons, e]
theorem m9 (k : κ) : ∀ ao : List (κ × V), (ao.any fun kv => decide (kv.1 = k)) = (ib ao k).isSome
  | [] => rfl
  | p :: r => by
    rw [List.any_cons]
    by_cases e : p.1 = k
    · simp only [jV e, decide_eq_true e, Bool.true_or, Option.isSome_some]
    · rw [jW e, decide_eq_false e, Bool.false_or]; exact m9 k r
theorem mO (ao : List (κ × V)) (k : κ) (v : V) : (putK ao k v).length ≤ ao.length + 1 := by
  unfold putK
  split
  · rw [List.length_map]; omega
  · rw [List.length_append, List.length_cons, List.length_nil]; omega
theorem iJ.k8 {o : Option V} {u : Option Value} (r : iJ o u) : o.isSome = u.isSome := by
  cases o with
  | none => cases u with
    | none => rfl
    | some _ => exact (show False from r).elim
  | some _ => cases u with
    | none => exact (show False from r).elim
    | some _ => rfl
theorem KV.val {ao : List (κ × V)} {vs : List (κ × Value)} (r : KV ao vs) (k : κ) : iJ (ib ao k) (valueAt vs k) := by
  unfold KV at r
  induction r with
  | nil => exact True.intro
  | @cons p q ps qs h t ih =>
    obtain ⟨h1, h2⟩ := h
    by_cases e : p.1 = k
    · have e' : q.1 = k := h1.symm.trans e
      have b : valueAt (q :: qs) k = some q.2 := by simp [valueAt, List.find?_cons, e']
      rw [jV e, b]; exact h2
    · have e' : ¬ q.1 = k := fun z => e (h1.trans z)
      have b : valueAt (q :: qs) k = valueAt qs k := by simp [valueAt, List.find?_cons, e']
      rw [jW e, b]; exact ih
theorem KV.any {ao : List (κ × V)} {vs : List (κ × Value)} (r : KV ao vs) (k : κ) : (ao.any fun kv => decide (kv.1 = k)) = vs.any fun kv => decide (kv.1 = k) := by
  unfold KV at r
  induction r with
  | nil => rfl
  | cons h t ih => rw [List.any_cons, List.any_cons, ih, h.1]
theorem KV.repl {ao : List (κ × V)} {vs : List (κ × Value)} (r : KV ao vs) (k : κ) {y : V} {u : Value} (ry : RelV y u) :
    KV (ao.map fun kv => if kv.1 = k then (kv.1, y) else kv) (vs.map fun kv => if kv.1 = k then (kv.1, u) else kv) := by
  unfold KV at r ⊢
  induction r with
  | nil => exact .nil
  | @cons p q ps qs h t ih =>
    rw [List.map_cons, List.map_cons]
    refine .cons ?_ ih
    obtain ⟨h1, h2⟩ := h
    by_cases e : p.1 = k
    · rw [if_pos e, if_pos (h1.symm.trans e)]; exact ⟨h1, ry⟩
    · rw [if_neg e, if_neg (fun z => e (h1.trans z))]; exact ⟨h1, h2⟩
theorem KV.put {ao : List (κ × V)} {vs : List (κ × Value)} (r : KV ao vs) (k : κ) {y : V} {u : Value} (ry : RelV y u) : KV (putK ao k y) (stored vs k u) := by
  unfold putK stored
  rw [r.any k]
  by_cases e : (vs.any fun kv => decide (kv.1 = k)) = true
  · rw [if_pos e, if_pos e]; exact r.repl k ry
  · rw [if_neg e, if_neg e]; exact Paired.snoc r ⟨rfl, ry⟩
theorem KV.length {ao : List (κ × V)} {vs : List (κ × Value)} (r : KV ao vs) : ao.length = vs.length := Paired.length r
end
theorem rO {P : Program} {w : World} {k : Key} {u : Value} (r : RelV (kV k) u) : (bK P w).is k u = true := by
  cases k with
  | inl i => obtain ⟨t, e⟩ := (show ∃ t, u = Value.int i t from r); subst e; exact uC P w i t
  | inr x => obtain ⟨t, e⟩ := (show ∃ t, u = Value.str x t from r); subst e; exact uD P w x t
theorem qD {P : Program} {w : World} : ∀ {ks : List Key} {us : List Value}, Vals (ks.map kV) us → ItemsAre (bK P w) ks us
  | [], _, r => by rw [List.map_nil] at r; cases r; exact .nil
  | k :: ks, _, r => by
    rw [List.map_cons] at r
    cases r with
    | cons h t => exact .cons (rO h) (qD t)
abbrev KT (H : Hp) : List (List Key × V) → List (List Key × Addr × Value) → Prop := Paired fun p q => p.1 = q.1 ∧ H q.2.1 = some (.tup (p.1.map kV)) ∧ RelV p.2 q.2.2
theorem KT.val {H : Hp} {ao : List (List Key × V)} {xs : List (List Key × Addr × Value)} (r : KT H ao xs) (k : List Key) : iJ (ib ao k) ((atKey xs k).map (·.2)) := by
  induction r with
  | nil => exact True.intro
  | @cons p q ps qs h t ih =>
    obtain ⟨h1, _, h2⟩ := h
    by_cases e : p.1 = k
    · have e' : q.1 = k := h1.symm.trans e
      have b : atKey (q :: qs) k = some q.2 := by simp [atKey, List.find?_cons, e']
      rw [jV e, b]; exact h2
    · have e' : ¬ q.1 = k := fun z => e (h1.trans z)
      have b : atKey (q :: qs) k = atKey qs k := by simp [atKey, List.find?_cons, e']
      rw [jW e, b]; exact ih
theorem KT.repl {H : Hp} {ao : List (List Key × V)} {xs : List (List Key × Addr × Value)} (r : KT H ao xs) (k : List Key) {y : V} {u : Value} (ry : RelV y u) :
    KT H (ao.map fun kv => if kv.1 = k then (kv.1, y) else kv) (xs.map (putAt k u)) := by
  induction r with
  | nil => exact .nil
  | @cons p q ps qs h t ih =>
    rw [List.map_cons, List.map_cons]
    refine .cons ?_ ih
    obtain ⟨h1, h2, h3⟩ := h
    unfold putAt
    by_cases e : p.1 = k
    · rw [if_pos e, if_pos (h1.symm.trans e)]; exact ⟨h1, h2, ry⟩
    · rw [if_neg e, if_neg (fun z => e (h1.trans z))]; exact ⟨h1, h2, h3⟩
theorem KT.put {H : Hp} {ao : List (List Key × V)} {xs : List (List Key × Addr × Value)} (r : KT H ao xs) (k : List Key) {b : Addr} {y : V} {u : Value} (hb : H b = some (.tup (k.map kV))) (ry : RelV y u) :
    KT H (putK ao k y) (storedH xs k b u) := by
  have e : (ao.any fun kv => decide (kv.1 = k)) = (atKey xs k).isSome := by
    rw [m9, (r.val k).k8, Option.isSome_map]
  unfold putK storedH
  rw [e]
  by_cases q : (atKey xs k).isSome = true
  · rw [if_pos q, if_pos q]; exact r.repl k ry
  · rw [if_neg q, if_neg q]; exact Paired.snoc r ⟨rfl, hb, ry⟩
theorem KT.keeps {H H' : Hp} {ao : List (List Key × V)} {xs : List (List Key × Addr × Value)} (r : KT H ao xs) (ht : ∀ b ys, H b = some (.tup ys) → H' b = some (.tup ys)) : KT H' ao xs :=
  Paired.AF r fun _ _ z => ⟨z.1, ht _ _ z.2.1, z.2.2⟩
section
variable {P : Program} {w : World} {H : Hp} {h : Heap} {a : Addr}
theorem C1 {u : HO} (ok : cj P w H h) (e : Rd H a u) : ObjOk P w H h a u := e.ok ok
theorem rP {ao : List (Key × V)} (ok : cj P w H h) (e : Rd H a (.dK ao)) : ao.length ≤ sizeLine ∧ (a == sysModules) = false ∧ ∃ vs, KV ao vs ∧ h.DictOf (bK P w) a vs :=
  show ObjOk P w H h a (.dK ao) from C1 ok e
theorem Jk {ao : List (Key × V)} (ok : cj P w H h) (e : H a = some (.dK ao)) : ao.length ≤ sizeLine ∧ (a == sysModules) = false ∧ ∃ vs, KV ao vs ∧ h.DictOf (bK P w) a vs := rP ok (.inl e)
theorem k9 {ks : List Key} (ok : cj P w H h) (e : H a = some (.tup (ks.map kV))) : (tupleKind (bK P w)).is h ks a := by
  obtain ⟨_, its, r, o, h1, h2, n, h3, _⟩ := (show ObjOk P w H h a (.tup (ks.map kV)) from ok a _ e)
  exact ⟨o, its.toArray, n, h1, h2, h3, by simpa using qD r⟩
theorem oj {ao : List (List Key × V)} (ok : cj P w H h) (e : Rd H a (.dT ao)) : ao.length ≤ sizeLine ∧ (a == sysModules) = false ∧
    ∃ xs, KT H ao xs ∧ h.DictOfH (tupleKind (bK P w)) a xs := by
  obtain ⟨z, y, xs, r, o, es, ep, h1, h2, h3, h4, h5⟩ := (show ObjOk P w H h a (.dT ao) from C1 ok e)
  refine ⟨z, y, xs, r, o, es, ep, h1, h2, h3, h4, fun x hx => ?_, h5⟩
  have all : ∀ {l : List (List Key × V)} {m : List (List Key × Addr × Value)}, KT H l m → ∀ x ∈ m, (tupleKind (bK P w)).is h x.1 x.2.1 := by
    intro l m q
    induction q with
    | nil => intro x hx; exact nomatch hx
    | @cons p q ps qs hq t ih =>
      intro x hx
      rcases List.mem_cons.mp hx with e | hx
      · subst e
        exact k9 ok (by rw [← hq.1]; exact hq.2.1)
      · exact ih x hx
  exact all r x hx
theorem C2 {ao : List (List Key × V)} (ok : cj P w H h) (e : H a = some (.dT ao)) : ao.length ≤ sizeLine ∧ (a == sysModules) = false ∧
    ∃ xs, KT H ao xs ∧ h.DictOfH (tupleKind (bK P w)) a xs := oj ok (.inl e)
end
def pz (H : Hp) (a : Addr) (y : V) (r : Option V) : Prop :=
  (∃ ao k, Rd H a (.dK ao) ∧ y = kV k ∧ r = ib ao k) ∨ ∃ ao k b, Rd H a (.dT ao) ∧ y = .ref b ∧ H b = some (.tup (k.map kV)) ∧ r = ib ao k
def GY (H : Hp) (a : Addr) (y v : V) (H' : Hp) : Prop :=
  (∃ ao k, H a = some (.dK ao) ∧ y = kV k ∧ ao.length < sizeLine ∧ H' = upd H a (.dK (putK ao k v))) ∨
  ∃ ao k b, H a = some (.dT ao) ∧ y = .ref b ∧ H b = some (.tup (k.map kV)) ∧ ao.length < sizeLine ∧ H' = upd H a (.dT (putK ao k v))
section
variable {X : Cx} {pins : List (Addr × Obj)} {σ : St} {H : Hp} {s : Shared} {a : Addr} {y v : V} {u r : Value} {o : Option V} {A : Around} {E : Value → Shared → Prop}
theorem Inv.big (I : Inv X pins σ H s) : sysModules < s.heap.objs.size := by
  have h : mainGlobals < s.heap.objs.size := (I.mod.glob.keeps I.bk).lt
  exact Nat.lt_trans (by decide) h
theorem y2 {Q : Value → Shared → Prop} (hu : A.units + 1 < cLine) (I : Inv X pins σ H s) (g : pz H a y (some v)) (ry : RelV y u) (h : ∀ w' s', Inv X pins σ H s' → RelV v w' → Q w' s') :
    wpAny (model X.prog X.w) A (getItem (.ref a) u) Q E s := by
  rcases g with ⟨ao, k, e, ey, l⟩ | ⟨ao, k, b, e, ey, eb, l⟩
  · subst ey
    obtain ⟨z, hd, vs, rel, dd⟩ := rP I.hok e
    obtain ⟨w', hw, jB⟩ := iJ.some_of (v := v) (o := valueAt vs k) (by rw [l]; exact rel.val k)
    exact wpAny_getItem_of (rO ry) dd.mapOf hw (h w' _ (I.tok _) jB)
  · subst ey
    cases (show u = Value.ref b from ry)
    obtain ⟨z, hd, xs, rel, dd⟩ := oj I.hok e
    obtain ⟨w', hw, jB⟩ := iJ.some_of (v := v) (o := (atKey xs k).map (·.2)) (by rw [l]; exact rel.val k)
    obtain ⟨p, hp, Nh⟩ := Option.map_eq_some_iff.mp hw
    refine wpAny_getItem_heap (tupleKind_room_in1 hu) (k9 I.hok eb) dd hp ?_
    rw [Nh]
    exact h w' _ (I.tok _) jB
theorem Ef {Q : Value → Shared → Prop} (hu : A.units + 1 < cLine) (I : Inv X pins σ H s) (g : pz H a y o) (ry : RelV y u) (h : ∀ s', Inv X pins σ H s' → Q (.bool (!o.isSome)) s') :
    wpAny (model X.prog X.w) A (compareOp .NotIn u (.ref a)) Q E s := by
  rcases g with ⟨ao, k, e, ey, l⟩ | ⟨ao, k, b, e, ey, eb, l⟩
  · subst ey
    obtain ⟨z, hd, vs, rel, dd⟩ := rP I.hok e
    refine wpAny_notIn_of (rO ry) hd dd.mapOf ?_
    rw [← (rel.val k).k8, ← l]
    exact h _ (I.tok _)
  · subst ey
    cases (show u = Value.ref b from ry)
    obtain ⟨z, hd, xs, rel, dd⟩ := oj I.hok e
    refine wpAny_notIn_heap (tupleKind_room_in1 hu) (k9 I.hok eb) hd dd ?_
    have q := (rel.val k).k8
    rw [Option.isSome_map] at q
    rw [← q, ← l]
    exact h _ (I.tok _)
theorem pA {h' : Heap} {t' : Nat} {ob : HO} (I : Inv X pins σ H s) (mu : xE (H a)) (hs : Heap.SameBut a s.heap h') (he : ∃ q, h'.get? a = some q) (new : ObjOk X.prog X.w (upd H a ob) h' a ob) :
    Inv X pins σ (upd H a ob) { s with heap := h', toks := t' } :=
  I.write (x := a) (e := a) mu (.inl rfl) (fun b q hb z => (hs.2 b hb).trans z) he new
theorem GZ {P : Program} {w : World} {H' : Hp} {h' : Heap} {ao : List (Key × V)} {vs : List (Key × Value)} (z : ao.length ≤ sizeLine) (hd : (a == sysModules) = false) (rel : KV ao vs) (dd : h'.DictOf (bK P w) a vs) :
    ObjOk P w H' h' a (.dK ao) := ⟨z, hd, vs, rel, dd⟩
theorem y3 {H' : Hp} {Q : Unit → Shared → Prop} (hu : A.units + 1 < cLine) (I : Inv X pins σ H s) (g : GY H a y v H') (ry : RelV y u) (rv : RelV v r) (h : ∀ s', Inv X pins σ H' s' → Q () s') :
    wpAny (model X.prog X.w) A (setItem (.ref a) u r) Q E s := by
  rcases g with ⟨ao, k, e, ey, l, eH⟩ | ⟨ao, k, b, e, ey, eb, l, eH⟩
  · subst ey eH
    obtain ⟨z, hd, vs, rel, dd⟩ := Jk I.hok e
    have hz : vs.length ≤ sizeLine := by rw [← rel.length]; exact z
    have hl : (putK ao k v).length ≤ sizeLine := by have := mO ao k v; omega
    refine wpAny_setItem_pairs (hsz := hz) (rO ry) dd fun h' vo hs => h _ ?_
    have he : ∃ q, h'.get? a = some q := let ⟨q, _, _, hq, _⟩ := vo; ⟨q, hq⟩
    exact pA I (by rw [e]; exact True.intro) hs he (GZ hl hd (rel.put k rv) vo)
  · subst ey eH
    cases (show u = Value.ref b from ry)
    obtain ⟨z, hd, xs, rel, dd⟩ := C2 I.hok e
    have hz : xs.length ≤ sizeLine := by rw [← Paired.length rel]; exact z
    have hl : (putK ao k v).length ≤ sizeLine := by have := mO ao k v; omega
    refine wpAny_setItem_heap (hsz := hz) (tupleKind_room_in1 hu) (k9 I.hok eb) dd fun h' vo hs => h _ ?_
    obtain ⟨q, es, ep, hq, h2, h3, h4, _, h5⟩ := vo
    refine pA I (by rw [e]; exact True.intro) hs ⟨q, hq⟩ ⟨hl, hd, _, (rel.put k eb rv).keeps fun c ys ec => ?_, q, es, ep, hq, h2, h3, h4, h5⟩
    rw [af (vQ ec e (fun z => nomatch z))]
    exact ec
end
def BG (i : Expr) : Prop := ∀ ov iv, subscripted i false ov iv = operate [ov, iv] (getItem ov iv)
theorem Eg {prog : Program} {w : World} {A : Around} {E : Value → Shared → Prop} {s : Shared} {env : Env} {value slice : Expr} {pos : Pos} {T id : String} {Q : Value → Shared → Prop}
    (hl : typeLookup (.type T) "__getitem__" = pure (some (.builtin id))) (hs : BG slice)
    (h : wpAny (model prog w) A (eval value env) (fun o az => wpAny (model prog w) A (eval slice env) (fun i gI => gI.TypeIs o T ∧ wpAny (model prog w) A (getItem o i) Q E gI) E az) E s) :
    wpAny (model prog w) A (eval (.Subscript value slice pos) env) Q E s := by
  refine Subscript_ (wpAny_mono h (fun o az cF => wpAny_mono cF (fun i gI BH => ?_) fun _ _ x => x) fun _ _ x => x)
  obtain ⟨hT, BH⟩ := BH
  unfold subscriptTail
  refine wpAny_bind ?_
  rw [getitemInPython_of_ne hT.not_modules]
  refine wpAny_bind (wpAny_specialOf hT hl ?_)
  have fin : wpAny (model prog w) A (subscripted slice false o i) (fun r dF => wpAny (model prog w) A (letTemporaryGo value o r >>= fun _ => pure r) Q E dF) E gI := by
    rw [hs o i]
    exact wpAny_operating (wpAny_mono BH (fun r dF LO => wpAny_bind (wpAny_letTemporaryGo (wpAny_pure LO))) fun _ _ x => x)
  first
    | exact wpAny_pure (wpAny_bind fin)
    | exact wpAny_bind (wpAny_pure (wpAny_bind fin))
    | exact wpAny_bind fin
theorem uN {X : Cx} {pins : List (Addr × Obj)} {σ : St} {H : Hp} {s : Shared} {a : Addr} {y : V} {o : Option V} (I : Inv X pins σ H s) (g : pz H a y o) : s.TypeIs (.ref a) "dict" := by
  rcases g with ⟨ao, k, e, _, _⟩ | ⟨ao, k, b, e, _, _, _⟩
  · obtain ⟨_, _, vs, _, dd⟩ := rP I.hok e
    exact dd.typeIs
  · obtain ⟨_, _, xs, _, dd⟩ := oj I.hok e
    exact dd.typeIs
def Jl (td ty : TE) : TE := fun σ H Q => td σ H fun x H1 => ty σ H1 fun y H2 => ∃ a v, x = .ref a ∧ pz H2 a y (some v) ∧ Q v H2
def Jm (td ty tv : TE) : TS := fun D σ H => tv σ H fun v H1 => td σ H1 fun x H2 => ty σ H2 fun y H3 => ∃ a H4, x = .ref a ∧ GY H3 a y v H4 ∧ D.nx σ H4
section
variable {X : Cx} {o i e value : Expr} {pos pos' OY : Pos} {td ty tv : TE}
theorem Eh (hu : X.A.units + 1 < cLine) (ho : PE X o td) (hi : PE X i ty) (hs : BG i) : PE X (.Subscript o i pos) (Jl td ty) := by
  refine ⟨?_⟩
  intro pins s σ H Q I h
  refine Eg PySem.F.slot_dict_getitem.lookup hs (thn (ho pins s σ H _ I h) fun u s1 ⟨x, H1, I1, rx, q1⟩ => thn (hi pins s1 σ H1 _ I1 q1) fun iv s2 ⟨y, H2, I2, ry, a, v, ex, g, q2⟩ => ?_)
  subst ex
  obtain rfl : u = Value.ref a := rx
  exact ⟨uN I2 g, y2 hu I2 g ry fun w' s3 I3 jB => ⟨v, H2, I3, jB, q2⟩⟩
theorem Ei (hu : X.A.units + 1 < cLine) (ho : PE X o td) (hi : PE X i ty) (hv : PE X value tv) (hs : swapsWith value (some (.Subscript o i pos')) pos.line X.env = pure false) :
    PS X (.Assign [.Subscript o i pos'] value pos) (Jm td ty tv) := by
  refine ⟨?_⟩
  intro pins s σ H D I h
  refine wpAny_Assign_Subscript (thn (hv pins s σ H _ I h) fun r s1 ⟨v, H1, I1, rv, q1⟩ => thn (ho pins s1 σ H1 _ I1 q1) fun u s2 ⟨x, H2, I2, rx, q2⟩ => thn (hi pins s2 σ H2 _ I2 q2) fun iv s3 ⟨y, H3, I3, ry, a, H4, ex, g, q3⟩ => ?_) hs
  subst ex
  obtain rfl : u = Value.ref a := rx
  exact y3 hu I3 g ry rv fun s4 I4 => ⟨σ, H4, I4, q3⟩
end
theorem BI {P : Program} {w : World} {H : Hp} (h : Heap) (hb : sysModules < h.objs.size) : ObjOk P w H (h.push { cls := .type "dict", data := .dict #[] }) h.objs.size (.dT []) :=
  ⟨Nat.zero_le _, beq_eq_false_iff_ne.mpr (Ne.symm (Nat.ne_of_lt hb)), [], .nil, _, #[], 0, Heap.get?_push_size _ rfl, ⟨rfl, rfl, rfl⟩, rfl, rfl, List.nodup_nil⟩
structure M1 (X : Cx) (o : Expr) (m : Str) (apos : Pos) (e : Expr) (aW : Pos) : Prop where
  base : attributeBase o m X.env (eval o X.env) = eval o X.env
  few : ((backTo aW (starEach [e] X.env)).all (fun x => !x.1) && (backToKw aW (keywordEach [] X.env)).all (fun x => x.1.isSome)
    && decide (([e] : List Expr).length + ([] : List Keyword).length + (if ([] : List Keyword).isEmpty then 0 else 1) < 30)) = true
  line : (apos.endLine == aW.line) = true
  trees : backTo aW (starEach [e] X.env) = [(false, eval e X.env)]
structure M2 (X : Cx) (o : Expr) (m : Str) (apos : Pos) (e f : Expr) (aW : Pos) : Prop where
  base : attributeBase o m X.env (eval o X.env) = eval o X.env
  few : ((backTo aW (starEach [e, f] X.env)).all (fun x => !x.1) && (backToKw aW (keywordEach [] X.env)).all (fun x => x.1.isSome)
    && decide (([e, f] : List Expr).length + ([] : List Keyword).length + (if ([] : List Keyword).isEmpty then 0 else 1) < 30)) = true
  line : (apos.endLine == aW.line) = true
  trees : backTo aW (starEach [e, f] X.env) = [(false, eval e X.env), (false, eval f X.env)]
inductive Dv where
  | int (i : Int) | bl (b : Bool) | aq | str (z : Str) | tup (xs : List Dv) | lst (xs : List Dv) | set (ns : List Int) | ptr (a : Addr) | exc (C : Addr) | bo (ns : List Int) | raw (v : V) | dk (ks : List Key) (ds : List Dv) | dt (ks : List (List Key)) (ds : List Dv) | bC (f : Addr) (o : Obj) (c : Addr) (oc : Obj) (vs : List V) (ds : List Dv)
inductive Mo where
  | lst (xs : List Dv) | ck | dk (ks : List Key) (ds : List Dv) | dt (ks : List (List Key)) (ds : List Dv)
abbrev Mh := Addr → Option Mo
structure da where
  g : List Addr
  l : List (Addr × Str)
instance : Membership Addr da := ⟨fun t a => a ∈ t.g⟩
def C3 : HO → Bool
  | .cD _ => true
  | .lam _ => true
  | .dK _ => true
  | .dT _ => true
  | _ => false
def y4 : HO → Bool
  | .cD _ => false
  | _ => true
def ng : HO → Bool
  | .dK _ => true
  | .dT _ => true
  | _ => false
theorem Rd.map {H H' : Hp} {a : Addr} {u : HO} (e : Rd H a u) (k : ∀ x, H a = some x → H' a = some x) : Rd H' a u := e.imp (k _) fun ⟨o, h⟩ => ⟨o, k _ h⟩
theorem Rd.G0 {H H' : Hp} {a : Addr} {u : HO} (e : Rd H a u) (hu : ng u = true) (k : ∀ x, y4 x = true → H a = some x → H' a = some x) : Rd H' a u := e.imp (k _ (by cases u <;> first | rfl | cases hu)) fun ⟨o, h⟩ => ⟨o, k _ rfl h⟩
theorem Rd.there {H : Hp} {a : Addr} {u : HO} (e : Rd H a u) : ∃ x, H a = some x := e.elim (fun h => ⟨_, h⟩) fun ⟨o, h⟩ => ⟨_, h⟩
def Tg (o o' : HO) : Prop := (∃ ps f9 : Array Value, o = .cD ps ∧ o' = .cD f9 ∧ TriplesOk f9.toList) ∨ (∃ ps f9 : Array Value, o = .lam ps ∧ o' = .lam f9) ∨ (ng o = true ∧ ∃ ob, o' = .cN ob o)
theorem Tg.trans {a b c : HO} (x : Tg a b) (y : Tg b c) : Tg a c := by
  rcases x with ⟨p, q, rfl, rfl, t⟩ | ⟨p, q, rfl, rfl⟩ | ⟨hd, ob, rfl⟩
  · rcases y with ⟨p2, q2, e, rfl, t2⟩ | ⟨p2, q2, e, _⟩ | ⟨e, _⟩
    · exact .inl ⟨p, q2, rfl, rfl, t2⟩
    · cases e
    · cases e
  · rcases y with ⟨p2, q2, e, _⟩ | ⟨p2, q2, e, rfl⟩ | ⟨e, _⟩
    · cases e
    · exact .inr (.inl ⟨p, q2, rfl, rfl⟩)
    · cases e
  · rcases y with ⟨p2, q2, e, _⟩ | ⟨p2, q2, e, _⟩ | ⟨e, _⟩ <;> cases e
theorem Tg.tab {a b : HO} (x : Tg a b) : C3 a = true := by
  rcases x with ⟨p, q, rfl, rfl, _⟩ | ⟨p, q, rfl, rfl⟩ | ⟨hd, ob, rfl⟩
  · rfl
  · rfl
  · cases a <;> first | rfl | cases hd
def LQ (H : Hp) (q : Str) (cv : Value) : Prop := ∃ (c : Addr) (oc : Obj) (u : HO) (vs : Array Value) (t : Tok), cv = Value.ref c ∧ H c = some (.cN oc u) ∧ oc.data = .fields vs ∧ vs[1]? = some (Value.str q t)
def Lm (H : Hp) (p : Addr × Str) : Prop := ∃ ps : Array Value, H p.1 = some (.lam ps) ∧ TriplesOk ps.toList ∧ ∀ pos cv, codeAmong pos ps.toList = some cv → LQ H p.2 cv
theorem Lm.keep {H H' : Hp} {p : Addr × Str} (h : Lm H p) (k1 : ∀ ps, H p.1 = some (.lam ps) → H' p.1 = some (.lam ps)) (k2 : ∀ c oc u, H c = some (.cN oc u) → H' c = some (.cN oc u)) : Lm H' p := by
  obtain ⟨ps, e, t, c⟩ := h
  refine ⟨ps, k1 _ e, t, fun pos cv q => ?_⟩
  obtain ⟨a, oc, u, vs, tk, e1, e2, r⟩ := c pos cv q
  exact ⟨a, oc, u, vs, tk, e1, k2 _ _ _ e2, r⟩
structure Bz where
  P : Program
  w : World
  K : PySem.W.Frag
  tb : da
  hid : List Addr
def Fz (β : Bz) (M : Mh) (a : Addr) : Prop := M a = none ∧ a ∉ β.hid
def Kl (K : PySem.W.Frag) (a : Addr) (ns : List Int) : Prop := ∃ (o : Obj) (its : Array Value) (n : Nat), K.lookup a = some o ∧ o.cls = .type "list" ∧ o.dict = none ∧ o.data = .seq its n ∧ its.size ≤ sizeLine ∧ Vals (ns.map V.int) its.toList
inductive Rz (β : Bz) (M : Mh) (H : Hp) : V → Dv → Prop where
  | int (i : Int) : Rz β M H (.int i) (.int i)
  | bl (b : Bool) : Rz β M H (.bl b) (.bl b)
  | aq : Rz β M H .aq .aq
  | str (z : Str) : Rz β M H (.str z) (.str z)
  | tup {a : Addr} {vs : List V} {ds : List Dv} (m : Fz β M a) (e : H a = some (.tup vs)) (hl : vs.length = ds.length) (h : ∀ (i : Nat) (v : V) (d : Dv), vs[i]? = some v → ds[i]? = some d → Rz β M H v d) : Rz β M H (.ref a) (.tup ds)
  | lst {a : Addr} {vs : List V} {ds : List Dv} (m : Fz β M a) (e : H a = some (.lst vs)) (hl : vs.length = ds.length) (h : ∀ (i : Nat) (v : V) (d : Dv), vs[i]? = some v → ds[i]? = some d → Rz β M H v d) : Rz β M H (.ref a) (.lst ds)
  | set {a : Addr} {ns : List Int} (m : Fz β M a) (e : H a = some (fB β.P β.w a ns)) : Rz β M H (.ref a) (.set ns)
  | ptr {a : Addr} (m : (M a).isSome = true) : Rz β M H (.ref a) (.ptr a)
  | exc {a C : Addr} (m : Fz β M a) (e : H a = some (LL C a)) : Rz β M H (.ref a) (.exc C)
  | bo {a : Addr} {o : Obj} {ns : List Int} (m : Fz β M a) (e : H a = some (.cN o (.lst (ns.map V.int)))) : Rz β M H (.ref a) (.bo ns)
  | cf {a : Addr} {ns : List Int} (m : Fz β M a) (e : H a = some (.lst (ns.map V.int))) : Rz β M H (.ref a) (.bo ns)
  | cg {a : Addr} {ns : List Int} (e : Kl β.K a ns) : Rz β M H (.ref a) (.bo ns)
  | raw (v : V) : Rz β M H v (.raw v)
  | dk {a : Addr} {ks : List Key} {vs : List V} {ds : List Dv} (m : Fz β M a) (e : Rd H a (.dK (ks.zip vs))) (hk : ks.length = vs.length) (hl : vs.length = ds.length) (h : ∀ (i : Nat) (v : V) (d : Dv), vs[i]? = some v → ds[i]? = some d → Rz β M H v d) : Rz β M H (.ref a) (.dk ks ds)
  | dt {a : Addr} {ks : List (List Key)} {vs : List V} {ds : List Dv} (m : Fz β M a) (e : Rd H a (.dT (ks.zip vs))) (hk : ks.length = vs.length) (hl : vs.length = ds.length) (h : ∀ (i : Nat) (v : V) (d : Dv), vs[i]? = some v → ds[i]? = some d → Rz β M H v d) : Rz β M H (.ref a) (.dt ks ds)
  | bC {f c : Addr} {o oc : Obj} {u uc : HO} {vs : List V} {ds : List Dv} (m : Fz β M f) (e : H f = some (.cN o u)) (m2 : Fz β M c) (e2 : H c = some (.cN oc uc)) (hl : vs.length = ds.length) (h : ∀ (i : Nat) (v : V) (d : Dv), vs[i]? = some v → ds[i]? = some d → Rz β M H v d) : Rz β M H (.ref f) (.bC f o c oc vs ds)
structure aG (β : Bz) (M : Mh) (H : Hp) (vs : List V) (ds : List Dv) : Prop where
  len : vs.length = ds.length
  at' : ∀ (i : Nat) (v : V) (d : Dv), vs[i]? = some v → ds[i]? = some d → Rz β M H v d
def g9 (β : Bz) (M : Mh) (H : Hp) (a : Addr) : Mo → Prop
  | .lst ds => ∃ vs, H a = some (.lst vs) ∧ aG β M H vs ds
  | .ck => Je H a
  | .dk ks ds => ∃ vs, H a = some (.dK (ks.zip vs)) ∧ ks.length = vs.length ∧ aG β M H vs ds
  | .dt ks ds => ∃ vs, H a = some (.dT (ks.zip vs)) ∧ ks.length = vs.length ∧ aG β M H vs ds
def la : HO → Bool
  | .lst _ => true
  | .set _ _ => true
  | .dK _ => true
  | .dT _ => true
  | .ext _ => true
  | .cD _ => true
  | _ => false
def wL (H : Hp) (a : Addr) : Prop := ∃ o, H a = some o ∧ la o = true
theorem wL.upd {H : Hp} {a p : Addr} {o : HO} (h : wL H a) (d : H p = none ∨ la o = true) : wL (upd H p o) a := by
  obtain ⟨u, e, n⟩ := h
  by_cases z : a = p
  · subst z
    rcases d with d | d
    · rw [e] at d; cases d
    · exact ⟨o, aD, d⟩
  · exact ⟨u, by rw [af z]; exact e, n⟩
structure Mz (β : Bz) (M : Mh) (H : Hp) : Prop where
  obj : ∀ a o, M a = some o → g9 β M H a o
  tabs : CG β.tb.g H
  hids : ∀ a ∈ β.hid, wL H a
  apart : ∀ a o, M a = some o → a ∉ β.hid
  lams : ∀ p ∈ β.tb.l, Lm H p
structure Ey (M : Mh) (H : Hp) (M' : Mh) (H' : Hp) : Prop where
  keep : ∀ b o, M b = none → H b = some o → H' b = some o ∨ ∃ o', Tg o o' ∧ H' b = some o'
  dom : ∀ a, (M a).isSome = true → (M' a).isSome = true
  new : ∀ a o, M a = none → H a = some o → M' a = none
structure Ex (β : Bz) (M : Mh) (H : Hp) (M' : Mh) (H' : Hp) : Prop extends Ey M H M' H' where
  mz : Mz β M' H'
section
variable {β : Bz} {M M1 M2 : Mh} {H H1 H2 : Hp}
theorem Ey.refl : Ey M H M H := ⟨fun _ _ _ h => .inl h, fun _ h => h, fun _ _ h _ => h⟩
theorem Ex.refl (m : Mz β M H) : Ex β M H M H := ⟨.refl, m⟩
theorem Ey.trans (x : Ey M H M1 H1) (y : Ey M1 H1 M2 H2) : Ey M H M2 H2 := by
  refine ⟨fun b o hm h => ?_, fun a h => y.dom a (x.dom a h), fun a o hm h => ?_⟩
  · have jD := x.new b o hm h
    rcases x.keep b o hm h with q | ⟨o1, t, q⟩
    · exact y.keep b o jD q
    · rcases y.keep b _ jD q with q2 | ⟨o2, t2, q2⟩
      · exact .inr ⟨o1, t, q2⟩
      · exact .inr ⟨o2, t.trans t2, q2⟩
  · have jD := x.new a o hm h
    rcases x.keep a o hm h with q | ⟨o1, t, q⟩
    · exact y.new a _ jD q
    · exact y.new a _ jD q
theorem Ex.trans (x : Ex β M H M1 H1) (y : Ex β M1 H1 M2 H2) : Ex β M H M2 H2 := ⟨x.toEy.trans y.toEy, y.mz⟩
theorem Ey.get (x : Ey M H M1 H1) {b : Addr} {o : HO} (m : M b = none) (h : H b = some o) (n : C3 o = false) : H1 b = some o := by
  rcases x.keep b o m h with q | ⟨o', e, _⟩
  · exact q
  · rw [e.tab] at n; cases n
theorem Ey.rd (x : Ey M H M1 H1) {b : Addr} {u : HO} (m : M b = none) (h : Rd H b u) (hu : ng u = true) : Rd H1 b u := by
  rcases h with h | ⟨o, h⟩
  · rcases x.keep b u m h with q | ⟨o', t, q⟩
    · exact .inl q
    · rcases t with ⟨_, _, rfl, _⟩ | ⟨_, _, rfl, _⟩ | ⟨_, ob, rfl⟩
      · cases hu
      · cases hu
      · exact .inr ⟨ob, q⟩
  · exact .inr ⟨o, x.get m h rfl⟩
theorem Ey.gone (x : Ey M H M1 H1) {b : Addr} (h : H1 b = none) : M b = none → H b = none := fun m => by
  cases e : H b with
  | none => rfl
  | some o =>
    rcases x.keep b o m e with q | ⟨_, _, q⟩ <;> (rw [h] at q; cases q)
theorem Rz.ey (x : Ey M H M1 H1) {v : V} {d : Dv} (h : Rz β M H v d) : Rz β M1 H1 v d := by
  induction h with
  | int i => exact .int i
  | bl b => exact .bl b
  | aq => exact .aq
  | str z => exact .str z
  | tup m e hl h ih => exact .tup ⟨x.new _ _ m.1 e, m.2⟩ (x.get m.1 e rfl) hl ih
  | lst m e hl h ih => exact .lst ⟨x.new _ _ m.1 e, m.2⟩ (x.get m.1 e rfl) hl ih
  | dk m e hk hl h ih => exact .dk ⟨x.new _ _ m.1 e.there.choose_spec, m.2⟩ (x.rd m.1 e rfl) hk hl ih
  | dt m e hk hl h ih => exact .dt ⟨x.new _ _ m.1 e.there.choose_spec, m.2⟩ (x.rd m.1 e rfl) hk hl ih
  | bC m e m2 e2 hl h ih => exact .bC ⟨x.new _ _ m.1 e, m.2⟩ (x.get m.1 e rfl) ⟨x.new _ _ m2.1 e2, m2.2⟩ (x.get m2.1 e2 rfl) hl ih
  | set m e => exact .set ⟨x.new _ _ m.1 e, m.2⟩ (x.get m.1 e rfl)
  | ptr m => exact .ptr (x.dom _ m)
  | exc m e => exact .exc ⟨x.new _ _ m.1 e, m.2⟩ (x.get m.1 e rfl)
  | bo m e => exact .bo ⟨x.new _ _ m.1 e, m.2⟩ (x.get m.1 e rfl)
  | cf m e => exact .cf ⟨x.new _ _ m.1 e, m.2⟩ (x.get m.1 e rfl)
  | cg e => exact .cg e
  | raw v => exact .raw v
theorem Rz.ex (x : Ex β M H M1 H1) {v : V} {d : Dv} (h : Rz β M H v d) : Rz β M1 H1 v d := h.ey x.toEy
theorem aG.ex (x : Ex β M H M1 H1) {vs : List V} {ds : List Dv} (h : aG β M H vs ds) : aG β M1 H1 vs ds := ⟨h.len, fun i v d a b => (h.at' i v d a b).ex x⟩
theorem aG.nil : aG β M H [] [] := ⟨rfl, fun i v d h => by simp at h⟩
theorem aG.cons {v : V} {d : Dv} {vs : List V} {ds : List Dv} (h : Rz β M H v d) (t : aG β M H vs ds) : aG β M H (v :: vs) (d :: ds) := ⟨by simp [t.len], fun i x y a b => by
  cases i with
  | zero => simp at a b; subst a b; exact h
  | succ i => rw [List.getElem?_cons_succ] at a b; exact t.at' i x y a b⟩
theorem aG.head {v : V} {d : Dv} {vs : List V} {ds : List Dv} (h : aG β M H (v :: vs) (d :: ds)) : Rz β M H v d := h.at' 0 v d rfl rfl
theorem aG.tail {v : V} {d : Dv} {vs : List V} {ds : List Dv} (h : aG β M H (v :: vs) (d :: ds)) : aG β M H vs ds := ⟨by simpa using h.len, fun i x y a b => h.at' (i + 1) x y (by rw [List.getElem?_cons_succ]; exact a) (by rw [List.getElem?_cons_succ]; exact b)⟩
theorem aG.append {vs y6 : List V} {ds fO : List Dv} (h : aG β M H vs ds) (t : aG β M H y6 fO) : aG β M H (vs ++ y6) (ds ++ fO) := ⟨by simp [h.len, t.len], fun i x y a b => by
  rw [List.getElem?_append] at a b
  rw [h.len] at a
  split at b
  · rename_i z
    rw [if_pos z] at a
    exact h.at' i x y a b
  · rename_i z
    rw [if_neg z] at a
    exact t.at' _ x y a b⟩
theorem aG.snoc {v : V} {d : Dv} {vs : List V} {ds : List Dv} (t : aG β M H vs ds) (h : Rz β M H v d) : aG β M H (vs ++ [v]) (ds ++ [d]) := t.append (.cons h .nil)
theorem aG.get {vs : List V} {ds : List Dv} (h : aG β M H vs ds) {i : Nat} {d : Dv} (e : ds[i]? = some d) : ∃ v, vs[i]? = some v ∧ Rz β M H v d := by
  have hi := (List.getElem?_eq_some_iff.mp e).1
  have cY : i < vs.length := by rw [h.len]; exact hi
  exact ⟨vs[i], List.getElem?_eq_getElem cY, h.at' i _ _ (List.getElem?_eq_getElem cY) e⟩
theorem aG.get' {vs : List V} {ds : List Dv} (h : aG β M H vs ds) {i : Nat} {v : V} (e : vs[i]? = some v) : ∃ d, ds[i]? = some d ∧ Rz β M H v d := by
  have hi := (List.getElem?_eq_some_iff.mp e).1
  have cY : i < ds.length := by rw [← h.len]; exact hi
  exact ⟨ds[i], List.getElem?_eq_getElem cY, h.at' i _ _ e (List.getElem?_eq_getElem cY)⟩
theorem aG.take {vs : List V} {ds : List Dv} (h : aG β M H vs ds) (n : Nat) : aG β M H (vs.take n) (ds.take n) := ⟨by simp [h.len], fun i x y a b => by
  rw [List.getElem?_take] at a b
  split at a
  · rename_i z; rw [if_pos z] at b; exact h.at' i x y a b
  · cases a⟩
theorem aG.drop {vs : List V} {ds : List Dv} (h : aG β M H vs ds) (n : Nat) : aG β M H (vs.drop n) (ds.drop n) := ⟨by simp [h.len], fun i x y a b => by
  rw [List.getElem?_drop] at a b
  exact h.at' _ x y a b⟩
theorem aG.set {vs : List V} {ds : List Dv} (h : aG β M H vs ds) (n : Nat) {v : V} {d : Dv} (r : Rz β M H v d) : aG β M H (vs.set n v) (ds.set n d) := ⟨by simp [h.len], fun i x y a b => by
  rw [List.getElem?_set] at a b
  rw [h.len] at a
  split at a
  · rename_i z
    rw [if_pos z] at b
    split at a
    · rename_i z2; rw [if_pos z2] at b; cases a; cases b; exact r
    · cases a
  · rename_i z; rw [if_neg z] at b; exact h.at' i x y a b⟩
theorem jF {a : Addr} {vs : List V} {ds : List Dv} (m : Fz β M a) (e : H a = some (.tup vs)) (h : aG β M H vs ds) : Rz β M H (.ref a) (.tup ds) := .tup m e h.len h.at'
theorem tH {a : Addr} {vs : List V} {ds : List Dv} (m : Fz β M a) (e : H a = some (.lst vs)) (h : aG β M H vs ds) : Rz β M H (.ref a) (.lst ds) := .lst m e h.len h.at'
theorem cZ {v : V} {ds : List Dv} (h : Rz β M H v (.tup ds)) : ∃ a vs, v = .ref a ∧ Fz β M a ∧ H a = some (.tup vs) ∧ aG β M H vs ds := by
  cases h with
  | tup m e hl h => exact ⟨_, _, rfl, m, e, hl, h⟩
theorem dS {v : V} {ds : List Dv} (h : Rz β M H v (.lst ds)) : ∃ a vs, v = .ref a ∧ Fz β M a ∧ H a = some (.lst vs) ∧ aG β M H vs ds := by
  cases h with
  | lst m e hl h => exact ⟨_, _, rfl, m, e, hl, h⟩
theorem aL {v : V} {i : Int} (h : Rz β M H v (.int i)) : v = .int i := by cases h; rfl
theorem de {v : V} {b : Bool} (h : Rz β M H v (.bl b)) : v = .bl b := by cases h; rfl
theorem c0 {v : V} {z : Str} (h : Rz β M H v (.str z)) : v = .str z := by cases h; rfl
theorem fP {v : V} (h : Rz β M H v .aq) : v = .aq := by cases h; rfl
theorem y7 {v u : V} (h : Rz β M H v (.raw u)) : v = u := by cases h; rfl
theorem b7 {v : V} {a : Addr} (h : Rz β M H v (.ptr a)) : v = .ref a ∧ (M a).isSome = true := by cases h with | ptr m => exact ⟨rfl, m⟩
theorem y8 {v : V} {ns : List Int} (h : Rz β M H v (.set ns)) : ∃ a, v = .ref a ∧ Fz β M a ∧ H a = some (fB β.P β.w a ns) := by cases h with | set m e => exact ⟨_, rfl, m, e⟩
theorem qE {v : V} {ns : List Int} (h : Rz β M H v (.bo ns)) : ∃ a, v = .ref a ∧ bE β.K H a (ns.map V.int) := by
  cases h with
  | bo m e => exact ⟨_, rfl, .inl (.inr ⟨_, e⟩)⟩
  | cf m e => exact ⟨_, rfl, .inl (.inl e)⟩
  | cg e => exact ⟨_, rfl, .inr e⟩
def nh : HO → Bool
  | .lst _ => true
  | .dK _ => true
  | .dT _ => true
  | _ => false
theorem Mz.own (m : Mz β M H) {a : Addr} {o : Mo} (e : M a = some o) : ∃ u, H a = some u ∧ nh u = true := by
  have q := m.obj a o e
  cases o with
  | lst ds => obtain ⟨vs, q, _⟩ := q; exact ⟨_, q, rfl⟩
  | dk ks ds => obtain ⟨vs, q, _⟩ := q; exact ⟨_, q, rfl⟩
  | dt ks ds => obtain ⟨vs, q, _⟩ := q; exact ⟨_, q, rfl⟩
  | ck => obtain ⟨_, _, q, _⟩ := q; exact ⟨_, q, rfl⟩
theorem Mz.jG (m : Mz β M H) {a : Addr} {u : HO} (h : H a = some u) (n : nh u = false) : M a = none := by
  cases e : M a with
  | none => rfl
  | some o => obtain ⟨u', q, w⟩ := m.own e; rw [h] at q; cases q; rw [n] at w; cases w
theorem Mz.Jn (m : Mz β M H) {p : Addr} (hp : p ∈ β.tb) : M p = none := let ⟨_, h, _⟩ := m.tabs p hp; m.jG h rfl
theorem Mz.G1 (m : Mz β M H) {p : Addr × Str} (hp : p ∈ β.tb.l) : M p.1 = none := let ⟨_, h, _⟩ := m.lams p hp; m.jG h rfl
theorem Mz.free (m : Mz β M H) {a : Addr} (h : H a = none) : M a = none := by
  cases e : M a with
  | none => rfl
  | some o => obtain ⟨xs, q, _⟩ := m.own e; rw [h] at q; cases q
theorem Mz.fz (m : Mz β M H) {a : Addr} (h : H a = none) : Fz β M a := ⟨m.free h, fun z => by
  obtain ⟨o, e, _⟩ := m.hids a z
  rw [h] at e
  cases e⟩
theorem BJ {p a : Addr} {o : HO} (h : ∃ u, H a = Option.some u) : ∃ u, upd H p o a = Option.some u := by
  unfold upd
  split
  · exact ⟨_, rfl⟩
  · exact h
theorem Ex.lay (m : Mz β M H) {p : Addr} (h : H p = none) (o : HO) : Ex β M H M (upd H p o) := by
  have pre : ∀ b u, H b = some u → upd H p o b = some u := fun b u q => by rw [af (aU q h)]; exact q
  have rz : ∀ {v : V} {d : Dv}, Rz β M H v d → Rz β M (upd H p o) v d := fun r => by
    induction r with
    | int i => exact .int i
    | bl b => exact .bl b
    | aq => exact .aq
    | str z => exact .str z
    | tup m e hl h ih => exact .tup m (pre _ _ e) hl ih
    | lst m e hl h ih => exact .lst m (pre _ _ e) hl ih
    | dk m e hk hl h ih => exact .dk m (e.map fun _ h => pre _ _ h) hk hl ih
    | dt m e hk hl h ih => exact .dt m (e.map fun _ h => pre _ _ h) hk hl ih
    | bC m e m2 e2 hl h ih => exact .bC m (pre _ _ e) m2 (pre _ _ e2) hl ih
    | set m e => exact .set m (pre _ _ e)
    | ptr m => exact .ptr m
    | exc m e => exact .exc m (pre _ _ e)
    | bo m e => exact .bo m (pre _ _ e)
    | cf m e => exact .cf m (pre _ _ e)
    | cg e => exact .cg e
    | raw v => exact .raw v
  refine ⟨⟨fun b u _ q => .inl (pre b u q), fun _ h => h, fun _ _ h _ => h⟩, fun a u e => ?_, fun q hq => ?_, fun a ha => (m.hids a ha).upd (.inl h), m.apart, fun q hq => (m.lams q hq).keep (fun _ e => pre _ _ e) fun _ _ _ e => pre _ _ e⟩
  · have z := m.obj a u e
    cases u with
    | lst ds => obtain ⟨vs, z, l, r⟩ := z; exact ⟨vs, pre _ _ z, l, fun i v d a b => rz (r i v d a b)⟩
    | dk ks ds => obtain ⟨vs, z, hk, l, r⟩ := z; exact ⟨vs, pre _ _ z, hk, l, fun i v d a b => rz (r i v d a b)⟩
    | dt ks ds => obtain ⟨vs, z, hk, l, r⟩ := z; exact ⟨vs, pre _ _ z, hk, l, fun i v d a b => rz (r i v d a b)⟩
    | ck => obtain ⟨c, n, z, r⟩ := z; exact ⟨c, n, pre _ _ z, r⟩
  · obtain ⟨ps, e, t⟩ := m.tabs q hq
    exact ⟨ps, pre _ _ e, t⟩
theorem Ex.grow (m : Mz β M H) {p : Addr} (hp : p ∈ β.tb) {ps : Array Value} (t : TriplesOk ps.toList) : Ex β M H M (upd H p (.cD ps)) := by
  obtain ⟨Ni, Ku, t0⟩ := m.tabs p hp
  have pre : ∀ b u, H b = some u → y4 u = true → upd H p (.cD ps) b = some u := fun b u q n => by
    have : b ≠ p := fun z => by subst z; rw [Ku] at q; cases q; cases n
    rw [af this]; exact q
  have rz : ∀ {v : V} {d : Dv}, Rz β M H v d → Rz β M (upd H p (.cD ps)) v d := fun r => by
    induction r with
    | int i => exact .int i
    | bl b => exact .bl b
    | aq => exact .aq
    | str z => exact .str z
    | tup m e hl h ih => exact .tup m (pre _ _ e rfl) hl ih
    | lst m e hl h ih => exact .lst m (pre _ _ e rfl) hl ih
    | dk m e hk hl h ih => exact .dk m (e.G0 rfl fun x hx h => pre _ _ h hx) hk hl ih
    | dt m e hk hl h ih => exact .dt m (e.G0 rfl fun x hx h => pre _ _ h hx) hk hl ih
    | bC m e m2 e2 hl h ih => exact .bC m (pre _ _ e rfl) m2 (pre _ _ e2 rfl) hl ih
    | set m e => exact .set m (pre _ _ e rfl)
    | ptr m => exact .ptr m
    | exc m e => exact .exc m (pre _ _ e rfl)
    | bo m e => exact .bo m (pre _ _ e rfl)
    | cf m e => exact .cf m (pre _ _ e rfl)
    | cg e => exact .cg e
    | raw v => exact .raw v
  refine ⟨⟨fun b u _ q => ?_, fun _ h => h, fun _ _ h _ => h⟩, fun a u e => ?_, fun q hq => ?_, fun a ha => (m.hids a ha).upd (.inr rfl), m.apart, fun q hq => (m.lams q hq).keep (fun _ e => pre _ _ e rfl) fun _ _ _ e => pre _ _ e rfl⟩
  · by_cases e : b = p
    · subst e
      rw [Ku] at q
      cases q
      exact .inr ⟨_, .inl ⟨Ni, ps, rfl, rfl, t⟩, aD⟩
    · exact .inl (by rw [af e]; exact q)
  · have z := m.obj a u e
    cases u with
    | lst ds => obtain ⟨vs, z, l, r⟩ := z; exact ⟨vs, pre _ _ z rfl, l, fun i v d a b => rz (r i v d a b)⟩
    | dk ks ds => obtain ⟨vs, z, hk, l, r⟩ := z; exact ⟨vs, pre _ _ z rfl, hk, l, fun i v d a b => rz (r i v d a b)⟩
    | dt ks ds => obtain ⟨vs, z, hk, l, r⟩ := z; exact ⟨vs, pre _ _ z rfl, hk, l, fun i v d a b => rz (r i v d a b)⟩
    | ck => obtain ⟨c, n, z, r⟩ := z; exact ⟨c, n, pre _ _ z rfl, r⟩
  · by_cases e : q = p
    · subst e; exact ⟨ps, aD, t⟩
    · obtain ⟨p2, e2, t2⟩ := m.tabs q hq
      exact ⟨p2, by rw [af e]; exact e2, t2⟩
def aw (M : Mh) (a : Addr) (o : Mo) : Mh := fun b => if b = a then Option.some o else M b
theorem updM_same {a : Addr} {o : Mo} : aw M a o a = Option.some o := by unfold aw; rw [if_pos rfl]
theorem ak {a b : Addr} {o : Mo} (h : b ≠ a) : aw M a o b = M b := by unfold aw; rw [if_neg h]
theorem updM_updM {a : Addr} {o u : Mo} : aw (aw M a o) a u = aw M a u := by funext b; unfold aw; split <;> rfl
theorem jH {p : Addr} {o : Mo} {u : HO} (hp : (M p).isSome = true ∨ H p = none) {v : V} {d : Dv} (h : Rz β M H v d) : Rz β (aw M p o) (upd H p u) v d := by
  have ne : ∀ a x, M a = none → H a = Option.some x → a ≠ p := fun a x m e z => by
    subst z
    rcases hp with q | q
    · rw [m] at q; cases q
    · rw [q] at e; cases e
  induction h with
  | int i => exact .int i
  | bl b => exact .bl b
  | aq => exact .aq
  | str z => exact .str z
  | tup m e hl h ih => have n := ne _ _ m.1 e; exact .tup ⟨by rw [ak n]; exact m.1, m.2⟩ (by rw [af n]; exact e) hl ih
  | lst m e hl h ih => have n := ne _ _ m.1 e; exact .lst ⟨by rw [ak n]; exact m.1, m.2⟩ (by rw [af n]; exact e) hl ih
  | dk m e hk hl h ih => have n := ne _ _ m.1 e.there.choose_spec; exact .dk ⟨by rw [ak n]; exact m.1, m.2⟩ (e.map fun _ h => by rw [af n]; exact h) hk hl ih
  | dt m e hk hl h ih => have n := ne _ _ m.1 e.there.choose_spec; exact .dt ⟨by rw [ak n]; exact m.1, m.2⟩ (e.map fun _ h => by rw [af n]; exact h) hk hl ih
  | bC m e m2 e2 hl h ih => have n := ne _ _ m.1 e; have n2 := ne _ _ m2.1 e2; exact .bC ⟨by rw [ak n]; exact m.1, m.2⟩ (by rw [af n]; exact e) ⟨by rw [ak n2]; exact m2.1, m2.2⟩ (by rw [af n2]; exact e2) hl ih
  | set m e => have n := ne _ _ m.1 e; exact .set ⟨by rw [ak n]; exact m.1, m.2⟩ (by rw [af n]; exact e)
  | ptr m =>
    refine .ptr ?_
    unfold aw
    split
    · rfl
    · exact m
  | exc m e => have n := ne _ _ m.1 e; exact .exc ⟨by rw [ak n]; exact m.1, m.2⟩ (by rw [af n]; exact e)
  | bo m e => have n := ne _ _ m.1 e; exact .bo ⟨by rw [ak n]; exact m.1, m.2⟩ (by rw [af n]; exact e)
  | cf m e => have n := ne _ _ m.1 e; exact .cf ⟨by rw [ak n]; exact m.1, m.2⟩ (by rw [af n]; exact e)
  | cg e => exact .cg e
  | raw v => exact .raw v
theorem g9.upd {p : Addr} {o' : Mo} {u : HO} (hp : (M p).isSome = true ∨ H p = none) {a : Addr} {o : Mo} (ha : a ≠ p) (z : g9 β M H a o) : g9 β (aw M p o') (L2.upd H p u) a o := by
  cases o with
  | lst ds => obtain ⟨vs, z, l, r⟩ := z; exact ⟨vs, by rw [af ha]; exact z, l, fun i v d a b => jH hp (r i v d a b)⟩
  | dk ks ds => obtain ⟨vs, z, hk, l, r⟩ := z; exact ⟨vs, by rw [af ha]; exact z, hk, l, fun i v d a b => jH hp (r i v d a b)⟩
  | dt ks ds => obtain ⟨vs, z, hk, l, r⟩ := z; exact ⟨vs, by rw [af ha]; exact z, hk, l, fun i v d a b => jH hp (r i v d a b)⟩
  | ck => obtain ⟨c, n, z, r⟩ := z; exact ⟨c, n, by rw [af ha]; exact z, r⟩
theorem Ex.nh (m : Mz β M H) {p : Addr} {u : HO} {o' : Mo} (hp : (M p).isSome = true ∨ H p = none) (hu : la u = true) (r : g9 β (aw M p o') (upd H p u) p o') : Ex β M H (aw M p o') (upd H p u) := by
  have ne : ∀ a x, M a = none → H a = Option.some x → a ≠ p := fun a x m e z => by
    subst z
    rcases hp with q | q
    · rw [m] at q; cases q
    · rw [q] at e; cases e
  refine ⟨⟨fun b u hm q => .inl ?_, fun a h => ?_, fun a o hm h => ?_⟩, fun a o e => ?_, fun q hq => ?_, fun a ha => (m.hids a ha).upd (.inr hu), fun a o e z => ?_, fun q hq => ?_⟩
  · rw [af (ne b _ hm q)]; exact q
  · unfold aw
    split
    · rfl
    · exact h
  · rw [ak (ne a _ hm h)]; exact hm
  · by_cases ha : a = p
    · subst ha
      rw [updM_same] at e
      cases e
      exact r
    · rw [ak ha] at e
      exact (m.obj a o e).upd hp ha
  · obtain ⟨ps, e, t⟩ := m.tabs q hq
    exact ⟨ps, by rw [af (ne q _ (m.Jn hq) e)]; exact e, t⟩
  · by_cases ha : a = p
    · subst ha
      rcases hp with h | h
      · cases q : M a with
        | none => rw [q] at h; cases h
        | some u => exact m.apart a u q z
      · obtain ⟨u, hu, _⟩ := m.hids a z
        rw [h] at hu
        cases hu
    · rw [ak ha] at e
      exact m.apart a o e z
  · exact (m.lams q hq).keep (fun _ e => by rw [af (ne q.1 _ (m.G1 hq) e)]; exact e) fun c _ _ e => by rw [af (ne c _ (m.jG e rfl) e)]; exact e
theorem Ex.own (m : Mz β M H) {p : Addr} {vs : List V} {ds : List Dv} (hp : (M p).isSome = true ∨ H p = none) (r : aG β M H vs ds) : Ex β M H (aw M p (.lst ds)) (upd H p (.lst vs)) :=
  Ex.nh m hp rfl ⟨vs, aD, r.len, fun i v d a b => jH hp (r.at' i v d a b)⟩
theorem Ex.LR (m : Mz β M H) {p : Addr} {ks : List Key} {vs : List V} {ds : List Dv} (hp : (M p).isSome = true ∨ H p = none) (hk : ks.length = vs.length) (r : aG β M H vs ds) : Ex β M H (aw M p (.dk ks ds)) (upd H p (.dK (ks.zip vs))) :=
  Ex.nh m hp rfl ⟨vs, aD, hk, r.len, fun i v d a b => jH hp (r.at' i v d a b)⟩
theorem Ex.LU (m : Mz β M H) {p : Addr} {ks : List (List Key)} {vs : List V} {ds : List Dv} (hp : (M p).isSome = true ∨ H p = none) (hk : ks.length = vs.length) (r : aG β M H vs ds) : Ex β M H (aw M p (.dt ks ds)) (upd H p (.dT (ks.zip vs))) :=
  Ex.nh m hp rfl ⟨vs, aD, hk, r.len, fun i v d a b => jH hp (r.at' i v d a b)⟩
abbrev Bz.add (β : Bz) (D : Addr) : Bz := { β with hid := D :: β.hid }
theorem Rz.enter {D : Addr} {o : HO} (hD : H D = none) {v : V} {d : Dv} (h : Rz β M H v d) : Rz (β.add D) M (upd H D o) v d := by
  have ne : ∀ a x, Fz β M a → H a = some x → Fz (β.add D) M a := fun a x m e => ⟨m.1, by
    intro z
    rcases List.mem_cons.mp z with z | z
    · subst z; rw [hD] at e; cases e
    · exact m.2 z⟩
  have pre : ∀ a x, H a = some x → upd H D o a = some x := fun a x e => by rw [af (aU e hD)]; exact e
  induction h with
  | int i => exact .int i
  | bl b => exact .bl b
  | aq => exact .aq
  | str z => exact .str z
  | tup m e hl h ih => exact .tup (ne _ _ m e) (pre _ _ e) hl ih
  | lst m e hl h ih => exact .lst (ne _ _ m e) (pre _ _ e) hl ih
  | dk m e hk hl h ih => exact .dk (ne _ _ m e.there.choose_spec) (e.map fun _ h => pre _ _ h) hk hl ih
  | dt m e hk hl h ih => exact .dt (ne _ _ m e.there.choose_spec) (e.map fun _ h => pre _ _ h) hk hl ih
  | bC m e m2 e2 hl h ih => exact .bC (ne _ _ m e) (pre _ _ e) (ne _ _ m2 e2) (pre _ _ e2) hl ih
  | set m e => exact .set (ne _ _ m e) (pre _ _ e)
  | ptr m => exact .ptr m
  | exc m e => exact .exc (ne _ _ m e) (pre _ _ e)
  | bo m e => exact .bo (ne _ _ m e) (pre _ _ e)
  | cf m e => exact .cf (ne _ _ m e) (pre _ _ e)
  | cg e => exact .cg e
  | raw v => exact .raw v
theorem Rz.sub {cu : Bz} (hP : cu.P = β.P) (hw : cu.w = β.w) (hK : cu.K = β.K) (hs : ∀ a, a ∈ cu.hid → a ∈ β.hid) {v : V} {d : Dv} (h : Rz β M H v d) : Rz cu M H v d := by
  have ne : ∀ a, Fz β M a → Fz cu M a := fun a m => ⟨m.1, fun z => m.2 (hs a z)⟩
  induction h with
  | int i => exact .int i
  | bl b => exact .bl b
  | aq => exact .aq
  | str z => exact .str z
  | tup m e hl h ih => exact .tup (ne _ m) e hl ih
  | lst m e hl h ih => exact .lst (ne _ m) e hl ih
  | dk m e hk hl h ih => exact .dk (ne _ m) e hk hl ih
  | dt m e hk hl h ih => exact .dt (ne _ m) e hk hl ih
  | bC m e m2 e2 hl h ih => exact .bC (ne _ m) e (ne _ m2) e2 hl ih
  | set m e => exact .set (ne _ m) (by rw [hP, hw]; exact e)
  | ptr m => exact .ptr m
  | exc m e => exact .exc (ne _ m) e
  | bo m e => exact .bo (ne _ m) e
  | cf m e => exact .cf (ne _ m) e
  | cg e => exact .cg (by rw [hK]; exact e)
  | raw v => exact .raw v
theorem Mz.sub {cu : Bz} (hP : cu.P = β.P) (hw : cu.w = β.w) (hK : cu.K = β.K) (ht : cu.tb = β.tb) (hs : ∀ a, a ∈ cu.hid → a ∈ β.hid) (m : Mz β M H) : Mz cu M H := ⟨fun a o e => by
  have z := m.obj a o e
  cases o with
  | lst ds => obtain ⟨vs, z, l, r⟩ := z; exact ⟨vs, z, l, fun i v d a b => (r i v d a b).sub hP hw hK hs⟩
  | dk ks ds => obtain ⟨vs, z, hk, l, r⟩ := z; exact ⟨vs, z, hk, l, fun i v d a b => (r i v d a b).sub hP hw hK hs⟩
  | dt ks ds => obtain ⟨vs, z, hk, l, r⟩ := z; exact ⟨vs, z, hk, l, fun i v d a b => (r i v d a b).sub hP hw hK hs⟩
  | ck => exact z, by rw [ht]; exact m.tabs, fun a ha => m.hids a (hs a ha), fun a o e z => m.apart a o e (hs a z), by rw [ht]; exact m.lams⟩
theorem Mz.enter {D : Addr} {o : HO} (hD : H D = none) (ho : la o = true) (m : Mz β M H) : Mz (β.add D) M (upd H D o) := ⟨fun a u e => by
  have pre : ∀ a x, H a = Option.some x → upd H D o a = Option.some x := fun a x e => by rw [af (aU e hD)]; exact e
  have z := m.obj a u e
  cases u with
  | lst ds => obtain ⟨vs, z, l, r⟩ := z; exact ⟨vs, pre _ _ z, l, fun i v d a b => (r i v d a b).enter hD⟩
  | dk ks ds => obtain ⟨vs, z, hk, l, r⟩ := z; exact ⟨vs, pre _ _ z, hk, l, fun i v d a b => (r i v d a b).enter hD⟩
  | dt ks ds => obtain ⟨vs, z, hk, l, r⟩ := z; exact ⟨vs, pre _ _ z, hk, l, fun i v d a b => (r i v d a b).enter hD⟩
  | ck => obtain ⟨c, n, z, r⟩ := z; exact ⟨c, n, pre _ _ z, r⟩, fun p hp => by
  obtain ⟨ps, e, t⟩ := m.tabs p hp
  exact ⟨ps, by rw [af (aU e hD)]; exact e, t⟩, fun a ha => by
  rcases List.mem_cons.mp ha with z | z
  · subst z; exact ⟨_, aD, ho⟩
  · exact (m.hids a z).upd (.inl hD), fun a o e ha => by
  rcases List.mem_cons.mp ha with z | z
  · subst z; rw [m.free hD] at e; cases e
  · exact m.apart a o e z, fun q hq => (m.lams q hq).keep (fun _ e => by rw [af (aU e hD)]; exact e) fun _ _ _ e => by rw [af (aU e hD)]; exact e⟩
theorem Rz.over {D : Addr} {o : HO} (hD : D ∈ β.hid) {v : V} {d : Dv} (h : Rz β M H v d) : Rz β M (upd H D o) v d := by
  have pre : ∀ a x, Fz β M a → H a = some x → upd H D o a = some x := fun a x m e => by
    have n : a ≠ D := fun z => by subst z; exact m.2 hD
    rw [af n]; exact e
  induction h with
  | int i => exact .int i
  | bl b => exact .bl b
  | aq => exact .aq
  | str z => exact .str z
  | tup m e hl h ih => exact .tup m (pre _ _ m e) hl ih
  | lst m e hl h ih => exact .lst m (pre _ _ m e) hl ih
  | dk m e hk hl h ih => exact .dk m (e.map fun _ h => pre _ _ m h) hk hl ih
  | dt m e hk hl h ih => exact .dt m (e.map fun _ h => pre _ _ m h) hk hl ih
  | bC m e m2 e2 hl h ih => exact .bC m (pre _ _ m e) m2 (pre _ _ m2 e2) hl ih
  | set m e => exact .set m (pre _ _ m e)
  | ptr m => exact .ptr m
  | exc m e => exact .exc m (pre _ _ m e)
  | bo m e => exact .bo m (pre _ _ m e)
  | cf m e => exact .cf m (pre _ _ m e)
  | cg e => exact .cg e
  | raw v => exact .raw v
theorem Mz.over {D : Addr} {o : HO} (hD : D ∈ β.hid) (ho : la o = true) (hM : M D = none) (ht : D ∉ β.tb) (m : Mz β M H) : Mz β M (upd H D o) := ⟨fun a u e => by
  have na : a ≠ D := fun z => by subst z; rw [hM] at e; cases e
  have z := m.obj a u e
  cases u with
  | lst ds => obtain ⟨vs, z, l, r⟩ := z; exact ⟨vs, by rw [af na]; exact z, l, fun i v d a b => (r i v d a b).over hD⟩
  | dk ks ds => obtain ⟨vs, z, hk, l, r⟩ := z; exact ⟨vs, by rw [af na]; exact z, hk, l, fun i v d a b => (r i v d a b).over hD⟩
  | dt ks ds => obtain ⟨vs, z, hk, l, r⟩ := z; exact ⟨vs, by rw [af na]; exact z, hk, l, fun i v d a b => (r i v d a b).over hD⟩
  | ck => obtain ⟨c, n, z, r⟩ := z; exact ⟨c, n, by rw [af na]; exact z, r⟩, fun p hp => by
  obtain ⟨ps, e, t⟩ := m.tabs p hp
  have n : p ≠ D := fun z => by subst z; exact ht hp
  exact ⟨ps, by rw [af n]; exact e, t⟩, fun a ha => (m.hids a ha).upd (.inr ho), m.apart, fun q hq => by
  obtain ⟨o', e', n⟩ := m.hids D hD
  exact (m.lams q hq).keep (fun _ e => by rw [af (fun z => by subst z; rw [e'] at e; cases e; cases n)]; exact e) fun c _ _ e => by rw [af (fun z => by subst z; rw [e'] at e; cases e; cases n)]; exact e⟩
theorem Ey.over {D : Addr} {o : HO} (x : Ey M H M1 H1) (hD : H D = none) : Ey M H M1 (upd H1 D o) := ⟨fun b u m h => by
  have nb : b ≠ D := aU h hD
  rw [af nb]
  exact x.keep b u m h, x.dom, x.new⟩
theorem Mz.BK {D : Addr} (m : Mz β M H) (hD : H D = none) : D ∉ β.tb := fun z => by
  obtain ⟨_, e, _⟩ := m.tabs D z
  rw [hD] at e
  cases e
structure Bx (β cu : Bz) (H : Hp) : Prop where
  P : cu.P = β.P
  w : cu.w = β.w
  K : cu.K = β.K
  tb : cu.tb = β.tb
  old : ∀ a, a ∈ β.hid → a ∈ cu.hid
  new : ∀ a, a ∈ cu.hid → a ∈ β.hid ∨ H a = none
theorem Bx.refl : Bx β β H := ⟨rfl, rfl, rfl, rfl, fun _ h => h, fun _ h => .inl h⟩
theorem Bx.add {D : Addr} (hD : H D = none) : Bx β (β.add D) H := ⟨rfl, rfl, rfl, rfl, fun _ h => List.mem_cons_of_mem _ h, fun a h => by
  rcases List.mem_cons.mp h with z | z
  · exact .inr (z ▸ hD)
  · exact .inl z⟩
theorem Rz.bx {cu : Bz} (b : Bx β cu H) {v : V} {d : Dv} (h : Rz β M H v d) : Rz cu M H v d := by
  have ne : ∀ a x, Fz β M a → H a = some x → Fz cu M a := fun a x m e => ⟨m.1, fun z => by
    rcases b.new a z with q | q
    · exact m.2 q
    · rw [q] at e; cases e⟩
  induction h with
  | int i => exact .int i
  | bl b => exact .bl b
  | aq => exact .aq
  | str z => exact .str z
  | tup m e hl h ih => exact .tup (ne _ _ m e) e hl ih
  | lst m e hl h ih => exact .lst (ne _ _ m e) e hl ih
  | dk m e hk hl h ih => exact .dk (ne _ _ m e.there.choose_spec) e hk hl ih
  | dt m e hk hl h ih => exact .dt (ne _ _ m e.there.choose_spec) e hk hl ih
  | bC m e m2 e2 hl h ih => exact .bC (ne _ _ m e) e (ne _ _ m2 e2) e2 hl ih
  | set m e => exact .set (ne _ _ m e) (by rw [b.P, b.w]; exact e)
  | ptr m => exact .ptr m
  | exc m e => exact .exc (ne _ _ m e) e
  | bo m e => exact .bo (ne _ _ m e) e
  | cf m e => exact .cf (ne _ _ m e) e
  | cg e => exact .cg (by rw [b.K]; exact e)
  | raw v => exact .raw v
end
inductive Pin (M : Mh) : Dv → Prop where
  | int (i : Int) : Pin M (.int i)
  | bl (b : Bool) : Pin M (.bl b)
  | aq : Pin M .aq
  | str (z : Str) : Pin M (.str z)
  | tup {ds : List Dv} (h : ∀ d ∈ ds, Pin M d) : Pin M (.tup ds)
  | lst {ds : List Dv} (h : ∀ d ∈ ds, Pin M d) : Pin M (.lst ds)
  | set (ns : List Int) : Pin M (.set ns)
  | ptr {a : Addr} (h : (M a).isSome = true) : Pin M (.ptr a)
  | exc (C : Addr) : Pin M (.exc C)
  | bo (ns : List Int) : Pin M (.bo ns)
  | raw (v : V) : Pin M (.raw v)
  | dk {ks : List Key} {ds : List Dv} (h : ∀ d ∈ ds, Pin M d) : Pin M (.dk ks ds)
  | dt {ks : List (List Key)} {ds : List Dv} (h : ∀ d ∈ ds, Pin M d) : Pin M (.dt ks ds)
  | bC {f c : Addr} {o oc : Obj} {vs : List V} {ds : List Dv} (h : ∀ d ∈ ds, Pin M d) : Pin M (.bC f o c oc vs ds)
theorem Rz.pin {β : Bz} {M : Mh} {H : Hp} {v : V} {d : Dv} (h : Rz β M H v d) : Pin M d := by
  induction h with
  | int i => exact .int i
  | bl b => exact .bl b
  | aq => exact .aq
  | str z => exact .str z
  | tup m e hl h ih =>
    refine .tup fun d hd => ?_
    obtain ⟨i, hi⟩ := List.mem_iff_getElem?.mp hd
    have h1 := (List.getElem?_eq_some_iff.mp hi).1
    exact ih i _ d (List.getElem?_eq_getElem (by omega)) hi
  | lst m e hl h ih =>
    refine .lst fun d hd => ?_
    obtain ⟨i, hi⟩ := List.mem_iff_getElem?.mp hd
    have h1 := (List.getElem?_eq_some_iff.mp hi).1
    exact ih i _ d (List.getElem?_eq_getElem (by omega)) hi
  | dk m e hk hl h ih =>
    refine .dk fun d hd => ?_
    obtain ⟨i, hi⟩ := List.mem_iff_getElem?.mp hd
    have h1 := (List.getElem?_eq_some_iff.mp hi).1
    exact ih i _ d (List.getElem?_eq_getElem (by omega)) hi
  | dt m e hk hl h ih =>
    refine .dt fun d hd => ?_
    obtain ⟨i, hi⟩ := List.mem_iff_getElem?.mp hd
    have h1 := (List.getElem?_eq_some_iff.mp hi).1
    exact ih i _ d (List.getElem?_eq_getElem (by omega)) hi
  | bC m e m2 e2 hl h ih =>
    refine .bC fun d hd => ?_
    obtain ⟨i, hi⟩ := List.mem_iff_getElem?.mp hd
    have h1 := (List.getElem?_eq_some_iff.mp hi).1
    exact ih i _ d (List.getElem?_eq_getElem (by omega)) hi
  | set m e => exact .set _
  | ptr m => exact .ptr m
  | exc m e => exact .exc _
  | bo m e => exact .bo _
  | cf m e => exact .bo _
  | cg e => exact .bo _
  | raw v => exact .raw v
def Mo.items : Mo → List Dv
  | .lst ds => ds
  | .dk _ ds => ds
  | .dt _ ds => ds
  | .ck => []
def Wf (M : Mh) : Prop := ∀ b o, M b = some o → ∀ d ∈ o.items, Pin M d
theorem g9.Nj {β : Bz} {M : Mh} {H : Hp} {a : Addr} {o : Mo} (h : g9 β M H a o) : ∃ vs, aG β M H vs o.items := by
  cases o with
  | lst ds => obtain ⟨vs, _, rs⟩ := h; exact ⟨vs, rs⟩
  | dk ks ds => obtain ⟨vs, _, _, rs⟩ := h; exact ⟨vs, rs⟩
  | dt ks ds => obtain ⟨vs, _, _, rs⟩ := h; exact ⟨vs, rs⟩
  | ck => exact ⟨[], .nil⟩
theorem Mz.wf {β : Bz} {M : Mh} {H : Hp} (m : Mz β M H) : Wf M := fun b o e d hd => by
  obtain ⟨vs, rs⟩ := (m.obj b _ e).Nj
  obtain ⟨i, hi⟩ := List.mem_iff_getElem?.mp hd
  obtain ⟨v, _, r⟩ := rs.get hi
  exact r.pin
abbrev aA := List (Option Dv)
abbrev ZK := Dv → Mh → Prop
abbrev aI := aA → Mh → ZK → Prop
abbrev cP := aA → Mh → (Bool → Mh → Prop) → Prop
abbrev eA := aA → Mh → (List Dv → Mh → Prop) → Prop
structure gh where
  nx : aA → Mh → Prop
  rt : ZK
  bk : aA → Mh → Prop := fun _ _ => False
  ct : aA → Mh → Prop := fun _ _ => False
abbrev cw := gh → aA → Mh → Prop
abbrev cx := Dv → aA → Mh → (aA → Mh → Prop) → Prop
abbrev lb := List Dv → aA → Mh → (aA → Mh → Prop) → Prop
abbrev d7 := aA → Mh → (List Dv → Mh → Prop) → Prop
structure Gz extends Bz where
  M0 : Mh
  H0 : Hp
structure Zr (Γ : Gz) (β : Bz) (M : Mh) (ρ : aA) (σ : St) (H : Hp) : Prop where
  eP : β.P = Γ.P
  ew : β.w = Γ.w
  eK : β.K = Γ.K
  et : β.tb = Γ.tb
  sub : ∀ a, a ∈ Γ.hid → a ∈ β.hid
  wf : Wf Γ.M0
  ent : Ey Γ.M0 Γ.H0 M H
  mz : Mz β M H
  len : ρ.length = σ.length
  at' : ∀ (i : Nat) (d : Dv), ρ[i]? = some (some d) → ∃ v, σ[i]? = some (some v) ∧ Rz β M H v d
section
variable {Γ : Gz} {β : Bz} {M M' : Mh} {ρ : aA} {σ : St} {H H' : Hp}
theorem Zr.step (z : Zr Γ β M ρ σ H) (x : Ex β M H M' H') : Zr Γ β M' ρ σ H' := ⟨z.eP, z.ew, z.eK, z.et, z.sub, z.wf, z.ent.trans x.toEy, x.mz, z.len, fun i d e => let ⟨v, h, r⟩ := z.at' i d e; ⟨v, h, r.ex x⟩⟩
theorem Zr.set (z : Zr Γ β M ρ σ H) (i : Nat) {v : V} {d : Dv} (r : Rz β M H v d) : Zr Γ β M (ρ.set i (some d)) (σ.set i (some v)) H := ⟨z.eP, z.ew, z.eK, z.et, z.sub, z.wf, z.ent, z.mz, by simp [z.len], fun j e h => by
  rw [List.getElem?_set] at h ⊢
  rw [z.len] at h
  split at h
  · rename_i q
    rw [if_pos q]
    split at h
    · rename_i q2
      rw [if_pos q2]
      cases h
      exact ⟨v, rfl, r⟩
    · cases h
  · rename_i q
    rw [if_neg q]
    exact z.at' j e h⟩
end
def lE (Γ : Gz) (p : aI) : TE := fun σ H Q => ∃ (β : Bz) (ρ : aA) (M : Mh) (Q' : ZK), Zr Γ β M ρ σ H ∧ p ρ M Q' ∧ ∀ d M' v H', Ex β M H M' H' → Rz β M' H' v d → Q' d M' → Q v H'
def lT (Γ : Gz) (p : cP) : TT := fun σ H Q => ∃ (β : Bz) (ρ : aA) (M : Mh) (Q' : Bool → Mh → Prop), Zr Γ β M ρ σ H ∧ p ρ M Q' ∧ ∀ b M' H', Ex β M H M' H' → Q' b M' → Q b H'
def lA (Γ : Gz) (p : eA) : TA := fun σ H Q => ∃ (β : Bz) (ρ : aA) (M : Mh) (Q' : List Dv → Mh → Prop), Zr Γ β M ρ σ H ∧ p ρ M Q' ∧ ∀ ds M' vs H', Ex β M H M' H' → aG β M' H' vs ds → Q' ds M' → Q vs H'
structure Ev (β : Bz) (M : Mh) (H : Hp) (M' : Mh) (H' : Hp) : Prop where
  keep : ∀ b o, M b = none → H b = some o → H' b = some o ∨ ∃ o', Tg o o' ∧ H' b = some o'
  new : ∀ a o, M a = none → H a = some o → M' a = none
  mz : Mz β M' H'
theorem Ex.ev {β : Bz} {M M' : Mh} {H H' : Hp} (x : Ex β M H M' H') : Ev β M H M' H' := ⟨x.keep, x.new, x.mz⟩
theorem Ev.refl {β : Bz} {M : Mh} {H : Hp} (m : Mz β M H) : Ev β M H M H := (Ex.refl m).ev
theorem Ev.trans {β : Bz} {M M1 M2 : Mh} {H H1 H2 : Hp} (x : Ev β M H M1 H1) (y : Ev β M1 H1 M2 H2) : Ev β M H M2 H2 := by
  refine ⟨fun b o hm h => ?_, fun a o hm h => ?_, y.mz⟩
  · have jD := x.new b o hm h
    rcases x.keep b o hm h with q | ⟨o1, t, q⟩
    · exact y.keep b o jD q
    · rcases y.keep b _ jD q with q2 | ⟨o2, t2, q2⟩
      · exact .inr ⟨o1, t, q2⟩
      · exact .inr ⟨o2, t.trans t2, q2⟩
  · have jD := x.new a o hm h
    rcases x.keep a o hm h with q | ⟨o1, t, q⟩
    · exact y.new a _ jD q
    · exact y.new a _ jD q
structure wM (Γ : Gz) (β : Bz) (M : Mh) (H : Hp) (D' : gh) (D : Ends) : Prop where
  nx : ∀ bD M' aH H', Ev β M H M' H' → Zr Γ β M' bD aH H' → D'.nx bD M' → D.nx aH H'
  rt : ∀ d M' v H', Ev β M H M' H' → Ey Γ.M0 Γ.H0 M' H' → Rz β M' H' v d → D'.rt d M' → D.rt v H'
  bk : ∀ bD M' aH H', Ev β M H M' H' → Zr Γ β M' bD aH H' → D'.bk bD M' → D.bk aH H'
  ct : ∀ bD M' aH H', Ev β M H M' H' → Zr Γ β M' bD aH H' → D'.ct bD M' → D.ct aH H'
theorem wM.step {Γ : Gz} {β : Bz} {M M1 : Mh} {H H1 : Hp} {D' : gh} {D : Ends} (r : wM Γ β M H D' D) (x : Ev β M H M1 H1) : wM Γ β M1 H1 D' D :=
  ⟨fun a b c d y => r.nx a b c d (x.trans y), fun a b c d y => r.rt a b c d (x.trans y), fun a b c d y => r.bk a b c d (x.trans y), fun a b c d y => r.ct a b c d (x.trans y)⟩
def lS (Γ : Gz) (p : cw) : TS := fun D σ H => ∃ (β : Bz) (ρ : aA) (M : Mh) (D' : gh), Zr Γ β M ρ σ H ∧ p D' ρ M ∧ wM Γ β M H D' D
def lG (Γ : Gz) (p : cx) : TG := fun x σ H N => ∃ (β : Bz) (d : Dv) (ρ : aA) (M : Mh) (N' : aA → Mh → Prop), Zr Γ β M ρ σ H ∧ Rz β M H x d ∧ p d ρ M N' ∧ ∀ bD M' aH H', Ex β M H M' H' → Zr Γ β M' bD aH H' → N' bD M' → N aH H'
def Nk (Γ : Gz) (p : lb) : nK := fun xs σ H N => ∃ (β : Bz) (ds : List Dv) (ρ : aA) (M : Mh) (N' : aA → Mh → Prop), Zr Γ β M ρ σ H ∧ aG β M H xs ds ∧ p ds ρ M N' ∧ ∀ bD M' aH H', Ex β M H M' H' → Zr Γ β M' bD aH H' → N' bD M' → N aH H'
def y9 (β : Bz) (J : It) (ds : List Dv) (M : Mh) (H : Hp) : Prop := ∀ cu M' H', Bx β cu H → Ey M H M' H' → Mz cu M' H' → ∀ i, (i < ds.length → J.go i H' ∧ ∀ x jI, J.yld i H' x jI → Ex cu M' H' M' jI ∧ ∃ d, ds[i]? = some d ∧ Rz cu M' jI x d) ∧ (ds.length ≤ i → J.stop i H')
def lI (Γ : Gz) (p : d7) : TI := fun σ H R => ∃ (β : Bz) (ρ : aA) (M : Mh) (R' : List Dv → Mh → Prop), Zr Γ β M ρ σ H ∧ p ρ M R' ∧ ∀ ds M' H' J, Ex β M H M' H' → y9 β J ds M' H' → R' ds M' → R J H'
abbrev QE (Γ : Gz) (X : Cx) (e : Expr) (p : aI) : Prop := PE X e (lE Γ p)
abbrev QT (Γ : Gz) (X : Cx) (e : Expr) (p : cP) : Prop := PT X e (lT Γ p)
abbrev QW (Γ : Gz) (X : Cx) (e : Expr) (p : cP) : Prop := PW X e (lT Γ p)
abbrev QA (Γ : Gz) (X : Cx) (es : List Expr) (p : eA) : Prop := PA X es (lA Γ p)
abbrev QS (Γ : Gz) (X : Cx) (s : Stmt) (p : cw) : Prop := PS X s (lS Γ p)
abbrev kn (Γ : Gz) (X : Cx) (s : List Stmt) (p : cw) : Prop := fK X s (lS Γ p)
abbrev QG (Γ : Gz) (X : Cx) (e : Expr) (p : cx) : Prop := PG X e (lG Γ p)
abbrev C4 (Γ : Gz) (X : Cx) (e : List Expr) (p : lb) : Prop := pY X e (Nk Γ p)
abbrev QI (Γ : Gz) (X : Cx) (tg e : Expr) (p : d7) : Prop := PI X tg e (lI Γ p)
section
variable {X : Cx}
theorem PE.imp {e : Expr} {t t' : TE} (h : PE X e t) (i : ∀ σ H Q, t' σ H Q → t σ H Q) : PE X e t' := ⟨fun pins s σ H Q I q => h pins s σ H Q I (i _ _ _ q)⟩
theorem PT.imp {e : Expr} {t t' : TT} (h : PT X e t) (i : ∀ σ H Q, t' σ H Q → t σ H Q) : PT X e t' := ⟨fun pins s σ H Q I q => h pins s σ H Q I (i _ _ _ q)⟩
theorem PW.imp {e : Expr} {t t' : TT} (h : PW X e t) (i : ∀ σ H Q, t' σ H Q → t σ H Q) : PW X e t' := fun wh pins s σ H Q I q => h wh pins s σ H Q I (i _ _ _ q)
theorem PA.imp {e : List Expr} {t t' : TA} (h : PA X e t) (i : ∀ σ H Q, t' σ H Q → t σ H Q) : PA X e t' := ⟨fun pos pins s σ H Q I q => h pos pins s σ H Q I (i _ _ _ q)⟩
theorem PS.imp {e : Stmt} {t t' : TS} (h : PS X e t) (i : ∀ D σ H, t' D σ H → t D σ H) : PS X e t' := ⟨fun pins s σ H D I q => h pins s σ H D I (i _ _ _ q)⟩
theorem fK.imp {e : List Stmt} {t t' : TS} (h : fK X e t) (i : ∀ D σ H, t' D σ H → t D σ H) : fK X e t' := ⟨fun pins s σ H D I q => h pins s σ H D I (i _ _ _ q)⟩
theorem PG.imp {e : Expr} {t t' : TG} (h : PG X e t) (i : ∀ v σ H Q, t' v σ H Q → t v σ H Q) : PG X e t' := fun pins s σ H v u Q I r q => h pins s σ H v u Q I r (i _ _ _ _ q)
theorem pY.imp {e : List Expr} {t t' : nK} (h : pY X e t) (i : ∀ v σ H Q, t' v σ H Q → t v σ H Q) : pY X e t' := fun pins s σ H v u Q I r q => h pins s σ H v u Q I r (i _ _ _ _ q)
theorem PI.imp {tg e : Expr} {t t' : TI} (h : PI X tg e t) (i : ∀ σ H Q, t' σ H Q → t σ H Q) : PI X tg e t' := fun pins s σ H Q I q => h pins s σ H Q I (i _ _ _ q)
theorem iO.imp {e : List Expr} {t t' : TT} (h : iO X e t) (i : ∀ σ H Q, t' σ H Q → t σ H Q) : iO X e t' := fun pins s σ H Q I q => h pins s σ H Q I (i _ _ _ q)
variable {Γ : Gz} {a b c : Expr} {pa pb pc : aI} {pos : Pos}
def zVar (i : Nat) : aI := fun ρ M Q => match ρ[i]? with | some (some d) => Q d M | _ => False
def zC (d : Dv) : aI := fun _ M Q => Q d M
theorem G2 {i : Nat} {x : Str} (hN : X.N[i]? = some x) (hv : mD X.env.scope x) (hd : (x == ("__debug__" : Str)) = false := by decide) (dD : (x == ("__classdict__" : Str)) = false := by decide) : QE Γ X (.Name x pos) (zVar i) :=
  (sg hN hv hd dD).imp fun σ H Q ⟨β, ρ, M, Q', z, h, q⟩ => by
    unfold zVar at h
    split at h
    · rename_i d e
      obtain ⟨v, e2, r⟩ := z.at' i d e
      exact ⟨v, e2, q d M v H (.refl z.mz) r h⟩
    · exact h.elim
theorem qc {e : Expr} {v : V} {d : Dv} (h : PE X e (tC v)) (r : ∀ β M H, Rz β M H v d) : QE Γ X e (zC d) := h.imp fun σ H Q ⟨β, ρ, M, Q', z, h, q⟩ => q d M v H (.refl z.mz) (r β M H) h
theorem ay {i j pos} : QE Γ X (.Constant (.int i) j pos) (zC (.int i)) := qc Fb fun _ _ _ => .int _
theorem gm {b j pos} : QE Γ X (.Constant (.bool b) j pos) (zC (.bl b)) := qc IB fun _ _ _ => .bl _
theorem om {j pos} : QE Γ X (.Constant .none j pos) (zC .aq) := qc Fc fun _ _ _ => .aq
theorem oo {x j pos} : QE Γ X (.Constant (.str x) j pos) (zC (.str x)) := qc Fd fun _ _ _ => .str _
theorem BL {x : Str} {i : Int} {u : Value} (hg : Gl X x) (hm : X.mg x = some u) (r : RelV (.int i) u) (hd : (x == ("__debug__" : Str)) = false := by decide) : QE Γ X (.Name x pos) (zC (.int i)) := qc (u0 hg hm r hd) fun _ _ _ => .int _
theorem BM {x z : Str} {u : Value} (hg : Gl X x) (hm : X.mg x = some u) (r : RelV (.str z) u) (hd : (x == ("__debug__" : Str)) = false := by decide) : QE Γ X (.Name x pos) (zC (.str z)) := qc (u0 hg hm r hd) fun _ _ _ => .str _
theorem aY {x : Str} {v : V} {u : Value} (hg : Gl X x) (hm : X.mg x = none) (hv : bootBuiltins x = some u) (r : RelV v u) (hn : x ≠ "__name__" := by decide) (hd : (x == ("__debug__" : Str)) = false := by decide) : QE Γ X (.Name x pos) (zC (.raw v)) := qc (DI hg hm hv r hn hd) fun _ _ _ => .raw _
abbrev d8 := Dv → Dv → Mh → ZK → Prop
def oq (Γ : Gz) (r : R2) (z : d8) : Prop := ∀ (β : Bz) x y d e M H Q Q', β.P = Γ.P → β.w = Γ.w → β.K = Γ.K → Mz β M H → Rz β M H x d → Rz β M H y e → z d e M Q' → (∀ d' M' v H', Ex β M H M' H' → Rz β M' H' v d' → Q' d' M' → Q v H') → r x y H Q
def eJ (Γ : Gz) (X : Cx) (f : Value → Value → Sem Value) (z : d8) : Prop := ∃ r, OpR X f r ∧ oq Γ r z
def zOp (z : d8) (pa pb : aI) : aI := fun ρ M Q => pa ρ M fun d M1 => pb ρ M1 fun e M2 => z d e M2 Q
theorem wN {r : R2} {z : d8} (hz : oq Γ r z) {σ : St} {H : Hp} {Q : VK} (h : lE Γ (zOp z pa pb) σ H Q) : xR r (lE Γ pa) (lE Γ pb) σ H Q := by
  obtain ⟨β, ρ, M, Q', zr, h, q⟩ := h
  exact ⟨β, ρ, M, _, zr, h, fun d M1 v H1 x1 r1 h1 => ⟨β, ρ, M1, _, zr.step x1, h1, fun e M2 u H2 x2 r2 h2 => hz β v u d e M2 H2 Q Q' zr.eP zr.ew zr.eK x2.mz (r1.ex x2) r2 h2 fun d' M' v' H' x3 r3 q3 => q _ _ _ _ (x1.trans (x2.trans x3)) r3 q3⟩⟩
theorem a9 {op : Operator} {z : d8} (ho : eJ Γ X (binaryOp op) z) (ha : QE Γ X a pa) (hb : QE Γ X b pb) : QE Γ X (.BinOp a op b pos) (zOp z pa pb) := by
  obtain ⟨r, h1, h2⟩ := ho
  exact (IL h1 ha hb).imp fun σ H Q h => wN h2 h
theorem fQ {op : CmpOp} {z : d8} (ho : eJ Γ X (compareOp op) z) (ha : QE Γ X a pa) (hb : QE Γ X b pb) (hm : behindInMarks op b = false) : QE Γ X (.Compare a [op] [b] pos) (zOp z pa pb) := by
  obtain ⟨r, h1, h2⟩ := ho
  exact (DS h1 ha hb hm).imp fun σ H Q h => wN h2 h
def zBool (Q : Bool → Mh → Prop) : ZK := fun d M => match d with | .bl k => Q k M | _ => False
theorem iS {Q : Bool → Mh → Prop} {d : Dv} {M : Mh} (h : zBool Q d M) : ∃ k, d = .bl k ∧ Q k M := by
  unfold zBool at h
  split at h
  · exact ⟨_, rfl, h⟩
  · exact h.elim
def zTest (p : aI) : cP := fun ρ M Q => p ρ M (zBool Q)
theorem tI {p : aI} {t : TE} (i : ∀ σ H Q, lE Γ p σ H Q → t σ H Q) {σ : St} {H : Hp} {Q : Bool → Hp → Prop} (h : lT Γ (zTest p) σ H Q) : vV t σ H Q := by
  obtain ⟨β, ρ, M, Q', zr, h, q⟩ := h
  refine i _ _ _ ⟨β, ρ, M, _, zr, h, fun d M1 v H1 x1 r1 h1 => ?_⟩
  obtain ⟨k, rfl, h2⟩ := iS h1
  exact ⟨k, de r1, q k M1 H1 x1 h2⟩
theorem bh {op : CmpOp} {z : d8} (ho : eJ Γ X (compareOp op) z) (ha : QE Γ X a pa) (hb : QE Γ X b pb) (hm : behindInMarks op b = false) : QT Γ X (.Compare a [op] [b] pos) (zTest (zOp z pa pb)) := by
  obtain ⟨r, h1, h2⟩ := ho
  exact (DT h1 ha hb hm).imp fun σ H Q h => tI (fun _ _ _ => wN h2) h
theorem d9 {e : Expr} {p : aI} (h : QE Γ X e p) (he : ∀ whole, isTrue e X.env whole = (do let v ← whole; standAt e.pos; holding [v] (truthy v)) := by intro _; rfl) : QT Γ X e (zTest p) :=
  (Fe h he).imp fun σ H Q h => tI (fun _ _ _ h => h) h
def zChain (z z' : d8) (pa pb pc : aI) : aI := fun ρ M Q => pa ρ M fun x M1 => pb ρ M1 fun y M2 => z x y M2 (zBool fun k M3 => if k = true then pc ρ M3 fun u M4 => z' y u M4 Q else Q (.bl false) M3)
theorem vp {r r' : R2} {z z' : d8} (hz : oq Γ r z) (Nm : oq Γ r' z') {σ : St} {H : Hp} {Q : VK} (h : lE Γ (zChain z z' pa pb pc) σ H Q) : sk r r' (lE Γ pa) (lE Γ pb) (lE Γ pc) σ H Q := by
  obtain ⟨β, ρ, M, Q', zr, h, q⟩ := h
  refine ⟨β, ρ, M, _, zr, h, fun d M1 v H1 x1 r1 h1 => ⟨β, ρ, M1, _, zr.step x1, h1, fun e M2 u H2 x2 r2 h2 => hz β v u d e M2 H2 _ _ zr.eP zr.ew zr.eK x2.mz (r1.ex x2) r2 h2 fun d' M3 v' H3 x3 r3 h3 => ?_⟩⟩
  obtain ⟨k, rfl, h4⟩ := iS h3
  have iT := x1.trans (x2.trans x3)
  refine ⟨k, de r3, ?_⟩
  cases k with
  | true =>
    rw [if_pos rfl] at h4 ⊢
    exact ⟨β, ρ, M3, _, zr.step iT, h4, fun f M4 g H4 x4 r4 h5 => Nm β u g e f M4 H4 _ _ zr.eP zr.ew zr.eK x4.mz ((r2.ex x3).ex x4) r4 h5 fun d5 M5 v5 H5 x5 r5 q5 => q _ _ _ _ (iT.trans (x4.trans x5)) r5 q5⟩
  | false =>
    rw [if_neg Bool.false_ne_true] at h4 ⊢
    exact q _ _ _ _ iT (.bl _) h4
theorem BO {op iM : CmpOp} {z z' : d8} (ho : eJ Γ X (compareOp op) z) (gC : eJ Γ X (compareOp iM) z') (ha : QE Γ X a pa) (hb : QE Γ X b pb) (hc : QE Γ X c pc) (hm : lastMarks [op, iM] [b, c] = false := by with_unfolding_all rfl) :
    QE Γ X (.Compare a [op, iM] [b, c] pos) (zChain z z' pa pb pc) := by
  obtain ⟨r, h1, h2⟩ := ho
  obtain ⟨r', G3, G4⟩ := gC
  exact (AV h1 G3 ha hb hc hm).imp fun σ H Q h => vp h2 G4 h
theorem tJ {op iM : CmpOp} {z z' : d8} (ho : eJ Γ X (compareOp op) z) (gC : eJ Γ X (compareOp iM) z') (ha : QE Γ X a pa) (hb : QE Γ X b pb) (hc : QE Γ X c pc) (hm : lastMarks [op, iM] [b, c] = false := by with_unfolding_all rfl) :
    QT Γ X (.Compare a [op, iM] [b, c] pos) (zTest (zChain z z' pa pb pc)) := by
  obtain ⟨r, h1, h2⟩ := ho
  obtain ⟨r', G3, G4⟩ := gC
  exact (AW h1 G3 ha hb hc hm).imp fun σ H Q h => tI (fun _ _ _ => vp h2 G4) h
variable {tA nJ : cP} {rest : List Expr}
def zAnd (t u : cP) : cP := fun ρ M Q => t ρ M fun c M1 => if c = true then u ρ M1 Q else Q false M1
def zOr (t u : cP) : cP := fun ρ M Q => t ρ M fun c M1 => if c = true then Q true M1 else u ρ M1 Q
def zNot (t : cP) : cP := fun ρ M Q => t ρ M fun c M1 => Q (!c) M1
theorem vq (ha : QT Γ X a tA) : QW Γ X (.BoolOp .And [a] pos) tA := DJ ha
theorem iU (ha : QT Γ X a tA) : QW Γ X (.BoolOp .Or [a] pos) tA := Ff ha
theorem zb (ha : QT Γ X a tA) (hb : QW Γ X (.BoolOp .And (b :: rest) pos) nJ) : QW Γ X (.BoolOp .And (a :: b :: rest) pos) (zAnd tA nJ) :=
  (Fg ha hb).imp fun σ H Q ⟨β, ρ, M, Q', zr, h, q⟩ => ⟨β, ρ, M, _, zr, h, fun k M1 H1 x1 h1 => by
    cases k with
    | true => rw [if_pos rfl] at h1 ⊢; exact ⟨β, ρ, M1, _, zr.step x1, h1, fun k2 M2 H2 x2 h2 => q _ _ _ (x1.trans x2) h2⟩
    | false => rw [if_neg Bool.false_ne_true] at h1 ⊢; exact q _ _ _ x1 h1⟩
theorem jX (ha : QT Γ X a tA) (hb : QW Γ X (.BoolOp .Or (b :: rest) pos) nJ) : QW Γ X (.BoolOp .Or (a :: b :: rest) pos) (zOr tA nJ) :=
  (IC ha hb).imp fun σ H Q ⟨β, ρ, M, Q', zr, h, q⟩ => ⟨β, ρ, M, _, zr, h, fun k M1 H1 x1 h1 => by
    cases k with
    | false => rw [if_neg Bool.false_ne_true] at h1 ⊢; exact ⟨β, ρ, M1, _, zr.step x1, h1, fun k2 M2 H2 x2 h2 => q _ _ _ (x1.trans x2) h2⟩
    | true => rw [if_pos rfl] at h1 ⊢; exact q _ _ _ x1 h1⟩
theorem jJ (ha : QT Γ X a tA) : QT Γ X (.UnaryOp .Not a pos) (zNot tA) := (Fh ha).imp fun σ H Q ⟨β, ρ, M, Q', zr, h, q⟩ => ⟨β, ρ, M, _, zr, h, fun k M1 H1 x1 h1 => q _ _ _ x1 h1⟩
theorem QW.pt {e : Expr} {t : cP} (h : QW Γ X e t) : QT Γ X e t := PW.pt h
def zAndV (pa pb : aI) : aI := fun ρ M Q => pa ρ M (zBool fun c M1 => if c = true then pb ρ M1 Q else Q (.bl false) M1)
def zNotV (pa : aI) : aI := fun ρ M Q => pa ρ M (zBool fun c M1 => Q (.bl (!c)) M1)
theorem hV {op} (h : QE Γ X a pa) : QE Γ X (.BoolOp op [a] pos) pa := Fi h
theorem fq (ha : QE Γ X a pa) (hb : QE Γ X (.BoolOp .And (b :: rest) pos) pb) : QE Γ X (.BoolOp .And (a :: b :: rest) pos) (zAndV pa pb) :=
  (Fj ha hb).imp fun σ H Q ⟨β, ρ, M, Q', zr, h, q⟩ => ⟨β, ρ, M, _, zr, h, fun d M1 v H1 x1 r1 h1 => by
    obtain ⟨k, rfl, h2⟩ := iS h1
    refine ⟨k, de r1, ?_⟩
    cases k with
    | true => rw [if_pos rfl] at h2 ⊢; exact ⟨β, ρ, M1, _, zr.step x1, h2, fun d2 M2 v2 H2 x2 r2 h2 => q _ _ _ _ (x1.trans x2) r2 h2⟩
    | false => rw [if_neg Bool.false_ne_true] at h2 ⊢; exact q _ _ _ _ x1 (.bl _) h2⟩
theorem tK (ha : QE Γ X a pa) : QE Γ X (.UnaryOp .Not a pos) (zNotV pa) := (Fl ha).imp fun σ H Q ⟨β, ρ, M, Q', zr, h, q⟩ => ⟨β, ρ, M, _, zr, h, fun d M1 v H1 x1 r1 h1 => by
    obtain ⟨k, rfl, h2⟩ := iS h1
    exact ⟨k, de r1, q _ _ _ _ x1 (.bl _) h2⟩⟩
def zNil : eA := fun _ M Q => Q [] M
def zCons (p : aI) (r : eA) : eA := fun ρ M Q => p ρ M fun d M1 => r ρ M1 fun ds M2 => Q (d :: ds) M2
variable {es : List Expr} {za : eA}
theorem ae : QA Γ X [] zNil := FP.imp fun σ H Q ⟨β, ρ, M, Q', zr, h, q⟩ => q [] M [] H (.refl zr.mz) .nil h
theorem aa {e : Expr} (ha : QE Γ X e pa) (hr : QA Γ X es za) (hs : starEach (e :: es) X.env = (false, eval e X.env) :: starEach es X.env := by rfl) : QA Γ X (e :: es) (zCons pa za) :=
  (lY ha hr hs).imp fun σ H Q ⟨β, ρ, M, Q', zr, h, q⟩ => ⟨β, ρ, M, _, zr, h, fun d M1 v H1 x1 r1 h1 => ⟨β, ρ, M1, _, zr.step x1, h1, fun ds M2 vs H2 x2 r2 h2 => q _ _ _ _ (x1.trans x2) (.cons (r1.ex x2) r2) h2⟩⟩
def zTup (p : eA) : aI := fun ρ M Q => p ρ M fun ds M1 => ds.length ≤ sizeLine ∧ Q (.tup ds) M1
def zLst (p : eA) : aI := fun ρ M Q => p ρ M fun ds M1 => ds.length ≤ sizeLine ∧ Q (.lst ds) M1
def zLstP (p : eA) : aI := fun ρ M Q => p ρ M fun ds M1 => ds.length ≤ sizeLine ∧ ∀ a, M1 a = none → Q (.ptr a) (aw M1 a (.lst ds))
theorem tL {x1} (h : QA Γ X es za) : QE Γ X (.Tuple es x1 pos) (zTup za) := (FQ h).imp fun σ H Q ⟨β, ρ, M, Q', zr, h, q⟩ => ⟨β, ρ, M, _, zr, h, fun ds M1 vs H1 x1 r1 h1 => ⟨by rw [r1.len]; exact h1.1, fun p hp => by
    have x2 := Ex.lay x1.mz hp (.tup vs)
    exact q _ _ _ _ (x1.trans x2) (jF (x1.mz.fz hp) aD (r1.ex x2)) h1.2⟩⟩
theorem zf (h : QA Γ X es za) : QE Γ X (.List es pos) (zLst za) := (xX h).imp fun σ H Q ⟨β, ρ, M, Q', zr, h, q⟩ => ⟨β, ρ, M, _, zr, h, fun ds M1 vs H1 x1 r1 h1 => ⟨by rw [r1.len]; exact h1.1, fun p hp => by
    have x2 := Ex.lay x1.mz hp (.lst vs)
    exact q _ _ _ _ (x1.trans x2) (tH (x1.mz.fz hp) aD (r1.ex x2)) h1.2⟩⟩
theorem pB (h : QA Γ X es za) : QE Γ X (.List es pos) (zLstP za) := (xX h).imp fun σ H Q ⟨β, ρ, M, Q', zr, h, q⟩ => ⟨β, ρ, M, _, zr, h, fun ds M1 vs H1 x1 r1 h1 => ⟨by rw [r1.len]; exact h1.1, fun p hp => by
    have x2 := Ex.own x1.mz (.inr hp) r1
    exact q _ _ _ _ (x1.trans x2) (.ptr (by rw [updM_same]; rfl)) (h1.2 p (x1.mz.free hp))⟩⟩
abbrev qF := List Dv → Mh → ZK → Prop
def C5 (Γ : Gz) (r : List V → Hp → VK → Prop) (z : qF) : Prop := ∀ (β : Bz) xs ds M H Q Q', β.P = Γ.P → β.w = Γ.w → β.K = Γ.K → Mz β M H → aG β M H xs ds → z ds M Q' → (∀ d' M' v H', Ex β M H M' H' → Rz β M' H' v d' → Q' d' M' → Q v H') → r xs H Q
def eX (Γ : Gz) (X : Cx) (f : Value) (z : qF) : Prop := ∃ r, cR X f r ∧ C5 Γ r z
def zCB (z : qF) (p : eA) : aI := fun ρ M Q => p ρ M fun ds M1 => z ds M1 Q
theorem G5 {r : List V → Hp → VK → Prop} {z : qF} (hz : C5 Γ r z) {σ : St} {H : Hp} {Q : VK} (h : lE Γ (zCB z za) σ H Q) : FT r (lA Γ za) σ H Q := by
  obtain ⟨β, ρ, M, Q', zr, h, q⟩ := h
  exact ⟨β, ρ, M, _, zr, h, fun ds M1 vs H1 x1 r1 h1 => hz β vs ds M1 H1 _ _ zr.eP zr.ew zr.eK x1.mz r1 h1 fun d' M' v' H' x2 r2 q2 => q _ _ _ _ (x1.trans x2) r2 q2⟩
variable {st : Stmt} {Kv : List Stmt} {p p2 : cw} {e : Expr} {pe : aI}
def zNext : cw := fun D ρ M => D.nx ρ M
def zSeq (p q : cw) : cw := fun D ρ M => p { D with nx := q D } ρ M
theorem qss_nil : kn Γ X [] zNext := DK.imp fun D σ H ⟨β, ρ, M, D', zr, h, r⟩ => r.nx ρ M σ H (.refl zr.mz) zr h
theorem aj (h1 : QS Γ X st p) (h2 : kn Γ X Kv p2) : kn Γ X (st :: Kv) (zSeq p p2) := (AI h1 h2).imp fun D σ H ⟨β, ρ, M, D', zr, h, r⟩ =>
  ⟨β, ρ, M, _, zr, h, fun bD M' aH H' x eL h' => ⟨β, bD, M', D', eL, h', r.step x⟩, r.rt, r.bk, r.ct⟩
theorem ax (h1 : QS Γ X st p) : kn Γ X [st] p := DL h1
def zDrop (p : aI) : cw := fun D ρ M => p ρ M fun _ M1 => D.nx ρ M1
theorem jK (he : QE Γ X e pe) (hs : swapsWith e none pos.line X.env = pure false := by rfl) : QS Γ X (.Expr e pos) (zDrop pe) := (DM he hs).imp fun D σ H ⟨β, ρ, M, D', zr, h, r⟩ =>
  ⟨β, ρ, M, _, zr, h, fun d M1 v H1 x1 r1 h1 => r.nx ρ M1 σ H1 x1.ev (zr.step x1) h1⟩
def zRet (p : aI) : cw := fun D ρ M => p ρ M D.rt
theorem aP (he : QE Γ X e pe) : QS Γ X (.Return (some e) pos) (zRet pe) := (Fm he).imp fun D σ H ⟨β, ρ, M, D', zr, h, r⟩ => ⟨β, ρ, M, _, zr, h, fun d M' v H' x r1 h1 => r.rt _ _ _ _ x.ev (zr.ent.trans x.toEy) r1 h1⟩
def zIfS (c : cP) (p q : cw) : cw := fun D ρ M => c ρ M fun b M1 => if b = true then p D ρ M1 else q D ρ M1
theorem bO {as bs : List Stmt} {pa pb : cw} (hc : QT Γ X c tA) (ha : kn Γ X as pa) (hb : kn Γ X bs pb) : QS Γ X (.If c as bs pos) (zIfS tA pa pb) := (IJ hc ha hb).imp fun D σ H ⟨β, ρ, M, D', zr, h, r⟩ =>
  ⟨β, ρ, M, _, zr, h, fun k M1 H1 x1 h1 => by
    cases k with
    | true => rw [if_pos rfl] at h1 ⊢; exact ⟨β, ρ, M1, D', zr.step x1, h1, r.step x1.ev⟩
    | false => rw [if_neg Bool.false_ne_true] at h1 ⊢; exact ⟨β, ρ, M1, D', zr.step x1, h1, r.step x1.ev⟩⟩
def zgName (i : Nat) : cx := fun d ρ M N => N (ρ.set i (some d)) M
theorem aO {i : Nat} {x : Str} (hN : X.N.Nodup) (hi : X.N[i]? = some x) (hx : Loc X.env.scope x) (hf : X.fn x = true ∨ X.env.scope.names.lookup x = some .local := by first | exact .inl rfl | exact .inr rfl | assumption) : QG Γ X (.Name x pos) (zgName i) :=
  (DN hN hi hx hf).imp fun v σ H N ⟨β, d, ρ, M, N', zr, r, h, q⟩ => q _ _ _ _ (.refl zr.mz) (zr.set i r) h
def zgNil : lb := fun ds ρ M N => match ds with | [] => N ρ M | _ => False
def zgCons (g : cx) (u : lb) : lb := fun ds ρ M N => match ds with | d :: r => g d ρ M fun bD M' => u r bD M' N | [] => False
theorem jL : C4 Γ X [] zgNil := DP.imp fun vs σ H N ⟨β, ds, ρ, M, N', zr, r, h, q⟩ => by
  unfold zgNil at h
  split at h
  · have e : vs = [] := List.length_eq_zero_iff.mp r.len
    exact ⟨e, q _ _ _ _ (.refl zr.mz) zr h⟩
  · exact h.elim
theorem dq {g : cx} {u : lb} (h1 : QG Γ X e g) (h2 : C4 Γ X es u) (hs : (assignEach (e :: es) X.env).map (·.2) = assign e X.env :: (assignEach es X.env).map (·.2) := by rfl) : C4 Γ X (e :: es) (zgCons g u) :=
  (AK h1 h2 hs).imp fun vs σ H N ⟨β, ds, ρ, M, N', zr, r, h, q⟩ => by
    unfold zgCons at h
    split at h
    · rename_i d rest
      cases vs with
      | nil => exact absurd r.len (by simp)
      | cons v vs => exact ⟨v, vs, rfl, β, d, ρ, M, _, zr, r.head, h, fun bD M' aH H' x eL h' => ⟨β, rest, bD, M', N', eL, r.tail.ex x, h', fun a b c d y => q a b c d (x.trans y)⟩⟩
    · exact h.elim
def zgTup (n : Nat) (u : lb) : cx := fun d ρ M N => match d with | .tup ds => ds.length = n ∧ u ds ρ M N | _ => False
theorem lg {k : Nat} {u : lb} {n : Nat} (hc : X.calm = true) (h : C4 Γ X es u) (hn : (assignEach es X.env).length = n := by rfl) (mF : (assignEach es X.env).findIdx? (·.1) = none := by rfl) : QG Γ X (.Tuple es k pos) (zgTup n u) :=
  (Fo hc h hn mF).imp fun v σ H N ⟨β, d, ρ, M, N', zr, r, h, q⟩ => by
    unfold zgTup at h
    split at h
    · obtain ⟨a, vs, rfl, m, e, rs⟩ := cZ r
      exact ⟨a, vs, rfl, cO.of e, by rw [rs.len]; exact h.1, β, _, ρ, M, N', zr, rs, h.2, q⟩
    · exact h.elim
def zAsg (p : aI) (g : cx) : cw := fun D ρ M => p ρ M fun d M1 => g d ρ M1 D.nx
theorem Jo {g : cx} {D : Ends} {σ : St} {H : Hp} (h : lS Γ (zAsg pe g) D σ H) : oZ (lE Γ pe) (lG Γ g) D σ H := by
  obtain ⟨β, ρ, M, D', zr, h, r⟩ := h
  exact ⟨β, ρ, M, _, zr, h, fun d M1 v H1 x1 r1 h1 => ⟨β, d, ρ, M1, D'.nx, zr.step x1, r1, h1, fun bD M' aH H' x eL h' => r.nx _ _ _ _ (x1.trans x).ev eL h'⟩⟩
theorem iV {tg : Expr} {g : cx} (he : QE Γ X e pe) (hg : QG Γ X tg g) (hs : swapsWithSole [tg] e pos.line X.env = pure false := by rfl) (hw : swappedStores [tg] e X.env = pure none := by rfl)
    (h1 : (assignEach [tg] X.env).map (·.2) = [assign tg X.env] := by rfl) : QS Γ X (.Assign [tg] e pos) (zAsg pe g) := (Fq he hg hs hw h1).imp fun D σ H h => Jo h
theorem rQ {t : TE} (i : ∀ σ H Q, lE Γ pe σ H Q → t σ H Q) {n : Nat} {D : Ends} {σ : St} {H : Hp} (h : lS Γ (zAsg pe (zgName n)) D σ H) : oZ t (nL n) D σ H := by
  obtain ⟨β, ρ, M, D', zr, h, r⟩ := h
  exact i _ _ _ ⟨β, ρ, M, _, zr, h, fun d M1 v H1 x1 r1 h1 => r.nx _ _ _ _ x1.ev ((zr.step x1).set n r1) h1⟩
theorem aR {i : Nat} {x : Str} {pos' : Pos} (hN : X.N.Nodup) (hi : X.N[i]? = some x) (hx : Loc X.env.scope x) (he : QE Γ X e pe) (hs : swapsWith e (some (.Name x pos')) pos.line X.env = pure false := by rfl) (hf : X.fn x = true ∨ X.env.scope.names.lookup x = some .local := by first | exact .inl rfl | exact .inr rfl | assumption) :
    QS Γ X (.Assign [.Name x pos'] e pos) (zAsg pe (zgName i)) := (Fs hN hi hx he hs hf).imp fun D σ H h => rQ (fun _ _ _ h => h) h
end
section
variable {X : Cx} {Γ : Gz} {β : Bz}
def ziTup (p : aI) : d7 := fun ρ M R => p ρ M fun d M1 => match d with | .tup ds => R ds M1 | _ => False
def ziLst (p : aI) : d7 := fun ρ M R => p ρ M fun d M1 => match d with | .lst ds => R ds M1 | _ => False
def dg (lo : Int) (n : Nat) : List Dv := (List.range n).map fun i => .int (lo + (i : Nat))
def ziRng1 (p : eA) : d7 := fun ρ M R => p ρ M fun ds M1 => match ds with | [.int j] => -(2 ^ 62) ≤ j ∧ j < 2 ^ 62 ∧ R (dg 0 j.toNat) M1 | _ => False
def ziRng2 (p : eA) : d7 := fun ρ M R => p ρ M fun ds M1 => match ds with | [.int i, .int j] => (-(2 ^ 62) ≤ i ∧ i < 2 ^ 62 ∧ -(2 ^ 62) ≤ j ∧ j < 2 ^ 62) ∧ R (dg i (j - i).toNat) M1 | _ => False
theorem jY {J : It} {vs : List V} {ds : List Dv} {M : Mh} {H : Hp} (r : aG β M H vs ds) (h : ∀ M' H', Ey M H M' H' → Runs J vs H') : y9 β J ds M H := fun cu M' H' bx x m i => by
  have q := h M' H' x i
  rw [← r.len]
  refine ⟨fun hi => ⟨(q.1 hi).1, fun v jI y => ?_⟩, q.2⟩
  obtain ⟨e, hv⟩ := (q.1 hi).2 v jI y
  subst e
  obtain ⟨d, hd, rd⟩ := r.get' hv
  exact ⟨.refl m, d, hd, (rd.bx bx).ey x⟩
variable {tg l : Expr} {p : aI} {pa : eA} {K : PySem.W.Frag}
theorem lh (hK : X.K = K) (hl : QE Γ X l p) : QI Γ X tg l (ziTup p) := (D1 hK hl).imp fun σ H R ⟨β, ρ, M, R', zr, h, q⟩ => ⟨β, ρ, M, _, zr, h, fun d M1 v H1 x1 r1 h1 => by
  revert h1
  split
  · intro h1
    obtain ⟨a, vs, rfl, m, e, rs⟩ := cZ r1
    exact ⟨a, rfl, ⟨_, cO.of e⟩, q _ _ _ _ x1 (jY rs fun M' H' x => Be (cO.of (x.get m.1 e rfl))) h1⟩
  · exact fun h => h.elim⟩
theorem pC (hK : X.K = K) (hl : QE Γ X l p) : QI Γ X tg l (ziLst p) := (Bf hK hl).imp fun σ H R ⟨β, ρ, M, R', zr, h, q⟩ => ⟨β, ρ, M, _, zr, h, fun d M1 v H1 x1 r1 h1 => by
  revert h1
  split
  · intro h1
    obtain ⟨a, vs, rfl, m, e, rs⟩ := dS r1
    exact ⟨a, rfl, ⟨_, bE.of e⟩, q _ _ _ _ x1 (jY rs fun M' H' x => yx (bE.of (x.get m.1 e rfl))) h1⟩
  · exact fun h => h.elim⟩
theorem qG {lo : Int} {n : Nat} {M : Mh} {H : Hp} : aG β M H ((List.range n).map fun i => V.int (lo + (i : Nat))) (dg lo n) := ⟨by simp [dg], fun i v d a b => by
  unfold dg at b
  rw [List.getElem?_map] at a b
  cases e : (List.range n)[i]? with
  | none => rw [e] at a; cases a
  | some c => rw [e] at a b; cases a; cases b; exact .int _⟩
theorem dG {xs : List V} {d : Dv} {M : Mh} {H : Hp} (r : aG β M H xs [d]) : ∃ v, xs = [v] ∧ Rz β M H v d := by
  match xs, r with
  | [v], r => exact ⟨v, rfl, r.head⟩
  | [], r => exact absurd r.len (by simp)
  | _ :: _ :: _, r => exact absurd r.len (by simp)
theorem mh {xs : List V} {d e : Dv} {M : Mh} {H : Hp} (r : aG β M H xs [d, e]) : ∃ v u, xs = [v, u] ∧ Rz β M H v d ∧ Rz β M H u e := by
  match xs, r with
  | [v, u], r => exact ⟨v, u, rfl, r.head, r.tail.head⟩
  | [], r => exact absurd r.len (by simp)
  | [_], r => exact absurd r.len (by simp)
  | _ :: _ :: _ :: _, r => exact absurd r.len (by simp)
section
variable {e e1 e2 : Expr} {pr pos : Pos}
theorem G6 {σ : St} {H : Hp} {R : It → Hp → Prop} (h : lI Γ (ziRng1 pa) σ H R) : Cy (lA Γ pa) σ H R := by
  obtain ⟨β, ρ, M, R', zr, h, q⟩ := h
  refine ⟨β, ρ, M, _, zr, h, fun ds M1 vs H1 x1 r1 h1 => ?_⟩
  revert h1
  split
  · rintro ⟨b1, b2, h1⟩
    obtain ⟨v, rfl, r⟩ := dG r1
    rw [aL r]
    exact ⟨_, rfl, b1, b2, q _ _ _ _ x1 (jY qG fun M' H' x => n5) h1⟩
  · exact fun h => h.elim
theorem G7 {σ : St} {H : Hp} {R : It → Hp → Prop} (h : lI Γ (ziRng2 pa) σ H R) : Cz (lA Γ pa) σ H R := by
  obtain ⟨β, ρ, M, R', zr, h, q⟩ := h
  refine ⟨β, ρ, M, _, zr, h, fun ds M1 vs H1 x1 r1 h1 => ?_⟩
  revert h1
  split
  · rintro ⟨b1, h1⟩
    obtain ⟨v, u, rfl, r, r'⟩ := mh r1
    rw [aL r, aL r']
    exact ⟨_, _, rfl, b1, q _ _ _ _ x1 (jY qG fun M' H' x => n5) h1⟩
  · exact fun h => h.elim
end
def zLoop (g : cx) (tb : cw) (D : gh) : List Dv → aA → Mh → Prop
  | [], ρ, M => D.nx ρ M
  | d :: ds, ρ, M => g d ρ M fun jM M2 => tb { D with nx := zLoop g tb D ds, ct := zLoop g tb D ds, bk := D.nx } jM M2
def zFor (zi : d7) (g : cx) (tb : cw) : cw := fun D ρ M => zi ρ M fun ds M1 => zLoop g tb D ds ρ M1
def zForM (zi : d7) (g : cx) (tb : Mh → cw) : cw := fun D ρ M => zi ρ M fun ds M1 => zLoop g (tb M1) D ds ρ M1
theorem Zr.root {M : Mh} {ρ : aA} {σ : St} {H : Hp} (z : Zr Γ β M ρ σ H) : Zr ⟨β, M, H⟩ β M ρ σ H := ⟨rfl, rfl, rfl, rfl, fun _ h => h, z.mz.wf, .refl, z.mz, z.len, z.at'⟩
theorem Zr.zh {M M1 : Mh} {ρ Kw : aA} {σ nM : St} {H H1 : Hp} (z : Zr Γ β M ρ σ H) (y : Zr ⟨β, M, H⟩ β M1 Kw nM H1) : Zr Γ β M1 Kw nM H1 := ⟨z.eP, z.ew, z.eK, z.et, z.sub, z.wf, z.ent.trans y.ent, y.mz, y.len, y.at'⟩
theorem Jp {zi : d7} {g : cx} {tb : Mh → cw} {t : TS} (hb : ∀ bq : Gz, bq.P = Γ.P → bq.w = Γ.w → bq.K = Γ.K → bq.tb = Γ.tb → ∀ D σ H, lS bq (tb bq.M0) D σ H → t D σ H) {tg : TG} (hg : ∀ bq : Gz, bq.P = Γ.P → bq.w = Γ.w → bq.K = Γ.K → bq.tb = Γ.tb → ∀ x σ H N, lG bq g x σ H N → tg x σ H N) {D : Ends} {σ : St} {H : Hp} (h : lS Γ (zForM zi g tb) D σ H) : Fx (lI Γ zi) tg t D σ H := by
  obtain ⟨β, ρ, M, D', zr, h, r⟩ := h
  refine ⟨β, ρ, M, _, zr, h, fun ds M1 H1 J x1 it h1 => ?_⟩
  have ip := zr.step x1
  refine ⟨fun i m aH H' => m = ds.length - i ∧ i ≤ ds.length ∧ ∃ bD M', Zr ⟨β, M1, H1⟩ β M' bD aH H' ∧ zLoop g (tb M1) D' (ds.drop i) bD M', ⟨ds.length, rfl, Nat.zero_le _, ρ, M1, ip.root, h1⟩, ?_⟩
  rintro i m aH H' ⟨rfl, hi, bD, M', eL, h'⟩
  have ev : ∀ {M2 : Mh} {jM : aA} {nN : St} {H2 : Hp}, Zr ⟨β, M1, H1⟩ β M2 jM nN H2 → Ev β M H M2 H2 := fun z => x1.ev.trans ⟨z.ent.keep, z.ent.new, z.mz⟩
  by_cases aT : i < ds.length
  · have q := (it β M' H' .refl eL.ent eL.mz i).1 aT
    refine .inr ⟨q.1, fun nN H2 => ∃ jM M2, Zr ⟨β, M1, H1⟩ β M2 jM nN H2 ∧ zLoop g (tb M1) D' (ds.drop (i + 1)) jM M2, fun nN H2 ⟨jM, M2, C6, h2⟩ => ⟨ds.length - (i + 1), by omega, rfl, aT, jM, M2, C6, h2⟩, fun v jI y => ?_⟩
    obtain ⟨x2, d, hd, rd⟩ := q.2 v jI y
    have e : ds.drop i = d :: ds.drop (i + 1) := by
      rw [List.drop_eq_getElem_cons aT]
      rw [List.getElem?_eq_getElem aT] at hd
      cases hd
      rfl
    rw [e] at h'
    refine hg ⟨β, M1, H1⟩ zr.eP zr.ew zr.eK zr.et _ _ _ _ ⟨β, d, bD, M', _, eL.step x2, rd, h', fun Np M3 kj H3 x3 G8 h3 => hb ⟨β, M1, H1⟩ zr.eP zr.ew zr.eK zr.et _ _ _ ⟨β, Np, M3, _, G8, h3, ?_⟩⟩
    exact ⟨fun ou M4 zj H4 x4 ko h4 => ⟨ou, M4, ko, h4⟩, fun d4 M4 v4 H4 x4 e4 r4 h4 => r.rt _ _ _ _ (x1.ev.trans ⟨e4.keep, e4.new, x4.mz⟩) (ip.ent.trans e4) r4 h4, fun ou M4 zj H4 x4 ko h4 => r.nx _ _ _ _ (ev ko) (ip.zh ko) h4, fun ou M4 zj H4 x4 ko h4 => ⟨ou, M4, ko, h4⟩⟩
  · have e : i = ds.length := by omega
    subst e
    rw [List.drop_length] at h'
    exact .inl ⟨(it β M' H' .refl eL.ent eL.mz _).2 (Nat.le_refl _), r.nx _ _ _ _ (ev eL) (ip.zh eL) h'⟩
def Nq (Γ : Gz) (p : Mh → cw) : TS := fun D σ H => ∃ bq : Gz, bq.P = Γ.P ∧ bq.w = Γ.w ∧ bq.K = Γ.K ∧ bq.tb = Γ.tb ∧ lS bq (p bq.M0) D σ H
def Nr (Γ : Gz) (p : cx) : TG := fun x σ H N => ∃ bq : Gz, bq.P = Γ.P ∧ bq.w = Γ.w ∧ bq.K = Γ.K ∧ bq.tb = Γ.tb ∧ lG bq p x σ H N
theorem vt {body : List Stmt} {iter : Expr} {zi : d7} {g : cx} {tb : Mh → cw} {pos : Pos} (hp : PassesOwn (model X.prog X.w) X.A X.env X.xe) (hc : X.calm = true) (hi : QI Γ X tg iter zi)
    (C7 : ∀ (bq : Gz) (M1 : Mh), bq.M0 = M1 → bq.P = Γ.P → bq.w = Γ.w → bq.K = Γ.K → bq.tb = Γ.tb → QG bq X tg g ∧ kn bq X body (tb M1))
    (hs : ∀ x, foldedSetIterable iter X.env x = pure x := by intro _; rfl) : QS Γ X (.For tg iter body [] pos) (zForM zi g tb) :=
  (Fy (g := Nr Γ g) (tb := Nq Γ tb) hp hc hi (fun pins s σ H v u Q I r h => by obtain ⟨bq, e1, e2, e3, e4, h⟩ := h; exact (C7 bq _ rfl e1 e2 e3 e4).1 pins s σ H v u Q I r h) ⟨fun pins s σ H D I h => by obtain ⟨bq, e1, e2, e3, e4, h⟩ := h; exact (C7 bq _ rfl e1 e2 e3 e4).2 pins s σ H D I h⟩ hs).imp
    fun D σ H h => Jp (fun bq e1 e2 e3 e4 D σ H h => ⟨bq, e1, e2, e3, e4, h⟩) (fun bq e1 e2 e3 e4 x σ H N h => ⟨bq, e1, e2, e3, e4, h⟩) h
theorem lj {body : List Stmt} {iter : Expr} {zi : d7} {g : cx} {tb : cw} {pos : Pos} (hp : PassesOwn (model X.prog X.w) X.A X.env X.xe) (hc : X.calm = true) (hi : QI Γ X tg iter zi)
    (C7 : ∀ bq : Gz, bq.P = Γ.P → bq.w = Γ.w → bq.K = Γ.K → bq.tb = Γ.tb → QG bq X tg g ∧ kn bq X body tb)
    (hs : ∀ x, foldedSetIterable iter X.env x = pure x := by intro _; rfl) : QS Γ X (.For tg iter body [] pos) (zFor zi g tb) := vt (tb := fun _ => tb) hp hc hi (fun bq M1 _ e1 e2 e3 e4 => C7 bq e1 e2 e3 e4) hs
theorem cH {a : Expr} {p pos : Pos} (hg : Gl X "range") (hm : X.mg "range" = none) (ha : QA Γ X [a] pa) (hs : starEach [a] X.env = [(false, eval a X.env)] := by rfl) : QI Γ X tg (.Call (.Name "range" p) [a] [] pos) (ziRng1 pa) := (xO hg hm ha hs).imp fun σ H R h => G6 h
theorem zk {a b : Expr} {p pos : Pos} (hg : Gl X "range") (hm : X.mg "range" = none) (ha : QA Γ X [a, b] pa) (hs : starEach [a, b] X.env = [(false, eval a X.env), (false, eval b X.env)] := by rfl) (km : starEach [b] X.env = [(false, eval b X.env)] := by rfl) :
    QI Γ X tg (.Call (.Name "range" p) [a, b] [] pos) (ziRng2 pa) := (xP hg hm ha hs km).imp fun σ H R h => G7 h
def zm (c : cP) (tb : cw) : cw := fun D ρ M => ∃ W : Nat → aA → Mh → Prop, (∃ m, W m ρ M) ∧ ∀ m ρ M, W m ρ M →
  c ρ M fun b M1 => if b = true then tb { D with nx := fun bD M' => ∃ m', m' < m ∧ W m' bD M', ct := fun bD M' => ∃ m', m' < m ∧ W m' bD M', bk := D.nx } ρ M1 else D.nx ρ M1
theorem Ej {c : cP} {tb : cw} {D : Ends} {σ : St} {H : Hp} (h : lS Γ (zm c tb) D σ H) : xK (lT Γ c) (lS Γ tb) D σ H := by
  obtain ⟨β, ρ, M, D', zr, ⟨W, ⟨m0, w0⟩, turn⟩, r⟩ := h
  refine ⟨fun m aH H' => ∃ bD M', Ev β M H M' H' ∧ Zr Γ β M' bD aH H' ∧ W m bD M', ⟨m0, ρ, M, .refl zr.mz, zr, w0⟩, ?_⟩
  rintro m aH H' ⟨bD, M', x', eL, w'⟩
  refine ⟨β, bD, M', _, eL, turn m bD M' w', fun k M1 H1 x1 h1 => ?_⟩
  have zp := x'.trans x1.ev
  cases k with
  | true =>
    dsimp only at h1 ⊢
    rw [if_pos rfl] at h1 ⊢
    refine ⟨fun nN H2 => ∃ m', m' < m ∧ ∃ jM M2, Ev β M H M2 H2 ∧ Zr Γ β M2 jM nN H2 ∧ W m' jM M2, fun nN H2 h2 => h2, β, bD, M1, _, eL.step x1, h1, ?_⟩
    exact ⟨fun ou M4 zj H4 x4 ko ⟨m', hm, w4⟩ => ⟨m', hm, ou, M4, zp.trans x4, ko, w4⟩, fun d4 M4 v4 H4 x4 e4 r4 h4 => r.rt _ _ _ _ (zp.trans x4) e4 r4 h4, fun ou M4 zj H4 x4 ko h4 => r.nx _ _ _ _ (zp.trans x4) ko h4, fun ou M4 zj H4 x4 ko ⟨m', hm, w4⟩ => ⟨m', hm, ou, M4, zp.trans x4, ko, w4⟩⟩
  | false =>
    dsimp only at h1 ⊢
    rw [if_neg Bool.false_ne_true] at h1 ⊢
    exact r.nx _ _ _ _ zp (eL.step x1) h1
theorem ni {body : List Stmt} {c : Expr} {zc : cP} {tb : cw} {pos : Pos} (hp : PassesOwn (model X.prog X.w) X.A X.env X.xe) (hc : QT Γ X c zc) (hb : kn Γ X body tb) : QS Γ X (.While c body [] pos) (zm zc tb) := (AO hp hc hb).imp fun D σ H h => Ej h
theorem hZ {g : cx} {tb : cw} {D : gh} (J : Nat → aA → Mh → Prop) {ds : List Dv} {ρ : aA} {M : Mh} (h0 : J 0 ρ M)
    (hs : ∀ i d ρ M (N : aA → Mh → Prop), ds[i]? = some d → J i ρ M → (∀ bD M', J (i + 1) bD M' → N bD M') → g d ρ M fun jM M2 => tb { D with nx := N, ct := N, bk := D.nx } jM M2)
    (hd : ∀ ρ M, J ds.length ρ M → D.nx ρ M) : zLoop g tb D ds ρ M := by
  have key : ∀ (n i : Nat) ρ M, n = ds.length - i → i ≤ ds.length → J i ρ M → zLoop g tb D (ds.drop i) ρ M := by
    intro n
    induction n with
    | zero =>
      intro i ρ M e hi h
      have : i = ds.length := by omega
      subst this
      rw [List.drop_length]
      exact hd _ _ h
    | succ n ih =>
      intro i ρ M e hi h
      have aT : i < ds.length := by omega
      rw [List.drop_eq_getElem_cons aT]
      exact hs i _ ρ M _ (List.getElem?_eq_getElem aT) h fun ρ M h => ih (i + 1) ρ M (by omega) aT h
  exact key _ 0 ρ M rfl (Nat.zero_le _) h0
end
section
variable {X : Cx} {Γ : Gz} {β : Bz}
def zBlock (tn : Nat) (idx : List Nat) (ρ : aA) : aA := List.replicate tn none ++ idx.map fun i => (ρ[i]?).join
theorem Zr.block {M : Mh} {ρ : aA} {σ : St} {H : Hp} (z : Zr Γ β M ρ σ H) (tn : Nat) (idx : List Nat) : Zr Γ β M (zBlock tn idx ρ) (bg tn idx σ) H := ⟨z.eP, z.ew, z.eK, z.et, z.sub, z.wf, z.ent, z.mz, by simp [zBlock, bg], fun i d e => by
  unfold zBlock at e
  unfold bg
  rw [List.getElem?_append] at e ⊢
  rw [List.length_replicate] at e ⊢
  split at e
  · rw [List.getElem?_replicate] at e
    split at e <;> cases e
  · rename_i hi
    rw [if_neg hi]
    rw [List.getElem?_map] at e ⊢
    cases q : idx[i - tn]? with
    | none => rw [q] at e; cases e
    | some j =>
      rw [q] at e
      have e2 : ρ[j]? = some (some d) := by
        simp only [Option.map_some, Option.some.injEq] at e
        cases q2 : ρ[j]? with
        | none => rw [q2] at e; cases e
        | some o => rw [q2] at e; simp only [Option.join_some] at e; rw [e]
      obtain ⟨v, hv, r⟩ := z.at' j d e2
      exact ⟨v, by simp [hv], r⟩⟩
theorem Zr.enter {M : Mh} {ρ : aA} {σ : St} {H : Hp} {D : Addr} {o : HO} (z : Zr Γ β M ρ σ H) (hD : H D = none) (ho : la o = true) : Zr Γ (β.add D) M ρ σ (upd H D o) :=
  ⟨z.eP, z.ew, z.eK, z.et, fun a h => List.mem_cons_of_mem _ (z.sub a h), z.wf, z.ent.over (z.ent.gone hD (by
    cases e : Γ.M0 D with
    | none => rfl
    | some u => have := z.ent.dom D (by rw [e]; rfl); rw [z.mz.free hD] at this; cases this)), z.mz.enter hD ho, z.len, fun i d e => let ⟨v, h, r⟩ := z.at' i d e; ⟨v, h, r.enter hD⟩⟩
theorem Zr.over {M : Mh} {ρ : aA} {σ : St} {H : Hp} {D : Addr} {o : HO} (z : Zr Γ β M ρ σ H) (hD : D ∈ β.hid) (ho : la o = true) (hM : M D = none) (ht : D ∉ β.tb) (h0 : Γ.H0 D = none) : Zr Γ β M ρ σ (upd H D o) :=
  ⟨z.eP, z.ew, z.eK, z.et, z.sub, z.wf, z.ent.over h0, z.mz.over hD ho hM ht, z.len, fun i d e => let ⟨v, h, r⟩ := z.at' i d e; ⟨v, h, r.over hD⟩⟩
abbrev ow (Γ : Gz) (X : Cx) (ifs : List Expr) (t : cP) : Prop := iO X ifs (lT Γ t)
def zNoIf : cP := fun _ M Q => Q true M
theorem bY : ow Γ X [] zNoIf := DZ.imp fun σ H Q ⟨β, ρ, M, Q', zr, h, q⟩ => q true M H (.refl zr.mz) h
theorem Ek {c : Expr} {tc : cP} (h : QT Γ X c tc) : ow Γ X [c] tc := D0 h
def gp (g : cx) (tt : cP) (te : aI) : List Dv → aA → Mh → (List Dv → Mh → Prop) → Prop
  | [], _, M, Q => Q [] M
  | d :: ds, τ, M, Q => g d τ M fun aC M2 => tt aC M2 fun b M3 => if b = true then te aC M3 fun y M4 => gp g tt te ds aC M4 fun ys M5 => Q (y :: ys) M5 else gp g tt te ds aC M3 Q
structure Acc (Γ : Gz) (β : Bz) (D : Addr) (M1 : Mh) (H1 : Hp) (b8 : aA) (M : Mh) (τ : St) (H : Hp) (acc : List V) (bQ : List Dv) : Prop where
  ey : Ey M1 H1 M H
  m : M D = none
  zr : Zr Γ (β.add D) M b8 τ H
  at' : H D = some (.lst acc)
  rs : aG (β.add D) M H acc bQ
  h1 : H1 D = none
  h0 : Γ.H0 D = none
  nt : D ∉ β.tb
theorem Acc.start {D : Addr} {M1 : Mh} {H1 : Hp} {b8 : aA} {τ : St} (zr : Zr Γ β M1 b8 τ H1) (hD : H1 D = none) : Acc Γ β D M1 H1 b8 M1 τ (upd H1 D (.lst [])) [] [] :=
  ⟨Ey.refl.over hD, zr.mz.free hD, zr.enter hD rfl, aD, .nil, hD, zr.ent.gone hD (by
    cases e : Γ.M0 D with
    | none => rfl
    | some u => have := zr.ent.dom D (by rw [e]; rfl); rw [zr.mz.free hD] at this; cases this), zr.mz.BK hD⟩
section
variable {D : Addr} {M1 M M2 : Mh} {H1 H H2 : Hp} {b8 G9 : aA} {τ aC : St} {acc : List V} {bQ : List Dv}
theorem Acc.step (A : Acc Γ β D M1 H1 b8 M τ H acc bQ) (x : Ex (β.add D) M H M2 H2) (z : Zr Γ (β.add D) M2 G9 aC H2) : Acc Γ β D M1 H1 G9 M2 aC H2 acc bQ :=
  ⟨A.ey.trans x.toEy, x.new D _ A.m A.at', z, x.get A.m A.at' rfl, A.rs.ex x, A.h1, A.h0, A.nt⟩
theorem Acc.snoc (A : Acc Γ β D M1 H1 b8 M τ H acc bQ) {y : V} {d : Dv} (r : Rz (β.add D) M H y d) : Acc Γ β D M1 H1 b8 M τ (upd H D (.lst (acc ++ [y]))) (acc ++ [y]) (bQ ++ [d]) := by
  have hD : D ∈ (β.add D).hid := List.mem_cons_self
  exact ⟨A.ey.over A.h1, A.m, A.zr.over hD rfl A.m A.nt A.h0, aD, ⟨by simp [A.rs.len], fun i v d a b => ((A.rs.snoc r).at' i v d a b).over hD⟩, A.h1, A.h0, A.nt⟩
theorem Acc.fz (A : Acc Γ β D M1 H1 b8 M τ H acc bQ) (m1 : Mz β M1 H1) : Fz β M D := ⟨A.m, (m1.fz A.h1).2⟩
theorem Acc.mz (A : Acc Γ β D M1 H1 b8 M τ H acc bQ) : Mz β M H := Mz.sub (β := β.add D) (cu := β) rfl rfl rfl rfl (fun a h => List.mem_cons_of_mem _ h) A.zr.mz
theorem Acc.items (A : Acc Γ β D M1 H1 b8 M τ H acc bQ) : aG β M H acc bQ := ⟨A.rs.len, fun i v d a b => Rz.sub (β := β.add D) (cu := β) rfl rfl rfl (fun a h => List.mem_cons_of_mem _ h) (A.rs.at' i v d a b)⟩
theorem Acc.ex (A : Acc Γ β D M1 H1 b8 M τ H acc bQ) : Ex β M1 H1 M H := ⟨A.ey, A.mz⟩
end
def zComp (tn : Nat) (idx : List Nat) (zi : d7) (g : cx) (tt : cP) (te : aI) : aI := fun ρ M Q => zi ρ M fun ds M1 => ds.length < sizeLine ∧ gp g tt te ds (zBlock tn idx ρ) M1 fun ys M2 => Q (.lst ys) M2
def zCompP (tn : Nat) (idx : List Nat) (zi : d7) (g : cx) (tt : cP) (te : aI) : aI := fun ρ M Q => zi ρ M fun ds M1 => ds.length < sizeLine ∧ gp g tt te ds (zBlock tn idx ρ) M1 fun ys M2 => ∀ a, M2 a = none → Q (.ptr a) (aw M2 a (.lst ys))
variable {zi : d7} {g : cx} {tt : cP} {te : aI} {tn : Nat} {idx : List Nat}
def ll (Γ : Gz) (β : Bz) (D : Addr) (M1 : Mh) (H1 : Hp) (g : cx) (tt : cP) (te : aI) (ds : List Dv) (Q' : List Dv → Mh → Prop) (i m : Nat) (τ : St) (H : Hp) : Prop :=
  m = ds.length - i ∧ i ≤ ds.length ∧ ∃ b8 M acc bQ, Acc Γ β D M1 H1 b8 M τ H acc bQ ∧ acc.length ≤ i ∧ gp g tt te (ds.drop i) b8 M fun ys M2 => Q' (bQ ++ ys) M2
theorem qH {D : Addr} {M1 : Mh} {H1 : Hp} {ds : List Dv} {Q' : List Dv → Mh → Prop} {J : It} (it : y9 β J ds M1 H1) (hlen : ds.length < sizeLine) {i m : Nat} {τ : St} {H : Hp} (w : ll Γ β D M1 H1 g tt te ds Q' i m τ H)
    {C : V → St → Hp → Prop} (hC : ∀ y aC H4 acc, H4 D = some (.lst acc) → acc.length < sizeLine → (∃ m', m' < m ∧ ll Γ β D M1 H1 g tt te ds Q' (i + 1) m' aC (upd H4 D (.lst (acc ++ [y])))) → C y aC H4) :
    (J.stop i H ∧ ∃ b8 M acc bQ, Acc Γ β D M1 H1 b8 M τ H acc bQ ∧ acc.length < sizeLine ∧ Q' bQ M) ∨
    (J.go i H ∧ ∀ x H', J.yld i H x H' → lG Γ g x τ H' fun aC H2 => lT Γ tt aC H2 fun b H3 => if b = true then lE Γ te aC H3 fun y H4 => C y aC H4 else ∃ m', m' < m ∧ ll Γ β D M1 H1 g tt te ds Q' (i + 1) m' aC H3) := by
  obtain ⟨rfl, hi, b8, M, acc, bQ, A, kS, h⟩ := w
  have q := it (β.add D) M H (.add A.h1) A.ey A.zr.mz i
  by_cases aT : i < ds.length
  · refine .inr ⟨(q.1 aT).1, fun x H' y => ?_⟩
    obtain ⟨x2, d, hd, rd⟩ := (q.1 aT).2 x H' y
    have e : ds.drop i = d :: ds.drop (i + 1) := by
      rw [List.drop_eq_getElem_cons aT]
      rw [List.getElem?_eq_getElem aT] at hd
      cases hd
      rfl
    rw [e] at h
    have A2 := A.step x2 (A.zr.step x2)
    refine ⟨β.add D, d, b8, M, _, A2.zr, rd, h, fun fE M3 jN H3 x3 z3 h3 => ?_⟩
    have A3 := A2.step x3 z3
    refine ⟨β.add D, fE, M3, _, z3, h3, fun b M4 H4 x4 h4 => ?_⟩
    have A4 := A3.step x4 (z3.step x4)
    cases b with
    | false =>
      dsimp only at h4 ⊢
      rw [if_neg Bool.false_ne_true] at h4 ⊢
      exact ⟨ds.length - (i + 1), by omega, rfl, aT, fE, M4, acc, bQ, A4, by omega, h4⟩
    | true =>
      dsimp only at h4 ⊢
      rw [if_pos rfl] at h4 ⊢
      refine ⟨β.add D, fE, M4, _, A4.zr, h4, fun yd M5 yv H5 x5 r5 h5 => ?_⟩
      have A5 := A4.step x5 (A4.zr.step x5)
      refine hC yv jN H5 acc A5.at' (by omega) ⟨ds.length - (i + 1), by omega, rfl, aT, fE, M5, acc ++ [yv], bQ ++ [yd], A5.snoc r5, by simp; omega, ?_⟩
      have e2 : (fun ys M2 => Q' (bQ ++ [yd] ++ ys) M2) = fun ys M2 => Q' (bQ ++ yd :: ys) M2 := by
        funext ys M2
        rw [List.append_assoc]
        rfl
      rw [e2]
      exact h5
  · have e : i = ds.length := by omega
    subst e
    rw [List.drop_length] at h
    refine .inl ⟨q.2 (Nat.le_refl _), b8, M, acc, bQ, A, by omega, ?_⟩
    have h' : Q' (bQ ++ []) M := h
    rwa [List.append_nil] at h'
theorem ox {D : Addr} {M1 : Mh} {H1 : Hp} {ds : List Dv} {Q' : List Dv → Mh → Prop} {b8 : aA} {τ : St} (zr : Zr Γ β M1 b8 τ H1) (hD : H1 D = none) (h : gp g tt te ds b8 M1 Q') : ll Γ β D M1 H1 g tt te ds Q' 0 ds.length τ (upd H1 D (.lst [])) :=
  ⟨rfl, Nat.zero_le _, b8, M1, [], [], .start zr hD, Nat.le_refl _, h⟩
theorem zq {σ : St} {H : Hp} {Q : VK} (h : lE Γ (zComp tn idx zi g tt te) σ H Q) : nW tn idx (lI Γ zi) (lG Γ g) (lT Γ tt) (lE Γ te) σ H Q := by
  obtain ⟨β, ρ, M, Q', zr, h, q⟩ := h
  refine ⟨β, ρ, M, _, zr, h, fun ds M1 H1 J x1 it ⟨hlen, h1⟩ D hD => ?_⟩
  have ip := zr.step x1
  refine ⟨ll Γ β D M1 H1 g tt te ds fun ys M2 => Q' (.lst ys) M2, ⟨_, ox (ip.block tn idx) hD h1⟩, fun i m τ H' w => ?_⟩
  rcases qH it hlen w (C := fun y aC H4 => ∃ ys m', H4 D = some (.lst ys) ∧ ys.length < sizeLine ∧ m' < m ∧ ll Γ β D M1 H1 g tt te ds (fun ys M2 => Q' (.lst ys) M2) (i + 1) m' aC (upd H4 D (.lst (ys ++ [y])))) (fun y aC H4 acc e hl ⟨m', hm, w'⟩ => ⟨acc, m', e, hl, hm, w'⟩) with ⟨hs, b8, M', acc, bQ, A, _, hq⟩ | z
  · exact .inl ⟨hs, q _ _ _ _ (x1.trans A.ex) (tH (A.fz ip.mz) A.at' A.items) hq⟩
  · exact .inr z
theorem pD {σ : St} {H : Hp} {Q : VK} (h : lE Γ (zCompP tn idx zi g tt te) σ H Q) : nW tn idx (lI Γ zi) (lG Γ g) (lT Γ tt) (lE Γ te) σ H Q := by
  obtain ⟨β, ρ, M, Q', zr, h, q⟩ := h
  refine ⟨β, ρ, M, _, zr, h, fun ds M1 H1 J x1 it ⟨hlen, h1⟩ D hD => ?_⟩
  have ip := zr.step x1
  refine ⟨ll Γ β D M1 H1 g tt te ds fun ys M2 => ∀ a, M2 a = none → Q' (.ptr a) (aw M2 a (.lst ys)), ⟨_, ox (ip.block tn idx) hD h1⟩, fun i m τ H' w => ?_⟩
  rcases qH it hlen w (C := fun y aC H4 => ∃ ys m', H4 D = some (.lst ys) ∧ ys.length < sizeLine ∧ m' < m ∧ ll Γ β D M1 H1 g tt te ds (fun ys M2 => ∀ a, M2 a = none → Q' (.ptr a) (aw M2 a (.lst ys))) (i + 1) m' aC (upd H4 D (.lst (ys ++ [y])))) (fun y aC H4 acc e hl ⟨m', hm, w'⟩ => ⟨acc, m', e, hl, hm, w'⟩) with ⟨hs, b8, M', acc, bQ, A, _, hq⟩ | z
  · refine .inl ⟨hs, ?_⟩
    have Nt : D ∉ β.hid := (A.fz ip.mz).2
    have hM : M' D = none := A.m
    have mz : Mz β (aw M' D (.lst bQ)) H' := by
      have rz : ∀ {v : V} {d : Dv}, Rz (β.add D) M' H' v d → Rz β (aw M' D (.lst bQ)) H' v d := fun r => by
        have ne : ∀ a, Fz (β.add D) M' a → Fz β (aw M' D (.lst bQ)) a := fun a f => ⟨by rw [ak (fun z => f.2 (by rw [z]; exact List.mem_cons_self))]; exact f.1, fun z => f.2 (List.mem_cons_of_mem _ z)⟩
        induction r with
        | int i => exact .int i
        | bl b => exact .bl b
        | aq => exact .aq
        | str z => exact .str z
        | tup m e hl h ih => exact .tup (ne _ m) e hl ih
        | lst m e hl h ih => exact .lst (ne _ m) e hl ih
        | dk m e hk hl h ih => exact .dk (ne _ m) e hk hl ih
        | dt m e hk hl h ih => exact .dt (ne _ m) e hk hl ih
        | bC m e m2 e2 hl h ih => exact .bC (ne _ m) e (ne _ m2) e2 hl ih
        | set m e => exact .set (ne _ m) e
        | ptr m => exact .ptr (by unfold aw; split; rfl; exact m)
        | exc m e => exact .exc (ne _ m) e
        | bo m e => exact .bo (ne _ m) e
        | cf m e => exact .cf (ne _ m) e
        | cg e => exact .cg e
        | raw v => exact .raw v
      refine ⟨fun a o e => ?_, A.zr.mz.tabs, fun a ha => A.zr.mz.hids a (List.mem_cons_of_mem _ ha), fun a o e z => ?_, A.zr.mz.lams⟩
      by_cases ha : a = D
      · subst ha
        rw [updM_same] at e
        cases e
        exact ⟨acc, A.at', A.rs.len, fun i v d a b => rz (A.rs.at' i v d a b)⟩
      · rw [ak ha] at e
        have z := A.zr.mz.obj a o e
        cases o with
        | lst ds => obtain ⟨vs, z, l, r⟩ := z; exact ⟨vs, z, l, fun i v d a b => rz (r i v d a b)⟩
        | dk ks ds => obtain ⟨vs, z, hk, l, r⟩ := z; exact ⟨vs, z, hk, l, fun i v d a b => rz (r i v d a b)⟩
        | dt ks ds => obtain ⟨vs, z, hk, l, r⟩ := z; exact ⟨vs, z, hk, l, fun i v d a b => rz (r i v d a b)⟩
        | ck => exact z
      · by_cases ha : a = D
        · subst ha; exact Nt z
        · rw [ak ha] at e
          exact A.zr.mz.apart a o e (List.mem_cons_of_mem _ z)
    have ey : Ey M1 H1 (aw M' D (.lst bQ)) H' := ⟨A.ey.keep, fun a h => by unfold aw; split; rfl; exact A.ey.dom a h, fun a o m e => by rw [ak (aU e A.h1)]; exact A.ey.new a o m e⟩
    exact q _ _ _ _ (x1.trans ⟨ey, mz⟩) (.ptr (by rw [updM_same]; rfl)) (hq D hM)
  · exact .inr z
theorem LV {P : Addr} {zi : d7} {R : It → Hp → Prop} {σ : St} {H : Hp} {ρ : aA} {M : Mh} {R' : List Dv → Mh → Prop} (hP : P ∈ Γ.tb) (zr : Zr Γ β M ρ σ H) (h : zi ρ M R') (q : ∀ ds M' H' J, Ex β M H M' H' → y9 β J ds M' H' → R' ds M' → R J H') : Gd P (lI Γ zi) R σ H := by
  refine ⟨β, ρ, M, _, zr, h, fun ds M1 H1 J x1 it h1 => ?_⟩
  have CF : P ∈ β.tb := by rw [zr.et]; exact hP
  refine ⟨x1.mz.tabs P CF, fun ps t => ?_⟩
  have x2 := Ex.grow x1.mz CF t
  refine q ds M1 _ J (x1.trans x2) (fun cu M' H' bx ey mz => it cu M' H' ⟨bx.P, bx.w, bx.K, bx.tb, bx.old, fun a ha => ?_⟩ (x2.toEy.trans ey) mz) h1
  rcases bx.new a ha with z | z
  · exact .inl z
  · right
    cases e : H1 a with
    | none => rfl
    | some o => obtain ⟨u, hu⟩ := BJ (p := P) (o := .cD ps) ⟨o, e⟩; rw [z] at hu; cases hu
def jl (g : cx) (tt : cP) (te : aI) : List Dv → aA → Mh → (Bool → Mh → Prop) → Prop
  | [], _, M, Q => Q true M
  | d :: ds, τ, M, Q => g d τ M fun aC M2 => tt aC M2 fun b M3 => if b = true then te aC M3 (zBool fun c M4 => if c = false then Q false M4 else jl g tt te ds aC M4 Q) else jl g tt te ds aC M3 Q
def zAll (tn : Nat) (idx : List Nat) (zi : d7) (g : cx) (tt : cP) (te : aI) : aI := fun ρ M Q => zi ρ M fun ds M1 => jl g tt te ds (zBlock tn idx ρ) M1 fun b M2 => Q (.bl b) M2
theorem Jq {P : Addr} (hP : P ∈ Γ.tb) {σ : St} {H : Hp} {Q : VK} (h : lE Γ (zAll tn idx zi g tt te) σ H Q) : Ge P tn idx (lI Γ zi) (lG Γ g) (lT Γ tt) (lE Γ te) σ H Q := by
  obtain ⟨β, ρ, M, Q', zr, h, q⟩ := h
  refine LV hP zr h fun ds M1 H1 J x1 it h1 => ?_
  have ip := zr.step x1
  refine ⟨fun i m τ H' => m = ds.length - i ∧ i ≤ ds.length ∧ ∃ b8 M', Ex β M1 H1 M' H' ∧ Zr Γ β M' b8 τ H' ∧ jl g tt te (ds.drop i) b8 M' fun b M2 => Q' (.bl b) M2, ⟨_, rfl, Nat.zero_le _, _, M1, .refl x1.mz, ip.block tn idx, h1⟩, ?_⟩
  rintro i m τ H' ⟨rfl, hi, b8, M', x', eL, h'⟩
  have qq := it β M' H' .refl x'.toEy x'.mz i
  by_cases aT : i < ds.length
  · refine .inr ⟨(qq.1 aT).1, fun x jI y => ?_⟩
    obtain ⟨x2, d, hd, rd⟩ := (qq.1 aT).2 x jI y
    have e : ds.drop i = d :: ds.drop (i + 1) := by
      rw [List.drop_eq_getElem_cons aT]
      rw [List.getElem?_eq_getElem aT] at hd
      cases hd
      rfl
    rw [e] at h'
    refine ⟨β, d, b8, M', _, eL.step x2, rd, h', fun fE M3 jN H3 x3 z3 h3 => ⟨β, fE, M3, _, z3, h3, fun b M4 H4 x4 h4 => ?_⟩⟩
    have kq := x'.trans (x2.trans (x3.trans x4))
    cases b with
    | false =>
      dsimp only at h4 ⊢
      rw [if_neg Bool.false_ne_true] at h4 ⊢
      exact ⟨ds.length - (i + 1), by omega, rfl, aT, fE, M4, kq, z3.step x4, h4⟩
    | true =>
      dsimp only at h4 ⊢
      rw [if_pos rfl] at h4 ⊢
      refine ⟨β, fE, M4, _, z3.step x4, h4, fun yd M5 yv H5 x5 r5 h5 => ?_⟩
      obtain ⟨k, rfl, h6⟩ := iS h5
      refine ⟨k, de r5, ?_⟩
      cases k with
      | false =>
        rw [if_pos rfl] at h6 ⊢
        exact q _ _ _ _ (x1.trans (kq.trans x5)) (.bl _) h6
      | true =>
        rw [if_neg (by decide)] at h6 ⊢
        exact ⟨ds.length - (i + 1), by omega, rfl, aT, fE, M5, kq.trans x5, (z3.step x4).step x5, h6⟩
  · have e : i = ds.length := by omega
    subst e
    rw [List.drop_length] at h'
    exact .inl ⟨qq.2 (Nat.le_refl _), q _ _ _ _ (x1.trans x') (.bl _) h'⟩
end
section
variable {X : Cx} {Γ : Gz} {β : Bz} {K : PySem.W.Frag}
def zII (f : Int → Int → Dv) : d8 := fun d e M Q => match d, e with | .int i, .int j => Q (f i j) M | _, _ => False
def zIC (C : Int → Int → Prop) (f : Int → Int → Dv) : d8 := fun d e M Q => match d, e with | .int i, .int j => C i j ∧ Q (f i j) M | _, _ => False
theorem lq {g : Int → Int → V} {f : Int → Int → Dv} (h : ∀ β M H i j, Rz β M H (g i j) (f i j)) : oq Γ (p0 g) (zII f) := fun β x y d e M H Q Q' _ _ _ m rx ry z q => by
  unfold zII at z
  split at z
  · exact ⟨_, _, aL rx, aL ry, q _ _ _ _ (.refl m) (h ..) z⟩
  · exact z.elim
theorem oy {C : Int → Int → Prop} {g : Int → Int → V} {f : Int → Int → Dv} (h : ∀ β M H i j, Rz β M H (g i j) (f i j)) : oq Γ (rI C g) (zIC C f) := fun β x y d e M H Q Q' _ _ _ m rx ry z q => by
  unfold zIC at z
  split at z
  · exact ⟨_, _, aL rx, aL ry, z.1, q _ _ _ _ (.refl m) (h ..) z.2⟩
  · exact z.elim
theorem gq : eJ Γ X (binaryOp .Add) (zII fun i j => .int (i + j)) := ⟨_, FE, lq fun _ _ _ _ _ => .int _⟩
theorem Jr : eJ Γ X (binaryOp .Sub) (zII fun i j => .int (i - j)) := ⟨_, FG, lq fun _ _ _ _ _ => .int _⟩
theorem mi : eJ Γ X (binaryOp .Mult) (zIC vU fun i j => .int (i * j)) := ⟨_, FH, oy fun _ _ _ _ _ => .int _⟩
theorem zt : eJ Γ X (binaryOp .FloorDiv) (zIC FC fun i j => .int (i / j)) := ⟨_, DR, oy fun _ _ _ _ _ => .int _⟩
theorem ix : eJ Γ X (binaryOp .Mod) (zIC (fun _ j => 0 < j) fun i j => .int (i % j)) := ⟨_, FI, oy fun _ _ _ _ _ => .int _⟩
theorem Js : eJ Γ X (binaryOp .Pow) (zIC FD fun i j => .int (i ^ j.toNat)) := ⟨_, FJ, oy fun _ _ _ _ _ => .int _⟩
theorem nj : eJ Γ X (compareOp .Lt) (zII fun i j => .bl (decide (i < j))) := ⟨_, IQ, lq fun _ _ _ _ _ => .bl _⟩
theorem wO : eJ Γ X (compareOp .LtE) (zII fun i j => .bl (decide (i ≤ j))) := ⟨_, IU, lq fun _ _ _ _ _ => .bl _⟩
theorem LW : eJ Γ X (compareOp .Gt) (zII fun i j => .bl (decide (j < i))) := ⟨_, IV, lq fun _ _ _ _ _ => .bl _⟩
def scalZ (d e : Dv) : Option Bool := match d with
  | .int i => (match e with | .int j => some (decide (i = j)) | .aq => some false | .str _ => some false | _ => none)
  | .bl i => (match e with | .bl j => some (decide (i = j)) | .aq => some false | .str _ => some false | _ => none)
  | .str i => (match e with | .str j => some (decide (i = j)) | .aq => some false | .int _ => some false | .bl _ => some false | _ => none)
  | .aq => (match e with | .aq => some true | .int _ => some false | .bl _ => some false | .str _ => some false | _ => none)
  | _ => none
def zEq : d8 := fun d e M Q => match scalZ d e with | some b => Q (.bl b) M | none => False
def zNe : d8 := fun d e M Q => match scalZ d e with | some b => Q (.bl (!b)) M | none => False
theorem tM {M : Mh} {H : Hp} {x y : V} {d e : Dv} {b : Bool} (rx : Rz β M H x d) (ry : Rz β M H y e) (h : scalZ d e = some b) : AU x y = true ∧ decide (x = y) = b := by
  unfold scalZ at h
  split at h
  · rw [aL rx]
    split at h <;> cases h
    · rw [aL ry]; exact ⟨rfl, by simp⟩
    · rw [fP ry]; exact ⟨rfl, by simp⟩
    · rw [c0 ry]; exact ⟨rfl, by simp⟩
  · rw [de rx]
    split at h <;> cases h
    · rw [de ry]; exact ⟨rfl, by simp⟩
    · rw [fP ry]; exact ⟨rfl, by simp⟩
    · rw [c0 ry]; exact ⟨rfl, by simp⟩
  · rw [c0 rx]
    split at h <;> cases h
    · rw [c0 ry]; exact ⟨rfl, by simp⟩
    · rw [fP ry]; exact ⟨rfl, by simp⟩
    · rw [aL ry]; exact ⟨rfl, by simp⟩
    · rw [de ry]; exact ⟨rfl, by simp⟩
  · rw [fP rx]
    split at h <;> cases h
    · rw [fP ry]; exact ⟨rfl, by simp⟩
    · rw [aL ry]; exact ⟨rfl, by simp⟩
    · rw [de ry]; exact ⟨rfl, by simp⟩
    · rw [c0 ry]; exact ⟨rfl, by simp⟩
  · cases h
theorem jZ : eJ Γ X (compareOp .Eq) zEq := ⟨_, IM, fun β x y d e M H Q Q' _ _ _ m rx ry z q => by
  unfold zEq at z
  split at z
  · rename_i b hb
    obtain ⟨h1, h2⟩ := tM rx ry hb
    exact ⟨h1, by rw [h2]; exact q _ _ _ _ (.refl m) (.bl _) z⟩
  · exact z.elim⟩
theorem tN : eJ Γ X (compareOp .NotEq) zNe := ⟨_, IP, fun β x y d e M H Q Q' _ _ _ m rx ry z q => by
  unfold zNe at z
  split at z
  · rename_i b hb
    obtain ⟨h1, h2⟩ := tM rx ry hb
    exact ⟨h1, by rw [h2]; exact q _ _ _ _ (.refl m) (.bl _) z⟩
  · exact z.elim⟩
def isNonD : Dv → Option Bool
  | .aq => some true
  | .raw _ => none
  | _ => some false
theorem zu {M : Mh} {H : Hp} {x : V} {d : Dv} {b : Bool} (r : Rz β M H x d) (h : isNonD d = some b) : decide (x = .aq) = b := by
  cases r <;> simp [isNonD] at h ⊢ <;> exact h
def zIsN (neg : Bool) : d8 := fun d e M Q => match e, isNonD d with | .aq, some b => Q (.bl (if neg then !b else b)) M | _, _ => False
theorem rR : eJ Γ X (compareOp .Is) (zIsN false) := ⟨_, FK, fun β x y d e M H Q Q' _ _ _ m rx ry z q => by
  unfold zIsN at z
  split at z
  · rename_i b hb
    exact ⟨fP ry, by rw [zu rx hb]; exact q _ _ _ _ (.refl m) (.bl _) z⟩
  · exact z.elim⟩
def zSS (C : Str → Str → Prop) (f : Str → Str → Dv) : d8 := fun d e M Q => match d, e with | .str i, .str j => C i j ∧ Q (f i j) M | _, _ => False
theorem qJ : eJ Γ X (binaryOp .Add) (zSS (fun i j => i.length + j.length ≤ sizeLine) fun i j => .str (i ++ j)) := ⟨_, vX, fun β x y d e M H Q Q' _ _ _ m rx ry z q => by
  unfold zSS at z
  split at z
  · exact ⟨_, _, c0 rx, c0 ry, z.1, q _ _ _ _ (.refl m) (.str _) z.2⟩
  · exact z.elim⟩
mutual
def cp : Dv → Option Dt
  | .int i => some (.int i)
  | .bl b => some (.bl b)
  | .aq => some .aq
  | .str z => some (.str z)
  | .tup ds => (mj ds).map .tup
  | .lst ds => (mj ds).map .lst
  | _ => none
def mj : List Dv → Option (List Dt)
  | [] => some []
  | d :: ds => match cp d, mj ds with | some a, some as => some (a :: as) | _, _ => none
end
theorem j0 : ∀ {ds : List Dv} {ts : List Dt}, mj ds = some ts → ds.length = ts.length ∧ ∀ (i : Nat) (d : Dv) (t : Dt), ds[i]? = some d → ts[i]? = some t → cp d = some t
  | [], ts, h => by simp only [mj, Option.some.injEq] at h; subst h; exact ⟨rfl, fun i d t a => by simp at a⟩
  | d :: ds, ts, h => by
    simp only [mj] at h
    split at h
    · rename_i a as h1 h2
      cases h
      obtain ⟨hl, q⟩ := j0 h2
      refine ⟨by simp [hl], fun i e t x y => ?_⟩
      cases i with
      | zero => simp at x y; subst x y; exact h1
      | succ i => rw [List.getElem?_cons_succ] at x y; exact q i e t x y
    · cases h
theorem zv {M : Mh} {H : Hp} {v : V} {d : Dv} (h : Rz β M H v d) : ∀ {t : Dt}, cp d = some t → eF H v t := by
  induction h with
  | int i => intro t e; simp only [cp, Option.some.injEq] at e; subst e; exact .int i
  | bl b => intro t e; simp only [cp, Option.some.injEq] at e; subst e; exact .bl b
  | aq => intro t e; simp only [cp, Option.some.injEq] at e; subst e; exact .aq
  | str z => intro t e; simp only [cp, Option.some.injEq] at e; subst e; exact .str z
  | tup m e hl h ih =>
    intro t q
    simp only [cp, Option.map_eq_some_iff] at q
    obtain ⟨ts, q, rfl⟩ := q
    obtain ⟨l2, at2⟩ := j0 q
    refine .tup e (hl.trans l2) fun i x d hx hd => ?_
    have hi := (List.getElem?_eq_some_iff.mp hd).1
    have := List.getElem?_eq_getElem (l := _) (i := i) (show i < _ from l2 ▸ hi)
    exact ih i x _ hx this (at2 i _ _ this hd)
  | lst m e hl h ih =>
    intro t q
    simp only [cp, Option.map_eq_some_iff] at q
    obtain ⟨ts, q, rfl⟩ := q
    obtain ⟨l2, at2⟩ := j0 q
    refine .lst e (hl.trans l2) fun i x d hx hd => ?_
    have hi := (List.getElem?_eq_some_iff.mp hd).1
    have := List.getElem?_eq_getElem (l := _) (i := i) (show i < _ from l2 ▸ hi)
    exact ih i x _ hx this (at2 i _ _ this hd)
  | set m e => intro t q; simp [cp] at q
  | ptr m => intro t q; simp [cp] at q
  | exc m e => intro t q; simp [cp] at q
  | bo m e => intro t q; simp [cp] at q
  | cf m e => intro t q; simp [cp] at q
  | cg e => intro t q; simp [cp] at q
  | dk m e hk hl h ih => intro t q; simp [cp] at q
  | dt m e hk hl h ih => intro t q; simp [cp] at q
  | bC m e m2 e2 hl h ih => intro t q; simp [cp] at q
  | raw v => intro t q; simp [cp] at q
def now (M : Mh) : Dv → Dv
  | .ptr a => match M a with | some (.lst ds) => .lst ds | _ => .ptr a
  | d => d
theorem vw {M : Mh} {H : Hp} {v : V} {d : Dv} (m : Mz β M H) (h : Rz β M H v d) {t : Dt} (e : cp (now M d) = some t) : eF H v t := by
  cases d with
  | ptr a =>
    simp only [now] at e
    obtain ⟨rfl, hs⟩ := b7 h
    cases q : M a with
    | none => rw [q] at hs; cases hs
    | some o =>
      rw [q] at e
      cases o with
      | ck => simp [cp] at e
      | dk ks es => simp [cp] at e
      | dt ks es => simp [cp] at e
      | lst ds =>
        obtain ⟨vs, hv, rs⟩ := m.obj a _ q
        simp only [cp, Option.map_eq_some_iff] at e
        obtain ⟨ts, q, rfl⟩ := e
        obtain ⟨l2, at2⟩ := j0 q
        refine .lst hv (rs.len.trans l2) fun i x d hx hd => ?_
        have hi := (List.getElem?_eq_some_iff.mp hd).1
        have := List.getElem?_eq_getElem (l := _) (i := i) (show i < _ from l2 ▸ hi)
        exact zv (rs.at' i x _ hx this) (at2 i _ _ this hd)
  | _ => exact zv h e
def tO (neg : Bool) : d8 := fun d e M Q => match cp (now M d), cp (now M e) with | some a, some b => kX a ≤ 60 ∧ Q (.bl (if neg then !eG a b else eG a b)) M | _, _ => False
theorem El {neg : Bool} : oq Γ (GC neg) (tO neg) := fun β x y d e M H Q Q' _ _ _ m rx ry z q => by
  unfold tO at z
  split at z
  · rename_i a b h1 h2
    exact ⟨a, b, vw m rx h1, vw m ry h2, z.1, q _ _ _ _ (.refl m) (.bl _) z.2⟩
  · exact z.elim
theorem rS (hu : X.A.units + 64 < cLine) : eJ Γ X (compareOp .Eq) (tO false) := ⟨_, GD hu, El⟩
def itemsM (M : Mh) : Dv → Option (List Dv)
  | .tup ds => some ds
  | .lst ds => some ds
  | .ptr a => match M a with | some (.lst ds) => some ds | _ => none
  | _ => none
theorem j1 {M : Mh} {H : Hp} {x : V} {d : Dv} {ds : List Dv} (m : Mz β M H) (r : Rz β M H x d) (h : itemsM M d = some ds) : ∃ a vs, x = .ref a ∧ (H a = some (.lst vs) ∨ H a = some (.tup vs)) ∧ aG β M H vs ds := by
  cases d with
  | tup es => cases h; obtain ⟨a, vs, e, _, h, rs⟩ := cZ r; exact ⟨a, vs, e, .inr h, rs⟩
  | lst es => cases h; obtain ⟨a, vs, e, _, h, rs⟩ := dS r; exact ⟨a, vs, e, .inl h, rs⟩
  | ptr a =>
    obtain ⟨rfl, hs⟩ := b7 r
    simp only [itemsM] at h
    split at h
    · rename_i es q
      cases h
      obtain ⟨vs, hv, rs⟩ := m.obj a _ q
      exact ⟨a, vs, rfl, .inl hv, rs⟩
    · cases h
  | _ => cases h
theorem Em {M : Mh} {H : Hp} {vs : List V} {ds : List Dv} (rs : aG β M H vs ds) {i : Int} {d : Dv} (h : di ds i = some d) : ∃ v, di vs i = some v ∧ Rz β M H v d := by
  unfold di at h ⊢
  rw [rs.len]
  cases e : gY ds.length i with
  | none => rw [e] at h; cases h
  | some j =>
    rw [e] at h
    obtain ⟨v, hv, r⟩ := rs.get (i := j) (d := d) h
    exact ⟨v, hv, r⟩
def Ha (Γ : Gz) (X : Cx) (z : d8) : Prop := ∃ r, kF X r ∧ oq Γ r z
def zIx : d8 := fun d e M Q => match e with
  | .int i => (match d with
    | .str z => z.length ≤ sizeLine ∧ (match di z.cps.toList i with | some c => Q (.str ⟨#[c]⟩) M | none => False)
    | _ => match itemsM M d with | some ds => (match di ds i with | some r => Q r M | none => False) | none => False)
  | _ => False
theorem dj (hK : X.K = K) : Ha Γ X zIx := ⟨_, vc hK, fun β x y d e M H Q Q' _ _ _ m rx ry z q => by
  unfold zIx at z
  split at z
  · rename_i i
    have hy := aL ry
    split at z
    · rename_i s
      obtain ⟨hz, z⟩ := z
      split at z
      · rename_i c hc
        exact .inr (.inr ⟨s, i, c, c0 rx, hy, hz, hc, q _ _ _ _ (.refl m) (.str _) z⟩)
      · exact z.elim
    · split at z
      · rename_i ds qK
        obtain ⟨a, vs, rfl, ha, rs⟩ := j1 m rx qK
        split at z
        · rename_i r hr
          obtain ⟨v, hv, rv⟩ := Em rs hr
          have z' := q _ _ _ _ (.refl m) rv z
          rcases ha with ha | ha
          · exact .inl ⟨a, vs, i, v, rfl, hy, bE.of ha, hv, z'⟩
          · exact .inr (.inl ⟨a, vs, i, v, rfl, hy, cO.of ha, hv, z'⟩)
        · exact z.elim
      · exact z.elim
  · exact z.elim⟩
theorem bP {a b : Expr} {pa pb : aI} {z : d8} {pos : Pos} (hr : Ha Γ X z) (ha : QE Γ X a pa) (hb : QE Γ X b pb) (hs : va b) : QE Γ X (.Subscript a b pos) (zOp z pa pb) := by
  obtain ⟨r, h1, h2⟩ := hr
  exact (IX h1 ha hb hs).imp fun σ H Q h => wN h2 h
end
section
variable {X : Cx} {Γ : Gz} {β : Bz} {K : PySem.W.Frag}
section
variable {x : Str} {p pos : Pos} {e : Expr} {es : List Expr} {za : eA} {id T : String} {z : qF}
theorem av (hc : eX Γ X (.builtin id) z) (hg : Gl X x) (hm : X.mg x = none) (hv : bootBuiltins x = some (.builtin id)) (ha : QA Γ X (e :: es) za) (hn : x ≠ "__name__" := by decide) (eE : (x == ("__debug__" : Str)) = false := by decide)
    (he : starEach (e :: es) X.env = (false, eval e X.env) :: starEach es X.env := by rfl) (bR : (backTo pos (starEach es X.env)).any (·.1) = false := by rfl) : QE Γ X (.Call (.Name x p) (e :: es) [] pos) (zCB z za) := by
  obtain ⟨r, h1, h2⟩ := hc
  exact (A6 h1 hg hm hv ha hn eE he bR).imp fun σ H Q h => G5 h2 h
theorem eO (hc : eX Γ X (.type T) z) (hg : Gl X x) (hm : X.mg x = none) (hv : bootBuiltins x = some (.type T)) (ha : QA Γ X (e :: es) za) (hn : x ≠ "__name__" := by decide) (eE : (x == ("__debug__" : Str)) = false := by decide)
    (he : starEach (e :: es) X.env = (false, eval e X.env) :: starEach es X.env := by rfl) (bR : (backTo pos (starEach es X.env)).any (·.1) = false := by rfl) : QE Γ X (.Call (.Name x p) (e :: es) [] pos) (zCB z za) := by
  obtain ⟨r, h1, h2⟩ := hc
  exact (ya h1 hg hm hv ha hn eE he bR).imp fun σ H Q h => G5 h2 h
end
def z1 (f : Dv → Mh → ZK → Prop) : qF := fun ds M Q => match ds with | [d] => f d M Q | _ => False
def zLenD (d : Dv) (M : Mh) (Q : ZK) : Prop := match d with
  | .str s => s.length ≤ sizeLine ∧ Q (.int s.length) M
  | .bo ns => Q (.int ns.length) M
  | _ => match itemsM M d with | some ds => Q (.int ds.length) M | none => False
theorem dB (hK : X.K = K) (hG : K = Γ.K) : eX Γ X (.builtin "len") (z1 zLenD) := ⟨_, yy hK, fun β xs ds M H Q Q' _ _ eK m rs z q => by
  rw [← hG] at eK
  unfold z1 at z
  split at z
  · rename_i d
    obtain ⟨x, rfl, r⟩ := dG rs
    unfold zLenD at z
    split at z
    · rename_i s
      have e := c0 r
      subst e
      exact ⟨_, _, rfl, ⟨z.1, rfl⟩, q _ _ _ _ (.refl m) (.int _) z.2⟩
    · rename_i ns
      obtain ⟨a, rfl, h⟩ := qE r
      rw [eK] at h
      exact ⟨_, ns.length, rfl, .inl ⟨_, h, by simp⟩, q _ _ _ _ (.refl m) (.int _) z⟩
    · split at z
      · rename_i ds qK
        obtain ⟨a, vs, rfl, ha, eQ⟩ := j1 m r qK
        have q' := q _ _ (.int ds.length) _ (.refl m) (.int _) z
        rcases ha with ha | ha
        · exact ⟨_, ds.length, rfl, .inl ⟨vs, bE.of ha, eQ.len.symm⟩, q'⟩
        · exact ⟨_, ds.length, rfl, .inr ⟨vs, cO.of ha, eQ.len.symm⟩, q'⟩
      · exact z.elim
  · exact z.elim⟩
def z2I (f : Int → Int → Int) : qF := fun ds M Q => match ds with | [.int i, .int j] => Q (.int (f i j)) M | _ => False
theorem Hb (hc : X.calm = true) : eX Γ X (.builtin "max") (z2I fun i j => if j > i then j else i) := ⟨_, xT hc, fun β xs ds M H Q Q' _ _ _ m rs z q => by
  unfold z2I at z
  split at z
  · obtain ⟨x, y, rfl, r, r'⟩ := mh rs
    rw [aL r, aL r']
    exact ⟨_, _, rfl, q _ _ _ _ (.refl m) (.int _) z⟩
  · exact z.elim⟩
theorem zx (hc : X.calm = true) : eX Γ X (.builtin "min") (z2I fun i j => if j < i then j else i) := ⟨_, xU hc, fun β xs ds M H Q Q' _ _ _ m rs z q => by
  unfold z2I at z
  split at z
  · obtain ⟨x, y, rfl, r, r'⟩ := mh rs
    rw [aL r, aL r']
    exact ⟨_, _, rfl, q _ _ _ _ (.refl m) (.int _) z⟩
  · exact z.elim⟩
def zAbs (d : Dv) (M : Mh) (Q : ZK) : Prop := match d with | .int i => Q (.int (if i < 0 then -i else i)) M | _ => False
theorem Jt : eX Γ X (.builtin "abs") (z1 zAbs) := ⟨_, AZ, fun β xs ds M H Q Q' _ _ _ m rs z q => by
  unfold z1 at z
  split at z
  · obtain ⟨x, rfl, r⟩ := dG rs
    unfold zAbs at z
    split at z
    · rw [aL r]
      exact ⟨_, rfl, q _ _ _ _ (.refl m) (.int _) z⟩
    · exact z.elim
  · exact z.elim⟩
def zTuple (d : Dv) (M : Mh) (Q : ZK) : Prop := match itemsM M d with | some ds => Q (.tup ds) M | none => False
theorem mn (hK : X.K = K) : eX Γ X (.type "tuple") (z1 zTuple) := ⟨_, ph hK, fun β xs ds M H Q Q' _ _ _ m rs z q => by
  unfold z1 at z
  split at z
  · rename_i d
    obtain ⟨x, rfl, r⟩ := dG rs
    unfold zTuple at z
    split at z
    · rename_i ds qK
      obtain ⟨a, vs, rfl, ha, eQ⟩ := j1 m r qK
      refine ⟨a, vs, rfl, ?_⟩
      rcases ha with ha | ha
      · refine .inl ⟨bE.of ha, fun l hl => ?_⟩
        have x2 := Ex.lay m hl (.tup vs)
        exact q _ _ _ _ x2 (jF (m.fz hl) aD (eQ.ex x2)) z
      · refine .inr ⟨cO.of ha, ?_⟩
        have f : Fz β M a := by
          cases d with
          | tup es => obtain ⟨b, us, e, f, _⟩ := cZ r; cases e; exact f
          | lst es => obtain ⟨b, us, e, f, _⟩ := dS r; cases e; exact f
          | ptr b =>
            obtain ⟨e, hs⟩ := b7 r
            cases e
            cases q2 : M a with
            | none => rw [q2] at hs; cases hs
            | some o => have := m.jG ha rfl; rw [q2] at this; cases this
          | _ => cases qK
        exact q _ _ _ _ (.refl m) (jF f ha eQ) z
    · exact z.elim
  · exact z.elim⟩
def gT : List Dv → Option (List Int)
  | [] => some []
  | .int i :: ds => (gT ds).map (i :: ·)
  | _ :: _ => none
theorem tP : ∀ {ds : List Dv} {ns : List Int}, gT ds = some ns → ds = ns.map Dv.int
  | [], ns, h => by simp only [gT, Option.some.injEq] at h; subst h; rfl
  | d :: ds, ns, h => by
    cases d with
    | int i =>
      simp only [gT, Option.map_eq_some_iff] at h
      obtain ⟨ms, h, rfl⟩ := h
      rw [tP h]
      rfl
    | _ => simp [gT] at h
theorem qM : ∀ ns : List Int, gT (ns.map Dv.int) = some ns
  | [] => rfl
  | n :: ns => by simp [gT, qM ns]
theorem nq {M : Mh} {H : Hp} : ∀ {vs : List V} {ns : List Int}, aG β M H vs (ns.map Dv.int) → vs = ns.map V.int
  | [], [], _ => rfl
  | [], _ :: _, r => absurd r.len (by simp)
  | _ :: _, [], r => absurd r.len (by simp)
  | v :: vs, n :: ns, r => by
    rw [List.map_cons] at r
    rw [List.map_cons, aL r.head, nq r.tail]
theorem j4 {M : Mh} {H : Hp} : ∀ {ns : List Int}, aG β M H (ns.map V.int) (ns.map Dv.int)
  | [] => .nil
  | n :: ns => .cons (.int _) j4
def intsM (M : Mh) (d : Dv) : Option (List Int) := match d with | .set ns => some ns | _ => (itemsM M d).bind gT
def zSorted (d : Dv) (M : Mh) (Q : ZK) : Prop := match intsM M d with | some ns => ns.length < 64 ∧ Q (.lst ((sortI ns).map .int)) M | none => False
theorem qN {M : Mh} {H : Hp} {x : V} {d : Dv} {ns : List Int} (m : Mz β M H) (r : Rz β M H x d) (h : (itemsM M d).bind gT = some ns) : ∃ a, x = .ref a ∧ (H a = some (.lst (ns.map V.int)) ∨ H a = some (.tup (ns.map V.int))) := by
  cases e : itemsM M d with
  | none => rw [e] at h; cases h
  | some ds =>
    rw [e] at h
    obtain ⟨a, vs, rfl, ha, rs⟩ := j1 m r e
    have e2 := tP (ns := ns) h
    subst e2
    have := nq rs
    subst this
    exact ⟨a, rfl, ha⟩
theorem tQ (hP : X.prog = Γ.P) (hw : X.w = Γ.w) (hK : X.K = K) (hc : X.calm = true) : eX Γ X (.builtin "sorted") (z1 zSorted) := ⟨_, rC hP hw hK hc, fun β xs ds M H Q Q' eP ew _ m rs z q => by
  unfold z1 at z
  split at z
  · rename_i d
    obtain ⟨x, rfl, r⟩ := dG rs
    unfold zSorted at z
    split at z
    · rename_i ns fL
      have fin : ∀ l, H l = none → Q (.ref l) (upd H l (.lst ((sortI ns).map V.int))) := fun l hl => by
        have x2 := Ex.lay m hl (.lst ((sortI ns).map V.int))
        exact q _ _ _ _ x2 (tH (m.fz hl) aD j4) z.2
      unfold intsM at fL
      split at fL
      · cases fL
        obtain ⟨a, rfl, f, h⟩ := y8 r
        rw [eP, ew] at h
        exact ⟨a, _, rfl, .inl h, z.1, fin⟩
      · obtain ⟨a, rfl, ha⟩ := qN m r fL
        exact ⟨a, _, rfl, .inr (ha.imp bE.of cO.of), z.1, fin⟩
    · exact z.elim
  · exact z.elim⟩
def zSet (d : Dv) (M : Mh) (Q : ZK) : Prop := match (itemsM M d).bind gT with | some ns => ns.length + 1 < scanBound ∧ Q (.set (cT ns)) M | none => False
theorem Ju (hP : X.prog = Γ.P) (hw : X.w = Γ.w) (hK : X.K = K) (hc : X.calm = true) : eX Γ X (.type "set") (z1 zSet) := by
  refine ⟨tj Γ.P Γ.w K, by rw [← hP, ← hw]; exact wG hK hc, fun β xs ds M H Q Q' eP ew _ m rs z q => ?_⟩
  unfold z1 at z
  split at z
  · rename_i d
    obtain ⟨x, rfl, r⟩ := dG rs
    unfold zSet at z
    split at z
    · rename_i ns fL
      obtain ⟨a, rfl, ha⟩ := qN m r fL
      refine ⟨a, ns, rfl, ha.imp bE.of cO.of, z.1, fun l hl => ?_⟩
      have x2 := Ex.lay m hl (fB Γ.P Γ.w l (cT ns))
      exact q _ _ _ _ x2 (.set (m.fz hl) (by rw [eP, ew]; exact aD)) z.2
    · exact z.elim
  · exact z.elim
def isD (T : String) (M : Mh) (d : Dv) : Option Bool := match d with
  | .int _ => some (T == "int") | .bl _ => some (T == "int" || T == "bool") | .aq => some false | .str _ => some (T == "str") | .tup _ => some (T == "tuple") | .lst _ => some (T == "list") | .ptr a => (match M a with | some (.lst _) => some (T == "list") | some .ck => some (T == "list") | some _ => some false | none => none) | _ => none
def pE : List String := ["int", "bool", "str", "tuple", "list"]
def zIsInst : qF := fun ds M Q => match ds with | [d, .raw (.ty T)] => T ∈ pE ∧ (match isD T M d with | some b => Q (.bl b) M | none => False) | _ => False
theorem Hc {K : PySem.W.Frag} {M : Mh} {H : Hp} {x : V} {d : Dv} {T : String} {b : Bool} (m : Mz β M H) (hT : T ∈ pE) (r : Rz β M H x d) (h : isD T M d = some b) : ∃ t, fA K H x t ∧ PySem.W.kitOne K t (.type T) = some b := by
  have mP : T = "int" ∨ T = "bool" ∨ T = "str" ∨ T = "tuple" ∨ T = "list" := by simpa [pE] using hT
  cases r with
  | int i => cases h; exact ⟨_, .int i, by rcases mP with rfl | rfl | rfl | rfl | rfl <;> rfl⟩
  | bl i => cases h; exact ⟨_, .bl i, by rcases mP with rfl | rfl | rfl | rfl | rfl <;> rfl⟩
  | aq => cases h; exact ⟨_, .aq, by rcases mP with rfl | rfl | rfl | rfl | rfl <;> rfl⟩
  | str i => cases h; exact ⟨_, .str i, by rcases mP with rfl | rfl | rfl | rfl | rfl <;> rfl⟩
  | tup f e hl q => cases h; exact ⟨_, .tup e, by rcases mP with rfl | rfl | rfl | rfl | rfl <;> rfl⟩
  | lst f e hl q => cases h; exact ⟨_, .lst e, by rcases mP with rfl | rfl | rfl | rfl | rfl <;> rfl⟩
  | ptr hs =>
    rename_i a
    cases q2 : M a with
    | none => rw [q2] at hs; cases hs
    | some o =>
      simp only [isD, q2] at h
      have q := m.obj a o q2
      cases o with
      | lst ds => obtain ⟨vs, e, _⟩ := q; cases h; exact ⟨_, .lst e, by rcases mP with rfl | rfl | rfl | rfl | rfl <;> rfl⟩
      | ck => obtain ⟨_, _, e, _⟩ := q; cases h; exact ⟨_, .lst e, by rcases mP with rfl | rfl | rfl | rfl | rfl <;> rfl⟩
      | dk ks ds => obtain ⟨vs, e, _⟩ := q; cases h; exact ⟨_, .dK e, by rcases mP with rfl | rfl | rfl | rfl | rfl <;> rfl⟩
      | dt ks ds => obtain ⟨vs, e, _⟩ := q; cases h; exact ⟨_, .dT e, by rcases mP with rfl | rfl | rfl | rfl | rfl <;> rfl⟩
  | set f e => cases h
  | exc f e => cases h
  | bo f e => cases h
  | cf f e => cases h
  | cg e => cases h
  | raw v => cases h
  | dk f e _ _ _ => cases h
  | dt f e _ _ _ => cases h
  | bC _ _ _ _ _ _ => cases h
theorem aQ (hK : X.K = K) : eX Γ X (.builtin "isinstance") zIsInst := ⟨_, sM hK, fun β xs ds M H Q Q' _ _ _ m rs z q => by
  unfold zIsInst at z
  split at z
  · obtain ⟨x, y, rfl, r, r'⟩ := mh rs
    rw [y7 r']
    obtain ⟨hT, z⟩ := z
    split at z
    · rename_i b hb
      obtain ⟨t, ht, hk⟩ := Hc (K := K) m hT r hb
      exact ⟨_, _, t, b, rfl, ht, hk, q _ _ _ _ (.refl m) (.bl _) z⟩
    · exact z.elim
  · exact z.elim⟩
abbrev tR := Dv → List Dv → Mh → ZK → Prop
def zy (Γ : Gz) (X : Cx) (T id : String) (K : PySem.W.Frag) (z : tR) : Prop := ∃ r, yb X id r ∧ ∀ (β : Bz) x xs d ds M H Q Q', β.P = Γ.P → β.w = Γ.w → β.K = Γ.K → Mz β M H → Rz β M H x d → aG β M H xs ds → z d ds M Q' → (∀ d' M' v H', Ex β M H M' H' → Rz β M' H' v d' → Q' d' M' → Q v H') → r x xs H Q
def tyZ (T : String) (M : Mh) : Dv → Prop
  | .ptr a => match M a with | some (.lst _) => T = "list" | some .ck => T = "list" | some (.dk _ _) => T = "dict" | some (.dt _ _) => T = "dict" | none => False
  | .lst _ => T = "list"
  | .tup _ => T = "tuple"
  | .str _ => T = "str"
  | _ => False
theorem zz {M : Mh} {H : Hp} {x : V} {d : Dv} {T : String} (m : Mz β M H) (r : Rz β M H x d) (h : tyZ T M d) : CD K T x H := by
  cases r with
  | str => exact h
  | lst f e _ _ => exact .inl ⟨h, _, bE.of e⟩
  | tup f e _ _ => exact .inr (.inl ⟨h, .inr ⟨_, e⟩⟩)
  | ptr hs =>
    rename_i a
    cases q2 : M a with
    | none => rw [q2] at hs; cases hs
    | some o =>
      simp only [tyZ, q2] at h
      have q := m.obj a o q2
      cases o with
      | lst ds => obtain ⟨vs, e, _⟩ := q; exact .inl ⟨h, _, bE.of e⟩
      | ck => obtain ⟨_, _, e, _⟩ := q; exact .inl ⟨h, _, bE.of e⟩
      | dk ks ds => obtain ⟨vs, e, _⟩ := q; exact .inr (.inr (.inl ⟨h, .inl ⟨_, e⟩⟩))
      | dt ks ds => obtain ⟨vs, e, _⟩ := q; exact .inr (.inr (.inl ⟨h, .inr ⟨_, e⟩⟩))
  | _ => exact h.elim
def zBM (T : String) (z : tR) (po : aI) (pa : eA) : aI := fun ρ M Q => po ρ M fun d M1 => tyZ T M1 d ∧ pa ρ M1 fun ds M2 => z d ds M2 Q
section
variable {o e : Expr} {es : List Expr} {po : aI} {pa : eA} {name : Str} {apos aW : Pos} {T id : String} {z : tR}
theorem rT (h : X.K = K) (pat : PlainAttrs T) (slot : Slot T name id) (kG : typeOf (.builtin id) = pure (.type "method_descriptor")) (hm : zy Γ X T id K z) (ho : QE Γ X o po) (ha : QA Γ X (e :: es) pa) (fX : attributeBase o name X.env (eval o X.env) = eval o X.env := by rfl)
    (sr : ((backTo aW (starEach (e :: es) X.env)).all (fun x => !x.1) && (backToKw aW (keywordEach [] X.env)).all (fun x => x.1.isSome)
      && decide ((e :: es).length + ([] : List Keyword).length + (if ([] : List Keyword).isEmpty then 0 else 1) < 30)) = true := by rfl)
    (hline : (apos.endLine == aW.line) = true := by rfl) (hs : starEach (e :: es) X.env = (false, eval e X.env) :: starEach es X.env := by rfl) (kH : (backTo aW (starEach es X.env)).any (·.1) = false := by rfl) :
    QE Γ X (.Call (.Attribute o name apos) (e :: es) [] aW) (zBM T z po pa) := by
  obtain ⟨r, h1, h2⟩ := hm
  exact (Gj h pat slot kG h1 ho ha fX sr hline hs kH).imp fun σ H Q ⟨β, ρ, M, Q', zr, h, q⟩ => ⟨β, ρ, M, _, zr, h, fun d M1 v H1 x1 r1 ⟨ht, h1⟩ => ⟨zz x1.mz r1 ht, β, ρ, M1, _, zr.step x1, h1, fun ds M2 vs H2 x2 r2 h3 =>
    h2 β v vs d ds M2 H2 _ _ zr.eP zr.ew zr.eK x2.mz (r1.ex x2) r2 h3 fun d' M' v' H' x3 r3 q3 => q _ _ _ _ (x1.trans (x2.trans x3)) r3 q3⟩⟩
theorem Hd (h : X.K = K) (pat : PlainAttrs T) (slot : Slot T name id) (kG : typeOf (.builtin id) = pure (.type "method_descriptor")) (hm : zy Γ X T id K z) (ho : QE Γ X o po) (fX : attributeBase o name X.env (eval o X.env) = eval o X.env := by rfl) (hline : (apos.endLine == aW.line) = true := by rfl) :
    QE Γ X (.Call (.Attribute o name apos) [] [] aW) (zBM T z po zNil) := by
  obtain ⟨r, h1, h2⟩ := hm
  exact (D2 h pat slot kG h1 ho fX hline).imp fun σ H Q ⟨β, ρ, M, Q', zr, h, q⟩ => ⟨β, ρ, M, _, zr, h, fun d M1 v H1 x1 r1 ⟨ht, h1⟩ => ⟨zz x1.mz r1 ht,
    h2 β v [] d [] M1 H1 _ _ zr.eP zr.ew zr.eK x1.mz r1 .nil h1 fun d' M' v' H' x3 r3 q3 => q _ _ _ _ (x1.trans x3) r3 q3⟩⟩
end
def zAppend : tR := fun d ds M Q => match d, ds with | .ptr a, [y] => (match M a with | some (.lst xs) => xs.length < sizeLine ∧ Q .aq (aw M a (.lst (xs ++ [y]))) | _ => False) | _, _ => False
theorem tS : zy Γ X "list" "list.append" K zAppend := ⟨_, kJ, fun β x xs d ds M H Q Q' _ _ _ m r rs z q => by
  unfold zAppend at z
  split at z
  · rename_i a y
    split at z
    · rename_i es he
      obtain ⟨e, hs⟩ := b7 r
      obtain ⟨v, e2, rv⟩ := dG rs
      subst e e2
      obtain ⟨vs, hv, eQ⟩ := m.obj a _ he
      refine ⟨a, vs, v, rfl, rfl, hv, by rw [eQ.len]; exact z.1, ?_⟩
      exact q _ _ _ _ (Ex.own m (.inl hs) (eQ.snoc rv)) .aq z.2
    · exact z.elim
  · exact z.elim⟩
def zPop : tR := fun d ds M Q => match d, ds with | .ptr a, [] => (match M a with | some (.lst xs) => (match xs[xs.length - 1]? with | some y => Q y (aw M a (.lst xs.dropLast)) | none => False) | _ => False) | _, _ => False
def zPopAt : tR := fun d ds M Q => match d, ds with | .ptr a, [.int i] => (match M a with | some (.lst xs) => -(2 ^ 63) ≤ i ∧ i < 2 ^ 63 ∧ (match seqIndex? i xs.length with | some k => (match xs[k]? with | some y => Q y (aw M a (.lst (xs.eraseIdx k))) | none => False) | none => False) | _ => False) | _, _ => False
theorem aG.eraseIdx {M : Mh} {H : Hp} {vs : List V} {ds : List Dv} (h : aG β M H vs ds) (k : Nat) : aG β M H (vs.eraseIdx k) (ds.eraseIdx k) := by
  rw [List.eraseIdx_eq_take_drop_succ, List.eraseIdx_eq_take_drop_succ]
  exact (h.take _).append (h.drop _)
theorem vy : zy Γ X "list" "list.pop" K zPopAt := ⟨_, A8, fun β x xs d ds M H Q Q' _ _ _ m r rs z q => by
  unfold zPopAt at z
  split at z
  · rename_i a i
    split at z
    · rename_i es he
      obtain ⟨b1, b2, z⟩ := z
      split at z
      · rename_i k hk
        split at z
        · rename_i y hy
          obtain ⟨e, hs⟩ := b7 r
          obtain ⟨v0, e2, Nu⟩ := dG rs
          subst e e2
          rw [aL Nu]
          obtain ⟨vs, hv, eQ⟩ := m.obj a _ he
          obtain ⟨v, tT, rv⟩ := eQ.get hy
          refine ⟨a, vs, i, k, v, rfl, rfl, hv, b1, b2, by rw [eQ.len]; exact hk, tT, ?_⟩
          have x2 := Ex.own m (.inl hs) (eQ.eraseIdx k)
          exact q _ _ _ _ x2 (rv.ex x2) z
        · exact z.elim
      · exact z.elim
    · exact z.elim
  · exact z.elim⟩
def zSetI : Dv → Dv → Dv → Mh → (Mh → Prop) → Prop := fun o i v M N => match o, i with | .ptr a, .int k => (match M a with | some (.lst xs) => (match gY xs.length k with | some j => N (aw M a (.lst (xs.set j v))) | none => False) | _ => False) | _, _ => False
def zgSub (po pi : aI) : cx := fun d ρ M N => po ρ M fun o M1 => pi ρ M1 fun i M2 => zSetI o i d M2 fun M3 => N ρ M3
theorem jO {o i : Expr} {po pi : aI} {pos : Pos} (ho : QE Γ X o po) (hi : QE Γ X i pi)
    (ha : ∀ v, assign (.Subscript o i pos) X.env v = (do
      let ov ← holding [v] (eval o X.env)
      let iv ← holding [v, ov] (eval i X.env)
      standAt pos
      holding [v, ov, iv] (setItem ov iv v)
      release [v, ov, iv] []) := by intro _; rfl) : QG Γ X (.Subscript o i pos) (zgSub po pi) :=
  (Fp ho hi set_list ha).imp fun v σ H N ⟨β, d, ρ, M, N', zr, r, h, q⟩ => ⟨β, ρ, M, _, zr, h, fun od M1 ov H1 x1 r1 h1 => ⟨β, ρ, M1, _, zr.step x1, h1, fun Pg M2 iv H2 x2 r2 h2 => by
    unfold zSetI at h2
    split at h2
    · rename_i a k
      split at h2
      · rename_i es he
        split at h2
        · rename_i j hj
          obtain ⟨e, hs⟩ := b7 (r1.ex x2)
          subst e
          rw [aL r2]
          obtain ⟨vs, hv, eQ⟩ := x2.mz.obj a _ he
          have x3 := Ex.own x2.mz (.inl hs) (eQ.set j ((r.ex x1).ex x2))
          exact ⟨a, vs, k, j, rfl, rfl, hv, by rw [eQ.len]; exact hj, q _ _ _ _ (x1.trans (x2.trans x3)) (((zr.step x1).step x2).step x3) h2⟩
        · exact h2.elim
      · exact h2.elim
    · exact h2.elim⟩⟩
end
end L2
namespace L2
open PySem PySem.Spec PySem.W PyProof.Rows
abbrev ZX := Addr → Mh → Prop
abbrev cQ := List Dv → Mh → ZK → ZX → Prop
def bp (P : Program) (w : World) (K : PySem.W.Frag) (tb : da) (S : cQ) : Sp := fun vs H Q E => ∃ (β : Bz) (ds : List Dv) (M : Mh) (Q' : ZK) (E' : ZX), β.P = P ∧ β.w = w ∧ β.K = K ∧ β.tb = tb ∧ Mz β M H ∧ aG β M H vs ds ∧ S ds M Q' E' ∧
  (∀ d M' v H', Ex β M H M' H' → Rz β M' H' v d → Q' d M' → Q v H') ∧ ∀ C M' H', Ex β M H M' H' → E' C M' → E (.ref C) none H'
theorem Rz.mq {β : Bz} {M0 M : Mh} {H : Hp} (dom : ∀ a, (M0 a).isSome = true → (M a).isSome = true) {v : V} {d : Dv} (h : Rz β M H v d) : Pin M0 d → Rz β M0 H v d := by
  have ne : ∀ a, Fz β M a → Fz β M0 a := fun a m => ⟨(by
    cases e : M0 a with
    | none => rfl
    | some o => have := dom a (by rw [e]; rfl); rw [m.1] at this; cases this), m.2⟩
  induction h with
  | int i => exact fun _ => .int i
  | bl b => exact fun _ => .bl b
  | aq => exact fun _ => .aq
  | str z => exact fun _ => .str z
  | tup m e hl h ih =>
    intro p
    cases p with
    | tup p => exact .tup (ne _ m) e hl fun i v d a b => ih i v d a b (p d (List.mem_of_getElem? b))
  | lst m e hl h ih =>
    intro p
    cases p with
    | lst p => exact .lst (ne _ m) e hl fun i v d a b => ih i v d a b (p d (List.mem_of_getElem? b))
  | set m e => exact fun _ => .set (ne _ m) e
  | ptr m => intro p; cases p with | ptr p => exact .ptr p
  | exc m e => exact fun _ => .exc (ne _ m) e
  | bo m e => exact fun _ => .bo (ne _ m) e
  | cf m e => exact fun _ => .cf (ne _ m) e
  | cg e => exact fun _ => .cg e
  | dk m e hk hl h ih =>
    intro p
    cases p with
    | dk p => exact .dk (ne _ m) e hk hl fun i v d a b => ih i v d a b (p d (List.mem_of_getElem? b))
  | dt m e hk hl h ih =>
    intro p
    cases p with
    | dt p => exact .dt (ne _ m) e hk hl fun i v d a b => ih i v d a b (p d (List.mem_of_getElem? b))
  | bC m e m2 e2 hl h ih =>
    intro p
    cases p with
    | bC p => exact .bC (ne _ m) e (ne _ m2) e2 hl fun i v d a b => ih i v d a b (p d (List.mem_of_getElem? b))
  | raw v => exact fun _ => .raw v
inductive kr (M0 M : Mh) : Dv → Dv → Prop where
  | pin {d : Dv} (h : Pin M0 d) : kr M0 M d d
  | ptr {a : Addr} {ds fO : List Dv} (h0 : M0 a = none) (h : M a = some (.lst ds)) (hl : ds.length = fO.length) (r : ∀ (i : Nat) (d d' : Dv), ds[i]? = some d → fO[i]? = some d' → kr M0 M d d') : kr M0 M (.ptr a) (.lst fO)
  | tup {ds fO : List Dv} (hl : ds.length = fO.length) (r : ∀ (i : Nat) (d d' : Dv), ds[i]? = some d → fO[i]? = some d' → kr M0 M d d') : kr M0 M (.tup ds) (.tup fO)
  | dk {a : Addr} {ks : List Key} {ds fO : List Dv} (h0 : M0 a = none) (h : M a = some (.dk ks ds)) (hl : ds.length = fO.length) (r : ∀ (i : Nat) (d d' : Dv), ds[i]? = some d → fO[i]? = some d' → kr M0 M d d') : kr M0 M (.ptr a) (.dk ks fO)
  | dt {a : Addr} {ks : List (List Key)} {ds fO : List Dv} (h0 : M0 a = none) (h : M a = some (.dt ks ds)) (hl : ds.length = fO.length) (r : ∀ (i : Nat) (d d' : Dv), ds[i]? = some d → fO[i]? = some d' → kr M0 M d d') : kr M0 M (.ptr a) (.dt ks fO)
theorem kr.rz {β : Bz} {M0 M : Mh} {H : Hp} (mz : Mz β M H) (dom : ∀ a, (M0 a).isSome = true → (M a).isSome = true) {d d' : Dv} (h : kr M0 M d d') : ∀ {v : V}, Rz β M H v d → Rz β M0 H v d' := by
  induction h with
  | pin h => exact fun r => r.mq dom h
  | ptr h0 h hl r ih =>
    intro v r
    obtain ⟨rfl, _⟩ := b7 r
    obtain ⟨vs, hv, rs⟩ := mz.obj _ _ h
    refine .lst ⟨h0, mz.apart _ _ h⟩ hv (rs.len.trans hl) fun i v d a b => ?_
    obtain ⟨d0, q, rd⟩ := rs.get' a
    exact ih i d0 d q b rd
  | dk h0 h hl r ih =>
    intro v r
    obtain ⟨rfl, _⟩ := b7 r
    obtain ⟨vs, hv, hk, rs⟩ := mz.obj _ _ h
    refine .dk ⟨h0, mz.apart _ _ h⟩ (.inl hv) hk (rs.len.trans hl) fun i v d a b => ?_
    obtain ⟨d0, q, rd⟩ := rs.get' a
    exact ih i d0 d q b rd
  | dt h0 h hl r ih =>
    intro v r
    obtain ⟨rfl, _⟩ := b7 r
    obtain ⟨vs, hv, hk, rs⟩ := mz.obj _ _ h
    refine .dt ⟨h0, mz.apart _ _ h⟩ (.inl hv) hk (rs.len.trans hl) fun i v d a b => ?_
    obtain ⟨d0, q, rd⟩ := rs.get' a
    exact ih i d0 d q b rd
  | tup hl r ih =>
    intro v r
    obtain ⟨a, vs, rfl, f, hv, rs⟩ := cZ r
    refine .tup ⟨?_, f.2⟩ hv (rs.len.trans hl) fun i v d a b => ?_
    · cases e : M0 a with
      | none => rfl
      | some o => have := dom a (by rw [e]; rfl); rw [f.1] at this; cases this
    · obtain ⟨d0, q, rd⟩ := rs.get' a
      exact ih i d0 d q b rd
def gK (M0 : Mh) (Q : ZK) : ZK := fun d M => Q d M ∨ ((∀ a o, M0 a = some o → M a = some o) ∧ ∃ d', kr M0 M d d' ∧ Q d' M0)
theorem mr {β : Bz} {M0 M : Mh} {H0 H : Hp} {Q' : ZK} {Q : VK} (m0 : Mz β M0 H0) (q : ∀ d M' v H', Ex β M0 H0 M' H' → Rz β M' H' v d → Q' d M' → Q v H') {d : Dv} {v : V} (x : Ex β M0 H0 M H) (r : Rz β M H v d) (h : gK M0 Q' d M) : Q v H := by
  rcases h with h | ⟨same, d', rv, h⟩
  · exact q _ _ _ _ x r h
  · refine q d' M0 v H ⟨⟨x.keep, fun _ h => h, fun _ _ h _ => h⟩, fun a o e => ?_, x.mz.tabs, x.mz.hids, m0.apart, x.mz.lams⟩ (rv.rz x.mz x.dom r) h
    have z := x.mz.obj a o (same a o e)
    have z0 := m0.obj a o e
    cases o with
    | lst ds =>
      obtain ⟨vs, z, rs⟩ := z
      obtain ⟨Kx, _, zA⟩ := z0
      refine ⟨vs, z, rs.len, fun i v d a b => (rs.at' i v d a b).mq x.dom ?_⟩
      obtain ⟨v0, _, r0⟩ := zA.get b
      exact r0.pin
    | dk ks ds =>
      obtain ⟨vs, z, hk, rs⟩ := z
      obtain ⟨Kx, _, _, zA⟩ := z0
      refine ⟨vs, z, hk, rs.len, fun i v d a b => (rs.at' i v d a b).mq x.dom ?_⟩
      obtain ⟨v0, _, r0⟩ := zA.get b
      exact r0.pin
    | dt ks ds =>
      obtain ⟨vs, z, hk, rs⟩ := z
      obtain ⟨Kx, _, _, zA⟩ := z0
      refine ⟨vs, z, hk, rs.len, fun i v d a b => (rs.at' i v d a b).mq x.dom ?_⟩
      obtain ⟨v0, _, r0⟩ := zA.get b
      exact r0.pin
    | ck => exact z
def zstart (N : List Str) (ds : List Dv) : aA := ds.map some ++ List.replicate (N.length - ds.length) none
theorem nu {Γ : Gz} {N : List Str} {vs : List V} {ds : List Dv} (m : Mz Γ.toBz Γ.M0 Γ.H0) (rs : aG Γ.toBz Γ.M0 Γ.H0 vs ds) : Zr Γ Γ.toBz Γ.M0 (zstart N ds) (start N vs) Γ.H0 := ⟨rfl, rfl, rfl, rfl, fun _ h => h, m.wf, .refl, m, by simp [zstart, start, rs.len], fun i d e => by
  unfold zstart at e
  unfold start
  rw [List.getElem?_append] at e ⊢
  rw [List.length_map] at e ⊢
  rw [rs.len]
  split at e
  · rename_i hi
    rw [if_pos hi]
    rw [List.getElem?_map, Option.map_eq_some_iff] at e
    obtain ⟨d2, e, e2⟩ := e
    cases e2
    obtain ⟨v, hv, r⟩ := rs.get e
    exact ⟨v, by rw [List.getElem?_map, hv]; rfl, r⟩
  · rw [List.getElem?_replicate] at e
    split at e <;> cases e⟩
def zEndsOf (M0 : Mh) (Q : ZK) : gh := { nx := fun _ M => gK M0 Q .aq M, rt := gK M0 Q }
def XR (Γ : Gz) (E' : ZX) (E : XK) : Prop := ∀ C M' H', Ex Γ.toBz Γ.M0 Γ.H0 M' H' → E' C M' → E (.ref C) none H'
section
variable {P : Program} {w : World} {K : PySem.W.Frag} {mg : Str → Option Value} {base : Heap} {tb : da} {x : Str} {st : Stmt} {f : Addr} {fd : FuncData} {N ps : List Str} {k : Nat} {S : cQ}
theorem pF (len : ∀ ds M Q E, S ds M Q E → ds.length = ps.length) : ∀ vs H Q E, bp P w K tb S vs H Q E → vs.length = ps.length := fun vs H Q E hS => by
  obtain ⟨β, ds, M, Q', E', _, _, _, _, m, rs, s, _⟩ := hS
  exact rs.len.trans (len _ _ _ _ s)
theorem fj (D : Df K mg x st ps f fd) (sc : aV N ps (ai st)) (len : ∀ ds M Q E, S ds M Q E → ds.length = ps.length)
    (body : ∀ (A : Around) (outer : List Env) (s : Shared) (E : XK) (Γ : Gz) (ds : List Dv) (Q' : ZK) (E' : ZX), P = Γ.P → w = Γ.w → K = Γ.K → tb = Γ.tb → bG k (A.deeper (envOfC x (ai st) s.heap.objs.size f fd.code)) → S ds Γ.M0 Q' E' →
      ∃ p, kn Γ (fi bj P w K mg base N x (ai st) f fd.code A outer s Γ.H0 E).kB (bu st) p ∧ p (zEndsOf Γ.M0 Q') (zstart N ds) Γ.M0) : FnOk P w K mg base bj (k + 1) f fd ps (bp P w K tb S) := by
  refine D.fn.MK sc (pF len) fun A outer s H vs Q E hr h => ?_
  obtain ⟨β, ds, M, Q', E', eP, ew, eK, et, m, rs, hS, q, _⟩ := h
  obtain ⟨p, hp, hq⟩ := body A outer s E ⟨β, M, H⟩ ds Q' E' eP.symm ew.symm eK.symm et.symm hr hS
  refine ⟨_, hp, β, zstart N ds, M, zEndsOf M Q', nu (Γ := ⟨β, M, H⟩) m rs, hq, ?_⟩
  have fin : ∀ d M' v H', Ex β M H M' H' → Rz β M' H' v d → gK M Q' d M' → Q v H' := fun d M' v H' x r h => mr m q x r h
  exact ⟨fun bD M' aH H' x zr h => fin _ _ _ _ ⟨zr.ent, x.mz⟩ .aq h, fun d M' v H' x e r h => fin _ _ _ _ ⟨e, x.mz⟩ r h, fun _ _ _ _ _ _ h => h, fun _ _ _ _ _ _ h => h⟩
end
section
variable {P : Program} {w : World} {K : PySem.W.Frag} {mg : Str → Option Value} {base : Heap} {tb : da} {x : Str} {st : Stmt} {f : Addr} {fd : FuncData} {N ps : List Str} {k : Nat} {S : cQ}
theorem wQ (D : Df K mg x st ps f fd) (sc : aV N ps (ai st)) (len : ∀ ds M Q E, S ds M Q E → ds.length = ps.length)
    (body : ∀ (A : Around) (outer : List Env) (s : Shared) (E : XK) (Γ : Gz) (ds : List Dv) (Q' : ZK) (E' : ZX), P = Γ.P → w = Γ.w → K = Γ.K → tb = Γ.tb → XR Γ E' E → bG k (A.deeper (envOfC x (ai st) s.heap.objs.size f fd.code)) → S ds Γ.M0 Q' E' →
      ∃ p, kn Γ (fi (gG P w) P w K mg base N x (ai st) f fd.code A outer s Γ.H0 E) (bu st) p ∧ p (zEndsOf Γ.M0 Q') (zstart N ds) Γ.M0) : FnOk P w K mg base (gG P w) (k + 1) f fd ps (bp P w K tb S) := by
  refine D.fn.yt sc (pF len) fun A outer s H vs Q E hr h => ?_
  obtain ⟨β, ds, M, Q', E', eP, ew, eK, et, m, rs, hS, q, qx⟩ := h
  obtain ⟨p, hp, hq⟩ := body A outer s E ⟨β, M, H⟩ ds Q' E' eP.symm ew.symm eK.symm et.symm qx hr hS
  refine ⟨_, hp, β, zstart N ds, M, zEndsOf M Q', nu (Γ := ⟨β, M, H⟩) m rs, hq, ?_⟩
  have fin : ∀ d M' v H', Ex β M H M' H' → Rz β M' H' v d → gK M Q' d M' → Q v H' := fun d M' v H' x r h => mr m q x r h
  exact ⟨fun bD M' aH H' x zr h => fin _ _ _ _ ⟨zr.ent, x.mz⟩ .aq h, fun d M' v H' x e r h => fin _ _ _ _ ⟨e, x.mz⟩ r h, fun _ _ _ _ _ _ h => h, fun _ _ _ _ _ _ h => h⟩
end
section
variable {X : Cx} {Γ : Gz} {β : Bz} {K : PySem.W.Frag}
def zCall (S : cQ) (E' : ZX) (za : eA) : aI := fun ρ M Q => za ρ M fun ds M1 => S ds M1 Q E'
theorem XR.none : XR Γ (fun _ _ => False) (fun _ _ _ => False) := fun _ _ _ _ h => h
theorem oz {M M1 M2 : Mh} {H H1 H2 : Hp} (ent : Ey M H M1 H1) (sub : ∀ a, a ∈ Γ.hid → a ∈ β.hid) (eP : β.P = Γ.P) (ew : β.w = Γ.w) (eK : β.K = Γ.K) (et : β.tb = Γ.tb) (x : Ex β M1 H1 M2 H2) : Ex Γ.toBz M H M2 H2 := ⟨ent.trans x.toEy, x.mz.sub eP.symm ew.symm eK.symm et.symm sub⟩
section
variable {CX : fW} {k : Nat} {f : Addr} {fd : FuncData} {ps : List Str} {S : cQ} {E : XK} {E' : ZX} {x : Str} {p pos : Pos} {e : Expr} {es : List Expr} {za : eA} {P : Program} {w : World} {tb : da}
theorem He (hP : P = Γ.P) (hw : w = Γ.w) (hK : K = Γ.K) (ht : tb = Γ.tb) (hE : XR Γ E' E) {σ : St} {H : Hp} {Q : VK} (h : lE Γ (zCall S E' za) σ H Q) : CC (bp P w K tb S) [] E (lA Γ za) σ H Q := by
  subst hP hw hK ht
  obtain ⟨β, ρ, M, Q', zr, h, q⟩ := h
  refine ⟨β, ρ, M, _, zr, h, fun ds M1 vs H1 x1 r1 h1 => ?_⟩
  show bp Γ.P Γ.w Γ.K Γ.tb S (vs ++ []) H1 Q E
  rw [List.append_nil]
  exact ⟨β, ds, M1, Q', E', zr.eP, zr.ew, zr.eK, zr.et, x1.mz, r1, h1, fun d M2 v H2 x2 r2 h2 => q _ _ _ _ (x1.trans x2) r2 h2, fun C M2 H2 x2 h2 => hE C M2 H2 (oz zr.ent zr.sub zr.eP zr.ew zr.eK zr.et (x1.trans x2)) h2⟩
theorem aJ (F : FnOk X.prog X.w X.K X.mg X.base CX k f fd ps (bp P w K tb S)) (hr : bG k X.A) (hg : Gl X x) (hm : X.mg x = some (.ref f)) (hk : PySem.W.keepIn X.K (.ref f) = true) (hb : Binds X.K fd ps []) (hx : Passes CX X E) (hP : P = Γ.P) (hw : w = Γ.w) (hK : K = Γ.K) (ht : tb = Γ.tb) (hE : XR Γ E' E)
    (ha : QA Γ X (e :: es) za) (eE : (x == ("__debug__" : Str)) = false := by decide) (he : starEach (e :: es) X.env = (false, eval e X.env) :: starEach es X.env := by rfl) (bR : (backTo pos (starEach es X.env)).any (·.1) = false := by rfl) :
    QE Γ X (.Call (.Name x p) (e :: es) [] pos) (zCall S E' za) := (DV F hr hg hm hk hb .nil hx ha eE he bR).imp fun σ H Q h => He hP hw hK ht hE h
end
def zRaise (C : Addr) (E' : ZX) (za : eA) : cw := fun _ ρ M => za ρ M fun ds M1 => ds.length ≤ sizeLine ∧ E' C M1
theorem BP {x : Str} {C : Addr} {jx : Expr} {rest : List Expr} {za : eA} {qz : List Value} {B newId tD : String} {E : XK} {E' : ZX} {np aW pos : Pos} (O : PySem.W.excIn X.K C qz newId = true) (FB : ExcBaseFacts B newId tD qz) (hc : X.calm = true) (hR : Raises X E) (hE : XR Γ E' E) (hg : Gl X x) (hm : X.mg x = some (.ref C)) (ha : QA Γ X (jx :: rest) za)
    (eE : (x == ("__debug__" : Str)) = false := by decide) (he : starEach (jx :: rest) X.env = (false, eval jx X.env) :: starEach rest X.env := by rfl) (bR : (backTo aW (starEach rest X.env)).any (·.1) = false := by rfl) :
    QS Γ X (.Raise (some (.Call (.Name x np) (jx :: rest) [] aW)) none pos) (zRaise C E' za) := (Bu O FB hc hR hg hm ha eE he bR).imp fun D σ H ⟨β, ρ, M, D', zr, h, r⟩ => ⟨β, ρ, M, _, zr, h, fun ds M1 vs H1 x1 r1 h1 =>
  ⟨by rw [r1.len]; exact h1.1, hE C M1 H1 (oz zr.ent zr.sub zr.eP zr.ew zr.eK zr.et x1) h1.2⟩⟩
section
variable {tg elt iter : Expr} {ifs : List Expr} {scope : Scope} {pos : Pos} {N' : List Str} {tn : Nat} {idx : List Nat} {zi : d7} {g : cx} {tt : cP} {te : aI} {c P : Addr} {k : Nat}
theorem c5 (hc : X.calm = true) (B : aF X.N X.env.scope scope N' tn idx) (hi : QI Γ X tg iter zi)
    (hg : Blk X N' scope fun Y => QG Γ Y tg g) (ht : Blk X N' scope fun Y => ow Γ Y ifs tt) (he : Blk X N' scope fun Y => QE Γ Y elt te)
    (hs : ∀ x, foldedSetIterable iter X.env x = pure x := by intro _; rfl) : QE Γ X (.ListComp elt [⟨tg, iter, ifs, 0⟩] scope pos) (zComp tn idx zi g tt te) := (mG hc B hi hg ht he hs).imp fun σ H Q h => zq h
theorem iW (hc : X.calm = true) (B : aF X.N X.env.scope scope N' tn idx) (hi : QI Γ X tg iter zi)
    (hg : Blk X N' scope fun Y => QG Γ Y tg g) (ht : Blk X N' scope fun Y => ow Γ Y ifs tt) (he : Blk X N' scope fun Y => QE Γ Y elt te)
    (hs : ∀ x, foldedSetIterable iter X.env x = pure x := by intro _; rfl) : QE Γ X (.ListComp elt [⟨tg, iter, ifs, 0⟩] scope pos) (zCompP tn idx zi g tt te) := (mG hc B hi hg ht he hs).imp fun σ H Q h => pD h
theorem wR {i : Nat} {y : Str} {py f6 : Pos} (hN : X.N.Nodup) (cY : X.N[i]? = some y) (hy : X.env.scope.names.lookup y = some .local) (hc : X.calm = true) (B : aF X.N X.env.scope scope N' tn idx) (hi : QI Γ X tg iter zi)
    (hg : Blk X N' scope fun Y => QG Γ Y tg g) (ht : Blk X N' scope fun Y => ow Γ Y ifs tt) (he : Blk X N' scope fun Y => QE Γ Y elt te)
    (nY : swapsWith (.ListComp elt [⟨tg, iter, ifs, 0⟩] scope pos) (some (.Name y py)) f6.line X.env = pure true := by rfl)
    (hs : ∀ x, foldedSetIterable iter X.env x = pure x := by intro _; rfl) : QS Γ X (.Assign [.Name y py] (.ListComp elt [⟨tg, iter, ifs, 0⟩] scope pos) f6) (zAsg (zComp tn idx zi g tt te) (zgName i)) := (nX hN cY hy hc B hi hg ht he nY hs).imp fun D σ H h => rQ (fun _ _ _ h => zq h) h
theorem uO {i : Nat} {y : Str} {py f6 : Pos} (hN : X.N.Nodup) (cY : X.N[i]? = some y) (hy : X.env.scope.names.lookup y = some .local) (hc : X.calm = true) (B : aF X.N X.env.scope scope N' tn idx) (hi : QI Γ X tg iter zi)
    (hg : Blk X N' scope fun Y => QG Γ Y tg g) (ht : Blk X N' scope fun Y => ow Γ Y ifs tt) (he : Blk X N' scope fun Y => QE Γ Y elt te)
    (nY : swapsWith (.ListComp elt [⟨tg, iter, ifs, 0⟩] scope pos) (some (.Name y py)) f6.line X.env = pure true := by rfl)
    (hs : ∀ x, foldedSetIterable iter X.env x = pure x := by intro _; rfl) : QS Γ X (.Assign [.Name y py] (.ListComp elt [⟨tg, iter, ifs, 0⟩] scope pos) f6) (zAsg (zCompP tn idx zi g tt te) (zgName i)) := (nX hN cY hy hc B hi hg ht he nY hs).imp fun D σ H h => rQ (fun _ _ _ h => pD h) h
theorem zB {p sF : Pos} (hP : P ∈ Γ.tb) (hr : bG (k + 1) X.A) (hc : X.calm = true) (B : aF X.N X.env.scope scope N' tn idx)
    (h0 : scope.names.lookup (".0" : Str) = some .local) (qk : scope.isCoroutine = false) (fw : X.env.code = .ref c) (hd : PySem.W.CodeHd X.base c P) (fm : ∃ bm ob, BMod X.base mainGlobals X.mg bm ob)
    (vb : Gl X "all") (hm : X.mg "all" = none) (hi : QI Γ X tg iter zi) (hg : m4 X N' scope k fun Y => QG Γ Y tg g) (ht : m4 X N' scope k fun Y => ow Γ Y ifs tt) (he : m4 X N' scope k fun Y => QE Γ Y elt te)
    (hs : ∀ x, genFold iter X.env x = pure x := by intro _; rfl) : QE Γ X (.Call (.Name "all" p) [dW elt tg iter ifs scope sF] [] pos) (zAll tn idx zi g tt te) := (Gf hr hc B h0 qk fw hd fm vb hm hi hg ht he hs).imp fun σ H Q h => Jq hP h
end
end
section
variable {X : Cx} {Γ : Gz} {β : Bz} {K : PySem.W.Frag}
section
variable {tg elt iter : Expr} {ifs : List Expr} {scope : Scope} {pos : Pos} {N' : List Str} {tn : Nat} {idx : List Nat} {zi : d7} {g : cx} {tt : cP} {te : aI} {c P : Addr} {k : Nat}
def j5 (g : cx) (tt : cP) (te : aI) : List Dv → aA → Mh → (List Int → Mh → Prop) → List Int → Prop
  | [], _, M, Q, acc => Q acc M
  | d :: ds, τ, M, Q, acc => g d τ M fun aC M2 => tt aC M2 fun b M3 => if b = true then te aC M3 fun y M4 => (match y with | .int k => acc.length + 1 < scanBound ∧ j5 g tt te ds aC M4 Q (cG acc k) | _ => False) else j5 g tt te ds aC M3 Q acc
def zSetC (tn : Nat) (idx : List Nat) (zi : d7) (g : cx) (tt : cP) (te : aI) : aI := fun ρ M Q => zi ρ M fun ds M1 => j5 g tt te ds (zBlock tn idx ρ) M1 (fun ns M2 => Q (.set ns) M2) []
theorem Hf (hP : X.prog = Γ.P) (hw : X.w = Γ.w) {σ : St} {H : Hp} {Q : VK} (h : lE Γ (zSetC tn idx zi g tt te) σ H Q) : yJ X tn idx (lI Γ zi) (lG Γ g) (lT Γ tt) (lE Γ te) σ H Q := by
  obtain ⟨β, ρ, M, Q', zr, h, q⟩ := h
  refine ⟨β, ρ, M, _, zr, h, fun ds M1 H1 J x1 it h1 D hD => ?_⟩
  have ip := zr.step x1
  have Nv := ip.block tn idx
  have Nw : Γ.H0 D = none := ip.ent.gone hD (by
    cases e : Γ.M0 D with
    | none => rfl
    | some u => have := ip.ent.dom D (by rw [e]; rfl); rw [x1.mz.free hD] at this; cases this)
  have Nx := x1.mz.BK hD
  have wk : D ∈ (β.add D).hid := List.mem_cons_self
  refine ⟨fun i m τ H' => m = ds.length - i ∧ i ≤ ds.length ∧ ∃ b8 M' acc, Ey M1 H1 M' H' ∧ M' D = none ∧ Zr Γ (β.add D) M' b8 τ H' ∧ H' D = some (fB X.prog X.w D acc) ∧ j5 g tt te (ds.drop i) b8 M' (fun ns M2 => Q' (.set ns) M2) acc,
    ⟨_, rfl, Nat.zero_le _, _, M1, [], Ey.refl.over hD, x1.mz.free hD, Nv.enter hD rfl, aD, h1⟩, ?_⟩
  rintro i m τ H' ⟨rfl, hi, b8, M', acc, ey, hm, eL, at', h'⟩
  have qq := it (β.add D) M' H' (.add hD) ey eL.mz i
  by_cases aT : i < ds.length
  · refine .inr ⟨(qq.1 aT).1, fun x jI y => ?_⟩
    obtain ⟨x2, d, hd, rd⟩ := (qq.1 aT).2 x jI y
    have e : ds.drop i = d :: ds.drop (i + 1) := by
      rw [List.drop_eq_getElem_cons aT]
      rw [List.getElem?_eq_getElem aT] at hd
      cases hd
      rfl
    rw [e] at h'
    refine ⟨β.add D, d, b8, M', _, eL.step x2, rd, h', fun fE M3 jN H3 x3 z3 h3 => ⟨β.add D, fE, M3, _, z3, h3, fun b M4 H4 x4 h4 => ?_⟩⟩
    have kq := x2.trans (x3.trans x4)
    cases b with
    | false =>
      dsimp only at h4 ⊢
      rw [if_neg Bool.false_ne_true] at h4 ⊢
      exact ⟨ds.length - (i + 1), by omega, rfl, aT, fE, M4, acc, ey.trans kq.toEy, kq.new D _ hm at', z3.step x4, kq.get hm at' rfl, h4⟩
    | true =>
      dsimp only at h4 ⊢
      rw [if_pos rfl] at h4 ⊢
      refine ⟨β.add D, fE, M4, _, z3.step x4, h4, fun yd M5 yv H5 x5 r5 h5 => ?_⟩
      have Hg := kq.trans x5
      cases yd with
      | int k =>
        have h6 : acc.length + 1 < scanBound ∧ j5 g tt te (ds.drop (i + 1)) fE M5 (fun ns M2 => Q' (.set ns) M2) (cG acc k) := h5
        have Ky := Hg.new D _ hm at'
        exact ⟨k, acc, ds.length - (i + 1), aL r5, Hg.get hm at' rfl, h6.1, by omega, rfl, aT, fE, M5, cG acc k, (ey.trans Hg.toEy).over hD, Ky, ((z3.step x4).step x5).over wk rfl Ky Nx Nw, aD, h6.2⟩
      | _ => exact False.elim h5
  · have e : i = ds.length := by omega
    subst e
    rw [List.drop_length] at h'
    have mz : Mz β M' H' := Mz.sub (β := β.add D) (cu := β) rfl rfl rfl rfl (fun a h => List.mem_cons_of_mem _ h) eL.mz
    refine .inl ⟨qq.2 (Nat.le_refl _), q _ _ _ _ (x1.trans ⟨ey, mz⟩) (.set ⟨hm, (x1.mz.fz hD).2⟩ ?_) h'⟩
    rw [zr.eP, zr.ew, ← hP, ← hw]
    exact at'
theorem wU (hP : X.prog = Γ.P) (hw : X.w = Γ.w) (hc : X.calm = true) (B : aF X.N X.env.scope scope N' tn idx) (hi : QI Γ X tg iter zi)
    (hg : Blk X N' scope fun Y => QG Γ Y tg g) (ht : Blk X N' scope fun Y => ow Γ Y ifs tt) (he : Blk X N' scope fun Y => QE Γ Y elt te)
    (hs : ∀ x, foldedSetIterable iter X.env x = pure x := by intro _; rfl) : QE Γ X (.SetComp elt [⟨tg, iter, ifs, 0⟩] scope pos) (zSetC tn idx zi g tt te) := (wF hc B hi hg ht he hs).imp fun σ H Q h => Hf hP hw h
end
def cm (xs ys : List Dv) : List Dv := (xs.zip ys).map fun p => .tup [p.1, p.2]
def iX (n : Nat) : List Dv := (List.range n).map fun i => .int (i : Nat)
theorem lr {J : It} {vs us : List V} {ds es : List Dv} {M : Mh} {H : Hp} (r : aG β M H vs ds) (r2 : aG β M H us es) (h : ∀ M' H', Ey M H M' H' → wK J (vs.zip us) H') : y9 β J (cm ds es) M H := fun cu M' H' bx x m i => by
  have q := h M' H' x i
  have hl : (cm ds es).length = (vs.zip us).length := by simp [cm, r.len, r2.len]
  rw [hl]
  refine ⟨fun hi => ⟨(q.1 hi).1, fun v jI y => ?_⟩, q.2⟩
  obtain ⟨t, p, ht, rfl, hp, rfl⟩ := (q.1 hi).2 v jI y
  rw [List.getElem?_zip_eq_some] at hp
  obtain ⟨d, hd, rd⟩ := r.get' hp.1
  obtain ⟨e, he, re⟩ := r2.get' hp.2
  have x2 := Ex.lay m ht (.tup [p.1, p.2])
  refine ⟨x2, .tup [d, e], ?_, jF (m.fz ht) aD (.cons (((rd.bx bx).ey x).ex x2) (.cons (((re.bx bx).ey x).ex x2) .nil))⟩
  unfold cm
  rw [List.getElem?_map, Option.map_eq_some_iff]
  exact ⟨(d, e), by rw [List.getElem?_zip_eq_some]; exact ⟨hd, he⟩, rfl⟩
theorem enum_zip (vs : List V) : ((List.range vs.length).map fun i => (V.int (i : Nat), vs.getD i .aq)) = ((List.range vs.length).map fun i => V.int (i : Nat)).zip vs := by
  refine List.ext_getElem? fun i => ?_
  by_cases hi : i < vs.length
  · rw [List.getElem?_map, List.getElem?_range hi]
    symm
    show _ = some (V.int (i : Nat), vs.getD i .aq)
    rw [List.getElem?_zip_eq_some, List.getElem?_map, List.getElem?_range hi, List.getD_eq_getElem?_getD, List.getElem?_eq_getElem hi]
    exact ⟨rfl, rfl⟩
  · rw [List.getElem?_eq_none_iff.mpr (by simp; omega), List.getElem?_eq_none_iff.mpr (by simp; omega)]
theorem pG {n : Nat} {M : Mh} {H : Hp} : aG β M H ((List.range n).map fun i => V.int (i : Nat)) (iX n) := ⟨by simp [iX], fun i v d a b => by
  unfold iX at b
  rw [List.getElem?_map] at a b
  cases e : (List.range n)[i]? with
  | none => rw [e] at a; cases a
  | some c => rw [e] at a b; cases a; cases b; exact .int _⟩
theorem Sq.Hh {H : Hp} {a : Addr} {xs : List V} (h : H a = some (.lst xs)) : Sq true K H a xs := by
  unfold Sq
  exact bE.of h
theorem Sq.ofT {H : Hp} {a : Addr} {xs : List V} (h : H a = some (.tup xs)) : Sq false K H a xs := by
  unfold Sq
  exact cO.of h
section
variable {elts : List Expr} {x1 : Nat} {tp p pos : Pos} {l l1 l2 : Expr} {pl p1 p2 : aI}
def ziEnumK (k : Bool) (p : aI) : d7 := fun ρ M R => p ρ M fun d M1 => match k, d with | false, .tup ds => R (cm (iX ds.length) ds) M1 | true, .lst ds => R (cm (iX ds.length) ds) M1 | _, _ => False
theorem En (k : Bool) (hK : X.K = K) (hg : Gl X "enumerate") (hm : X.mg "enumerate" = none) (hl : QE Γ X l pl) (hs : starEach [l] X.env = [(false, eval l X.env)] := by rfl) :
    QI Γ X (.Tuple elts x1 tp) (.Call (.Name "enumerate" p) [l] [] pos) (ziEnumK k pl) := (Ec k hK hg hm hl hs).imp fun σ H R ⟨β, ρ, M, R', zr, h, q⟩ => ⟨β, ρ, M, _, zr, h, fun d M1 v H1 x1 r1 h1 => by
  revert h1
  split
  · intro h1
    obtain ⟨a, vs, rfl, f, e, rs⟩ := cZ r1
    refine ⟨a, rfl, ⟨vs, Sq.ofT e⟩, q _ _ _ _ x1 ?_ h1⟩
    rw [← rs.len]
    exact lr pG rs fun M' H' x => by rw [← enum_zip]; exact qA (Sq.ofT (x.get f.1 e rfl))
  · intro h1
    obtain ⟨a, vs, rfl, f, e, rs⟩ := dS r1
    refine ⟨a, rfl, ⟨vs, Sq.Hh e⟩, q _ _ _ _ x1 ?_ h1⟩
    rw [← rs.len]
    exact lr pG rs fun M' H' x => by rw [← enum_zip]; exact qA (Sq.Hh (x.get f.1 e rfl))
  · exact fun h => h.elim⟩
def seqK (k : Bool) (d : Dv) (R : List Dv → Prop) : Prop := match k, d with | false, .tup ds => R ds | true, .lst ds => R ds | _, _ => False
theorem vz {k : Bool} {M : Mh} {H : Hp} {v : V} {d : Dv} {R : List Dv → Prop} (r : Rz β M H v d) (h : seqK k d R) : ∃ a vs ds, v = .ref a ∧ R ds ∧ aG β M H vs ds ∧ ∀ M' H', Ey M H M' H' → Sq k K H' a vs := by
  unfold seqK at h
  split at h
  · obtain ⟨a, vs, rfl, f, e, rs⟩ := cZ r
    exact ⟨a, vs, _, rfl, h, rs, fun M' H' x => Sq.ofT (x.get f.1 e rfl)⟩
  · obtain ⟨a, vs, rfl, f, e, rs⟩ := dS r
    exact ⟨a, vs, _, rfl, h, rs, fun M' H' x => Sq.Hh (x.get f.1 e rfl)⟩
  · exact h.elim
def ziZip (k1 k2 : Bool) (p1 p2 : aI) : d7 := fun ρ M R => p1 ρ M fun d M1 => p2 ρ M1 fun e M2 => seqK k1 d fun xs => seqK k2 e fun ys => R (cm xs ys) M2
theorem oA (k1 k2 : Bool) (hK : X.K = K) (hg : Gl X "zip") (hm : X.mg "zip" = none) (h1 : QE Γ X l1 p1) (h2 : QE Γ X l2 p2) (hs : starEach [l1, l2] X.env = (false, eval l1 X.env) :: starEach [l2] X.env := by rfl) (km : starEach [l2] X.env = [(false, eval l2 X.env)] := by rfl) :
    QI Γ X (.Tuple elts x1 tp) (.Call (.Name "zip" p) [l1, l2] [] pos) (ziZip k1 k2 p1 p2) := (GX k1 k2 hK hg hm h1 h2 hs km).imp fun σ H R ⟨β, ρ, M, R', zr, h, q⟩ => ⟨β, ρ, M, _, zr, h, fun d M1 v H1 x1 r1 h1 => ⟨β, ρ, M1, _, zr.step x1, h1, fun e M2 u H2 x2 r2 h2 => by
  obtain ⟨a, vs, ds, rfl, h3, rs, s1⟩ := vz (K := K) (r1.ex x2) h2
  obtain ⟨b, us, es, rfl, h4, eQ, s2⟩ := vz (K := K) r2 h3
  exact ⟨a, b, rfl, rfl, ⟨vs, s1 _ _ .refl⟩, ⟨us, s2 _ _ .refl⟩, q _ _ _ _ (x1.trans x2) (lr rs eQ fun M' H' x => BF (s1 _ _ x) (s2 _ _ x)) h4⟩⟩⟩
end
def zRangeT (p : aI) : aI := fun ρ M Q => p ρ M fun d M1 => match d with | .int j => -(2 ^ 20) ≤ j ∧ j ≤ 2 ^ 20 ∧ Q (.tup ((bF j.toNat).map .int)) M1 | _ => False
def zRangeP (p : aI) : aI := fun ρ M Q => p ρ M fun d M1 => match d with | .int j => -(2 ^ 24) ≤ j ∧ j ≤ 2 ^ 24 ∧ ∀ a, M1 a = none → Q (.ptr a) (aw M1 a (.lst (iX j.toNat))) | _ => False
section
variable {e : Expr} {pe : aI} {p p1 p2 pos : Pos}
theorem ku (hc : X.calm = true) (hg : Gl X "tuple") (hm : X.mg "tuple" = none) (sH : Gl X "range") (sI : X.mg "range" = none) (he : QE Γ X e pe) (hs : starEach [e] X.env = [(false, eval e X.env)] := by rfl) :
    QE Γ X (.Call (.Name "tuple" p) [.Call (.Name "range" p1) [e] [] p2] [] pos) (zRangeT pe) := (rB hc hg hm sH sI he hs).imp fun σ H Q ⟨β, ρ, M, Q', zr, h, q⟩ => ⟨β, ρ, M, _, zr, h, fun d M1 v H1 x1 r1 h1 => by
  revert h1
  split
  · rintro ⟨b1, b2, h1⟩
    refine ⟨_, aL r1, b1, b2, fun l hl => ?_⟩
    exact q _ _ _ _ (x1.trans (Ex.lay x1.mz hl _)) (jF (x1.mz.fz hl) aD j4) h1
  · exact fun h => h.elim⟩
theorem rD (hc : X.calm = true) (hg : Gl X "list") (hm : X.mg "list" = none) (sH : Gl X "range") (sI : X.mg "range" = none) (he : QE Γ X e pe) (hs : starEach [e] X.env = [(false, eval e X.env)] := by rfl) :
    QE Γ X (.Call (.Name "list" p) [.Call (.Name "range" p1) [e] [] p2] [] pos) (zRangeP pe) := (sG hc hg hm sH sI he hs).imp fun σ H Q ⟨β, ρ, M, Q', zr, h, q⟩ => ⟨β, ρ, M, _, zr, h, fun d M1 v H1 x1 r1 h1 => by
  revert h1
  split
  · rename_i j
    rintro ⟨b1, b2, h1⟩
    refine ⟨_, aL r1, b1, b2, fun l hl => ?_⟩
    have x2 := Ex.own x1.mz (.inr hl) (pG (n := j.toNat) (β := β) (M := M1) (H := H1))
    exact q _ _ _ _ (x1.trans x2) (.ptr (by rw [updM_same]; rfl)) (h1 l (x1.mz.free hl))
  · exact fun h => h.elim⟩
def truD (M : Mh) : Dv → Option Bool
  | .bl b => some b
  | .aq => some false
  | .int i => some (i != 0)
  | .str z => if z.length ≤ sizeLine then some ((z.length : Int) != 0) else none
  | .tup ds => some (!ds.isEmpty)
  | .lst ds => some (!ds.isEmpty)
  | .ptr a => match M a with | some (.lst ds) => some (!ds.isEmpty) | _ => none
  | _ => none
def zTruth (p : aI) : cP := fun ρ M Q => p ρ M fun d M1 => match truD M1 d with | some b => Q b M1 | none => False
theorem aG.isEmpty {M : Mh} {H : Hp} {vs : List V} {ds : List Dv} (h : aG β M H vs ds) : vs.isEmpty = ds.isEmpty := by
  have := h.len
  cases vs <;> cases ds <;> simp_all
theorem Eo {M : Mh} {H : Hp} {v : V} {d : Dv} {b : Bool} (m : Mz β M H) (r : Rz β M H v d) (h : truD M d = some b) : AX K v H b := by
  cases r with
  | int i => cases h; exact rfl
  | bl i => cases h; exact rfl
  | aq => cases h; exact rfl
  | str z =>
    simp only [truD] at h
    split at h
    · rename_i hz
      cases h
      exact ⟨hz, rfl⟩
    · cases h
  | tup f e hl q => cases h; exact .inr (.inl ⟨_, cO.of e, by rw [aG.isEmpty ⟨hl, q⟩]⟩)
  | lst f e hl q => cases h; exact .inl ⟨_, bE.of e, by rw [aG.isEmpty ⟨hl, q⟩]⟩
  | ptr hs =>
    simp only [truD] at h
    split at h
    · rename_i ds qK
      cases h
      obtain ⟨vs, hv, rs⟩ := m.obj _ _ qK
      exact .inl ⟨_, bE.of hv, by rw [rs.isEmpty]⟩
    · cases h
  | set f e => cases h
  | exc f e => cases h
  | bo f e => cases h
  | cf f e => cases h
  | cg e => cases h
  | raw v => cases h
  | dk f e _ _ _ => cases h
  | dt f e _ _ _ => cases h
  | bC _ _ _ _ _ _ => cases h
theorem BQ (ha : QE Γ X e pe) (he : ∀ whole, isTrue e X.env whole = (do let v ← whole; standAt e.pos; holding [v] (truthy v)) := by intro _; rfl) : QT Γ X e (zTruth pe) := (AY ha he).imp fun σ H Q ⟨β, ρ, M, Q', zr, h, q⟩ => ⟨β, ρ, M, _, zr, h, fun d M1 v H1 x1 r1 h1 => by
  revert h1
  split
  · rename_i b hb
    intro h1
    exact ⟨b, Eo x1.mz r1 hb, q _ _ _ x1 h1⟩
  · exact fun h => h.elim⟩
end
theorem qv (i : Nat) {x : Str} {pos : Pos} (hN : X.N[i]? = some x := by rfl) (hv : mD X.env.scope x := by first | exact Or.inl rfl | exact Or.inr (Or.inl rfl) | exact Or.inr (Or.inr rfl)) (hd : (x == ("__debug__" : Str)) = false := by decide)
    (dD : (x == ("__classdict__" : Str)) = false := by decide) : QE Γ X (.Name x pos) (zVar i) := G2 hN hv hd dD
end
theorem Ny {c : Bool} {A B : Prop} (h : c = true) (a : A) : if c = true then A else B := by rw [if_pos h]; exact a
theorem Nz {c : Bool} {A B : Prop} (h : c = false) (b : B) : if c = true then A else B := by rw [h, if_neg Bool.false_ne_true]; exact b
theorem ee {c : Bool} {A B : Prop} (h1 : c = true → A) (h2 : c = false → B) : if c = true then A else B := by
  cases c
  · exact Nz rfl (h2 rfl)
  · exact Ny rfl (h1 rfl)
theorem pH {g : cx} {te : aI} {M : Mh} (p : Dv → Bool) (I : aA → Prop) : ∀ {ds : List Dv} {τ : aA} {Q : Bool → Mh → Prop}, I τ → (∀ d ∈ ds, ∀ τ, I τ → ∀ R : aA → ZK, (∀ aC, I aC → R aC (.bl (p d)) M) → g d τ M fun aC M2 => te aC M2 (R aC)) → Q (ds.all p) M → jl g zNoIf te ds τ M Q
  | [], τ, Q, _, _, q => q
  | d :: ds, τ, Q, i, h, q => by
    refine h d List.mem_cons_self τ i (fun aC => zBool fun c M4 => if c = false then Q false M4 else jl g zNoIf te ds aC M4 Q) fun aC i2 => ?_
    show if p d = false then Q false M else jl g zNoIf te ds aC M Q
    cases e : p d with
    | false =>
      rw [if_pos rfl]
      rw [List.all_cons, e] at q
      exact q
    | true =>
      rw [if_neg (by decide)]
      rw [List.all_cons, e, Bool.true_and] at q
      exact pH p I i2 (fun d' hd => h d' (List.mem_cons_of_mem _ hd)) q
theorem jP {g : cx} {te : aI} (f : Dv → Dv) (I : aA → Mh → Prop) : ∀ {ds : List Dv} {τ : aA} {M : Mh} {Q : List Dv → Mh → Prop}, I τ M → (∀ d ∈ ds, ∀ τ M, I τ M → ∀ R : aA → ZK, (∀ aC M2, I aC M2 → R aC (f d) M2) → g d τ M fun aC M2 => te aC M2 (R aC)) → (∀ τ M, I τ M → Q (ds.map f) M) → gp g zNoIf te ds τ M Q
  | [], τ, M, Q, i, _, q => q τ M i
  | d :: ds, τ, M, Q, i, h, q => by
    refine h d List.mem_cons_self τ M i (fun aC y M4 => gp g zNoIf te ds aC M4 fun ys M5 => Q (y :: ys) M5) fun aC M2 i2 => ?_
    exact jP f I i2 (fun d' hd => h d' (List.mem_cons_of_mem _ hd)) fun jN M3 i3 => q jN M3 i3
theorem pI {g : cx} {tt : cP} {te : aI} (t : Dv → Bool) (f : Dv → Dv) (I : aA → Mh → Prop) : ∀ {ds : List Dv} {τ : aA} {M : Mh} {Q : List Dv → Mh → Prop}, I τ M →
    (∀ d ∈ ds, ∀ τ M, I τ M → ∀ (R0 : aA → Mh → Prop) (R : aA → ZK), (t d = true → ∀ aC M2, I aC M2 → R aC (f d) M2) → (t d = false → ∀ aC M2, I aC M2 → R0 aC M2) → g d τ M fun aC M2 => tt aC M2 fun b M3 => if b = true then te aC M3 (R aC) else R0 aC M3) →
    (∀ τ M, I τ M → Q ((ds.filter t).map f) M) → gp g tt te ds τ M Q
  | [], τ, M, Q, i, _, q => q τ M i
  | d :: ds, τ, M, Q, i, h, q => by
    refine h d List.mem_cons_self τ M i (fun aC M3 => gp g tt te ds aC M3 Q) (fun aC y M4 => gp g tt te ds aC M4 fun ys M5 => Q (y :: ys) M5) (fun e aC M2 i2 => ?_) fun e aC M2 i2 => ?_
    · refine pI t f I i2 (fun d' hd => h d' (List.mem_cons_of_mem _ hd)) fun jN M3 i3 => ?_
      have := q jN M3 i3
      rw [List.filter_cons, if_pos e] at this
      exact this
    · refine pI t f I i2 (fun d' hd => h d' (List.mem_cons_of_mem _ hd)) fun jN M3 i3 => ?_
      have := q jN M3 i3
      rw [List.filter_cons, if_neg (by rw [e]; decide)] at this
      exact this
theorem vA {g : cx} {te : aI} (f : Dv → Int) (I : aA → Mh → Prop) : ∀ {ds : List Dv} {τ : aA} {M : Mh} {Q : List Int → Mh → Prop} {acc : List Int}, I τ M → acc.length + ds.length + 1 < scanBound → (∀ d ∈ ds, ∀ τ M, I τ M → ∀ R : aA → ZK, (∀ aC M2, I aC M2 → R aC (.int (f d)) M2) → g d τ M fun aC M2 => te aC M2 (R aC)) → (∀ τ M, I τ M → Q ((ds.map f).foldl cG acc) M) → j5 g zNoIf te ds τ M Q acc
  | [], τ, M, Q, acc, i, _, _, q => q τ M i
  | d :: ds, τ, M, Q, acc, i, hl, h, q => by
    refine h d List.mem_cons_self τ M i (fun aC y M4 => match y with | .int k => acc.length + 1 < scanBound ∧ j5 g zNoIf te ds aC M4 Q (cG acc k) | _ => False) fun aC M2 i2 => ?_
    rw [List.length_cons] at hl
    refine ⟨by omega, vA f I i2 ?_ (fun d' hd => h d' (List.mem_cons_of_mem _ hd)) fun jN M3 i3 => q jN M3 i3⟩
    have := sR (ns := acc) (m := f d)
    omega
abbrev eI (ns : List Int) : Dv := .tup (ns.map .int)
abbrev eN (ah : List (List Int)) : Dv := .tup (ah.map eI)
abbrev jm (ns : List Int) : Dv := .lst (ns.map .int)
theorem gL {M : Mh} (ns : List Int) : ∀ d ∈ ns.map Dv.int, Pin M d := fun d hd => by
  obtain ⟨i, _, rfl⟩ := List.mem_map.mp hd
  exact .int i
theorem oB {M : Mh} (ns : List Int) : Pin M (eI ns) := .tup (gL ns)
theorem zD {M : Mh} (ah : List (List Int)) : Pin M (eN ah) := .tup fun d hd => by
  obtain ⟨r, _, rfl⟩ := List.mem_map.mp hd
  exact oB r
theorem Ep {α β : Type} {f : α → β} {xs : List α} {i : Int} {x : α} (h : di xs i = some x) : di (xs.map f) i = some (f x) := by
  unfold di at h ⊢
  rw [List.length_map]
  cases e : gY xs.length i with
  | none => rw [e] at h; cases h
  | some j => rw [e] at h; simp only [Option.bind_some] at h ⊢; rw [List.getElem?_map, h]; rfl
theorem zE {α : Type} {xs : List α} {k : Nat} (h : k < xs.length) : di xs ((k : Nat) : Int) = some xs[k] := dE (List.getElem?_eq_getElem h)
def spLaw (K : PySem.W.Frag) (tb : da) : Sp := fun vs H Q _ => ∃ (a : Addr) (ns : List Int), vs = [.ref a] ∧ bE K H a (ns.map V.int) ∧ ns.length ≤ 63 ∧ CG tb.g H ∧ (∀ p ∈ tb.l, Lm H p) ∧ ∀ H', (∀ p ∈ tb.l, ∃ ps, H' p.1 = some (.lam ps)) → Q (.bl true) H'
def Hi : cQ := fun ds M Q _ => ∃ ns : List Int, ds = [.bo ns] ∧ ns.length ≤ 63 ∧ (∀ a, M a = none) ∧ ∀ M', Q (.bl true) M'
theorem Hj {P : Program} {w : World} {K : PySem.W.Frag} {mg : Str → Option Value} {base : Heap} {k : Nat} {f : Addr} {fd : FuncData} {x : Str} {tb : da} (G : FnOk P w K mg base bj k f fd [x] (bp P w K tb Hi)) : FnOk P w K mg base bj k f fd [x] (spLaw K tb) :=
  G.imp fun vs H Q E ⟨a, ns, e, hS, hl, hT, hL, q⟩ => by
    subst e
    have m : Mz ⟨P, w, K, tb, []⟩ (fun _ => none) H := ⟨(fun a o e => nomatch e), hT, (fun a ha => absurd ha (by simp)), (fun a o e => nomatch e), hL⟩
    refine ⟨⟨P, w, K, tb, []⟩, [.bo ns], fun _ => none, fun d _ => d = .bl true, fun _ _ => False, rfl, rfl, rfl, rfl, m, .cons ?_ .nil, ⟨ns, rfl, hl, fun _ => rfl, fun _ => rfl⟩, fun d M' v H' x r h => ?_, fun _ _ _ _ h => h.elim⟩
    · have fz : Fz ⟨P, w, K, tb, []⟩ (fun _ => none) a := ⟨rfl, by simp⟩
      rcases hS with (h | ⟨o, h⟩) | h
      · exact .cf fz h
      · exact .bo fz h
      · exact .cg h
    · subst h
      rw [de r]
      exact q H' fun p hp => let ⟨ps, e, _⟩ := x.mz.lams p hp; ⟨ps, e⟩
def Keeps (M0 M : Mh) : Prop := ∀ a o, M0 a = some o → M a = some o
theorem Keeps.refl {M0 : Mh} : Keeps M0 M0 := fun _ _ h => h
theorem Keeps.upd {M0 M : Mh} {a : Addr} {o : Mo} (ha : M0 a = none) (h : Keeps M0 M) : Keeps M0 (aw M a o) := fun b u e => by
  rw [ak (fun z => by rw [z, ha] at e; cases e)]
  exact h b u e
theorem qO {M0 M : Mh} {Q : ZK} {d : Dv} (h : Keeps M0 M) (p : Pin M0 d) (q : Q d M0) : gK M0 Q d M := .inr ⟨h, d, .pin p, q⟩
theorem qP {M0 M : Mh} {Q : ZK} {a : Addr} {ds : List Dv} (h : Keeps M0 M) (h0 : M0 a = none) (ha : M a = some (.lst ds)) (p : ∀ d ∈ ds, Pin M0 d) (q : Q (.lst ds) M0) : gK M0 Q (.ptr a) M := .inr ⟨h, .lst ds, .ptr h0 ha rfl fun i d d' e e' => by
  rw [e] at e'
  cases e'
  exact .pin (p d (List.mem_of_getElem? e)), q⟩
theorem eR {lo : Int} {n i : Nat} {d : Dv} (h : (dg lo n)[i]? = some d) : d = .int (lo + (i : Nat)) ∧ i < n := by
  unfold dg at h
  rw [List.getElem?_map] at h
  cases e : (List.range n)[i]? with
  | none => rw [e] at h; cases h
  | some k =>
    rw [e] at h
    obtain ⟨h1, h2⟩ := List.getElem?_eq_some_iff.mp e
    rw [List.getElem_range] at h2
    subst h2
    exact ⟨(Option.some.inj h).symm, by simpa using h1⟩
theorem oC {lo : Int} {n : Nat} {d : Dv} (h : d ∈ dg lo n) : ∃ i : Nat, i < n ∧ d = .int (lo + (i : Nat)) := by
  obtain ⟨i, hi⟩ := List.mem_iff_getElem?.mp h
  obtain ⟨e, l⟩ := eR hi
  exact ⟨i, l, e⟩
theorem rangeD_len (lo : Int) (n : Nat) : (dg lo n).length = n := by simp [dg]
theorem qQ {xs ys : List Dv} {k : Nat} {d : Dv} (h : (cm xs ys)[k]? = some d) : ∃ x y, d = .tup [x, y] ∧ xs[k]? = some x ∧ ys[k]? = some y := by
  unfold cm at h
  rw [List.getElem?_map, Option.map_eq_some_iff] at h
  obtain ⟨p, h, rfl⟩ := h
  rw [List.getElem?_zip_eq_some] at h
  exact ⟨p.1, p.2, rfl, h.1, h.2⟩
theorem Er {n k : Nat} {d : Dv} (h : (iX n)[k]? = some d) : d = .int (k : Nat) ∧ k < n := by
  unfold iX at h
  rw [List.getElem?_map] at h
  cases e : (List.range n)[k]? with
  | none => rw [e] at h; cases h
  | some j =>
    rw [e] at h
    obtain ⟨h1, h2⟩ := List.getElem?_eq_some_iff.mp e
    rw [List.getElem_range] at h2
    subst h2
    exact ⟨(Option.some.inj h).symm, by simpa using h1⟩
theorem Es {ds : List Dv} {k : Nat} {d : Dv} (h : (cm (iX ds.length) ds)[k]? = some d) : ∃ x, d = .tup [.int (k : Nat), x] ∧ ds[k]? = some x := by
  obtain ⟨x, y, rfl, h1, h2⟩ := qQ h
  obtain ⟨rfl, _⟩ := Er h1
  exact ⟨y, rfl, h2⟩
theorem atI_zero {α : Type} {x : α} {xs : List α} : di (x :: xs) 0 = some x := dE (j := 0) rfl
theorem zF {α : Type} {f : α → Dv} {xs : List α} {k : Nat} {d : Dv} (h : (xs.map f)[k]? = some d) : ∃ x, xs[k]? = some x ∧ d = f x := by
  rw [List.getElem?_map, Option.map_eq_some_iff] at h
  obtain ⟨x, h, e⟩ := h
  exact ⟨x, h, e.symm⟩
theorem pairsD_len (xs ys : List Dv) : (cm xs ys).length = min xs.length ys.length := by simp [cm]
end L2
namespace L2
open PySem PySem.Spec PyProof.Rows
theorem zG {M : Model} {A : Around} {E : Value → Shared → Prop} {s : Shared} {scope : Scope} {globals : Addr} {cl : List (Str × Addr)} {qual : Str} {env : Env} {Q : Env → Shared → Prop}
    (h : Q (newEnv scope s.heap.objs.size globals (cellsFrom (s.heap.objs.size + 1) scope.names cl) qual none .none (some env) builtinsNs) { s with heap := pushCells (s.heap.push { cls := .type "dict", data := .dict #[] }) scope.names }) :
    wpAny M A (newFunctionEnv scope globals cl [] qual none .none (some env)) Q E s := by
  simp only [newFunctionEnv, Option.isSome_some, if_true]
  refine wpAny_bind (wpAny_alloc ?_)
  refine wpAny_bind (wpAny_layCells _ (fun name kind cells => by cases NA : kind == NameKind.cell <;> simp [NA]) _ _ _ _ ?_)
  rw [show ({ s with heap := s.heap.push { cls := .type "dict", data := .dict #[] } } : Shared).heap.objs.size = s.heap.objs.size + 1 from Heap.size_push ..]
  exact wpAny_pure h
theorem iY : ∀ (names : List (Str × NameKind)) (h : Heap) (cl : List (Str × Addr)) (x : Str) (c : Addr), (cellsFrom h.objs.size names cl).lookup x = some c →
    ((x, NameKind.cell) ∈ names ∧ h.objs.size ≤ c ∧ (pushCells h names).IsCell c none) ∨ ((∀ k, (x, k) ∈ names → k ≠ .cell) ∧ cl.lookup x = some c)
  | [], h, cl, x, c, e => .inr ⟨fun k z => by simp at z, e⟩
  | (n, k) :: r, h, cl, x, c, e => by
    unfold cellsFrom at e
    unfold pushCells
    split at e
    · rename_i hk
      have ql : k = .cell := by simpa using hk
      subst ql
      rw [if_pos hk]
      have sz : (h.push { cls := .type "cell", data := .cell none }).objs.size = h.objs.size + 1 := Heap.size_push ..
      rw [← sz] at e
      rcases iY r _ _ x c e with ⟨a, b, d⟩ | ⟨a, b⟩
      · exact .inl ⟨List.mem_cons_of_mem _ a, by omega, d⟩
      · rw [List.lookup_cons] at b
        cases hx : x == n with
        | true =>
          rw [hx] at b
          cases b
          have e2 : x = n := by simpa using hx
          subst e2
          exact .inl ⟨List.mem_cons_self, Nat.le_refl _, ⟨_, pushCells_keeps r _ _ _ (Heap.get?_push_size _ rfl), rfl⟩⟩
        | false =>
          rw [hx] at b
          refine .inr ⟨fun k2 z => ?_, b⟩
          rcases List.mem_cons.mp z with q | q
          · cases q; simp at hx
          · exact a k2 q
    · rename_i hk
      rw [if_neg hk]
      rcases iY r h cl x c e with ⟨a, b, d⟩ | ⟨a, b⟩
      · exact .inl ⟨List.mem_cons_of_mem _ a, b, d⟩
      · refine .inr ⟨fun k2 z => ?_, b⟩
        rcases List.mem_cons.mp z with q | q
        · cases q; intro z; subst z; exact hk rfl
        · exact a k2 q
theorem cells_apart : ∀ (names : List (Str × NameKind)) (h : Heap) (cl : List (Str × Addr)) (x y : Str) (c : Addr), (∀ n c, cl.lookup n = some c → c < h.objs.size) → (∀ x y c, cl.lookup x = some c → cl.lookup y = some c → x = y) → (cellsFrom h.objs.size names cl).lookup x = some c → (cellsFrom h.objs.size names cl).lookup y = some c → x = y
  | [], h, cl, x, y, c, _, inj, e, e' => inj x y c e e'
  | (n, k) :: r, h, cl, x, y, c, lt, inj, e, e' => by
    unfold cellsFrom at e e'
    split at e
    · rename_i hk
      rw [if_pos hk] at e'
      have sz : (h.push { cls := .type "cell", data := .cell none }).objs.size = h.objs.size + 1 := Heap.size_push ..
      rw [← sz] at e e'
      refine cells_apart r _ _ x y c (fun m d z => ?_) (fun x y d a b => ?_) e e'
      · rw [sz]
        rw [List.lookup_cons] at z
        cases hm : m == n with
        | true => rw [hm] at z; cases z; exact Nat.lt_succ_self _
        | false => rw [hm] at z; exact Nat.lt_succ_of_lt (lt m d z)
      · rw [List.lookup_cons] at a b
        have old : ∀ z, cl.lookup z = some h.objs.size → False := fun z q => absurd (lt _ _ q) (Nat.lt_irrefl _)
        cases hx : x == n with
        | true =>
          rw [hx] at a
          cases a
          cases hy : y == n with
          | true => rw [show x = n by simpa using hx, show y = n by simpa using hy]
          | false => rw [hy] at b; exact (old y b).elim
        | false =>
          rw [hx] at a
          cases hy : y == n with
          | true => rw [hy] at b; cases b; exact (old x a).elim
          | false => rw [hy] at b; exact inj x y d a b
    · rename_i hk
      rw [if_neg hk] at e'
      exact cells_apart r h cl x y c lt inj e e'
theorem jn : ∀ (names : List (Str × NameKind)) (n : Nat) (cl : List (Str × Addr)) (x : Str), ((x, NameKind.cell) ∈ names ∨ ∃ c, cl.lookup x = some c) → ∃ c, (cellsFrom n names cl).lookup x = some c
  | [], n, cl, x, h => by
    rcases h with h | h
    · simp at h
    · exact h
  | (y, k) :: r, n, cl, x, h => by
    unfold cellsFrom
    split
    · rename_i hk
      refine jn r _ _ x ?_
      by_cases e : x = y
      · subst e
        exact .inr ⟨n, by rw [List.lookup_cons]; simp⟩
      · rcases h with h | ⟨c, h⟩
        · rcases List.mem_cons.mp h with q | q
          · cases q; exact absurd rfl e
          · exact .inl q
        · exact .inr ⟨c, by rw [List.lookup_cons, show (x == y) = false by simpa using e]; exact h⟩
    · rename_i hk
      refine jn r _ _ x ?_
      rcases h with h | h
      · rcases List.mem_cons.mp h with q | q
        · cases q; exact absurd rfl hk
        · exact .inl q
      · exact .inr h
theorem wV {X : Cx} {pins : List (Addr × Obj)} {σ : St} {H : Hp} {s : Shared} (I : Inv X pins σ H s) {x : Str} {c : Addr} (h : X.env.cells.lookup x = some c) : c < s.heap.objs.size := by
  obtain ⟨v, o, ho, _⟩ := I.cell x c h
  exact Heap.lt_size ho
abbrev mQ (X : Cx) (N' : List Str) (scope : Scope) (cl : List (Str × Addr)) (C : Addr) (s : Shared) (H : Hp) (fp : List Addr) (own : Str → Bool) : Cx := { gD X N' scope cl C s H fp with fn := own }
def dr (N : List Str) (sc scope : Scope) (N' : List Str) (tn : Nat) (idx : List Nat) : Prop :=
  scope.kind = .function ∧ (∀ y ∈ scope.names, (y.2 = .cell → scope.names.lookup y.1 = some .cell) ∧ (y.2 = .local → scope.names.lookup y.1 = some .local) ∧ (y.2 = .free → sc.names.lookup y.1 = some .cell ∨ sc.names.lookup y.1 = some .free)) ∧
    N'.length = tn + idx.length ∧ ∀ p ∈ idx.zip (N'.drop tn), N[p.1]? = some p.2 ∧ scope.names.lookup p.2 = some .free
instance (N : List Str) (sc scope : Scope) (N' : List Str) (tn : Nat) (idx : List Nat) : Decidable (dr N sc scope N' tn idx) := by unfold dr; infer_instance
theorem dr.at {N : List Str} {sc scope : Scope} {N' : List Str} {tn : Nat} {idx : List Nat} (B : dr N sc scope N' tn idx) {σ : St} {i : Nat} {x : Str} {v : V} (h1 : N'[i]? = some x) (h2 : (bg tn idx σ)[i]? = some (some v)) :
    scope.names.lookup x = some .free ∧ ∃ j : Nat, N[j]? = some x ∧ σ[j]? = some (some v) := by
  obtain ⟨_, _, b3, b4⟩ := B
  unfold bg at h2
  by_cases hi : i < tn
  · rw [List.getElem?_append_left (by simpa using hi), List.getElem?_replicate, if_pos hi] at h2
    cases h2
  · rw [List.getElem?_append_right (by simpa using hi), List.length_replicate, List.getElem?_map] at h2
    cases e : idx[i - tn]? with
    | none => rw [e] at h2; cases h2
    | some k =>
      rw [e] at h2
      have h3 : (σ[k]?).join = some v := Option.some.inj h2
      have e2 : (N'.drop tn)[i - tn]? = some x := by
        rw [List.getElem?_drop]
        have : tn + (i - tn) = i := by omega
        rw [this]; exact h1
      have m : (k, x) ∈ idx.zip (N'.drop tn) := by
        refine List.mem_of_getElem? (i := i - tn) ?_
        rw [List.getElem?_zip_eq_some]
        exact ⟨e, e2⟩
      obtain ⟨a, b⟩ := b4 _ m
      refine ⟨b, k, a, ?_⟩
      cases q : σ[k]? with
      | none => rw [q] at h3; cases h3
      | some w => rw [q] at h3; exact congrArg some h3
theorem dr.len {N : List Str} {sc scope : Scope} {N' : List Str} {tn : Nat} {idx : List Nat} (B : dr N sc scope N' tn idx) (σ : St) : (bg tn idx σ).length = N'.length := by
  rw [B.2.2.1]
  unfold bg
  simp
def du (scope : Scope) (x : Str) : Bool := scope.names.lookup x == some .cell
abbrev j6 (X : Cx) (N' : List Str) (scope : Scope) (P : Cx → Prop) : Prop := ∀ (cl : List (Str × Addr)) (C : Addr) (s : Shared) (H : Hp) (fp : List Addr), P (mQ X N' scope cl C s H fp (du scope))
theorem wW {X : Cx} {pins : List (Addr × Obj)} {σ aH : St} {H H' : Hp} {s : Shared} {N' : List Str} {scope : Scope} {cs : List (Str × Addr)} {C : Addr} {ex : List Addr} {h1 : Heap} {m0 : Str → Option Value} {g' : Array GenState} {tk : Nat}
    (I : Inv X pins σ H s) (lZ : scope.kind = .function)
    (cW : ∀ n c, cs.lookup n = some c → (du scope n = true ∧ C < c ∧ h1.IsCell c none ∧ H' c = none) ∨ (du scope n = false ∧ X.env.cells.lookup n = some c))
    (LX : ∀ x y c, cs.lookup x = some c → cs.lookup y = some c → x = y)
    (mX : ∀ x, ((relabel scope X.env).names.lookup x = some .cell ∨ (relabel scope X.env).names.lookup x = some .free) → ∃ c, cs.lookup x = some c)
    (hC : s.heap.objs.size ≤ C) (hf : ∀ b ∈ ex, c7 X pins H b) (wc : ∀ b ∈ ex, b < s.heap.objs.size)
    (yl : Un (dP X.stack) ex H H' s.heap h1) (hok : cj X.prog X.w H' h1) (nU : H' C = none) (nV : ∀ b o, s.heap.get? b = some o → h1.get? b = some o) (fL : h1.Ns C m0)
    (sv : ∀ (i : Nat) (x : Str) (v : V), N'[i]? = some x → aH[i]? = some (some v) → du scope x = false ∧ ((relabel scope X.env).names.lookup x = some .cell ∨ (relabel scope X.env).names.lookup x = some .free) ∧ mD X.env.scope x ∧ (X.env.kindOf x = some .cell ∨ X.env.kindOf x = some .free) ∧ ∃ j : Nat, X.N[j]? = some x ∧ σ[j]? = some (some v))
    (hlen : aH.length = N'.length) (hg : Gn s.gens.size g') : Inv (mQ X N' scope cs C s H ex (du scope)) [] aH H' { s with heap := h1, gens := g', toks := tk } := by
  have ym : ∀ b ∈ ex, ∀ x c, X.env.cells.lookup x = some c → c ≠ b := fun b hb => (hf b hb).2.2.2.2.1
  have NB : ∀ b ∈ ex, ∀ x c, cs.lookup x = some c → c ≠ b := fun b hb x c e z => by
    rcases cW x c e with ⟨_, q, _⟩ | ⟨_, q⟩
    · subst z; exact absurd (Nat.lt_trans (Nat.lt_of_le_of_lt hC q) (wc _ hb)) (Nat.lt_irrefl _)
    · exact ym b hb x c q z
  refine ⟨⟨I.ok.mod, lZ, I.ok.glob, I.ok.blt, hC, LX, mX, fun x c hx e => ?_, fun z => I.ok.hd z, I.ok.frames, .inl rfl, fun b hb => ⟨Nat.ne_of_lt (Nat.lt_of_lt_of_le (wc b hb) hC), fun x c e => NB b hb x c e⟩,
      I.bs, Nat.le_trans I.ok.bsz I.sz, fun b o e hb => ?_, fun b hb z => ?_, I.stack, I.jz⟩, rfl, hg, yl, ⟨m0, fL, fun i x v e1 e2 e3 => ?_⟩, fun x c e => ?_, nU, fun x c e => ?_, fun p hp => absurd (show p ∈ ([] : List (Addr × Obj)) from hp) (by simp), hok, hlen⟩
  · rcases cW x c e with ⟨_, q, _⟩ | ⟨q, _⟩
    · exact Nat.le_of_lt (Nat.lt_of_le_of_lt hC q)
    · have gE : du scope x = true := hx
      rw [q] at gE; cases gE
  · rcases (hf b hb).2.2.2.1 with z | z
    · exact I.ok.noex b o e z
    · exact absurd (Nat.lt_of_lt_of_le (Heap.lt_size e) (Nat.le_trans I.ok.bsz z)) (Nat.lt_irrefl _)
  · rcases List.mem_cons.mp (I.eC b z) with q | q
    · exact (hf b hb).2.1 q
    · exact (hf b hb).2.2.1 q
  · obtain ⟨k0, k1, vx, k2, j, n1, n2⟩ := sv i x v e1 e2
    obtain ⟨m, hn, hl⟩ := I.loc
    obtain ⟨u, r, l⟩ := hl j x v n1 n2 vx
    refine ⟨u, r, .inr ⟨k1, ?_⟩⟩
    obtain ⟨c', yn⟩ := mX x k1
    rcases l with ⟨kl, _⟩ | ⟨_, c, ec, z⟩
    · rcases k2 with q | q <;> (rw [kl] at q; cases q)
    · rcases cW x c' yn with ⟨q, _⟩ | ⟨_, q⟩
      · rw [k0] at q; cases q
      · have : c' = c := Option.some.inj (q.symm.trans ec)
        subst this
        exact ⟨c', yn, z.keeps nV⟩
  · rcases cW x c e with ⟨_, _, q, _⟩ | ⟨_, q⟩
    · exact ⟨_, q⟩
    · obtain ⟨v, z⟩ := I.cell x c q
      exact ⟨v, z.keeps nV⟩
  · rcases cW x c e with ⟨_, _, _, q⟩ | ⟨_, q⟩
    · exact q
    · obtain ⟨v, o, ho, hd⟩ := I.cell x c q
      exact yl.free c o ho (I.freeC x c q) fun z => ym c z x c q rfl
section
variable {X : Cx}
theorem wX {pins : List (Addr × Obj)} {σ : St} {H2 : Hp} {s2 : Shared} {tg elt iter : Expr} {ifs : List Expr} {scope : Scope} {pos : Pos} {N' : List Str} {tn : Nat} {idx : List Nat} {g : TG} {tt : TT} {te : TE} {it : Addr} {fp : List Addr} {cE : Nat → Heap → Prop} {J : It}
    {cl : List (Str × Addr)} {E : Value → Shared → Prop} {RR : Value → Addr → Result → Shared → Prop} {Q : VK}
    (hc : X.calm = true) (B : dr X.N X.env.scope scope N' tn idx)
    (hg : j6 X N' scope fun Y => PG Y tg g) (ht : j6 X N' scope fun Y => iO Y ifs tt) (he : j6 X N' scope fun Y => PE Y elt te)
    (I : Inv X pins σ H2 s2) (T : Turn X.prog X.w X.K tg J fp it cE) (st : cE 0 s2.heap) (f2 : ∀ b ∈ fp, c7 X pins H2 b)
    (cM : ∀ n c, cl.lookup n = some c → X.env.cells.lookup n = some c) (ez : ∀ n, (n, NameKind.free) ∈ scope.names → ∃ c, cl.lookup n = some c)
    (hq : ∀ D, H2 D = none → ∃ W : Nat → Nat → St → Hp → Prop, (∃ m, W 0 m (bg tn idx σ) (upd H2 D (.lst []))) ∧ we J g tt te D Q W)
    (yo : ∀ D C m s' H', Inv X pins σ H' s' → c7 X pins H' C → s'.heap.Ns C m → Q (.ref D) H' → RR (.ref D) C (.ok .next) s') :
    wpAny (model X.prog X.w) X.A (newList []) (fun acc dF => wpAny (model X.prog X.w) X.A (newFunctionEnv scope X.env.globals cl [] X.env.qual none .none (some X.env)) (fun kL sx =>
      codeAny (model X.prog X.w) X.A (.compStart (.ListComp elt [⟨tg, iter, ifs, 0⟩] scope pos) 0 (.ref it) acc { kL with scope := relabel scope X.env }) (RR acc kL.locals) sx) E dF) E s2 := by
  obtain ⟨b1, b2, b3, b4⟩ := id B
  refine wpAny_newObj_type (zG ?_)
  dsimp only
  generalize hG : s2.heap.push { cls := .type "list", dict := none, data := .seq ([] : List Value).toArray } = G
  have hC : G.objs.size = s2.heap.objs.size + 1 := by rw [← hG, Heap.size_push]
  generalize Hk : pushCells (G.push { cls := .type "dict", data := .dict #[] }) scope.names = cF
  have fY : cF.Ns G.objs.size fun _ => none := by rw [← Hk]; exact (Heap.Ns.new G (.type "dict")).keeps (pushCells_keeps _ _)
  have oE : ∀ b o, G.get? b = some o → cF.get? b = some o := fun b o e => by rw [← Hk]; exact pushCells_keeps _ _ b o (Heap.get?_push_of_some _ e)
  have sy : s2.heap.objs.size ≠ G.objs.size := by rw [hC]; exact Nat.ne_of_lt (Nat.lt_succ_self _)
  have gJ : s2.heap.objs.size ≤ G.objs.size := by rw [hC]; exact Nat.le_succ _
  have below : ∀ b, b < s2.heap.objs.size → b ≠ G.objs.size := fun b hb => by rw [hC]; exact Nat.ne_of_lt (Nat.lt_succ_of_lt hb)
  have old : ∀ b o, s2.heap.get? b = some o → cF.get? b = some o := fun b o e => oE b o (hG ▸ Heap.get?_push_of_some _ e)
  have yp : cF.get? s2.heap.objs.size = some { cls := .type "list", data := .seq ([] : List Value).toArray } := oE _ _ (hG ▸ Heap.get?_push_size _ rfl)
  generalize tU : cellsFrom (G.objs.size + 1) scope.names cl = cs
  have C8 : (G.push { cls := .type "dict", data := .dict #[] }).objs.size = G.objs.size + 1 := Heap.size_push ..
  have Hl : ∀ x, (x, NameKind.cell) ∈ scope.names → du scope x = true := fun x hx => by
    unfold du
    rw [(b2 _ hx).1 rfl]
    rfl
  have Et : ∀ x, (∀ k, (x, k) ∈ scope.names → k ≠ NameKind.cell) → du scope x = false := fun x hx => by
    unfold du
    cases q : scope.names.lookup x with
    | none => rfl
    | some k => have := hx k (PySem.mem_of_lookup q); simpa using this
  have look : ∀ x c, cs.lookup x = some c → (du scope x = true ∧ G.objs.size < c ∧ cF.IsCell c none) ∨ (du scope x = false ∧ cl.lookup x = some c) := fun x c e => by
    rw [← tU, ← C8] at e
    rcases iY scope.names _ cl x c e with ⟨a, b, d⟩ | ⟨a, b⟩
    · rw [Hk] at d
      rw [C8] at b
      exact .inl ⟨Hl x a, b, d⟩
    · exact .inr ⟨Et x a, b⟩
  have inj : ∀ x y c, cs.lookup x = some c → cs.lookup y = some c → x = y := fun x y c e e' => by
    rw [← tU, ← C8] at e e'
    refine cells_apart scope.names _ cl x y c (fun n d z => ?_) (fun x y d a b => I.ok.inj x y d (cM x d a) (cM y d b)) e e'
    rw [C8, hC]
    exact Nat.lt_succ_of_lt (Nat.lt_succ_of_lt (wV I (cM n d z)))
  have qj : H2 s2.heap.objs.size = none := I.hok.fresh (Nat.le_refl _)
  have nU : upd H2 s2.heap.objs.size (.lst []) G.objs.size = none := by rw [af (Ne.symm sy)]; exact I.hok.fresh gJ
  have sA : cj X.prog X.w (upd H2 s2.heap.objs.size (.lst [])) cF := I.hok.laid old (Nat.le_refl _) ⟨Nat.zero_le _, [], 0, .nil, yp⟩
  have ig : ∀ b ∈ fp, b < s2.heap.objs.size := fun b hb => let ⟨o, e, _⟩ := T.obj _ _ st b hb; Heap.lt_size e
  obtain ⟨W, ⟨m0, w0⟩, turn⟩ := hq s2.heap.objs.size qj
  have I1 : Inv (mQ X N' scope cs G.objs.size s2 H2 fp (du scope)) [] (bg tn idx σ) (upd H2 s2.heap.objs.size (.lst [])) { s2 with heap := cF, toks := s2.toks } := by
    refine wW (g' := s2.gens) (m0 := fun _ => none) I b1 (fun n c e => ?_) inj (fun x hx => ?_) gJ f2 ig (Un.laid old (Nat.le_refl _) qj) sA nU old fY (fun i x v e1 e2 => ?_) (B.len σ) I.bare.self
    · rcases look n c e with ⟨o, a, b⟩ | ⟨o, a⟩
      · refine .inl ⟨o, a, b, ?_⟩
        have : c ≠ s2.heap.objs.size := fun z => by rw [z, hC] at a; exact absurd (Nat.lt_trans a (Nat.lt_succ_self _)) (fun h => by omega)
        rw [af this]
        exact I.hok.fresh (Nat.le_of_lt (Nat.lt_of_le_of_lt gJ a))
      · exact .inr ⟨o, cM n c a⟩
    · rw [c9] at hx
      rw [← tU]
      cases q : scope.names.lookup x with
      | none => rw [q] at hx; rcases hx with z | z <;> cases z
      | some k0 =>
        have hm := PySem.mem_of_lookup q
        rw [q] at hx
        by_cases hk : k0 = .free
        · subst hk; exact jn _ _ _ _ (.inr (ez x hm))
        · have nk : (k0 == NameKind.free) = false := by simpa using hk
          simp only [Option.map_some, nk, Bool.false_and, Bool.false_eq_true, if_false] at hx
          rcases hx with z | z
          · have e0 : k0 = .cell := Option.some.inj z
            subst e0
            exact jn _ _ _ _ (.inl hm)
          · exact absurd (Option.some.inj z) hk
    · obtain ⟨fr, j, e4, e5⟩ := B.at e1 e2
      have kx := (b2 _ (PySem.mem_of_lookup fr)).2.2 rfl
      refine ⟨by unfold du; rw [fr]; rfl, ?_, .inr kx, kx, j, e4, e5⟩
      rw [c9, fr]
      simp only [Option.map_some]
      split
      · exact .inl rfl
      · exact .inr rfl
  have stat : ∀ {H' : Hp}, (∀ b ∈ fp, H' b = none) → ∀ b ∈ fp, c7 (mQ X N' scope cs G.objs.size s2 H2 fp (du scope)) [] H' b := fun hn b hb => by
    refine ⟨hn b hb, below b (ig b hb), fun z => ?_, .inl hb, (fun x c e => by
      rcases look x c e with ⟨_, a, _⟩ | ⟨_, a⟩
      · exact fun z => absurd (Nat.lt_trans (Nat.lt_of_le_of_lt gJ (z ▸ a)) (ig b hb)) (Nat.lt_irrefl _)
      · exact (f2 b hb).2.2.2.2.1 x c (cM x c a)), fun p hp => absurd (show p ∈ ([] : List (Addr × Obj)) from hp) (by simp)⟩
    rcases List.mem_cons.mp (I.eC b z) with q | q
    · exact (f2 b hb).2.1 q
    · exact (f2 b hb).2.2.1 q
  have loop : ∀ dF : Shared, dF = { s2 with heap := cF, toks := s2.toks } →
      codeAny (model X.prog X.w) X.A (.compLoop (.ListComp elt [⟨tg, iter, ifs, 0⟩] scope pos) 0 (.ref it) (.ref s2.heap.objs.size) (compEnvC scope cs G.objs.size X.env))
        (RR (.ref s2.heap.objs.size) G.objs.size) dF := by
    rintro dF rfl
    refine codeAny_loop rfl (fun n s' => ∃ i τ H', Inv (mQ X N' scope cs G.objs.size s2 H2 fp (du scope)) [] τ H' s' ∧ cE i s'.heap ∧ (∀ b ∈ fp, H' b = none) ∧ W i n τ H') (fun n s hI => ?_) m0
      ⟨0, _, _, I1, T.keep _ _ _ st fun b _ o e => old b o e, fun b hb => by rw [af (Nat.ne_of_lt (ig b hb))]; exact (f2 b hb).1, w0⟩
    show wpAny _ X.A ((compTurn (.ListComp elt [⟨tg, iter, ifs, 0⟩] scope pos) 0 (.ref it) (.ref s2.heap.objs.size) (compEnvC scope cs G.objs.size X.env)).onRaise (fun x => do noteFrame x (compEnvC scope cs G.objs.size X.env); theTreesLotGoes x)) _ _ s
    refine wpAny_noted ?_
    rw [compTurn_list]
    obtain ⟨i, τ, H3, I3, je, kD, w3⟩ := hI
    rcases turn i n τ H3 w3 with ⟨stop, qn⟩ | ⟨go, step⟩
    · refine wpAny_bind (wpAny_standAt (wpAny_bind (wpAny_mono (T.done (mQ X N' scope cs G.objs.size s2 H2 fp (du scope)) rfl rfl rfl hc i [] s τ H3 (fun _ _ => False) I3 (stat kD) je stop) (fun r s4 ⟨hr, I4⟩ => ?_) fun _ _ z => z.elim)))
      subst hr
      refine wpAny_pure ?_
      have J2 : Inv X pins σ H3 s4 := I.nI I4.os I4.base I4.hok I4.bare fun b hb => ⟨(f2 b hb).2.2.2.1, (f2 b hb).2.1, (f2 b hb).2.2.2.2.1, (f2 b hb).2.2.2.2.2⟩
      obtain ⟨mm, hm, _⟩ := I4.loc
      exact yo _ _ mm s4 H3 J2 (I.ju gJ I4.free) hm qn
    · refine wpAny_bind (wpAny_standAt (wpAny_bind (wpAny_mono (T.item (mQ X N' scope cs G.objs.size s2 H2 fp (du scope)) rfl rfl rfl hc i [] s τ H3 (fun _ _ => False) I3 (stat kD) je go) (fun r s4 ⟨u, hr, h4⟩ => ?_) fun _ _ z => z.elim)))
      subst hr
      refine wpAny_bind (wpAny_mono h4 (fun _ s5 ⟨x, H5, I5, r5, y5, fV, nO⟩ => ?_) fun _ _ z => z.elim)
      have nQ := I5.pinned (stat nO) (T.obj _ _ fV)
      have again : ∀ {gZ : St} {H7 : Hp} {s7 : Shared}, Inv (mQ X N' scope cs G.objs.size s2 H2 fp (du scope)) ([] ++ gX fp s5.heap) gZ H7 s7 → (∃ m', m' < n ∧ W (i + 1) m' gZ H7) →
          ∃ m, m < n ∧ ∃ i τ H', Inv (mQ X N' scope cs G.objs.size s2 H2 fp (du scope)) [] τ H' s7 ∧ cE i s7.heap ∧ (∀ b ∈ fp, H' b = none) ∧ W i m τ H' := fun {gZ H7 s7} I7 n7 => by
        obtain ⟨m', hm, w7⟩ := n7
        refine ⟨m', hm, i + 1, gZ, H7, I7.dU, T.keep _ _ _ fV fun b hb o e => (I7.pin (b, o) (List.mem_append_right _ (List.mem_append_right _ (cy hb e)))).1, fun b hb => ?_, w7⟩
        obtain ⟨o, e, d⟩ := T.obj _ _ fV b hb
        exact (I7.pin (b, o) (List.mem_append_right _ (List.mem_append_right _ (cy hb e)))).2.1
      refine wpAny_bind (wpAny_mono (hg cs G.objs.size s2 H2 fp _ s5 τ H5 x u _ nQ r5 (step x H5 y5)) (fun _ s6 ⟨ik, H6, I6, q6⟩ => ?_) fun _ _ z => z.elim)
      refine wpAny_bind (wpAny_mono (ht cs G.objs.size s2 H2 fp _ s6 ik H6 _ I6 q6) (fun ok s7 ⟨H7, I7, q7⟩ => ?_) fun _ _ z => z.elim)
      cases ok with
      | false => exact wpAny_pure ⟨rfl, again I7 q7⟩
      | true =>
        refine wpAny_bind (wpAny_bind (wpAny_mono (he cs G.objs.size s2 H2 fp _ s7 ik H7 _ I7 q7) (fun yv s8 ⟨y, H8, I8, r8, q8⟩ => ?_) fun _ _ z => z.elim))
        obtain ⟨ys, m', hD, hsz, kM, w8⟩ := q8
        refine wpAny_bind (wpAny_mono (kJ (X := mQ X N' scope cs G.objs.size s2 H2 fp (du scope)) _ s8 ik H8 (.ref s2.heap.objs.size) [y] (.ref s2.heap.objs.size) [yv] (fun v H9 => v = .aq ∧ H9 = upd H8 s2.heap.objs.size (.lst (ys ++ [y]))) I8 rfl (.cons r8 .nil) ⟨_, ys, y, rfl, rfl, hD, hsz, rfl, rfl⟩) (fun rv s9 ⟨v9, H9, I9, _, _, e9⟩ => ?_) fun _ _ z => z.elim)
        subst e9
        exact wpAny_pure (wpAny_pure ⟨rfl, again I9 ⟨m', kM, w8⟩⟩)
  exact codeAny_compStart_list (loop _ rfl) (T.self _ 0 _ _ _ (T.keep _ _ _ st fun b _ o e => old b o e) (loop _ rfl))
variable {tg elt iter : Expr} {ifs : List Expr} {scope : Scope} {pos : Pos} {N' : List Str} {tn : Nat} {idx : List Nat} {wi : TI} {g : TG} {tt : TT} {te : TE}
variable {Γ : Gz}
theorem uP {i : Nat} {y : Str} {py f6 : Pos} (hN : X.N.Nodup) (cY : X.N[i]? = some y) (hy : X.env.scope.names.lookup y = some .local) (hc : X.calm = true) (B : dr X.N X.env.scope scope N' tn idx) (hi : PI X tg iter wi)
    (hg : j6 X N' scope fun Y => PG Y tg g) (ht : j6 X N' scope fun Y => iO Y ifs tt) (he : j6 X N' scope fun Y => PE Y elt te)
    (nY : swapsWith (.ListComp elt [⟨tg, iter, ifs, 0⟩] scope pos) (some (.Name y py)) f6.line X.env = pure true := by rfl)
    (hs : ∀ x, foldedSetIterable iter X.env x = pure x := by intro _; rfl) : PS X (.Assign [.Name y py] (.ListComp elt [⟨tg, iter, ifs, 0⟩] scope pos) f6) (oZ (nW tn idx wi g tt te) (nL i)) := by
  refine ⟨?_⟩
  intro pins s σ H D I h
  obtain ⟨cl, fv, cM, ez⟩ := eU (scope := scope) (env := X.env) fun n hn => I.ok.has n ((B.2.1 _ hn).2.2 rfl)
  rw [exec_Assign_Name_used _ _ _ _ nY]
  refine wpAny_bind (wpAny_standAt (wpAny_bind ?_))
  show wpAny _ X.A (do let _ ← comprehension (.ListComp elt [⟨tg, iter, ifs, 0⟩] scope pos) scope X.env _ (newList []) false (eval iter X.env) (some (assign (.Name y py) X.env))) _ _ s
  refine wpAny_bind (wpAny_mono (wpAny_comprehension_free (use := some (assign (.Name y py) X.env)) (Q := fun _ s' => SP X pins D .next s') rfl hs fv B.1 (fun y hy => (B.2.1 y hy).2.1)
    (wpAny_mono (hi pins s σ H _ I h) (fun xv s1 h1 => wpAny_mono h1 (fun si s2 h2 => ?_) fun _ _ z => z) fun _ _ z => z)) (fun _ s' hq => wpAny_pure (wpAny_pure hq)) fun _ _ z => z)
  obtain ⟨it, fp, cE, J, H2, e, I2, T, kC, f2, q2⟩ := h2
  subst e
  refine wX (RR := fun acc C => compPost (model X.prog X.w) X.A X.xe (some (assign (.Name y py) X.env)) (fun _ s' => SP X pins D .next s') acc C) hc B hg ht he I2 T kC f2 cM ez q2 fun E C m s' H' J2 fC hm q => ?_
  show wpAny _ X.A (assign (.Name y py) X.env (.ref E)) _ _ s'
  refine wpAny_assign_Name (store_ok2 J2 hN cY (.inl hy) (v := .ref E) rfl (fun s3 J3 ⟨a, f7, ha⟩ => ?_) (.inr hy))
  have fh : C ≠ a := by
    rcases ha with z | z
    · rw [z]; exact fC.2.1
    · exact fun w => fC.2.2.2.2.1 _ _ z w.symm
  exact ⟨m, hm.sameBut f7 fh, fun h' mH => ⟨_, H', fC.turn J3 mH, q⟩⟩
end
theorem BR {scope : Scope} {env : Env} {x : Str} (h : scope.names.lookup x = some .cell ∨ scope.names.lookup x = some .free) : (relabel scope env).names.lookup x = some .cell ∨ (relabel scope env).names.lookup x = some .free := by
  rw [c9]
  rcases h with h | h
  · rw [h]; exact .inl rfl
  · rw [h]
    simp only [Option.map_some]
    split
    · exact .inl rfl
    · exact .inr rfl
theorem aF.rel {N : List Str} {sc scope : Scope} {env : Env} {N' : List Str} {tn : Nat} {idx : List Nat} (B : aF N sc scope N' tn idx) : aF N (relabel sc env) scope N' tn idx :=
  ⟨B.1, fun y hy => ⟨(B.2.1 y hy).1, (B.2.1 y hy).2.1, fun z => BR ((B.2.1 y hy).2.2 z)⟩, B.2.2.1, B.2.2.2⟩
end L2
namespace L2
open PySem PySem.Spec PySem.W PyProof.Rows
section
variable {X : Cx} {Γ : Gz} {β : Bz} {K : PySem.W.Frag}
def gr : List Dv → Option (List Bool)
  | [] => some []
  | .bl b :: ds => (gr ds).map (b :: ·)
  | _ :: _ => none
theorem qR : ∀ {ds : List Dv} {bs : List Bool}, gr ds = some bs → ds = bs.map Dv.bl
  | [], bs, h => by simp only [gr, Option.some.injEq] at h; subst h; rfl
  | d :: ds, bs, h => by
    cases d with
    | bl b =>
      simp only [gr, Option.map_eq_some_iff] at h
      obtain ⟨ms, h, rfl⟩ := h
      rw [qR h]
      rfl
    | _ => simp [gr] at h
theorem oF : ∀ bs : List Bool, gr (bs.map Dv.bl) = some bs
  | [] => rfl
  | n :: ns => by simp [gr, oF ns]
theorem qS {M : Mh} {H : Hp} : ∀ {vs : List V} {bs : List Bool}, aG β M H vs (bs.map Dv.bl) → vs = bs.map V.bl
  | [], [], _ => rfl
  | [], _ :: _, r => absurd r.len (by simp)
  | _ :: _, [], r => absurd r.len (by simp)
  | v :: vs, n :: ns, r => by
    rw [List.map_cons] at r
    rw [List.map_cons, de r.head, qS r.tail]
def zAllB (d : Dv) (M : Mh) (Q : ZK) : Prop := match d with | .lst ds => (match gr ds with | some bs => Q (.bl (bs.all id)) M | none => False) | _ => False
theorem zH (hK : X.K = K) (hc : X.calm = true) : eX Γ X (.builtin "all") (z1 zAllB) := ⟨_, wH hK hc, fun β xs ds M H Q Q' _ _ _ m rs z q => by
  unfold z1 at z
  split at z
  · obtain ⟨x, rfl, r⟩ := dG rs
    unfold zAllB at z
    split at z
    · split at z
      · rename_i bs NC
        obtain ⟨a, vs, rfl, f, ha, eQ⟩ := dS r
        have e := qR NC
        subst e
        have := qS eQ
        subst this
        exact ⟨a, bs, rfl, bE.of ha, q _ _ _ _ (.refl m) (.bl _) z⟩
      · exact z.elim
    · exact z.elim
  · exact z.elim⟩
theorem Pin.mono {M M' : Mh} {d : Dv} (h : Pin M d) : (∀ a, (M a).isSome = true → (M' a).isSome = true) → Pin M' d := by
  intro k
  induction h with
  | int i => exact .int i
  | bl b => exact .bl b
  | aq => exact .aq
  | str z => exact .str z
  | tup h ih => exact .tup ih
  | lst h ih => exact .lst ih
  | dk h ih => exact .dk ih
  | dt h ih => exact .dt ih
  | bC h ih => exact .bC ih
  | set ns => exact .set ns
  | ptr h => exact .ptr (k _ h)
  | exc C => exact .exc C
  | bo ns => exact .bo ns
  | raw v => exact .raw v
def bN (M : Mh) (a : Addr) : Mh := fun b => if b = a then none else M b
theorem cz {M : Mh} {a : Addr} : bN M a a = none := by unfold bN; rw [if_pos rfl]
theorem bI {M : Mh} {a b : Addr} (h : b ≠ a) : bN M a b = M b := by unfold bN; rw [if_neg h]
theorem wY {M : Mh} {a : Addr} {o : Mo} (h : M a = none) : bN (aw M a o) a = M := by
  funext b
  unfold bN aw
  by_cases e : b = a
  · rw [if_pos e, e, h]
  · rw [if_neg e, if_neg e]
structure BU (M1 M : Mh) (ρ : aA) : Prop where
  env : ∀ (i : Nat) (d : Dv), ρ[i]? = some (some d) → Pin M d
  obj : ∀ b o, M b = some o → M1 b = some o ∨ ∀ d ∈ o.items, Pin M d
theorem Zr.freeze {M : Mh} {ρ : aA} {σ : St} {H : Hp} {i : Nat} {a : Addr} {ds : List Dv} (z : Zr Γ β M ρ σ H) (hi : ρ[i]? = some (some (.ptr a))) (ha : M a = some (.lst ds)) (h0 : Γ.M0 a = none) (fr : BU Γ.M0 (bN M a) (ρ.set i (some (.lst ds)))) :
    Zr Γ β (bN M a) (ρ.set i (some (.lst ds))) σ H ∧ Ev β M H (bN M a) H := by
  have rz : ∀ {v : V} {d : Dv}, Rz β M H v d → Pin (bN M a) d → Rz β (bN M a) H v d := fun r p => r.mq (M0 := bN M a) (fun b hb => by
    by_cases e : b = a
    · rw [e, cz] at hb; cases hb
    · rw [bI e] at hb; exact hb) p
  have qo : i < ρ.length := (List.getElem?_eq_some_iff.mp hi).1
  have ND : ∀ d ∈ ds, Pin (bN M a) d := fun d hd => by
    have := fr.env i (.lst ds) (by rw [List.getElem?_set_self qo])
    cases this with | lst h => exact h d hd
  have obj : ∀ b es, bN M a b = some es → ∀ d ∈ es.items, Pin (bN M a) d := fun b es e d hd => by
    rcases fr.obj b es e with q | q
    · refine (z.wf b es q d hd).mono fun c hc => ?_
      have nc : c ≠ a := fun w => by rw [w, h0] at hc; cases hc
      rw [bI nc]
      exact z.ent.dom c hc
    · exact q d hd
  have mz : Mz β (bN M a) H := by
    refine ⟨fun b o e => ?_, z.mz.tabs, z.mz.hids, fun b o e => ?_, z.mz.lams⟩
    · have nb : b ≠ a := fun q => by rw [q, cz] at e; cases e
      have e' : M b = some o := by rw [bI nb] at e; exact e
      have q := z.mz.obj b o e'
      cases o with
      | lst es => obtain ⟨vs, hv, rs⟩ := q; exact ⟨vs, hv, rs.len, fun j v d x y => rz (rs.at' j v d x y) (obj b _ e d (List.mem_of_getElem? y))⟩
      | dk ks es => obtain ⟨vs, hv, hk, rs⟩ := q; exact ⟨vs, hv, hk, rs.len, fun j v d x y => rz (rs.at' j v d x y) (obj b _ e d (List.mem_of_getElem? y))⟩
      | dt ks es => obtain ⟨vs, hv, hk, rs⟩ := q; exact ⟨vs, hv, hk, rs.len, fun j v d x y => rz (rs.at' j v d x y) (obj b _ e d (List.mem_of_getElem? y))⟩
      | ck => exact q
    · have nb : b ≠ a := fun q => by rw [q, cz] at e; cases e
      rw [bI nb] at e
      exact z.mz.apart b o e
  refine ⟨⟨z.eP, z.ew, z.eK, z.et, z.sub, z.wf, ⟨z.ent.keep, fun b hb => ?_, fun b o m h => ?_⟩, mz, by simp [z.len], fun j d e => ?_⟩, ⟨fun b o _ h => .inl h, fun b o m h => ?_, mz⟩⟩
  · have nb : b ≠ a := fun q => by rw [q, h0] at hb; cases hb
    rw [bI nb]; exact z.ent.dom b hb
  · by_cases e : b = a
    · rw [e, cz]
    · rw [bI e]; exact z.ent.new b o m h
  · have p := fr.env j d e
    rw [List.getElem?_set] at e
    split at e
    · rename_i q
      subst q
      first
        | cases e
        | (rw [if_pos qo] at e; cases e)
      obtain ⟨v, hv, r⟩ := z.at' i _ hi
      obtain ⟨rfl, _⟩ := b7 r
      obtain ⟨vs, hl, rs⟩ := z.mz.obj a _ ha
      refine ⟨_, hv, .lst ⟨cz, z.mz.apart a _ ha⟩ hl rs.len fun k v d x y => rz (rs.at' k v d x y) (ND d (List.mem_of_getElem? y))⟩
    · obtain ⟨v, hv, r⟩ := z.at' j d e
      exact ⟨v, hv, rz r p⟩
  · by_cases e : b = a
    · rw [e, cz]
    · rw [bI e]; exact m
def LY (i : Nat) (M0 : Mh) (p : cw) : cw := fun D ρ M => p D ρ M ∨ ∃ a ds, ρ[i]? = some (some (.ptr a)) ∧ M a = some (.lst ds) ∧ M0 a = none ∧ BU M0 (bN M a) (ρ.set i (some (.lst ds))) ∧ p D (ρ.set i (some (.lst ds))) (bN M a)
theorem Hm (i : Nat) {M1 : Mh} {st : Stmt} {p : cw} (hM : Γ.M0 = M1) (h : QS Γ X st p) : QS Γ X st (LY i M1 p) := h.imp fun D σ H ⟨β, ρ, M, D', zr, h, r⟩ => by
  rcases h with h | ⟨a, ds, hi, ha, h0, fr, h⟩
  · exact ⟨β, ρ, M, D', zr, h, r⟩
  · obtain ⟨z2, e2⟩ := zr.freeze hi ha (by rw [hM]; exact h0) (by rw [hM]; exact fr)
    exact ⟨β, _, _, D', z2, h, r.step e2⟩
end
section
variable {X : Cx} {Γ : Gz} {β : Bz}
inductive mR : Dv → Prop where
  | int (i : Int) : mR (.int i)
  | bl (b : Bool) : mR (.bl b)
  | aq : mR .aq
  | str (z : Str) : mR (.str z)
  | ptr (a : Addr) : mR (.ptr a)
  | tup {ds : List Dv} (h : ∀ d ∈ ds, mR d) : mR (.tup ds)
theorem Rz.grow {M : Mh} {H : Hp} {a : Addr} {us : List V} (ha : H a = some (.lst us)) {v : V} {d : Dv} (h : Rz β (bN M a) H v d) : mR d → Rz β M H v d := by
  induction h with
  | int i => exact fun _ => .int i
  | bl b => exact fun _ => .bl b
  | aq => exact fun _ => .aq
  | str z => exact fun _ => .str z
  | @tup p vs ds m e hl h ih =>
    intro n
    cases n with
    | tup n =>
      have hp : p ≠ a := fun z => by rw [z, ha] at e; cases e
      exact .tup ⟨by have := m.1; rw [bI hp] at this; exact this, m.2⟩ e hl fun i v d x y => ih i v d x y (n d (List.mem_of_getElem? y))
  | @ptr p m =>
    intro _
    refine .ptr ?_
    by_cases z : p = a
    · rw [z, cz] at m; cases m
    · rw [bI z] at m; exact m
  | _ => intro n; cases n
def Jv (i : Nat) (M0 : Mh) (p : aI) : aI := fun ρ M Q => p ρ M Q ∨ ∃ a xs, ρ[i]? = some (some (.ptr a)) ∧ M a = some (.lst xs) ∧ M0 a = none ∧ BU M0 (bN M a) (ρ.set i (some (.lst xs))) ∧
  (∀ b o, M b = some o → b ≠ a → ∀ d ∈ o.items, mR d) ∧ p (ρ.set i (some (.lst xs))) (bN M a) fun d M2 => M2 = bN M a ∧ mR d ∧ Q d M
theorem Eu (i : Nat) {M1 : Mh} {e : Expr} {p : aI} (hM : Γ.M0 = M1) (h : QE Γ X e p) : QE Γ X e (Jv i M1 p) := h.imp fun σ H Q ⟨β, ρ, M, Q', zr, h, q⟩ => by
  rcases h with h | ⟨a, xs, hi, ha, h0, fr, hn, h⟩
  · exact ⟨β, ρ, M, Q', zr, h, q⟩
  · obtain ⟨z2, _⟩ := zr.freeze hi ha (by rw [hM]; exact h0) (by rw [hM]; exact fr)
    obtain ⟨vs, hv, rs⟩ := zr.mz.obj a _ ha
    refine ⟨β, _, _, _, z2, h, fun d M2 v H2 x r ⟨e, nl, hq⟩ => ?_⟩
    subst e
    have tT : H2 a = some (.lst vs) := x.get cz hv rfl
    have ey : Ey M H M H2 := ⟨fun b o hb ho => x.keep b o (by
      by_cases e : b = a
      · rw [e]; exact cz
      · rw [bI e]; exact hb) ho, fun _ h => h, fun _ _ h _ => h⟩
    refine q d M v H2 ⟨ey, ⟨fun b o hb => ?_, x.mz.tabs, x.mz.hids, zr.mz.apart, x.mz.lams⟩⟩ (r.grow tT nl) hq
    by_cases e : b = a
    · subst e
      rw [ha] at hb
      cases hb
      exact ⟨vs, tT, rs.len, fun i v d p q => (rs.at' i v d p q).ey ey⟩
    · have z := x.mz.obj b o (by rw [bI e]; exact hb)
      cases o with
      | ck => exact z
      | lst ds =>
        obtain ⟨us, hu, ru⟩ := z
        exact ⟨us, hu, ru.len, fun i v d p q => (ru.at' i v d p q).grow tT (hn b _ hb e d (List.mem_of_getElem? q))⟩
      | dk ks ds =>
        obtain ⟨us, hu, hk, ru⟩ := z
        exact ⟨us, hu, hk, ru.len, fun i v d p q => (ru.at' i v d p q).grow tT (hn b _ hb e d (List.mem_of_getElem? q))⟩
      | dt ks ds =>
        obtain ⟨us, hu, hk, ru⟩ := z
        exact ⟨us, hu, hk, ru.len, fun i v d p q => (ru.at' i v d p q).grow tT (hn b _ hb e d (List.mem_of_getElem? q))⟩
open Classical in
end
end L2
namespace L2
open PySem PySem.Spec PyProof.Rows
section
variable {κ : Type} [DecidableEq κ] {α : Type}
def look : List κ → List α → κ → Option α
  | k :: ks, d :: ds, x => if k = x then some d else look ks ds x
  | _, _, _ => none
def gU : List κ → List α → κ → α → List α
  | k :: ks, d :: ds, x, y => (if k = x then y else d) :: gU ks ds x y
  | _, _, _, _ => []
def putL (ks : List κ) (k : κ) : List κ := if k ∈ ks then ks else ks ++ [k]
def fF (ks : List κ) (ds : List α) (k : κ) (d : α) : List α := if k ∈ ks then gU ks ds k d else ds ++ [d]
theorem fR {x : κ} : ∀ {ks : List κ} {ds : List α}, ks.length = ds.length → (look ks ds x = none ↔ x ∉ ks)
  | [], [], _ => by simp [look]
  | k :: ks, d :: ds, h => by
    have ih := fR (x := x) (ks := ks) (ds := ds) (by simpa using h)
    unfold look
    by_cases e : k = x
    · simp [e]
    · rw [if_neg e, ih, List.mem_cons]
      constructor
      · rintro a (b | b)
        · exact e b.symm
        · exact a b
      · exact fun a b => a (.inr b)
  | [], _ :: _, h => by simp at h
  | _ :: _, [], h => by simp at h
theorem nv (x : κ) : ∀ (ks : List κ) (vs : List V), ib (ks.zip vs) x = look ks vs x
  | [], vs => by cases vs <;> rfl
  | _ :: _, [] => rfl
  | k :: ks, v :: vs => by
    rw [List.zip_cons_cons]
    unfold look
    by_cases e : k = x
    · rw [if_pos e]; exact jV (p := (k, v)) e
    · rw [if_neg e, jW (p := (k, v)) e]; exact nv x ks vs
theorem tV (x : κ) : ∀ (ks : List κ) (ds : List α) {d : α}, look ks ds x = some d → ∃ i : Nat, ks[i]? = some x ∧ ds[i]? = some d ∧ ∀ {β : Type} (es : List β), look ks es x = es[i]?
  | [], ds, d, h => by cases ds <;> cases h
  | _ :: _, [], d, h => by cases h
  | k :: ks, e :: ds, d, h => by
    unfold look at h
    by_cases q : k = x
    · rw [if_pos q] at h
      cases h
      refine ⟨0, by rw [q]; rfl, rfl, fun es => ?_⟩
      cases es with
      | nil => rfl
      | cons a es => unfold look; rw [if_pos q]; rfl
    · rw [if_neg q] at h
      obtain ⟨i, a, b, c⟩ := tV x ks ds h
      refine ⟨i + 1, a, b, fun es => ?_⟩
      cases es with
      | nil => rfl
      | cons y es => unfold look; rw [if_neg q, c es]; rfl
theorem lu (x : κ) : ∀ (ks : List κ) (ds : List α) {β : Type} (es : List β), ds.length = es.length → look ks ds x = none → look ks es x = none
  | [], ds, _, es, _, _ => by cases es <;> rfl
  | _ :: _, [], _, es, h, _ => by cases es with
    | nil => rfl
    | cons _ _ => simp at h
  | k :: ks, d :: ds, _, [], h, _ => by simp at h
  | k :: ks, d :: ds, _, e :: es, h, q => by
    unfold look at q ⊢
    by_cases z : k = x
    · rw [if_pos z] at q; cases q
    · rw [if_neg z] at q ⊢
      exact lu x ks ds es (by simpa using h) q
theorem qT (x : κ) (y : α) : ∀ (ks : List κ) (ds : List α), ks.length = ds.length → (gU ks ds x y).length = ds.length
  | [], [], _ => rfl
  | k :: ks, d :: ds, h => by unfold gU; rw [List.length_cons, qT x y ks ds (by simpa using h)]; rfl
  | [], _ :: _, h => by simp at h
  | _ :: _, [], h => by simp at h
theorem tW {ks : List κ} {ds : List α} (h : ks.length = ds.length) (k : κ) (d : α) : (putL ks k).length = (fF ks ds k d).length := by
  unfold putL fF
  split
  · rw [qT _ _ _ _ h, h]
  · simp [h]
theorem qU (x : κ) (y : V) : ∀ (ks : List κ) (vs : List V), ks.length = vs.length → (ks.zip vs).map (fun kv => if kv.1 = x then (kv.1, y) else kv) = ks.zip (gU ks vs x y)
  | [], [], _ => rfl
  | k :: ks, d :: ds, h => by
    unfold gU
    rw [List.zip_cons_cons, List.zip_cons_cons, List.map_cons, qU x y ks ds (by simpa using h)]
    congr 1
    dsimp only
    split <;> rfl
  | [], _ :: _, h => by simp at h
  | _ :: _, [], h => by simp at h
theorem vB {ks : List κ} {vs : List V} (h : ks.length = vs.length) (k : κ) (v : V) : putK (ks.zip vs) k v = (putL ks k).zip (fF ks vs k v) := by
  have e : ((ks.zip vs).any fun kv => decide (kv.1 = k)) = decide (k ∈ ks) := by
    rw [m9, nv]
    cases q : look ks vs k with
    | none => exact (decide_eq_false ((fR h).mp q)).symm
    | some x =>
      have hm : k ∈ ks := Classical.byContradiction fun z => by rw [(fR h).mpr z] at q; cases q
      rw [decide_eq_true hm]; rfl
  unfold putK putL fF
  rw [e]
  by_cases q : k ∈ ks
  · rw [if_pos (decide_eq_true q), if_pos q, if_pos q]
    exact qU k v ks vs h
  · rw [if_neg (by rw [decide_eq_false q]; exact Bool.false_ne_true), if_neg q, if_neg q, List.zip_append h]
    rfl
end
section
variable {β : Bz} {M : Mh} {H : Hp} {κ : Type} [DecidableEq κ]
theorem qV (x : κ) {v : V} {d : Dv} (r : Rz β M H v d) : ∀ (ks : List κ) (vs : List V) (ds : List Dv), aG β M H vs ds → aG β M H (gU ks vs x v) (gU ks ds x d)
  | [], _, _, _ => by
    unfold gU; exact .nil
  | _ :: _, [], [], _ => .nil
  | _ :: _, [], _ :: _, h => absurd h.len (by simp)
  | _ :: _, _ :: _, [], h => absurd h.len (by simp)
  | k :: ks, u :: vs, e :: ds, h => by
    unfold gU
    refine .cons ?_ (qV x r ks vs ds h.tail)
    split
    · exact r
    · exact h.head
theorem tX (x : κ) {v : V} {d : Dv} (r : Rz β M H v d) {ks : List κ} {vs : List V} {ds : List Dv} (h : aG β M H vs ds) : aG β M H (fF ks vs x v) (fF ks ds x d) := by
  unfold fF
  split
  · exact qV x r ks vs ds h
  · exact h.snoc r
theorem tY {ks : List κ} {vs : List V} {ds : List Dv} (rs : aG β M H vs ds) {x : κ} {o : Option Dv} (h : look ks ds x = o) : ∃ ov, ib (ks.zip vs) x = ov ∧ ov.isSome = o.isSome ∧ ∀ r, o = some r → ∃ v, ov = some v ∧ Rz β M H v r := by
  rw [nv]
  cases o with
  | none => exact ⟨none, lu x ks ds vs rs.len.symm h, rfl, fun r e => nomatch e⟩
  | some r =>
    obtain ⟨i, a, b, c⟩ := tV x ks ds h
    obtain ⟨v, hv, rv⟩ := rs.get b
    exact ⟨some v, (c vs).trans hv, rfl, fun r' e => by cases e; exact ⟨v, rfl, rv⟩⟩
end
def keyD : Dv → Option Key
  | .int i => some (.inl i)
  | .str z => some (.inr z)
  | _ => none
def iy : List Dv → Option (List Key)
  | [] => some []
  | d :: ds => match keyD d, iy ds with | some k, some ks => some (k :: ks) | _, _ => none
theorem oG : ∀ (ns : List Int), iy (ns.map Dv.int) = some (ns.map Sum.inl)
  | [] => rfl
  | n :: ns => by rw [List.map_cons, iy, oG ns]; rfl
def nowK (M : Mh) : Dv → Dv
  | .ptr a => match M a with | some (.dk ks ds) => .dk ks ds | some (.dt ks ds) => .dt ks ds | _ => .ptr a
  | d => d
def lookD (M : Mh) (d e : Dv) : Option (Option Dv) := match nowK M d with
  | .dk ks ds => (match keyD e with | some k => some (look ks ds k) | none => none)
  | .dt ks ds => (match e with | .tup es => (match iy es with | some k => some (look ks ds k) | none => none) | _ => none)
  | _ => none
section
variable {X : Cx} {Γ : Gz} {β : Bz} {K : PySem.W.Frag} {M : Mh} {H : Hp}
theorem pJ {y : V} {e : Dv} {k : Key} (r : Rz β M H y e) (h : keyD e = some k) : y = kV k := by
  cases e with
  | int i => cases h; exact aL r
  | str z => cases h; exact c0 r
  | _ => cases h
theorem j7 : ∀ {es : List Dv} {ks : List Key} {vs : List V}, aG β M H vs es → iy es = some ks → vs = ks.map kV
  | [], ks, vs, rs, h => by
    cases h
    cases vs with
    | nil => rfl
    | cons _ _ => exact absurd rs.len (by simp)
  | e :: es, ks, [], rs, h => absurd rs.len (by simp)
  | e :: es, ks, v :: vs, rs, h => by
    unfold iy at h
    split at h
    · rename_i k Kz h1 h2
      cases h
      rw [List.map_cons, pJ rs.head h1, j7 rs.tail h2]
    · cases h
theorem vC (m : Mz β M H) {x : V} {d : Dv} (r : Rz β M H x d) : (∀ ks ds, nowK M d = .dk ks ds → ∃ a vs, x = .ref a ∧ Rd H a (.dK (ks.zip vs)) ∧ ks.length = vs.length ∧ aG β M H vs ds) ∧
    (∀ ks ds, nowK M d = .dt ks ds → ∃ a vs, x = .ref a ∧ Rd H a (.dT (ks.zip vs)) ∧ ks.length = vs.length ∧ aG β M H vs ds) := by
  cases r with
  | dk f e hk hl h => exact ⟨fun ks ds q => (by cases q; exact ⟨_, _, rfl, e, hk, hl, h⟩), fun ks ds q => by cases q⟩
  | dt f e hk hl h => exact ⟨fun ks ds q => (by cases q), fun ks ds q => by cases q; exact ⟨_, _, rfl, e, hk, hl, h⟩⟩
  | @ptr a hs =>
    simp only [nowK]
    cases q2 : M a with
    | none => rw [q2] at hs; cases hs
    | some o =>
      have q := m.obj a o q2
      cases o with
      | dk ks ds => obtain ⟨vs, e, hk, rs⟩ := q; exact ⟨fun ks ds q => (by cases q; exact ⟨_, _, rfl, .inl e, hk, rs⟩), fun ks ds q => by cases q⟩
      | dt ks ds => obtain ⟨vs, e, hk, rs⟩ := q; exact ⟨fun ks ds q => (by cases q), fun ks ds q => by cases q; exact ⟨_, _, rfl, .inl e, hk, rs⟩⟩
      | _ => exact ⟨fun ks ds q => (by cases q), fun ks ds q => by cases q⟩
  | _ => exact ⟨fun ks ds q => (by cases q), fun ks ds q => (by cases q)⟩
theorem tZ (m : Mz β M H) {x y : V} {d e : Dv} {o : Option Dv} (r : Rz β M H x d) (re : Rz β M H y e) (h : lookD M d e = some o) : ∃ a ov, x = .ref a ∧ pz H a y ov ∧ ov.isSome = o.isSome ∧ ∀ r, o = some r → ∃ v, ov = some v ∧ Rz β M H v r := by
  unfold lookD at h
  obtain ⟨h1, h2⟩ := vC m r
  split at h
  · rename_i ks ds q
    obtain ⟨a, vs, rfl, ha, hk, rs⟩ := h1 ks ds q
    split at h
    · rename_i k t5
      rw [pJ re t5]
      obtain ⟨ov, e1, e2, e3⟩ := tY rs (Option.some.inj h)
      subst e1
      exact ⟨a, _, rfl, .inl ⟨_, k, ha, rfl, rfl⟩, e2, e3⟩
    · cases h
  · rename_i ks ds q
    obtain ⟨a, vs, rfl, ha, hk, rs⟩ := h2 ks ds q
    split at h
    · split at h
      · rename_i k t5
        obtain ⟨b, us, rfl, _, hb, ru⟩ := cZ re
        rw [j7 ru t5] at hb
        obtain ⟨ov, e1, e2, e3⟩ := tY rs (Option.some.inj h)
        subst e1
        exact ⟨a, _, rfl, .inr ⟨_, k, b, ha, rfl, hb, rfl⟩, e2, e3⟩
      · cases h
    · cases h
  · cases h
def zGetR : d8 := fun d e M Q => match lookD M d e with | some (some r) => Q r M | _ => False
theorem Ew {a b : Expr} {pa pb : aI} {pos : Pos} (hu : X.A.units + 64 < cLine) (ha : QE Γ X a pa) (hb : QE Γ X b pb) (hs : BG b) : QE Γ X (.Subscript a b pos) (zOp zGetR pa pb) :=
  (Eh (by omega) ha hb hs).imp fun σ H Q ⟨β, ρ, M, Q', zr, h, q⟩ => ⟨β, ρ, M, _, zr, h, fun d M1 v H1 x1 r1 h1 => ⟨β, ρ, M1, _, zr.step x1, h1, fun e M2 u H2 x2 r2 h2 => by
    unfold zGetR at h2
    split at h2
    · rename_i r hl
      obtain ⟨a, ov, rfl, g, _, e3⟩ := tZ x2.mz (r1.ex x2) r2 hl
      obtain ⟨w, rfl, jB⟩ := e3 r rfl
      exact ⟨a, w, rfl, g, q _ _ _ _ (x1.trans x2) jB h2⟩
    · exact h2.elim⟩⟩
def zDIn (neg : Bool) : d8 := fun e d M Q => match lookD M d e with | some o => Q (.bl (if neg then !o.isSome else o.isSome)) M | none => False
def Hn (neg : Bool) : R2 := fun y x H Q => ∃ a o, x = .ref a ∧ pz H a y o ∧ Q (.bl (if neg then !o.isSome else o.isSome)) H
theorem Ez {neg : Bool} : oq Γ (Hn neg) (zDIn neg) := fun β x y d e M H Q Q' _ _ _ m rx ry z q => by
  unfold zDIn at z
  split at z
  · rename_i o hl
    obtain ⟨a, ov, rfl, g, e2, _⟩ := tZ m ry rx hl
    refine ⟨a, ov, rfl, g, ?_⟩
    rw [e2]
    exact q _ _ _ _ (.refl m) (.bl _) z
  · exact z.elim
theorem t6 (hu : X.A.units + 64 < cLine) : eJ Γ X (compareOp .NotIn) (zDIn true) := ⟨Hn true, fun pins s σ H x y v u Q I rx ry ⟨a, o, e, g, q⟩ => by
  subst e
  cases (show u = Value.ref a from ry)
  exact Ef (by omega) I g rx fun s3 I3 => ⟨.bl (!o.isSome), H, I3, rfl, q⟩, Ez⟩
end
section
variable {β : Bz} {M : Mh} {H : Hp} {D : Addr} {o' : Mo} {u : HO}
theorem EA {v : V} {d : Dv} (r : Rz (β.add D) M H v d) : Rz β (aw M D o') (upd H D u) v d := by
  have na : ∀ a, Fz (β.add D) M a → a ≠ D := fun a f z => f.2 (by rw [z]; exact List.mem_cons_self)
  have ne : ∀ a, Fz (β.add D) M a → Fz β (aw M D o') a := fun a f => ⟨by rw [ak (na a f)]; exact f.1, fun z => f.2 (List.mem_cons_of_mem _ z)⟩
  have pre : ∀ a x, Fz (β.add D) M a → H a = some x → upd H D u a = some x := fun a x f e => by rw [af (na a f)]; exact e
  induction r with
  | int i => exact .int i
  | bl b => exact .bl b
  | aq => exact .aq
  | str z => exact .str z
  | tup m e hl h ih => exact .tup (ne _ m) (pre _ _ m e) hl ih
  | lst m e hl h ih => exact .lst (ne _ m) (pre _ _ m e) hl ih
  | dk m e hk hl h ih => exact .dk (ne _ m) (e.map fun _ h => pre _ _ m h) hk hl ih
  | dt m e hk hl h ih => exact .dt (ne _ m) (e.map fun _ h => pre _ _ m h) hk hl ih
  | bC m e m2 e2 hl h ih => exact .bC (ne _ m) (pre _ _ m e) (ne _ m2) (pre _ _ m2 e2) hl ih
  | set m e => exact .set (ne _ m) (pre _ _ m e)
  | ptr m => exact .ptr (by unfold aw; split; rfl; exact m)
  | exc m e => exact .exc (ne _ m) (pre _ _ m e)
  | bo m e => exact .bo (ne _ m) (pre _ _ m e)
  | cf m e => exact .cf (ne _ m) (pre _ _ m e)
  | cg e => exact .cg e
  | raw v => exact .raw v
theorem j8 {vs : List V} {ds : List Dv} (r : aG (β.add D) M H vs ds) : aG β (aw M D o') (upd H D u) vs ds := ⟨r.len, fun i v d a b => EA (r.at' i v d a b)⟩
theorem Ex.Ho {M2 : Mh} {H2 : Hp} {o : HO} (x : Ex β M H M2 H2) (hD : D ∈ β.hid) (m : M D = none) (h : H D = some o) (ho : ng o = true) : H2 D = some o := by
  rcases x.keep D o m h with q | ⟨o', t, q⟩
  · exact q
  · rcases t with ⟨_, _, rfl, _⟩ | ⟨_, _, rfl, _⟩ | ⟨_, ob, rfl⟩
    · cases ho
    · cases ho
    · obtain ⟨w, e, n⟩ := x.mz.hids D hD
      rw [q] at e; cases e; cases n
theorem Mz.LZ (m : Mz (β.add D) M H) (hM : M D = none) (hD : D ∉ β.hid) (nt : D ∉ β.tb) (hu : la u = true) (r : g9 β (aw M D o') (upd H D u) D o') : Mz β (aw M D o') (upd H D u) := by
  obtain ⟨oD, eD, nD⟩ := m.hids D List.mem_cons_self
  refine ⟨fun a o e => ?_, fun q hq => ?_, fun a ha => (m.hids a (List.mem_cons_of_mem _ ha)).upd (.inr hu), fun a o e z => ?_, fun q hq => ?_⟩
  · by_cases ha : a = D
    · subst ha
      rw [updM_same] at e
      cases e
      exact r
    · rw [ak ha] at e
      have z := m.obj a o e
      cases o with
      | lst ds => obtain ⟨vs, z, rs⟩ := z; exact ⟨vs, by rw [af ha]; exact z, j8 rs⟩
      | dk ks ds => obtain ⟨vs, z, hk, rs⟩ := z; exact ⟨vs, by rw [af ha]; exact z, hk, j8 rs⟩
      | dt ks ds => obtain ⟨vs, z, hk, rs⟩ := z; exact ⟨vs, by rw [af ha]; exact z, hk, j8 rs⟩
      | ck => obtain ⟨c, n, z, q⟩ := z; exact ⟨c, n, by rw [af ha]; exact z, q⟩
  · obtain ⟨ps, e, t⟩ := m.tabs q hq
    exact ⟨ps, by rw [af (show q ≠ D from fun z => nt (by rw [← z]; exact hq))]; exact e, t⟩
  · by_cases ha : a = D
    · exact hD (ha ▸ z)
    · rw [ak ha] at e
      exact m.apart a o e (List.mem_cons_of_mem _ z)
  · exact (m.lams q hq).keep (fun _ e => by rw [af (fun z => by subst z; rw [eD] at e; cases e; cases nD)]; exact e) fun c _ _ e => by rw [af (fun z => by subst z; rw [eD] at e; cases e; cases nD)]; exact e
end
section
variable {X : Cx} {pos : Pos}
def EB (tk tv : TE) : TE := fun σ H Q => ∀ p, H p = none → tk σ (upd H p (.dT [])) fun x H1 => tv σ H1 fun y H2 => H2 p = some (.dT []) ∧ ∃ b k, x = .ref b ∧ H2 b = some (.tup (k.map kV)) ∧ Q (.ref p) (upd H2 p (.dT [(k, y)]))
theorem zI {k v : Expr} {tk tv : TE} (hu : X.A.units + 1 < cLine) (hk : PE X k tk) (hv : PE X v tv) : PE X (.Dict [some k] [v] pos) (EB tk tv) := by
  refine ⟨?_⟩
  intro pins s σ H Q I q
  have hn := I.hok.fresh (Nat.le_refl s.heap.objs.size)
  have I1 := I.laid (a := s.heap.objs.size) (o := .dT []) (h' := s.heap.push { cls := .type "dict", data := .dict #[] }) (t' := s.toks) (fun _ _ q => Heap.get?_push_of_some _ q) (Nat.le_refl _) (BI s.heap I.big)
  refine wpAny_Dict_any rfl rfl (by simp) (by simp) (pairTrees_cons_walk (thn (hk pins _ σ _ _ I1 (q _ hn)) fun w1 s2 ⟨x, H1, I2, rx, q1⟩ => thn (hv pins s2 σ H1 _ I2 q1) fun w2 s3 ⟨y, H2, I3, ry, hp, b, ks, ex, hb, q2⟩ => pairTrees_nil_walk ?_))
  subst ex
  cases (show w1 = Value.ref b from rx)
  unfold storeAll
  rw [List.forIn_cons]
  obtain ⟨z, hd, xs, rel, dd⟩ := C2 I3.hok hp
  cases rel
  refine wpAny_bind (wpAny_bind (wpAny_dictSet_heap (knd := tupleKind (bK X.prog X.w)) (by show X.A.units < cLine; omega) (k9 I3.hok hb) dd (fun h' vo hs => wpAny_pure ?_) (by simp)))
  dsimp only
  rw [List.forIn_nil]
  refine wpAny_pure ⟨.ref s.heap.objs.size, _, ?_, rfl, q2⟩
  obtain ⟨o, es, ep, ho, h2, h3, h4, h5, h6⟩ := vo
  have he : storedH ([] : List (List Key × Addr × Value)) ks b w2 = [(ks, b, w2)] := rfl
  rw [he] at h4 h6
  refine pA I3 (by rw [hp]; exact True.intro) hs ⟨o, ho⟩ ⟨by show 1 ≤ sizeLine; decide, hd, [(ks, b, w2)], .cons ⟨rfl, ?_, ry⟩ .nil, o, es, ep, ho, h2, h3, h4, h6⟩
  rw [af (vQ hb hp (by intro z; cases z))]
  exact hb
end
section
variable {X : Cx} {Γ : Gz} {β : Bz} {K : PySem.W.Frag}
def zDisp1K (pk pv : aI) : aI := fun ρ M Q => pk ρ M fun e M1 => pv ρ M1 fun v M2 => match keyD e with | some k => ∀ a, M2 a = none → Q (.ptr a) (aw M2 a (.dk [k] [v])) | none => False
def zDisp1T (pk pv : aI) : aI := fun ρ M Q => pk ρ M fun e M1 => pv ρ M1 fun v M2 => match e with | .tup es => (match iy es with | some k => ∀ a, M2 a = none → Q (.ptr a) (aw M2 a (.dt [k] [v])) | none => False) | _ => False
theorem EC {M M2 : Mh} {H H2 : Hp} {D : Addr} {o : HO} {o' : Mo} {u : HO} (hD : H D = none) (x : Ex (β.add D) M (upd H D o) M2 H2) (mz : Mz β (aw M2 D o') (upd H2 D u)) : Ex β M H (aw M2 D o') (upd H2 D u) := by
  have ey : Ey M H M2 (upd H2 D u) := ((Ey.refl (M := M) (H := H)).over (o := o) hD |>.trans x.toEy).over hD
  exact ⟨⟨ey.keep, fun a h => by unfold aw; split; rfl; exact ey.dom a h, fun a w m e => by rw [ak (aU e hD)]; exact ey.new a w m e⟩, mz⟩
theorem qW {k v : Expr} {pk pv : aI} {pos : Pos} (hu : X.A.units + 64 < cLine) (hk : QE Γ X k pk) (hv : QE Γ X v pv) : QE Γ X (.Dict [some k] [v] pos) (zDisp1T pk pv) :=
  (zI (by omega) hk hv).imp fun σ H Q ⟨β, ρ, M, Q', zr, h, q⟩ p hp => by
    have z1 := zr.enter hp (o := .dT []) rfl
    refine ⟨β.add p, ρ, M, _, z1, h, fun e M1 y H1 x1 r1 h1 => ⟨β.add p, ρ, M1, _, z1.step x1, h1, fun d M2 w H2 x2 r2 h2 => ?_⟩⟩
    have dz := x1.trans x2
    have KA : M p = none := zr.mz.free hp
    have e2 : H2 p = some (.dT []) := dz.Ho List.mem_cons_self KA aD rfl
    have KC : M2 p = none := dz.new p _ KA aD
    refine ⟨e2, ?_⟩
    split at h2
    · split at h2
      · rename_i es kk NF
        obtain ⟨b, us, rfl, _, hb, ru⟩ := cZ (r1.ex x2)
        rw [j7 ru NF] at hb
        refine ⟨b, kk, rfl, hb, ?_⟩
        refine q _ _ _ _ (EC (o' := .dt [kk] [d]) (u := .dT ([kk].zip [w])) hp dz (dz.mz.LZ KC (zr.mz.fz hp).2 (zr.mz.BK hp) rfl ⟨[w], aD, rfl, j8 (.cons r2 .nil)⟩)) (.ptr (by rw [updM_same]; rfl)) (h2 p KC)
      · exact h2.elim
    · exact h2.elim
def zDPut (pd pk pv : aI) : cw := fun D ρ M => pv ρ M fun v M1 => pd ρ M1 fun d M2 => pk ρ M2 fun e M3 => match d with
  | .ptr a => (match M3 a with
    | some (.dk ks ds) => (match keyD e with | some k => ks.length < sizeLine ∧ D.nx ρ (aw M3 a (.dk (putL ks k) (fF ks ds k v))) | none => False)
    | some (.dt ks ds) => (match e with | .tup es => (match iy es with | some k => ks.length < sizeLine ∧ D.nx ρ (aw M3 a (.dt (putL ks k) (fF ks ds k v))) | none => False) | _ => False)
    | _ => False)
  | _ => False
theorem vD {o i value : Expr} {pd pk pv : aI} {pos pos' : Pos} (hu : X.A.units + 64 < cLine) (ho : QE Γ X o pd) (hi : QE Γ X i pk) (hv : QE Γ X value pv) (hs : swapsWith value (some (.Subscript o i pos')) pos.line X.env = pure false := by rfl) :
    QS Γ X (.Assign [.Subscript o i pos'] value pos) (zDPut pd pk pv) := (Ei (by omega) ho hi hv hs).imp fun D σ H ⟨β, ρ, M, D', zr, h, r⟩ => ⟨β, ρ, M, _, zr, h, fun v M1 vv H1 x1 r1 h1 => ⟨β, ρ, M1, _, zr.step x1, h1, fun d M2 dv H2 x2 r2 h2 =>
      ⟨β, ρ, M2, _, (zr.step x1).step x2, h2, fun e M3 ev H3 x3 r3 h3 => by
  have z3 := ((zr.step x1).step x2).step x3
  have iT := x1.trans (x2.trans x3)
  have rv := (r1.ex x2).ex x3
  split at h3
  · rename_i a
    obtain ⟨rfl, hs⟩ := b7 r2
    split at h3
    · rename_i ks ds hM
      obtain ⟨vs, ha, hk, rs⟩ := x3.mz.obj a _ hM
      split at h3
      · rename_i k t5
        obtain ⟨hl, h3⟩ := h3
        have hp : (M3 a).isSome = true := by rw [hM]; rfl
        have x4 : Ex β M3 H3 (aw M3 a (.dk (putL ks k) (fF ks ds k v))) (upd H3 a (.dK ((putL ks k).zip (fF ks vs k vv)))) := Ex.LR x3.mz (.inl hp) (tW hk k vv) (tX k rv rs)
        refine ⟨a, _, rfl, .inl ⟨_, k, ha, pJ r3 t5, by rw [List.length_zip, ← hk, Nat.min_self]; exact hl, rfl⟩, ?_⟩
        rw [vB hk]
        exact r.nx _ _ _ _ (iT.trans x4).ev (z3.step x4) h3
      · exact h3.elim
    · rename_i ks ds hM
      obtain ⟨vs, ha, hk, rs⟩ := x3.mz.obj a _ hM
      split at h3
      · split at h3
        · rename_i k t5
          obtain ⟨hl, h3⟩ := h3
          obtain ⟨b, us, rfl, _, hb, ru⟩ := cZ r3
          rw [j7 ru t5] at hb
          have hp : (M3 a).isSome = true := by rw [hM]; rfl
          have x4 : Ex β M3 H3 (aw M3 a (.dt (putL ks k) (fF ks ds k v))) (upd H3 a (.dT ((putL ks k).zip (fF ks vs k vv)))) := Ex.LU x3.mz (.inl hp) (tW hk k vv) (tX k rv rs)
          refine ⟨a, _, rfl, .inr ⟨_, k, b, ha, rfl, hb, by rw [List.length_zip, ← hk, Nat.min_self]; exact hl, rfl⟩, ?_⟩
          rw [vB hk]
          exact r.nx _ _ _ _ (iT.trans x4).ev (z3.step x4) h3
        · exact h3.elim
      · exact h3.elim
    · exact h3.elim
  · exact h3.elim⟩⟩⟩
end
def fG (X : Cx) : Str := X.env.qual ++ "<lambda>"
structure Hq (X : Cx) (params : Arguments) (body : Expr) (scope : Scope) (o : Obj) (c : Addr) (oc : Obj) (aM : List (Str × Addr)) : Prop where
  cells : ∀ n a, aM.lookup n = some a → X.env.cells.lookup n = some a
  has : ∀ n, (n, NameKind.free) ∈ scope.names → ∃ a, aM.lookup n = some a
  obj : ∃ iq, o = PySem.W.kla_obj "<lambda>" (fG X) params body scope aM ((X.mg "__name__").getD .none) c iq
  code : ∃ vs t, oc.data = .fields vs ∧ vs[1]? = some (Value.str (fG X) t)
structure Hr (X : Cx) (P : Addr) (H H2 : Hp) (f : Addr) (o : Obj) (c : Addr) (oc : Obj) : Prop where
  new : H f = none
  at' : ∃ u, H2 f = some (.cN o u)
  cd : ∃ u, H2 c = some (.cN oc u)
  lm : Lm H2 (P, fG X)
  keep : ∀ b u, H b = some u → b ≠ P → H2 b = some u
  tab : ∃ ps, H P = some (.lam ps)
def L0 (X : Cx) (P : Addr) (params : Arguments) (body : Expr) (scope : Scope) : TE := fun _ H Q => Lm H (P, fG X) ∧ ∀ f o c oc aM H2, Hq X params body scope o c oc aM → Hr X P H H2 f o c oc → Q (.ref f) H2
def iZ (a : Addr) (o : Obj) : HO := .cN o (.ext fun h => h.get? a = some o)
theorem t7 {P : Program} {w : World} {H : Hp} {h : Heap} {a : Addr} {o : Obj} (e : h.get? a = some o) : ObjOk P w H h a (iZ a o) := ⟨e, e, ⟨o, e⟩, fun _ _ x k => k o x⟩
theorem zJ {a b c cv : Value} {pos : Pos} (l : List Value) (h : TriplesOk l) (e : codeAmong pos (l ++ [a, b, c]) = some cv) : codeAmong pos l = some cv ∨ cv = c := by
  induction l using TriplesOk.induct with
  | case1 =>
    right
    simp only [List.nil_append] at e
    unfold codeAmong at e
    split at e
    · rename_i heq
      cases heq
      split at e
      · exact (Option.some.inj e).symm
      · simp [codeAmong] at e
    · cases e
  | case2 x tx y ty z rest ih =>
    simp only [List.cons_append, codeAmong] at e ⊢
    split at e
    · rename_i q
      rw [if_pos q]; exact .inl e
    · rename_i q
      rw [if_neg q]; exact ih h e
  | case3 l n1 n2 =>
    exfalso
    unfold TriplesOk at h
    split at h
    · exact n1 rfl
    · exact n2 _ _ _ _ _ _ rfl
    · exact h
section
variable {X : Cx} {params : Arguments} {body : Expr} {scope : Scope} {pos : Pos} {P cX : Addr}
theorem wZ {pins : List (Addr × Obj)} {s : Shared} {σ : St} {H : Hp} {h' : Heap} {o : Obj} (I : Inv X pins σ H s) (hk : ∀ b u, s.heap.get? b = some u → h'.get? b = some u) (hsz : s.heap.objs.size ≤ h'.objs.size) (hc : o.isFreed = false) (tk : Nat) :
    Inv X pins σ (upd H h'.objs.size (iZ h'.objs.size o)) { s with heap := h'.push o, toks := tk } :=
  I.laid (a := h'.objs.size) (o := iZ h'.objs.size o) (t' := tk) (fun b u e => Heap.get?_push_of_some _ (hk b u e)) hsz (t7 (Heap.get?_push_size _ hc))
theorem w5 {pins : List (Addr × Obj)} {s : Shared} {σ : St} {H : Hp} {h' : Heap} {o oc : Obj} {c : Addr} {ps f9 : Array Value} (I : Inv X pins σ H s) (hP : H P = some (.lam ps)) (hx : Heap.ExtBut P s.heap h') (oH : s.heap.objs.size ≤ c) (aT : c < h'.objs.size) (pW : h'.get? c = some oc)
    (C9 : h'.get? P = some { cls := .none, data := .fields f9 }) (hc : o.isFreed = false) (tk : Nat) :
    Inv X pins σ (upd (upd (upd H P (.lam f9)) c (iZ c oc)) h'.objs.size (iZ h'.objs.size o)) { s with heap := h'.push o, toks := tk } := by
  have Hs : P < s.heap.objs.size := (I.hok P _ hP).lt
  have hsz : s.heap.objs.size ≤ h'.objs.size := Nat.le_of_lt (Nat.lt_of_le_of_lt oH aT)
  have old : ∀ b, b < s.heap.objs.size → b ≠ P → upd (upd (upd H P (.lam f9)) c (iZ c oc)) h'.objs.size (iZ h'.objs.size o) b = H b := fun b hb n => by
    rw [af (Nat.ne_of_lt (Nat.lt_of_lt_of_le hb hsz)), af (Nat.ne_of_lt (Nat.lt_of_lt_of_le hb oH)), af n]
  have Ph : upd (upd (upd H P (.lam f9)) c (iZ c oc)) h'.objs.size (iZ h'.objs.size o) P = some (.lam f9) := by
    rw [af (Nat.ne_of_lt (Nat.lt_of_lt_of_le Hs hsz)), af (Nat.ne_of_lt (Nat.lt_of_lt_of_le Hs oH)), aD]
  have k : ∀ b u, b ≠ P → s.heap.get? b = some u → (h'.push o).get? b = some u := fun b u n e => Heap.get?_push_of_some _ (hx b u n e)
  have zK : ∀ b u, H b = some u → b < s.heap.objs.size := fun b u e => (I.hok b u e).lt
  have nP : ∀ b, H b = none → b ≠ P := fun b e z => by rw [z, hP] at e; cases e
  have nT : ∀ b u, H b = some u → (∀ ps, u ≠ .lam ps) → b ≠ P := fun b u e n z => by rw [z, hP] at e; cases e; exact n _ rfl
  refine I.un ⟨fun b u q n _ _ => k b u (nP b n) q, fun b u q n _ _ => ⟨u.slots, k b u (nP b n) q⟩, fun b u q n _ => by rw [old b (Heap.lt_size q) (nP b n)]; exact n, fun b u q _ => ?_, fun b xs q => by rw [old b (zK b _ q) (nT b _ q (by intro _ z; cases z))]; exact q,
    fun b u xs q => by rw [old b (zK b _ q) (nT b _ q (by intro _ z; cases z))]; exact q, fun b qs q => ⟨#[], by rw [old b (zK b _ q) (nT b _ q (by intro _ z; cases z)), q]; simp⟩⟩ fun b u q => ?_
  · by_cases e : b = P
    · subst e; exact ⟨_, Heap.get?_push_of_some _ C9⟩
    · exact ⟨u, k b u e q⟩
  · by_cases e1 : b = h'.objs.size
    · subst e1
      rw [aD] at q; cases q
      exact t7 (Heap.get?_push_size _ hc)
    · rw [af e1] at q
      by_cases e2 : b = c
      · subst e2
        rw [aD] at q; cases q
        exact t7 (Heap.get?_push_of_some _ pW)
      · rw [af e2] at q
        by_cases e3 : b = P
        · subst e3
          rw [aD] at q; cases q
          exact Heap.get?_push_of_some _ C9
        · rw [af e3] at q
          refine (I.hok b u q).b9 (fun a v hc q => k a v ?_ q) (fun a z => ?_) fun a xs z => ?_
          · rcases hc with z | z
            · rw [z]; exact e3
            · exact nT a _ z (by intro _ w; cases w)
          · rw [old a (zK a _ z) (nT a _ z (by intro _ w; cases w))]; exact z
          · rw [old a (zK a _ z) (nT a _ z (by intro _ w; cases w))]; exact z
theorem Ht (fw : X.env.code = .ref cX) (hd : PySem.W.CodeHd X.base cX P) (fm : ∃ bm ob, BMod X.base mainGlobals X.mg bm ob) (BV : defaultsOf params X.env = ([], []))
    (lW : ∀ n, (n, NameKind.free) ∈ scope.names → X.env.kindOf n = some .cell ∨ X.env.kindOf n = some .free) : PE X (.Lambda params body scope pos) (L0 X P params body scope) := by
  refine ⟨?_⟩
  intro pins s σ H Q I ⟨⟨ps, hP, kN, tU⟩, q⟩
  obtain ⟨aM, fv, cM, ez⟩ := eU (scope := scope) (env := X.env) fun n hn => I.ok.has n (lW n hn)
  have sC : s.heap.get? P = some (PySem.W.tabObj ps) := I.hok P _ hP
  obtain ⟨bm, ob, bmod⟩ := fm
  have fM := bmod.keeps I.bk
  have NI : mainGlobals ≠ P := fun z => by
    obtain ⟨o, es, ep, e, hd, _⟩ := fM.ns
    rw [z, sC] at e; cases e; cases hd
  have NK : bm ≠ P := fun z => by
    have e := fM.obj
    have e2 := fM.data
    rw [z, sC] at e; cases e; cases e2
  have NM : bm ≠ mainGlobals := fun z => by
    obtain ⟨o, es, ep, e, hd, _⟩ := fM.ns
    have e1 := fM.obj
    have e2 := fM.data
    rw [z, e] at e1; cases e1; rw [hd] at e2; cases e2
  have hb : s.heap.BuiltinsAt X.mg P := ⟨bm, ob, fM.name, fM.ne, NM, NK, fM.obj, fM.cls, fM.dict, fM.data⟩
  refine PySem.W.kla_eval BV ?_
  cases hq : codeAmong pos ps.toList with
  | some cv =>
    obtain ⟨c, oc, uc, vs, t, rfl, ec, d1, d2⟩ := tU pos cv hq
    refine PySem.W.kla_makeFunctionHit (mg := X.mg) fv I.ok.glob (I.mod.glob.keeps I.bk) fw (hd.keeps I.bk) sC kN hq hb fun iq h' tk hk hsz => ?_
    have hf : H h'.objs.size = none := I.hok.fresh hsz
    have pre : ∀ b u, H b = some u → upd H h'.objs.size (iZ h'.objs.size (PySem.W.kla_obj "<lambda>" (fG X) params body scope aM ((X.mg "__name__").getD .none) c iq)) b = some u := fun b u e => by rw [af (aU e hf)]; exact e
    refine ⟨.ref h'.objs.size, _, wZ I hk hsz (o := PySem.W.kla_obj "<lambda>" (fG X) params body scope aM ((X.mg "__name__").getD .none) c iq) rfl tk, rfl, q _ _ c oc aM _ ⟨cM, ez, ⟨iq, rfl⟩, ⟨vs, t, d1, d2⟩⟩ ⟨hf, ⟨_, aD⟩, ⟨uc, pre _ _ ec⟩, Lm.keep ⟨ps, hP, kN, tU⟩ (fun _ e => pre _ _ e) fun _ _ _ e => pre _ _ e, fun b u e _ => pre b u e, ⟨ps, hP⟩⟩⟩
  | none =>
    refine PySem.W.kla_makeFunction (mg := X.mg) fv I.ok.glob (I.mod.glob.keeps I.bk) fw (hd.keeps I.bk) sC kN hq NI hb fun c iq h' tk hx oH aT L1 C9 => ?_
    obtain ⟨c2, oc, vs, t, e2, pW, d1, d2⟩ := L1
    cases e2
    have I2 := w5 (o := PySem.W.kla_obj "<lambda>" (fG X) params body scope aM ((X.mg "__name__").getD .none) c iq) I hP hx oH aT pW C9 rfl tk
    have hsz : s.heap.objs.size ≤ h'.objs.size := Nat.le_of_lt (Nat.lt_of_le_of_lt oH aT)
    have hf : H h'.objs.size = none := I.hok.fresh hsz
    have Dc : H c = none := I.hok.fresh oH
    have NN : c ≠ h'.objs.size := Nat.ne_of_lt aT
    have NP : P ≠ c := fun z => by rw [z, Dc] at hP; cases hP
    have NQ : P ≠ h'.objs.size := fun z => by rw [z, hf] at hP; cases hP
    have NR : TriplesOk (ps ++ #[rawInt pos.line, rawInt pos.col, Value.ref c]).toList := by
      rw [Array.toList_append]
      exact TriplesOk_snoc _ _ _ _ kN
    have pre : ∀ b u, H b = some u → b ≠ P → upd (upd (upd H P (.lam (ps ++ #[rawInt pos.line, rawInt pos.col, Value.ref c]))) c (iZ c oc)) h'.objs.size (iZ h'.objs.size (PySem.W.kla_obj "<lambda>" (fG X) params body scope aM ((X.mg "__name__").getD .none) c iq)) b = some u := fun b u e n => by
      rw [af (aU e hf), af (aU e Dc), af n]; exact e
    have KD : upd (upd (upd H P (.lam (ps ++ #[rawInt pos.line, rawInt pos.col, Value.ref c]))) c (iZ c oc)) h'.objs.size (iZ h'.objs.size (PySem.W.kla_obj "<lambda>" (fG X) params body scope aM ((X.mg "__name__").getD .none) c iq)) c = some (iZ c oc) := by rw [af NN, aD]
    refine ⟨.ref h'.objs.size, _, I2, rfl, q _ _ c oc aM _ ⟨cM, ez, ⟨iq, rfl⟩, ⟨vs, t, d1, d2⟩⟩ ⟨hf, ⟨_, aD⟩, ⟨_, KD⟩, ⟨_, by rw [af NQ, af NP, aD], NR, fun p cv e => ?_⟩, pre, ⟨ps, hP⟩⟩⟩
    rw [Array.toList_append] at e
    rcases zJ _ kN e with e | e
    · obtain ⟨c3, NS, u3, NT, t3, a1, a2, a3⟩ := tU p cv e
      exact ⟨c3, NS, u3, NT, t3, a1, pre _ _ a2 (fun z => by rw [z, hP] at a2; cases a2), a3⟩
    · exact ⟨c, oc, _, vs, t, e, KD, d1, d2⟩
end
structure Dd (X : Cx) (σ : St) (b' : Heap) : Prop where
  ext : ∀ b o, X.base.get? b = some o → b'.get? b = some o
  cell : ∀ (i : Nat) (x : Str) (v : V), X.N[i]? = some x → σ[i]? = some (some v) → X.env.scope.names.lookup x = some .cell → ∃ c u, X.env.cells.lookup x = some c ∧ RelV v u ∧ b'.IsCell c (some u)
  cells : ∀ x c, X.env.cells.lookup x = some c → ∃ v, b'.IsCell c v
  inj : ∀ x y c, X.env.cells.lookup x = some c → X.env.cells.lookup y = some c → x = y
theorem Mod.ext {K : PySem.W.Frag} {mg : Str → Option Value} {b b' : Heap} (m : Mod K mg b) (k : ∀ a o, b.get? a = some o → b'.get? a = some o) : Mod K mg b' :=
  ⟨m.kin.keeps k, m.glob.keeps k, let ⟨mb, h1, h2⟩ := m.blt; ⟨mb, h1.keeps k, h2⟩, m.nolimit.keeps k⟩
section
variable {X : Cx} {pins : List (Addr × Obj)} {σ : St} {H : Hp} {s : Shared}
theorem Inv.Jw (I : Inv X pins σ H s) (nH : ∀ x, X.fn x = true) : ∃ b', Dd X σ b' ∧ o6 X.prog X.w X.K X.mg b' X.A X.stack s H := by
  let De : Addr → Prop := fun a => ∃ x, X.env.cells.lookup x = some a
  let l : List Addr := (List.range s.heap.objs.size).filter fun a => @decide ((X.base.get? a = none) ∧ ¬ De a) (Classical.propDecidable _)
  have ml : ∀ a, a ∈ l ↔ a < s.heap.objs.size ∧ X.base.get? a = none ∧ ¬ De a := fun a => by
    show a ∈ (List.range s.heap.objs.size).filter _ ↔ _
    rw [List.mem_filter, List.mem_range]
    simp only [decide_eq_true_eq]
  have ext : ∀ b o, X.base.get? b = some o → (PySem.W.hideAll s.heap l).get? b = some o := fun b o e => PySem.W.hideAll_get l (I.bk b o e) fun z => by
    have := ((ml b).mp z).2.1
    rw [e] at this; cases this
  have cls : ∀ x c o, X.env.cells.lookup x = some c → s.heap.get? c = some o → (PySem.W.hideAll s.heap l).get? c = some o := fun x c o e ho => PySem.W.hideAll_get l ho fun z => ((ml c).mp z).2.2 ⟨x, e⟩
  have only : ∀ b o, (PySem.W.hideAll s.heap l).get? b = some o → s.heap.get? b = some o ∧ ((∃ o', X.base.get? b = some o') ∨ De b) := fun b o e => by
    have e' := PySem.W.of_hideAll l e
    refine ⟨e', ?_⟩
    by_cases hc : De b
    · exact .inr hc
    · cases q : X.base.get? b with
      | some o' => exact .inl ⟨o', rfl⟩
      | none =>
        have : (PySem.W.hideAll s.heap l).get? b = none := PySem.W.hideAll_none l ((ml b).mpr ⟨Heap.lt_size e', q, hc⟩)
        rw [e] at this; cases this
  refine ⟨PySem.W.hideAll s.heap l, ⟨ext, fun i x v h1 h2 h3 => ?_, fun x c e => ?_, I.ok.inj⟩, I.ok.frames, I.ok.mod.ext ext, fun b o e => ?_, Nat.le_of_eq (PySem.W.hideAll_size _ _), ?_, I.jz, I.hok, I.bare.1⟩
  · obtain ⟨m, hn, hl⟩ := I.loc
    obtain ⟨u, r, lk⟩ := hl i x v h1 h2 (.inr (.inl h3))
    rcases lk with ⟨hk, _⟩ | ⟨_, c, ec, o, ho, hd⟩
    · have hk : X.env.scope.names.lookup x = some .local := hk
      rw [h3] at hk; cases hk
    · exact ⟨c, u, ec, r, o, cls x c o ec ho, hd⟩
  · obtain ⟨v, o, ho, hd⟩ := I.cell x c e
    exact ⟨v, o, cls x c o e ho, hd⟩
  · obtain ⟨e', q⟩ := only b o e
    refine ⟨e', ?_⟩
    rcases q with ⟨o', q⟩ | ⟨x, q⟩
    · exact (I.bs b o' q).2
    · exact I.freeC x b q
  · have fr : ∀ L ∈ dP X.stack, (PySem.W.hideAll s.heap l).get? L = none := fun L hL => by
      cases q : (PySem.W.hideAll s.heap l).get? L with
      | none => rfl
      | some o =>
        exfalso
        obtain ⟨e', q⟩ := only L o q
        have nb := (I.stack.mem hL).1
        rcases q with ⟨o', q⟩ | ⟨x, q⟩
        · rw [nb] at q; cases q
        · rcases List.mem_cons.mp (I.eC L hL) with z | z
          · exact I.pV x L q z
          · have h1 := I.ok.cab x L (nH x) q
            obtain ⟨_, o2, NU, _⟩ := I.ok.funs.mem z
            exact absurd (Heap.lt_size NU) (Nat.not_lt.mpr h1)
    have go : ∀ (st : List Env), (∀ L ∈ dP st, (PySem.W.hideAll s.heap l).get? L = none) → s.heap.FunFrames X.base st → s.heap.FunFrames (PySem.W.hideAll s.heap l) st := by
      intro st
      induction st with
      | nil => intro _ _; trivial
      | cons env r ih =>
        intro hs hl
        obtain ⟨hk, ⟨L, o, hf, hn, ho, hd⟩, hr⟩ := hl
        exact ⟨hk, ⟨L, o, hf, hs L (by unfold dP; rw [List.filterMap_cons, hf]; exact List.mem_cons_self), ho, hd⟩, ih (fun b hb => hs b (by unfold dP; rw [List.filterMap_cons, hf]; exact List.mem_cons_of_mem _ hb)) hr⟩
    exact go X.stack fr I.stack
end
section
variable {X : Cx} {CX : fW} {k : Nat} {f : Addr} {fd : FuncData} {ps : List Str} {fk : List V} {ds : List Value} {E : XK} {x : Str} {p pos : Pos} {e : Expr} {es : List Expr} {t : TA}
def Hu (X : Cx) (sp : Heap → Sp) (fk : List V) (E : XK) (t : TA) : TE := fun σ H Q => t σ H fun vs H1 => ∀ b', Dd X σ b' → sp b' (vs ++ fk) H1 Q E
theorem BW {sp : Heap → Sp} (F : ∀ b', (∀ b o, X.base.get? b = some o → b'.get? b = some o) → FnOk X.prog X.w X.K X.mg b' CX k f fd ps (sp b')) (hr : bG k X.A) (nH : ∀ x, X.fn x = true) (hg : Gl X x) (hm : X.mg x = some (.ref f)) (hk : PySem.W.keepIn X.K (.ref f) = true) (hb : Binds X.K fd ps ds) (hd : Vals fk ds) (hx : Passes CX X E)
    (ha : PA X (e :: es) t) (eE : (x == ("__debug__" : Str)) = false := by decide) (he : starEach (e :: es) X.env = (false, eval e X.env) :: starEach es X.env := by rfl) (bR : (backTo pos (starEach es X.env)).any (·.1) = false := by rfl) :
    PE X (.Call (.Name x p) (e :: es) [] pos) (Hu X sp fk E t) := by
  refine ⟨?_⟩
  intro pins s σ H Q I h
  refine wpAny_Call_Name_kw (lX I hg hm ?_ eE)
  refine PySem.W.callWith_K (h₀ := X.base) I.ok.mod.kin hk (thn (ha pos pins s σ H _ I h) fun us s1 ⟨vs, H1, I1, r, q⟩ => ⟨I1.fT, ?_⟩) he bR
  obtain ⟨b', B, e0⟩ := I1.Jw nH
  have r2 : Vals (vs ++ fk) (us ++ ds) := r.append hd
  have hl : (us ++ ds).length = ps.length := by rw [← r2.length]; exact (F b' B.ext).len _ _ _ _ (q b' B)
  refine wpAny_call (codeAny_mono ((F b' B.ext).run X.A X.stack s1 H1 ⟨us, []⟩ (us ++ ds) (vs ++ fk) Q E hr e0 (hb s1 us I1.fT hl) r2 (q b' B)) fun r s' hq => ?_)
  cases r with
  | error e => exact hx pins σ H1 s1 e s' I1 hq
  | ok fl =>
    cases fl with
    | ret u => exact I1.after hq
    | next => exact False.elim hq
    | brk => exact False.elim hq
    | cont => exact False.elim hq
def Hv (f : Addr) (o : Obj) (sp : Sp) (E : XK) (i : Nat) (t : TA) : TE := fun σ H Q => σ[i]? = some (some (.ref f)) ∧ (∃ u, H f = some (.cN o u)) ∧ t σ H fun vs H1 => (∃ u, H1 f = some (.cN o u)) ∧ sp vs H1 Q E
theorem BX {o : Obj} {sp : Sp} {i : Nat} (F : FnOk X.prog X.w X.K X.mg X.base CX k f fd ps sp) (ho : ∃ oc od fd sl, o = ⟨oc, od, .func fd, sl⟩) (hr : bG k X.A) (hN : X.N[i]? = some x) (hv : mD X.env.scope x) (hb : Binds X.K fd ps []) (hx : Passes CX X E) (ha : PA X (e :: es) t)
    (eE : (x == ("__debug__" : Str)) = false := by decide) (dD : (x == ("__classdict__" : Str)) = false := by decide) (he : starEach (e :: es) X.env = (false, eval e X.env) :: starEach es X.env := by rfl) (bR : (backTo pos (starEach es X.env)).any (·.1) = false := by rfl) :
    PE X (.Call (.Name x p) (e :: es) [] pos) (Hv f o sp E i t) := by
  refine ⟨?_⟩
  intro pins s σ H Q I ⟨hi, hf, h⟩
  obtain ⟨oc, od, CH, sl, rfl⟩ := ho
  refine wpAny_Call_Name_kw (thn ((sg hN hv eE dD) pins s σ H (fun v H' => v = .ref f ∧ H' = H) I ⟨_, hi, rfl, rfl⟩) fun u s0 ⟨v, H0, I0, r0, e1, e2⟩ => ?_)
  subst e1 e2
  cases (show u = Value.ref f from r0)
  have at_ : ∀ {H' : Hp} {s' : Shared}, Inv X pins σ H' s' → (∃ u, H' f = some (.cN ⟨oc, od, .func CH, sl⟩ u)) → PySem.W.FnAt f s'.heap := fun I' ⟨u, hu⟩ => ⟨oc, od, CH, sl, (I'.hok f _ hu).1⟩
  refine PySem.W.callWith_F (at_ I0 hf) (thn (ha pos pins s0 σ H0 _ I0 h) fun us s1 ⟨vs, H1, I1, r, NV, q⟩ => ⟨at_ I1 NV, ?_⟩) he bR
  have q' : sp (vs ++ []) H1 Q E := by rw [List.append_nil]; exact q
  exact xY F hr hb .nil hx I1 r q'
end
def w6 (CX : fW) (P : Program) (w : World) (K : PySem.W.Frag) (mg : Str → Option Value) (base : Heap) (N : List Str) (qual : Str) (scope : Scope) (f : Addr) (cd : Value) (aM : List (Str × Addr)) (A : Around) (outer : List Env) (s : Shared) (H : Hp) (E : XK) : Cx where
  prog := P
  w := w
  K := K
  mg := mg
  base := base
  A := A.deeper (PySem.W.envX qual scope s.heap.objs.size f cd aM)
  N := N
  s₀ := s
  H₀ := H
  env := PySem.W.envX qual scope s.heap.objs.size f cd aM
  outer := outer
  stack := PySem.W.envX qual scope s.heap.objs.size f cd aM :: outer
  ex := []
  calm := true
  fn := fun _ => false
  pn := []
  xe := fun e s' => wpAny (model P w) (A.deeper (PySem.W.envX qual scope s.heap.objs.size f cd aM)) (leaving (PySem.W.envX qual scope s.heap.objs.size f cd aM) e) (fun _ bZ => CX outer H s E e bZ) (fun e' bZ => CX outer H s E e' bZ) s'
structure j9 (ps fs : List Str) (sc : Scope) : Prop where
  kind : sc.kind = .function
  co : sc.isCoroutine = false
  gen : sc.isGenerator = false
  nd : (ps ++ fs).Nodup
  par : ∀ x ∈ ps, sc.names.lookup x = some .local
  fre : ∀ x ∈ fs, sc.names.lookup x = some .free
  nocell : ∀ y ∈ sc.names, y.2 ≠ .cell
structure pK (base : Heap) (fs : List Str) (aM : List (Str × Addr)) (vcs : List V) : Prop where
  inj : ∀ x y c, aM.lookup x = some c → aM.lookup y = some c → x = y
  all : ∀ x c, aM.lookup x = some c → ∃ v, base.IsCell c v
  cell : ∀ (j : Nat) (x : Str) (v : V), fs[j]? = some x → vcs[j]? = some v → ∃ c u, aM.lookup x = some c ∧ RelV v u ∧ base.IsCell c (some u)
theorem oI {x : Str} {v : Value} : ∀ {ps : List Str} {us : List Value} {i : Nat}, ps.Nodup → ps[i]? = some x → us[i]? = some v → (ps.zip us).reverse.lookup x = some v
  | [], _, _, _, h, _ => by simp at h
  | _ :: _, [], _, _, _, h => by simp at h
  | p :: ps, u :: us, i, nd, h1, h2 => by
    rw [List.zip_cons_cons, List.reverse_cons]
    have hn := List.nodup_cons.mp nd
    cases i with
    | zero =>
      simp at h1 h2
      subst h1 h2
      rw [List.lookup_append]
      have : (ps.zip us).reverse.lookup p = none := by
        rw [List.lookup_eq_none_iff]
        intro q hq
        have tq := List.mem_reverse.mp hq
        have := (List.of_mem_zip tq).1
        have ne : p ≠ q.1 := fun z => hn.1 (by rw [z]; exact this)
        simpa using ne
      rw [this]
      simp [List.lookup]
    | succ i =>
      rw [List.lookup_append, oI hn.2 (by simpa using h1) (by simpa using h2)]
      rfl
section
variable {CX : fW} {P : Program} {w : World} {K : PySem.W.Frag} {mg : Str → Option Value} {base : Heap} {ps fs : List Str} {qual : Str} {scope : Scope} {f c : Addr} {aM : List (Str × Addr)} {A : Around} {outer : List Env} {s : Shared} {H : Hp} {E : XK} {us : List Value} {vs vcs : List V}
theorem ED {h1 : Heap} {tk : Nat} (S : j9 ps fs scope) (C : pK base fs aM vcs) (has : ∀ n, (n, NameKind.free) ∈ scope.names → ∃ a, aM.lookup n = some a) (hd : A.handled = none) (e0 : o6 P w K mg base A outer s H) (hl : vs.length = ps.length) (hc : vcs.length = fs.length) (r : Vals vs us)
    (fL : h1.Ns s.heap.objs.size (fun y => (ps.zip us).reverse.lookup y)) (hk : ∀ b o, s.heap.get? b = some o → h1.get? b = some o) :
    Inv (w6 CX P w K mg base (ps ++ fs) qual scope f (.ref c) aM A outer s H E) [] (vs.map some ++ vcs.map some) H { s with heap := h1, toks := tk } := by
  have bc : ∀ x a, aM.lookup x = some a → ∃ v o, s.heap.get? a = some o ∧ o.data = .cell v ∧ H a = none := fun x a e => by
    obtain ⟨v, o, ho, hd⟩ := C.all x a e
    obtain ⟨h1, h2⟩ := e0.bs a o ho
    exact ⟨v, o, h1, hd, h2⟩
  refine ⟨⟨e0.mod, S.kind, rfl, rfl, Nat.le_refl _, C.inj, fun y hy => ?_, fun _ _ z => (nomatch z), fun _ => hd, Around.frames_deeper e0.frames, .inr ⟨rfl, rfl⟩, fun b z => absurd (show b ∈ ([] : List Addr) from z) (by simp), e0.bs, e0.bsz, fun b _ _ z => absurd (show b ∈ ([] : List Addr) from z) (by simp), fun b z => absurd (show b ∈ ([] : List Addr) from z) (by simp), e0.funs, e0.frf⟩,
    rfl, ⟨e0.bare, Nat.le_refl _⟩, Un.kept hk, ⟨_, fL, fun i y v h1 h2 h3 => ?_⟩, fun y a e => ?_, e0.hok.fresh (Nat.le_refl _), fun y a e => ?_, fun p hp => absurd (show p ∈ ([] : List (Addr × Obj)) from hp) (by simp), e0.hok.kept hk, ?_⟩
  · have hy : scope.names.lookup y = some .cell ∨ scope.names.lookup y = some .free := hy
    rcases hy with hy | hy
    · exact absurd rfl (S.nocell _ (PySem.mem_of_lookup hy))
    · exact has y (PySem.mem_of_lookup hy)
  · have h1 : (ps ++ fs)[i]? = some y := h1
    by_cases hi : i < ps.length
    · rw [List.getElem?_append_left hi] at h1
      rw [List.getElem?_append_left (by simpa [hl] using hi), List.getElem?_map] at h2
      have ha : vs[i]? = some v := by
        cases e : vs[i]? with
        | none => rw [e] at h2; cases h2
        | some a => rw [e] at h2; cases h2; rfl
      obtain ⟨u, hu, rv⟩ := r.get ha
      have nd : ps.Nodup := S.nd.sublist (List.sublist_append_left _ _)
      exact ⟨u, rv, .inl ⟨S.par y (List.mem_of_getElem? h1), oI nd h1 hu⟩⟩
    · rw [List.getElem?_append_right (by omega)] at h1
      rw [List.getElem?_append_right (by simp only [List.length_map]; omega), List.length_map, hl, List.getElem?_map] at h2
      have ha : vcs[i - ps.length]? = some v := by
        cases e : vcs[i - ps.length]? with
        | none => rw [e] at h2; cases h2
        | some a => rw [e] at h2; cases h2; rfl
      obtain ⟨a, u, e1, rv, o, ho, hd⟩ := C.cell _ y v h1 ha
      exact ⟨u, rv, .inr ⟨.inr (S.fre y (List.mem_of_getElem? h1)), a, e1, o, hk _ _ (e0.bs a o ho).1, hd⟩⟩
  · obtain ⟨v, o, ho, hd, _⟩ := bc y a e
    exact ⟨v, o, hk _ _ ho, hd⟩
  · obtain ⟨v, o, ho, hd, hn⟩ := bc y a e
    exact hn
  · show _ = (ps ++ fs).length
    simp [hl, hc]
structure w9 (params : Arguments) (body : Expr) (scope : Scope) (qual : Str) (o : Obj) (c : Addr) (oc : Obj) (aM : List (Str × Addr)) (fd : FuncData) : Prop where
  has : ∀ n, (n, NameKind.free) ∈ scope.names → ∃ a, aM.lookup n = some a
  obj : ∃ name pm iq, fd = PySem.W.kla_fn name qual params body scope aM pm (.ref c) iq ∧ o = { cls := .type "function", data := .func fd }
  code : ∃ vs t, oc.data = .fields vs ∧ vs[1]? = some (Value.str qual t)
theorem Hw {params : Arguments} {body : Expr} {o oc : Obj} {fd : FuncData} {k : Nat} {sp : Sp} (L : w9 params body scope qual o c oc aM fd) (S : j9 ps fs scope) (C : pK base fs aM vcs) (cW : vcs.length = fs.length) (len : ∀ vs H Q E, sp vs H Q E → vs.length = ps.length)
    (at' : ∀ vs H Q E, sp vs H Q E → (∃ u, H f = some (.cN o u)) ∧ ∃ u, H c = some (.cN oc u))
    (jR : ∀ (A : Around) (outer : List Env) (s : Shared) (H : Hp) (vs : List V) (Q : VK) (E : XK), bG k (A.deeper (PySem.W.envX qual scope s.heap.objs.size f (.ref c) aM)) → sp vs H Q E →
      ∃ t, PE (w6 CX P w K mg base (ps ++ fs) qual scope f (.ref c) aM A outer s H E) body t ∧ t (vs.map some ++ vcs.map some) H Q) : FnOk P w K mg base CX (k + 1) f fd ps sp := by
  obtain ⟨has, ⟨name, pm, iq, rfl, rfl⟩, ⟨NW, ct, d1, d2⟩⟩ := L
  refine ⟨len, fun A outer s H args us vs Q E hr e0 hb r jg => ?_⟩
  have hl := len _ _ _ _ jg
  obtain ⟨⟨u1, ef⟩, ⟨u2, ec⟩⟩ := at' _ _ _ _ jg
  have NX := (e0.hok f _ ef).1
  have pW := (e0.hok c _ ec).1
  have lim : s.heap.NoLimit := e0.mod.nolimit.keeps fun b o e => (e0.bs b o e).1
  refine PySem.W.kla_callFunE hr.depth NX rfl S.co S.gen rfl ⟨c, oc, NW, ct, rfl, pW, d1, d2⟩ (hb _ _ _ _ ?_)
  refine wpAny_newFunctionEnv S.nocell (fun y hy => S.par y.1 (List.of_mem_zip hy).1) (fun h1 fL f7 => ⟨lim.fresh _ f7, ?_⟩) S.kind
  have hk : ∀ b o, s.heap.get? b = some o → h1.get? b = some o := fun b o e => f7.extBut b o (Nat.ne_of_lt (Heap.lt_size e)) (Heap.get?_push_of_some _ e)
  obtain ⟨t, ht, hq⟩ := jR A outer s H vs Q E (hr.deeper _) jg
  have I := ED (CX := CX) (qual := qual) (f := f) (c := c) (E := E) (tk := s.toks + (ps.zip us).length) S C has hr.hd e0 hl cW r fL hk
  show codeAny _ _ (.expr body (PySem.W.envX qual scope s.heap.objs.size f (.ref c) aM)) _ _
  refine PySem.W.kla_codeExpr (wpAny_mono (ht [] _ _ H Q I hq) (fun u s' ⟨v, H', J, rv, q⟩ => ?_) fun e s' hs => hs)
  exact ⟨v, H', J.os, J.bare, J.base, J.hok, rv, q⟩
end
end L2
namespace L2
open PySem PySem.Spec PySem.W PyProof.Rows
structure Dg (K : PySem.W.Frag) (mg : Str → Option Value) (x : Str) (st : Stmt) (ps : List Str) (ds : List Value) (f : Addr) (fd : FuncData) : Prop where
  ex : ∃ (oc : Value) (od : Option Addr) (dV kV doc pm : Value) (an : Option Addr) (cq ct : Value) (jf : Array (Option Value)),
    fd = PySem.W.fnOf x x (cJ st) (bu st) (ai st) dV kV doc pm an cq ct ∧ K.lookup f = some ⟨oc, od, .func fd, jf⟩ ∧ PySem.W.codeIn K cq x = true
  kp : PySem.W.keepIn K (.ref f) = true
  bd : Binds K fd ps ds
  bd0 : Binds K fd ps []
  mg : mg x = some (.ref f)
section
variable {P : Program} {w : World} {K : PySem.W.Frag} {mg : Str → Option Value} {base : Heap} {tb : da} {x : Str} {st : Stmt} {f : Addr} {fd : FuncData} {N ps : List Str} {fk : List Value} {k : Nat} {S : cQ}
theorem Jx (D : Dg K mg x st ps fk f fd) (sc : aV N ps (ai st)) (len : ∀ ds M Q E, S ds M Q E → ds.length = ps.length)
    (body : ∀ (A : Around) (outer : List Env) (s : Shared) (E : XK) (Γ : Gz) (ds : List Dv) (Q' : ZK) (E' : ZX), P = Γ.P → w = Γ.w → K = Γ.K → tb = Γ.tb → bG k (A.deeper (envOfC x (ai st) s.heap.objs.size f fd.code)) → S ds Γ.M0 Q' E' →
      ∃ p, kn Γ (fi bj P w K mg base N x (ai st) f fd.code A outer s Γ.H0 E).kB (bu st) p ∧ p (zEndsOf Γ.M0 Q') (zstart N ds) Γ.M0) : FnOk P w K mg base bj (k + 1) f fd ps (bp P w K tb S) := by
  obtain ⟨oc, od, dV, kV, doc, pm, an, cq, ct, jf, rfl, lk, dD⟩ := D.ex
  refine vZ lk dD sc (pF len) fun A outer s H vs Q E hr h => ?_
  obtain ⟨β, ds, M, Q', E', eP, ew, eK, et, m, rs, hS, q, _⟩ := h
  obtain ⟨p, hp, hq⟩ := body A outer s E ⟨β, M, H⟩ ds Q' E' eP.symm ew.symm eK.symm et.symm hr hS
  refine ⟨_, hp.kB, β, zstart N ds, M, zEndsOf M Q', nu (Γ := ⟨β, M, H⟩) m rs, hq, ?_⟩
  have fin : ∀ d M' v H', Ex β M H M' H' → Rz β M' H' v d → gK M Q' d M' → Q v H' := fun d M' v H' x r h => mr m q x r h
  exact ⟨fun bD M' aH H' x zr h => fin _ _ _ _ ⟨zr.ent, x.mz⟩ .aq h, fun d M' v H' x e r h => fin _ _ _ _ ⟨e, x.mz⟩ r h, fun _ _ _ _ _ _ h => h, fun _ _ _ _ _ _ h => h⟩
def Dh (P : Program) (w : World) (K : PySem.W.Frag) (tb : da) (f : Addr) (o : Obj) (c : Addr) (oc : Obj) (vcs : List V) (S : List Dv → cQ) : Sp := fun vs H Q E => ∃ (β : Bz) (ds bS : List Dv) (M : Mh) (Q' : ZK) (E' : ZX), β.P = P ∧ β.w = w ∧ β.K = K ∧ β.tb = tb ∧ Mz β M H ∧ aG β M H vs ds ∧ Rz β M H (.ref f) (.bC f o c oc vcs bS) ∧ S bS ds M Q' E' ∧
  (∀ d M' v H', Ex β M H M' H' → Rz β M' H' v d → Q' d M' → Q v H') ∧ ∀ C M' H', Ex β M H M' H' → E' C M' → E (.ref C) none H'
theorem jo {β : Bz} {M : Mh} {H : Hp} {v : V} {f c : Addr} {o oc : Obj} {vs : List V} {ds : List Dv} (h : Rz β M H v (.bC f o c oc vs ds)) : v = .ref f ∧ (∃ u, H f = some (.cN o u)) ∧ (∃ u, H c = some (.cN oc u)) ∧ aG β M H vs ds := by
  cases h with
  | bC m e m2 e2 hl h => exact ⟨rfl, ⟨_, e⟩, ⟨_, e2⟩, hl, h⟩
theorem Hx {Γ : Gz} {vs vcs : List V} {ds bS : List Dv} (m : Mz Γ.toBz Γ.M0 Γ.H0) (rs : aG Γ.toBz Γ.M0 Γ.H0 vs ds) (rc : aG Γ.toBz Γ.M0 Γ.H0 vcs bS) : Zr Γ Γ.toBz Γ.M0 (ds.map some ++ bS.map some) (vs.map some ++ vcs.map some) Γ.H0 :=
  ⟨rfl, rfl, rfl, rfl, fun _ h => h, m.wf, .refl, m, by simp [rs.len, rc.len], fun i d e => by
    rw [← List.map_append, List.getElem?_map, Option.map_eq_some_iff] at e
    obtain ⟨d2, e, e2⟩ := e
    cases e2
    obtain ⟨v, hv, r⟩ := (rs.append rc).get e
    exact ⟨v, by rw [← List.map_append, List.getElem?_map, hv]; rfl, r⟩⟩
theorem L3 {fs : List Str} {qual : Str} {scope : Scope} {params : Arguments} {body : Expr} {c : Addr} {o oc : Obj} {aM : List (Str × Addr)} {vcs : List V} {Sc : List Dv → cQ} (L : w9 params body scope qual o c oc aM fd) (sc : j9 ps fs scope) (C : pK base fs aM vcs) (cW : vcs.length = fs.length)
    (len : ∀ bS ds M Q E, Sc bS ds M Q E → ds.length = ps.length)
    (hb : ∀ (A : Around) (outer : List Env) (s : Shared) (E : XK) (Γ : Gz) (bS ds : List Dv) (Q' : ZK) (E' : ZX), P = Γ.P → w = Γ.w → K = Γ.K → tb = Γ.tb → bG k (A.deeper (PySem.W.envX qual scope s.heap.objs.size f (.ref c) aM)) → Sc bS ds Γ.M0 Q' E' →
      ∃ p, QE Γ (w6 bj P w K mg base (ps ++ fs) qual scope f (.ref c) aM A outer s Γ.H0 E).kB body p ∧ p (ds.map some ++ bS.map some) Γ.M0 (gK Γ.M0 Q')) : FnOk P w K mg base bj (k + 1) f fd ps (Dh P w K tb f o c oc vcs Sc) := by
  refine Hw L sc C cW (fun vs H Q E hS => by obtain ⟨β, ds, bS, M, Q', E', _, _, _, _, m, rs, rc, s, _⟩ := hS; exact rs.len.trans (len _ _ _ _ _ s)) (fun vs H Q E hS => by obtain ⟨β, ds, bS, M, Q', E', _, _, _, _, m, rs, rc, s, _⟩ := hS; obtain ⟨_, h1, h2, _⟩ := jo rc; exact ⟨h1, h2⟩) fun A outer s H vs Q E hr h => ?_
  obtain ⟨β, ds, bS, M, Q', E', eP, ew, eK, et, m, rs, rc, hS, q, _⟩ := h
  obtain ⟨p, hp, hq⟩ := hb A outer s E ⟨β, M, H⟩ bS ds Q' E' eP.symm ew.symm eK.symm et.symm hr hS
  obtain ⟨_, _, _, Di⟩ := jo rc
  exact ⟨_, hp.kB, β, _, M, _, Hx (Γ := ⟨β, M, H⟩) m rs Di, hq, fun d M' v H' x r h => mr m q x r h⟩
end
section
variable {X : Cx} {Γ : Gz} {β : Bz} {CX : fW} {k : Nat} {f : Addr} {fd : FuncData} {ps : List Str} {E : XK} {E' : ZX} {x : Str} {p pos : Pos} {e : Expr} {es : List Expr} {za : eA} {P : Program} {w : World} {tb : da} {K : PySem.W.Frag}
def zCallL (f : Addr) (o : Obj) (c : Addr) (oc : Obj) (vcs : List V) (S : List Dv → cQ) (E' : ZX) (i : Nat) (za : eA) : aI := fun ρ M Q => match ρ[i]? with
  | some (some (.bC f' o' c' Hy Hz bS)) => (f' = f ∧ o' = o ∧ c' = c ∧ Hy = oc ∧ Hz = vcs) ∧ za ρ M fun ds M1 => S bS ds M1 Q E'
  | _ => False
theorem BZ {c : Addr} {o oc : Obj} {vcs : List V} {S : List Dv → cQ} {i : Nat} (F : FnOk X.prog X.w X.K X.mg X.base CX k f fd ps (Dh P w K tb f o c oc vcs S)) (ho : ∃ oc od fd sl, o = ⟨oc, od, .func fd, sl⟩) (hr : bG k X.A) (hN : X.N[i]? = some x) (hv : mD X.env.scope x) (hb : Binds X.K fd ps [])
    (hx : Passes CX X E) (hP : P = Γ.P) (hw : w = Γ.w) (hK : K = Γ.K) (ht : tb = Γ.tb) (hE : XR Γ E' E) (ha : QA Γ X (e :: es) za) (eE : (x == ("__debug__" : Str)) = false := by decide) (dD : (x == ("__classdict__" : Str)) = false := by decide)
    (he : starEach (e :: es) X.env = (false, eval e X.env) :: starEach es X.env := by rfl) (bR : (backTo pos (starEach es X.env)).any (·.1) = false := by rfl) : QE Γ X (.Call (.Name x p) (e :: es) [] pos) (zCallL f o c oc vcs S E' i za) :=
  (BX F ho hr hN hv hb hx ha eE dD he bR).imp fun σ H Q ⟨β, ρ, M, Q', zr, h, q⟩ => by
    subst hP hw hK ht
    unfold zCallL at h
    split at h
    · rename_i f' o' c' Hy Hz bS hi
      obtain ⟨⟨rfl, rfl, rfl, rfl, rfl⟩, h⟩ := h
      obtain ⟨v, hv, r⟩ := zr.at' i _ hi
      obtain ⟨rfl, h1, _, _⟩ := jo r
      refine ⟨hv, h1, β, ρ, M, _, zr, h, fun ds M1 vs H1 x1 r1 h2 => ?_⟩
      have r' := r.ex x1
      obtain ⟨_, h3, _, _⟩ := jo r'
      exact ⟨h3, β, ds, bS, M1, Q', E', zr.eP, zr.ew, zr.eK, zr.et, x1.mz, r1, r', h2, fun d M2 v H2 x2 r2 h2 => q _ _ _ _ (x1.trans x2) r2 h2, fun C M2 H2 x2 h2 => hE C M2 H2 (oz zr.ent zr.sub zr.eP zr.ew zr.eK zr.et (x1.trans x2)) h2⟩
    · exact h.elim
end
theorem Ex.L4 {X : Cx} {P : Addr} {β : Bz} {M : Mh} {H H2 : Hp} {f c : Addr} {o oc : Obj} (m : Mz β M H) (hp : ∀ q ∈ β.tb.l, q.1 = P → q.2 = fG X) (n : Hr X P H H2 f o c oc) : Ex β M H M H2 := by
  obtain ⟨new, at', cd, lm, keep, ⟨ps, hP⟩⟩ := n
  obtain ⟨ps2, NY, _⟩ := id lm
  have nP : ∀ b u, H b = some u → (∀ ps, u ≠ .lam ps) → b ≠ P := fun b u e q z => by rw [z, hP] at e; cases e; exact q _ rfl
  have ey : Ey M H M H2 := ⟨fun b u _ e => by
    by_cases hb : b = P
    · subst hb
      rw [hP] at e; cases e
      exact .inr ⟨_, .inr (.inl ⟨ps, ps2, rfl, rfl⟩), NY⟩
    · exact .inl (keep b u e hb), fun _ h => h, fun _ _ h _ => h⟩
  refine ⟨ey, fun a u e => ?_, fun q hq => ?_, fun a ha => ?_, m.apart, fun q hq => ?_⟩
  · have z := m.obj a u e
    have k : ∀ u, H a = some u → L2.nh u = true → H2 a = some u := fun u h hu => keep a u h (nP a u h (by intro ps z; subst z; cases hu))
    cases u with
    | lst ds => obtain ⟨vs, z, l, r⟩ := z; exact ⟨vs, k _ z rfl, l, fun i v d a b => (r i v d a b).ey ey⟩
    | dk ks ds => obtain ⟨vs, z, hk, l, r⟩ := z; exact ⟨vs, k _ z rfl, hk, l, fun i v d a b => (r i v d a b).ey ey⟩
    | dt ks ds => obtain ⟨vs, z, hk, l, r⟩ := z; exact ⟨vs, k _ z rfl, hk, l, fun i v d a b => (r i v d a b).ey ey⟩
    | ck => obtain ⟨c, n, z, r⟩ := z; exact ⟨c, n, k _ z rfl, r⟩
  · obtain ⟨ps, e, t⟩ := m.tabs q hq
    exact ⟨ps, keep _ _ e (nP _ _ e (by intro ps z; cases z)), t⟩
  · obtain ⟨u, e, n⟩ := m.hids a ha
    exact ⟨u, keep _ _ e (nP _ _ e (by intro ps z; subst z; cases n)), n⟩
  · by_cases hb : q.1 = P
    · have : q = (P, fG X) := Prod.ext hb (hp q hq hb)
      rw [this]; exact lm
    · exact (m.lams q hq).keep (fun _ e => keep _ _ e hb) fun c' _ _ e => keep _ _ e (nP _ _ e (by intro ps z; cases z))
section
variable {X : Cx} {Γ : Gz} {β : Bz} {CX : fW} {k : Nat} {f : Addr} {fd : FuncData} {ps : List Str} {E : XK} {E' : ZX} {x : Str} {p pos lx : Pos} {e1 e2 : Expr} {rest : List Expr} {z1 z2 : aI} {zr : eA} {P : Program} {w : World} {tb : da} {K : PySem.W.Frag}
def oJ : List Nat → aA → Option (List Dv)
  | [], _ => some []
  | i :: is, ρ => match ρ[i]?, oJ is ρ with | some (some d), some ds => some (d :: ds) | _, _ => none
theorem vE {Γ : Gz} {M : Mh} {ρ : aA} {σ : St} {H : Hp} (z : Zr Γ β M ρ σ H) : ∀ {idx : List Nat} {bS : List Dv}, oJ idx ρ = some bS → ∃ vcs, aG β M H vcs bS ∧ vcs.length = idx.length ∧ ∀ (j i : Nat) (v : V), idx[j]? = some i → vcs[j]? = some v → σ[i]? = some (some v)
  | [], bS, h => by cases h; exact ⟨[], .nil, rfl, fun j i v h => by simp at h⟩
  | i :: is, bS, h => by
    unfold oJ at h
    split at h
    · rename_i d ds h1 h2
      cases h
      obtain ⟨v, hv, r⟩ := z.at' i d h1
      obtain ⟨vcs, rs, l, q⟩ := vE z h2
      refine ⟨v :: vcs, .cons r rs, by simp [l], fun j i' u a b => ?_⟩
      cases j with
      | zero => simp at a b; subst a b; exact hv
      | succ j => exact q j i' u (by simpa using a) (by simpa using b)
    · cases h
def t9 (X : Cx) (params : Arguments) (body : Expr) (scope : Scope) (idx : List Nat) (fs : List Str) (S : Heap → cQ) (dd : List Dv) (E' : ZX) (z1 z2 : aI) (zr : eA) : aI := fun ρ M Q => z1 ρ M fun d1 M1 => z2 ρ M1 fun d2 M2 => match oJ idx ρ with
  | some bS => ∀ f o c oc aM vcs, vcs.length = idx.length → Hq X params body scope o c oc aM → zr ρ M2 fun es M3 => ∀ b', (∀ b o, X.base.get? b = some o → b'.get? b = some o) → pK b' fs aM vcs → S b' (d1 :: d2 :: .bC f o c oc vcs bS :: es ++ dd) M3 Q E'
  | none => False
theorem xa {params : Arguments} {body : Expr} {scope : Scope} {idx : List Nat} {fs : List Str} {S : Heap → cQ} {fk : List V} {dd : List Dv} {ds : List Value} {PT cX : Addr} (fw : X.env.code = .ref cX) (dD : PySem.W.CodeHd X.base cX PT) (fm : ∃ bm ob, BMod X.base mainGlobals X.mg bm ob) (BV : defaultsOf params X.env = ([], []))
    (lW : ∀ n, (n, NameKind.free) ∈ scope.names → X.env.kindOf n = some .cell ∨ X.env.kindOf n = some .free) (NZ : ∀ (j : Nat) (n : Str), fs[j]? = some n → (n, NameKind.free) ∈ scope.names ∧ X.env.scope.names.lookup n = some .cell ∧ ∃ i, idx[j]? = some i ∧ X.N[i]? = some n)
    (qo : (PT, fG X) ∈ Γ.tb.l) (HA : ∀ q ∈ Γ.tb.l, q.1 = PT → q.2 = fG X)
    (F : ∀ b', (∀ b o, X.base.get? b = some o → b'.get? b = some o) → FnOk X.prog X.w X.K X.mg b' CX k f fd ps (bp P w K tb (S b'))) (hr : bG k X.A) (nH : ∀ x, X.fn x = true) (hg : Gl X x) (hm : X.mg x = some (.ref f)) (hk : PySem.W.keepIn X.K (.ref f) = true) (hb : Binds X.K fd ps ds) (hd : Vals fk ds) (N0 : ∀ β M H, aG β M H fk dd)
    (hx : Passes CX X E) (hP : P = Γ.P) (hw : w = Γ.w) (hK : K = Γ.K) (ht : tb = Γ.tb) (hE : XR Γ E' E) (h1 : QE Γ X e1 z1) (h2 : QE Γ X e2 z2) (h3 : QA Γ X rest zr) (eE : (x == ("__debug__" : Str)) = false := by decide)
    (s1 : starEach (e1 :: e2 :: .Lambda params body scope lx :: rest) X.env = (false, eval e1 X.env) :: starEach (e2 :: .Lambda params body scope lx :: rest) X.env := by rfl)
    (s2 : starEach (e2 :: .Lambda params body scope lx :: rest) X.env = (false, eval e2 X.env) :: starEach (.Lambda params body scope lx :: rest) X.env := by rfl)
    (s3 : starEach (.Lambda params body scope lx :: rest) X.env = (false, eval (.Lambda params body scope lx) X.env) :: starEach rest X.env := by rfl)
    (bR : (backTo pos (starEach (e2 :: .Lambda params body scope lx :: rest) X.env)).any (·.1) = false := by rfl) :
    QE Γ X (.Call (.Name x p) (e1 :: e2 :: .Lambda params body scope lx :: rest) [] pos) (t9 X params body scope idx fs S dd E' z1 z2 zr) :=
  (BW F hr nH hg hm hk hb hd hx (lY h1 (lY h2 (lY (Ht fw dD fm BV lW) h3 s3) s2) s1) eE s1 bR).imp fun σ H Q ⟨β, ρ, M, Q', i5, h, q⟩ => by
    subst hP hw hK ht
    refine ⟨β, ρ, M, _, i5, h, fun d1 M1 v1 H1 x1 r1 h1 => ⟨β, ρ, M1, _, i5.step x1, h1, fun d2 M2 v2 H2 x2 r2 h2 => ?_⟩⟩
    have C6 := (i5.step x1).step x2
    have L5 : (PT, fG X) ∈ β.tb.l := by rw [i5.et]; exact qo
    have L6 : ∀ q ∈ β.tb.l, q.1 = PT → q.2 = fG X := by rw [i5.et]; exact HA
    refine ⟨x2.mz.lams _ L5, fun lf o c oc aM H3 hO hN => ?_⟩
    split at h2
    · rename_i bS Jy
      obtain ⟨vcs, Di, lcs, at'⟩ := vE C6 Jy
      have x3 := Ex.L4 x2.mz L6 hN
      have G8 := C6.step x3
      refine ⟨β, ρ, M2, _, G8, h2 lf o c oc aM vcs lcs hO, fun es M4 ws H4 x4 r4 h4 => ?_⟩
      intro b' B
      obtain ⟨u1, a1⟩ := hN.at'
      obtain ⟨u2, a2⟩ := hN.cd
      have KG := x3.mz
      have N1 : Fz β M2 lf := x2.mz.fz hN.new
      have L7 : ∀ a o u, H3 a = some (.cN o u) → a ∉ β.hid := fun a o u e z => by
        obtain ⟨w, e', n⟩ := KG.hids a z
        rw [e] at e'; cases e'; cases n
      have L8 : Rz β M2 H3 (.ref lf) (.bC lf o c oc vcs bS) := .bC N1 a1 ⟨KG.jG a2 rfl, L7 _ _ _ a2⟩ a2 Di.len fun i v d a b => (Di.at' i v d a b).ex x3
      have L9 : pK b' fs aM vcs := by
        refine ⟨fun n m a e e' => B.inj n m a (hO.cells n a e) (hO.cells m a e'), fun n a e => B.cells n a (hO.cells n a e), fun j n v hj hv => ?_⟩
        obtain ⟨fr, kc, i, hi, hn⟩ := NZ j n hj
        obtain ⟨a, u, e1, e2, e3⟩ := B.cell i n v hn (at' j i v hi hv) kc
        obtain ⟨a', e'⟩ := hO.has n fr
        have := (hO.cells n a' e').symm.trans e1
        cases this
        exact ⟨a, u, e', e2, e3⟩
      have kq := x2.trans (x3.trans x4)
      have N3 := x3.trans x4
      refine ⟨β, _, M4, Q', E', i5.eP, i5.ew, i5.eK, i5.et, x4.mz, ?_, h4 b' B.ext L9, fun d M5 v H5 x5 r5 h5 => q _ _ _ _ (x1.trans (kq.trans x5)) r5 h5, fun C M5 H5 x5 h5 => hE C M5 H5 (oz i5.ent i5.sub i5.eP i5.ew i5.eK i5.et (x1.trans (kq.trans x5))) h5⟩
      have rs : aG β M4 H4 (v1 :: v2 :: .ref lf :: ws ++ fk) (d1 :: d2 :: .bC lf o c oc vcs bS :: es ++ dd) := .cons (r1.ex kq) (.cons (r2.ex N3) (.cons (L8.ex x4) (r4.append (N0 _ _ _))))
      exact rs
    · exact h2.elim
end
end L2
namespace L2
open PySem PySem.Spec PyProof.Rows
theorem zL {P : Program} {w : World} {K : PySem.W.Frag} {mg mb : Str → Option Value} {CX : fW} {k : Nat} {fa a : Addr} {fd : FuncData} {x : Str} {sp : Sp} {az : Shared} {vs : List Value} {ns : List Int} {tabs lts : List Addr}
    (KX : K.In az.heap) (fL : az.heap.Ns mainGlobals mg) (hb : az.heap.Ns builtinsNs mb) (N4 : ∀ x : Str, x ≠ "__name__" → mb x = bootBuiltins x) (HB : az.heap.NoLimit) (hg : az.gens = #[])
    (ha : az.heap.get? a = some { cls := .type "list", data := .seq vs.toArray }) (hi : IntsAre vs ns) (hl : ns.length ≤ sizeLine) (hr : bG k callerA)
    (iP : ∀ p ∈ tabs ++ lts, az.heap.get? p = some (PySem.W.tabObj #[]) ∧ isCodeTable az.heap p) (Ma : ∀ p ∈ tabs, p ∉ lts) (zM : PySem.W.kb_classed K = true) (fm : ∃ bm ob, BMod az.heap mainGlobals mg bm ob)
    (F : ∀ base : Heap, K.In base → base.Ns mainGlobals mg → (∃ bm ob, BMod base mainGlobals mg bm ob) → (∀ c p, PySem.W.CodeHd az.heap c p → PySem.W.CodeHd base c p) → FnOk P w K mg base CX k fa fd [x] sp)
    (Jz : ∀ (s : Shared) (u : Value), BindsTo s fd ⟨[u], []⟩ [(x, u)])
    (jg : ∀ H : Hp, (∀ p ∈ tabs, Tb p H) → (∀ p ∈ lts, H p = some (.lam #[])) → bE K H a (ns.map V.int) → sp [.ref a] H (fun v H' => v = .bl true ∧ ∀ p ∈ lts, ∃ ps, H' p = some (.lam ps)) fun _ _ _ => False)
    (HC : ∀ H e s', CX [] H az (fun _ _ _ => False) e s' → False) :
    codeAny (model P w) callerA (.call (.ref fa) ⟨[.ref a], []⟩) (fun r s' => r = .ok (.ret (.bool true)) ∧ OldK az.heap s'.heap ∧ s'.os = az.os ∧ AllBare s'.gens) az := by
  have rv := qg hi
  have Mb := hi.length
  have sJ : a ∉ tabs ++ lts := fun z => by
    have e := (iP a z).1
    rw [ha] at e
    cases e
  have core : ∀ H : Hp, (∀ b u, H b = some u → (b = a ∧ ∃ o xs, u = .cN o (.lst xs)) ∨ (b ∈ tabs ++ lts ∧ (u = .cD #[] ∧ b ∈ tabs ∨ u = .lam #[] ∧ b ∈ lts))) → (∀ p ∈ tabs, H p = some (.cD #[])) → (∀ p ∈ lts, H p = some (.lam #[])) → bE K H a (ns.map V.int) → cj P w H az.heap → (H a ≠ none → K.lookup a = none) →
      codeAny (model P w) callerA (.call (.ref fa) ⟨[.ref a], []⟩) (fun r s' => r = .ok (.ret (.bool true)) ∧ OldK az.heap s'.heap ∧ s'.os = az.os ∧ AllBare s'.gens) az := by
    intro H hO N5 N6 hS hok hK
    have mw : ∀ {b : Addr} {o : Obj}, az.heap.get? b = some o → H b = none → (iK az.heap H).get? b = some o := fun e n => AG e n
    have no : ∀ {b : Addr} {o : Obj}, az.heap.get? b = some o → (∀ n, o.data ≠ .seq vs.toArray n) → o ≠ PySem.W.tabObj #[] → H b = none := fun {b o} e d1 d2 => by
      cases q : H b with
      | none => rfl
      | some u =>
        rcases hO b u q with ⟨e', _⟩ | ⟨gF, _⟩
        · subst e'
          rw [ha] at e; cases e
          exact absurd rfl (d1 _)
        · rw [(iP b gF).1] at e
          exact absurd (Option.some.inj e).symm d2
    have N7 : ∀ {b : Addr} {o : Obj} {es : Array DictEntry} {ep : Nat}, az.heap.get? b = some o → o.data = .dict es ep → H b = none := fun {b o es ep} e d => no e (fun n z => by rw [d] at z; cases z) fun z => by rw [z] at d; cases d
    have zN : ∀ {b : Addr} {m : Str → Option Value}, az.heap.Ns b m → (iK az.heap H).Ns b m := fun {b m} hS => by obtain ⟨o, es, ep, e, d, r⟩ := hS; exact ⟨o, es, ep, mw e (N7 e d), d, r⟩
    have KH : K.In (iK az.heap H) := fun b o e => mw (KX b o e) (by
      cases q : H b with
      | none => rfl
      | some u =>
        rcases hO b u q with ⟨e', _⟩ | ⟨gF, _⟩
        · subst e'
          rw [hK (by rw [q]; simp)] at e; cases e
        · have e1 := KX b o e
          have e2 := (iP b gF).1
          rw [e1] at e2
          have e3 : o = PySem.W.tabObj #[] := Option.some.inj e2
          have q2 := List.all_eq_true.mp zM (b, o) (PySem.W.kb_mem e)
          simp only [Bool.or_eq_true, decide_eq_true_eq, beq_iff_eq] at q2
          rcases q2 with (q2 | q2) | q2
          · rw [e3] at q2; exact absurd rfl q2
          · obtain ⟨mc, ⟨oc, es, ep, ho, hd, _⟩, _⟩ := HB
            rw [← q2, e1] at ho
            cases ho
            rw [e3] at hd; cases hd
          · obtain ⟨oc, es, ep, ho, hd, _⟩ := id fL
            rw [← q2, e1] at ho
            cases ho
            rw [e3] at hd; cases hd)
    have hM : Mod K mg (iK az.heap H) := ⟨KH, zN fL, ⟨mb, zN hb, N4⟩, let ⟨mc, h1, h2⟩ := HB; ⟨mc, zN h1, h2⟩⟩
    have hB : ∃ bm ob, BMod (iK az.heap H) mainGlobals mg bm ob := by
      obtain ⟨bm, ob, B⟩ := fm
      exact ⟨bm, ob, zN B.ns, B.name, B.ne, mw B.obj (no B.obj (fun n z => by rw [B.data] at z; cases z) fun z => by have := B.data; rw [z] at this; cases this), B.cls, B.dict, B.data⟩
    have hC : ∀ c p, PySem.W.CodeHd az.heap c p → PySem.W.CodeHd (iK az.heap H) c p := fun c p ⟨o, y6, file, tf, flags, tg, N8, text, tt, e1, e2, e3, r⟩ =>
      ⟨o, y6, file, tf, flags, tg, N8, text, tt, mw e1 (no e1 (fun n z => by rw [e3] at z; cases z) fun z => by rw [z] at e2; cases e2), e2, e3, r⟩
    have e0 : o6 P w K mg (iK az.heap H) callerA [] az H := ⟨rfl, hM, fun b o e => DG e, Nat.le_of_eq (xF _ _), trivial, fun b hb => absurd (show b ∈ ([] : List Addr) from hb) (by simp), hok, .of_eq hg⟩
    refine codeAny_mono ((F _ KH (zN fL) hB hC).run callerA [] az H ⟨[.ref a], []⟩ [.ref a] [.ref a] _ _ hr e0 (Jz az (.ref a)) (.cons rfl .nil) (jg H (fun p hp => ⟨#[], N5 p hp, trivial⟩) N6 hS)) fun r s' h => ?_
    cases r with
    | error e => exact (HC H e s' h).elim
    | ok fl =>
      cases fl with
      | next => exact False.elim h
      | brk => exact False.elim h
      | cont => exact False.elim h
      | ret u =>
        obtain ⟨v, H', os, bare, un, B1, r', q⟩ := h
        obtain ⟨q', qL⟩ := q
        subst q'
        obtain rfl : u = Value.bool true := r'
        have all : ∀ b o, az.heap.get? b = some o → asItWas az.heap s'.heap b o ∧ ∃ o', s'.heap.get? b = some o' := fun b o e => by
          cases q : H b with
          | none =>
            have := un.keep b o e q (by intro z; exact absurd (show b ∈ ([] : List Addr) from z) (by simp)) (by simp)
            exact ⟨.inl this, _, this⟩
          | some u =>
            rcases hO b u q with ⟨_, ob, xs, z⟩ | ⟨gF, z⟩
            · subst z
              have z2 := un.frzs b ob _ q
              obtain ⟨e1, _⟩ := hok b _ q
              obtain ⟨e2, _⟩ := B1 b _ z2
              rw [e] at e1; cases e1
              exact ⟨.inl e2, _, e2⟩
            · have e2 : ∃ more, s'.heap.get? b = some { cls := .none, data := .fields (#[] ++ more) } := by
                rcases z with ⟨z, _⟩ | ⟨z, CI⟩
                · subst z
                  obtain ⟨more, z2⟩ := un.tbls b #[] q
                  exact ⟨more, B1 b _ z2⟩
                · obtain ⟨ps, z2⟩ := qL b CI
                  refine ⟨ps, ?_⟩
                  have := B1 b _ z2
                  rw [show (#[] : Array Value) ++ ps = ps by simp]
                  exact this
              obtain ⟨more, e2⟩ := e2
              have e1 := (iP b gF).1
              rw [e] at e1
              obtain rfl : o = PySem.W.tabObj #[] := Option.some.inj e1
              exact ⟨.inr (.inl ⟨(iP b gF).2, rfl, #[], more, rfl, e2⟩), _, e2⟩
        exact ⟨rfl, ⟨fun b o e => (all b o e).1, fun b o e => (all b o e).2⟩, os, bare.1⟩
  have HD : ∀ p ∈ tabs ++ lts, ∀ H : Hp, ∀ u, (u = .cD #[] ∧ p ∈ tabs ∨ u = .lam #[] ∧ p ∈ lts) → ObjOk P w H az.heap p u := fun p hp H u hu => by
    rcases hu with ⟨rfl, _⟩ | ⟨rfl, _⟩ <;> exact (iP p hp).1
  let T : Hp := fun b => if b ∈ lts then some (.lam #[]) else if b ∈ tabs then some (.cD #[]) else none
  have T1 : ∀ b u, T b = some u → b ∈ tabs ++ lts ∧ (u = .cD #[] ∧ b ∈ tabs ∨ u = .lam #[] ∧ b ∈ lts) := fun b u z => by
    by_cases h1 : b ∈ lts
    · have z' := (show T b = _ from if_pos h1).symm.trans z
      cases z'
      exact ⟨List.mem_append_right _ h1, .inr ⟨rfl, h1⟩⟩
    · by_cases h2 : b ∈ tabs
      · have z' := (show T b = _ from (if_neg h1).trans (if_pos h2)).symm.trans z
        cases z'
        exact ⟨List.mem_append_left _ h2, .inl ⟨rfl, h2⟩⟩
      · have z' := (show T b = _ from (if_neg h1).trans (if_neg h2)).symm.trans z
        cases z'
  have T2 : ∀ p ∈ tabs, T p = some (.cD #[]) := fun p hp => (if_neg (Ma p hp)).trans (if_pos hp)
  have T3 : ∀ p ∈ lts, T p = some (.lam #[]) := fun p hp => if_pos hp
  have Ta : T a = none := (if_neg fun z => sJ (List.mem_append_right _ z)).trans (if_neg fun z => sJ (List.mem_append_left _ z))
  cases hk : K.lookup a with
  | some o =>
    have e := KX a o hk
    rw [ha] at e
    cases e
    exact core T (fun b u z => .inr (T1 b u z)) T2 T3 (.inr ⟨_, vs.toArray, _, hk, rfl, rfl, rfl, by rw [List.size_toArray, Mb]; exact hl, by simpa using rv⟩) (fun b u z => HD b (T1 b u z).1 _ u (T1 b u z).2) fun z => absurd Ta z
  | none =>
    have na : ∀ p ∈ tabs ++ lts, p ≠ a := fun p hp z => sJ (z ▸ hp)
    refine core (upd T a (.cN { cls := .type "list", data := .seq vs.toArray } (.lst (ns.map V.int)))) (fun b u z => ?_) (fun p hp => by rw [af (na p (List.mem_append_left _ hp))]; exact T2 p hp) (fun p hp => by rw [af (na p (List.mem_append_right _ hp))]; exact T3 p hp) (.inl (.inr ⟨_, aD⟩)) (fun b u z => ?_) fun _ => hk
    · by_cases hb : b = a
      · subst hb
        rw [aD] at z
        cases z
        exact .inl ⟨rfl, _, _, rfl⟩
      · rw [af hb] at z
        exact .inr (T1 b u z)
    · by_cases hb : b = a
      · subst hb
        rw [aD] at z
        cases z
        exact ⟨ha, by rw [List.length_map]; exact hl, vs, _, rv, ha⟩
      · rw [af hb] at z
        exact HD b (T1 b u z).1 _ u (T1 b u z).2
def rU (K : PySem.W.Frag) (x : Str) : Option Addr := match PySem.W.nsIn K mainGlobals x with
  | some (some (.ref f)) => (match K.lookup f with
    | some ⟨_, _, .func fd, _⟩ => (match fd.code with
      | .ref c => (match K.lookup c with
        | some ⟨_, _, .fields vs, _⟩ => (match vs[11]? with | some (Value.ref p) => some p | _ => none)
        | _ => none)
      | _ => none)
    | _ => none)
  | _ => none
abbrev TabOf (mg : Str → Option Value) (h : Heap) (y : Str) (p : Addr) : Prop := ∃ f o fd c, mg y = some (.ref f) ∧ h.get? f = some o ∧ o.data = .func fd ∧ fd.code = .ref c ∧ PySem.W.CodeHd h c p
theorem ua {K : PySem.W.Frag} {mg : Str → Option Value} {h : Heap} {y : Str} {p q : Addr} (X : K.In h) (G : h.Ns mainGlobals mg) (t : TabOf mg h y p) (e : rU K y = some q) : p = q := by
  obtain ⟨f, o, fd, c, e1, e2, e3, e4, oc, vs, _, _, _, _, _, _, _, g1, _, g3, g4, _⟩ := t
  unfold rU at e
  split at e
  · rename_i f' fL
    have := (PySem.W.mg_of X G fL).symm.trans e1
    cases this
    split at e
    · rename_i Hy Pj CH JS HE
      have := (X _ _ HE).symm.trans e2
      cases this
      cases e3
      rw [e4] at e
      dsimp only at e
      split at e
      · rename_i a1 a2 y6 a3 N9
        have := (X _ _ N9).symm.trans g1
        cases this
        cases g3
        rw [g4] at e
        cases e
        rfl
      · cases e
    · cases e
  · cases e
def pL (K : PySem.W.Frag) (gs ls : List Str) : Bool := gs.all fun x => ls.all fun y => match rU K x, rU K y with | some p, some q => decide (p ≠ q) | _, _ => false
theorem vF {α β : Type} {F : α → β → Prop} {l : List α} {m : List β} (h : Paired F l m) {b : β} (hb : b ∈ m) : ∃ a ∈ l, F a b := by
  induction h with
  | nil => simp at hb
  | cons x t ih =>
    rcases List.mem_cons.mp hb with e | e
    · subst e; exact ⟨_, List.mem_cons_self, x⟩
    · obtain ⟨a, ha, q⟩ := ih e
      exact ⟨a, List.mem_cons_of_mem _ ha, q⟩
theorem B2 {K : PySem.W.Frag} {mg : Str → Option Value} {h : Heap} {gs ls : List Str} {tabs lts : List Addr} (X : K.In h) (G : h.Ns mainGlobals mg) (d : pL K gs ls = true) (t1 : Paired (TabOf mg h) gs tabs) (t2 : Paired (TabOf mg h) ls lts) : ∀ p ∈ tabs, p ∉ lts := fun p hp hq => by
  obtain ⟨x, hx, tx⟩ := vF t1 hp
  obtain ⟨y, hy, ty⟩ := vF t2 hq
  have := List.all_eq_true.mp (List.all_eq_true.mp d x hx) y hy
  split at this
  · rename_i p' q' e1 e2
    have a := ua X G tx e1
    have b := ua X G ty e2
    exact (of_decide_eq_true this) (a.symm.trans b)
  · cases this
theorem B3 {l : PySem.W.OpenLaw} {n k : Nat} {q : Program} {loose : List Str} {XP : (Str → Option Value) → Heap → Prop} {YP : World → Heap → Prop} {d : DefRec} {K : Params → PySem.W.Frag} {CX : fW} {sp : PySem.W.Frag → List Addr → List Addr → Sp} {x : Str} {nms zO : List Str}
    (hn : l.most = some n) (Oa : n ≤ sizeLine) (yi : d.params.defaults = []) (hr : bG k callerA) (zM : ∀ w : World, PySem.W.kb_classed (K w.params) = true)
    (Dj : ∀ y ∈ nms ++ zO, ∃ r ∈ recsOf q, r.name = y) (mK : ∀ w : World, pL (K w.params) nms zO = true)
    (hY : ∀ (w : World) (h : Heap), YP w h → (K w.params).In h)
    (F : ∀ (w : World) (mg : Str → Option Value) (fa : Addr) (h : Heap) (tabs lts : List Addr), (K w.params).In h → h.Ns mainGlobals mg → mg d.name = some (.ref fa) →
      Paired (TabOf mg h) nms tabs → Paired (TabOf mg h) zO lts →
      ∃ fd : FuncData, (∀ (s : Shared) (u : Value), BindsTo s fd ⟨[u], []⟩ [(x, u)]) ∧
        ∀ base : Heap, (K w.params).In base → base.Ns mainGlobals mg → (∃ bm ob, BMod base mainGlobals mg bm ob) → (∀ c p, PySem.W.CodeHd h c p → PySem.W.CodeHd base c p) → FnOk l.prog w (K w.params) mg base CX k fa fd [x] (sp (K w.params) tabs lts))
    (jg : ∀ (K : PySem.W.Frag) (tabs lts : List Addr) (H : Hp) (a : Addr) (ns : List Int), lts.length = zO.length → ns.length ≤ n → (∀ p ∈ tabs, Tb p H) → (∀ p ∈ lts, H p = some (.lam #[])) → bE K H a (ns.map V.int) → sp K tabs lts [.ref a] H (fun v H' => v = .bl true ∧ ∀ p ∈ lts, ∃ ps, H' p = some (.lam ps)) fun _ _ _ => False)
    (HC : ∀ (H : Hp) (s : Shared) (e : Value) (s' : Shared), CX [] H s (fun _ _ _ => False) e s' → False) :
    PySem.W.WalkO q loose XP YP l.row.toRowW d [] (fun f vs => PySem.call f vs) := by
  refine J1.uF hn yi fun w s₀ az mg mb fa o pm cd doc a vs ns G Y ho hd dD yj Ba hints hlen hg => ?_
  have KX := hY w _ Y
  have tb : ∀ nms : List Str, (∀ y ∈ nms, ∃ r ∈ recsOf q, r.name = y) → ∃ tabs, Paired (TabOf mg az.heap) nms tabs ∧ ∀ p ∈ tabs, az.heap.get? p = some (PySem.W.tabObj #[]) ∧ isCodeTable az.heap p := by
    intro nms
    induction nms with
    | nil => intro _; exact ⟨[], .nil, fun p hp => absurd hp (by simp)⟩
    | cons y r ih =>
      intro hm
      obtain ⟨tabs, h1, h2⟩ := ih fun z hz => hm z (List.mem_cons_of_mem _ hz)
      obtain ⟨rr, Ob, e⟩ := hm y List.mem_cons_self
      obtain ⟨f, o', fd, c, p, a1, a2, a3, a4, a5, a6⟩ := G.T.tab rr Ob
      rw [e] at a1
      refine ⟨p :: tabs, .cons ⟨f, o', fd, c, a1, a2, a3, a4, .of a5 a6⟩ h1, fun z hz => ?_⟩
      rcases List.mem_cons.mp hz with rfl | hz
      · exact ⟨a6.2, a6.isCodeTable⟩
      · exact h2 z hz
  obtain ⟨tabs, t1, t2⟩ := tb nms fun y hy => Dj y (List.mem_append_left _ hy)
  obtain ⟨lts, u1, u2⟩ := tb zO fun y hy => Dj y (List.mem_append_right _ hy)
  obtain ⟨fd, hb, hF⟩ := F w mg fa _ tabs lts KX G.T.g yj t1 u1
  exact zL (lts := lts) KX G.T.g G.T.b G.T.builtins G.T.nolimit hg Ba hints (Nat.le_trans hlen Oa) hr (fun p hp => (List.mem_append.mp hp).elim (t2 p) (u2 p)) (B2 KX G.T.g (mK w) t1 u1) (zM w) (PySem.W.bmod_of_top G.T) hF hb (fun H hO hL hS => jg _ tabs lts H a ns (Paired.length u1).symm hlen hO hL hS) fun H e s' => HC H az e s'
abbrev ly (K : PySem.W.Frag) (x : Str) (st : Stmt) (dv : Value) : Prop :=
  ∃ (f : Addr) (oc : Value) (od : Option Addr) (sl : Array (Option Value)) (T : Addr) (oT : Obj) (nT : Nat) (kV dc pm : Value) (an : Option Addr) (cd ct : Value),
    PySem.W.nsIn K mainGlobals x = some (some (.ref f)) ∧ K.lookup f = some ⟨oc, od, .func (PySem.W.fnOf x x (cJ st) (bu st) (ai st) (.ref T) kV dc pm an cd ct), sl⟩ ∧ PySem.W.codeIn K cd x = true ∧ PySem.W.keepIn K (.ref f) = true ∧ K.lookup T = some oT ∧ oT.data = .seq #[dv] nT
theorem zP {K : PySem.W.Frag} {x : Str} {st : Stmt} {dv : Value} {f : Addr} {oc : Value} {od : Option Addr} {sl : Array (Option Value)} {T : Addr} {oT : Obj} {nT : Nat} {kV dc pm : Value} {an : Option Addr} {cd ct : Value} (a : PySem.W.nsIn K mainGlobals x = some (some (.ref f)))
    (l : K.lookup f = some ⟨oc, od, .func (PySem.W.fnOf x x (cJ st) (bu st) (ai st) (.ref T) kV dc pm an cd ct), sl⟩) (c : PySem.W.codeIn K cd x = true) (k : PySem.W.keepIn K (.ref f) = true) (t : K.lookup T = some oT) (u : oT.data = .seq #[dv] nT) : ly K x st dv := ⟨f, oc, od, sl, T, oT, nT, kV, dc, pm, an, cd, ct, a, l, c, k, t, u⟩
theorem ly.df {K : PySem.W.Frag} {mg : Str → Option Value} {h : Heap} {x : Str} {st : Stmt} {dv : Value} (d : ly K x st dv) (X : K.In h) (G : h.Ns mainGlobals mg) (ps : List Str)
    (hb : ∀ (T : Addr) (kV doc pm : Value) (an : Option Addr) (cq ct : Value) (us : List Value), us.length + 1 = ps.length → ∃ k, bindArgs (PySem.W.fnOf x x (cJ st) (bu st) (ai st) (.ref T) kV doc pm an cq ct) ⟨us, []⟩ = seqItems? (.ref T) >>= k ∧ k (some #[dv]) = pure (ps.zip (us ++ [dv])))
    (CJ : ∀ (T : Addr) (kV doc pm : Value) (an : Option Addr) (cq ct : Value) (us : List Value), us.length = ps.length → ∃ k, bindArgs (PySem.W.fnOf x x (cJ st) (bu st) (ai st) (.ref T) kV doc pm an cq ct) ⟨us, []⟩ = seqItems? (.ref T) >>= k ∧ k (some #[dv]) = pure (ps.zip us)) :
    ∃ f fd, Dg K mg x st ps [dv] f fd := by
  obtain ⟨f, oc, od, sl, T, oT, nT, kV, dc, pm, an, cd, ct, a, l, c, k, t, u⟩ := d
  refine ⟨f, _, ⟨oc, od, .ref T, kV, dc, pm, an, cd, ct, sl, rfl, l, c⟩, k, fun s us hK hl => ?_, fun s us hK hl => ?_, PySem.W.mg_of X G a⟩
  · obtain ⟨kk, h1, h2⟩ := hb T kV dc pm an cd ct us (by rw [List.length_append] at hl; exact hl)
    exact PySem.W.binds_K hK rfl t u h1 h2
  · rw [List.append_nil] at hl ⊢
    obtain ⟨kk, h1, h2⟩ := CJ T kV dc pm an cd ct us hl
    exact PySem.W.binds_K hK rfl t u h1 h2
theorem B4 {K : PySem.W.Frag} {tabs lts : List Addr} {qs : List Str} {H : Hp} {a : Addr} {ns : List Int} (hl : lts.length = qs.length) (hn : ns.length ≤ 63) (hT : ∀ p ∈ tabs, Tb p H) (hL : ∀ p ∈ lts, H p = some (.lam #[])) (hS : bE K H a (ns.map V.int)) :
    spLaw K ⟨tabs, lts.zip qs⟩ [.ref a] H (fun v H' => v = .bl true ∧ ∀ p ∈ lts, ∃ ps, H' p = some (.lam ps)) fun _ _ _ => False :=
  ⟨a, ns, rfl, hS, hn, hT, fun p hp => ⟨#[], hL p.1 (List.of_mem_zip hp).1, trivial, fun pos cv e => nomatch e⟩, fun H' h => ⟨rfl, fun p hp => by
    obtain ⟨i, hi⟩ := List.mem_iff_getElem?.mp hp
    have h1 := (List.getElem?_eq_some_iff.mp hi).1
    exact h (p, qs[i]) (List.mem_of_getElem? (i := i) (List.getElem?_zip_eq_some.mpr ⟨hi, List.getElem?_eq_getElem (by omega)⟩))⟩⟩
theorem zQ {K : PySem.W.Frag} {x : Str} {st : Stmt} {i : Int} {tk : Tok} {f : Addr} {oc : Value} {od : Option Addr} {sl : Array (Option Value)} {T : Addr} {oT : Obj} {nT : Nat} {kV dc pm : Value} {an : Option Addr} {cd ct : Value} (a : PySem.W.nsIn K mainGlobals x = some (some (.ref f)))
    (l : K.lookup f = some ⟨oc, od, .func (PySem.W.fnOf x x (cJ st) (bu st) (ai st) (.ref T) kV dc pm an cd ct), sl⟩) (c : PySem.W.codeIn K cd x = true) (k : PySem.W.keepIn K (.ref f) = true) (t : K.lookup T = some oT) (u : oT.data = .seq #[.int i tk] nT) : ∃ tk, ly K x st (.int i tk) := ⟨tk, zP a l c k t u⟩
structure h8 (h : Heap) (d : Addr) (es : Array DictEntry) (ep : Nat) : Prop where
  ex : ∃ o, h.get? d = some o ∧ o.cls = .type "dict" ∧ o.data = .dict es ep
abbrev qX (d : Addr) (i n ep : Nat) : Obj := { cls := .type "dict_keyiterator", dict := none, data := .fields #[.ref d, .int i 0, .int n 0, .int ep 0], slots := #[] }
theorem zR (d : Addr) : ¬ ((Value.ref d == Value.none) = true) := fun z => nomatch (show false = true from z)
section
variable {prog : Program} {w : World} {A : Around} {E : Value → Shared → Prop} {s : Shared} {d it : Addr} {es : Array DictEntry} {ep i : Nat}
theorem zS {Q : Value → Shared → Prop} (lo : (d == sysModules) = false) (r : h8 s.heap d es ep) (q : Q (.ref s.heap.objs.size) { s with heap := s.heap.push (qX d 0 es.size ep) }) :
    wpAny (model prog w) A (pyIter (.ref d)) Q E s := by
  obtain ⟨o, g, c, dt⟩ := r
  have ty : s.TypeIs (.ref d) "dict" := ⟨o, g, c⟩
  refine wpAny_pyIter_slot ty PySem.F.slot_dict_iter (wpAny_call_entry PySem.F.slot_dict_iter ty PySem.F.entry_dict_iter ?_ (PySem.F.args_dict_iter_1 _))
  unfold Builtin.«dict.__iter__» Builtin.Dict.dictSlotNone
  refine wpAny_bind (wpAny_bind (wpAny_notOrdered_dict ty ?_))
  refine (show wpAny _ _ (pure (Value.ref d)) _ _ s from wpAny_pure ?_)
  refine (show wpAny _ _ (Builtin.Dict.showsAll d >>= _) _ _ s from ?_)
  unfold Builtin.Dict.showsAll; rw [if_neg (by rw [lo]; decide)]
  refine wpAny_bind (wpAny_pure (wpAny_bind (wpAny_dictEntries g dt (wpAny_bind (wpAny_dictEpoch g dt ?_)))))
  refine wpAny_bind (wpAny_newObj_type (wpAny_pure ⟨_, rfl, "dict_keyiterator", _, ⟨_, Heap.get?_push_size _ rfl, rfl⟩, PySem.F.slot_dict_keyiterator_next.lookup, ?_⟩))
  simpa [rawInt, qX] using q
theorem zT {Q : Option Value → Shared → Prop} (gi : s.heap.get? it = some (qX d i es.size ep)) (r : h8 s.heap d es ep) (hi : i < es.size)
    (q : ∀ h', h'.get? it = some (qX d (i + 1) es.size ep) → Heap.SameBut it s.heap h' → Q (some es[i].key) { s with heap := h' }) : wpAny (model prog w) A (pyNext (.ref it)) Q E s := by
  obtain ⟨o, g, c, dt⟩ := r
  have ty : s.TypeIs (.ref it) "dict_keyiterator" := ⟨_, gi, rfl⟩
  unfold pyNext
  refine wpAny_bind (wpAny_attempt (wpAny_callSpecial?_slot (name := Str.ofString "__next__") ty PySem.F.slot_dict_keyiterator_next (wpAny_call_entry PySem.F.slot_dict_keyiterator_next ty PySem.F.entry_dict_keyiterator_next ?_ (PySem.F.args_dict_keyiterator_next_1 _))))
  refine wpAny_bind (wpAny_pure (wpAny_bind (wpAny_bind ?_)))
  refine wpAny_bind (wpAny_typeNameOfWhole_keyiter ty (wpAny_pure (wpAny_bind (wpAny_fieldsOf gi rfl ?_))))
  simp only [show Builtin.Dict_items.ownsTuple "dict_keyiterator" = false by decide, Bool.false_eq_true, if_false]
  refine (show wpAny _ _ (if (Value.ref d == Value.none) = true then _ else _) _ _ s from ?_)
  rw [if_neg (zR d)]
  refine wpAny_bind (wpAny_pure (wpAny_bind (wpAny_dictEntries g dt ?_)))
  rw [if_neg (by simp)]
  refine wpAny_bind (wpAny_pure (wpAny_bind (wpAny_dictEpoch g dt ?_)))
  rw [if_neg (by simp)]
  refine wpAny_pure ?_
  simp only [show ¬ ((i : Int) < 0) by omega, if_false, Int.toNat_natCast, Array.getElem?_eq_getElem hi]
  refine wpAny_bind (wpAny_bind (wpAny_typeNameOfWhole_keyiter ty (wpAny_pure (wpAny_bind (wpAny_isOneOf_keyiter ty ?_)))))
  refine (show wpAny _ _ (setField (.ref it) 1 (rawInt ((i : Int) + 1)) >>= _) _ _ s from wpAny_bind (wpAny_setField_rec gi (by simp) fun h1 e1 b1 => ?_))
  have e1 : h1.get? it = some (qX d (i + 1) es.size ep) := by
    rw [e1]; simp [qX, rawInt]
  refine wpAny_bind (wpAny_holding (wpAny_bind (wpAny_isOneOf_keyiter (s := { s with heap := h1 }) ⟨_, e1, rfl⟩ ?_)))
  exact (show wpAny _ _ (pure es[i].key) _ _ _ from wpAny_pure (wpAny_pure ⟨_, rfl, wpAny_pure (q _ e1 b1)⟩))
theorem B5 {Q : Option Value → Shared → Prop} (hh : A.handled = none) (gi : s.heap.get? it = some (qX d i es.size ep)) (r : h8 s.heap d es ep) (hi : es.size ≤ i)
    (q : ∀ h', Heap.ExtBut it s.heap h' → Q none { s with heap := h' }) : wpAny (model prog w) A (pyNext (.ref it)) Q E s := by
  obtain ⟨o, g, c, dt⟩ := r
  have ty : s.TypeIs (.ref it) "dict_keyiterator" := ⟨_, gi, rfl⟩
  unfold pyNext
  refine wpAny_bind (wpAny_attempt (wpAny_callSpecial?_slot (name := Str.ofString "__next__") ty PySem.F.slot_dict_keyiterator_next (wpAny_call_entry PySem.F.slot_dict_keyiterator_next ty PySem.F.entry_dict_keyiterator_next ?_ (PySem.F.args_dict_keyiterator_next_1 _))))
  refine wpAny_bind (wpAny_pure (wpAny_bind (wpAny_bind ?_)))
  refine wpAny_bind (wpAny_typeNameOfWhole_keyiter ty (wpAny_pure (wpAny_bind (wpAny_fieldsOf gi rfl ?_))))
  simp only [show Builtin.Dict_items.ownsTuple "dict_keyiterator" = false by decide, Bool.false_eq_true, if_false]
  refine (show wpAny _ _ (if (Value.ref d == Value.none) = true then _ else _) _ _ s from ?_)
  rw [if_neg (zR d)]
  refine wpAny_bind (wpAny_pure (wpAny_bind (wpAny_dictEntries g dt ?_)))
  rw [if_neg (by simp)]
  refine wpAny_bind (wpAny_pure (wpAny_bind (wpAny_dictEpoch g dt ?_)))
  rw [if_neg (by simp)]
  refine wpAny_pure ?_
  simp only [show ¬ ((i : Int) < 0) by omega, if_false, Int.toNat_natCast, Array.getElem?_eq_none hi]
  refine wpAny_bind (wpAny_bind (wpAny_typeNameOfWhole_keyiter ty (wpAny_pure ?_)))
  refine (show wpAny _ _ (setField (.ref it) 0 .none >>= _) _ _ s from wpAny_bind (wpAny_setField_rec gi (by simp) fun h1 e1 b1 => ?_))
  refine (show wpAny _ _ (newExc (.type "StopIteration") [] >>= _) _ _ _ from wpAny_bind ?_)
  simp only [newExc, newTuple]
  refine wpAny_bind (wpAny_newObj_type (wpAny_bind (m := firstArgMember _ _) (wpAny_of_eq (a := Value.none) (by first | rfl | (simp only [firstArgMember]; rfl)) (wpAny_newObj_type ?_ (by size_fits)))) (by size_fits))
  simp only [raiseNew]
  refine wpAny_bind (wpAny_handled ?_)
  rw [show A.in1.handled = none from hh]
  refine wpAny_bind (wpAny_pure (wpAny_throw ?_))
  refine wpAny_bind (wpAny_isInstance (T := "StopIteration") (b := true) ⟨_, Heap.get?_push_size _ rfl, rfl⟩ isSubtype_stop (wpAny_pure (q _ ?_)))
  exact (b1.extBut.push _).push _
end
def JA (es : Array DictEntry) (ps : List (V × V)) : Prop := es.size = ps.length ∧ ∀ (i : Nat) (p : V × V), ps[i]? = some p → ∃ hi : i < es.size, RelV p.1 es[i].key ∧ RelV p.2 es[i].val
inductive ub (H : Hp) : HO → List (V × V) → Prop where
  | k (ao : List (Key × V)) : ub H (.dK ao) (ao.map fun kv => (kV kv.1, kv.2))
  | t (ao : List (List Key × V)) (bs : List Addr) (hl : bs.length = ao.length) (h : ∀ (i : Nat) (b : Addr) (kv : List Key × V), bs[i]? = some b → ao[i]? = some kv → H b = some (.tup (kv.1.map kV))) : ub H (.dT ao) ((bs.map V.ref).zip (ao.map (·.2)))
theorem B6 {P : Program} {w : World} {k : Key} {u : Value} (h : (bK P w).is k u = true) : RelV (kV k) u := by
  rcases bT (k := k) (v := u) h with ⟨i, t, rfl, rfl⟩ | ⟨x, t, rfl, rfl⟩
  · exact ⟨t, rfl⟩
  · exact ⟨t, rfl⟩
theorem jq {α β : Type} {F : α → β → Prop} : ∀ {l : List α} {m : List β} {i : Nat} {a : α}, Paired F l m → l[i]? = some a → ∃ b, m[i]? = some b ∧ F a b
  | _, _, _, _, .nil, h => by simp at h
  | _, _, 0, _, .cons x _, h => by simp at h; subst h; exact ⟨_, rfl, x⟩
  | _, _, i + 1, _, .cons _ t, h => by obtain ⟨b, e, q⟩ := jq (i := i) t (by simpa using h); exact ⟨b, by simpa using e, q⟩
section
variable {P : Program} {w : World} {H : Hp} {h : Heap} {a : Addr} {u : HO}
structure Rows (H : Hp) (h : Heap) (a : Addr) (u : HO) (o : Obj) (es : Array DictEntry) (ep : Nat) (ps : List (V × V)) : Prop where
  obj : h.get? a = some o
  cls : o.cls = .type "dict"
  dict : o.dict = none
  data : o.data = .dict es ep
  lo : (a == sysModules) = false
  rel : JA es ps
  ps : ub H u ps
theorem vG (ok : cj P w H h) (e : Rd H a u) (hu : ng u = true) : ∃ o es ep ps, Rows H h a u o es ep ps := by
  have q := e.ok ok
  cases u with
  | dK ao =>
    obtain ⟨z, lo, vs, rel, o, es, ep, g, x, dt, hk, hp, hn⟩ := q
    refine ⟨o, es, ep, _, g, x.1, x.2.1, dt, lo, ⟨?_, fun i p hi => ?_⟩, .k ao⟩
    · have h1 := hp.length
      have h2 := rel.length
      simp only [List.length_map, Array.length_toList] at h1 ⊢
      omega
    · rw [List.getElem?_map, Option.map_eq_some_iff] at hi
      obtain ⟨kv, qY, rfl⟩ := hi
      obtain ⟨⟨k', v'⟩, hv, e1, e2⟩ := jq rel qY
      have hl : i < es.size := by
        have h1 := hp.length
        have h2 := (List.getElem?_eq_some_iff.mp hv).1
        simp only [Array.length_toList] at h1
        omega
      obtain ⟨a1, a2⟩ := hp.get? (e := es[i]) (by simp [hl]) hv
      refine ⟨hl, ?_, ?_⟩
      · rw [e1]; exact B6 a1
      · rw [a2]; exact e2
  | dT ao =>
    obtain ⟨z, lo, xs, rel, o, es, ep, g, x, dt, he, hn⟩ := q
    have Oc : ao.length = xs.length := Paired.length rel
    have Od : es.size = xs.length := by
      have := congrArg List.length he
      simpa using this
    refine ⟨o, es, ep, _, g, x.1, x.2.1, dt, lo, ⟨?_, fun i p hi => ?_⟩, .t ao (xs.map (·.2.1)) (by rw [List.length_map]; exact Oc.symm) fun i b kv hb qY => ?_⟩
    · simp only [List.length_zip, List.length_map]; omega
    · rw [List.getElem?_zip_eq_some, List.map_map, List.getElem?_map, List.getElem?_map, Option.map_eq_some_iff, Option.map_eq_some_iff] at hi
      obtain ⟨⟨x1, zU, e1⟩, ⟨kv, qY, e2⟩⟩ := hi
      obtain ⟨x2, zV, _, _, r⟩ := jq rel qY
      rw [zU] at zV
      cases zV
      have hl : i < es.size := by rw [Od]; exact (List.getElem?_eq_some_iff.mp zU).1
      have KI : es[i] = entryOfKey (tupleKind (bK P w)) x1 := by
        have : es.toList[i]? = some (entryOfKey (tupleKind (bK P w)) x1) := by rw [he, List.getElem?_map, zU]; rfl
        rw [Array.getElem?_toList, Array.getElem?_eq_getElem hl] at this
        exact Option.some.inj this
      refine ⟨hl, ?_, ?_⟩
      · rw [KI, ← e1]; rfl
      · rw [KI, ← e2]; exact r
    · rw [List.getElem?_map, Option.map_eq_some_iff] at hb
      obtain ⟨x1, zU, rfl⟩ := hb
      obtain ⟨x2, zV, e1, e2, _⟩ := jq rel qY
      rw [zU] at zV
      cases zV
      exact e2
  | _ => cases hu
end
end L2
namespace L2
open PySem PySem.Spec PySem.W PyProof.Rows
section
variable {X : Cx} {Γ : Gz} {K : PySem.W.Frag}
open Classical in
theorem B7 {A : Around} {E : Value → Shared → Prop} {s : Shared} {P : Program} {w : World} {d : Addr} {o : Obj} {es : Array DictEntry} {ep : Nat} {Q : Value → Shared → Prop} (hd : (d == sysModules) = false) (ho : s.heap.get? d = some o) (hc : o.cls = .type "dict") (Md : o.data = .dict es ep) (OZ : (es.size : Int) < 2 ^ 63)
    (h : Q (.int es.size (s.toks + 1)) { s with toks := s.toks + 1 + 1 }) : wpAny (model P w) A (call (.builtin "len") [.ref d]) Q E s := by
  have mt : Meets (Builtin.«dict.__len__» ⟨[.ref d], []⟩) (fun _ R s' => s'.heap.get? d = some o ∧ R (.ok (.ret (.int es.size s'.toks))) { s' with toks := s'.toks + 1 }) := .of_wp fun P w A R s' ⟨hg, hR⟩ => by
    show wpAny _ _ (dictSize d >>= _) _ _ s'
    unfold dictSize
    exact wpAny_bind (wpAny_bind (wpAny_dictEntries hg Md (wpAny_pure (wpAny_bind (wpAny_pendingCount_other hd (wpAny_ret_mkInt (by rw [Nat.add_zero]; exact hR)))))))
  exact call_len_meets ⟨_, ho, hc⟩ F.slot_dict_len F.entry_dict_len (F.args_dict_len_1 _) mt (by omega) (by omega) (fun _ q => ⟨ho, q⟩) h
def zLenT (d : Dv) (M : Mh) (Q : ZK) : Prop := match nowK M d with | .dt ks _ => Q (.int ks.length) M | _ => False
theorem HF : eX Γ X (.builtin "len") (z1 zLenT) := ⟨fun xs H Q => ∃ a ao, xs = [.ref a] ∧ Rd H a (.dT ao) ∧ Q (.int ao.length) H, fun pins s σ H xs us Q I rs ⟨a, ao, e, ha, q⟩ => by
  subst e
  cases rs with
  | cons r1 rs =>
    cases rs
    cases r1
    obtain ⟨o, es, ep, ps, R⟩ := vG I.hok ha rfl
    have hl := (oj I.hok ha).1
    have hp : ps.length = ao.length := by
      cases R.ps with
      | t _ bs hl h => simp only [List.length_zip, List.length_map]; omega
    have he : es.size = ao.length := R.rel.1.trans hp
    refine B7 R.lo R.obj R.cls R.data (by rw [he]; rw [show sizeLine = 16777216 from rfl] at hl; omega) ⟨.int ao.length, H, I.tok _, ⟨_, by rw [he]⟩, q⟩, fun β xs ds M H Q Q' _ _ _ m rs z q => by
  unfold z1 at z
  split at z
  · obtain ⟨x, rfl, r⟩ := dG rs
    unfold zLenT at z
    split at z
    · rename_i ks ds hk
      obtain ⟨a, vs, rfl, ha, hk, _⟩ := (vC m r).2 _ _ hk
      refine ⟨a, _, rfl, ha, ?_⟩
      rw [List.length_zip, ← hk, Nat.min_self]
      exact q _ _ _ _ (.refl m) (.int _) z
    · exact z.elim
  · exact z.elim⟩
end
end L2
namespace L2
open PySem PySem.Spec PyProof.Rows
def ny : Key → Dv
  | .inl i => .int i
  | .inr z => .str z
section
variable {X : Cx} {Γ : Gz} {β : Bz} {M : Mh} {H : Hp} {tg l : Expr} {p : aI}
theorem HG (k : Key) : Rz β M H (kV k) (ny k) := by
  cases k with
  | inl i => exact .int i
  | inr z => exact .str z
theorem ud (ks : List Key) : aG β M H (ks.map kV) (ks.map ny) := ⟨by simp, fun i v d a b => by
  rw [List.getElem?_map] at a b
  cases e : ks[i]? with
  | none => rw [e] at a; cases a
  | some k => rw [e] at a b; cases a; cases b; exact HG k⟩
theorem jQ {α γ : Type} : ∀ {ks : List α} {vs : List γ}, ks.length = vs.length → (ks.zip vs).map (·.1) = ks
  | [], [], _ => rfl
  | k :: ks, v :: vs, h => by rw [List.zip_cons_cons, List.map_cons, jQ (by simpa using h)]
end
section
variable {Γ : Gz} {X : Cx} {K : PySem.W.Frag}
def zCatLP : d8 := fun d e M Q => match d, e with | .lst ds, .lst es => ds.length + es.length ≤ sizeLine ∧ ∀ a, M a = none → Q (.ptr a) (aw M a (.lst (ds ++ es))) | _, _ => False
theorem EE (hK : X.K = K) : eJ Γ X (binaryOp .Add) zCatLP := ⟨_, F7, fun β x y d e M H Q Q' _ _ _ m rx ry z q => by
  unfold zCatLP at z
  split at z
  · obtain ⟨a, vs, rfl, f, ha, rs⟩ := dS rx
    obtain ⟨b, us, rfl, f2, hb, eQ⟩ := dS ry
    refine ⟨a, b, vs, us, rfl, rfl, ha, hb, by rw [rs.len, eQ.len]; exact z.1, fun p hp => ?_⟩
    have x2 := Ex.own m (.inr hp) (rs.append eQ)
    exact q _ _ _ _ x2 (.ptr (by rw [updM_same]; rfl)) (z.2 p (m.free hp))
  · exact z.elim⟩
def zClear : tR := fun d ds M Q => match d, ds with | .ptr a, [] => (match M a with | some (.lst _) => Q .aq (aw M a (.lst [])) | _ => False) | _, _ => False
theorem EF : zy Γ X "list" "list.clear" K zClear := ⟨_, A9, fun β x xs d ds M H Q Q' _ _ _ m r rs z q => by
  unfold zClear at z
  split at z
  · rename_i a
    split at z
    · rename_i ys ha
      obtain ⟨rfl, h⟩ := b7 r
      obtain ⟨vs, hv, eQ⟩ := m.obj a _ ha
      have e := rs.len
      have e0 : xs = [] := List.eq_nil_of_length_eq_zero e
      subst e0
      refine ⟨a, vs, rfl, rfl, hv, ?_⟩
      exact q _ _ _ _ (Ex.own m (.inl h) .nil) .aq z
    · exact z.elim
  · exact z.elim⟩
end
theorem fH {g : cx} {te : aI} (J : List Dv → aA → Mh → Prop) : ∀ {ds acc : List Dv} {τ : aA} {M : Mh} {Q : List Dv → Mh → Prop}, J acc τ M →
    (∀ i d gb τ M, ds[i]? = some d → gb.length = acc.length + i → J gb τ M → ∀ R : aA → ZK, (∀ y aC M2, J (gb ++ [y]) aC M2 → R aC y M2) → g d τ M fun aC M2 => te aC M2 (R aC)) →
    (∀ ys τ M, ys.length = ds.length → J (acc ++ ys) τ M → Q ys M) → gp g zNoIf te ds τ M Q
  | [], acc, τ, M, Q, j, _, q => q [] τ M rfl (by rw [List.append_nil]; exact j)
  | d :: ds, acc, τ, M, Q, j, h, q => by
    refine h 0 d acc τ M rfl rfl j (fun aC y M4 => gp g zNoIf te ds aC M4 fun ys M5 => Q (y :: ys) M5) fun y aC M2 j2 => ?_
    refine fH J (acc := acc ++ [y]) j2 (fun i d' gb b8 M' e1 e2 j' R hR => ?_) fun ys jN M3 e3 j3 => ?_
    · exact h (i + 1) d' gb b8 M' e1 (by rw [e2, List.length_append]; simp; omega) j' R hR
    · exact q (y :: ys) jN M3 (by simp [e3]) (by rw [List.append_assoc] at j3; exact j3)
section
variable {X : Cx} {Γ : Gz} {tg elt iter : Expr} {ifs : List Expr} {scope : Scope} {pos : Pos} {N' : List Str} {tn : Nat} {idx : List Nat}
theorem ue {zi : d7} {g : cx} {tt : cP} {te : aI} {i : Nat} {y : Str} {py f6 : Pos} (hN : X.N.Nodup) (cY : X.N[i]? = some y) (hy : X.env.scope.names.lookup y = some .local) (hc : X.calm = true) (B : dr X.N X.env.scope scope N' tn idx) (hi : QI Γ X tg iter zi)
    (hg : j6 X N' scope fun Y => QG Γ Y tg g) (ht : j6 X N' scope fun Y => ow Γ Y ifs tt) (he : j6 X N' scope fun Y => QE Γ Y elt te)
    (nY : swapsWith (.ListComp elt [⟨tg, iter, ifs, 0⟩] scope pos) (some (.Name y py)) f6.line X.env = pure true := by rfl)
    (hs : ∀ x, foldedSetIterable iter X.env x = pure x := by intro _; rfl) : QS Γ X (.Assign [.Name y py] (.ListComp elt [⟨tg, iter, ifs, 0⟩] scope pos) f6) (zAsg (zCompP tn idx zi g tt te) (zgName i)) := (uP hN cY hy hc B hi hg ht he nY hs).imp fun D σ H h => rQ (fun _ _ _ h => pD h) h
end
theorem oK {a1 r : cw} {D : gh} {ρ : aA} {M : Mh} (I : aA → Mh → Prop) (h1 : ∀ N : aA → Mh → Prop, (∀ ρ M, I ρ M → N ρ M) → a1 { D with nx := N } ρ M) (h2 : ∀ ρ M, I ρ M → r D ρ M) : (zSeq a1 r) D ρ M := h1 _ h2
theorem JB {a1 a2 r : cw} {D : gh} {ρ : aA} {M : Mh} (I : aA → Mh → Prop) (h1 : ∀ N : aA → Mh → Prop, (∀ ρ M, I ρ M → N ρ M) → (zSeq a1 a2) { D with nx := N } ρ M) (h2 : ∀ ρ M, I ρ M → r D ρ M) : (zSeq a1 (zSeq a2 r)) D ρ M := h1 _ h2
theorem JC {a1 a2 a3 a4 r : cw} {D : gh} {ρ : aA} {M : Mh} (I : aA → Mh → Prop) (h1 : ∀ N : aA → Mh → Prop, (∀ ρ M, I ρ M → N ρ M) → (zSeq a1 (zSeq a2 (zSeq a3 a4))) { D with nx := N } ρ M) (h2 : ∀ ρ M, I ρ M → r D ρ M) : (zSeq a1 (zSeq a2 (zSeq a3 (zSeq a4 r)))) D ρ M := h1 _ h2
theorem JD {a1 a2 a3 a4 a5 a6 a7 a8 r : cw} {D : gh} {ρ : aA} {M : Mh} (I : aA → Mh → Prop) (h1 : ∀ N : aA → Mh → Prop, (∀ ρ M, I ρ M → N ρ M) → (zSeq a1 (zSeq a2 (zSeq a3 (zSeq a4 (zSeq a5 (zSeq a6 (zSeq a7 a8))))))) { D with nx := N } ρ M) (h2 : ∀ ρ M, I ρ M → r D ρ M) : (zSeq a1 (zSeq a2 (zSeq a3 (zSeq a4 (zSeq a5 (zSeq a6 (zSeq a7 (zSeq a8 r)))))))) D ρ M := h1 _ h2
section
variable {β : Bz} {M M' : Mh} {H H' : Hp} {a : Addr} {o o' o2 mS : Mo}
theorem Rz.dom (hd : ∀ a, (M a).isSome = (M' a).isSome) {v : V} {d : Dv} (r : Rz β M H v d) : Rz β M' H v d :=
  r.mq (M0 := M') (fun a h => by rw [hd a]; exact h) (r.pin.mono fun a h => by rw [← hd a]; exact h)
theorem g9.dom (hd : ∀ a, (M a).isSome = (M' a).isSome) (h : g9 β M H a o) : g9 β M' H a o := by
  cases o with
  | lst ds => obtain ⟨vs, h1, rs⟩ := h; exact ⟨vs, h1, rs.len, fun i v d x y => (rs.at' i v d x y).dom hd⟩
  | ck => exact h
  | dk ks ds => obtain ⟨vs, h1, h2, rs⟩ := h; exact ⟨vs, h1, h2, rs.len, fun i v d x y => (rs.at' i v d x y).dom hd⟩
  | dt ks ds => obtain ⟨vs, h1, h2, rs⟩ := h; exact ⟨vs, h1, h2, rs.len, fun i v d x y => (rs.at' i v d x y).dom hd⟩
theorem iG (M : Mh) (a : Addr) (o o2 : Mo) (b : Addr) : (aw M a o b).isSome = (aw M a o2 b).isSome := by
  by_cases e : b = a
  · subst e; rw [updM_same, updM_same]; rfl
  · rw [ak e, ak e]
theorem jr {b : Addr} (o2 : Mo) (h : aw M a o b = none) : aw M a o2 b = none := by
  by_cases e : b = a
  · subst e; rw [updM_same] at h; cases h
  · rw [ak e] at h ⊢; exact h
theorem Mz.chg (m : Mz β (aw M a o) H) (h2 : g9 β (aw M a o2) H a o2) : Mz β (aw M a o2) H := by
  refine ⟨fun b u e => ?_, m.tabs, m.hids, fun b u e => ?_, m.lams⟩
  · by_cases z : b = a
    · subst z; rw [updM_same] at e; cases e; exact h2
    · rw [ak z] at e
      exact g9.dom (iG M a o o2) (m.obj b u (by rw [ak z]; exact e))
  · by_cases z : b = a
    · subst z; exact m.apart b o updM_same
    · rw [ak z] at e
      exact m.apart b u (by rw [ak z]; exact e)
theorem vH (h : M a = some o) : aw M a o = M := by
  funext b
  by_cases e : b = a
  · subst e; rw [updM_same, h]
  · rw [ak e]
theorem Ex.chg (x : Ex β (aw M a o) H (aw M a o') H') (h2 : g9 β (aw M a mS) H' a mS) : Ex β (aw M a o2) H (aw M a mS) H' :=
  ⟨⟨fun b u h e => x.keep b u (jr o h) e, fun b h => by rw [iG M a mS o']; exact x.dom b (by rw [iG M a o o2]; exact h), fun b u h e => jr mS (x.new b u (jr o h) e)⟩, x.mz.chg h2⟩
theorem Ex.sealed (hn : M a = none) (x : Ex β M H (aw M a o') H') (h2 : g9 β (aw M a mS) H' a mS) : Ex β M H (aw M a mS) H' :=
  ⟨⟨x.keep, fun b h => by rw [iG M a mS o']; exact x.dom b h, fun b u h e => jr mS (x.new b u h e)⟩, x.mz.chg h2⟩
theorem zW {c m : Int} (z : Mz β (aw M a (.lst [.int c, .int m])) H) (hc : 0 ≤ c) (hm : 0 ≤ m) : g9 β (aw M a .ck) H a .ck := by
  obtain ⟨vs, h, rs⟩ := z.obj a _ updM_same
  refine ⟨c, m, ?_, hc, hm⟩
  have := nq (ns := [c, m]) rs
  rw [h, this]
  rfl
theorem HH (z : Mz β (aw M a .ck) H) : ∃ c m : Int, 0 ≤ c ∧ 0 ≤ m ∧ g9 β (aw M a (.lst [.int c, .int m])) H a (.lst [.int c, .int m]) := by
  obtain ⟨c, m, h, hc, hm⟩ := z.obj a _ updM_same
  exact ⟨c, m, hc, hm, _, h, j4 (ns := [c, m])⟩
end
section
variable {X : Cx} {Γ : Gz} {K : PySem.W.Frag}
def zIxS : d8 := fun d e M Q => match d, e with | .bo ns, .int i => (match di ns i with | some x => Q (.int x) M | none => False) | _, _ => False
theorem Dk (hK : X.K = K) (hG : K = Γ.K) : Ha Γ X zIxS := ⟨_, vc hK, fun β x y d e M H Q Q' _ _ eK m rx ry z q => by
  unfold zIxS at z
  split at z
  · rename_i ns i
    split at z
    · rename_i v hv
      obtain ⟨a, rfl, hS⟩ := qE rx
      rw [eK, ← hG] at hS
      exact .inl ⟨a, _, i, .int v, rfl, aL ry, hS, Ep hv, q _ _ _ _ (.refl m) (.int _) z⟩
    · exact z.elim
  · exact z.elim⟩
end
def qZ (k : Nat) : Str := ⟨#[97 + k]⟩
theorem pM (k : Nat) : (qZ k).length = 1 := rfl
theorem xc (a b : Str) : (a ++ b).length = a.length + b.length := by
  show (a.cps ++ b.cps).size = a.cps.size + b.cps.size
  exact Array.size_append
section
variable {κ : Type} [DecidableEq κ]
theorem ky : ∀ (ks U : List κ), ks.Nodup → (∀ k ∈ ks, k ∈ U) → ks.length ≤ U.length
  | [], _, _, _ => Nat.zero_le _
  | k :: ks, U, nd, h => by
    have hn := List.nodup_cons.mp nd
    have hk := h k List.mem_cons_self
    have ih := ky ks (U.erase k) hn.2 fun x hx => (List.mem_erase_of_ne (fun e => hn.1 (by rw [← e]; exact hx))).mpr (h x (List.mem_cons_of_mem _ hx))
    rw [List.length_erase_of_mem hk] at ih
    have := List.length_pos_of_mem hk
    rw [List.length_cons]
    omega
def gM (step : κ → Nat → κ) (met : κ) (w : Str) (st : List κ × List Str) (a : Nat) : List κ × List Str := if step met a ∈ st.1 then st else (st.1 ++ [step met a], st.2 ++ [w ++ qZ a])
def visit (step : κ → Nat → κ) (met : κ) (w : Str) (n : Nat) (st : List κ × List Str) : List κ × List Str := (List.range n).foldl (gM step met w) st
def kz (step : κ → Nat → κ) (n most : Nat) : Nat → Nat → List κ × List Str → List κ × List Str
  | 0, _, st => st
  | fuel + 1, i, st => match st.1[i]?, st.2[i]? with
    | some met, some w => if st.1.length ≤ most then kz step n most fuel (i + 1) (visit step met w n st) else st
    | _, _ => st
structure eB (U : List κ) (st : List κ × List Str) : Prop where
  len : st.1.length = st.2.length
  nd : st.1.Nodup
  sub : ∀ k ∈ st.1, k ∈ U
  wl : ∀ (i : Nat) (w : Str), st.2[i]? = some w → w.length ≤ i
theorem eB.le {U : List κ} {st : List κ × List Str} (o : eB U st) : st.1.length ≤ U.length := ky _ _ o.nd o.sub
theorem iz (step : κ → Nat → κ) (met : κ) (w : Str) (n : Nat) (st : List κ × List Str) : visit step met w (n + 1) st = gM step met w (visit step met w n st) n := by
  unfold visit
  rw [List.range_succ, List.foldl_append]
  rfl
theorem zX (step : κ → Nat → κ) (met : κ) (w : Str) (st : List κ × List Str) (a : Nat) : ∃ ks ws, (gM step met w st a).1 = st.1 ++ ks ∧ (gM step met w st a).2 = st.2 ++ ws := by
  unfold gM
  split
  · exact ⟨[], [], by simp, by simp⟩
  · exact ⟨_, _, rfl, rfl⟩
theorem gu (step : κ → Nat → κ) (met : κ) (w : Str) (n : Nat) (st : List κ × List Str) : ∃ ks ws, (visit step met w n st).1 = st.1 ++ ks ∧ (visit step met w n st).2 = st.2 ++ ws := by
  induction n with
  | zero => exact ⟨[], [], by simp [visit], by simp [visit]⟩
  | succ n ih =>
    obtain ⟨ks, ws, h1, h2⟩ := ih
    rw [iz]
    obtain ⟨Kz, Oe, h3, h4⟩ := zX step met w (visit step met w n st) n
    exact ⟨ks ++ Kz, ws ++ Oe, by rw [h3, h1, List.append_assoc], by rw [h4, h2, List.append_assoc]⟩
theorem mx {α : Type} {l m : List α} {i : Nat} {x : α} (h : l[i]? = some x) : (l ++ m)[i]? = some x := by
  rw [List.getElem?_append_left (List.getElem?_eq_some_iff.mp h).1]; exact h
theorem eB.gM {U : List κ} {step : κ → Nat → κ} {st : List κ × List Str} (o : eB U st) {i a : Nat} {met : κ} {w : Str} (hw : st.2[i]? = some w) (hs : step met a ∈ U) : eB U (L2.gM step met w st a) := by
  unfold L2.gM
  split
  · exact o
  · rename_i hn
    refine ⟨by simp [o.len], ?_, fun k hk => ?_, fun j v hj => ?_⟩
    · rw [List.nodup_append]
      refine ⟨o.nd, by simp, fun x hx y hy e => ?_⟩
      rw [List.mem_singleton] at hy
      subst e
      exact hn (hy ▸ hx)
    · rcases List.mem_append.mp hk with z | z
      · exact o.sub k z
      · rw [List.mem_singleton] at z; rw [z]; exact hs
    · by_cases h : j < st.2.length
      · rw [List.getElem?_append_left h] at hj
        exact o.wl j v hj
      · rw [List.getElem?_append_right (by omega)] at hj
        have e : j - st.2.length = 0 := by
          have := (List.getElem?_eq_some_iff.mp hj).1
          simp at this; omega
        rw [e] at hj
        cases hj
        have h1 := o.wl i w hw
        have h2 := (List.getElem?_eq_some_iff.mp hw).1
        rw [xc, pM]
        omega
theorem eB.visit {U : List κ} {step : κ → Nat → κ} {st : List κ × List Str} (o : eB U st) {i n : Nat} {met : κ} {w : Str} (hw : st.2[i]? = some w) (hs : ∀ a, a < n → step met a ∈ U) : eB U (L2.visit step met w n st) := by
  induction n with
  | zero => exact o
  | succ n ih =>
    rw [iz]
    obtain ⟨ks, ws, h1, h2⟩ := gu step met w n st
    exact (ih fun a ha => hs a (by omega)).gM (i := i) (by rw [h2]; exact mx hw) (hs n (by omega))
def met (step : κ → Nat → κ) (n most N : Nat) (s : κ) : List κ × List Str := kz step n most (N + 1) 0 ([s], [""])
theorem lz {U : List κ} {s : κ} (h : s ∈ U) : eB U ([s], [("" : Str)]) := ⟨rfl, by simp, fun k hk => by rw [List.mem_singleton] at hk; rw [hk]; exact h, fun i w e => by
  cases i with
  | zero => cases e; exact Nat.le_refl 0
  | succ i => simp at e⟩
theorem zY {U : List κ} {step : κ → Nat → κ} {n most : Nat} (hs : ∀ k ∈ U, ∀ a, a < n → step k a ∈ U) : ∀ (fuel i : Nat) (st : List κ × List Str), eB U st → eB U (kz step n most fuel i st)
  | 0, _, st, o => o
  | fuel + 1, i, st, o => by
    unfold kz
    split
    · rename_i k w h1 h2
      split
      · exact zY hs fuel (i + 1) _ (o.visit h2 fun a ha => hs k (o.sub k (List.mem_of_getElem? h1)) a ha)
      · exact o
    · exact o
theorem zZ {step : κ → Nat → κ} {n most fuel i : Nat} {st : List κ × List Str} {k : κ} {w : Str} (h1 : st.1[i]? = some k) (h2 : st.2[i]? = some w) (h3 : st.1.length ≤ most) : kz step n most (fuel + 1) i st = kz step n most fuel (i + 1) (visit step k w n st) := by
  rw [kz]
  simp only [h1, h2, if_pos h3]
theorem vI : ∀ {ks : List κ} {ws : List Str} {i : Nat} {k : κ} {w : Str}, ks.Nodup → ks[i]? = some k → ws[i]? = some w → look ks ws k = some w
  | [], _, _, _, _, _, h, _ => by simp at h
  | _ :: _, [], _, _, _, _, _, h => by simp at h
  | c :: ks, v :: ws, 0, k, w, _, h1, h2 => by
    simp at h1 h2
    unfold look
    rw [if_pos h1, h2]
  | c :: ks, v :: ws, i + 1, k, w, nd, h1, h2 => by
    have hn := List.nodup_cons.mp nd
    have h1 : ks[i]? = some k := by simpa using h1
    unfold look
    rw [if_neg (fun e => hn.1 (by rw [e]; exact List.mem_of_getElem? h1))]
    exact vI hn.2 h1 (by simpa using h2)
theorem uf {Dl : Type} [DecidableEq Dl] {f : κ → Dl} (hf : ∀ a b, f a = f b → a = b) (x : κ) : ∀ (ks : List κ) (ws : List Str), look (ks.map f) (ws.map Dv.str) (f x) = (look ks ws x).map Dv.str
  | [], ws => by cases ws <;> rfl
  | _ :: _, [] => rfl
  | k :: ks, w :: ws => by
    rw [List.map_cons, List.map_cons]
    unfold look
    by_cases e : k = x
    · rw [if_pos e, if_pos (by rw [e])]; rfl
    · rw [if_neg e, if_neg (fun z => e (hf _ _ z))]
      exact uf hf x ks ws
theorem vJ {α : Type} {ks : List κ} {ds : List α} {k : κ} {d : α} (h : k ∉ ks) : putL ks k = ks ++ [k] ∧ fF ks ds k d = ds ++ [d] := by
  unfold putL fF
  rw [if_neg h, if_neg h]
  exact ⟨rfl, rfl⟩
theorem jy {Dl : Type} {f : κ → Dl} (hf : ∀ a b, f a = f b → a = b) {x : κ} {ks : List κ} : f x ∈ ks.map f ↔ x ∈ ks := by
  constructor
  · intro h
    obtain ⟨y, hy, e⟩ := List.mem_map.mp h
    rw [← hf _ _ e]; exact hy
  · exact fun h => List.mem_map_of_mem h
theorem z4 {ks : List κ} {ws : List Str} (h : ks.length = ws.length) (x : κ) : (look ks ws x).isSome = decide (x ∈ ks) := by
  cases q : look ks ws x with
  | none => rw [decide_eq_false ((fR h).mp q)]; rfl
  | some w =>
    have : x ∈ ks := Classical.byContradiction fun z => by rw [(fR h).mpr z] at q; cases q
    rw [decide_eq_true this]; rfl
end
theorem vK {k : Nat} (h : k < 3) : di ("abc" : Str).cps.toList ((k : Nat) : Int) = some (97 + k) := by
  have : k = 0 ∨ k = 1 ∨ k = 2 := by omega
  rcases this with rfl | rfl | rfl <;> decide +kernel
theorem nz {α : Type} {l : List α} {i : Nat} {x : α} (h : l[i]? = some x) : l.drop i = x :: l.drop (i + 1) := by
  obtain ⟨hi, e⟩ := List.getElem?_eq_some_iff.mp h
  rw [List.drop_eq_getElem_cons hi, e]
section
variable {κ α : Type} [DecidableEq κ]
theorem xf {ks : List κ} {ws : List α} (h : ks.length = ws.length) (x : κ) : (look ks ws x).isSome = decide (x ∈ ks) := by
  have := fR (x := x) h
  cases e : look ks ws x with
  | none => rw [decide_eq_false (this.mp e)]; rfl
  | some d => rw [decide_eq_true (Classical.byContradiction fun q => by rw [this.mpr q] at e; cases e)]; rfl
end
section
variable {prog : Program} {w : World} {A : Around} {d : Addr} {es : Array DictEntry} {ep : Nat}
theorem h8.at {h h' : Heap} (r : h8 h d es ep) (k : ∀ o, h.get? d = some o → h'.get? d = some o) : h8 h' d es ep := by
  obtain ⟨o, g, x⟩ := r
  exact ⟨o, k o g, x⟩
theorem z9 (hh : A.handled = none) (I d : Addr) (fh : d ≠ I) : Walks prog w A I [I, d] [I] es.size (fun i v => ∃ hi : i < es.size, v = es[i].key) (fun i h => h.get? I = some (qX d i es.size ep) ∧ h8 h d es ep) where
  sub := fun b hb => by simp at hb; simp [hb]
  frame := fun _ _ _ st hk => ⟨hk I (by simp) _ st.1, st.2.at fun o e => hk d (by simp) o e⟩
  item := fun i s Q E hi st hQ => zT st.1 st.2 hi fun h' hit hs => hQ _ h' s.toks ⟨hi, rfl⟩ ⟨hit, st.2.at fun o e => (hs.2 d fh).trans e⟩ fun b o hb e => (hs.2 b (fun h => hb (by simp [h]))).trans e
  done := fun s Q E st hQ => B5 hh st.1 st.2 (Nat.le_refl _) fun h' he => hQ h' s.toks fun b o hb e => he b o (fun h => hb (by simp [h])) e
  self := fun i _ _ _ st hQ => wpAny_pyIter_keyiter (d := d) (i := i) (n := es.size) (ep := ep) ⟨_, st.1, rfl, rfl⟩ hQ
theorem B8 (lo : (d == sysModules) = false) : PySem.W.KdlSrc prog w "dict" d d es.size (fun i v => ∃ hi : i < es.size, v = es[i].key) (fun h => h8 h d es ep) where
  type := fun _ r => by obtain ⟨o, g, c, _⟩ := r; exact ⟨o, g, c⟩
  there := fun _ r => by obtain ⟨o, g, c, _⟩ := r; exact ⟨Heap.lt_size g, Heap.lt_size g⟩
  keep := fun _ _ r hk => r.at fun o e => hk d (.inl rfl) o e
  notList := by decide
  notTuple := by decide
  hint := fun _ _ _ _ r hq => PySem.W.kdl_hint_dict (by obtain ⟨o, g, c, _⟩ := r; exact ⟨o, g, c⟩) hq
  iter := fun _ s hh r => ⟨_, _, (fun _ _ hq => zS lo r hq), z9 hh _ d (by obtain ⟨o, g, c, _⟩ := r; exact Nat.ne_of_lt (Heap.lt_size g)), Heap.get?_push_size _ rfl, r.at fun o e => Heap.get?_push_of_some _ e⟩
end
section
variable {X : Cx} {Γ : Gz}
def HI : List V → Hp → VK → Prop := fun xs H Q => ∃ a u, xs = [.ref a] ∧ ng u = true ∧ Rd H a u ∧ ∀ ps, ub H u ps → ps.length ≤ sizeLine ∧ ∀ l, H l = none → Q (.ref l) (upd H l (.lst (ps.map (·.1))))
theorem pN (hc : X.calm = true) : cR X (.type "list") HI := by
  intro pins s σ H xs us Q I r h
  obtain ⟨a, u, rfl, hu, hr, q⟩ := h
  obtain ⟨v, rfl, rx⟩ := vals1 r
  cases rx
  obtain ⟨o, es, ep, ps, rw⟩ := vG I.hok hr hu
  obtain ⟨hz, q⟩ := q ps rw.ps
  have hsz := rw.rel.1
  refine PySem.W.kdl_call (B8 rw.lo) (I.ok.hd hc) ⟨o, rw.obj, rw.cls, rw.data⟩ (by rw [hsz]; exact hz) fun h' tk acc c hk hD kS => ?_
  have rv : Vals (ps.map (·.1)) acc.toList := by
    refine gS (by have h1 := kS.1; rw [List.length_map, ← hsz, ← h1]; simp) fun i v e => ?_
    rw [List.getElem?_map, Option.map_eq_some_iff] at e
    obtain ⟨p, hp, rfl⟩ := e
    obtain ⟨hi, r1, _⟩ := rw.rel.2 i p hp
    have yP : i < acc.size := by rw [kS.1]; exact hi
    obtain ⟨_, ev⟩ := kS.2 i acc[i] (Array.getElem?_eq_getElem yP)
    exact ⟨acc[i], by rw [Array.getElem?_toList]; exact Array.getElem?_eq_getElem yP, by rw [ev]; exact r1⟩
  exact ⟨.ref s.heap.objs.size, _, I.laid (t' := tk) hk (Nat.le_refl _) (show ObjOk X.prog X.w _ h' _ (.lst (ps.map (·.1))) from ⟨by rw [List.length_map]; exact hz, acc.toList, c, rv, by rw [Array.toArray_toList]; exact hD⟩), rfl, q _ (I.hok.fresh (Nat.le_refl _))⟩
variable {K : PySem.W.Frag}
def keysL : Dv → Option (List Dv)
  | .dk ks _ => some (ks.map ny)
  | .dt ks _ => some (ks.map fun k => .tup (k.map ny))
  | _ => none
def zListDP (d : Dv) (M : Mh) (Q : ZK) : Prop := match keysL d with | some ys => ys.length ≤ sizeLine ∧ ∀ a, M a = none → Q (.ptr a) (aw M a (.lst ys)) | none => False
theorem B9 {β : Bz} {M : Mh} {H : Hp} {v : V} {d : Dv} {ys : List Dv} (m : Mz β M H) (r : Rz β M H v d) (h : keysL d = some ys) : ∃ a u, v = .ref a ∧ ng u = true ∧ Rd H a u ∧ ∀ ps, ub H u ps → aG β M H (ps.map (·.1)) ys := by
  unfold keysL at h
  split at h
  · rename_i ks ds
    cases h
    cases r with
    | @dk a _ vs _ f e hk hl hh =>
      refine ⟨a, .dK (ks.zip vs), rfl, rfl, e, fun ps Aa => ?_⟩
      cases Aa
      have e2 : ((ks.zip vs).map fun kv => (kV kv.1, kv.2)).map (·.1) = ks.map kV := by
        rw [List.map_map]
        show (ks.zip vs).map (kV ∘ Prod.fst) = _
        rw [← List.map_map, jQ hk]
      rw [e2]
      exact ud ks
  · rename_i ks ds
    cases h
    cases r with
    | @dt a _ vs _ f e hk hl hh =>
      refine ⟨a, .dT (ks.zip vs), rfl, rfl, e, fun ps Aa => ?_⟩
      cases Aa with
      | t _ bs hb sJ =>
        have hz : (ks.zip vs).length = ks.length := by rw [List.length_zip, ← hk, Nat.min_self]
        have e2 : ((bs.map V.ref).zip ((ks.zip vs).map (·.2))).map (·.1) = bs.map V.ref := jQ (by rw [List.length_map, List.length_map]; exact hb)
        rw [e2]
        refine ⟨by rw [List.length_map, List.length_map, hb, hz], fun i v d ha hd => ?_⟩
        rw [List.getElem?_map, Option.map_eq_some_iff] at ha hd
        obtain ⟨b, Kg, rfl⟩ := ha
        obtain ⟨k, KJ, rfl⟩ := hd
        have Of : i < (ks.zip vs).length := by rw [hz]; exact (List.getElem?_eq_some_iff.mp KJ).1
        have qY := List.getElem?_eq_getElem Of
        have ht := sJ i b _ Kg qY
        have ek : ((ks.zip vs)[i]).1 = k := by
          have : ((ks.zip vs).map (·.1))[i]? = some ((ks.zip vs)[i]).1 := by rw [List.getElem?_map, qY]; rfl
          rw [jQ hk, KJ] at this
          exact (Option.some.inj this).symm
        rw [ek] at ht
        have fb : Fz β M b := ⟨m.jG ht rfl, fun z => by
          obtain ⟨w, hw, n⟩ := m.hids b z
          rw [ht] at hw
          cases hw
          cases n⟩
        exact jF fb ht (ud k)
  · cases h
theorem ug (hc : X.calm = true) : eX Γ X (.type "list") (z1 zListDP) := ⟨_, pN hc, fun β xs ds M H Q Q' _ _ _ m rs z q => by
  unfold z1 at z
  split at z
  · obtain ⟨x, rfl, r⟩ := dG rs
    unfold zListDP at z
    split at z
    · rename_i ys Og
      obtain ⟨a, u, rfl, hu, hr, h⟩ := B9 m r Og
      refine ⟨a, u, rfl, hu, hr, fun ps Aa => ?_⟩
      have rp := h ps Aa
      refine ⟨by have := rp.len; rw [List.length_map] at this; rw [this]; exact z.1, fun l hl => ?_⟩
      have x2 := Ex.own m (.inr hl) rp
      exact q _ _ _ _ x2 (.ptr (by rw [updM_same]; rfl)) (z.2 l (m.free hl))
    · exact z.elim
  · exact z.elim⟩
end
def Mf (p q : d7) : d7 := fun ρ M R => p ρ M R ∨ q ρ M R
theorem Dm {Γ : Gz} {X : Cx} {tg e : Expr} {p q : d7} (h1 : QI Γ X tg e p) (h2 : QI Γ X tg e q) : QI Γ X tg e (Mf p q) := fun pins s σ H R I h => by
  obtain ⟨β, ρ, M, R', zr, hp | hq, k⟩ := h
  · exact h1 pins s σ H R I ⟨β, ρ, M, R', zr, hp, k⟩
  · exact h2 pins s σ H R I ⟨β, ρ, M, R', zr, hq, k⟩
end L2
open PySem L2 PyProof.Rows
local macro_rules | `(tactic| simp! only [$xs,*] $[$l]?) => `(tactic| simp only [zVar, zC, zOp, zII, zIC, zEq, zNe, scalZ, zIsN, isNonD, zSS, zTest, zBool, zChain, zAnd, zOr, zNot, zAndV, zNotV, zNil, zCons, zTup, zLst, zLstP, zCB, z1, zLenD, z2I, zAbs, zTuple, zSorted, zSet, intsM, itemsM, zIsInst, isD, zBM, tyZ, zAppend, zPop, zPopAt, zSetI, zgSub, zNext, zSeq, zDrop, zRet, zIfS, zgName, zgNil, zgCons, zgTup, zAsg, zFor, zForM, zComp, zCompP, zAll, zSetC, zBlock, zCall, zRaise, zstart, zEndsOf, ziTup, ziLst, ziRng1, ziRng2, ziEnumK, ziZip, seqK, zIx, zRangeT, zRangeP, zTruth, truD, zNoIf, zAllB, zGetR, zDIn, lookD, nowK, keyD, zDisp1K, zDisp1T, zDPut, zLenT, zCatLP, zClear, zIxS, zListDP, keysL, zCallL, List.getElem?_cons_zero, List.getElem?_cons_succ, List.map_cons, List.map_nil, List.nil_append, List.cons_append, List.length_cons, List.length_nil, List.replicate_succ, List.replicate_zero, List.set_cons_zero, List.set_cons_succ, Option.join_some, Nat.reduceAdd, Nat.reduceSub, Nat.sub_self, Nat.zero_add, if_true, if_false, Bool.false_eq_true, Bool.not_true, Bool.not_false, true_and, and_true, beq_self_eq_true, String.reduceBEq, zLoop, List.length_map, List.length_set, updM_same, updM_updM, List.append_nil, Int.zero_add, Int.toNat_natCast, rangeD_len, pairsD_len, Nat.min_self, atI_zero, decide_true, decide_false, Bool.not_eq_true, bne_self_eq_false, $xs,*] $[$l]?)
local macro_rules | `(tactic| dsimp! only [$xs,*] $[$l]?) => `(tactic| simp only [zVar, zC, zOp, zII, zIC, zEq, zNe, scalZ, zIsN, isNonD, zSS, zTest, zBool, zChain, zAnd, zOr, zNot, zAndV, zNotV, zNil, zCons, zTup, zLst, zLstP, zCB, z1, zLenD, z2I, zAbs, zTuple, zSorted, zSet, intsM, itemsM, zIsInst, isD, zBM, tyZ, zAppend, zPop, zPopAt, zSetI, zgSub, zNext, zSeq, zDrop, zRet, zIfS, zgName, zgNil, zgCons, zgTup, zAsg, zFor, zForM, zComp, zCompP, zAll, zSetC, zBlock, zCall, zRaise, zstart, zEndsOf, ziTup, ziLst, ziRng1, ziRng2, ziEnumK, ziZip, seqK, zIx, zRangeT, zRangeP, zTruth, truD, zNoIf, zAllB, zGetR, zDIn, lookD, nowK, keyD, zDisp1K, zDisp1T, zDPut, zLenT, zCatLP, zClear, zIxS, zListDP, keysL, zCallL, List.getElem?_cons_zero, List.getElem?_cons_succ, List.map_cons, List.map_nil, List.nil_append, List.cons_append, List.length_cons, List.length_nil, List.replicate_succ, List.replicate_zero, List.set_cons_zero, List.set_cons_succ, Option.join_some, Nat.reduceAdd, Nat.reduceSub, Nat.sub_self, Nat.zero_add, if_true, if_false, Bool.false_eq_true, Bool.not_true, Bool.not_false, true_and, and_true, beq_self_eq_true, String.reduceBEq, List.length_map, List.length_set, updM_same, updM_updM, List.append_nil, Int.zero_add, Int.toNat_natCast, rangeD_len, pairsD_len, Nat.min_self, atI_zero, decide_true, decide_false, Bool.not_eq_true, bne_self_eq_false, $xs,*] $[$l]?)
namespace My
open PySem L2 PyProof.Rows
def top (i : Nat) : Stmt := PySem.Challenge.pw_roadcall_k36_sets_met.main.body.getD i (.Pass ⟨0, 0, 0, 0⟩)
abbrev eY : Stmt := top 4
abbrev dh : Stmt := top 5
abbrev i6 : Stmt := top 9
abbrev i7 : Stmt := top 10
abbrev iA : Stmt := top 11
abbrev gv : Stmt := top 12
abbrev gV : Stmt := top 15
abbrev dH : Stmt := top 17
abbrev aE : Stmt := top 18
abbrev iB : Stmt := top 20
abbrev iC : Stmt := top 22
abbrev ft : Stmt := top 23
abbrev eS : Stmt := top 24
abbrev bV : Stmt := top 25
abbrev dw : Stmt := top 26
abbrev dI : Stmt := top 27
abbrev iD : Stmt := top 28
abbrev rV : Stmt := top 29
section
variable {P : Program} {w : World} {K : PySem.W.Frag} {mg : Str → Option Value} {base : Heap} {tb : da} {k : Nat} {f : Addr} {fd : FuncData} {ps : List Str}
theorem dy : aV ["_law_script", "_law_at", "_law_cell", "_law_mix", "_law_k"] ["_law_script", "_law_at"] (ai iC) := ⟨rfl, rfl, rfl, by decide +kernel, rfl, by decide +kernel, by decide +kernel⟩
theorem dJ : aV ["_law_bag_here", "_law_many", "_law_digit", "_law_number", "_law_room"] ["_law_bag_here", "_law_many"] (ai ft) := ⟨rfl, rfl, rfl, by decide +kernel, rfl, by decide +kernel, by decide +kernel⟩
theorem kA : aV ["_law_bag_here", "_law_many", "_law_free"] ["_law_bag_here", "_law_many"] (ai eS) := ⟨rfl, rfl, rfl, by decide +kernel, rfl, by decide +kernel, by decide +kernel⟩
theorem bf : aV ["_law_bag_here", "_law_most", "_law_many", "_law_ways", "_law_kind", "_law_rows", "_law_order_here", "_law_period", "_law_stays", "_law_k", "_law_place", "_law_onward", "_law_goals", "_law_turns"] ["_law_bag_here", "_law_most"] (ai bV) := ⟨rfl, rfl, rfl, by decide +kernel, rfl, by decide +kernel, by decide +kernel⟩
def HJ : cQ := fun ds M Q _ => ∃ (ns : List Int) (t : Int), ds = [.bo ns, .int t] ∧ ns.length ≤ 63 ∧ 0 ≤ t ∧ t ≤ 63 ∧ ∀ b, M b = none → Q (.ptr b) (aw M b .ck)
def Dn : cQ := fun ds M Q _ => ∃ (ns : List Int) (t : Int), ds = [.bo ns, .int t] ∧ ns.length ≤ 63 ∧ 0 ≤ t ∧ t ≤ 63 ∧ ∀ b c m, M b = none → 0 ≤ c → 0 ≤ m → Q (.ptr b) (aw M b (.lst [.int c, .int m]))
theorem xg (D : Df K mg "_law_bag" iC ["_law_script", "_law_at"] f fd) (bl : Bl mg) : FnOk P w K mg base bj 1 f fd ["_law_script", "_law_at"] (bp P w K tb Dn) := by
  refine fj D dy (fun ds M Q E hS => by obtain ⟨ns, t, e, _⟩ := hS; rw [e]; rfl) fun A outer s E Γ ds Q' E' hP hw hK ht hr hS => ?_
  obtain ⟨ns, t, e, hl, t0, t1, q⟩ := hS
  refine ⟨_, (aj (aR (i := 2) dy.nd rfl (Or.inl rfl) ay)
    (aj (bO (bh nj (qv 1) (av (dB (K := K) rfl hK) rfl bl.len_ PySem.boot_len (aa (qv 0) ae)) (aZ _))
      (ax (aR (i := 2) dy.nd rfl (Or.inl rfl) (av Jt rfl bl.abs_ Gi (aa (bP (Dk (K := K) rfl hK) (qv 0) (qv 1) (fun _ _ => rfl)) ae))))
      qss_nil)
    (aj (aR (i := 3) dy.nd rfl (Or.inl rfl) (a9 gq (a9 mi ay (qv 1)) ay))
    (aj (lj PassesOwn.never rfl (cH rfl bl.range_ (aa (av (zx rfl) rfl bl.min_ yu (aa (av (dB (K := K) rfl hK) rfl bl.len_ PySem.boot_len (aa (qv 0) ae)) (aa ay ae))) ae)) (fun Ab eP ew eK et => by have hP := hP.trans eP.symm; have hw := hw.trans ew.symm; have hK := hK.trans eK.symm; have ht := ht.trans et.symm; exact ⟨(aO (i := 4) dy.nd rfl (Or.inl rfl)), (ax (aR (i := 3) dy.nd rfl (Or.inl rfl) (a9 ix (a9 gq (a9 gq (a9 mi (qv 3) ay) (a9 ix (bP (Dk (K := K) rfl hK) (qv 0) (qv 4) (fun _ _ => rfl)) ay)) (qv 4)) ay)))⟩))
    (aj (bO (bh nj (qv 2) (a9 Js ay ay) (aZ _))
      (ax (aR (i := 2) dy.nd rfl (Or.inl rfl) ay))
      qss_nil)
    (ax (aP (pB (aa (qv 2) (aa (qv 3) ae)))))))))), ?_⟩
  subst e
  refine JC (fun ρ M => M = Γ.M0 ∧ ∃ c m x : Int, ∃ x4, 0 ≤ c ∧ 0 ≤ m ∧ ρ = [some (.bo ns), some (.int t), some (.int c), some (.int m), x4]) (fun N hN => ?_) ?_
  · refine JB (fun ρ M => M = Γ.M0 ∧ ∃ c : Int, 0 ≤ c ∧ ρ = [some (.bo ns), some (.int t), some (.int c), none, none]) (fun N hN => ?_) ?_
    · simp! only []
      refine ee (fun h => ?_) (fun _ => hN _ _ ⟨rfl, 0, by omega, rfl⟩)
      have ht : t < (ns.length : Int) := of_decide_eq_true h
      obtain ⟨k, rfl⟩ := Int.eq_ofNat_of_zero_le t0
      rw [zE (show k < ns.length by omega)]
      exact hN _ _ ⟨rfl, _, by split <;> omega, rfl⟩
    rintro ρ M ⟨rfl, c, hc, rfl⟩
    simp! only []
    refine ⟨.inl ⟨by decide, by decide⟩, by split <;> omega, by split <;> omega, ?_⟩
    refine hZ (fun i ρ M => M = Γ.M0 ∧ ∃ m : Int, ∃ x4, 0 ≤ m ∧ ρ = [some (.bo ns), some (.int t), some (.int c), some (.int m), x4]) ⟨rfl, _, _, by omega, rfl⟩ (fun i d ρ M N2 hd hJ Dp => ?_) (fun ρ M hJ => ?_)
    · obtain ⟨rfl, m, x4, hm, rfl⟩ := hJ
      obtain ⟨rfl, hi⟩ := eR hd
      have hi : i < ns.length := by split at hi <;> omega
      simp! only [zE hi]
      exact ⟨.inr ⟨by decide, by decide⟩, by decide, by decide, Dp _ _ ⟨rfl, _, _, Int.emod_nonneg _ (by decide), rfl⟩⟩
    · obtain ⟨rfl, m, x4, hm, rfl⟩ := hJ
      exact hN _ _ ⟨rfl, c, m, 0, x4, hc, hm, rfl⟩
  · rintro ρ M ⟨rfl, c, m, x, x4, hc, hm, rfl⟩
    simp! only []
    exact ⟨⟨by decide, by decide, by decide⟩, ee (fun _ => ⟨by decide, fun a ha => .inl (q a 0 m ha (by omega) hm)⟩) (fun _ => ⟨by decide, fun a ha => .inl (q a c m ha hc hm)⟩)⟩
theorem JE (G : FnOk P w K mg base bj k f fd ps (bp P w K tb Dn)) : FnOk P w K mg base bj k f fd ps (bp P w K tb HJ) := G.imp fun vs H Q E hS => by
  obtain ⟨β, ds, M, Q', E', eP, ew, eK, et, m, rs, ⟨ns, t, e, h1, h2, h3, h⟩, q, qe⟩ := hS
  refine ⟨β, ds, M, fun d M' => ∃ b c m, d = .ptr b ∧ M b = none ∧ 0 ≤ c ∧ 0 ≤ m ∧ M' = aw M b (.lst [.int c, .int m]), fun _ _ => False, eP, ew, eK, et, m, rs, ⟨ns, t, e, h1, h2, h3, fun b c m h4 h5 h6 => ⟨b, c, m, rfl, h4, h5, h6, rfl⟩⟩, fun d M' v H' x r hQ => ?_, fun _ _ _ _ h => h.elim⟩
  obtain ⟨b, c, m', rfl, hb, hc, hm, rfl⟩ := hQ
  have hB := zW x.mz hc hm
  exact q _ _ _ _ (Ex.sealed hb x hB) (r.dom (iG M b _ _)) (h b hb)
def oM : cQ := fun ds M Q _ => ∃ (b : Addr) (n : Int), ds = [.ptr b, .int n] ∧ M b = some .ck ∧ 1 ≤ n ∧ n < 1073741824 ∧ ∀ d : Nat, (d : Int) < n → Q (.int (d : Nat)) M
def Ac : cQ := fun ds M Q _ => ∃ (b : Addr) (n c m : Int), ds = [.ptr b, .int n] ∧ M b = some (.lst [.int c, .int m]) ∧ 0 ≤ c ∧ 0 ≤ m ∧ 1 ≤ n ∧ n < 1073741824 ∧ ∀ (d : Nat) (c m : Int), (d : Int) < n → 0 ≤ c → 0 ≤ m → Q (.int (d : Nat)) (aw M b (.lst [.int c, .int m]))
theorem uQ (D : Df K mg "_law_take" ft ["_law_bag_here", "_law_many"] f fd) : FnOk P w K mg base bj 1 f fd ["_law_bag_here", "_law_many"] (bp P w K tb Ac) := by
  refine fj D dJ (fun ds M Q E hS => by obtain ⟨b, n, c, m, e, _⟩ := hS; rw [e]; rfl) fun A outer s E Γ ds Q' E' hP hw hK ht hr hS => ?_
  obtain ⟨b, n, c, m, e, hb, hc, hm, n1, n2, q⟩ := hS
  refine ⟨_, (aj (bO (bh LW (bP (dj (K := K) rfl) (qv 0) ay (fun _ _ => rfl)) ay (aZ _))
      (aj (aR (i := 2) dJ.nd rfl (Or.inl rfl) (a9 ix (bP (dj (K := K) rfl) (qv 0) ay (fun _ _ => rfl)) (qv 1)))
    (aj (iV (a9 zt (bP (dj (K := K) rfl) (qv 0) ay (fun _ _ => rfl)) (qv 1)) (jO (qv 0) ay))
    (ax (aP (qv 2)))))
      qss_nil)
    (aj (aR (i := 3) dJ.nd rfl (Or.inl rfl) ay)
    (aj (aR (i := 4) dJ.nd rfl (Or.inl rfl) ay)
    (aj (ni PassesOwn.never (bh nj (qv 4) (qv 1) (aZ _))
      (aj (iV (a9 ix (a9 gq (a9 mi (bP (dj (K := K) rfl) (qv 0) ay (fun _ _ => rfl)) ay) ay) ay) (jO (qv 0) ay))
    (aj (aR (i := 3) dJ.nd rfl (Or.inl rfl) (a9 gq (a9 mi (qv 3) ay) (a9 ix (a9 mi (a9 zt (bP (dj (K := K) rfl) (qv 0) ay (fun _ _ => rfl)) ay) ay) ay)))
    (ax (aR (i := 4) dJ.nd rfl (Or.inl rfl) (a9 mi (qv 4) ay))))))
    (ax (aP (a9 ix (qv 3) (qv 1)))))))), ?_⟩
  subst e
  have Oh : ∀ x y : Int, di [Dv.int x, Dv.int y] 1 = some (.int y) := fun x y => dE (j := 1) rfl
  have Oi : gY 2 0 = some 0 := rfl
  have Oj : gY 2 1 = some 1 := rfl
  have fin : ∀ {i c m : Int} {M : Mh}, 0 ≤ c → 0 ≤ m → M = aw Γ.M0 b (.lst [.int c, .int m]) → gK Γ.M0 Q' (.int (i % n)) M := fun {i c m M} hc hm e => by
    obtain ⟨d, hd⟩ := Int.eq_ofNat_of_zero_le (Int.emod_nonneg i (show n ≠ 0 by omega))
    have := Int.emod_lt_of_pos i (show 0 < n by omega)
    rw [hd, e]
    exact .inl (q d c m (by omega) hc hm)
  simp! only [hb, Oi]
  refine ee (fun h => ?_) (fun h => ?_)
  · refine ⟨by omega, ⟨by omega, n2⟩, fin (Int.ediv_nonneg hc (by omega)) hm rfl⟩
  · refine ⟨fun k ρ M => ∃ num room c m x2, 0 ≤ num ∧ 1 ≤ room ∧ 0 ≤ c ∧ 0 ≤ m ∧ k = (n - room).toNat ∧ ρ = [some (.ptr b), some (.int n), x2, some (.int num), some (.int room)] ∧ M = aw Γ.M0 b (.lst [.int c, .int m]), ⟨_, 0, 1, c, m, _, by omega, by omega, hc, hm, rfl, rfl, (vH hb).symm⟩, ?_⟩
    rintro k ρ M ⟨num, room, c, m, x2, h1, h2, hc, hm, rfl, rfl, rfl⟩
    simp! only [Oh, Oj, updM_same]
    refine ee (fun h => ?_) (fun h => ⟨by omega, fin hc hm rfl⟩)
    have h := of_decide_eq_true h
    have m3 : 0 ≤ (m * 48271 + 7919) % 2147483647 := Int.emod_nonneg _ (by decide)
    have n3 : 0 ≤ (m * 48271 + 7919) % 2147483647 / 8 * 69621 % 1073741789 := Int.emod_nonneg _ (by decide)
    refine ⟨.inr ⟨by decide, by decide⟩, by decide, .inr ⟨by decide, by decide⟩, ⟨by decide, by decide⟩, .inr ⟨by decide, by decide⟩, by decide, .inr ⟨by decide, by decide⟩, _, ?_, _, _, c, _, _, ?_, ?_, hc, m3, rfl, rfl, rfl⟩ <;> omega
theorem HK (G : FnOk P w K mg base bj k f fd ps (bp P w K tb Ac)) : FnOk P w K mg base bj k f fd ps (bp P w K tb oM) := G.imp fun vs H Q E hS => by
  obtain ⟨β, ds, M, Q', E', eP, ew, eK, et, m, rs, ⟨b, n, e, hb, h1, h2, h⟩, q, qe⟩ := hS
  have eM := vH hb
  have d1 : ∀ o a, (M a).isSome = (aw M b o a).isSome := fun o a => by have := iG M b .ck o a; rwa [eM] at this
  rw [← eM] at m
  obtain ⟨c, m0, hc, hm, hO⟩ := HH m
  refine ⟨β, ds, aw M b (.lst [.int c, .int m0]), fun d M' => ∃ (k : Nat) (c' m' : Int), d = .int (k : Nat) ∧ (k : Int) < n ∧ 0 ≤ c' ∧ 0 ≤ m' ∧ M' = aw M b (.lst [.int c', .int m']), fun _ _ => False, eP, ew, eK, et, m.chg hO, ⟨rs.len, fun i v d x y => (rs.at' i v d x y).dom (d1 _)⟩, ⟨b, n, c, m0, e, updM_same, hc, hm, h1, h2, fun d c' m' h3 h4 h5 => ⟨d, c', m', rfl, h3, h4, h5, updM_updM⟩⟩, fun d M' v H' x r hQ => ?_, fun _ _ _ _ h => h.elim⟩
  obtain ⟨k, c', m', rfl, hk, Cv, kM, rfl⟩ := hQ
  have hB := zW x.mz Cv kM
  have x2 := Ex.chg (o2 := .ck) x hB
  rw [eM] at x2
  exact q _ _ _ _ x2 (r.dom fun a => (d1 _ a).symm) (h k hk)
theorem q9 {α β : Type} (f : α → β) : ∀ (l : List α) (i : Nat), (l.map f).eraseIdx i = (l.eraseIdx i).map f
  | [], _ => rfl
  | _ :: _, 0 => rfl
  | a :: l, i + 1 => by
    show f a :: (l.map f).eraseIdx i = f a :: (l.eraseIdx i).map f
    rw [q9 f l i]
theorem eV {α : Type} : ∀ (l : List α) (i : Nat) (h : i < l.length), (l[i] :: l.eraseIdx i).Perm l
  | a :: l, 0, _ => .refl _
  | a :: l, i + 1, h => by
    have h' : i < l.length := by simpa using h
    show (l[i] :: a :: l.eraseIdx i).Perm (a :: l)
    exact (List.Perm.swap a l[i] _).trans ((eV l i h').cons a)
structure eh (n : Nat) (os : List Int) : Prop where
  perm : os.Perm ((List.range n).map fun i : Nat => (i : Int))
theorem eh.len {n : Nat} {os : List Int} (h : eh n os) : os.length = n := by
  have := h.perm.length_eq
  simpa using this
theorem eh.mem {n : Nat} {os : List Int} (h : eh n os) {x : Int} (hx : x ∈ os) : 0 ≤ x ∧ x < n := by
  have := h.perm.mem_iff.mp hx
  obtain ⟨i, hi, rfl⟩ := List.mem_map.mp this
  have := List.mem_range.mp hi
  omega
theorem eh.at {n : Nat} {os : List Int} (h : eh n os) {i : Nat} (hi : i < n) : ∃ x : Int, di (os.map Dv.int) (i : Int) = some (.int x) ∧ 0 ≤ x ∧ x < n := by
  have hl : i < os.length := by rw [h.len]; exact hi
  exact ⟨os[i], dE (by rw [List.getElem?_map, List.getElem?_eq_getElem hl]; rfl), h.mem (List.getElem_mem hl)⟩
def Ad : cQ := fun ds M Q _ => ∃ (b : Addr) (n : Nat), ds = [.ptr b, .int (n : Nat)] ∧ M b = some .ck ∧ n ≤ 100 ∧ ∀ os, eh n os → Q (jm os) M
def Dq : cQ := fun ds M Q _ => ∃ (b : Addr) (most : Nat), ds = [.ptr b, .int (most : Nat)] ∧ M b = some .ck ∧ 1 ≤ most ∧ most ≤ 9 ∧ ∀ ah n, dX ah n → ah.length ≤ most → Q (eN ah) M
theorem EG {n d : Nat} (h : d < n) : seqIndex? (d : Int) n = some d := (o7 (n := n) (i := (d : Int)) (j := d) (by unfold gY; rw [if_pos (by omega), if_pos (by omega)]; rfl)).1
theorem uh {f1 : Addr} {dA : FuncData} (D : Df K mg "_law_order" eS ["_law_bag_here", "_law_many"] f fd)
    (au : Df K mg "_law_take" ft ["_law_bag_here", "_law_many"] f1 dA) (bB : FnOk P w K mg base bj 1 f1 dA ["_law_bag_here", "_law_many"] (bp P w K tb oM)) (bl : Bl mg) : FnOk P w K mg base bj 2 f fd ["_law_bag_here", "_law_many"] (bp P w K tb Ad) := by
  refine fj D kA (fun ds M Q E hS => by obtain ⟨b, n, e, _⟩ := hS; rw [e]; rfl) fun A outer s E Γ ds Q' E' hP hw hK ht hr hS => ?_
  obtain ⟨b, n, e, hb, hn, q⟩ := hS
  refine ⟨_, (aj (aR (i := 2) kA.nd rfl (Or.inr rfl) (rD rfl rfl bl.list_ rfl bl.range_ (qv 1)))
    (ax (aP (c5 (N' := ["_law_k", "_law_free", "_law_bag_here", "_law_many"]) (tn := 1) (idx := [2, 0, 1]) rfl (show aF ["_law_bag_here", "_law_many", "_law_free"] (ai eS) _ ["_law_k", "_law_free", "_law_bag_here", "_law_many"] 1 [2, 0, 1] from by decide +kernel) (cH rfl bl.range_ (aa (qv 1) ae)) (fun _ _ _ _ _ => (aO (i := 0) (show List.Nodup [("_law_k" : Str), ("_law_free" : Str), ("_law_bag_here" : Str), ("_law_many" : Str)] from by decide +kernel) rfl (Or.inl rfl))) (fun _ _ _ _ _ => bY) (fun _ _ _ _ _ => (rT (K := K) rfl PySem.F.plainAttrs_list PySem.F.slot_list_pop PySem.F.type_list_pop vy (qv 1) (aa (aJ bB (hr.mono (by decide)) rfl au.mg au.fn.kp au.bd bb hP hw hK ht XR.none (aa (qv 2) (aa (a9 Jr (qv 3) (qv 0)) ae))) ae))))))), ?_⟩
  subst e
  simp! only []
  refine ⟨by omega, by omega, fun a ha => ⟨by omega, by omega, ?_⟩⟩
  have KL : b ≠ a := fun z => by rw [z, ha] at hb; cases hb
  refine ⟨Nat.lt_of_le_of_lt hn (by decide), fH (acc := []) (fun acc τ M => ∃ rest got : List Int, acc = got.map Dv.int ∧ (∃ x, τ = [x, some (.ptr a), some (.ptr b), some (.int (n : Nat))]) ∧ M a = some (.lst (rest.map .int)) ∧ (∀ c, c ≠ a → M c = Γ.M0 c) ∧ (got ++ rest).Perm ((List.range n).map fun i : Nat => (i : Int))) ⟨(List.range n).map fun i : Nat => (i : Int), [], rfl, ⟨_, rfl⟩, by rw [updM_same, iX, List.map_map]; rfl, fun c hc => ak hc, .refl _⟩ (fun i d acc τ M hd hl ⟨rest, got, e1, ⟨x, e2⟩, h1, h2, h3⟩ R hR => ?_) (fun ys τ M hl ⟨rest, got, e1, ⟨x, e2⟩, h1, h2, h3⟩ => ?_)⟩
  · subst e1 e2
    obtain ⟨rfl, hi⟩ := eR hd
    have hlen : got.length + rest.length = n := by have := h3.length_eq; simpa using this
    have hl : got.length = i := by simpa using hl
    simp! only []
    refine ⟨by rw [h1]; trivial, b, _, rfl, (by rw [h2 b KL]; exact hb), by omega, by omega, fun d hd => ?_⟩
    have qw : d < rest.length := by omega
    simp only [h1, List.length_map, EG qw, List.getElem?_map, List.getElem?_eq_getElem qw, Option.map_some]
    refine ⟨by omega, by omega, hR _ _ _ ⟨rest.eraseIdx d, got ++ [rest[d]], by rw [List.map_append]; rfl, ⟨_, rfl⟩, by rw [updM_same, q9], fun c hc => by rw [ak hc]; exact h2 c hc, ?_⟩⟩
    refine List.Perm.trans ?_ h3
    rw [List.append_assoc]
    exact List.Perm.append_left got (eV rest d qw)
  · simp only [List.nil_append] at e1
    subst e1
    have hlen : got.length + rest.length = n := by have := h3.length_eq; simpa using this
    have hl : got.length = n := by simpa [rangeD_len] using hl
    have Ae : rest = [] := List.eq_nil_of_length_eq_zero (by omega)
    rw [Ae, List.append_nil] at h3
    exact qO (fun c o e => by rw [h2 c (fun z => by rw [z, ha] at e; cases e)]; exact e) (.lst (gL _)) (q got ⟨h3⟩)
end
section
variable {P : Program} {w : World} {K : PySem.W.Frag} {mg : Str → Option Value} {base : Heap} {tb : da}
def eZ (n ways : Nat) (row : List Int) : Prop := row.length = ways ∧ ∀ x ∈ row, 0 ≤ x ∧ x < (n : Int)
structure cL (M0 M : Mh) (r : Addr) (as : List Addr) (n ways : Nat) : Prop where
  kp : Keeps M0 M
  r0 : M0 r = none
  rm : M r = some (.lst (as.map .ptr))
  fr : ∀ a ∈ as, M0 a = none ∧ a ≠ r
  len : as.length = n
  row : ∀ a ∈ as, ∃ row : List Int, M a = some (.lst (row.map .int)) ∧ eZ n ways row
  pin : ∀ b o, M b = some o → M0 b = some o ∨ b = r ∨ (∃ row : List Int, o = .lst (row.map .int)) ∨ ∃ bs : List Addr, o = .lst (bs.map .ptr) ∧ ∀ c ∈ bs, c ≠ r ∧ ∃ o, M c = some o
theorem cL.sV {M0 M : Mh} {r : Addr} {as : List Addr} {n ways : Nat} (h : cL M0 M r as n ways) {a : Addr} (ha : a ∈ as) {row : List Int} (o : eZ n ways row) : cL M0 (aw M a (.lst (row.map .int))) r as n ways := by
  obtain ⟨f0, f1⟩ := h.fr a ha
  refine ⟨.upd f0 h.kp, h.r0, by rw [ak (Ne.symm f1)]; exact h.rm, h.fr, h.len, fun c hc => ?_, fun b u e => ?_⟩
  · by_cases z : c = a
    · subst z; exact ⟨row, updM_same, o⟩
    · rw [ak z]; exact h.row c hc
  · by_cases z : b = a
    · subst z; rw [updM_same] at e; cases e; exact .inr (.inr (.inl ⟨row, rfl⟩))
    · rw [ak z] at e
      rcases h.pin b u e with q | q | q | ⟨bs, q1, q2⟩
      · exact .inl q
      · exact .inr (.inl q)
      · exact .inr (.inr (.inl q))
      · refine .inr (.inr (.inr ⟨bs, q1, fun c hc => ⟨(q2 c hc).1, ?_⟩⟩))
        by_cases z : c = a
        · subst z; exact ⟨_, updM_same⟩
        · rw [ak z]; exact (q2 c hc).2
theorem cL.put {M0 M : Mh} {r : Addr} {as : List Addr} {n ways : Nat} (h : cL M0 M r as n ways) {a : Addr} (ha : M a = none) {row : List Int} (o : eZ n ways row) {i : Nat} (hi : i < n) : cL M0 (aw (aw M a (.lst (row.map .int))) r (.lst ((as.map .ptr).set i (.ptr a)))) r (as.set i a) n ways := by
  have nr : a ≠ r := fun z => by rw [z, h.rm] at ha; cases ha
  have a0 : M0 a = none := by
    cases e : M0 a with
    | none => rfl
    | some u => rw [h.kp a u e] at ha; cases ha
  have Ol : a ∉ as := fun z => by obtain ⟨row, e, _⟩ := h.row a z; rw [ha] at e; cases e
  refine ⟨.upd h.r0 (.upd a0 h.kp), h.r0, by rw [updM_same, List.map_set], fun c hc => ?_, by rw [List.length_set]; exact h.len, fun c hc => ?_, fun b u e => ?_⟩
  · rcases List.mem_or_eq_of_mem_set hc with z | z
    · exact h.fr c z
    · rw [z]; exact ⟨a0, nr⟩
  · rcases List.mem_or_eq_of_mem_set hc with z | z
    · have n1 := (h.fr c z).2
      have n2 : c ≠ a := fun e => Ol (e ▸ z)
      rw [ak n1, ak n2]; exact h.row c z
    · rw [z, ak nr, updM_same]; exact ⟨row, rfl, o⟩
  · by_cases z : b = r
    · exact .inr (.inl z)
    · rw [ak z] at e
      by_cases z2 : b = a
      · subst z2; rw [updM_same] at e; cases e; exact .inr (.inr (.inl ⟨row, rfl⟩))
      · rw [ak z2] at e
        rcases h.pin b u e with q | q | q | ⟨bs, q1, q2⟩
        · exact .inl q
        · exact .inr (.inl q)
        · exact .inr (.inr (.inl q))
        · refine .inr (.inr (.inr ⟨bs, q1, fun c hc => ⟨(q2 c hc).1, ?_⟩⟩))
          rw [ak (q2 c hc).1]
          by_cases z : c = a
          · subst z; exact ⟨_, updM_same⟩
          · rw [ak z]; exact (q2 c hc).2
structure i9 (M0 M : Mh) : Prop where
  kp : Keeps M0 M
  pin : ∀ b o, M b = some o → M0 b = some o ∨ (∃ row : List Int, o = .lst (row.map .int)) ∨ ∃ bs : List Addr, o = .lst (bs.map .ptr) ∧ ∀ c ∈ bs, ∃ o, M c = some o
theorem i9.refl {M0 : Mh} : i9 M0 M0 := ⟨.refl, fun b o e => .inl e⟩
theorem iE {M0 M : Mh} (h : Keeps M0 M) {a : Addr} (ha : M a = none) : M0 a = none := by
  cases e : M0 a with
  | none => rfl
  | some u => rw [h a u e] at ha; cases ha
theorem i9.row {M0 M : Mh} (h : i9 M0 M) {a : Addr} (ha : M a = none) (row : List Int) : i9 M0 (aw M a (.lst (row.map .int))) := by
  refine ⟨.upd (iE h.kp ha) h.kp, fun b o e => ?_⟩
  by_cases z : b = a
  · subst z; rw [updM_same] at e; cases e; exact .inr (.inl ⟨row, rfl⟩)
  · rw [ak z] at e
    rcases h.pin b o e with q | q | ⟨bs, q1, q2⟩
    · exact .inl q
    · exact .inr (.inl q)
    · refine .inr (.inr ⟨bs, q1, fun c hc => ?_⟩)
      by_cases z : c = a
      · subst z; exact ⟨_, updM_same⟩
      · rw [ak z]; exact q2 c hc
theorem cL.own {M0 M : Mh} {r : Addr} {as : List Addr} {n ways : Nat} (h : cL M0 M r as n ways) : i9 M0 M := ⟨h.kp, fun b o e => by
  rcases h.pin b o e with q | q | q | ⟨bs, q1, q2⟩
  · exact .inl q
  · subst q; rw [h.rm] at e; cases e
    exact .inr (.inr ⟨as, rfl, fun c hc => let ⟨row, e, _⟩ := h.row c hc; ⟨_, e⟩⟩)
  · exact .inr (.inl q)
  · exact .inr (.inr ⟨bs, q1, fun c hc => (q2 c hc).2⟩)⟩
theorem cL.mk' {M0 M : Mh} {r : Addr} {as : List Addr} {n ways : Nat} (h : i9 M0 M) (hr : M r = none) (hl : as.length = n) (ha : ∀ a ∈ as, M0 a = none ∧ ∃ row : List Int, M a = some (.lst (row.map .int)) ∧ eZ n ways row) : cL M0 (aw M r (.lst (as.map .ptr))) r as n ways := by
  have ne : ∀ {c o}, M c = some o → c ≠ r := fun e z => by rw [z, hr] at e; cases e
  refine ⟨.upd (iE h.kp hr) h.kp, iE h.kp hr, updM_same, fun a h => ?_, hl, fun a h => ?_, fun b o e => ?_⟩
  · obtain ⟨h0, row, e, _⟩ := ha a h
    exact ⟨h0, ne e⟩
  · obtain ⟨h0, row, e, o⟩ := ha a h
    exact ⟨row, by rw [ak (ne e)]; exact e, o⟩
  · by_cases z : b = r
    · exact .inr (.inl z)
    · rw [ak z] at e
      rcases h.pin b o e with q | q | ⟨bs, q1, q2⟩
      · exact .inl q
      · exact .inr (.inr (.inl q))
      · refine .inr (.inr (.inr ⟨bs, q1, fun c hc => ?_⟩))
        obtain ⟨u, e⟩ := q2 c hc
        exact ⟨ne e, u, by rw [ak (ne e)]; exact e⟩
theorem rW {g : cx} {te : aI} {n : Nat} {M1 : Mh} (T : aA → Prop) {ds : List Dv} {τ : aA} {Q : List Dv → Mh → Prop} (h0 : T τ) (h : ∀ d ∈ ds, ∀ τ, T τ → ∀ R : aA → ZK, (∀ (x : Int) aC, 0 ≤ x → x < (n : Int) → T aC → R aC (.int x) M1) → g d τ M1 fun aC M2 => te aC M2 (R aC)) (q : ∀ row : List Int, row.length = ds.length → (∀ x ∈ row, 0 ≤ x ∧ x < (n : Int)) → Q (row.map .int) M1) : gp g zNoIf te ds τ M1 Q := by
  refine fH (acc := []) (fun acc τ M => ∃ row : List Int, acc = row.map Dv.int ∧ (∀ x ∈ row, 0 ≤ x ∧ x < (n : Int)) ∧ T τ ∧ M = M1) ⟨[], rfl, (fun _ h => nomatch h), h0, rfl⟩ (fun i d acc τ M hd _ ⟨row, e1, hr, ht, e2⟩ R hR => ?_) (fun ys τ M hl ⟨row, e1, hr, ht, e2⟩ => ?_)
  · subst e1 e2
    refine h d (List.mem_of_getElem? hd) τ ht R fun x aC x0 x1 t2 => hR _ _ _ ⟨row ++ [x], by rw [List.map_append]; rfl, fun y hy => ?_, t2, rfl⟩
    rcases List.mem_append.mp hy with z | z
    · exact hr y z
    · rw [List.mem_singleton] at z; rw [z]; exact ⟨x0, x1⟩
  · rw [List.nil_append] at e1
    subst e1 e2
    exact q row (by simpa using hl) hr
def dM (x : Option Dv) : Prop := ∀ M d, x = some d → Pin M d
theorem dM.none : dM none := fun _ _ h => nomatch h
theorem dM.int (i : Int) : dM (some (.int i)) := fun _ _ h => by cases h; exact .int i
theorem dM.lI (ns : List Int) : dM (some (jm ns)) := fun _ _ h => by cases h; exact .lst (gL ns)
theorem ra {M0 M : Mh} {as : List Addr} {n ways : Nat} {T : Prop} (hO : i9 M0 M) (ha : ∀ a ∈ as, M0 a = none ∧ ∃ row : List Int, M a = some (.lst (row.map .int)) ∧ eZ n ways row) {a : Addr} (h : M a = none) {row : List Int} (o : eZ n ways row) (t : T) :
    ∃ KN : List Addr, as.map Dv.ptr ++ [Dv.ptr a] = KN.map Dv.ptr ∧ T ∧ i9 M0 (aw M a (.lst (row.map .int))) ∧ ∀ c ∈ KN, M0 c = none ∧ ∃ xh : List Int, aw M a (.lst (row.map .int)) c = some (.lst (xh.map .int)) ∧ eZ n ways xh := by
  refine ⟨as ++ [a], by rw [List.map_append]; rfl, t, hO.row h row, fun c hc => ?_⟩
  rcases List.mem_append.mp hc with z | z
  · obtain ⟨h0, xh, e, o'⟩ := ha c z
    have ne : c ≠ a := fun q => by rw [q, h] at e; cases e
    exact ⟨h0, xh, by rw [ak ne]; exact e, o'⟩
  · rw [List.mem_singleton] at z
    subst z
    exact ⟨iE hO.kp h, row, updM_same, o⟩
theorem my {n d : Nat} (h : d < n) : gY n (d : Int) = some d := by unfold gY; rw [if_pos (by omega), if_pos (by omega)]; rfl
theorem ui (row : List Int) (t : Nat) (x : Int) : (row.map Dv.int).set t (.int x) = (row.set t x).map Dv.int := by rw [List.map_set]
theorem eZ.set {n ways : Nat} {row : List Int} (h : eZ n ways row) {t : Nat} {x : Int} (x0 : 0 ≤ x) (x1 : x < (n : Int)) : eZ n ways (row.set t x) := ⟨by rw [List.length_set]; exact h.1, fun y hy => by
  rcases List.mem_or_eq_of_mem_set hy with z | z
  · exact h.2 y z
  · rw [z]; exact ⟨x0, x1⟩⟩
def oN (os : List Int) : Dv → Int | .int j => os.getD j.toNat 0 | _ => 0
theorem uj {os : List Int} {j : Nat} {x : Int} (h : di (os.map Dv.int) (j : Int) = some (.int x)) : oN os (.int (j : Nat)) = x := by
  by_cases hj : j < os.length
  · rw [dE (j := j) (v := Dv.int os[j]) (by rw [List.getElem?_map, List.getElem?_eq_getElem hj]; rfl)] at h
    cases h
    show os.getD (Int.toNat (j : Int)) 0 = _
    rw [Int.toNat_natCast, List.getD_eq_getElem?_getD, List.getElem?_eq_getElem hj]; rfl
  · unfold di gY at h
    rw [if_pos (by omega), if_neg (by simp; omega)] at h
    cases h
def Ca (per i : Nat) : Dv → Bool | .int j => decide (j % (per : Int) = ((i : Int) + 1) % (per : Int)) | _ => false
theorem Cb {n per i : Nat} {os : List Int} (lC : eh n os) (p1 : 1 ≤ per) (pn : per ≤ n) : ∃ gs : List Int, ((dg 0 n).filter (Ca per i)).map (fun d => Dv.int (oN os d)) = gs.map Dv.int ∧ 1 ≤ gs.length ∧ gs.length ≤ n ∧ ∀ x ∈ gs, 0 ≤ x ∧ x < (n : Int) := by
  refine ⟨((dg 0 n).filter (Ca per i)).map (oN os), by rw [List.map_map]; rfl, ?_, ?_, fun x hx => ?_⟩
  · rw [List.length_map]
    refine List.length_pos_of_mem (a := Dv.int (((i + 1) % per : Nat) : Int)) (List.mem_filter.mpr ⟨?_, ?_⟩)
    · have : (i + 1) % per < per := Nat.mod_lt _ (by omega)
      exact List.mem_of_getElem? (i := (i + 1) % per) (by rw [dg, List.getElem?_map, List.getElem?_range (by omega)]; simp)
    · show decide _ = true
      rw [decide_eq_true_eq]
      push_cast
      exact Int.emod_emod_of_dvd _ (Int.dvd_refl _)
  · rw [List.length_map]
    exact Nat.le_trans (List.length_filter_le _ _) (by rw [rangeD_len]; exact Nat.le_refl _)
  · obtain ⟨d, hd, rfl⟩ := List.mem_map.mp hx
    obtain ⟨j, hj, rfl⟩ := oC (List.mem_filter.mp hd).1
    rw [Int.zero_add]
    obtain ⟨gx, mU, g0, g1⟩ := lC.at hj
    rw [uj mU]
    exact ⟨g0, g1⟩
theorem xi {f f1 f2 : Addr} {fd dA fd2 : FuncData} (D : Df K mg "_law_net" bV ["_law_bag_here", "_law_most"] f fd)
    (au : Df K mg "_law_take" ft ["_law_bag_here", "_law_many"] f1 dA) (bB : FnOk P w K mg base bj 1 f1 dA ["_law_bag_here", "_law_many"] (bp P w K tb oM))
    (bW : Df K mg "_law_order" eS ["_law_bag_here", "_law_many"] f2 fd2) (lD : FnOk P w K mg base bj 2 f2 fd2 ["_law_bag_here", "_law_many"] (bp P w K tb Ad)) (bl : Bl mg) : FnOk P w K mg base bj 3 f fd ["_law_bag_here", "_law_most"] (bp P w K tb Dq) := by
  refine fj D bf (fun ds M Q E hS => by obtain ⟨b, n, e, _⟩ := hS; rw [e]; rfl) fun A outer s E Γ ds Q' E' hP hw hK ht hr hS => ?_
  obtain ⟨b, most, e, hb, h1, h9, q⟩ := hS
  refine ⟨_, (aj (aR (i := 2) bf.nd rfl (Or.inr rfl) (a9 gq ay (aJ bB (hr.mono (by decide)) rfl au.mg au.fn.kp au.bd bb hP hw hK ht XR.none (aa (qv 0) (aa (qv 1) ae)))))
    (aj (aR (i := 3) bf.nd rfl (Or.inr rfl) (a9 gq ay (aJ bB (hr.mono (by decide)) rfl au.mg au.fn.kp au.bd bb hP hw hK ht XR.none (aa (qv 0) (aa ay ae)))))
    (aj (aR (i := 4) bf.nd rfl (Or.inl rfl) (aJ bB (hr.mono (by decide)) rfl au.mg au.fn.kp au.bd bb hP hw hK ht XR.none (aa (qv 0) (aa ay ae))))
    (aj (uO (i := 5) bf.nd rfl rfl (N' := ["_law_place", "_law_bag_here", "_law_many", "_law_ways"]) (tn := 1) (idx := [0, 2, 3]) rfl (show aF ["_law_bag_here", "_law_most", "_law_many", "_law_ways", "_law_kind", "_law_rows", "_law_order_here", "_law_period", "_law_stays", "_law_k", "_law_place", "_law_onward", "_law_goals", "_law_turns"] (ai bV) _ ["_law_place", "_law_bag_here", "_law_many", "_law_ways"] 1 [0, 2, 3] from by decide +kernel) (cH rfl bl.range_ (aa (qv 2) ae)) (fun _ _ _ _ _ => (aO (i := 0) (show List.Nodup [("_law_place" : Str), ("_law_bag_here" : Str), ("_law_many" : Str), ("_law_ways" : Str)] from by decide +kernel) rfl (Or.inl rfl))) (fun _ _ _ _ _ => bY) (fun _ _ _ _ _ => (iW (N' := ["_law_road", "_law_bag_here", "_law_many"]) (tn := 1) (idx := [1, 2]) rfl (aF.rel (show aF ["_law_place", "_law_bag_here", "_law_many", "_law_ways"] _ _ ["_law_road", "_law_bag_here", "_law_many"] 1 [1, 2] from by decide +kernel)) (cH rfl bl.range_ (aa (qv 3) ae)) (fun _ _ _ _ _ => (aO (i := 0) (show List.Nodup [("_law_road" : Str), ("_law_bag_here" : Str), ("_law_many" : Str)] from by decide +kernel) rfl (Or.inl rfl))) (fun _ _ _ _ _ => bY) (fun _ _ _ _ _ => (aJ bB (hr.mono (by decide)) rfl au.mg au.fn.kp au.bd bb hP hw hK ht XR.none (aa (qv 1) (aa (qv 2) ae)))))))
    (aj (aR (i := 6) bf.nd rfl (Or.inr rfl) (aJ lD (hr.mono (by decide)) rfl bW.mg bW.fn.kp bW.bd bb hP hw hK ht XR.none (aa (qv 0) (aa (qv 2) ae))))
    (aj (aR (i := 7) bf.nd rfl (Or.inr rfl) (a9 gq ay (aJ bB (hr.mono (by decide)) rfl au.mg au.fn.kp au.bd bb hP hw hK ht XR.none (aa (qv 0) (aa (qv 2) ae)))))
    (aj (aR (i := 8) bf.nd rfl (Or.inr rfl) (aJ bB (hr.mono (by decide)) rfl au.mg au.fn.kp au.bd bb hP hw hK ht XR.none (aa (qv 0) (aa ay ae))))
    (aj (lj PassesOwn.never rfl (En true (K := K) rfl rfl bl.enumerate_ (qv 6)) (fun Ab eP ew eK et => by have hP := hP.trans eP.symm; have hw := hw.trans ew.symm; have hK := hK.trans eK.symm; have ht := ht.trans et.symm; exact ⟨(lg (n := 2) rfl (dq (aO (i := 9) bf.nd rfl (Or.inr rfl)) (dq (aO (i := 10) bf.nd rfl (Or.inr rfl)) jL))), (aj (aR (i := 11) bf.nd rfl (Or.inr rfl) (bP (dj (K := K) rfl) (qv 6) (a9 ix (a9 gq (qv 9) ay) (qv 2)) (fun _ _ => rfl)))
    (aj (bO (tJ nj nj ay (qv 4) ay)
      (ax (iV (qv 11) (jO (bP (dj (K := K) rfl) (qv 5) (qv 10) (fun _ _ => rfl)) (aJ bB (hr.mono (by decide)) rfl au.mg au.fn.kp au.bd bb hP hw hK ht XR.none (aa (qv 0) (aa (qv 3) ae))))))
      qss_nil)
    (aj (bO (bh jZ (qv 4) ay (aZ _))
      (aj (aR (i := 12) bf.nd rfl (Or.inr rfl) (c5 (N' := ["_law_j", "_law_order_here", "_law_period", "_law_k"]) (tn := 1) (idx := [6, 7, 9]) rfl (show aF ["_law_bag_here", "_law_most", "_law_many", "_law_ways", "_law_kind", "_law_rows", "_law_order_here", "_law_period", "_law_stays", "_law_k", "_law_place", "_law_onward", "_law_goals", "_law_turns"] (ai bV) _ ["_law_j", "_law_order_here", "_law_period", "_law_k"] 1 [6, 7, 9] from by decide +kernel) (cH rfl bl.range_ (aa (qv 2) ae)) (fun _ _ _ _ _ => (aO (i := 0) (show List.Nodup [("_law_j" : Str), ("_law_order_here" : Str), ("_law_period" : Str), ("_law_k" : Str)] from by decide +kernel) rfl (Or.inl rfl))) (fun _ _ _ _ _ => (Ek (bh jZ (a9 ix (qv 0) (qv 2)) (a9 ix (a9 gq (qv 3) ay) (qv 2)) (aZ _)))) (fun _ _ _ _ _ => (bP (dj (K := K) rfl) (qv 1) (qv 0) (fun _ _ => rfl)))))
    (ax (iV (iW (N' := ["_law_road", "_law_goals", "_law_bag_here"]) (tn := 1) (idx := [12, 0]) rfl (show aF ["_law_bag_here", "_law_most", "_law_many", "_law_ways", "_law_kind", "_law_rows", "_law_order_here", "_law_period", "_law_stays", "_law_k", "_law_place", "_law_onward", "_law_goals", "_law_turns"] (ai bV) _ ["_law_road", "_law_goals", "_law_bag_here"] 1 [12, 0] from by decide +kernel) (cH rfl bl.range_ (aa (qv 3) ae)) (fun _ _ _ _ _ => (aO (i := 0) (show List.Nodup [("_law_road" : Str), ("_law_goals" : Str), ("_law_bag_here" : Str)] from by decide +kernel) rfl (Or.inl rfl))) (fun _ _ _ _ _ => bY) (fun _ _ _ _ _ => (bP (dj (K := K) rfl) (qv 1) (aJ bB (hr.mono (by decide)) rfl au.mg au.fn.kp au.bd bb hP hw hK ht XR.none (aa (qv 2) (aa (av (dB (K := K) rfl hK) rfl bl.len_ PySem.boot_len (aa (qv 1) ae)) ae))) (fun _ _ => rfl)))) (jO (qv 5) (qv 10)))))
      qss_nil)
    (ax (bO (bh jZ (qv 4) ay (aZ _))
      (ax (iV (a9 (EE (K := K) rfl) (zf (aa (qv 11) ae)) (c5 (N' := ["_law_road", "_law_stays", "_law_onward", "_law_place"]) (tn := 1) (idx := [8, 11, 10]) rfl (show aF ["_law_bag_here", "_law_most", "_law_many", "_law_ways", "_law_kind", "_law_rows", "_law_order_here", "_law_period", "_law_stays", "_law_k", "_law_place", "_law_onward", "_law_goals", "_law_turns"] (ai bV) _ ["_law_road", "_law_stays", "_law_onward", "_law_place"] 1 [8, 11, 10] from by decide +kernel) (zk rfl bl.range_ (aa ay (aa (qv 3) ae))) (fun _ _ _ _ _ => (aO (i := 0) (show List.Nodup [("_law_road" : Str), ("_law_stays" : Str), ("_law_onward" : Str), ("_law_place" : Str)] from by decide +kernel) rfl (Or.inl rfl))) (fun _ _ _ _ _ => bY) (fun _ _ _ _ _ => (bP (dj (K := K) rfl) (zf (aa (qv 2) (aa (qv 3) ae))) (qv 1) (fun _ _ => rfl))))) (jO (qv 5) (qv 10))))
      qss_nil)))))⟩))
    (aj (bO (bh jZ (qv 4) ay (aZ _))
      (aj (aR (i := 13) bf.nd rfl (Or.inr rfl) (c5 (N' := ["_law_road", "_law_bag_here", "_law_many"]) (tn := 1) (idx := [0, 2]) rfl (show aF ["_law_bag_here", "_law_most", "_law_many", "_law_ways", "_law_kind", "_law_rows", "_law_order_here", "_law_period", "_law_stays", "_law_k", "_law_place", "_law_onward", "_law_goals", "_law_turns"] (ai bV) _ ["_law_road", "_law_bag_here", "_law_many"] 1 [0, 2] from by decide +kernel) (cH rfl bl.range_ (aa (qv 3) ae)) (fun _ _ _ _ _ => (aO (i := 0) (show List.Nodup [("_law_road" : Str), ("_law_bag_here" : Str), ("_law_many" : Str)] from by decide +kernel) rfl (Or.inl rfl))) (fun _ _ _ _ _ => bY) (fun _ _ _ _ _ => (aJ lD (hr.mono (by decide)) rfl bW.mg bW.fn.kp bW.bd bb hP hw hK ht XR.none (aa (qv 1) (aa (qv 2) ae))))))
    (ax (ue (i := 5) bf.nd rfl rfl (N' := ["_law_place", "_law_turns"]) (tn := 1) (idx := [13]) rfl (show dr ["_law_bag_here", "_law_most", "_law_many", "_law_ways", "_law_kind", "_law_rows", "_law_order_here", "_law_period", "_law_stays", "_law_k", "_law_place", "_law_onward", "_law_goals", "_law_turns"] (ai bV) _ ["_law_place", "_law_turns"] 1 [13] from by decide +kernel) (cH rfl bl.range_ (aa (qv 2) ae)) (fun _ _ _ _ _ => (aO (i := 0) (show List.Nodup [("_law_place" : Str), ("_law_turns" : Str)] from by decide +kernel) rfl (Or.inr rfl))) (fun _ _ _ _ _ => bY) (fun _ _ _ _ _ => (iW (N' := ["_law_turn", "_law_place"]) (tn := 1) (idx := [0]) rfl (aF.rel (show aF ["_law_place", "_law_turns"] _ _ ["_law_turn", "_law_place"] 1 [0] from by decide +kernel)) (pC (K := K) rfl (qv 1)) (fun _ _ _ _ _ => (aO (i := 0) (show List.Nodup [("_law_turn" : Str), ("_law_place" : Str)] from by decide +kernel) rfl (Or.inl rfl))) (fun _ _ _ _ _ => bY) (fun _ _ _ _ _ => (bP (dj (K := K) rfl) (qv 0) (qv 1) (fun _ _ => rfl))))))))
      qss_nil)
    (aj (bO (QW.pt (jX (bh jZ (qv 4) ay (aZ _)) (iU (QW.pt (zb (bh jZ (qv 4) ay (aZ _)) (vq (bh jZ (qv 8) ay (aZ _))))))))
      (ax (iV (aJ bB (hr.mono (by decide)) rfl au.mg au.fn.kp au.bd bb hP hw hK ht XR.none (aa (qv 0) (aa (qv 2) ae))) (jO (bP (dj (K := K) rfl) (qv 5) (bP (dj (K := K) rfl) (qv 6) ay (fun _ _ => rfl)) (fun _ _ => rfl)) (aJ bB (hr.mono (by decide)) rfl au.mg au.fn.kp au.bd bb hP hw hK ht XR.none (aa (qv 0) (aa (qv 3) ae))))))
      qss_nil)
    (ax (Hm 5 rfl (aP (eO (mn (K := K) rfl) rfl bl.tuple_ cn (aa (c5 (N' := ["_law_row"]) (tn := 1) (idx := []) rfl (show aF ["_law_bag_here", "_law_most", "_law_many", "_law_ways", "_law_kind", "_law_rows", "_law_order_here", "_law_period", "_law_stays", "_law_k", "_law_place", "_law_onward", "_law_goals", "_law_turns"] (ai bV) _ ["_law_row"] 1 [] from by decide +kernel) (pC (K := K) rfl (qv 5)) (fun _ _ _ _ _ => (aO (i := 0) (show List.Nodup [("_law_row" : Str)] from by decide +kernel) rfl (Or.inl rfl))) (fun _ _ _ _ _ => bY) (fun _ _ _ _ _ => (eO (mn (K := K) rfl) rfl bl.tuple_ cn (aa (qv 0) ae)))) ae))))))))))))))), ?_⟩
  subst e
  have big : (100 : Nat) < sizeLine := by decide
  refine JD (fun ρ M => ∃ (n ways kind stays : Nat) (r : Addr) (as : List Addr) (os : List Int) (x7 x9 lF lH dz : Option Dv), (dM x7 ∧ dM x9 ∧ dM lF ∧ dM lH ∧ dM dz) ∧ ρ = [some (.ptr b), some (.int (most : Nat)), some (.int (n : Nat)), some (.int (ways : Nat)), some (.int (kind : Nat)), some (.ptr r), some (jm os), x7, some (.int (stays : Nat)), x9, lF, lH, dz, none] ∧ cL Γ.M0 M r as n ways ∧ eh n os ∧ 1 ≤ n ∧ n ≤ most ∧ (ways = 2 ∨ ways = 3)) (fun N hN => ?_) ?_
  · simp! only []
    refine ⟨b, _, rfl, hb, by omega, by omega, fun m hm => ?_⟩
    obtain ⟨n, hn⟩ : ∃ n : Nat, (1 + (m : Int)) = (n : Nat) := ⟨1 + m, by omega⟩
    have n1 : 1 ≤ n := by omega
    have n9 : n ≤ most := by omega
    simp! only [hn]
    refine ⟨b, _, rfl, hb, by omega, by omega, fun v hv => ?_⟩
    obtain ⟨ways, JF⟩ : ∃ ways : Nat, (2 + (v : Int)) = (ways : Nat) := ⟨2 + v, by omega⟩
    have w2 : ways = 2 ∨ ways = 3 := by omega
    simp! only [JF]
    refine ⟨b, _, rfl, hb, by omega, by omega, fun kind lZ => ?_⟩
    simp! only []
    refine ⟨by omega, by omega, by omega, ?_⟩
    refine fH (acc := []) (fun acc τ M => ∃ as : List Addr, acc = as.map Dv.ptr ∧ (∃ x, τ = [x, some (.ptr b), some (.int (n : Nat)), some (.int (ways : Nat))]) ∧ i9 Γ.M0 M ∧ ∀ a ∈ as, Γ.M0 a = none ∧ ∃ row : List Int, M a = some (.lst (row.map .int)) ∧ eZ n ways row) ⟨[], rfl, ⟨_, rfl⟩, .refl, fun _ h => nomatch h⟩ (fun i d acc τ M hd _ ⟨as, e1, ⟨x, e2⟩, hO, ha⟩ R hR => ?_) (fun ys τ M hl ⟨as, e1, ⟨x, e2⟩, hO, ha⟩ => ?_)
    · subst e1 e2
      simp! only []
      refine ⟨by omega, by omega, by omega, rW (n := n) (fun τ => ∃ y, τ = [y, some (.ptr b), some (.int (n : Nat))]) ⟨_, rfl⟩ (fun d hd τ ⟨y, e⟩ R2 HL => ?_) (fun row hl nA a jj => ?_)⟩
      · subst e
        simp! only []
        exact ⟨b, _, rfl, hO.kp _ _ hb, by omega, by omega, fun d hd => HL _ _ (by omega) (by omega) ⟨_, rfl⟩⟩
      · exact hR _ _ _ (ra hO ha jj ⟨by simpa [rangeD_len] using hl, nA⟩ ⟨_, rfl⟩)
    · rw [List.nil_append] at e1
      subst e1 e2
      intro r Om
      have RM := cL.mk' (n := n) (ways := ways) hO Om (by simpa [rangeD_len] using hl) ha
      refine ⟨b, n, rfl, RM.kp _ _ hb, by omega, fun os lC => ?_⟩
      simp! only []
      refine ⟨b, _, rfl, RM.kp _ _ hb, by omega, by omega, fun pe Pk => ?_⟩
      simp! only []
      refine ⟨b, _, rfl, RM.kp _ _ hb, by omega, by omega, fun stays mF => ?_⟩
      obtain ⟨per, Mg⟩ : ∃ per : Nat, (1 + (pe : Int)) = (per : Nat) := ⟨1 + pe, by omega⟩
      simp! only [Mg]
      have sU := lC.len
      refine hZ (fun i ρ M => ∃ (as : List Addr) (x9 lF lH dz : Option Dv), (dM x9 ∧ dM lF ∧ dM lH ∧ dM dz) ∧ ρ = [some (.ptr b), some (.int (most : Nat)), some (.int (n : Nat)), some (.int (ways : Nat)), some (.int (kind : Nat)), some (.ptr r), some (jm os), some (.int (per : Nat)), some (.int (stays : Nat)), x9, lF, lH, dz, none] ∧ cL Γ.M0 M r as n ways)
        ⟨as, _, _, _, _, ⟨.none, .none, .none, .none⟩, rfl, RM⟩ (fun i d ρ M N2 hd ⟨as, x9, lF, lH, dz, ⟨p9, Dr, Ds, js⟩, e1, RM⟩ Dp => ?_) (fun ρ M ⟨as, x9, lF, lH, dz, ⟨p9, Dr, Ds, js⟩, e1, RM⟩ => ?_)
      · subst e1
        have hd : (cm (iX (os.map Dv.int).length) (os.map Dv.int))[i]? = some d := by rw [List.length_map]; exact hd
        obtain ⟨y, rfl, hy⟩ := Es hd
        obtain ⟨place, bR, rfl⟩ := zF hy
        have hi : i < n := by have := (List.getElem?_eq_some_iff.mp bR).1; omega
        obtain ⟨KO, Oo⟩ := lC.mem (List.mem_of_getElem? bR)
        obtain ⟨pk, rfl⟩ := Int.eq_ofNat_of_zero_le KO
        have Af : pk < n := by omega
        have Mi : ((i : Int) + 1) % (n : Int) = (((i + 1) % n : Nat) : Int) := by push_cast; rfl
        obtain ⟨on, Oq, Du, HM⟩ := lC.at (i := (i + 1) % n) (Nat.mod_lt _ (by omega))
        obtain ⟨vL, rfl⟩ := Int.eq_ofNat_of_zero_le Du
        have step : ∀ {as : List Addr} {M : Mh}, cL Γ.M0 M r as n ways → ∃ a, di (as.map Dv.ptr) ((pk : Nat) : Int) = some (.ptr a) ∧ a ∈ as := fun {as M} RM => by
          have hl : pk < as.length := by rw [RM.len]; exact Af
          exact ⟨as[pk], dE (by rw [List.getElem?_map, List.getElem?_eq_getElem hl]; rfl), List.getElem_mem hl⟩
        simp only [zgTup, zgCons, zgNil, zgName, List.set_cons_zero, List.set_cons_succ, List.length_cons, List.length_nil, Nat.reduceAdd, List.getElem?_cons_zero]
        refine ⟨trivial, ?_⟩
        refine oK (fun ρ M => ∃ (as : List Addr) (dz : Option Dv), dM dz ∧ ρ = [some (.ptr b), some (.int (most : Nat)), some (.int (n : Nat)), some (.int (ways : Nat)), some (.int (kind : Nat)), some (.ptr r), some (jm os), some (.int (per : Nat)), some (.int (stays : Nat)), some (.int (i : Nat)), some (.int (pk : Nat)), some (.int (vL : Nat)), dz, none] ∧ cL Γ.M0 M r as n ways) (fun N hN => ?_) ?_
        · simp! only [Mi, Oq]
          exact ⟨by omega, hN _ _ ⟨as, _, js, rfl, RM⟩⟩
        rintro ρ M ⟨as, dz, js, rfl, RM⟩
        refine oK (fun ρ M => ∃ (as : List Addr) (dz : Option Dv), dM dz ∧ ρ = [some (.ptr b), some (.int (most : Nat)), some (.int (n : Nat)), some (.int (ways : Nat)), some (.int (kind : Nat)), some (.ptr r), some (jm os), some (.int (per : Nat)), some (.int (stays : Nat)), some (.int (i : Nat)), some (.int (pk : Nat)), some (.int (vL : Nat)), dz, none] ∧ cL Γ.M0 M r as n ways) (fun N hN => ?_) ?_
        · simp! only []
          refine ee (fun h => ee (fun h2 => ?_) (fun _ => hN _ _ ⟨as, _, js, rfl, RM⟩)) (fun _ => hN _ _ ⟨as, _, js, rfl, RM⟩)
          obtain ⟨a, ea, ha⟩ := step RM
          obtain ⟨row, em, ro⟩ := RM.row a ha
          simp only [RM.rm, ea]
          refine ⟨b, _, rfl, RM.kp _ _ hb, by omega, by omega, fun t ht => ?_⟩
          simp only [em, List.length_map, ro.1, my (show t < ways by omega)]
          rw [ui]
          exact hN _ _ ⟨as, _, js, rfl, RM.sV ha (ro.set Du HM)⟩
        rintro ρ M ⟨as, dz, js, rfl, RM⟩
        refine oK (fun ρ M => ∃ (as : List Addr) (dz : Option Dv), dM dz ∧ ρ = [some (.ptr b), some (.int (most : Nat)), some (.int (n : Nat)), some (.int (ways : Nat)), some (.int (kind : Nat)), some (.ptr r), some (jm os), some (.int (per : Nat)), some (.int (stays : Nat)), some (.int (i : Nat)), some (.int (pk : Nat)), some (.int (vL : Nat)), dz, none] ∧ cL Γ.M0 M r as n ways) (fun N hN => ?_) ?_
        · simp! only []
          refine ee (fun h => ?_) (fun _ => hN _ _ ⟨as, _, js, rfl, RM⟩)
          have Pl : ∀ j : Nat, ((j : Int) % (per : Int)) = ((j % per : Nat) : Int) := fun j => by push_cast; rfl
          refine ⟨by omega, by omega, by omega, pI (Ca per i) (fun d => .int (oN os d)) (fun τ M' => (∃ x, τ = [x, some (jm os), some (.int (per : Nat)), some (.int (i : Nat))]) ∧ M' = M) ⟨⟨_, rfl⟩, rfl⟩ (fun d hd τ M' ⟨⟨x, e⟩, eM⟩ R0 R h1 h2 => ?_) (fun τ M' ⟨⟨x, e⟩, eM⟩ => ?_)⟩
          · subst e eM
            obtain ⟨j, hj, rfl⟩ := oC hd
            simp only [Int.zero_add] at h1 h2 ⊢
            obtain ⟨gx, mU, g0, g1⟩ := lC.at hj
            have hg : oN os (.int (j : Nat)) = gx := uj mU
            simp! only [mU]
            refine ⟨by omega, by omega, ee (fun h => ?_) (fun h => ?_)⟩
            · rw [hg] at h1
              exact h1 h _ _ ⟨⟨_, rfl⟩, rfl⟩
            · exact h2 h _ _ ⟨⟨_, rfl⟩, rfl⟩
          · subst e eM
            obtain ⟨gs, Ot, Pm, Pn, Ou⟩ := Cb (i := i) lC (per := per) (by omega) (by omega)
            rw [Ot]
            refine ⟨by omega, by omega, by omega, rW (n := n) (fun τ => ∃ y, τ = [y, some (jm gs), some (.ptr b)]) ⟨_, rfl⟩ (fun d hd τ ⟨y, e⟩ R hR => ?_) (fun row hl nA a jj => ?_)⟩
            · subst e
              simp! only []
              refine ⟨b, _, rfl, RM.kp _ _ hb, by omega, by omega, fun t ht => ?_⟩
              have Dw : t < gs.length := by omega
              simp only [show di (gs.map Dv.int) (t : Int) = some (.int gs[t]) from dE (by rw [List.getElem?_map, List.getElem?_eq_getElem Dw]; rfl)]
              obtain ⟨q0, q1⟩ := Ou _ (List.getElem_mem Dw)
              exact hR _ _ q0 q1 ⟨_, rfl⟩
            · have nr : r ≠ a := fun z => by rw [← z, RM.rm] at jj; cases jj
              simp only [ak nr, RM.rm, List.length_map, RM.len, my Af]
              exact hN _ _ ⟨_, _, .lI gs, rfl, RM.put jj ⟨by simpa [rangeD_len] using hl, nA⟩ Af⟩
        rintro ρ M ⟨as, dz, js, rfl, RM⟩
        simp! only []
        refine ee (fun h => ?_) (fun _ => Dp _ _ ⟨as, _, _, _, _, ⟨.int _, .int _, .int _, js⟩, rfl, RM⟩)
        refine ⟨by omega, ⟨by omega, by omega, by omega, by omega⟩, by omega, rW (n := n) (fun τ => ∃ y, τ = [y, some (.int (stays : Nat)), some (.int (vL : Nat)), some (.int (pk : Nat))]) ⟨_, rfl⟩ (fun d hd τ ⟨y, e⟩ R hR => ?_) (fun row hl nA => ⟨?_, fun a jj => ?_⟩)⟩
        · subst e
          simp! only []
          have Ov : stays = 0 ∨ stays = 1 := by omega
          rcases Ov with rfl | rfl
          · exact ⟨by omega, hR _ _ Du HM ⟨_, rfl⟩⟩
          · exact ⟨by omega, hR _ _ KO Oo ⟨_, rfl⟩⟩
        · rw [List.length_map, hl, rangeD_len]; omega
        · have nr : r ≠ a := fun z => by rw [← z, RM.rm] at jj; cases jj
          have er : Dv.int (vL : Nat) :: row.map Dv.int = ((vL : Int) :: row).map Dv.int := rfl
          rw [er]
          simp only [ak nr, RM.rm, List.length_map, RM.len, my Af]
          refine Dp _ _ ⟨_, _, _, _, _, ⟨.int _, .int _, .int _, js⟩, rfl, RM.put jj ⟨?_, fun x hx => ?_⟩ Af⟩
          · rw [List.length_cons, hl, rangeD_len]; omega
          · rcases List.mem_cons.mp hx with z | z
            · rw [z]; exact ⟨Du, HM⟩
            · exact nA x z
      · exact hN _ _ ⟨n, ways, kind, stays, r, as, os, _, _, _, _, _, ⟨.int _, p9, Dr, Ds, js⟩, e1, RM, lC, n1, n9, w2⟩
  · rintro ρ M ⟨n, ways, kind, stays, r, as, os, x7, x9, lF, lH, dz, ⟨p7, p9, Dr, Ds, js⟩, rfl, RM, lC, n1, n9, w2⟩
    have sU := lC.len
    refine oK (fun ρ M => ∃ (r : Addr) (as : List Addr) (iT : Option Dv), dM iT ∧ ρ = [some (.ptr b), some (.int (most : Nat)), some (.int (n : Nat)), some (.int (ways : Nat)), some (.int (kind : Nat)), some (.ptr r), some (jm os), x7, some (.int (stays : Nat)), x9, lF, lH, dz, iT] ∧ cL Γ.M0 M r as n ways) (fun N hN => ?_) ?_
    · simp! only []
      refine ee (fun h => ?_) (fun _ => hN _ _ ⟨r, as, _, .none, rfl, RM⟩)
      refine ⟨by omega, by omega, by omega, fH (acc := []) (fun acc τ M' => ∃ ts : List (List Int), acc = ts.map jm ∧ (∃ x, τ = [x, some (.ptr b), some (.int (n : Nat))]) ∧ (∀ o ∈ ts, eh n o) ∧ M' = M) ⟨[], rfl, ⟨_, rfl⟩, (fun _ h => nomatch h), rfl⟩ (fun i d acc τ M' hd _ ⟨ts, e1, ⟨x, e2⟩, hT, eM⟩ R hR => ?_) (fun ys τ M' hl ⟨ts, e1, ⟨x, e2⟩, hT, eM⟩ => ?_)⟩
      · subst e1 e2 eM
        simp! only []
        refine ⟨b, n, rfl, RM.kp _ _ hb, by omega, fun o ho => hR _ _ _ ⟨ts ++ [o], by rw [List.map_append]; rfl, ⟨_, rfl⟩, fun c hc => ?_, rfl⟩⟩
        rcases List.mem_append.mp hc with z | z
        · exact hT c z
        · rw [List.mem_singleton] at z; rw [z]; exact ho
      · rw [List.nil_append] at e1
        subst e1 e2 eM
        have Dw : ts.length = ways := by simpa [rangeD_len] using hl
        refine ⟨by omega, by omega, by omega, fH (acc := []) (fun acc τ M => ∃ as : List Addr, acc = as.map Dv.ptr ∧ (∃ x, τ = [x, some (.lst (ts.map jm))]) ∧ i9 Γ.M0 M ∧ ∀ a ∈ as, Γ.M0 a = none ∧ ∃ row : List Int, M a = some (.lst (row.map .int)) ∧ eZ n ways row) ⟨[], rfl, ⟨_, rfl⟩, RM.own, fun _ h => nomatch h⟩ (fun i d acc τ M hd _ ⟨as, e1, ⟨x, e2⟩, hO, ha⟩ R hR => ?_) (fun ys τ M hl ⟨as, e1, ⟨x, e2⟩, hO, ha⟩ => ?_)⟩
        · subst e1 e2
          obtain ⟨rfl, hi⟩ := eR hd
          simp! only []
          refine ⟨by omega, rW (n := n) (fun τ => ∃ y, τ = [y, some (.int (i : Nat))]) ⟨_, rfl⟩ (fun d hd τ ⟨y, e⟩ R2 HL => ?_) (fun row hl nA a jj => ?_)⟩
          · subst e
            obtain ⟨o, ho, rfl⟩ := List.mem_map.mp hd
            obtain ⟨gx, mU, g0, g1⟩ := (hT o ho).at hi
            simp! only [mU]
            exact HL _ _ g0 g1 ⟨_, rfl⟩
          · exact hR _ _ _ (ra hO ha jj ⟨by rw [hl, List.length_map]; exact Dw, nA⟩ ⟨_, rfl⟩)
        · rw [List.nil_append] at e1
          subst e1 e2
          intro r2 GJ
          refine hN _ _ ⟨r2, as, _, fun M d e => ?_, rfl, cL.mk' (n := n) (ways := ways) hO GJ (by simpa [rangeD_len] using hl) ha⟩
          cases e
          exact .lst fun d hd => by obtain ⟨o, _, rfl⟩ := List.mem_map.mp hd; exact .lst (gL o)
    rintro ρ M ⟨r, as, iT, Ag, rfl, RM⟩
    refine oK (fun ρ M => ∃ (r : Addr) (as : List Addr) (iT : Option Dv), dM iT ∧ ρ = [some (.ptr b), some (.int (most : Nat)), some (.int (n : Nat)), some (.int (ways : Nat)), some (.int (kind : Nat)), some (.ptr r), some (jm os), x7, some (.int (stays : Nat)), x9, lF, lH, dz, iT] ∧ cL Γ.M0 M r as n ways) (fun N hN => ?_) ?_
    · simp! only []
      obtain ⟨gx, mU, g0, g1⟩ := lC.at (i := 0) (by omega)
      obtain ⟨gk, rfl⟩ := Int.eq_ofNat_of_zero_le g0
      have mU : di (os.map Dv.int) 0 = some (.int (gk : Nat)) := mU
      have vb : gk < as.length := by rw [RM.len]; omega
      have ea : di (as.map Dv.ptr) (gk : Int) = some (.ptr as[gk]) := dE (by rw [List.getElem?_map, List.getElem?_eq_getElem vb]; rfl)
      have ha := List.getElem_mem vb
      obtain ⟨row, em, ro⟩ := RM.row as[gk] ha
      simp only [mU]
      have put : oM [.ptr b, .int (n : Nat)] M (fun d M1 => match (match M1 r with | some (.lst ds) => some ds | _ => none) with
          | some ds => (match di ds (gk : Int) with
            | some Ow => oM [.ptr b, .int (ways : Nat)] M1 (fun i M2 => match Ow, i with
              | .ptr a, .int k => (match M2 a with
                | some (.lst xs) => (match gY xs.length k with
                  | some j => N [some (.ptr b), some (.int (most : Nat)), some (.int (n : Nat)), some (.int (ways : Nat)), some (.int (kind : Nat)), some (.ptr r), some (jm os), x7, some (.int (stays : Nat)), x9, lF, lH, dz, iT] (aw M2 a (.lst (xs.set j d)))
                  | none => False)
                | _ => False)
              | _, _ => False) fun _ _ => False
            | none => False)
          | none => False) fun _ _ => False := by
        refine ⟨b, _, rfl, RM.kp _ _ hb, by omega, by omega, fun u hu => ?_⟩
        simp only [RM.rm, ea]
        refine ⟨b, _, rfl, RM.kp _ _ hb, by omega, by omega, fun t ht => ?_⟩
        simp only [em, List.length_map, ro.1, my (show t < ways by omega)]
        rw [ui]
        exact hN _ _ ⟨r, as, _, Ag, rfl, RM.sV ha (ro.set (by omega) (by omega))⟩
      exact ee (fun _ => put) (fun _ => ee (fun _ => ee (fun _ => put) (fun _ => hN _ _ ⟨r, as, _, Ag, rfl, RM⟩)) (fun _ => hN _ _ ⟨r, as, _, Ag, rfl, RM⟩))
    rintro ρ M ⟨r, as, iT, Ag, rfl, RM⟩
    have nb : ∀ {c o}, Γ.M0 c = some o → c ≠ r := fun e z => by rw [z, RM.r0] at e; cases e
    have dk : Keeps Γ.M0 (bN M r) := fun c o e => by rw [bI (nb e)]; exact RM.kp c o e
    refine .inr ⟨r, _, rfl, RM.rm, RM.r0, ⟨fun j d e => ?_, fun c o e => ?_⟩, ?_⟩
    · match j, e with
      | 0, e => cases e; exact .ptr (by rw [dk _ _ hb]; rfl)
      | 1, e => cases e; exact .int _
      | 2, e => cases e; exact .int _
      | 3, e => cases e; exact .int _
      | 4, e => cases e; exact .int _
      | 5, e => cases e; exact .lst fun d hd => by
                  obtain ⟨a, ha, rfl⟩ := List.mem_map.mp hd
                  obtain ⟨row, em, _⟩ := RM.row a ha
                  exact .ptr (by rw [bI (RM.fr a ha).2, em]; rfl)
      | 6, e => cases e; exact .lst (gL _)
      | 7, e => exact p7 _ _ (Option.some.inj e)
      | 8, e => cases e; exact .int _
      | 9, e => exact p9 _ _ (Option.some.inj e)
      | 10, e => exact Dr _ _ (Option.some.inj e)
      | 11, e => exact Ds _ _ (Option.some.inj e)
      | 12, e => exact js _ _ (Option.some.inj e)
      | 13, e => exact Ag _ _ (Option.some.inj e)
      | j + 14, e => exact nomatch e
    · have nc : c ≠ r := fun z => by rw [z, cz] at e; cases e
      rw [bI nc] at e
      rcases RM.pin c o e with q | q | ⟨row, rfl⟩ | ⟨bs, rfl, q2⟩
      · exact .inl q
      · exact absurd q nc
      · exact .inr (gL row)
      · refine .inr fun d hd => ?_
        obtain ⟨a, ha, rfl⟩ := List.mem_map.mp hd
        obtain ⟨h1, u, h2⟩ := q2 a ha
        exact .ptr (by rw [bI h1, h2]; rfl)
    · simp! only []
      refine ⟨by rw [RM.len]; omega, fH (acc := []) (fun acc τ M' => ∃ rs : List (List Int), acc = rs.map eI ∧ (∃ x, τ = [x]) ∧ (∀ row ∈ rs, eZ n ways row) ∧ M' = bN M r) ⟨[], rfl, ⟨_, rfl⟩, (fun _ h => nomatch h), rfl⟩ (fun i d acc τ M' hd _ ⟨rs, e1, ⟨x, e2⟩, Dx, eM⟩ R hR => ?_) (fun ys τ M' hl ⟨rs, e1, ⟨x, e2⟩, Dx, eM⟩ => ?_)⟩
      · subst e1 e2 eM
        obtain ⟨a, ha, rfl⟩ := zF hd
        have ha := List.mem_of_getElem? ha
        obtain ⟨row, em, ro⟩ := RM.row a ha
        simp! only [bI (RM.fr a ha).2, em]
        refine hR _ _ _ ⟨rs ++ [row], by rw [List.map_append]; rfl, ⟨_, rfl⟩, fun c hc => ?_, rfl⟩
        rcases List.mem_append.mp hc with z | z
        · exact Dx c z
        · rw [List.mem_singleton] at z; rw [z]; exact ro
      · rw [List.nil_append] at e1
        subst e1 e2 eM
        have Ox : rs.length = n := by rw [List.length_map, List.length_map, RM.len] at hl; exact hl
        exact qO dk (zD rs) (q rs ways ⟨by omega, by omega, w2, fun row hr => ⟨(Dx row hr).1, fun g hg => by rw [Ox]; exact (Dx row hr).2 g hg⟩⟩ (by omega))
end
section
variable {P : Program} {w : World} {K : PySem.W.Frag} {mg : Str → Option Value} {base : Heap} {tb : da}
theorem uR : aV ["thing"] ["thing"] (ai eY) := ⟨rfl, rfl, rfl, by decide +kernel, rfl, by decide +kernel, by decide +kernel⟩
theorem mB : aV ["thing", "many"] ["thing", "many"] (ai dh) := ⟨rfl, rfl, rfl, by decide +kernel, rfl, by decide +kernel, by decide +kernel⟩
theorem Ah : aV ["thing", "many", "width"] ["thing", "many", "width"] (ai i6) := ⟨rfl, rfl, rfl, by decide +kernel, rfl, by decide +kernel, by decide +kernel⟩
theorem lJ : aV ["thing", "many", "width"] ["thing"] (ai i7) := ⟨rfl, rfl, rfl, by decide +kernel, rfl, by decide +kernel, by decide +kernel⟩
def uk (d : Dv) : Bool := (isD "int" (fun _ => none) d).isSome
def Ai : Dv → Bool | .int _ => true | _ => false
def fu (m : Int) : Dv → Bool | .int i => decide (0 ≤ i) && decide (i < m) | _ => false
def HN : cQ := fun ds M Q _ => ∃ d, ds = [d] ∧ uk d = true ∧ Q (.bl (Ai d)) M
theorem uS {f : Addr} {fd : FuncData} (D : Df K mg "is_whole" eY ["thing"] f fd) (bl : Bl mg) : FnOk P w K mg base bj 1 f fd ["thing"] (bp P w K tb HN) := by
  refine fj D uR (fun ds M Q E hS => by obtain ⟨d, e, _⟩ := hS; rw [e]; rfl) fun A outer s E Γ ds Q' E' hP hw hK ht hr hS => ?_
  obtain ⟨d, e, hk, q⟩ := hS
  refine ⟨_, (ax (aP (fq (av (aQ (K := K) rfl) rfl bl.isinstance_ aB (aa (qv 0) (aa (aY (v := .ty "int") rfl bl.int_ sL rfl) ae))) (hV (tK (av (aQ (K := K) rfl) rfl bl.isinstance_ aB (aa (qv 0) (aa (aY (v := .ty "bool") rfl bl.bool_ pf rfl) ae)))))))), ?_⟩
  subst e
  cases d <;> first | exact ⟨by decide, ⟨by decide, .inl q⟩⟩ | exact ⟨by decide, .inl q⟩ | exact nomatch hk
def HP : cQ := fun ds M Q _ => ∃ d m, ds = [d, .int m] ∧ uk d = true ∧ Q (.bl (fu m d)) M
theorem mC {f f1 : Addr} {fd dA : FuncData} (D : Df K mg "is_whole_below" dh ["thing", "many"] f fd) (cA : Df K mg "is_whole" eY ["thing"] f1 dA) (bl : Bl mg) : FnOk P w K mg base bj 2 f fd ["thing", "many"] (bp P w K tb HP) := by
  have xj := uS (P := P) (w := w) (base := base) (tb := tb) cA bl
  refine fj D mB (fun ds M Q E hS => by obtain ⟨d, m, e, _⟩ := hS; rw [e]; rfl) fun A outer s E Γ ds Q' E' hP hw hK ht hr hS => ?_
  obtain ⟨d, m, e, hk, q⟩ := hS
  refine ⟨_, (ax (aP (fq (aJ xj (hr.mono (by decide)) rfl cA.mg cA.fn.kp cA.bd bb hP hw hK ht XR.none (aa (qv 0) ae)) (hV (BO wO nj ay (qv 0) (qv 1)))))), ?_⟩
  subst e
  refine ⟨d, rfl, hk, ?_⟩
  cases d with
  | int i =>
    simp! only [Ai]
    refine ee (fun h => ?_) (fun h => ?_)
    · rw [show fu m (.int i) = decide (i < m) by simp only [fu, h, Bool.true_and]] at q
      exact .inl q
    · rw [show fu m (.int i) = false by simp only [fu, h, Bool.false_and]] at q
      exact .inl q
  | _ => exact .inl q
def gN (m : Int) (w : Nat) : Dv → Bool | .tup ds => decide (ds.length = w) && ds.all (fu m) | _ => false
def Cd : Dv → Bool | .tup ds => ds.all uk | d => uk d
def HQ : cQ := fun ds M Q _ => ∃ d m w, ds = [d, .int m, .int (w : Nat)] ∧ Cd d = true ∧ Q (.bl (gN m w d)) M
theorem Aj {f f1 f2 : Addr} {fd dA fd2 : FuncData} {ka aX : Addr} (D : Df K mg "is_row" i6 ["thing", "many", "width"] f fd) (gO : yw base fd ka aX) (hp : aX ∈ tb) (fm : ∃ bm ob, BMod base mainGlobals mg bm ob)
    (bA : Df K mg "is_whole_below" dh ["thing", "many"] f1 dA) (cA : Df K mg "is_whole" eY ["thing"] f2 fd2) (bl : Bl mg) : FnOk P w K mg base bj 4 f fd ["thing", "many", "width"] (bp P w K tb HQ) := by
  have nB := mC (P := P) (w := w) (base := base) (tb := tb) bA cA bl
  refine fj D Ah (fun ds M Q E hS => by obtain ⟨d, m, n, e, _⟩ := hS; rw [e]; rfl) fun A outer s E Γ ds Q' E' hP hw hK ht hr hS => ?_
  obtain ⟨d, m, n, e, hk, q⟩ := hS
  have xk : aX ∈ Γ.tb := ht ▸ hp
  refine ⟨_, (aj (bO (QW.pt (jX (jJ (d9 (av (aQ (K := K) rfl) rfl bl.isinstance_ aB (aa (qv 0) (aa (aY (v := .ty "tuple") rfl bl.tuple_ cn rfl) ae))))) (iU (bh tN (av (dB (K := K) rfl hK) rfl bl.len_ PySem.boot_len (aa (qv 0) ae)) (qv 2) (aZ _)))))
      (ax (aP gm))
      qss_nil)
    (ax (aP (zB (k := 2) (N' := ["goal", "many"]) (tn := 1) (idx := [1]) xk (hr.mono (by decide)) rfl (show aF ["thing", "many", "width"] (ai i6) _ ["goal", "many"] 1 [1] from by decide +kernel) rfl rfl gO.code gO.hd fm rfl bl.all_ (lh (K := K) rfl (qv 0)) (fun _ _ _ _ _ _ _ hr => (aO (i := 0) (show List.Nodup [("goal" : Str), ("many" : Str)] from by decide +kernel) rfl (Or.inl rfl))) (fun _ _ _ _ _ _ _ hr => bY) (fun _ _ _ _ _ _ _ hr => (aJ nB (hr.mono (by decide)) rfl bA.mg bA.fn.kp bA.bd bb hP hw hK ht XR.none (aa (qv 0) (aa (qv 1) ae)))))))), ?_⟩
  subst e
  cases d with
  | tup es =>
    refine ⟨by decide, ee (c := !decide ((es.length : Int) = (n : Nat))) (fun h => ?_) (fun h => ?_)⟩
    · rw [show gN m n (.tup es) = false by simp at h; simp [gN]; intro z; omega] at q
      exact .inl q
    · rw [show gN m n (.tup es) = es.all (fu m) by simp at h; simp [gN, show es.length = n by omega]] at q
      refine pH (fu m) (fun τ => ∃ x, τ = [x, some (.int m)]) ⟨none, rfl⟩ (fun d hd τ ⟨x, e⟩ R hR => ?_) (.inl q)
      subst e
      exact ⟨d, m, rfl, List.all_eq_true.mp hk d hd, hR _ ⟨_, rfl⟩⟩
  | _ => first | exact ⟨by decide, .inl q⟩ | exact nomatch hk
def ja : Dv → Bool | .tup rs => decide (1 ≤ rs.length ∧ rs.length ≤ 9) && (rs.all (gN rs.length 2) || rs.all (gN rs.length 3)) | _ => false
def xl : Dv → Bool | .tup rs => rs.all Cd | d => uk d
def HR : cQ := fun ds M Q _ => ∃ d, ds = [d] ∧ xl d = true ∧ Q (.bl (ja d)) M
theorem Ak {f f1 f2 f3 : Addr} {fd dA fd2 rg : FuncData} {ka aX um bt : Addr} (D : Df K mg "is_net" i7 ["thing"] f fd) (kb : yw base fd um bt) (Oy : bt ∈ tb) (fI : Df K mg "is_row" i6 ["thing", "many", "width"] f3 rg) (gO : yw base rg ka aX) (hp : aX ∈ tb) (fm : ∃ bm ob, BMod base mainGlobals mg bm ob)
    (bA : Df K mg "is_whole_below" dh ["thing", "many"] f1 dA) (cA : Df K mg "is_whole" eY ["thing"] f2 fd2) (bl : Bl mg) {tk : Tok} (gP : mg "MOST_PLACES" = some (.int 9 tk)) : FnOk P w K mg base bj 6 f fd ["thing"] (bp P w K tb HR) := by
  have Ce := Aj (P := P) (w := w) (tb := tb) fI gO hp fm bA cA bl
  refine fj D lJ (fun ds M Q E hS => by obtain ⟨d, e, _⟩ := hS; rw [e]; rfl) fun A outer s E Γ ds Q' E' hP hw hK ht hr hS => ?_
  obtain ⟨d, e, hk, q⟩ := hS
  have ke : bt ∈ Γ.tb := ht ▸ Oy
  refine ⟨_, (aj (bO (QW.pt (jX (jJ (d9 (av (aQ (K := K) rfl) rfl bl.isinstance_ aB (aa (qv 0) (aa (aY (v := .ty "tuple") rfl bl.tuple_ cn rfl) ae))))) (iU (jJ (tJ wO wO ay (av (dB (K := K) rfl hK) rfl bl.len_ PySem.boot_len (aa (qv 0) ae)) (BL (i := 9) rfl gP ⟨_, rfl⟩))))))
      (ax (aP gm))
      qss_nil)
    (aj (aR (i := 1) lJ.nd rfl (Or.inr rfl) (av (dB (K := K) rfl hK) rfl bl.len_ PySem.boot_len (aa (qv 0) ae)))
    (aj (lj PassesOwn.never rfl (lh (K := K) rfl (tL (aa ay (aa ay ae)))) (fun Ab eP ew eK et => by have hP := hP.trans eP.symm; have hw := hw.trans ew.symm; have hK := hK.trans eK.symm; have ht := ht.trans et.symm; have ke := et.symm ▸ ke; exact ⟨(aO (i := 2) lJ.nd rfl (Or.inr rfl)), (ax (bO (d9 (zB (k := 4) (N' := ["row", "many", "width"]) (tn := 1) (idx := [1, 2]) ke (hr.mono (by decide)) rfl (show aF ["thing", "many", "width"] (ai i7) _ ["row", "many", "width"] 1 [1, 2] from by decide +kernel) rfl rfl kb.code kb.hd fm rfl bl.all_ (lh (K := K) rfl (qv 0)) (fun _ _ _ _ _ _ _ hr => (aO (i := 0) (show List.Nodup [("row" : Str), ("many" : Str), ("width" : Str)] from by decide +kernel) rfl (Or.inl rfl))) (fun _ _ _ _ _ _ _ hr => bY) (fun _ _ _ _ _ _ _ hr => (aJ Ce (hr.mono (by decide)) rfl fI.mg fI.fn.kp fI.bd bb hP hw hK ht XR.none (aa (qv 0) (aa (qv 1) (aa (qv 2) ae)))))))
      (ax (aP gm))
      qss_nil))⟩))
    (ax (aP gm))))), ?_⟩
  subst e
  cases d with
  | tup rs =>
    refine ⟨by decide, ?_⟩
    have row : ∀ (n : Nat) (D : Bool → Mh → Prop), (D (rs.all (gN rs.length n)) Γ.M0) → jl (zgName 0) zNoIf (zCall HQ (fun _ _ => False) (zCons (zVar 0) (zCons (zVar 1) (zCons (zVar 2) zNil)))) rs [none, some (.int rs.length), some (.int (n : Nat))] Γ.M0 D := fun n D hD => by
      refine pH (gN rs.length n) (fun τ => ∃ x, τ = [x, some (.int rs.length), some (.int (n : Nat))]) ⟨none, rfl⟩ (fun d hd τ ⟨x, e⟩ R hR => ?_) hD
      subst e
      exact ⟨d, rs.length, n, rfl, List.all_eq_true.mp hk d hd, hR _ ⟨_, rfl⟩⟩
    simp! only []
    refine ee (fun h1 => ee (fun h2 => ?_) (fun h2 => ⟨by decide, ?_⟩)) (fun h1 => ?_)
    · rw [show ja (.tup rs) = false by simp at h1 h2; simp [ja]; intro z; omega] at q
      exact .inl q
    · have e : ja (.tup rs) = (rs.all (gN rs.length 2) || rs.all (gN rs.length 3)) := by
        simp at h1 h2
        simp only [ja]
        rw [decide_eq_true (by omega), Bool.true_and]
      rw [e] at q
      refine row 2 _ (ee (fun z => ?_) (fun z => row 3 _ (ee (fun z2 => ?_) (fun z2 => ?_))))
      · rw [z] at q; exact .inl q
      · rw [z, z2] at q; exact .inl q
      · rw [z, z2] at q; exact .inl q
    · rw [show ja (.tup rs) = false by simp at h1; simp [ja]; intro z; omega] at q
      exact .inl q
  | _ => first | exact ⟨by decide, .inl q⟩ | exact nomatch hk
theorem uT : aV ["thing"] ["thing"] (ai iA) := ⟨rfl, rfl, rfl, by decide +kernel, rfl, by decide +kernel, by decide +kernel⟩
theorem Al {m : Int} {g : Int} (h : 0 ≤ g ∧ g < m) : fu m (.int g) = true := by simp [fu, h.1, h.2]
theorem vM {ah : List (List Int)} {n : Nat} (o : dX ah n) : ja (eN ah) = true := by
  have hr : ∀ d ∈ ah.map eI, gN (ah.map eI).length n d = true := fun d hd => by
    obtain ⟨r, hr, rfl⟩ := List.mem_map.mp hd
    obtain ⟨h1, h2⟩ := o.row r hr
    simp only [gN, List.length_map]
    rw [decide_eq_true h1, Bool.true_and, List.all_eq_true]
    intro d hd
    obtain ⟨g, hg, rfl⟩ := List.mem_map.mp hd
    exact Al (h2 g hg)
  have ho := o.one
  have hn := o.nine
  simp only [ja, eN]
  rw [decide_eq_true (by rw [List.length_map]; omega), Bool.true_and]
  have ha := List.all_eq_true.mpr hr
  rcases o.wid with rfl | rfl
  · rw [ha]; rfl
  · rw [ha, Bool.or_true]
theorem vN (ah : List (List Int)) : xl (eN ah) = true := by
  simp only [xl, eN]
  rw [List.all_eq_true]
  intro d hd
  obtain ⟨r, _, rfl⟩ := List.mem_map.mp hd
  simp only [Cd, eI]
  rw [List.all_eq_true]
  intro d hd
  obtain ⟨g, hg, rfl⟩ := List.mem_map.mp hd
  rfl
def Dy (C : Addr) : cQ := fun ds M Q E => ∃ d, ds = [d] ∧ xl d = true ∧ (ja d = true → Q .aq M) ∧ (ja d = false → E C M)
theorem uU {f f1 : Addr} {fd dA : FuncData} {C0 dN : Addr} {cs : List Addr} (D : Df K mg "need_net" iA ["thing"] f fd) (fJ : Df K mg "is_net" i7 ["thing"] f1 dA) (nC : FnOk P w K mg base bj 6 f1 dA ["thing"] (bp P w K tb HR))
    (X_ : GO K C0 cs) (pO : dN ∈ cs) (pP : mg "NoNet" = some (.ref dN)) : FnOk P w K mg base (gG P w) 7 f fd ["thing"] (bp P w K tb (Dy dN)) := by
  refine wQ D uT (fun ds M Q E hS => by obtain ⟨d, e, _⟩ := hS; rw [e]; rfl) fun A outer s E Γ ds Q' E' hP hw hK ht hE hr hS => ?_
  obtain ⟨d, e, hk, q1, q2⟩ := hS
  refine ⟨_, (ax (bO (jJ (d9 (aJ nC (hr.mono (by decide)) rfl fJ.mg fJ.fn.kp fJ.bd bb hP hw hK ht XR.none (aa (qv 0) ae))))
      (ax (BP (X_.ex _ pO) PySem.F.excBase_ValueError rfl GK hE rfl pP (aa oo ae)))
      qss_nil)), ?_⟩
  subst e
  simp! only []
  refine ⟨d, rfl, hk, ee (fun h => ?_) (fun h => ?_)⟩
  · exact ⟨by decide, q2 (by simpa using h)⟩
  · exact .inl (q1 (by simpa using h))
end
def xm (ns : List Int) : List Int := sortI (cT ns)
theorem uo {ns : List Int} {k : Int} : k ∈ xm ns ↔ k ∈ ns := (sortI_perm _).mem_iff.trans Bm
theorem uV (ns : List Int) : (xm ns).Pairwise (· < ·) := by
  have h1 := sY (cT ns)
  have h2 : (xm ns).Nodup := (sortI_perm _).nodup_iff.mpr (wo ns)
  exact (List.Pairwise.and h1 h2).imp fun ⟨a, b⟩ => by omega
structure fx (m : Nat) (ns : List Int) : Prop where
  str : ns.Pairwise (· < ·)
  rng : ∀ p ∈ ns, 0 ≤ p ∧ p < (m : Int)
  ne : ns ≠ []
theorem oO {m : Nat} : ∀ {ns : List Int} {lo : Int}, ns.Pairwise (· < ·) → (∀ p ∈ ns, lo ≤ p ∧ p < (m : Int)) → (ns.length : Int) ≤ max 0 ((m : Int) - lo)
  | [], lo, _, _ => by simp; omega
  | x :: ns, lo, h, hr => by
    obtain ⟨h1, h2⟩ := List.pairwise_cons.mp h
    obtain ⟨r1, r2⟩ := hr x List.mem_cons_self
    have := oO (lo := x + 1) h2 fun p hp => ⟨h1 p hp, (hr p (List.mem_cons_of_mem _ hp)).2⟩
    rw [List.length_cons]
    omega
theorem fx.len {m : Nat} {ns : List Int} (h : fx m ns) : ns.length ≤ m := by
  have := oO (lo := 0) h.str h.rng
  omega
theorem oP (n : Nat) : (bF n).length = n := by simp [bF]
section
variable {P : Program} {w : World} {K : PySem.W.Frag} {mg : Str → Option Value} {base : Heap} {tb : da}
theorem dO : aV ["start", "width", "step", "most", "found", "queue", "met", "at", "goal"] ["start", "width", "step", "most"] (ai gV) := ⟨rfl, rfl, rfl, by decide +kernel, rfl, by decide +kernel, by decide +kernel⟩
def Am (bS : List Dv) (step : List Int → Nat → List Int) (U : List (List Int)) (n : Nat) : List Dv → cQ := fun Mj ds M Q _ => Mj = bS ∧ ∃ (p : List Int) (a : Nat), ds = [eI p, .int ((a : Nat) : Int)] ∧ p ∈ U ∧ a < n ∧ Q (eI (step p a)) M
def kT (k : List Int) : List Key := k.map Sum.inl
theorem oQ (a b : List Int) (h : kT a = kT b) : a = b := by
  have := congrArg (List.map fun k : Key => match k with | .inl i => i | .inr _ => 0) h
  simpa [kT, List.map_map, Function.comp_def] using this
theorem kf (k : List Int) : iy (k.map Dv.int) = some (kT k) := oG k
def uq (r : List (List Int) × List Str) : Dv := .dt (r.1.map kT) (r.2.map Dv.str)
def vO (P : Program) (w : World) (K : PySem.W.Frag) (mg : Str → Option Value) (tb : da) (base : Heap) : cQ := fun ds M Q _ => ∃ (s : List Int) (step : List Int → Nat → List Int) (U : List (List Int)) (n most : Nat) (f : Addr) (fd : FuncData) (o : Obj) (c : Addr) (oc : Obj) (vcs : List V) (bS : List Dv) (ps : List Str),
  ds = [eI s, .int (n : Nat), .bC f o c oc vcs bS, .int (most : Nat)] ∧ FnOk P w K mg base bj 6 f fd ps (Dh P w K tb f o c oc vcs (Am bS step U n)) ∧ (∃ oc od fd sl, o = ⟨oc, od, .func fd, sl⟩) ∧ Binds K fd ps [] ∧ n ≤ 3 ∧ s ∈ U ∧ (∀ k ∈ U, ∀ a, a < n → step k a ∈ U) ∧ U.length ≤ 10000 ∧
  Q (uq (met step n most U.length s)) M
theorem ur {f : Addr} {fd : FuncData} {dv : List Value} (D : Dg K mg "first_met" gV ["start", "width", "step", "most"] dv f fd) (bl : Bl mg) {tk : Tok} (jb : mg "SIGNS" = some (.str "abc" tk)) :
    FnOk P w K mg base bj 7 f fd ["start", "width", "step", "most"] (bp P w K tb (vO P w K mg tb base)) := by
  refine Jx D dO (fun ds M Q E hS => by obtain ⟨s, step, U, n, most, f, fd, o, c, oc, vcs, bS, ps, e, _⟩ := hS; rw [e]; rfl) fun A outer s0 E Γ ds Q' E' hP hw hK ht hr hS => ?_
  obtain ⟨s, step, U, n, most, f, fd, o, c, oc, vcs, bS, ps, e, HS, HU, HV, hn, hs, hU, hl, q⟩ := hS
  refine ⟨_, (aj (aR (i := 4) dO.nd rfl (Or.inl rfl) (qW hr.units (qv 0) oo))
    (aj (aR (i := 5) dO.nd rfl (Or.inl rfl) (pB (aa (qv 0) ae)))
    (aj (ni PassesOwn.never (QW.pt (zb (BQ (qv 5)) (vq (bh wO (av HF rfl bl.len_ PySem.boot_len (aa (qv 4) ae)) (qv 3) (aZ _)))))
      (aj (aR (i := 6) dO.nd rfl (Or.inl rfl) (rT (K := K) rfl PySem.F.plainAttrs_list PySem.F.slot_list_pop PySem.F.type_list_pop vy (qv 5) (aa ay ae)))
    (ax (lj PassesOwn.never rfl (cH rfl bl.range_ (aa (qv 1) ae)) (fun Ab eP ew eK et => by have hP := hP.trans eP.symm; have hw := hw.trans ew.symm; have hK := hK.trans eK.symm; have ht := ht.trans et.symm; exact ⟨(aO (i := 7) dO.nd rfl (Or.inl rfl)), (aj (aR (i := 8) dO.nd rfl (Or.inl rfl) (BZ (i := 2) HS HU (hr.mono (by decide)) rfl (Or.inl rfl) HV bb hP hw hK ht XR.none (aa (qv 6) (aa (qv 7) ae))))
    (ax (bO (bh (t6 hr.units) (qv 8) (qv 4) (by rfl))
      (aj (vD hr.units (qv 4) (qv 8) (a9 qJ (Ew hr.units (qv 4) (qv 6) (fun _ _ => rfl)) (bP (dj (K := K) rfl) (BM (z := "abc") rfl jb ⟨_, rfl⟩) (qv 7) (fun _ _ => rfl))))
    (ax (jK (rT (K := K) rfl PySem.F.plainAttrs_list PySem.F.slot_list_append PySem.F.type_list_append tS (qv 5) (aa (qv 8) ae)))))
      qss_nil)))⟩)))))
    (ax (aP (qv 4)))))), ?_⟩
  subst e
  simp! only [kf]
  intro a ha
  refine ⟨by decide, fun qq hq => ?_⟩
  have An : qq ≠ a := fun z => by rw [z, updM_same] at hq; cases hq
  have Oz : Γ.M0 qq = none := by rw [ak An] at hq; exact hq
  have big : (10000 : Nat) + 10 < sizeLine := by decide
  have KP : ∀ {M : Mh}, (∀ b, b ≠ a → b ≠ qq → M b = Γ.M0 b) → Keeps Γ.M0 M := fun h b o e => by
    rw [h b (fun z => by rw [z, ha] at e; cases e) (fun z => by rw [z, Oz] at e; cases e)]; exact e
  let I : Nat → List (List Int) × List Str → aA → Mh → Prop := fun i st ρ M => (∃ x6 x7 x8, ρ = [some (eI s), some (.int (n : Nat)), some (.bC f o c oc vcs bS), some (.int (most : Nat)), some (.ptr a), some (.ptr qq), x6, x7, x8]) ∧ M a = some (.dt (st.1.map kT) (st.2.map Dv.str)) ∧ M qq = some (.lst ((st.1.drop i).map eI)) ∧ (∀ b, b ≠ a → b ≠ qq → M b = Γ.M0 b) ∧ eB U st ∧ i ≤ st.1.length
  refine ⟨fun m ρ M => ∃ i st, m = U.length + 1 - i ∧ I i st ρ M ∧ kz step n most (U.length + 1 - i) i st = met step n most U.length s, ⟨_, 0, ([s], [""]), rfl, ⟨⟨_, _, _, rfl⟩, by rw [ak (Ne.symm An), updM_same]; rfl, updM_same, fun b h1 h2 => by rw [ak h2, ak h1], lz hs, Nat.zero_le _⟩, rfl⟩, ?_⟩
  rintro m ρ M ⟨i, st, rfl, ⟨⟨x6, x7, x8, rfl⟩, rh, OA, oE, ok, hi⟩, hb⟩
  have hle := ok.le
  have KQ := ok.len
  have fin : ∀ M', M' a = some (.dt (st.1.map kT) (st.2.map Dv.str)) → Keeps Γ.M0 M' → st = met step n most U.length s → gK Γ.M0 Q' (.ptr a) M' := fun M' h k e => .inr ⟨k, uq st, .dt ha h rfl fun j d d' e1 e2 => by
    rw [e1] at e2; cases e2
    obtain ⟨w, _, rfl⟩ := List.mem_map.mp (List.mem_of_getElem? e1)
    exact .pin (.str w), by rw [e]; exact q⟩
  have vP : U.length + 1 - i = (U.length - i) + 1 := by omega
  simp! only [rh, OA]
  refine ee (fun h1 => ?_) (fun h1 => ?_)
  · have aT : i < st.1.length := by
      rcases Nat.lt_or_ge i st.1.length with h | h
      · exact h
      · rw [List.drop_eq_nil_of_le h] at h1; cases h1
    obtain ⟨k, hk⟩ : ∃ k, st.1[i]? = some k := ⟨_, List.getElem?_eq_getElem aT⟩
    obtain ⟨wd, lK⟩ : ∃ wd, st.2[i]? = some wd := ⟨_, List.getElem?_eq_getElem (by omega)⟩
    have uv : k ∈ U := ok.sub k (List.mem_of_getElem? hk)
    refine ee (fun h2 => ?_) (fun h2 => ?_)
    · have xn : st.1.length ≤ most := by simpa using h2
      have OS : (st.1.drop i).length = st.1.length - i := List.length_drop
      have OB : seqIndex? 0 (st.1.drop i).length = some 0 := (by unfold seqIndex?; simp; omega)
      have e0 : ((st.1.drop i).map eI)[0]? = some (eI k) := by rw [nz hk]; rfl
      simp only [OB, e0]
      refine ⟨by decide, by decide, by omega, by omega, ?_⟩
      have er : ((st.1.drop i).map eI).eraseIdx 0 = (st.1.drop (i + 1)).map eI := by rw [nz hk]; rfl
      simp only [er]
      refine hZ (fun j ρ M => (∃ x7 x8, ρ = [some (eI s), some (.int (n : Nat)), some (.bC f o c oc vcs bS), some (.int (most : Nat)), some (.ptr a), some (.ptr qq), some (eI k), x7, x8]) ∧ M a = some (.dt ((visit step k wd j st).1.map kT) ((visit step k wd j st).2.map Dv.str)) ∧ M qq = some (.lst (((visit step k wd j st).1.drop (i + 1)).map eI)) ∧ (∀ b, b ≠ a → b ≠ qq → M b = Γ.M0 b) ∧ j ≤ n)
        ⟨⟨_, _, rfl⟩, by rw [ak (Ne.symm An)]; exact rh, updM_same, fun b h1 h2 => by rw [ak h2]; exact oE b h1 h2, Nat.zero_le _⟩ (fun j d ρ M N hd ⟨⟨x7, x8, e1⟩, lL, Ao, oR, gj⟩ hN => ?_) (fun ρ M ⟨⟨x7, x8, e1⟩, lL, Ao, oR, gj⟩ => ?_)
      · subst e1
        obtain ⟨rfl, hj⟩ := eR hd
        obtain ⟨gk, gw, g1, g2⟩ := gu step k wd j st
        have rj := ok.visit (n := j) (step := step) (met := k) lK fun b hb => hU k uv b (by omega)
        have OC := rj.le
        have xo := rj.len
        have KR : (visit step k wd j st).1[i]? = some k := by rw [g1]; exact mx hk
        have Ap : (visit step k wd j st).2[i]? = some wd := by rw [g2]; exact mx lK
        have HE := vI rj.nd KR Ap
        have yg := rj.wl i wd Ap
        have Mk : i < (visit step k wd j st).1.length := (List.getElem?_eq_some_iff.mp KR).1
        simp! only []
        refine ⟨rfl, k, j, rfl, uv, hj, ?_⟩
        simp! only [eI, kf, lL, uf oQ, Option.isSome_map, z4 xo]
        have nx : ∀ {bD M'}, (∃ x7 x8, bD = [some (eI s), some (.int (n : Nat)), some (.bC f o c oc vcs bS), some (.int (most : Nat)), some (.ptr a), some (.ptr qq), some (eI k), x7, x8]) → M' a = some (.dt ((visit step k wd (j + 1) st).1.map kT) ((visit step k wd (j + 1) st).2.map Dv.str)) → M' qq = some (.lst (((visit step k wd (j + 1) st).1.drop (i + 1)).map eI)) → (∀ b, b ≠ a → b ≠ qq → M' b = Γ.M0 b) → N bD M' := fun h1 h2 h3 h4 => hN _ _ ⟨h1, h2, h3, h4, hj⟩
        have vs := iz step k wd j st
        refine ee (fun hm => ?_) (fun hm => ?_)
        · have hm : step k j ∉ (visit step k wd j st).1 := by simpa using hm
          have hv : visit step k wd (j + 1) st = ((visit step k wd j st).1 ++ [step k j], (visit step k wd j st).2 ++ [wd ++ qZ j]) := by rw [vs]; unfold gM; rw [if_neg hm]
          obtain ⟨p1, p2⟩ := vJ (κ := List Key) (k := kT (step k j)) (d := Dv.str (wd ++ qZ j)) (ks := (visit step k wd j st).1.map kT) (ds := (visit step k wd j st).2.map Dv.str) (fun z => hm ((jy oQ).mp z))
          simp only [HE, Option.map_some, vK (show j < 3 by omega)]
          refine ⟨by decide, by rw [show (⟨#[97 + j]⟩ : Str) = qZ j from rfl, pM]; omega, by omega, ?_⟩
          rw [show (⟨#[97 + j]⟩ : Str) = qZ j from rfl, p1, p2]
          simp only [ak An, Ao]
          refine ⟨trivial, by simp only [List.length_map, List.length_drop]; omega, nx ⟨_, _, rfl⟩ ?_ ?_ fun b h1 h2 => by rw [ak h2, ak h1]; exact oR b h1 h2⟩
          · rw [ak (Ne.symm An), updM_same, hv, List.map_append, List.map_append]; rfl
          · rw [updM_same, hv]
            show some (Mo.lst (_ ++ [_])) = _
            rw [List.drop_append_of_le_length (by omega), List.map_append]; rfl
        · have hm : step k j ∈ (visit step k wd j st).1 := by simpa using hm
          have hv : visit step k wd (j + 1) st = visit step k wd j st := by rw [vs]; unfold gM; rw [if_pos hm]
          exact nx ⟨_, _, rfl⟩ (by rw [hv]; exact lL) (by rw [hv]; exact Ao) oR
      · subst e1
        have HW : (dg 0 n).length = n := rangeD_len 0 n
        rw [HW] at lL Ao gj
        have HX := ok.visit (n := n) (step := step) (met := k) lK fun b hb => hU k uv b hb
        obtain ⟨gk, gw, g1, g2⟩ := gu step k wd n st
        refine ⟨U.length + 1 - (i + 1), by omega, i + 1, visit step k wd n st, rfl, ⟨⟨_, _, _, rfl⟩, lL, Ao, oR, HX, by rw [g1, List.length_append]; omega⟩, ?_⟩
        rw [← hb, vP, zZ hk lK xn]
        rw [show U.length + 1 - (i + 1) = U.length - i by omega]
    · refine fin M rh (KP oE) ?_
      have xn : ¬ st.1.length ≤ most := by simpa using h2
      rw [← hb, vP]
      unfold kz
      simp only [hk, lK, if_neg xn]
  · refine fin M rh (KP oE) ?_
    have h : st.1.length ≤ i := by
      rcases Nat.lt_or_ge i st.1.length with h | h
      · rw [nz (List.getElem?_eq_getElem h)] at h1; cases h1
      · exact h
    rw [← hb, vP]
    unfold kz
    have e1 : st.1[i]? = none := List.getElem?_eq_none h
    simp only [e1]
end
def uw (st : Stmt) : Expr := match bu st with | [.Return (some (.Call _ (_ :: _ :: l :: _) _ _)) _] => l | _ => .Constant .none 0 ⟨0, 0, 0, 0⟩
def lP (st : Stmt) : Arguments := match uw st with | .Lambda p _ _ _ => p | _ => ⟨[], [], none, [], [], none, []⟩
def lB (st : Stmt) : Expr := match uw st with | .Lambda _ b _ _ => b | e => e
def lS (st : Stmt) : Scope := match uw st with | .Lambda _ _ s _ => s | _ => ai st
def fS (ah : List (List Int)) : List Int := (List.range ah.length).map fun i : Nat => (i : Int)
def fy (ah : List (List Int)) (p : Int) (a : Nat) : Int := (ah.getD p.toNat []).getD a 0
theorem cB {ah : List (List Int)} {p : Int} : p ∈ fS ah ↔ 0 ≤ p ∧ p < (ah.length : Int) := by
  unfold fS
  rw [List.mem_map]
  constructor
  · rintro ⟨i, hi, rfl⟩
    have := List.mem_range.mp hi
    omega
  · rintro ⟨h1, h2⟩
    exact ⟨p.toNat, List.mem_range.mpr (by omega), by omega⟩
theorem getD_at {α : Type} {l : List α} {i : Nat} {d : α} (h : i < l.length) : l.getD i d = l[i] := by rw [List.getD_eq_getElem?_getD, List.getElem?_eq_getElem h]; rfl
theorem Cg {ah : List (List Int)} {n : Nat} (o : dX ah n) {p : Int} (hp : p ∈ fS ah) {a : Nat} (ha : a < n) : fy ah p a ∈ fS ah := by
  obtain ⟨h1, h2⟩ := cB.mp hp
  have aT : p.toNat < ah.length := by omega
  obtain ⟨e1, e2⟩ := o.row ah[p.toNat] (List.getElem_mem aT)
  unfold fy
  rw [getD_at aT, getD_at (by omega)]
  exact cB.mpr (e2 _ (List.getElem_mem _))
theorem oS {ah : List (List Int)} {p : Int} (hp : p ∈ fS ah) : di (ah.map eI) p = some (eI (ah.getD p.toNat [])) := by
  obtain ⟨h1, h2⟩ := cB.mp hp
  have aT : p.toNat < ah.length := by omega
  have e : p = ((p.toNat : Nat) : Int) := by omega
  rw [e]
  refine dE ?_
  rw [List.getElem?_map, Int.toNat_natCast, List.getD_eq_getElem?_getD, List.getElem?_eq_getElem aT]
  rfl
theorem Aq {ah : List (List Int)} {n : Nat} (o : dX ah n) {p : Int} (hp : p ∈ fS ah) {a : Nat} (ha : a < n) : di ((ah.getD p.toNat []).map Dv.int) ((a : Nat) : Int) = some (.int (fy ah p a)) := by
  obtain ⟨h1, h2⟩ := cB.mp hp
  have aT : p.toNat < ah.length := by omega
  have e1 := (o.row ah[p.toNat] (List.getElem_mem aT)).1
  refine dE ?_
  unfold fy
  rw [List.getElem?_map, getD_at aT, getD_at (by omega), List.getElem?_eq_getElem (by omega)]
  rfl
def e8 : List Int → List (List Int)
  | [] => [[]]
  | x :: xs => e8 xs ++ (e8 xs).map (x :: ·)
theorem rk : ∀ xs : List Int, (e8 xs).length = 2 ^ xs.length
  | [] => rfl
  | x :: xs => by rw [e8, List.length_append, List.length_map, rk xs, List.length_cons, Nat.pow_succ]; omega
theorem lM : ∀ xs : List Int, [] ∈ e8 xs
  | [] => List.mem_singleton.mpr rfl
  | x :: xs => List.mem_append_left _ (lM xs)
theorem lN : ∀ {xs ns : List Int}, xs.Pairwise (· < ·) → ns.Pairwise (· < ·) → (∀ p ∈ ns, p ∈ xs) → ns ∈ e8 xs
  | [], ns, _, _, h => by
    cases ns with
    | nil => exact List.mem_singleton.mpr rfl
    | cons y ns => exact absurd (h y List.mem_cons_self) (by simp)
  | x :: xs, [], _, _, _ => lM _
  | x :: xs, y :: ns, hx, hn, h => by
    obtain ⟨x1, x2⟩ := List.pairwise_cons.mp hx
    obtain ⟨n1, n2⟩ := List.pairwise_cons.mp hn
    have ge : ∀ p ∈ y :: ns, p ≠ x → p ∈ xs := fun p hp ne => by
      rcases List.mem_cons.mp (h p hp) with z | z
      · exact absurd z ne
      · exact z
    by_cases e : y = x
    · subst e
      refine List.mem_append_right _ (List.mem_map.mpr ⟨ns, lN x2 n2 fun p hp => ge p (List.mem_cons_of_mem _ hp) fun z => ?_, rfl⟩)
      have := n1 p hp
      omega
    · refine List.mem_append_left _ (lN x2 hn fun p hp => ge p hp fun z => ?_)
      have hy := x1 y (ge y List.mem_cons_self e)
      rcases List.mem_cons.mp hp with q | q
      · omega
      · have := n1 p q
        omega
def dC (m : Nat) : List (List Int) := (e8 (bF m)).erase []
theorem lO {m : Nat} (h : m ≤ 9) : (dC m).length ≤ 511 := by
  unfold dC
  rw [List.length_erase_of_mem (lM _), rk, oP]
  have : 2 ^ m ≤ 2 ^ 9 := Nat.pow_le_pow_right (by omega) h
  omega
theorem ie (m : Nat) : (bF m).Pairwise (· < ·) := by
  unfold bF
  exact List.pairwise_map.mpr (List.pairwise_lt_range.imp fun h => by omega)
theorem kg {m : Nat} {p : Int} : p ∈ bF m ↔ 0 ≤ p ∧ p < (m : Int) := by
  unfold bF
  rw [List.mem_map]
  constructor
  · rintro ⟨i, hi, rfl⟩
    have := List.mem_range.mp hi
    omega
  · rintro ⟨h1, h2⟩
    exact ⟨p.toNat, List.mem_range.mpr (by omega), by omega⟩
theorem ia {m : Nat} {ns : List Int} : ns ∈ dC m → fx m ns := fun h => by
  have nd : (e8 (bF m)).Nodup ∧ ∀ k ∈ e8 (bF m), k.Pairwise (· < ·) ∧ ∀ p ∈ k, p ∈ bF m := by
    have key : ∀ xs : List Int, xs.Pairwise (· < ·) → (e8 xs).Nodup ∧ ∀ k ∈ e8 xs, k.Pairwise (· < ·) ∧ ∀ p ∈ k, p ∈ xs := by
      intro xs
      induction xs with
      | nil => exact fun _ => ⟨by simp [e8], fun k hk => by rw [List.mem_singleton.mp hk]; exact ⟨.nil, fun _ h => nomatch h⟩⟩
      | cons x xs ih =>
        intro h
        obtain ⟨x1, x2⟩ := List.pairwise_cons.mp h
        obtain ⟨i1, i2⟩ := ih x2
        refine ⟨?_, fun k hk => ?_⟩
        · rw [e8, List.nodup_append]
          refine ⟨i1, List.pairwise_map.mpr (i1.imp fun h e => h (List.cons.inj e).2), fun a ha b hb e => ?_⟩
          obtain ⟨c, hc, rfl⟩ := List.mem_map.mp hb
          have := x1 x ((i2 a ha).2 x (by rw [e]; exact List.mem_cons_self))
          omega
        · rcases List.mem_append.mp hk with z | z
          · exact ⟨(i2 k z).1, fun p hp => List.mem_cons_of_mem _ ((i2 k z).2 p hp)⟩
          · obtain ⟨c, hc, rfl⟩ := List.mem_map.mp z
            refine ⟨List.pairwise_cons.mpr ⟨fun p hp => x1 p ((i2 c hc).2 p hp), (i2 c hc).1⟩, fun p hp => ?_⟩
            rcases List.mem_cons.mp hp with z | z
            · rw [z]; exact List.mem_cons_self
            · exact List.mem_cons_of_mem _ ((i2 c hc).2 p z)
    exact key _ (ie m)
  unfold dC at h
  have h' := (List.Nodup.mem_erase_iff nd.1).mp h
  exact ⟨(nd.2 ns h'.2).1, fun p hp => kg.mp ((nd.2 ns h'.2).2 p hp), h'.1⟩
theorem eT {m : Nat} {ns : List Int} (h : fx m ns) : ns ∈ dC m := (List.mem_erase_of_ne h.ne).mpr (lN (ie m) h.str fun p hp => kg.mpr (h.rng p hp))
def bJ (ah : List (List Int)) (ps : List Int) (a : Nat) : List Int := xm (ps.map fun p => fy ah p a)
theorem oU {ah : List (List Int)} {n : Nat} (O : dX ah n) {ps : List Int} (h : fx ah.length ps) {a : Nat} (ha : a < n) : fx ah.length (bJ ah ps a) := by
  refine ⟨uV _, fun p hp => ?_, fun e => ?_⟩
  · obtain ⟨q, hq, rfl⟩ := List.mem_map.mp (uo.mp hp)
    exact cB.mp (Cg O (cB.mpr (h.rng q hq)) ha)
  · cases ps with
    | nil => exact h.ne rfl
    | cons p ps =>
      have : fy ah p a ∈ bJ ah (p :: ps) a := uo.mpr (List.mem_map.mpr ⟨p, List.mem_cons_self, rfl⟩)
      rw [e] at this
      cases this
section
variable {P : Program} {w : World} {K : PySem.W.Frag} {mg : Str → Option Value} {base : Heap} {tb : da}
theorem rE : aV ["net", "places", "at"] ["net", "places", "at"] (ai dH) := ⟨rfl, rfl, rfl, by decide +kernel, rfl, by decide +kernel, by decide +kernel⟩
theorem rF : aV ["net", "places"] ["net", "places"] (ai aE) := ⟨rfl, rfl, rfl, by decide +kernel, rfl, by decide +kernel, by decide +kernel⟩
def qI : Str := ("images_met" ++ ".<locals>." : Str) ++ "<lambda>"
def xq : cQ := fun ds M Q _ => ∃ ah n ps a, ds = [eN ah, eI ps, .int ((a : Nat) : Int)] ∧ dX ah n ∧ fx ah.length ps ∧ a < n ∧ Q (eI (bJ ah ps a)) M
def rX (ah : List (List Int)) (a : Nat) : Dv → Int | .int p => fy ah p a | _ => 0
theorem Ar (ah : List (List Int)) (a : Nat) (ps : List Int) : (ps.map Dv.int).map (rX ah a) = ps.map fun p => fy ah p a := by rw [List.map_map]; rfl
theorem rG {f : Addr} {fd : FuncData} (D : Df K mg "sign_image" dH ["net", "places", "at"] f fd) (bl : Bl mg) : FnOk P w K mg base bj 1 f fd ["net", "places", "at"] (bp P w K tb xq) := by
  refine fj D rE (fun ds M Q E hS => by obtain ⟨ah, n, ps, a, e, _⟩ := hS; rw [e]; rfl) fun A outer s0 E Γ ds Q' E' hP hw hK ht hr hS => ?_
  obtain ⟨ah, n, ps, a, e, O, hS, ha, q⟩ := hS
  refine ⟨_, (ax (aP (eO (mn (K := K) rfl) rfl bl.tuple_ cn (aa (av (tQ hP hw (K := K) rfl rfl) rfl bl.sorted_ qy (aa (wU hP hw (N' := ["place", "at", "net"]) (tn := 1) (idx := [2, 0]) rfl (show aF ["net", "places", "at"] (ai dH) _ ["place", "at", "net"] 1 [2, 0] from by decide +kernel) (lh (K := K) rfl (qv 1)) (fun _ _ _ _ _ => (aO (i := 0) (show List.Nodup [("place" : Str), ("at" : Str), ("net" : Str)] from by decide +kernel) rfl (Or.inl rfl))) (fun _ _ _ _ _ => bY) (fun _ _ _ _ _ => (bP (dj (K := K) rfl) (bP (dj (K := K) rfl) (qv 2) (qv 0) (fun _ _ => rfl)) (qv 1) (fun _ _ => rfl)))) ae)) ae)))), ?_⟩
  subst e
  have h9 := O.nine
  have hl := hS.len
  simp! only []
  refine vA (rX ah a) (fun τ M => (∃ x, τ = [x, some (.int (a : Nat)), some (eN ah)]) ∧ M = Γ.M0) ⟨⟨_, rfl⟩, rfl⟩ (Nat.lt_of_le_of_lt (show _ ≤ 21 by simp only [List.length_nil, List.length_map]; omega) (by decide)) (fun d hd τ M ⟨⟨x, e⟩, eM⟩ R hR => ?_) (fun τ M ⟨⟨x, e⟩, eM⟩ => ?_)
  · subst e eM
    obtain ⟨p, hp, rfl⟩ := List.mem_map.mp hd
    have bR := cB.mpr (hS.rng p hp)
    simp! only [oS bR, Aq O bR ha]
    exact hR _ _ ⟨⟨_, rfl⟩, rfl⟩
  · subst e eM
    rw [Ar]
    have := m7 (ps.map fun p => fy ah p a)
    rw [List.length_map] at this
    exact ⟨Nat.lt_of_le_of_lt (show (cT (ps.map fun p => fy ah p a)).length ≤ 9 by omega) (by decide), .inl q⟩
theorem pQ : j9 ["met", "at"] ["net"] (lS aE) := ⟨rfl, rfl, rfl, by decide +kernel, by decide +kernel, by decide +kernel, by decide +kernel⟩
theorem xr {f c f1 : Addr} {fd dA : FuncData} {o oc : Obj} {aM : List (Str × Addr)} {vcs : List V} (L : w9 (lP aE) (lB aE) (lS aE) qI o c oc aM fd) (C : pK base ["net"] aM vcs) (cW : vcs.length = 1) {ah : List (List Int)} {n : Nat} (O : dX ah n)
    (cI : Df K mg "sign_image" dH ["net", "places", "at"] f1 dA) (bl : Bl mg) :
    FnOk P w K mg base bj 2 f fd ["met", "at"] (Dh P w K tb f o c oc vcs (Am [eN ah] (bJ ah) (dC ah.length) n)) := by
  have ux := rG (P := P) (w := w) (base := base) (tb := tb) cI bl
  refine L3 L pQ C cW (fun bS ds M Q E hS => by obtain ⟨_, p, a, e, _⟩ := hS; rw [e]; rfl) fun A outer s E Γ bS ds Q' E' hP hw hK ht hr hS => ?_
  obtain ⟨e0, p, a, e, hp, ha, q⟩ := hS
  refine ⟨_, (aJ ux (hr.mono (by decide)) rfl cI.mg cI.fn.kp cI.bd bb hP hw hK ht XR.none (aa (qv 2) (aa (qv 0) (aa (qv 1) ae)))), ?_⟩
  subst e e0
  simp! only []
  exact ⟨ah, n, p, a, rfl, O, ia hp, ha, .inl q⟩
theorem nE : ∀ n, (n, NameKind.free) ∈ (lS aE).names → (ai aE).names.lookup n = some .cell ∨ (ai aE).names.lookup n = some .free := by
  have h : ∀ y ∈ (lS aE).names, y.2 = NameKind.free → (ai aE).names.lookup y.1 = some .cell := by decide +kernel
  exact fun n hn => .inl (h _ hn rfl)
theorem pR : ∀ (j : Nat) (n : Str), (["net"] : List Str)[j]? = some n → (n, NameKind.free) ∈ (lS aE).names ∧ (ai aE).names.lookup n = some .cell ∧ ∃ i, ([0] : List Nat)[j]? = some i ∧ (["net", "places"] : List Str)[i]? = some n := fun j n h => by
  cases j with
  | zero => cases h; exact ⟨by decide +kernel, by decide +kernel, 0, rfl, rfl⟩
  | succ j => simp at h
def nF (ah : List (List Int)) (n : Nat) (s : List Int) : List (List Int) × List Str := met (bJ ah) n 511 (dC ah.length).length s
def Dz : cQ := fun ds M Q _ => ∃ ah n s, ds = [eN ah, eI s] ∧ dX ah n ∧ fx ah.length s ∧ Q (uq (nF ah n s)) M
theorem rH {f f1 : Addr} {fd dA : FuncData} {lQ aK : Addr} {tk0 : Tok} (D : Df K mg "images_met" aE ["net", "places"] f fd) (gy : yw base fd lQ aK) (fm : ∃ bm ob, BMod base mainGlobals mg bm ob)
    (qo : (aK, qI) ∈ tb.l) (HA : ∀ q ∈ tb.l, q.1 = aK → q.2 = qI) (ej : Dg K mg "first_met" gV ["start", "width", "step", "most"] [.int 511 tk0] f1 dA) {f2 : Addr} {fd2 : FuncData} (cI : Df K mg "sign_image" dH ["net", "places", "at"] f2 fd2) (bl : Bl mg) {tk : Tok} (jb : mg "SIGNS" = some (.str "abc" tk)) :
    FnOk P w K mg base bj 8 f fd ["net", "places"] (bp P w K tb Dz) := by
  refine fj D rF (fun ds M Q E hS => by obtain ⟨ah, n, s, e, _⟩ := hS; rw [e]; rfl) fun A outer s0 E Γ ds Q' E' hP hw hK ht hr hS => ?_
  obtain ⟨ah, n, s, e, O, hs, q⟩ := hS
  have gQ : (aK, qI) ∈ Γ.tb.l := ht ▸ qo
  have gR : ∀ q ∈ Γ.tb.l, q.1 = aK → q.2 = qI := ht ▸ HA
  have uW : ∀ b', (∀ b o, base.get? b = some o → b'.get? b = some o) → FnOk P w K mg b' bj 7 f1 dA ["start", "width", "step", "most"] (bp P w K tb (vO P w K mg tb b')) := fun b' _ => ur ej bl jb
  have uy : Vals [V.int 511] [Value.int 511 tk0] := .cons ⟨_, rfl⟩ .nil
  have uz : ∀ (β : Bz) (M : Mh) (H : Hp), aG β M H [V.int 511] [Dv.int 511] := fun _ _ _ => .cons (.int _) .nil
  refine ⟨_, (ax (aP (xa (idx := [0]) (fs := ["net"]) gy.code gy.hd fm rfl (nE) (pR) gQ gR uW (hr.mono (by decide)) (fun _ => rfl) rfl ej.mg ej.kp ej.bd (uy) (uz) bb hP hw hK ht XR.none (qv 1) (av (dB (K := K) rfl hK) rfl bl.len_ PySem.boot_len (aa (bP (dj (K := K) rfl) (qv 0) ay (fun _ _ => rfl)) ae)) ae))), ?_⟩
  subst e
  have h1 := O.one
  have h0 : (0 : Int) ∈ fS ah := cB.mpr ⟨by omega, by omega⟩
  have Ae : (ah.getD 0 []).length = n := by
    have := O.one
    rw [getD_at (by omega)]
    exact (O.row _ (List.getElem_mem _)).1
  have OD := O.wid
  simp! only [t9, oJ, oS h0, Int.toNat_zero, Ae]
  intro lf o c oc aM vcs lv hO b' hb hC
  obtain ⟨OG, mX, ⟨iq, rfl⟩, fw⟩ := hO
  have L : w9 (lP aE) (lB aE) (lS aE) qI (PySem.W.kla_obj "<lambda>" qI (lP aE) (lB aE) (lS aE) aM ((mg "__name__").getD .none) c iq) c oc aM (PySem.W.kla_fn "<lambda>" qI (lP aE) (lB aE) (lS aE) aM ((mg "__name__").getD .none) (.ref c) iq) := ⟨mX, ⟨_, _, _, rfl, rfl⟩, fw⟩
  refine ⟨s, bJ ah, dC ah.length, n, 511, lf, _, _, c, oc, vcs, [eN ah], ["met", "at"], rfl, (xr L hC lv O cI bl).mono (by decide), ⟨_, _, _, _, rfl⟩, .all fun us hl => ?_, by omega, eT hs, fun k hk a ha => eT (oU O (ia hk) ha), ?_, .inl q⟩
  · match us, hl with
    | [_, _], _ => rfl
  · have := lO O.nine
    omega
end
section
variable {P : Program} {w : World} {K : PySem.W.Frag} {mg : Str → Option Value} {base : Heap} {tb : da}
theorem oV : aV ["_law_net_here", "_law_places", "_law_k"] ["_law_net_here", "_law_places", "_law_k"] (ai dI) := ⟨rfl, rfl, rfl, by decide +kernel, rfl, by decide +kernel, by decide +kernel⟩
theorem cC : aV ["_law_net_here", "_law_places", "_law_found", "_law_seen", "_law_at", "_law_here", "_law_word", "_law_k", "_law_there"] ["_law_net_here", "_law_places"] (ai iD) := ⟨rfl, rfl, rfl, by decide +kernel, rfl, by decide +kernel, by decide +kernel⟩
theorem pS {f : Addr} {fd : FuncData} (D : Df K mg "_law_set_led" dI ["_law_net_here", "_law_places", "_law_k"] f fd) (bl : Bl mg) : FnOk P w K mg base bj 1 f fd ["_law_net_here", "_law_places", "_law_k"] (bp P w K tb xq) := by
  refine fj D oV (fun ds M Q E hS => by obtain ⟨ah, n, ps, a, e, _⟩ := hS; rw [e]; rfl) fun A outer s0 E Γ ds Q' E' hP hw hK ht hr hS => ?_
  obtain ⟨ah, n, ps, a, e, O, hS, ha, q⟩ := hS
  refine ⟨_, (ax (aP (eO (mn (K := K) rfl) rfl bl.tuple_ cn (aa (av (tQ hP hw (K := K) rfl rfl) rfl bl.sorted_ qy (aa (eO (Ju hP hw (K := K) rfl rfl) rfl bl.set_ GF (aa (c5 (N' := ["_law_place", "_law_k", "_law_net_here"]) (tn := 1) (idx := [2, 0]) rfl (show aF ["_law_net_here", "_law_places", "_law_k"] (ai dI) _ ["_law_place", "_law_k", "_law_net_here"] 1 [2, 0] from by decide +kernel) (lh (K := K) rfl (qv 1)) (fun _ _ _ _ _ => (aO (i := 0) (show List.Nodup [("_law_place" : Str), ("_law_k" : Str), ("_law_net_here" : Str)] from by decide +kernel) rfl (Or.inl rfl))) (fun _ _ _ _ _ => bY) (fun _ _ _ _ _ => (bP (dj (K := K) rfl) (bP (dj (K := K) rfl) (qv 2) (qv 0) (fun _ _ => rfl)) (qv 1) (fun _ _ => rfl)))) ae)) ae)) ae)))), ?_⟩
  subst e
  have h9 := O.nine
  have hl := hS.len
  simp! only []
  refine ⟨Nat.lt_of_le_of_lt (show ps.length ≤ 9 by omega) (by decide), jP (fun d => .int (rX ah a d)) (fun τ M => (∃ x, τ = [x, some (.int (a : Nat)), some (eN ah)]) ∧ M = Γ.M0) ⟨⟨_, rfl⟩, rfl⟩ (fun d hd τ M ⟨⟨x, e⟩, eM⟩ R hR => ?_) (fun τ M ⟨⟨x, e⟩, eM⟩ => ?_)⟩
  · subst e eM
    obtain ⟨p, hp, rfl⟩ := List.mem_map.mp hd
    have bR := cB.mpr (hS.rng p hp)
    simp! only [oS bR, Aq O bR ha]
    exact hR _ _ ⟨⟨_, rfl⟩, rfl⟩
  · subst e eM
    have e1 : (ps.map Dv.int).map (fun d => Dv.int (rX ah a d)) = (ps.map fun p => fy ah p a).map Dv.int := by rw [List.map_map, List.map_map]; rfl
    rw [e1]
    have := m7 (ps.map fun p => fy ah p a)
    rw [List.length_map] at this
    simp! only [qM, Option.bind_some]
    exact ⟨Nat.lt_of_le_of_lt (show ps.length + 1 ≤ 10 by omega) (by decide), by omega, .inl q⟩
def gz (r : List (List Int) × List Str) : List Dv := (r.1.zip r.2).map fun p => .tup [eI p.1, .str p.2]
theorem nG {r : List (List Int) × List Str} (h : r.1.length = r.2.length) : (gz r).length = r.1.length := by simp [gz, h]
theorem EH {r : List (List Int) × List Str} {i : Nat} {k : List Int} {w : Str} (h1 : r.1[i]? = some k) (h2 : r.2[i]? = some w) : (gz r)[i]? = some (.tup [eI k, .str w]) := by
  rw [gz, List.getElem?_map, show (r.1.zip r.2)[i]? = some (k, w) from List.getElem?_zip_eq_some.mpr ⟨h1, h2⟩]; rfl
theorem Ci {r : List (List Int) × List Str} (h : r.1.length = r.2.length) (k : List Int) (w : Str) : gz (r.1 ++ [k], r.2 ++ [w]) = gz r ++ [.tup [eI k, .str w]] := by
  rw [gz, gz, List.zip_append h, List.map_append]; rfl
theorem Cj {M : Mh} {r : List (List Int) × List Str} : ∀ d ∈ gz r, Pin M d := fun d hd => by
  obtain ⟨p, _, rfl⟩ := List.mem_map.mp hd
  exact .tup fun x hx => by
    simp at hx
    rcases hx with rfl | rfl
    · exact oB _
    · exact .str _
def DA : cQ := fun ds M Q _ => ∃ ah n s, ds = [eN ah, eI s] ∧ dX ah n ∧ fx ah.length s ∧ Q (.lst (gz (nF ah n s))) M
theorem xt {f f1 : Addr} {fd dA : FuncData} (D : Df K mg "_law_met" iD ["_law_net_here", "_law_places"] f fd)
    (c6 : Df K mg "_law_set_led" dI ["_law_net_here", "_law_places", "_law_k"] f1 dA) (pT : FnOk P w K mg base bj 1 f1 dA ["_law_net_here", "_law_places", "_law_k"] (bp P w K tb xq)) (bl : Bl mg) : FnOk P w K mg base bj 2 f fd ["_law_net_here", "_law_places"] (bp P w K tb DA) := by
  refine fj D cC (fun ds M Q E hS => by obtain ⟨ah, n, s, e, _⟩ := hS; rw [e]; rfl) fun A outer s0 E Γ ds Q' E' hP hw hK ht hr hS => ?_
  obtain ⟨ah, n, s, e, O, hs, q⟩ := hS
  refine ⟨_, (aj (aR (i := 2) cC.nd rfl (Or.inl rfl) (pB (aa (tL (aa (qv 1) (aa oo ae))) ae)))
    (aj (aR (i := 3) cC.nd rfl (Or.inl rfl) (qW hr.units (qv 1) gm))
    (aj (aR (i := 4) cC.nd rfl (Or.inl rfl) ay)
    (aj (ni PassesOwn.never (bh nj (qv 4) (av (dB (K := K) rfl hK) rfl bl.len_ PySem.boot_len (aa (qv 2) ae)) (aZ _))
      (aj (iV (bP (dj (K := K) rfl) (qv 2) (qv 4) (fun _ _ => rfl)) (lg (n := 2) rfl (dq (aO (i := 5) cC.nd rfl (Or.inl rfl)) (dq (aO (i := 6) cC.nd rfl (Or.inl rfl)) jL))))
    (aj (lj PassesOwn.never rfl (cH rfl bl.range_ (aa (av (dB (K := K) rfl hK) rfl bl.len_ PySem.boot_len (aa (bP (dj (K := K) rfl) (qv 0) ay (fun _ _ => rfl)) ae)) ae)) (fun Ab eP ew eK et => by have hP := hP.trans eP.symm; have hw := hw.trans ew.symm; have hK := hK.trans eK.symm; have ht := ht.trans et.symm; exact ⟨(aO (i := 7) cC.nd rfl (Or.inl rfl)), (aj (aR (i := 8) cC.nd rfl (Or.inl rfl) (aJ pT (hr.mono (by decide)) rfl c6.mg c6.fn.kp c6.bd bb hP hw hK ht XR.none (aa (qv 0) (aa (qv 5) (aa (qv 7) ae)))))
    (ax (bO (bh (t6 hr.units) (qv 8) (qv 3) (by rfl))
      (aj (vD hr.units (qv 3) (qv 8) gm)
    (ax (jK (rT (K := K) rfl PySem.F.plainAttrs_list PySem.F.slot_list_append PySem.F.type_list_append tS (qv 2) (aa (tL (aa (qv 8) (aa (a9 qJ (qv 6) (bP (dj (K := K) rfl) oo (qv 7) (fun _ _ => rfl))) ae))) ae)))))
      qss_nil)))⟩))
    (ax (aR (i := 4) cC.nd rfl (Or.inl rfl) (a9 gq (qv 4) ay))))))
    (ax (aP (qv 2))))))), ?_⟩
  subst e
  simp! only [kf]
  refine ⟨by decide, by decide, fun a ha c hc => ?_⟩
  have DB : c ≠ a := fun z => by rw [z, updM_same] at hc; cases hc
  have Dc : Γ.M0 c = none := by rw [ak DB] at hc; exact hc
  have big : (10000 : Nat) + 10 < sizeLine := by decide
  have hU := lO O.nine
  have h1 := O.one
  have h0 : (0 : Int) ∈ fS ah := cB.mpr ⟨by omega, by omega⟩
  have Ae : (ah.getD 0 []).length = n := by
    rw [getD_at (by omega)]
    exact (O.row _ (List.getElem_mem _)).1
  have OD := O.wid
  refine ⟨fun m ρ M => ∃ i st, m = (dC ah.length).length + 1 - i ∧ (∃ x5 x6 x7 x8, ρ = [some (eN ah), some (eI s), some (.ptr a), some (.ptr c), some (.int (i : Nat)), x5, x6, x7, x8]) ∧ M a = some (.lst (gz st)) ∧ M c = some (.dt (st.1.map kT) (st.1.map fun _ => .bl true)) ∧ (∀ b, b ≠ a → b ≠ c → M b = Γ.M0 b) ∧ eB (dC ah.length) st ∧ i ≤ st.1.length ∧ kz (bJ ah) n 511 ((dC ah.length).length + 1 - i) i st = nF ah n s,
    ⟨_, 0, ([s], [""]), rfl, ⟨_, _, _, _, rfl⟩, by rw [ak (Ne.symm DB), updM_same]; rfl, updM_same, fun b h1 h2 => by rw [ak h2, ak h1], lz (eT hs), Nat.zero_le _, rfl⟩, ?_⟩
  rintro m ρ M ⟨i, st, rfl, ⟨x5, x6, x7, x8, rfl⟩, rh, OH, oE, ok, hi, hb⟩
  have hle := ok.le
  have KQ := ok.len
  have vP : (dC ah.length).length + 1 - i = ((dC ah.length).length - i) + 1 := by omega
  simp! only [rh, nG KQ]
  refine ee (fun h1 => ?_) (fun h1 => ?_)
  · have aT : i < st.1.length := by have := of_decide_eq_true h1; omega
    obtain ⟨k, hk⟩ : ∃ k, st.1[i]? = some k := ⟨_, List.getElem?_eq_getElem aT⟩
    obtain ⟨wd, lK⟩ : ∃ wd, st.2[i]? = some wd := ⟨_, List.getElem?_eq_getElem (by omega)⟩
    have uv : fx ah.length k := ia (ok.sub k (List.mem_of_getElem? hk))
    simp! only [dE (EH hk lK), oS h0, Int.toNat_zero, Ae]
    refine ⟨by omega, by omega, ?_⟩
    refine hZ (fun j ρ M => (∃ x7 x8, ρ = [some (eN ah), some (eI s), some (.ptr a), some (.ptr c), some (.int (i : Nat)), some (eI k), some (.str wd), x7, x8]) ∧ M a = some (.lst (gz (visit (bJ ah) k wd j st))) ∧ M c = some (.dt ((visit (bJ ah) k wd j st).1.map kT) ((visit (bJ ah) k wd j st).1.map fun _ => .bl true)) ∧ (∀ b, b ≠ a → b ≠ c → M b = Γ.M0 b) ∧ j ≤ n)
      ⟨⟨_, _, rfl⟩, rh, OH, oE, Nat.zero_le _⟩ (fun j d ρ M N hd ⟨⟨x7, x8, e1⟩, lL, As, oR, gj⟩ hN => ?_) (fun ρ M ⟨⟨x7, x8, e1⟩, lL, As, oR, gj⟩ => ?_)
    · subst e1
      obtain ⟨rfl, hj⟩ := eR hd
      obtain ⟨gk, gw, g1, g2⟩ := gu (bJ ah) k wd j st
      have rj := ok.visit (n := j) (step := bJ ah) (met := k) lK fun b hb => eT (oU O uv (by omega))
      have OC := rj.le
      have xo := rj.len
      have Ap : (visit (bJ ah) k wd j st).2[i]? = some wd := by rw [g2]; exact mx lK
      have yg := rj.wl i wd Ap
      have Mk : i < (visit (bJ ah) k wd j st).2.length := (List.getElem?_eq_some_iff.mp Ap).1
      simp! only []
      refine ⟨ah, n, k, j, rfl, O, uv, hj, ?_⟩
      simp! only [As, kf, xf (show ((visit (bJ ah) k wd j st).1.map kT).length = ((visit (bJ ah) k wd j st).1.map fun _ => Dv.bl true).length by rw [List.length_map, List.length_map]), jy oQ]
      have vs := iz (bJ ah) k wd j st
      refine ee (fun hm => ?_) (fun hm => ?_)
      · have hm : bJ ah k j ∉ (visit (bJ ah) k wd j st).1 := by simpa using hm
        have hv : visit (bJ ah) k wd (j + 1) st = ((visit (bJ ah) k wd j st).1 ++ [bJ ah k j], (visit (bJ ah) k wd j st).2 ++ [wd ++ qZ j]) := by rw [vs]; unfold gM; rw [if_neg hm]
        obtain ⟨p1, p2⟩ := vJ (κ := List Key) (k := kT (bJ ah k j)) (d := Dv.bl true) (ks := (visit (bJ ah) k wd j st).1.map kT) (ds := (visit (bJ ah) k wd j st).1.map fun _ => Dv.bl true) (fun z => hm ((jy oQ).mp z))
        rw [p1, p2]
        simp! only [ak (Ne.symm DB), lL, vK (show j < 3 by omega)]
        have e1 : (⟨#[97 + j]⟩ : Str) = qZ j := rfl
        rw [e1, pM]
        refine ⟨by omega, by decide, by omega, by decide, by rw [nG xo]; omega, hN _ _ ⟨⟨_, _, rfl⟩, ?_, ?_, fun b h1 h2 => by rw [ak h1, ak h2]; exact oR b h1 h2, hj⟩⟩
        · rw [updM_same, hv, Ci xo]
        · rw [ak DB, updM_same, hv, List.map_append, List.map_append]; rfl
      · have hm : bJ ah k j ∈ (visit (bJ ah) k wd j st).1 := by simpa using hm
        have hv : visit (bJ ah) k wd (j + 1) st = visit (bJ ah) k wd j st := by rw [vs]; unfold gM; rw [if_pos hm]
        exact hN _ _ ⟨⟨_, _, rfl⟩, by rw [hv]; exact lL, by rw [hv]; exact As, oR, hj⟩
    · subst e1
      have HW : (dg 0 n).length = n := rangeD_len 0 n
      rw [HW] at lL As gj
      have HX := ok.visit (n := n) (step := bJ ah) (met := k) lK fun b hb => eT (oU O uv hb)
      obtain ⟨gk, gw, g1, g2⟩ := gu (bJ ah) k wd n st
      simp! only []
      refine ⟨_, ?_, i + 1, visit (bJ ah) k wd n st, rfl, ⟨_, _, _, _, by simp only [Int.natCast_add, Int.cast_ofNat_Int]; rfl⟩, lL, As, oR, HX, by rw [g1, List.length_append]; omega, ?_⟩
      · omega
      · rw [← hb, vP, zZ hk lK (by omega)]
        rw [show (dC ah.length).length + 1 - (i + 1) = (dC ah.length).length - i by omega]
  · have oH : st.1.length ≤ i := by have := of_decide_eq_false h1; omega
    have e : st = nF ah n s := by
      rw [← hb, vP]
      unfold kz
      simp only [show st.1[i]? = none from List.getElem?_eq_none oH]
    refine qP (fun b o e => by rw [oE b (fun z => by rw [z, ha] at e; cases e) (fun z => by rw [z, Dc] at e; cases e)]; exact e) ha rh Cj ?_
    rw [e]
    exact q
end
section
variable {P : Program} {w : World} {K : PySem.W.Frag} {mg : Str → Option Value} {base : Heap} {tb : da} {dN : Addr}
theorem rJ : aV ["net"] ["net"] (ai gv) := ⟨rfl, rfl, rfl, by decide +kernel, rfl, by decide +kernel, by decide +kernel⟩
theorem mV : aV ["net"] ["net"] (ai iB) := ⟨rfl, rfl, rfl, by decide +kernel, rfl, by decide +kernel, by decide +kernel⟩
theorem lR : aV ["_law_found", "_law_due"] ["_law_found", "_law_due"] (ai dw) := ⟨rfl, rfl, rfl, by decide +kernel, rfl, by decide +kernel, by decide +kernel⟩
theorem lU : aV ["_law_script", "_law_k", "_law_net_here", "_law_due", "_law_found"] ["_law_script"] (ai rV) := ⟨rfl, rfl, rfl, by decide +kernel, rfl, by decide +kernel, by decide +kernel⟩
theorem pU {ah : List (List Int)} {n : Nat} (O : dX ah n) {s : List Int} (hs : fx ah.length s) : eB (dC ah.length) (nF ah n s) := zY (fun k hk a ha => eT (oU O (ia hk) ha)) _ _ _ (lz (eT hs))
theorem Ml (k : List Int) : (kT k).map ny = k.map Dv.int := by rw [kT, List.map_map]; rfl
theorem iH {m : Nat} (h : 1 ≤ m) : fx m (bF m) := ⟨ie m, fun p hp => kg.mp hp, fun e => by have := oP m; rw [e] at this; simp at this; omega⟩
def DC : cQ := fun ds M Q _ => ∃ ah n, ds = [eN ah] ∧ dX ah n ∧ Q (eI (bF ah.length)) M
theorem rK {f : Addr} {fd : FuncData} (D : Df K mg "all_places" gv ["net"] f fd) (bl : Bl mg) : FnOk P w K mg base bj 1 f fd ["net"] (bp P w K tb DC) := by
  refine fj D rJ (fun ds M Q E hS => by obtain ⟨ah, n, e, _⟩ := hS; rw [e]; rfl) fun A outer s E Γ ds Q' E' hP hw hK ht hr hS => ?_
  obtain ⟨ah, n, e, O, q⟩ := hS
  refine ⟨_, (ax (aP (ku rfl rfl bl.tuple_ rfl bl.range_ (av (dB (K := K) rfl hK) rfl bl.len_ PySem.boot_len (aa (qv 0) ae))))), ?_⟩
  subst e
  have h9 := O.nine
  simp! only []
  exact ⟨by omega, by omega, .inl q⟩
def allM (ah : List (List Int)) (n : Nat) : List (List Int) := (nF ah n (bF ah.length)).1
theorem kh {ah : List (List Int)} {n : Nat} (O : dX ah n) : (allM ah n).length ≤ 511 := Nat.le_trans (pU O (iH O.one)).le (lO O.nine)
theorem uA (ks : List (List Int)) : (ks.map kT).map (fun k => Dv.tup (k.map ny)) = ks.map eI := by
  rw [List.map_map]
  exact List.map_congr_left fun k _ => by show Dv.tup ((kT k).map ny) = _; rw [Ml]
def Au : cQ := fun ds M Q _ => ∃ ah n, ds = [eN ah] ∧ dX ah n ∧ ∀ a, M a = none → Q (.ptr a) (aw M a (.lst ((allM ah n).map eI)))
def Av : cQ := fun ds M Q _ => ∃ ah n, ds = [eN ah] ∧ dX ah n ∧ Q (.lst ((allM ah n).map eI)) M
theorem uX {f f1 f2 f3 : Addr} {fd dA fd2 rg : FuncData} (D : Df K mg "sets_met" iB ["net"] f fd)
    (cU : Df K mg "need_net" iA ["thing"] f1 dA) (iF : FnOk P w K mg base (gG P w) 7 f1 dA ["thing"] (bp P w K tb (Dy dN)))
    (bL : Df K mg "images_met" aE ["net", "places"] f2 fd2) (gA : FnOk P w K mg base bj 8 f2 fd2 ["net", "places"] (bp P w K tb Dz))
    (bX : Df K mg "all_places" gv ["net"] f3 rg) (gB : FnOk P w K mg base bj 1 f3 rg ["net"] (bp P w K tb DC)) (bl : Bl mg) :
    FnOk P w K mg base (gG P w) 9 f fd ["net"] (bp P w K tb Au) ∧ FnOk P w K mg base (gG P w) 9 f fd ["net"] (bp P w K tb Av) := by
  have big : (1000 : Nat) < sizeLine := by decide
  constructor
  · refine wQ D mV (fun ds M Q E ⟨ah, n, e, _⟩ => by rw [e]; rfl) fun A outer s E Γ ds Q' E' hP hw hK ht hE hr hS => ?_
    obtain ⟨ah, n, e, O, q⟩ := hS
    refine ⟨_, (aj (jK (aJ iF (hr.mono (by decide)) rfl cU.mg cU.fn.kp cU.bd CN hP hw hK ht hE (aa (qv 0) ae)))
    (ax (aP (eO (ug rfl) rfl bl.list_ fN (aa (aJ gA (hr.mono (by decide)) rfl bL.mg bL.fn.kp bL.bd bb hP hw hK ht XR.none (aa (qv 0) (aa (aJ gB (hr.mono (by decide)) rfl bX.mg bX.fn.kp bX.bd bb hP hw hK ht XR.none (aa (qv 0) ae)) ae))) ae))))), ?_⟩
    subst e
    refine ⟨_, rfl, vN ah, fun _ => ?_, fun h => by rw [vM O] at h; cases h⟩
    simp! only []
    refine ⟨ah, n, rfl, O, ah, n, _, rfl, O, iH O.one, ?_⟩
    simp! only [uq, uA]
    exact ⟨by have := kh O; show (allM ah n).length ≤ _; omega, fun a ha => .inl (q a ha)⟩
  · refine wQ D mV (fun ds M Q E ⟨ah, n, e, _⟩ => by rw [e]; rfl) fun A outer s E Γ ds Q' E' hP hw hK ht hE hr hS => ?_
    obtain ⟨ah, n, e, O, q⟩ := hS
    refine ⟨_, (aj (jK (aJ iF (hr.mono (by decide)) rfl cU.mg cU.fn.kp cU.bd CN hP hw hK ht hE (aa (qv 0) ae)))
    (ax (aP (eO (ug rfl) rfl bl.list_ fN (aa (aJ gA (hr.mono (by decide)) rfl bL.mg bL.fn.kp bL.bd bb hP hw hK ht XR.none (aa (qv 0) (aa (aJ gB (hr.mono (by decide)) rfl bX.mg bX.fn.kp bX.bd bb hP hw hK ht XR.none (aa (qv 0) ae)) ae))) ae))))), ?_⟩
    subst e
    refine ⟨_, rfl, vN ah, fun _ => ?_, fun h => by rw [vM O] at h; cases h⟩
    simp! only []
    refine ⟨ah, n, rfl, O, ah, n, _, rfl, O, iH O.one, ?_⟩
    simp! only [uq, uA]
    refine ⟨by have := kh O; show (allM ah n).length ≤ _; omega, fun a ha => qP (.upd ha .refl) ha updM_same (fun d hd => ?_) q⟩
    obtain ⟨k, _, rfl⟩ := List.mem_map.mp hd
    exact oB k
def rY : Nat → Dv → Prop
  | 0, d => ∃ i, d = .int i
  | n + 1, d => ∃ xs : List Dv, (d = .lst xs ∨ d = .tup xs) ∧ xs.length ≤ 1000 ∧ ∀ x ∈ xs, rY n x
def rZ (n : Nat) : cQ := fun ds M Q _ => ∃ d, ds = [d, d] ∧ rY n d ∧ Q (.bl true) M
theorem oW {xs : List Dv} {d : Dv} (h : d ∈ cm xs xs) : ∃ x ∈ xs, d = .tup [x, x] := by
  obtain ⟨i, hi⟩ := List.mem_iff_getElem?.mp h
  obtain ⟨x, y, rfl, h1, h2⟩ := qQ hi
  rw [h1] at h2
  cases h2
  exact ⟨x, List.mem_of_getElem? h1, rfl⟩
theorem oX : ∀ n : Nat, gr (List.replicate n (Dv.bl true)) = some (List.replicate n true)
  | n => by
    have := oF (List.replicate n true)
    rwa [List.map_replicate] at this
theorem Ck {d : Dv} {t : Dt} {M : Mh} {Q : ZK} (h : cp (now M d) = some t) (hp : kX t ≤ 60) (q : Q (.bl true) M) : tO false d d M Q := by
  unfold tO
  rw [h]
  refine ⟨hp, ?_⟩
  rw [jU]
  exact q
theorem Aw {f : Addr} {fd : FuncData} {k : Nat} : FnOk P w K mg base bj k f fd ["_law_found", "_law_due"] (bp P w K tb fun _ _ _ _ => False) :=
  have no : ∀ {vs H Q E}, bp P w K tb (fun _ _ _ _ => False) vs H Q E → False := fun h => by obtain ⟨β, ds, M, Q', E', _, _, _, _, m, rs, s, _⟩ := h; exact s
  ⟨fun _ _ _ _ h => (no h).elim, fun _ _ _ _ _ _ _ _ _ _ _ _ _ h => (no h).elim⟩
theorem Ax {f : Addr} {fd : FuncData} (D : Df K mg "_law_like" dw ["_law_found", "_law_due"] f fd) (bl : Bl mg) : FnOk P w K mg base bj 1 f fd ["_law_found", "_law_due"] (bp P w K tb (rZ 0)) := by
  have aN := D
  have eu := Aw (P := P) (w := w) (K := K) (mg := mg) (base := base) (tb := tb) (f := f) (fd := fd) (k := 0)
  refine fj D lR (fun ds M Q E hS => by obtain ⟨d, e, _⟩ := hS; rw [e]; rfl) fun A outer s E Γ ds Q' E' hP hw hK ht hr hS => ?_
  obtain ⟨d, e, h, q⟩ := hS
  refine ⟨_, (aj (bO (QW.pt (jX (d9 (av (aQ (K := K) rfl) rfl bl.isinstance_ aB (aa (qv 1) (aa (aY (v := .ty "list") rfl bl.list_ fN rfl) ae)))) (iU (d9 (av (aQ (K := K) rfl) rfl bl.isinstance_ aB (aa (qv 1) (aa (aY (v := .ty "tuple") rfl bl.tuple_ cn rfl) ae)))))))
      (aj (bO (QW.pt (jX (bh tN (av (aQ (K := K) rfl) rfl bl.isinstance_ aB (aa (qv 1) (aa (aY (v := .ty "list") rfl bl.list_ fN rfl) ae))) (av (aQ (K := K) rfl) rfl bl.isinstance_ aB (aa (qv 0) (aa (aY (v := .ty "list") rfl bl.list_ fN rfl) ae))) (aZ _)) (iU (bh tN (av (aQ (K := K) rfl) rfl bl.isinstance_ aB (aa (qv 1) (aa (aY (v := .ty "tuple") rfl bl.tuple_ cn rfl) ae))) (av (aQ (K := K) rfl) rfl bl.isinstance_ aB (aa (qv 0) (aa (aY (v := .ty "tuple") rfl bl.tuple_ cn rfl) ae))) (aZ _)))))
      (ax (aP gm))
      qss_nil)
    (ax (aP (fq (fQ jZ (av (dB (K := K) rfl hK) rfl bl.len_ PySem.boot_len (aa (qv 0) ae)) (av (dB (K := K) rfl hK) rfl bl.len_ PySem.boot_len (aa (qv 1) ae)) (aZ _)) (hV (av (zH (K := K) rfl rfl) rfl bl.all_ yQ (aa (c5 (N' := ["_law_one", "_law_other"]) (tn := 2) (idx := []) rfl (show aF ["_law_found", "_law_due"] (ai dw) _ ["_law_one", "_law_other"] 2 [] from by decide +kernel) (Dm (oA true true (K := K) rfl rfl bl.zip_ (qv 0) (qv 1)) (oA false false (K := K) rfl rfl bl.zip_ (qv 0) (qv 1))) (fun _ _ _ _ _ => (lg (n := 2) rfl (dq (aO (i := 0) (show List.Nodup [("_law_one" : Str), ("_law_other" : Str)] from by decide +kernel) rfl (Or.inl rfl)) (dq (aO (i := 1) (show List.Nodup [("_law_one" : Str), ("_law_other" : Str)] from by decide +kernel) rfl (Or.inl rfl)) jL)))) (fun _ _ _ _ _ => bY) (fun _ _ _ _ _ => (aJ eu hr rfl aN.mg aN.fn.kp aN.bd bb hP hw hK ht XR.none (aa (qv 0) (aa (qv 1) ae))))) ae)))))))
      qss_nil)
    (aj (bO (d9 (av (aQ (K := K) rfl) rfl bl.isinstance_ aB (aa (qv 1) (aa (aY (v := .ty "str") rfl bl.str_ nZ rfl) ae))))
      (ax (aP (fq (av (aQ (K := K) rfl) rfl bl.isinstance_ aB (aa (qv 0) (aa (aY (v := .ty "str") rfl bl.str_ nZ rfl) ae))) (hV (fQ (rS hr.units) (qv 0) (qv 1) (aZ _))))))
      qss_nil)
    (aj (bO (bh rR (qv 1) om (aZ _))
      (ax (aP (fQ rR (qv 0) om (aZ _))))
      qss_nil)
    (ax (aP (fq (av (aQ (K := K) rfl) rfl bl.isinstance_ aB (aa (qv 0) (aa (aY (v := .ty "int") rfl bl.int_ sL rfl) ae))) (fq (tK (av (aQ (K := K) rfl) rfl bl.isinstance_ aB (aa (qv 0) (aa (aY (v := .ty "bool") rfl bl.bool_ pf rfl) ae)))) (hV (fQ (rS hr.units) (qv 0) (qv 1) (aZ _)))))))))), ?_⟩
  subst e
  obtain ⟨i, rfl⟩ := h
  simp! only []
  exact ⟨by decide, by decide, by decide, by decide, by decide, Ck rfl (Nat.le_of_ble_eq_true rfl) (.inl q)⟩
theorem rl {f : Addr} {fd : FuncData} {n k : Nat} (D : Df K mg "_law_like" dw ["_law_found", "_law_due"] f fd) (eu : FnOk P w K mg base bj k f fd ["_law_found", "_law_due"] (bp P w K tb (rZ n))) (bl : Bl mg) : FnOk P w K mg base bj (k + 1) f fd ["_law_found", "_law_due"] (bp P w K tb (rZ (n + 1))) := by
  have aN := D
  refine fj D lR (fun ds M Q E hS => by obtain ⟨d, e, _⟩ := hS; rw [e]; rfl) fun A outer s E Γ ds Q' E' hP hw hK ht hr hS => ?_
  obtain ⟨d, e, h, q⟩ := hS
  refine ⟨_, (aj (bO (QW.pt (jX (d9 (av (aQ (K := K) rfl) rfl bl.isinstance_ aB (aa (qv 1) (aa (aY (v := .ty "list") rfl bl.list_ fN rfl) ae)))) (iU (d9 (av (aQ (K := K) rfl) rfl bl.isinstance_ aB (aa (qv 1) (aa (aY (v := .ty "tuple") rfl bl.tuple_ cn rfl) ae)))))))
      (aj (bO (QW.pt (jX (bh tN (av (aQ (K := K) rfl) rfl bl.isinstance_ aB (aa (qv 1) (aa (aY (v := .ty "list") rfl bl.list_ fN rfl) ae))) (av (aQ (K := K) rfl) rfl bl.isinstance_ aB (aa (qv 0) (aa (aY (v := .ty "list") rfl bl.list_ fN rfl) ae))) (aZ _)) (iU (bh tN (av (aQ (K := K) rfl) rfl bl.isinstance_ aB (aa (qv 1) (aa (aY (v := .ty "tuple") rfl bl.tuple_ cn rfl) ae))) (av (aQ (K := K) rfl) rfl bl.isinstance_ aB (aa (qv 0) (aa (aY (v := .ty "tuple") rfl bl.tuple_ cn rfl) ae))) (aZ _)))))
      (ax (aP gm))
      qss_nil)
    (ax (aP (fq (fQ jZ (av (dB (K := K) rfl hK) rfl bl.len_ PySem.boot_len (aa (qv 0) ae)) (av (dB (K := K) rfl hK) rfl bl.len_ PySem.boot_len (aa (qv 1) ae)) (aZ _)) (hV (av (zH (K := K) rfl rfl) rfl bl.all_ yQ (aa (c5 (N' := ["_law_one", "_law_other"]) (tn := 2) (idx := []) rfl (show aF ["_law_found", "_law_due"] (ai dw) _ ["_law_one", "_law_other"] 2 [] from by decide +kernel) (Dm (oA true true (K := K) rfl rfl bl.zip_ (qv 0) (qv 1)) (oA false false (K := K) rfl rfl bl.zip_ (qv 0) (qv 1))) (fun _ _ _ _ _ => (lg (n := 2) rfl (dq (aO (i := 0) (show List.Nodup [("_law_one" : Str), ("_law_other" : Str)] from by decide +kernel) rfl (Or.inl rfl)) (dq (aO (i := 1) (show List.Nodup [("_law_one" : Str), ("_law_other" : Str)] from by decide +kernel) rfl (Or.inl rfl)) jL)))) (fun _ _ _ _ _ => bY) (fun _ _ _ _ _ => (aJ eu hr rfl aN.mg aN.fn.kp aN.bd bb hP hw hK ht XR.none (aa (qv 0) (aa (qv 1) ae))))) ae)))))))
      qss_nil)
    (aj (bO (d9 (av (aQ (K := K) rfl) rfl bl.isinstance_ aB (aa (qv 1) (aa (aY (v := .ty "str") rfl bl.str_ nZ rfl) ae))))
      (ax (aP (fq (av (aQ (K := K) rfl) rfl bl.isinstance_ aB (aa (qv 0) (aa (aY (v := .ty "str") rfl bl.str_ nZ rfl) ae))) (hV (fQ (rS hr.units) (qv 0) (qv 1) (aZ _))))))
      qss_nil)
    (aj (bO (bh rR (qv 1) om (aZ _))
      (ax (aP (fQ rR (qv 0) om (aZ _))))
      qss_nil)
    (ax (aP (fq (av (aQ (K := K) rfl) rfl bl.isinstance_ aB (aa (qv 0) (aa (aY (v := .ty "int") rfl bl.int_ sL rfl) ae))) (fq (tK (av (aQ (K := K) rfl) rfl bl.isinstance_ aB (aa (qv 0) (aa (aY (v := .ty "bool") rfl bl.bool_ pf rfl) ae)))) (hV (fQ (rS hr.units) (qv 0) (qv 1) (aZ _)))))))))), ?_⟩
  subst e
  obtain ⟨xs, hd, hl, hx⟩ := h
  have big : (1000 : Nat) < sizeLine := by decide
  rcases hd with rfl | rfl
  · simp! only []
    refine ⟨by decide, by decide, by decide, by decide, by decide, .inl ?_⟩
    simp! only []
    refine ⟨by omega, jP (fun _ => .bl true) (fun τ M => (∃ x y, τ = [x, y]) ∧ M = Γ.M0) ⟨⟨_, _, rfl⟩, rfl⟩ (fun d hd τ M hI R hR => ?_) (fun τ M hI => ?_)⟩
    · obtain ⟨⟨x, y, rfl⟩, rfl⟩ := hI
      obtain ⟨z, hz, rfl⟩ := oW hd
      simp! only []
      exact ⟨z, rfl, hx z hz, hR _ _ ⟨⟨_, _, rfl⟩, rfl⟩⟩
    · obtain ⟨⟨x, y, rfl⟩, rfl⟩ := hI
      rw [List.map_const', oX]
      have : (List.replicate (cm xs xs).length true).all id = true := by simp
      show gK Γ.M0 Q' (.bl ((List.replicate (cm xs xs).length true).all id)) Γ.M0
      rw [this]
      exact .inl q
  · simp! only []
    refine ⟨by decide, by decide, by decide, by decide, by decide, by decide, .inr ?_⟩
    simp! only []
    refine ⟨by omega, jP (fun _ => .bl true) (fun τ M => (∃ x y, τ = [x, y]) ∧ M = Γ.M0) ⟨⟨_, _, rfl⟩, rfl⟩ (fun d hd τ M hI R hR => ?_) (fun τ M hI => ?_)⟩
    · obtain ⟨⟨x, y, rfl⟩, rfl⟩ := hI
      obtain ⟨z, hz, rfl⟩ := oW hd
      simp! only []
      exact ⟨z, rfl, hx z hz, hR _ _ ⟨⟨_, _, rfl⟩, rfl⟩⟩
    · obtain ⟨⟨x, y, rfl⟩, rfl⟩ := hI
      rw [List.map_const', oX]
      have : (List.replicate (cm xs xs).length true).all id = true := by simp
      show gK Γ.M0 Q' (.bl ((List.replicate (cm xs xs).length true).all id)) Γ.M0
      rw [this]
      exact .inl q
theorem Ay (ks : List (List Int)) (h : ks.length ≤ 1000) (h2 : ∀ k ∈ ks, k.length ≤ 1000) : rY 2 (.lst (ks.map eI)) := by
  refine ⟨_, .inl rfl, by rw [List.length_map]; exact h, fun x hx => ?_⟩
  obtain ⟨k, hk, rfl⟩ := List.mem_map.mp hx
  refine ⟨_, .inr rfl, by rw [List.length_map]; exact h2 k hk, fun x hx => ?_⟩
  obtain ⟨i, _, rfl⟩ := List.mem_map.mp hx
  exact ⟨i, rfl⟩
theorem Cm {ah : List (List Int)} {n : Nat} (O : dX ah n) : rY 2 (.lst ((allM ah n).map eI)) := Ay _ (by have := kh O; omega) fun k hk => by
  have := (ia ((pU O (iH O.one)).sub k hk)).len
  have := O.nine
  omega
theorem firsts (r : List (List Int) × List Str) (h : r.1.length = r.2.length) : (gz r).map (fun d => match d with | .tup (x :: _) => x | d => d) = r.1.map eI := by
  rw [gz, List.map_map]
  have : (r.1.zip r.2).map (fun p => eI p.1) = ((r.1.zip r.2).map (·.1)).map eI := by rw [List.map_map]; rfl
  show (r.1.zip r.2).map (fun p => eI p.1) = _
  rw [this, jQ h]
theorem HY {f f1 f2 f3 f4 f5 : Addr} {fd dA fd2 rg HZ KS : FuncData} (D : Df K mg "law" rV ["_law_script"] f fd)
    (fc : Df K mg "_law_bag" iC ["_law_script", "_law_at"] f1 dA) (xu : FnOk P w K mg base bj 1 f1 dA ["_law_script", "_law_at"] (bp P w K tb HJ))
    (fe : Df K mg "_law_net" bV ["_law_bag_here", "_law_most"] f2 fd2) (xx : FnOk P w K mg base bj 3 f2 fd2 ["_law_bag_here", "_law_most"] (bp P w K tb Dq))
    (fg : Df K mg "_law_met" iD ["_law_net_here", "_law_places"] f3 rg) (xA : FnOk P w K mg base bj 2 f3 rg ["_law_net_here", "_law_places"] (bp P w K tb DA))
    (cV : Df K mg "sets_met" iB ["net"] f4 HZ) (ki : FnOk P w K mg base (gG P w) 9 f4 HZ ["net"] (bp P w K tb Au)) (jc : FnOk P w K mg base (gG P w) 9 f4 HZ ["net"] (bp P w K tb Av))
    (aN : Df K mg "_law_like" dw ["_law_found", "_law_due"] f5 KS) (eu : FnOk P w K mg base bj 3 f5 KS ["_law_found", "_law_due"] (bp P w K tb (rZ 2))) (bl : Bl mg) :
    FnOk P w K mg base bj 10 f fd ["_law_script"] (bp P w K tb Hi) := by
  refine fj D lU (fun ds M Q E hS => by obtain ⟨ns, e, _⟩ := hS; rw [e]; rfl) fun A outer s E Γ ds Q' E' hP hw hK ht hr hS => ?_
  obtain ⟨ns, e, hl, hM, q⟩ := hS
  refine ⟨_, (aj (vt PassesOwn.never rfl (cH rfl bl.range_ (aa (av (Hb rfl) rfl bl.max_ Gh (aa ay (aa (av (zx rfl) rfl bl.min_ yu (aa (av (dB (K := K) rfl hK) rfl bl.len_ PySem.boot_len (aa (qv 0) ae)) (aa ay ae))) ae))) ae)) (fun Ab M1 hM eP ew eK et => by have hP := hP.trans eP.symm; have hw := hw.trans ew.symm; have hK := hK.trans eK.symm; have ht := ht.trans et.symm; exact ⟨(aO (i := 1) lU.nd rfl (Or.inl rfl)), (aj (aR (i := 2) lU.nd rfl (Or.inl rfl) (aJ xx (hr.mono (by decide)) rfl fe.mg fe.fn.kp fe.bd bb hP hw hK ht XR.none (aa (aJ xu (hr.mono (by decide)) rfl fc.mg fc.fn.kp fc.bd bb hP hw hK ht XR.none (aa (qv 0) (aa (qv 1) ae))) (aa ay ae))))
    (aj (wR (i := 3) lU.nd rfl rfl (N' := ["_law_places", "_law_word"]) (tn := 2) (idx := []) rfl (show aF ["_law_script", "_law_k", "_law_net_here", "_law_due", "_law_found"] (ai rV) _ ["_law_places", "_law_word"] 2 [] from by decide +kernel) (pC (K := K) rfl (aJ xA (hr.mono (by decide)) rfl fg.mg fg.fn.kp fg.bd bb hP hw hK ht XR.none (aa (qv 2) (aa (ku rfl rfl bl.tuple_ rfl bl.range_ (av (dB (K := K) rfl hK) rfl bl.len_ PySem.boot_len (aa (qv 2) ae))) ae)))) (fun _ _ _ _ _ => (lg (n := 2) rfl (dq (aO (i := 0) (show List.Nodup [("_law_places" : Str), ("_law_word" : Str)] from by decide +kernel) rfl (Or.inl rfl)) (dq (aO (i := 1) (show List.Nodup [("_law_places" : Str), ("_law_word" : Str)] from by decide +kernel) rfl (Or.inl rfl)) jL)))) (fun _ _ _ _ _ => bY) (fun _ _ _ _ _ => (qv 0)))
    (aj (aR (i := 4) lU.nd rfl (Or.inl rfl) (aJ ki (hr.mono (by decide)) rfl cV.mg cV.fn.kp cV.bd CO hP hw hK ht XR.none (aa (qv 2) ae)))
    (aj (bO (jJ (d9 (Eu 4 hM (aJ eu (hr.mono (by decide)) rfl aN.mg aN.fn.kp aN.bd bb hP hw hK ht XR.none (aa (qv 4) (aa (qv 3) ae))))))
      (ax (aP gm))
      qss_nil)
    (aj (jK (Hd (K := K) rfl PySem.F.plainAttrs_list PySem.F.slot_list_clear PySem.F.type_list_clear EF (qv 4)))
    (ax (bO (jJ (d9 (aJ eu (hr.mono (by decide)) rfl aN.mg aN.fn.kp aN.bd bb hP hw hK ht XR.none (aa (aJ jc (hr.mono (by decide)) rfl cV.mg cV.fn.kp cV.bd CO hP hw hK ht XR.none (aa (qv 2) ae)) (aa (qv 3) ae)))))
      (ax (aP gm))
      qss_nil)))))))⟩))
    (ax (aP gm))), ?_⟩
  subst e
  simp! only []
  refine ⟨by split <;> split <;> omega, by split <;> split <;> omega, ?_⟩
  refine hZ (fun k ρ M => (∃ x1 x2 x3 x4, ρ = [some (.bo ns), x1, x2, x3, x4]) ∧ ∀ b o, M b = some o → o = .ck ∨ o = .lst []) ⟨⟨_, _, _, _, rfl⟩, fun b o e => by rw [hM b] at e; cases e⟩ (fun k d ρ M N hd hJ hN => ?_) (fun ρ M _ => .inl (q _))
  obtain ⟨⟨x1, x2, x3, x4, rfl⟩, hO⟩ := hJ
  obtain ⟨rfl, hk⟩ := eR hd
  have hk : k ≤ 20 := by split at hk <;> split at hk <;> omega
  have big : (1000 : Nat) < sizeLine := by decide
  simp! only []
  refine ⟨ns, _, rfl, hl, by omega, by omega, fun b hb => ?_⟩
  refine ⟨b, 9, rfl, updM_same, by omega, by omega, fun ah n O _ => ?_⟩
  have h9 := O.nine
  have h1 := O.one
  have ok := pU O (iH O.one)
  have Pq := kh O
  simp! only []
  refine ⟨by omega, by omega, ah, n, _, rfl, O, iH O.one, ?_⟩
  simp! only []
  refine ⟨by rw [nG ok.len]; show (allM ah n).length < _; omega, jP (fun d => match d with | .tup (x :: _) => x | d => d) (fun τ M' => (∃ x y, τ = [x, y]) ∧ M' = aw M b .ck) ⟨⟨_, _, rfl⟩, rfl⟩ (fun d hd τ M' hI R hR => ?_) (fun τ M' hI => ?_)⟩
  · obtain ⟨⟨x, y, rfl⟩, rfl⟩ := hI
    obtain ⟨p, _, rfl⟩ := List.mem_map.mp hd
    simp! only []
    exact hR _ _ ⟨⟨_, _, rfl⟩, rfl⟩
  · obtain ⟨⟨x, y, rfl⟩, rfl⟩ := hI
    rw [firsts _ ok.len]
    refine ⟨ah, n, rfl, O, fun a ha => ?_⟩
    have KL : b ≠ a := fun z => by rw [← z, updM_same] at ha; cases ha
    have Ia : ∀ c o, aw M b .ck c = some o → o = .ck ∨ o = .lst [] := fun c o e => by
      by_cases z : c = b
      · subst z; rw [updM_same] at e; cases e; exact .inl rfl
      · rw [ak z] at e; exact hO c o e
    have like := Cm O
    have e0 : (nF ah n (bF ah.length)).1 = allM ah n := rfl
    rw [e0]
    have dm : bN (aw (aw M b .ck) a (.lst ((allM ah n).map eI))) a = aw M b .ck := wY ha
    have DE : ∀ (M' : Mh), ∀ d ∈ (allM ah n).map eI, Pin M' d := fun M' d hd => by obtain ⟨k, _, rfl⟩ := List.mem_map.mp hd; exact oB k
    refine .inr ⟨a, _, rfl, updM_same, hM a, ⟨fun j d e => ?_, fun c o e => ?_⟩, fun c o e nc => ?_, ?_⟩
    · match j, e with
      | 0, e => cases e; exact .bo _
      | 1, e => cases e; exact .int _
      | 2, e => cases e; exact zD ah
      | 3, e => cases e; exact .lst (DE _)
      | 4, e => cases e; exact .lst (DE _)
      | j + 5, e => exact nomatch e
    · rw [dm] at e
      rcases Ia c o e with rfl | rfl <;> exact .inr fun d hd => nomatch hd
    · rw [ak nc] at e
      rcases Ia c o e with rfl | rfl <;> exact fun d hd => nomatch hd
    · rw [dm]
      refine ⟨_, rfl, like, rfl, by first | trivial | rfl | constructor, ?_⟩
      simp! only []
      refine ⟨ah, n, rfl, O, _, rfl, like, hN _ _ ⟨⟨_, _, _, _, rfl⟩, fun c o e => ?_⟩⟩
      by_cases z : c = a
      · subst z; rw [updM_same] at e; cases e; exact .inr rfl
      · rw [ak z] at e; exact Ia c o e
end
theorem all_mk {l : PySem.W.OpenLaw} {w : World} {K : PySem.W.Frag} {h : Heap} {mg : Str → Option Value} {fa : Addr} {tabs lts : List Addr} {mW dN : Addr} (X : K.In h) (G : h.Ns mainGlobals mg) (OI : mg "law" = some (.ref fa))
    (T : Paired (TabOf mg h) ["is_row", "is_net"] tabs) (U : Paired (TabOf mg h) ["images_met"] lts)
    (n_RoadError : PySem.W.nsIn K mainGlobals "RoadError" = some (some (.ref mW)))
    (n_NoNet : PySem.W.nsIn K mainGlobals "NoNet" = some (some (.ref dN)))
    (eb : wI K mW [dN] = true) (ndc : [dN].Nodup)
    (d_is_whole : cK K "is_whole" eY)
    (d_is_whole_below : cK K "is_whole_below" dh)
    (d_is_row : cK K "is_row" i6)
    (d_is_net : cK K "is_net" i7)
    (d_need_net : cK K "need_net" iA)
    (d_all_places : cK K "all_places" gv)
    (d_first_met : ∃ tk, ly K "first_met" gV (.int 511 tk))
    (d_sign_image : cK K "sign_image" dH)
    (d_images_met : cK K "images_met" aE)
    (d_sets_met : cK K "sets_met" iB)
    (d__law_bag : cK K "_law_bag" iC)
    (d__law_take : cK K "_law_take" ft)
    (d__law_order : cK K "_law_order" eS)
    (d__law_net : cK K "_law_net" bV)
    (d__law_like : cK K "_law_like" dw)
    (d__law_set_led : cK K "_law_set_led" dI)
    (d__law_met : cK K "_law_met" iD)
    (d_law : cK K "law" rV)
    (z_len : PySem.W.nsIn K mainGlobals "len" = some none)
    (z_range : PySem.W.nsIn K mainGlobals "range" = some none)
    (z_min : PySem.W.nsIn K mainGlobals "min" = some none)
    (z_max : PySem.W.nsIn K mainGlobals "max" = some none)
    (z_abs : PySem.W.nsIn K mainGlobals "abs" = some none)
    (z_list : PySem.W.nsIn K mainGlobals "list" = some none)
    (z_tuple : PySem.W.nsIn K mainGlobals "tuple" = some none)
    (z_int : PySem.W.nsIn K mainGlobals "int" = some none)
    (z_str : PySem.W.nsIn K mainGlobals "str" = some none)
    (z_bool : PySem.W.nsIn K mainGlobals "bool" = some none)
    (z_isinstance : PySem.W.nsIn K mainGlobals "isinstance" = some none)
    (z_all : PySem.W.nsIn K mainGlobals "all" = some none)
    (z_set : PySem.W.nsIn K mainGlobals "set" = some none)
    (z_sorted : PySem.W.nsIn K mainGlobals "sorted" = some none)
    (z_zip : PySem.W.nsIn K mainGlobals "zip" = some none)
    (z_enumerate : PySem.W.nsIn K mainGlobals "enumerate" = some none)
    (z_sum : PySem.W.nsIn K mainGlobals "sum" = some none)
    (z_reversed : PySem.W.nsIn K mainGlobals "reversed" = some none)
    (z_divmod : PySem.W.nsIn K mainGlobals "divmod" = some none)
    (z_any : PySem.W.nsIn K mainGlobals "any" = some none)
    (z_ValueError : PySem.W.nsIn K mainGlobals "ValueError" = some none)
    (t_SIGNS : ∃ tk, PySem.W.nsIn K mainGlobals "SIGNS" = some (some (.str "abc" tk)))
    (t_MOST_PLACES : ∃ tk, PySem.W.nsIn K mainGlobals "MOST_PLACES" = some (some (.int 9 tk)))
    : ∃ fd : FuncData, (∀ (s : Shared) (v : Value), BindsTo s fd ⟨[v], []⟩ [("_law_script", v)]) ∧ ∀ base : Heap, K.In base → base.Ns mainGlobals mg → (∃ bm ob, BMod base mainGlobals mg bm ob) → (∀ c p, PySem.W.CodeHd h c p → PySem.W.CodeHd base c p) → FnOk l.prog w K mg base bj 10 fa fd ["_law_script"] (spLaw K ⟨tabs, lts.zip [qI]⟩) := by
  obtain ⟨JG, Io, cA⟩ := d_is_whole.df X G ["thing"] fun _ _ _ _ _ _ us hl => match us, hl with | [_], _ => rfl
  obtain ⟨Cp, AD, bA⟩ := d_is_whole_below.df X G ["thing", "many"] fun _ _ _ _ _ _ us hl => match us, hl with | [_, _], _ => rfl
  obtain ⟨Mm, KU, fI⟩ := d_is_row.df X G ["thing", "many", "width"] fun _ _ _ _ _ _ us hl => match us, hl with | [_, _, _], _ => rfl
  obtain ⟨Mp, KW, fJ⟩ := d_is_net.df X G ["thing"] fun _ _ _ _ _ _ us hl => match us, hl with | [_], _ => rfl
  obtain ⟨JH, Ip, cU⟩ := d_need_net.df X G ["thing"] fun _ _ _ _ _ _ us hl => match us, hl with | [_], _ => rfl
  obtain ⟨Ib, EL, bX⟩ := d_all_places.df X G ["net"] fun _ _ _ _ _ _ us hl => match us, hl with | [_], _ => rfl
  obtain ⟨Ic, d_first_met⟩ := d_first_met
  obtain ⟨Iq, Ie, ej⟩ := d_first_met.df X G ["start", "width", "step", "most"] (fun _ _ _ _ _ _ _ us hl => match us, hl with | [_, _, _], _ => ⟨_, rfl, rfl⟩) fun _ _ _ _ _ _ _ us hl => match us, hl with | [_, _, _, _], _ => ⟨_, rfl, rfl⟩
  obtain ⟨Ig, ER, cI⟩ := d_sign_image.df X G ["net", "places", "at"] fun _ _ _ _ _ _ us hl => match us, hl with | [_, _, _], _ => rfl
  obtain ⟨Ih, EV, bL⟩ := d_images_met.df X G ["net", "places"] fun _ _ _ _ _ _ us hl => match us, hl with | [_, _], _ => rfl
  obtain ⟨JI, Ir, cV⟩ := d_sets_met.df X G ["net"] fun _ _ _ _ _ _ us hl => match us, hl with | [_], _ => rfl
  obtain ⟨JK, Iu, fc⟩ := d__law_bag.df X G ["_law_script", "_law_at"] fun _ _ _ _ _ _ us hl => match us, hl with | [_, _], _ => rfl
  obtain ⟨Iv, Ii, au⟩ := d__law_take.df X G ["_law_bag_here", "_law_many"] fun _ _ _ _ _ _ us hl => match us, hl with | [_, _], _ => rfl
  obtain ⟨Ij, EW, bW⟩ := d__law_order.df X G ["_law_bag_here", "_law_many"] fun _ _ _ _ _ _ us hl => match us, hl with | [_, _], _ => rfl
  obtain ⟨JL, Iw, fe⟩ := d__law_net.df X G ["_law_bag_here", "_law_most"] fun _ _ _ _ _ _ us hl => match us, hl with | [_, _], _ => rfl
  obtain ⟨Iy, Ik, aN⟩ := d__law_like.df X G ["_law_found", "_law_due"] fun _ _ _ _ _ _ us hl => match us, hl with | [_, _], _ => rfl
  obtain ⟨EI, DF, c6⟩ := d__law_set_led.df X G ["_law_net_here", "_law_places", "_law_k"] fun _ _ _ _ _ _ us hl => match us, hl with | [_, _, _], _ => rfl
  obtain ⟨JM, Iz, fg⟩ := d__law_met.df X G ["_law_net_here", "_law_places"] fun _ _ _ _ _ _ us hl => match us, hl with | [_, _], _ => rfl
  obtain ⟨OT, Il, xB⟩ := d_law.df X G ["_law_script"] fun _ _ _ _ _ _ us hl => match us, hl with | [_], _ => rfl
  have IA := PySem.W.mg_of X G n_RoadError
  have pP := PySem.W.mg_of X G n_NoNet
  have X_ := Ea eb
  have pO : dN ∈ [dN] := by simp
  have e := OI.symm.trans xB.mg
  cases e
  have bl : Bl mg := ⟨PySem.W.mg_none_of X G z_len, PySem.W.mg_none_of X G z_range, PySem.W.mg_none_of X G z_min, PySem.W.mg_none_of X G z_max, PySem.W.mg_none_of X G z_abs, PySem.W.mg_none_of X G z_list, PySem.W.mg_none_of X G z_tuple, PySem.W.mg_none_of X G z_int, PySem.W.mg_none_of X G z_str, PySem.W.mg_none_of X G z_bool, PySem.W.mg_none_of X G z_isinstance, PySem.W.mg_none_of X G z_all, PySem.W.mg_none_of X G z_set, PySem.W.mg_none_of X G z_sorted, PySem.W.mg_none_of X G z_zip, PySem.W.mg_none_of X G z_enumerate, PySem.W.mg_none_of X G z_sum, PySem.W.mg_none_of X G z_reversed, PySem.W.mg_none_of X G z_divmod, PySem.W.mg_none_of X G z_any, PySem.W.mg_none_of X G z_ValueError⟩
  obtain ⟨Mq, t_SIGNS⟩ := t_SIGNS
  have jb := PySem.W.mg_of X G t_SIGNS
  obtain ⟨EJ, t_MOST_PLACES⟩ := t_MOST_PLACES
  have gP := PySem.W.mg_of X G t_MOST_PLACES
  obtain ⟨aX, KY, rfl, Cq, T⟩ := jv T
  obtain ⟨bt, KZ, rfl, Cr, T⟩ := jv T
  cases T
  obtain ⟨aK, EX, rfl, uB, U⟩ := jv U
  cases U
  refine ⟨Il, fun s v => xB.bind1 s v (by intros; rfl), fun base _ _ fm tr => ?_⟩
  obtain ⟨ka, gO⟩ := sN fI X Cq tr
  obtain ⟨um, kb⟩ := sN fJ X Cr tr
  obtain ⟨lQ, gy⟩ := sN bL X uB tr
  have Az : aX ∈ (⟨[aX, bt], [(aK, qI)]⟩ : da) := by show _ ∈ [aX, bt]; simp
  have AA : bt ∈ (⟨[aX, bt], [(aK, qI)]⟩ : da) := by show _ ∈ [aX, bt]; simp
  have gQ : (aK, qI) ∈ (⟨[aX, bt], [(aK, qI)]⟩ : da).l := by simp
  have gR : ∀ q ∈ (⟨[aX, bt], [(aK, qI)]⟩ : da).l, q.1 = aK → q.2 = qI := by simp
  have nC := Ak (P := l.prog) (w := w) (tb := (⟨[aX, bt], [(aK, qI)]⟩ : da)) fJ kb AA fI gO Az fm bA cA bl gP
  have iF := uU cU fJ nC X_ pO pP
  have gA := rH (P := l.prog) (w := w) (tb := (⟨[aX, bt], [(aK, qI)]⟩ : da)) bL gy fm gQ gR ej cI bl jb
  have gB := rK (P := l.prog) (w := w) (base := base) (tb := (⟨[aX, bt], [(aK, qI)]⟩ : da)) bX bl
  obtain ⟨ki, jc⟩ := uX cV cU iF bL gA bX gB bl
  have AB := HK (tb := (⟨[aX, bt], [(aK, qI)]⟩ : da)) (uQ (P := l.prog) (w := w) (base := base) au)
  have JN := JE (tb := (⟨[aX, bt], [(aK, qI)]⟩ : da)) (xg (P := l.prog) (w := w) (base := base) fc bl)
  have EK := uh bW au AB bl
  have JO := xi fe au AB bW EK bl
  have JP := pS (P := l.prog) (w := w) (base := base) (tb := (⟨[aX, bt], [(aK, qI)]⟩ : da)) c6 bl
  have JQ := xt fg c6 JP bl
  have Im := rl aN (rl aN (Ax (P := l.prog) (w := w) (base := base) (tb := (⟨[aX, bt], [(aK, qI)]⟩ : da)) aN bl) bl) bl
  exact Hj (HY xB fc JN fe JO fg JQ cV ki jc aN Im bl)
theorem walk {l : PySem.W.OpenLaw} {q : Program} {loose : List Str} {XP : (Str → Option Value) → Heap → Prop} {YP : World → Heap → Prop} {d : DefRec} {K : Params → PySem.W.Frag} (hn : l.most = some 63) (yi : d.params.defaults = [])
    (zM : ∀ w : World, PySem.W.kb_classed (K w.params) = true) (Dj : ∀ y ∈ ((["is_row", "is_net"] : List Str) ++ (["images_met"] : List Str)), ∃ r ∈ recsOf q, r.name = y) (mK : ∀ w : World, pL (K w.params) ["is_row", "is_net"] ["images_met"] = true) (hY : ∀ (w : World) (h : Heap), YP w h → (K w.params).In h)
    (F : ∀ (w : World) (mg : Str → Option Value) (fa : Addr) (h : Heap) (tabs lts : List Addr), (K w.params).In h → h.Ns mainGlobals mg → mg d.name = some (.ref fa) →
      Paired (TabOf mg h) ["is_row", "is_net"] tabs → Paired (TabOf mg h) ["images_met"] lts →
      ∃ fd : FuncData, (∀ (s : Shared) (u : Value), BindsTo s fd ⟨[u], []⟩ [("_law_script", u)]) ∧
        ∀ base : Heap, (K w.params).In base → base.Ns mainGlobals mg → (∃ bm ob, BMod base mainGlobals mg bm ob) → (∀ c p, PySem.W.CodeHd h c p → PySem.W.CodeHd base c p) → FnOk l.prog w (K w.params) mg base bj 10 fa fd ["_law_script"] (spLaw (K w.params) ⟨tabs, lts.zip [qI]⟩)) :
    PySem.W.WalkO q loose XP YP l.row.toRowW d [] (fun f vs => PySem.call f vs) :=
  L2.B3 (n := 63) (k := 10) (x := "_law_script") (CX := bj) (sp := fun K tabs lts => spLaw K ⟨tabs, lts.zip [qI]⟩) hn (by decide) yi ⟨rfl, by decide, by decide⟩ zM Dj mK hY F (fun _ _ _ _ a ns hl hn hT hL hS => B4 hl hn hT hL hS) fun _ _ _ _ z => z
end My
open PySem PySem.W PyProof.Rows L2
set_option maxRecDepth 100000 in
set_option maxHeartbeats 0 in
theorem PySem.Challenge.cw_roadcall_k36_sets_met_holds : PySem.Challenge.rw_roadcall_k36_sets_met.Holds := by
  w_on; o_law; k_head; (case hw => w_witness2)
  k_fill
  refine My.walk (l := PySem.Challenge.rw_roadcall_k36_sets_met) rfl rfl (fun w => rfl) ?nms ?tdis (fun w h Y => PySem.W.km_in_of Y) ?F
  (case nms => exact D3 (by decide +kernel))
  (case tdis => intro w; kernel_rfl)
  case F =>
    intro w mg fa h tabs lts KX G yj T U
    refine' My.all_mk KX G yj T U ?n_RoadError ?n_NoNet ?eb ?ndc ?d_is_whole ?d_is_whole_below ?d_is_row ?d_is_net ?d_need_net ?d_all_places ?d_first_met ?d_sign_image ?d_images_met ?d_sets_met ?d__law_bag ?d__law_take ?d__law_order ?d__law_net ?d__law_like ?d__law_set_led ?d__law_met ?d_law ?z_len ?z_range ?z_min ?z_max ?z_abs ?z_list ?z_tuple ?z_int ?z_str ?z_bool ?z_isinstance ?z_all ?z_set ?z_sorted ?z_zip ?z_enumerate ?z_sum ?z_reversed ?z_divmod ?z_any ?z_ValueError ?t_SIGNS ?t_MOST_PLACES
    (case n_RoadError => k_is)
    (case n_NoNet => k_is)
    (case eb => kernel_rfl)
    (case ndc => decide)
    (case d_is_whole => refine' L2.bz ?a ?l ?c ?k; (case a => k_is); (case l => k_is); (case c => k_is); (case k => k_is))
    (case d_is_whole_below => refine' L2.bz ?a ?l ?c ?k; (case a => k_is); (case l => k_is); (case c => k_is); (case k => k_is))
    (case d_is_row => refine' L2.bz ?a ?l ?c ?k; (case a => k_is); (case l => k_is); (case c => k_is); (case k => k_is))
    (case d_is_net => refine' L2.bz ?a ?l ?c ?k; (case a => k_is); (case l => k_is); (case c => k_is); (case k => k_is))
    (case d_need_net => refine' L2.bz ?a ?l ?c ?k; (case a => k_is); (case l => k_is); (case c => k_is); (case k => k_is))
    (case d_all_places => refine' L2.bz ?a ?l ?c ?k; (case a => k_is); (case l => k_is); (case c => k_is); (case k => k_is))
    (case d_first_met => refine' L2.zQ ?a ?l ?c ?k ?t ?u; (case a => k_is); (case l => k_is); (case c => k_is); (case k => k_is); (case t => k_is); (case u => exact rfl))
    (case d_sign_image => refine' L2.bz ?a ?l ?c ?k; (case a => k_is); (case l => k_is); (case c => k_is); (case k => k_is))
    (case d_images_met => refine' L2.bz ?a ?l ?c ?k; (case a => k_is); (case l => k_is); (case c => k_is); (case k => k_is))
    (case d_sets_met => refine' L2.bz ?a ?l ?c ?k; (case a => k_is); (case l => k_is); (case c => k_is); (case k => k_is))
    (case d__law_bag => refine' L2.bz ?a ?l ?c ?k; (case a => k_is); (case l => k_is); (case c => k_is); (case k => k_is))
    (case d__law_take => refine' L2.bz ?a ?l ?c ?k; (case a => k_is); (case l => k_is); (case c => k_is); (case k => k_is))
    (case d__law_order => refine' L2.bz ?a ?l ?c ?k; (case a => k_is); (case l => k_is); (case c => k_is); (case k => k_is))
    (case d__law_net => refine' L2.bz ?a ?l ?c ?k; (case a => k_is); (case l => k_is); (case c => k_is); (case k => k_is))
    (case d__law_like => refine' L2.bz ?a ?l ?c ?k; (case a => k_is); (case l => k_is); (case c => k_is); (case k => k_is))
    (case d__law_set_led => refine' L2.bz ?a ?l ?c ?k; (case a => k_is); (case l => k_is); (case c => k_is); (case k => k_is))
    (case d__law_met => refine' L2.bz ?a ?l ?c ?k; (case a => k_is); (case l => k_is); (case c => k_is); (case k => k_is))
    (case d_law => refine' L2.bz ?a ?l ?c ?k; (case a => k_is); (case l => k_is); (case c => k_is); (case k => k_is))
    (case z_len => k_is)
    (case z_range => k_is)
    (case z_min => k_is)
    (case z_max => k_is)
    (case z_abs => k_is)
    (case z_list => k_is)
    (case z_tuple => k_is)
    (case z_int => k_is)
    (case z_str => k_is)
    (case z_bool => k_is)
    (case z_isinstance => k_is)
    (case z_all => k_is)
    (case z_set => k_is)
    (case z_sorted => k_is)
    (case z_zip => k_is)
    (case z_enumerate => k_is)
    (case z_sum => k_is)
    (case z_reversed => k_is)
    (case z_divmod => k_is)
    (case z_any => k_is)
    (case z_ValueError => k_is)
    (case t_SIGNS => refine' L2.Bg ?a; (case a => k_is))
    (case t_MOST_PLACES => refine' L2.Bh ?a; (case a => k_is))
