import PyProof.Rows.All
import Wide.All
import OpenK.AllK
import Wide.FinOn
import Lean
import PyProof.EqAt
import PyProof.EqKinds
import PyProof.TupleCall
import PyProof.NeKinds
import PyProof.EnumMake
import PyProof.EnumFor
import PyProof.ZipIter
import PyProof.Rows.ZipGen
import PySem.Challenge.RW_roadcall_k01_nets_of_any_thing
set_option linter.all false
set_option Elab.async false
set_option maxRecDepth 100000

namespace L2
open PySem PySem.Spec PyProof.Rows

abbrev Key := Sum Int Str
def keyIs : Key → Value → Bool
  | .inl k, v => Value.isInt k v
  | .inr x, v => Value.isStrOf x v
def keyH (w : World) : Key → Int
  | .inl k => hashInt k
  | .inr x => hashStr w x
theorem keyIs_shape : ∀ {k : Key} {v : Value}, keyIs k v = true → (∃ i t, k = Sum.inl i ∧ v = Value.int i t) ∨ (∃ x t, k = Sum.inr x ∧ v = Value.str x t)
  | .inl i, v, h => by
    obtain ⟨t, e⟩ := Value.isInt_shape (k := i) (v := v) h
    exact .inl ⟨i, t, rfl, e⟩
  | .inr x, v, h => by
    obtain ⟨t, e⟩ := Value.isStrOf_shape (x := x) (v := v) h
    exact .inr ⟨x, t, rfl, e⟩
theorem key_ll (a b : Int) : decide ((Sum.inl a : Key) = Sum.inl b) = (a == b) := by
  by_cases e : a = b
  · subst e; simp
  · have h : ¬ (Sum.inl a : Key) = Sum.inl b := fun q => e (Sum.inl.inj q)
    rw [decide_eq_false h]
    exact (beq_eq_false_iff_ne.mpr e).symm
theorem key_rr (a b : Str) : decide ((Sum.inr a : Key) = Sum.inr b) = decide (a = b) := by
  by_cases e : a = b
  · subst e; simp
  · have h : ¬ (Sum.inr a : Key) = Sum.inr b := fun q => e (Sum.inr.inj q)
    rw [decide_eq_false h, decide_eq_false e]
theorem key_lr (a : Int) (b : Str) : decide ((Sum.inl a : Key) = Sum.inr b) = false := decide_eq_false (fun q => nomatch q)
theorem key_rl (a : Str) (b : Int) : decide ((Sum.inr a : Key) = Sum.inl b) = false := decide_eq_false (fun q => nomatch q)

def mixKind (prog : Program) (w : World) : PySem.KeyKind prog w Key where
  is := keyIs
  hash := keyH w
  inj := fun v a b ha hb => by
    rcases keyIs_shape ha with ⟨i, t, rfl, rfl⟩ | ⟨x, t, rfl, rfl⟩
    · rcases keyIs_shape hb with ⟨j, u, rfl, e⟩ | ⟨y, u, rfl, e⟩
      · injection e with e1 _; rw [e1]
      · exact nomatch e
    · rcases keyIs_shape hb with ⟨j, u, rfl, e⟩ | ⟨y, u, rfl, e⟩
      · exact nomatch e
      · injection e with e1 _; rw [e1]
  byValue := fun k v h => by
    rcases keyIs_shape h with ⟨i, t, rfl, rfl⟩ | ⟨x, t, rfl, rfl⟩ <;> rfl
  pyHash := fun hv h => by
    rcases keyIs_shape hv with ⟨i, t, rfl, rfl⟩ | ⟨x, t, rfl, rfl⟩
    · exact wpAny_pyHash_int h
    · exact wpAny_pyHash_str h
  eqBool := fun hu hv h => by
    rcases keyIs_shape hu with ⟨i, t, rfl, rfl⟩ | ⟨x, t, rfl, rfl⟩
    · rcases keyIs_shape hv with ⟨j, u, rfl, rfl⟩ | ⟨y, u, rfl, rfl⟩
      · rw [key_ll] at h; exact wpAny_eqBool_int h
      · rw [key_lr] at h; exact SeqAt.EqAt.int_str i t y u _ _ _ _ h
    · rcases keyIs_shape hv with ⟨j, u, rfl, rfl⟩ | ⟨y, u, rfl, rfl⟩
      · rw [key_rl] at h; exact SeqAt.EqAt.str_int x t j u _ _ _ _ h
      · rw [key_rr] at h; exact wpAny_eqBool_str h
  «strs» := fun k x t v h => by
    rcases keyIs_shape h with ⟨i, u, rfl, e⟩ | ⟨y, u, rfl, e⟩
    · exact nomatch e
    · injection e with e1 _
      subst e1
      cases v <;> rfl

end L2

namespace L2
open PySem PySem.Spec PyProof.Rows

inductive V where
  | non | bl (b : Bool) | int (i : Int) | str (x : Str) | byt (b : Array UInt8) | flt (b : UInt64) | ref (a : Addr) | ty (n : String)
  deriving DecidableEq

def RelV : V → Value → Prop
  | .non, u => u = Value.none
  | .bl b, u => u = Value.bool b
  | .int i, u => ∃ t, u = Value.int i t
  | .str x, u => ∃ t, u = Value.str x t
  | .byt b, u => ∃ t, u = Value.bytes b t
  | .flt b, u => ∃ t, u = Value.float b t
  | .ref a, u => u = Value.ref a
  | .ty n, u => u = Value.type n

abbrev Vals : List V → List Value → Prop := Paired RelV
theorem Vals.length {xs : List V} {us : List Value} (r : Vals xs us) : xs.length = us.length := Paired.length r
theorem Vals.get : ∀ {xs : List V} {us : List Value} {i : Nat} {x : V}, Vals xs us → xs[i]? = some x → ∃ u, us[i]? = some u ∧ RelV x u
  | _, _, _, _, .nil, e => by simp at e
  | _, _, 0, _, .cons r _, e => by simp at e; subst e; exact ⟨_, rfl, r⟩
  | _, _, i + 1, x, .cons _ t, e => by
    obtain ⟨u, h1, h2⟩ := Vals.get (i := i) (x := x) t (by simpa using e)
    exact ⟨u, by simpa using h1, h2⟩
theorem Vals.set {x : V} {u : Value} (r : RelV x u) : ∀ {xs : List V} {us : List Value} (i : Nat), Vals xs us → Vals (xs.set i x) (us.set i u)
  | _, _, _, .nil => .nil
  | _, _, 0, .cons _ t => .cons r t
  | _, _, i + 1, .cons q t => .cons q (Vals.set r i t)
theorem Vals.append : ∀ {xs ys : List V} {us ws : List Value}, Vals xs us → Vals ys ws → Vals (xs ++ ys) (us ++ ws)
  | _, _, _, _, .nil, s => s
  | _, _, _, _, .cons r t, s => .cons r (Vals.append t s)
theorem Vals.take : ∀ {xs : List V} {us : List Value} (n : Nat), Vals xs us → Vals (xs.take n) (us.take n)
  | _, _, 0, _ => .nil
  | _, _, _ + 1, .nil => .nil
  | _, _, n + 1, .cons r t => .cons r (Vals.take n t)
theorem Vals.drop : ∀ {xs : List V} {us : List Value} (n : Nat), Vals xs us → Vals (xs.drop n) (us.drop n)
  | _, _, 0, r => r
  | _, _, _ + 1, .nil => .nil
  | _, _, n + 1, .cons _ t => Vals.drop n t
def RelO : Option V → Option Value → Prop
  | some v, some u => RelV v u
  | none, none => True
  | _, _ => False
def KV {κ : Type} : List (κ × V) → List (κ × Value) → Prop := Paired fun (p : κ × V) (q : κ × Value) => p.1 = q.1 ∧ RelV p.2 q.2

def kV : Key → V
  | .inl i => .int i
  | .inr x => .str x

inductive HO where
  
  | lst (xs : List V)
  
  | tup (xs : List V)
  
  | dK (kvs : List (Key × V)) | dT (kvs : List (List Key × V))
  
  | set (S : Int → Bool) (n : Nat)
  
  | ins (C dx : Addr) (fs : List (Str × V))
  
  | own (x : Addr)
  
  | xd (fs : List (Str × V))
  
  | met (f x : Addr)
  
  | rng (lo hi : Int)
  
  | frz (o : Obj) (u : HO)
  
  | tbl (ps : Array Value)
  
  | ext (φ : Heap → Prop)

abbrev Hp := Addr → Option HO
def upd (H : Hp) (a : Addr) (o : HO) : Hp := fun b => if b = a then some o else H b
theorem upd_same {H : Hp} {a : Addr} {o : HO} : upd H a o a = some o := by unfold upd; rw [if_pos rfl]
theorem upd_ne {H : Hp} {a b : Addr} {o : HO} (h : b ≠ a) : upd H a o b = H b := by unfold upd; rw [if_neg h]
theorem ne_of {H : Hp} {a b : Addr} {o u : HO} (h : H a = some o) (h' : H b = some u) (d : o ≠ u) : a ≠ b := by
  intro e; subst e; rw [h] at h'; exact d (Option.some.inj h')
theorem ne_of_none {H : Hp} {a b : Addr} {o : HO} (h : H a = some o) (h' : H b = none) : a ≠ b := by
  intro e; subst e; rw [h] at h'; cases h'

section
variable (P : Program) (w : World)
def ObjOk (H : Hp) (h : Heap) (a : Addr) : HO → Prop
  | .lst xs => xs.length ≤ sizeLine ∧ ∃ (its : List Value) (n : Nat), Vals xs its ∧ h.get? a = some { cls := .type "list", data := .seq its.toArray n }
  | .tup xs => xs.length ≤ sizeLine ∧ ∃ its : List Value, Vals xs its ∧ IsTup h a its.toArray
  | .dK kvs => kvs.length ≤ sizeLine ∧ (a == sysModules) = false ∧ ∃ vs, KV kvs vs ∧ h.DictOf (mixKind P w) a vs
  | .dT kvs => kvs.length ≤ sizeLine ∧ (a == sysModules) = false ∧ ∃ xs : List (List Key × Addr × Value),
      Paired (fun (p : List Key × V) (q : List Key × Addr × Value) => p.1 = q.1 ∧ H q.2.1 = some (.tup (p.1.map kV)) ∧ RelV p.2 q.2.2) kvs xs ∧
      ∃ o es ep, h.get? a = some o ∧ o.ExactDict ∧ o.data = .dict es ep ∧ es.toList = xs.map (entryOfKey (tupleKind (mixKind P w))) ∧ (xs.map (·.1)).Nodup
  | .set S n => h.SetOf (intKind P w) a S n
  | .ins C dx fs => H dx = some (.own a) ∧ fs.length ≤ 1000 ∧ dx ≠ a ∧ h.get? a = some (PySem.W.instObj C dx) ∧
      ∃ mA, h.Ns1 dx mA ∧ (∀ f, RelO (fs.lookup f) (mA f)) ∧ PySem.Within mA (fs.map (·.1))
  | .own _ => ∃ o, h.get? a = some o
  | .xd fs => ∃ mA, h.Ns1 a mA ∧ ∀ f, RelO (fs.lookup f) (mA f)
  | .rng lo hi => ∃ t u v, h.get? a = some { cls := .type "range", data := .fields #[.int lo t, .int hi u, .int 1 v] }
  | .frz o u => h.get? a = some o ∧ ObjOk H h a u
  | .tbl ps => h.get? a = some { cls := .none, data := .fields ps }
  | .met f x => h.get? a = some (PySem.W.methodObj (.ref f) (.ref x))
  | .ext φ => φ h ∧ (∃ o, h.get? a = some o) ∧ ∀ h1 h2 : Heap, φ h1 → (∀ o, h1.get? a = some o → h2.get? a = some o) → φ h2

def HOk (H : Hp) (h : Heap) : Prop := ∀ a o, H a = some o → ObjOk P w H h a o
end

section
variable {P : Program} {w : World} {H H' : Hp} {h h' : Heap} {a : Addr} {o : HO}
theorem ObjOk.lt (x : ObjOk P w H h a o) : a < h.objs.size := by
  cases o with
  | lst xs => obtain ⟨_, _, _, _, e⟩ := x; exact Heap.lt_size e
  | tup xs => obtain ⟨_, _, _, p⟩ := x; exact p.lt
  | dK kvs => obtain ⟨_, _, _, _, o, _, _, e, _⟩ := x; exact Heap.lt_size e
  | dT kvs => obtain ⟨_, _, _, _, o, _, _, e, _⟩ := x; exact Heap.lt_size e
  | set S n => obtain ⟨o, _, _, _, e, _⟩ := x; exact Heap.lt_size e
  | ins C dx fs => obtain ⟨_, _, _, e, _⟩ := x; exact Heap.lt_size e
  | own y => obtain ⟨_, e⟩ := x; exact Heap.lt_size e
  | xd fs => obtain ⟨_, ⟨_, _, _, e, _⟩, _⟩ := x; exact Heap.lt_size e
  | rng lo hi => obtain ⟨_, _, _, e⟩ := x; exact Heap.lt_size e
  | frz ob u => obtain ⟨e, _⟩ := x; exact Heap.lt_size e
  | tbl ps => exact Heap.lt_size (show h.get? a = some _ from x)
  | met f y => exact Heap.lt_size (show h.get? a = some _ from x)
  | ext φ => obtain ⟨_, ⟨_, e⟩, _⟩ := x; exact Heap.lt_size e
theorem Paired.mapP {α β : Type} {F G : α → β → Prop} : ∀ {l₁ : List α} {l₂ : List β}, Paired F l₁ l₂ → (∀ a b, F a b → G a b) → Paired G l₁ l₂
  | _, _, .nil, _ => .nil
  | _, _, .cons r t, f => .cons (f _ _ r) (Paired.mapP t f)
theorem ObjOk.stay (x : ObjOk P w H h a o) (k : ∀ b u, (b = a ∨ H b = some (.own a)) → h.get? b = some u → h'.get? b = some u)
    (ho : ∀ b, H b = some (.own a) → H' b = some (.own a)) (ht : ∀ b xs, H b = some (.tup xs) → H' b = some (.tup xs)) : ObjOk P w H' h' a o := by
  induction o with
  | lst xs => obtain ⟨z, its, n, r, e⟩ := x; exact ⟨z, its, n, r, k _ _ (.inl rfl) e⟩
  | tup xs => obtain ⟨z, its, r, ob, e, c⟩ := x; exact ⟨z, its, r, ob, k _ _ (.inl rfl) e, c⟩
  | dK kvs => obtain ⟨z, y, vs, r, ob, es, ep, e, c⟩ := x; exact ⟨z, y, vs, r, ob, es, ep, k _ _ (.inl rfl) e, c⟩
  | dT kvs =>
    obtain ⟨z, y, xs, r, ob, es, ep, e, c⟩ := x
    exact ⟨z, y, xs, Paired.mapP r fun p q z => ⟨z.1, ht _ _ z.2.1, z.2.2⟩, ob, es, ep, k _ _ (.inl rfl) e, c⟩
  | set S n => obtain ⟨ob, es, ep, t, e, c⟩ := x; exact ⟨ob, es, ep, t, k _ _ (.inl rfl) e, c⟩
  | ins C dx fs =>
    obtain ⟨d, z, ne, e, mA, ⟨od, es, ep, e2, c⟩, r⟩ := x
    exact ⟨ho _ d, z, ne, k _ _ (.inl rfl) e, mA, ⟨od, es, ep, k _ _ (.inr d) e2, c⟩, r⟩
  | own y => obtain ⟨ob, e⟩ := x; exact ⟨ob, k _ _ (.inl rfl) e⟩
  | xd fs => obtain ⟨mA, ⟨od, es, ep, e, c⟩, r⟩ := x; exact ⟨mA, ⟨od, es, ep, k _ _ (.inl rfl) e, c⟩, r⟩
  | rng lo hi => obtain ⟨t, u, v, e⟩ := x; exact ⟨t, u, v, k _ _ (.inl rfl) e⟩
  | frz ob u ih => obtain ⟨e, q⟩ := x; exact ⟨k _ _ (.inl rfl) e, ih q⟩
  | tbl ps =>
    have e : h.get? a = some { cls := .none, data := .fields ps } := x
    show h'.get? a = some { cls := .none, data := .fields ps }
    exact k a _ (.inl rfl) e
  | met f y =>
    have e : h.get? a = some (PySem.W.methodObj (.ref f) (.ref y)) := x
    show h'.get? a = some (PySem.W.methodObj (.ref f) (.ref y))
    exact k a _ (.inl rfl) e
  | ext φ => obtain ⟨p, ⟨o, e⟩, st⟩ := x; exact ⟨st _ _ p fun o q => k _ _ (.inl rfl) q, ⟨o, k _ _ (.inl rfl) e⟩, st⟩
theorem HOk.lt (x : HOk P w H h) (e : H a = some o) : a < h.objs.size := (x a o e).lt
theorem HOk.fresh (x : HOk P w H h) (e : h.objs.size ≤ a) : H a = none := by
  cases q : H a with
  | none => rfl
  | some u => exact absurd (Nat.lt_of_lt_of_le (x.lt q) e) (Nat.lt_irrefl _)

theorem HOk.kept (x : HOk P w H h) (k : ∀ b u, h.get? b = some u → h'.get? b = some u) : HOk P w H h' := fun a o e =>
  (x a o e).stay (fun b u _ q => k b u q) (fun _ q => q) fun _ _ q => q

theorem HOk.laid (x : HOk P w H h) (k : ∀ b u, h.get? b = some u → h'.get? b = some u) (hp : h.objs.size ≤ a) (new : ObjOk P w (upd H a o) h' a o) : HOk P w (upd H a o) h' := fun b u e => by
  have hn := x.fresh hp
  by_cases hb : b = a
  · subst hb; rw [upd_same] at e; cases e; exact new
  · rw [upd_ne hb] at e
    exact (x b u e).stay (fun c v _ q => k c v q) (fun c q => by rw [upd_ne (ne_of_none q hn)]; exact q) fun c xs q => by rw [upd_ne (ne_of_none q hn)]; exact q
end

def Rd (H : Hp) (a : Addr) (u : HO) : Prop := H a = some u ∨ ∃ o, H a = some (.frz o u)
theorem Rd.of {H : Hp} {a : Addr} {u : HO} (h : H a = some u) : Rd H a u := .inl h
theorem Rd.ok {P : Program} {w : World} {H : Hp} {h : Heap} {a : Addr} {u : HO} (r : Rd H a u) (x : HOk P w H h) : ObjOk P w H h a u := by
  rcases r with r | ⟨o, r⟩
  · exact x a u r
  · obtain ⟨_, q⟩ := x a _ r
    exact q

def Mut : Option HO → Prop
  | some (.lst _) => True
  | some (.dK _) => True
  | some (.dT _) => True
  | some (.set _ _) => True
  | some (.ins _ _ _) => True
  | some (.ext _) => True
  | _ => False
section
variable {P : Program} {w : World} {H : Hp} {h h' : Heap} {x e : Addr} {o' : HO}

theorem HOk.write (ok : HOk P w H h) (mu : Mut (H x)) (he : e = x ∨ H e = some (.own x)) (k : ∀ b u, b ≠ e → h.get? b = some u → h'.get? b = some u) (heo : ∃ u, h'.get? e = some u)
    (new : ObjOk P w (upd H x o') h' x o') : HOk P w (upd H x o') h' := fun b u q => by
  have nown : ∀ c y, H c = some (.own y) → c ≠ x := fun c y r z => by subst z; rw [r] at mu; exact mu
  have ntup : ∀ c xs, H c = some (.tup xs) → c ≠ x := fun c xs r z => by subst z; rw [r] at mu; exact mu
  by_cases hb : b = x
  · subst hb; rw [upd_same] at q; cases q; exact new
  · rw [upd_ne hb] at q
    by_cases hbe : b = e
    · have q' : H b = some (.own x) := by
        rcases he with z | z
        · exact absurd (hbe.trans z) hb
        · rw [hbe]; exact z
      rw [q] at q'; cases q'
      obtain ⟨v, hv⟩ := heo
      exact ⟨v, by rw [hbe]; exact hv⟩
    · refine (ok b u q).stay (fun c v hc r => k c v ?_ r) (fun c r => by rw [upd_ne (nown c b r)]; exact r) fun c xs r => by rw [upd_ne (ntup c xs r)]; exact r
      rcases hc with rfl | hc
      · exact hbe
      · rintro rfl
        rcases he with z | z
        · exact nown c b hc z
        · rw [hc] at z; cases z; exact hb rfl
end

structure Un (fs ex : List Addr) (H H' : Hp) (h h' : Heap) : Prop where
  keep : ∀ b o, h.get? b = some o → H b = none → b ∉ fs → b ∉ ex → h'.get? b = some o
  slot : ∀ b o, h.get? b = some o → H b = none → b ∈ fs → b ∉ ex → ∃ sl, h'.get? b = some { o with slots := sl }
  free : ∀ b o, h.get? b = some o → H b = none → b ∉ ex → H' b = none
  there : ∀ b o, h.get? b = some o → b ∉ ex → ∃ o', h'.get? b = some o'
  tups : ∀ b xs, H b = some (.tup xs) → H' b = some (.tup xs)
  frzs : ∀ b o u, H b = some (.frz o u) → H' b = some (.frz o u)
  tbls : ∀ b ps, H b = some (.tbl ps) → ∃ more, H' b = some (.tbl (ps ++ more))
section
variable {fs fs' ex ex' : List Addr} {H H1 H2 : Hp} {h h1 h2 h' : Heap} {a x e : Addr} {o : HO}
theorem Un.any (u : Un fs ex H H1 h h1) {b : Addr} {ob : Obj} (q : h.get? b = some ob) (n : H b = none) (hx : b ∉ ex) : ∃ sl, h1.get? b = some { ob with slots := sl } := by
  by_cases hb : b ∈ fs
  · exact u.slot b ob q n hb hx
  · exact ⟨ob.slots, u.keep b ob q n hb hx⟩
theorem Un.trans (a : Un fs ex H H1 h h1) (b : Un fs ex H1 H2 h1 h2) : Un fs ex H H2 h h2 where
  keep := fun c ob q n hc hx => b.keep c ob (a.keep c ob q n hc hx) (a.free c ob q n hx) hc hx
  slot := fun c ob q n hc hx => by
    obtain ⟨sl, e1⟩ := a.slot c ob q n hc hx
    obtain ⟨sl', e2⟩ := b.slot c _ e1 (a.free c ob q n hx) hc hx
    exact ⟨sl', e2⟩
  free := fun c ob q n hx => by
    obtain ⟨o', e1⟩ := a.there c ob q hx
    exact b.free c o' e1 (a.free c ob q n hx) hx
  there := fun c ob q hx => by
    obtain ⟨o', e1⟩ := a.there c ob q hx
    exact b.there c o' e1 hx
  tups := fun c xs q => b.tups c xs (a.tups c xs q)
  frzs := fun c ob xs q => b.frzs c ob xs (a.frzs c ob xs q)
  tbls := fun c ps q => by
    obtain ⟨m1, e1⟩ := a.tbls c ps q
    obtain ⟨m2, e2⟩ := b.tbls c _ e1
    exact ⟨m1 ++ m2, by rw [e2, Array.append_assoc]⟩
theorem Un.kept (k : ∀ b u, h.get? b = some u → h'.get? b = some u) : Un fs ex H H h h' :=
  ⟨fun b ob q _ _ _ => k b ob q, fun b ob q _ _ _ => ⟨ob.slots, k b ob q⟩, fun _ _ _ n _ => n, fun b ob q _ => ⟨ob, k b ob q⟩, fun _ _ q => q, fun _ _ _ q => q, fun _ ps q => ⟨#[], by rw [q]; simp⟩⟩
theorem Un.refl : Un fs ex H H h h := Un.kept fun _ _ q => q
theorem Un.laid (k : ∀ b u, h.get? b = some u → h'.get? b = some u) (hp : h.objs.size ≤ a) (hn : H a = none) : Un fs ex H (upd H a o) h h' where
  keep := fun b u q _ _ _ => k b u q
  slot := fun b u q _ _ _ => ⟨u.slots, k b u q⟩
  free := fun b u q n _ => by rw [upd_ne (Nat.ne_of_lt (Nat.lt_of_lt_of_le (Heap.lt_size q) hp))]; exact n
  there := fun b u q _ => ⟨u, k b u q⟩
  tups := fun b xs q => by rw [upd_ne (ne_of_none q hn)]; exact q
  frzs := fun b u xs q => by rw [upd_ne (ne_of_none q hn)]; exact q
  tbls := fun b ps q => ⟨#[], by rw [upd_ne (ne_of_none q hn), q]; simp⟩
theorem Un.write (mu : Mut (H x)) (he : e = x ∨ H e = some (.own x)) (k : ∀ b u, b ≠ e → h.get? b = some u → h'.get? b = some u) (heo : ∃ u, h'.get? e = some u) : Un fs ex H (upd H x o) h h' := by
  have hx : ∀ b, H b = none → b ≠ x := fun b n z => by subst z; rw [n] at mu; exact mu
  have hb : ∀ b, H b = none → b ≠ e := fun b n z => by
    subst z
    rcases he with r | r
    · exact hx b n r
    · rw [n] at r; cases r
  have hm : ∀ b u, H b = some u → ¬ Mut (some u) → b ≠ x := fun b u q nm z => by subst z; rw [q] at mu; exact nm mu
  refine ⟨fun b u q n _ _ => k b u (hb b n) q, fun b u q n _ _ => ⟨u.slots, k b u (hb b n) q⟩, fun b u q n _ => by rw [upd_ne (hx b n)]; exact n, fun b u q _ => ?_,
    fun b xs q => by rw [upd_ne (hm b _ q fun z => z)]; exact q, fun b u xs q => by rw [upd_ne (hm b _ q fun z => z)]; exact q, fun b ps q => ⟨#[], by rw [upd_ne (hm b _ q fun z => z), q]; simp⟩⟩
  by_cases hbe : b = e
  · subst hbe; exact heo
  · exact ⟨u, k b u hbe q⟩
theorem Un.mono (u : Un fs ex H H1 h h1) (hs : ∀ b ∈ fs, b ∈ fs') (hx : ∀ b ∈ ex, b ∈ ex') : Un fs' ex' H H1 h h1 :=
  ⟨fun b ob q n hb he => u.keep b ob q n (fun z => hb (hs b z)) fun z => he (hx b z), fun _ _ q n _ he => u.any q n fun z => he (hx _ z), fun b ob q n he => u.free b ob q n fun z => he (hx b z), fun b ob q he => u.there b ob q fun z => he (hx b z), u.tups, u.frzs, u.tbls⟩
end

def trk (h : Heap) (H : Hp) : List Addr := (List.range h.objs.size).filter fun a => (H a).isSome
def hidT (h : Heap) (H : Hp) : Heap := PySem.W.hideAll h (trk h H)
theorem hidT_size (h : Heap) (H : Hp) : (hidT h H).objs.size = h.objs.size := PySem.W.hideAll_size _ _
theorem hidT_get {h : Heap} {H : Hp} {b : Addr} {o : Obj} (e : h.get? b = some o) (n : H b = none) : (hidT h H).get? b = some o :=
  PySem.W.hideAll_get _ e fun hm => by
    have q : (H b).isSome = true := (List.mem_filter.mp hm).2
    rw [n] at q; simp at q
theorem of_hidT {h : Heap} {H : Hp} {b : Addr} {o : Obj} (e : (hidT h H).get? b = some o) : h.get? b = some o ∧ H b = none := by
  have e' : h.get? b = some o := PySem.W.of_hideAll (trk h H) e
  refine ⟨e', ?_⟩
  cases q : H b with
  | none => rfl
  | some x =>
    have hm : b ∈ trk h H := List.mem_filter.mpr ⟨List.mem_range.mpr (Heap.lt_size e'), by simp [q]⟩
    have z : (hidT h H).get? b = none := PySem.W.hideAll_none (trk h H) hm
    rw [z] at e; cases e

def allNews (g h : Heap) (L : Addr) : List (Addr × Obj) := (List.range h.objs.size).filterMap fun a => if a = L ∨ (g.get? a).isSome = true then none else (h.get? a).map fun o => (a, o)
def rest (g h : Heap) (L d : Addr) : List (Addr × Obj) := (allNews g h L).filter fun p => decide (p.1 ≠ d)
end L2

namespace L2
open PySem PySem.Spec PyProof.Rows

structure Mod (K : PySem.W.Frag) (mg : Str → Option Value) (base : Heap) : Prop where
  kin : K.In base
  glob : base.Ns mainGlobals mg
  blt : ∃ mb, base.Ns builtinsNs mb ∧ ∀ x : Str, x ≠ "__name__" → mb x = bootBuiltins x
  nolimit : base.NoLimit

structure Cx where
  prog : Program
  w : World
  K : PySem.W.Frag
  mg : Str → Option Value
  base : Heap
  A : Around
  N : List Str
  s₀ : Shared
  H₀ : Hp
  env : Env
  outer : List Env
  stack : List Env
  ex : List Addr
  fn : Str → Bool
  calm : Bool
  pn : List (Addr × Obj)
  xe : Value → Shared → Prop

def frs (l : List Env) : List Addr := l.filterMap (·.frame)
abbrev Cx.fs (X : Cx) : List Addr := frs X.outer

def Vis (sc : Scope) (x : Str) : Prop := sc.names.lookup x = some .local ∨ sc.names.lookup x = some .cell ∨ sc.names.lookup x = some .free
def Loc (sc : Scope) (x : Str) : Prop := sc.names.lookup x = some .local ∨ sc.names.lookup x = some .cell
def Look (env : Env) (h : Heap) (m : Str → Option Value) (x : Str) (u : Value) : Prop :=
  (env.kindOf x = some .local ∧ m x = some u) ∨ ((env.kindOf x = some .cell ∨ env.kindOf x = some .free) ∧ ∃ c, env.cells.lookup x = some c ∧ h.IsCell c (some u))

structure Cx.Ok (X : Cx) : Prop where
  mod : Mod X.K X.mg X.base
  kind : X.env.scope.kind = .function
  glob : X.env.globals = mainGlobals
  blt : X.env.builtins = builtinsNs
  above : X.s₀.heap.objs.size ≤ X.env.locals
  inj : ∀ x y c, X.env.cells.lookup x = some c → X.env.cells.lookup y = some c → x = y
  has : ∀ x, (X.env.kindOf x = some .cell ∨ X.env.kindOf x = some .free) → ∃ c, X.env.cells.lookup x = some c
  cab : ∀ x c, X.fn x = true → X.env.cells.lookup x = some c → X.s₀.heap.objs.size ≤ c
  hd : X.calm = true → X.A.handled = none
  frames : X.A.frames = some X.stack
  stk : X.stack = X.outer ∨ (X.stack = X.env :: X.outer ∧ X.env.frame = some X.env.locals)
  exf : ∀ b ∈ X.ex, b ≠ X.env.locals ∧ ∀ x c, X.env.cells.lookup x = some c → c ≠ b
  bs : ∀ b o, X.base.get? b = some o → X.s₀.heap.get? b = some o ∧ X.H₀ b = none
  bsz : X.base.objs.size ≤ X.s₀.heap.objs.size
  noex : ∀ b o, X.base.get? b = some o → b ∉ X.ex
  exfs : ∀ b ∈ X.ex, b ∉ X.fs
  funs : X.s₀.heap.FunFrames X.base X.outer
  frf : ∀ b ∈ X.fs, X.H₀ b = none

def Gn (n : Nat) (g : Array GenState) : Prop := AllBare g ∧ n ≤ g.size
theorem Gn.self {n : Nat} {g : Array GenState} (x : Gn n g) : Gn g.size g := ⟨x.1, Nat.le_refl _⟩
theorem Gn.trans {n : Nat} {g g' : Array GenState} (x : Gn n g) (y : Gn g.size g') : Gn n g' := ⟨y.1, Nat.le_trans x.2 y.2⟩
structure Inv (X : Cx) (pins : List (Addr × Obj)) (σ : List (Option V)) (H : Hp) (s : Shared) : Prop where
  ok : X.Ok
  os : s.os = X.s₀.os
  bare : Gn X.s₀.gens.size s.gens
  base : Un X.fs X.ex X.H₀ H X.s₀.heap s.heap
  loc : ∃ m, s.heap.Ns X.env.locals m ∧ ∀ (i : Nat) (x : Str) (v : V), X.N[i]? = some x → σ[i]? = some (some v) → Vis X.env.scope x → ∃ u, RelV v u ∧ Look X.env s.heap m x u
  cell : ∀ x c, X.env.cells.lookup x = some c → ∃ v, s.heap.IsCell c v
  free : H X.env.locals = none
  freeC : ∀ x c, X.env.cells.lookup x = some c → H c = none
  pin : ∀ p ∈ X.pn ++ pins, s.heap.get? p.1 = some p.2 ∧ H p.1 = none ∧ p.1 ≠ X.env.locals ∧ p.1 ∉ X.fs ∧ ∀ v, p.2.data ≠ .cell v
  hok : HOk X.prog X.w H s.heap
  len : σ.length = X.N.length

section
variable {X : Cx} {pins : List (Addr × Obj)} {σ : List (Option V)} {H H' : Hp} {s : Shared} {h' : Heap}

theorem Cx.Ok.nofr (ok : X.Ok) {b : Addr} {o : Obj} (e : X.base.get? b = some o) : b ∉ X.fs := fun hb => by
  have := (ok.funs.mem hb).1
  rw [e] at this; cases this
theorem Inv.bs (I : Inv X pins σ H s) : ∀ b o, X.base.get? b = some o → s.heap.get? b = some o ∧ H b = none := fun b o e =>
  ⟨I.base.keep b o (I.ok.bs b o e).1 (I.ok.bs b o e).2 (I.ok.nofr e) (I.ok.noex b o e), I.base.free b o (I.ok.bs b o e).1 (I.ok.bs b o e).2 (I.ok.noex b o e)⟩
theorem Inv.bk (I : Inv X pins σ H s) : ∀ b o, X.base.get? b = some o → s.heap.get? b = some o := fun b o e => (I.bs b o e).1
theorem Inv.mod (I : Inv X pins σ H s) : Mod X.K X.mg X.base := I.ok.mod
theorem Inv.kIn (I : Inv X pins σ H s) : X.K.In s.heap := I.ok.mod.kin.keeps I.bk
theorem Inv.nolimit (I : Inv X pins σ H s) : s.heap.NoLimit := I.ok.mod.nolimit.keeps I.bk

theorem Inv.fr (I : Inv X pins σ H s) : ∃ m, Fr X.base X.env.locals s.heap m :=
  let ⟨m, hn, _⟩ := I.loc
  ⟨m, hn, I.bk, Nat.le_trans I.ok.bsz I.ok.above⟩
theorem Inv.lt (I : Inv X pins σ H s) : X.env.locals < s.heap.objs.size := let ⟨_, hn, _⟩ := I.loc; hn.lt
theorem Inv.sz (I : Inv X pins σ H s) : X.s₀.heap.objs.size ≤ s.heap.objs.size := Nat.le_trans I.ok.above (Nat.le_of_lt I.lt)
theorem Inv.nofs (I : Inv X pins σ H s) {a : Addr} (h : s.heap.objs.size ≤ a) : a ∉ X.fs := fun hb => by
  obtain ⟨_, o, ho, _⟩ := I.ok.funs.mem hb
  exact absurd (Nat.lt_of_lt_of_le (Heap.lt_size ho) (Nat.le_trans I.sz h)) (Nat.lt_irrefl _)
theorem Inv.cne (I : Inv X pins σ H s) : ∀ x c, X.env.cells.lookup x = some c → c ≠ X.env.locals := fun x c e z => by
  obtain ⟨v, o, ho, hd⟩ := I.cell x c e
  obtain ⟨m, ⟨o', es, ep, ho', hd', _⟩, _⟩ := I.loc
  rw [z, ho'] at ho; cases ho; rw [hd'] at hd; cases hd
theorem Inv.funs (I : Inv X pins σ H s) : s.heap.FunFrames X.base X.outer := by
  have all : ∀ (l : List Env), (∀ b ∈ frs l, b ∈ X.fs) → X.s₀.heap.FunFrames X.base l → s.heap.FunFrames X.base l := by
    intro l
    induction l with
    | nil => intro _ _; trivial
    | cons env r ih =>
      intro hs hl
      obtain ⟨hk, ⟨L, o, hf, hn, ho, hd⟩, hr⟩ := hl
      have hL : L ∈ X.fs := hs L (by unfold frs; rw [List.filterMap_cons, hf]; exact List.mem_cons_self)
      obtain ⟨sl, e⟩ := I.base.slot L o ho (I.ok.frf L hL) hL fun z => I.ok.exfs L z hL
      exact ⟨hk, ⟨L, _, hf, hn, e, hd⟩, ih (fun b hb => hs b (by unfold frs; rw [List.filterMap_cons, hf]; exact List.mem_cons_of_mem _ hb)) hr⟩
  exact all X.outer (fun _ hb => hb) I.ok.funs

theorem Inv.stack (I : Inv X pins σ H s) : s.heap.FunFrames X.base X.stack := by
  rcases I.ok.stk with e | ⟨e, hf⟩
  · rw [e]; exact I.funs
  · rw [e]
    obtain ⟨m, hn, _⟩ := I.loc
    refine .cons (by rw [I.ok.kind]; decide) hf hn ?_ I.funs
    exact Heap.get?_none_of_le (Nat.le_trans I.ok.bsz I.ok.above)
theorem Inv.stkSub (I : Inv X pins σ H s) : ∀ b ∈ frs X.stack, b ∈ X.env.locals :: X.fs := fun b hb => by
  rcases I.ok.stk with e | ⟨e, hf⟩
  · rw [e] at hb; exact List.mem_cons_of_mem _ hb
  · rw [e] at hb
    unfold frs at hb
    rw [List.filterMap_cons, hf] at hb
    exact hb
theorem Inv.stkFree (I : Inv X pins σ H s) : ∀ b ∈ frs X.stack, H b = none := fun b hb => by
  rcases List.mem_cons.mp (I.stkSub b hb) with e | hb
  · rw [e]; exact I.free
  · obtain ⟨_, o, ho, _⟩ := I.ok.funs.mem hb
    exact I.base.free b o ho (I.ok.frf b hb) fun z => I.ok.exfs b z hb

theorem Inv.step {g' : Array GenState} {t' : Nat} {d' : Drawn} {ch : List Addr} (I : Inv X pins σ H s)
    (hch : ∀ b ∈ ch, (b ∈ X.ex ∨ X.s₀.heap.objs.size ≤ b) ∧ b ≠ X.env.locals ∧ (∀ x c, X.env.cells.lookup x = some c → c ≠ b) ∧ ∀ p ∈ X.pn ++ pins, p.1 ≠ b)
    (keep : ∀ b o, b ≠ X.env.locals → b ∉ X.fs → b ∉ ch → s.heap.get? b = some o → H b = none → h'.get? b = some o)
    (slot : ∀ b o, b ≠ X.env.locals → b ∈ X.fs → b ∉ ch → s.heap.get? b = some o → H b = none → ∃ sl, h'.get? b = some { o with slots := sl }) (free : ∀ b o, b ∉ ch → s.heap.get? b = some o → H b = none → H' b = none)
    (there : ∀ b o, b ∉ ch → s.heap.get? b = some o → ∃ o', h'.get? b = some o')
    (tups : ∀ b xs, H b = some (.tup xs) → H' b = some (.tup xs)) (frzs : ∀ b o u, H b = some (.frz o u) → H' b = some (.frz o u)) (tbls : ∀ b ps, H b = some (.tbl ps) → ∃ more, H' b = some (.tbl (ps ++ more)))
    (ns : ∀ m, s.heap.Ns X.env.locals m → h'.Ns X.env.locals m) (hok : HOk X.prog X.w H' h') (hg : Gn s.gens.size g') :
    Inv X pins σ H' { s with heap := h', gens := g', drawn := d', toks := t' } := by
  have neL : ∀ b o, X.s₀.heap.get? b = some o → b ≠ X.env.locals := fun b o e => Nat.ne_of_lt (Nat.lt_of_lt_of_le (Heap.lt_size e) I.ok.above)
  have neC : ∀ b o, X.s₀.heap.get? b = some o → b ∉ X.ex → b ∉ ch := fun b o e hx hb => by
    rcases (hch b hb).1 with z | z
    · exact hx z
    · exact absurd (Nat.lt_of_lt_of_le (Heap.lt_size e) z) (Nat.lt_irrefl _)
  have cellK : ∀ x c, X.env.cells.lookup x = some c → ∀ v, s.heap.IsCell c v → h'.IsCell c v := fun x c e v ⟨o, ho, hd⟩ => by
    have nch : c ∉ ch := fun z => (hch c z).2.2.1 x c e rfl
    by_cases hc : c ∈ X.fs
    · obtain ⟨sl, q⟩ := slot c o (I.cne x c e) hc nch ho (I.freeC x c e)
      exact ⟨_, q, hd⟩
    · exact ⟨o, keep c o (I.cne x c e) hc nch ho (I.freeC x c e), hd⟩
  refine ⟨I.ok, I.os, I.bare.trans hg, ⟨fun b o e n hb hx => ?_, fun b o e n hb hx => ?_, fun b o e n hx => ?_, fun b o e hx => ?_, fun b xs e => tups b xs (I.base.tups b xs e), fun b o xs e => frzs b o xs (I.base.frzs b o xs e), fun b ps e => ?_⟩, ?_, fun x c e => ?_, ?_, fun x c e => ?_, fun p hp => ?_, hok, I.len⟩
  · exact keep b o (neL b o e) hb (neC b o e hx) (I.base.keep b o e n hb hx) (I.base.free b o e n hx)
  · obtain ⟨sl, e1⟩ := I.base.slot b o e n hb hx
    obtain ⟨sl', e2⟩ := slot b _ (neL b o e) hb (neC b o e hx) e1 (I.base.free b o e n hx)
    exact ⟨sl', e2⟩
  · obtain ⟨o', e1⟩ := I.base.there b o e hx
    exact free b o' (neC b o e hx) e1 (I.base.free b o e n hx)
  · obtain ⟨o', e1⟩ := I.base.there b o e hx
    exact there b o' (neC b o e hx) e1
  · obtain ⟨m1, e1⟩ := I.base.tbls b ps e
    obtain ⟨m2, e2⟩ := tbls b _ e1
    exact ⟨m1 ++ m2, by rw [e2, Array.append_assoc]⟩
  · obtain ⟨m, hn, hl⟩ := I.loc
    refine ⟨m, ns m hn, fun i x v e1 e2 e3 => ?_⟩
    obtain ⟨u, r, l⟩ := hl i x v e1 e2 e3
    refine ⟨u, r, ?_⟩
    rcases l with l | ⟨k, c, e, z⟩
    · exact .inl l
    · exact .inr ⟨k, c, e, cellK x c e _ z⟩
  · obtain ⟨v, z⟩ := I.cell x c e
    exact ⟨v, cellK x c e v z⟩
  · obtain ⟨m, ⟨o, _, _, ho, _⟩, _⟩ := I.loc
    exact free _ o (fun z => (hch _ z).2.1 rfl) ho I.free
  · obtain ⟨v, o, ho, hd⟩ := I.cell x c e
    exact free c o (fun z => (hch c z).2.2.1 x c e rfl) ho (I.freeC x c e)
  · obtain ⟨e, n, ne, nf, d⟩ := I.pin p hp
    have nch : p.1 ∉ ch := fun z => (hch p.1 z).2.2.2 p hp rfl
    exact ⟨keep p.1 p.2 ne nf nch e n, free p.1 p.2 nch e n, ne, nf, d⟩

theorem Inv.un {t' : Nat} (I : Inv X pins σ H s) (u : Un X.fs [] H H' s.heap h') (hok : HOk X.prog X.w H' h') : Inv X pins σ H' { s with heap := h', toks := t' } := by
  obtain ⟨m, ⟨o, es, ep, ho, r⟩, _⟩ := id I.loc
  obtain ⟨sl, hL⟩ := u.any ho I.free (by simp)
  exact I.step (g' := s.gens) (d' := s.drawn) (ch := []) (fun _ z => nomatch z) (fun b o _ hb _ e n => u.keep b o e n hb (by simp)) (fun b o _ hb _ e n => u.slot b o e n hb (by simp)) (fun b o _ e n => u.free b o e n (by simp)) (fun b o _ e => u.there b o e (by simp)) u.tups u.frzs u.tbls (fun m' hm => by
    obtain ⟨o', es', ep', ho', r'⟩ := hm
    rw [ho] at ho'; cases ho'
    exact ⟨_, es', ep', hL, r'⟩) hok I.bare.self

theorem Inv.call {g' : Array GenState} {t' : Nat} {d' : Drawn} {ch : List Addr} (I : Inv X pins σ H s) (u : Un (frs X.stack) ch H H' s.heap h') (hok : HOk X.prog X.w H' h') (hg : Gn s.gens.size g')
    (hch : ∀ b ∈ ch, (b ∈ X.ex ∨ X.s₀.heap.objs.size ≤ b) ∧ b ≠ X.env.locals ∧ (∀ x c, X.env.cells.lookup x = some c → c ≠ b) ∧ ∀ p ∈ X.pn ++ pins, p.1 ≠ b) :
    Inv X pins σ H' { s with heap := h', gens := g', drawn := d', toks := t' } := by
  obtain ⟨m, ⟨o, es, ep, ho, r⟩, _⟩ := id I.loc
  obtain ⟨sl, hL⟩ := u.any ho I.free fun z => (hch _ z).2.1 rfl
  exact I.step (ch := ch) hch (fun b o hL hb hc e n => u.keep b o e n (fun z => (List.mem_cons.mp (I.stkSub b z)).elim hL hb) hc) (fun b o _ _ hc e n => u.any e n hc) (fun b o hc e n => u.free b o e n hc) (fun b o hc e => u.there b o e hc) u.tups u.frzs u.tbls (fun m' hm => by
    obtain ⟨o', es', ep', ho', r'⟩ := hm
    rw [ho] at ho'; cases ho'
    exact ⟨_, es', ep', hL, r'⟩) hok hg

theorem Inv.turned {t' : Nat} {it : Addr} (I : Inv X pins σ H s) (k : ∀ b o, b ≠ it → s.heap.get? b = some o → h'.get? b = some o) (hn : H it = none) (hL : it ≠ X.env.locals)
    (h1 : it ∈ X.ex ∨ X.s₀.heap.objs.size ≤ it) (h2 : ∀ x c, X.env.cells.lookup x = some c → c ≠ it) (h3 : ∀ p ∈ X.pn ++ pins, p.1 ≠ it) : Inv X pins σ H { s with heap := h', toks := t' } := by
  have nit : ∀ b u, H b = some u → b ≠ it := fun b u e z => by rw [z, hn] at e; cases e
  refine I.step (g' := s.gens) (d' := s.drawn) (ch := [it]) (fun b hb => ?_) (fun b o _ _ hc e _ => k b o (fun z => hc (by simp [z])) e) (fun b o _ _ hc e _ => ⟨o.slots, k b o (fun z => hc (by simp [z])) e⟩) (fun _ _ _ _ n => n)
    (fun b o hc e => ⟨o, k b o (fun z => hc (by simp [z])) e⟩) (fun _ _ e => e) (fun _ _ _ e => e) (fun b ps e => ⟨#[], by rw [e]; simp⟩) (fun m hm => ?_) (fun b u e => ?_) I.bare.self
  · have e : b = it := by simpa using hb
    subst e
    exact ⟨h1, hL, h2, h3⟩
  · obtain ⟨o, es, ep, ho, r⟩ := hm
    exact ⟨o, es, ep, k _ o (Ne.symm hL) ho, r⟩
  · refine (I.hok b u e).stay (fun c v hc q => k c v ?_ q) (fun _ q => q) fun _ _ q => q
    rcases hc with z | z
    · rw [z]; exact nit b u e
    · exact nit c _ z
theorem Inv.tok (I : Inv X pins σ H s) (t : Nat) : Inv X pins σ H { s with toks := t } := I.un (h' := s.heap) (t' := t) Un.refl I.hok

theorem Inv.kept {t' : Nat} (I : Inv X pins σ H s) (k : ∀ b u, s.heap.get? b = some u → h'.get? b = some u) : Inv X pins σ H { s with heap := h', toks := t' } := I.un (Un.kept k) (I.hok.kept k)

theorem Inv.laid {a : Addr} {o : HO} {t' : Nat} (I : Inv X pins σ H s) (k : ∀ b u, s.heap.get? b = some u → h'.get? b = some u) (hp : s.heap.objs.size ≤ a) (new : ObjOk X.prog X.w (upd H a o) h' a o) :
    Inv X pins σ (upd H a o) { s with heap := h', toks := t' } := I.un (Un.laid k hp (I.hok.fresh hp)) (I.hok.laid k hp new)

theorem Inv.write {x e : Addr} {o : HO} {t' : Nat} (I : Inv X pins σ H s) (mu : Mut (H x)) (he : e = x ∨ H e = some (.own x)) (k : ∀ b u, b ≠ e → s.heap.get? b = some u → h'.get? b = some u) (heo : ∃ u, h'.get? e = some u)
    (new : ObjOk X.prog X.w (upd H x o) h' x o) : Inv X pins σ (upd H x o) { s with heap := h', toks := t' } := I.un (Un.write mu he k heo) (I.hok.write mu he k heo new)

theorem Inv.pins_of {pins' : List (Addr × Obj)} (I : Inv X pins σ H s) (h : ∀ p ∈ pins', s.heap.get? p.1 = some p.2 ∧ H p.1 = none ∧ p.1 ≠ X.env.locals ∧ p.1 ∉ X.fs ∧ ∀ v, p.2.data ≠ .cell v) : Inv X pins' σ H s :=
  ⟨I.ok, I.os, I.bare, I.base, I.loc, I.cell, I.free, I.freeC, fun p hp => (List.mem_append.mp hp).elim (fun z => I.pin p (List.mem_append_left _ z)) (h p), I.hok, I.len⟩

theorem nodup_ix {N : List Str} (hN : N.Nodup) {i j : Nat} {x : Str} (a : N[i]? = some x) (b : N[j]? = some x) : i = j := by
  obtain ⟨h1, e1⟩ := List.getElem?_eq_some_iff.mp a
  obtain ⟨h2, e2⟩ := List.getElem?_eq_some_iff.mp b
  exact (List.getElem_inj hN).mp (e1.trans e2.symm)

theorem store_ok2 {M : Model} {A : Around} {E : Value → Shared → Prop} {i : Nat} {x : Str} {v : V} {u : Value} {Q : Unit → Shared → Prop} (I : Inv X pins σ H s) (hN : X.N.Nodup) (hi : X.N[i]? = some x) (hx : Loc X.env.scope x) (r : RelV v u)
    (h : ∀ s', Inv X pins (σ.set i (some v)) H s' → (∃ a, Heap.SameBut a s.heap s'.heap ∧ (a = X.env.locals ∨ X.env.cells.lookup x = some a)) → Q () s') (hf : X.fn x = true ∨ X.env.scope.names.lookup x = some .local := by first | exact .inl rfl | exact .inr rfl | assumption) : wpAny M A (storeName X.env x u) Q E s := by
  obtain ⟨m, hn, hl⟩ := id I.loc
  have hcls : (X.env.scope.kind == .class || (X.env.scope.kind == .module && X.env.locals != X.env.globals)) = false := by rw [I.ok.kind]; rfl
  have hiσ : i < σ.length := by rw [I.len]; exact (List.getElem?_eq_some_iff.mp hi).1
  have cne := I.cne
  have tracked : ∀ {a : Addr} {h' : Heap}, (∃ o, s.heap.get? a = some o ∧ H a = none) → Heap.SameBut a s.heap h' → HOk X.prog X.w H h' := fun {a h'} ha hs b ob e => by
    obtain ⟨_, _, hfree⟩ := ha
    refine (I.hok b ob e).stay (fun c w' hc q => (hs.2 c ?_).trans q) (fun _ q => q) fun _ _ q => q
    rintro rfl
    rcases hc with rfl | hc
    · rw [hfree] at e; cases e
    · rw [hfree] at hc; cases hc
  rcases hx with hk | hk
  · refine wpAny_storeName_local hk hn (fun h' hn' hs => ?_) hcls
    obtain ⟨oL, _, _, hoL, _⟩ := id hn
    refine h _ ⟨I.ok, I.os, I.bare, ⟨fun b o e n hb hx => ?_, fun b o e n hb hx => ?_, I.base.free, fun b o e hx => ?_, I.base.tups, I.base.frzs, I.base.tbls⟩, ⟨_, hn', fun j y v' e1 e2 e3 => ?_⟩, fun y c e => ?_, I.free, I.freeC, fun p hp => ?_, tracked ⟨oL, hoL, I.free⟩ hs, by simpa using I.len⟩ ⟨_, hs, .inl rfl⟩
    · exact (hs.2 b (Nat.ne_of_lt (Nat.lt_of_lt_of_le (Heap.lt_size e) I.ok.above))).trans (I.base.keep b o e n hb hx)
    · obtain ⟨sl, e1⟩ := I.base.slot b o e n hb hx
      exact ⟨sl, (hs.2 b (Nat.ne_of_lt (Nat.lt_of_lt_of_le (Heap.lt_size e) I.ok.above))).trans e1⟩
    · obtain ⟨o', e1⟩ := I.base.there b o e hx
      exact ⟨o', (hs.2 b (Nat.ne_of_lt (Nat.lt_of_lt_of_le (Heap.lt_size e) I.ok.above))).trans e1⟩
    · by_cases hj : j = i
      · subst hj
        rw [hi] at e1; cases e1
        rw [List.getElem?_set_self hiσ] at e2
        cases e2
        exact ⟨u, r, .inl ⟨hk, by simp⟩⟩
      · rw [List.getElem?_set_ne (Ne.symm hj)] at e2
        obtain ⟨u', r', q⟩ := hl j y v' e1 e2 e3
        refine ⟨u', r', ?_⟩
        rcases q with ⟨k, e⟩ | ⟨k, c, e, z⟩
        · refine .inl ⟨k, ?_⟩
          have : y ≠ x := fun e => hj (nodup_ix hN e1 (e ▸ hi))
          simp [this, e]
        · exact .inr ⟨k, c, e, z.sameBut hs (cne y c e)⟩
    · obtain ⟨w', z⟩ := I.cell y c e
      exact ⟨w', z.sameBut hs (cne y c e)⟩
    · obtain ⟨e, n, ne, nf, d⟩ := I.pin p hp
      exact ⟨(hs.2 p.1 ne).trans e, n, ne, nf, d⟩
  · have hfn : X.fn x = true := by
      rcases hf with z | z
      · exact z
      · rw [z] at hk; cases hk
    obtain ⟨c, hc⟩ := I.ok.has x (.inl hk)
    obtain ⟨w', z⟩ := I.cell x c hc
    refine wpAny_storeName_cell I.ok.kind hk hc z (fun h' hc' hs => ?_)
    obtain ⟨oc, hoc, hocd⟩ := id z
    refine h { s with heap := h' } ⟨I.ok, I.os, I.bare, ⟨fun b o e n hb hx => ?_, fun b o e n hb hx => ?_, I.base.free, fun b o e hx => ?_, I.base.tups, I.base.frzs, I.base.tbls⟩, ⟨m, hn.sameBut hs (Ne.symm (cne x c hc)), fun j y v' e1 e2 e3 => ?_⟩, fun y c' e => ?_, I.free, I.freeC, fun p hp => ?_, tracked ⟨oc, hoc, I.freeC x c hc⟩ hs, by simpa using I.len⟩ ⟨c, hs, .inr hc⟩
    · exact (hs.2 b (Nat.ne_of_lt (Nat.lt_of_lt_of_le (Heap.lt_size e) (I.ok.cab x c hfn hc)))).trans (I.base.keep b o e n hb hx)
    · obtain ⟨sl, e1⟩ := I.base.slot b o e n hb hx
      exact ⟨sl, (hs.2 b (Nat.ne_of_lt (Nat.lt_of_lt_of_le (Heap.lt_size e) (I.ok.cab x c hfn hc)))).trans e1⟩
    · obtain ⟨o', e1⟩ := I.base.there b o e hx
      exact ⟨o', (hs.2 b (Nat.ne_of_lt (Nat.lt_of_lt_of_le (Heap.lt_size e) (I.ok.cab x c hfn hc)))).trans e1⟩
    · by_cases hj : j = i
      · subst hj
        rw [hi] at e1; cases e1
        rw [List.getElem?_set_self hiσ] at e2
        cases e2
        exact ⟨u, r, .inr ⟨.inl hk, c, hc, hc'⟩⟩
      · rw [List.getElem?_set_ne (Ne.symm hj)] at e2
        obtain ⟨u', r', q⟩ := hl j y v' e1 e2 e3
        refine ⟨u', r', ?_⟩
        rcases q with q | ⟨k, c', e, z'⟩
        · exact .inl q
        · refine .inr ⟨k, c', e, z'.sameBut hs ?_⟩
          rintro rfl
          exact hj (nodup_ix hN e1 (I.ok.inj _ _ _ e hc ▸ hi))
    · by_cases hcc : c' = c
      · subst hcc; exact ⟨_, hc'⟩
      · obtain ⟨w2, z2⟩ := I.cell y c' e
        exact ⟨w2, z2.sameBut hs hcc⟩
    · obtain ⟨e, n, ne, nf, d⟩ := I.pin p hp
      refine ⟨(hs.2 p.1 ?_).trans e, n, ne, nf, d⟩
      intro q
      rw [q, hoc] at e
      have q' : oc = p.2 := Option.some.inj e
      exact d w' (by rw [← q']; exact hocd)
theorem store_ok {M : Model} {A : Around} {E : Value → Shared → Prop} {i : Nat} {x : Str} {v : V} {u : Value} {Q : Unit → Shared → Prop} (I : Inv X pins σ H s) (hN : X.N.Nodup) (hi : X.N[i]? = some x) (hx : Loc X.env.scope x) (r : RelV v u)
    (h : ∀ s', Inv X pins (σ.set i (some v)) H s' → Q () s') (hf : X.fn x = true ∨ X.env.scope.names.lookup x = some .local := by first | exact .inl rfl | exact .inr rfl | assumption) : wpAny M A (storeName X.env x u) Q E s :=
  store_ok2 I hN hi hx r (fun s' I' _ => h s' I') hf

theorem Inv.call' {s' : Shared} {ch : List Addr} (I : Inv X pins σ H s) (ho : s'.os = s.os) (u : Un (frs X.stack) ch H H' s.heap s'.heap) (hok : HOk X.prog X.w H' s'.heap) (hg : Gn s.gens.size s'.gens)
    (hch : ∀ b ∈ ch, (b ∈ X.ex ∨ X.s₀.heap.objs.size ≤ b) ∧ b ≠ X.env.locals ∧ (∀ x c, X.env.cells.lookup x = some c → c ≠ b) ∧ ∀ p ∈ X.pn ++ pins, p.1 ≠ b) : Inv X pins σ H' s' := by
  obtain ⟨h', g', d', t', o'⟩ := s'
  have e : o' = s.os := ho
  subst e
  exact I.call (g' := g') (t' := t') (d' := d') u hok hg hch
end

abbrev XK := Value → Option Addr → Hp → Prop
abbrev St := List (Option V)
abbrev VK := V → Hp → Prop

abbrev TE := St → Hp → VK → Prop
abbrev TT := St → Hp → (Bool → Hp → Prop) → Prop
abbrev TA := St → Hp → (List V → Hp → Prop) → Prop

structure Ends where
  nx : St → Hp → Prop
  rt : VK
  bk : St → Hp → Prop := fun _ _ => False
  ct : St → Hp → Prop := fun _ _ => False
abbrev TS := Ends → St → Hp → Prop

def EP (X : Cx) (pins : List (Addr × Obj)) (σ : St) (Q : VK) (u : Value) (s' : Shared) : Prop := ∃ v H', Inv X pins σ H' s' ∧ RelV v u ∧ Q v H'
def TP (X : Cx) (pins : List (Addr × Obj)) (σ : St) (Q : Bool → Hp → Prop) (b : Bool) (s' : Shared) : Prop := ∃ H', Inv X pins σ H' s' ∧ Q b H'
def AP (X : Cx) (pins : List (Addr × Obj)) (σ : St) (Q : List V → Hp → Prop) (us : List Value) (s' : Shared) : Prop := ∃ vs H', Inv X pins σ H' s' ∧ Vals vs us ∧ Q vs H'
def SP (X : Cx) (pins : List (Addr × Obj)) (D : Ends) (f : Flow) (s' : Shared) : Prop :=
  match f with
  | .next => ∃ σ' H', Inv X pins σ' H' s' ∧ D.nx σ' H'
  | .brk => ∃ σ' H', Inv X pins σ' H' s' ∧ D.bk σ' H'
  | .cont => ∃ σ' H', Inv X pins σ' H' s' ∧ D.ct σ' H'
  | .ret u => ∃ v σ' H', Inv X pins σ' H' s' ∧ RelV v u ∧ D.rt v H'

structure PE (X : Cx) (e : Expr) (t : TE) : Prop where
  run : ∀ (pins : List (Addr × Obj)) (s : Shared) (σ : St) (H : Hp) (Q : VK), Inv X pins σ H s → t σ H Q → wpAny (model X.prog X.w) X.A (eval e X.env) (EP X pins σ Q) X.xe s
instance {X : Cx} {e : Expr} {t : TE} : CoeFun (PE X e t) (fun _ => ∀ (pins : List (Addr × Obj)) (s : Shared) (σ : St) (H : Hp) (Q : VK), Inv X pins σ H s → t σ H Q → wpAny (model X.prog X.w) X.A (eval e X.env) (EP X pins σ Q) X.xe s) := ⟨PE.run⟩
structure PT (X : Cx) (e : Expr) (t : TT) : Prop where
  run : ∀ (pins : List (Addr × Obj)) (s : Shared) (σ : St) (H : Hp) (Q : Bool → Hp → Prop), Inv X pins σ H s → t σ H Q → wpAny (model X.prog X.w) X.A (isTrue e X.env (eval e X.env)) (TP X pins σ Q) X.xe s
instance {X : Cx} {e : Expr} {t : TT} : CoeFun (PT X e t) (fun _ => ∀ (pins : List (Addr × Obj)) (s : Shared) (σ : St) (H : Hp) (Q : Bool → Hp → Prop), Inv X pins σ H s → t σ H Q → wpAny (model X.prog X.w) X.A (isTrue e X.env (eval e X.env)) (TP X pins σ Q) X.xe s) := ⟨PT.run⟩

def PW (X : Cx) (e : Expr) (t : TT) : Prop :=
  ∀ (whole : Sem Value) (pins : List (Addr × Obj)) (s : Shared) (σ : St) (H : Hp) (Q : Bool → Hp → Prop), Inv X pins σ H s → t σ H Q → wpAny (model X.prog X.w) X.A (isTrue e X.env whole) (TP X pins σ Q) X.xe s
theorem PW.pt {X : Cx} {e : Expr} {t : TT} (h : PW X e t) : PT X e t := ⟨h _⟩

structure PA (X : Cx) (es : List Expr) (t : TA) : Prop where
  run : ∀ (pos : Pos) (pins : List (Addr × Obj)) (s : Shared) (σ : St) (H : Hp) (Q : List V → Hp → Prop), Inv X pins σ H s → t σ H Q → wpAny (model X.prog X.w) X.A (spliced (backTo pos (starEach es X.env))) (AP X pins σ Q) X.xe s
instance {X : Cx} {es : List Expr} {t : TA} : CoeFun (PA X es t) (fun _ => ∀ (pos : Pos) (pins : List (Addr × Obj)) (s : Shared) (σ : St) (H : Hp) (Q : List V → Hp → Prop), Inv X pins σ H s → t σ H Q → wpAny (model X.prog X.w) X.A (spliced (backTo pos (starEach es X.env))) (AP X pins σ Q) X.xe s) := ⟨PA.run⟩
structure PS (X : Cx) (st : Stmt) (t : TS) : Prop where
  run : ∀ (pins : List (Addr × Obj)) (s : Shared) (σ : St) (H : Hp) (D : Ends), Inv X pins σ H s → t D σ H → wpAny (model X.prog X.w) X.A (exec st X.env) (SP X pins D) X.xe s
instance {X : Cx} {st : Stmt} {t : TS} : CoeFun (PS X st t) (fun _ => ∀ (pins : List (Addr × Obj)) (s : Shared) (σ : St) (H : Hp) (D : Ends), Inv X pins σ H s → t D σ H → wpAny (model X.prog X.w) X.A (exec st X.env) (SP X pins D) X.xe s) := ⟨PS.run⟩
structure PSs (X : Cx) (st : List Stmt) (t : TS) : Prop where
  run : ∀ (pins : List (Addr × Obj)) (s : Shared) (σ : St) (H : Hp) (D : Ends), Inv X pins σ H s → t D σ H → wpAny (model X.prog X.w) X.A (execs st X.env) (SP X pins D) X.xe s
instance {X : Cx} {st : List Stmt} {t : TS} : CoeFun (PSs X st t) (fun _ => ∀ (pins : List (Addr × Obj)) (s : Shared) (σ : St) (H : Hp) (D : Ends), Inv X pins σ H s → t D σ H → wpAny (model X.prog X.w) X.A (execs st X.env) (SP X pins D) X.xe s) := ⟨PSs.run⟩

theorem thn {α : Type} {t : Sem α} {Q Q' : α → Shared → Prop} {M : Model} {A : Around} {E : Value → Shared → Prop} {s : Shared} (h : wpAny M A t Q E s) (hQ : ∀ a s, Q a s → Q' a s) : wpAny M A t Q' E s := wpAny_mono h hQ fun _ _ x => x
end L2

namespace L2
open PySem PySem.Spec PyProof.Rows
section
variable {X : Cx}

def tVar (i : Nat) : TE := fun σ H Q => ∃ v, σ[i]? = some (some v) ∧ Q v H
def tC (v : V) : TE := fun _ H Q => Q v H
theorem pe_var {i : Nat} {x : Str} {pos : Pos} (hN : X.N[i]? = some x) (hv : Vis X.env.scope x) (hd : (x == ("__debug__" : Str)) = false := by decide) (hcd : (x == ("__classdict__" : Str)) = false := by decide) : PE X (.Name x pos) (tVar i) := by
  refine ⟨?_⟩
  intro pins s σ H Q I h
  obtain ⟨v, e, h⟩ := h
  obtain ⟨m, hn, hl⟩ := I.loc
  obtain ⟨u, r, l⟩ := hl i x v hN e hv
  have fin : EP X pins σ Q u s := ⟨v, H, I, r, h⟩
  rcases l with ⟨hk, hm⟩ | ⟨hk, c, hc, hcell⟩
  · exact wpAny_Name (wpAny_loadName_local I.ok.kind hk hn hm fin) hd
  · rcases hk with hk | hk
    · exact wpAny_Name (wpAny_loadName_cell I.ok.kind hk hc hcell fin) hd
    · exact wpAny_Name (wpAny_loadName_free I.ok.kind hk hc hcell fin hcd) hd
theorem pe_int {i j pos} : PE X (.Constant (.int i) j pos) (tC (.int i)) := ⟨fun _ _ _ H _ I h => wpAny_Constant_int ⟨.int i, H, I.tok _, ⟨_, rfl⟩, h⟩⟩
theorem pe_bl {b j pos} : PE X (.Constant (.bool b) j pos) (tC (.bl b)) := ⟨fun _ _ _ H _ I h => Constant_bool ⟨.bl b, H, I, rfl, h⟩⟩
theorem pe_non {j pos} : PE X (.Constant .none j pos) (tC .non) := ⟨fun _ _ _ H _ I h => Constant_none ⟨.non, H, I, rfl, h⟩⟩
theorem pe_str {x j pos} : PE X (.Constant (.str x) j pos) (tC (.str x)) := ⟨fun _ _ _ H _ I h => Calls.Constant_str ⟨.str x, H, I.tok _, ⟨_, rfl⟩, h⟩⟩

def Gl (X : Cx) (x : Str) : Prop := X.env.kindOf x = some .globalImplicit
theorem ld_glob {E : Value → Shared → Prop} {pins : List (Addr × Obj)} {s : Shared} {σ : St} {H : Hp} {x : Str} {u : Value} {pos : Pos} {Q : Value → Shared → Prop} (I : Inv X pins σ H s) (hg : Gl X x) (hm : X.mg x = some u) (h : Q u s)
    (hd : (x == ("__debug__" : Str)) = false := by decide) : wpAny (model X.prog X.w) X.A (eval (.Name x pos) X.env) Q E s :=
  Calls.Name_function_global I.ok.kind hg (Calls.loadGlobal_global (by rw [I.ok.glob]; exact I.mod.glob.keeps I.bk) hm h) hd
theorem ld_blt {E : Value → Shared → Prop} {pins : List (Addr × Obj)} {s : Shared} {σ : St} {H : Hp} {x : Str} {u : Value} {pos : Pos} {Q : Value → Shared → Prop} (I : Inv X pins σ H s) (hg : Gl X x) (hm : X.mg x = none) (hv : bootBuiltins x = some u) (h : Q u s)
    (hn : x ≠ "__name__" := by decide) (hd : (x == ("__debug__" : Str)) = false := by decide) : wpAny (model X.prog X.w) X.A (eval (.Name x pos) X.env) Q E s := by
  obtain ⟨mb, h1, h2⟩ := I.mod.blt
  exact Calls.Name_function_global I.ok.kind hg (Calls.loadGlobal_builtin (by rw [I.ok.glob]; exact I.mod.glob.keeps I.bk) hm (by rw [I.ok.blt]; exact h1.keeps I.bk) ((h2 x hn).trans hv) h) hd

theorem pe_glob {x : Str} {v : V} {u : Value} {pos : Pos} (hg : Gl X x) (hm : X.mg x = some u) (r : RelV v u) (hd : (x == ("__debug__" : Str)) = false := by decide) : PE X (.Name x pos) (tC v) := ⟨fun _ _ _ H _ I h => ld_glob I hg hm ⟨v, H, I, r, h⟩ hd⟩
theorem pe_bltn {x : Str} {v : V} {u : Value} {pos : Pos} (hg : Gl X x) (hm : X.mg x = none) (hv : bootBuiltins x = some u) (r : RelV v u) (hn : x ≠ "__name__" := by decide) (hd : (x == ("__debug__" : Str)) = false := by decide) : PE X (.Name x pos) (tC v) := ⟨fun _ _ _ H _ I h => ld_blt I hg hm hv ⟨v, H, I, r, h⟩ hn hd⟩

variable {a b : Expr} {ta tb : TE} {pos : Pos}
def tB (t : TE) : TT := fun σ H Q => t σ H fun x H1 => ∃ c, x = .bl c ∧ Q c H1
theorem pt_val {e : Expr} {t : TE} (h : PE X e t) (he : ∀ whole, isTrue e X.env whole = (do let v ← whole; standAt e.pos; holding [v] (truthy v)) := by intro _; rfl) : PT X e (tB t) := by
  refine ⟨?_⟩
  intro pins s σ H Q I hw
  refine isTrue_plain (thn (h pins s σ H _ I hw) fun v s1 ⟨x, H1, I1, r1, q1⟩ => ?_) (he _)
  obtain ⟨d, rfl, q⟩ := q1
  cases r1
  exact wpAny_truthy_bool ⟨H1, I1, q⟩

variable {tA tB' : TT} {rest : List Expr}
def tOr (t u : TT) : TT := fun σ H Q => t σ H fun c H1 => if c = true then Q true H1 else u σ H1 Q
def tNot (t : TT) : TT := fun σ H Q => t σ H fun c H1 => Q (!c) H1
theorem pw_or1 (ha : PT X a tA) : PW X (.BoolOp .Or [a] pos) tA := by
  intro wh pins s σ H Q I h
  refine isTrue_or (thn (ha pins s σ H Q I h) fun c s1 e => ?_)
  cases c with
  | false => exact isTrue_or_nil e
  | true => exact e
theorem pw_or (ha : PT X a tA) (hb : PW X (.BoolOp .Or (b :: rest) pos) tB') : PW X (.BoolOp .Or (a :: b :: rest) pos) (tOr tA tB') := by
  intro wh pins s σ H Q I h
  refine isTrue_or (thn (ha pins s σ H _ I h) fun c s1 ⟨H1, I1, q1⟩ => ?_)
  cases c with
  | true => exact ⟨H1, I1, q1⟩
  | false => exact hb wh pins s1 σ H1 Q I1 q1
theorem pt_not (ha : PT X a tA) : PT X (.UnaryOp .Not a pos) (tNot tA) := by
  refine ⟨?_⟩
  intro pins s σ H Q I h
  exact isTrue_not (ha pins s σ H (fun c H1 => Q (!c) H1) I h)

def tAndV (ta tb : TE) : TE := fun σ H Q => ta σ H fun x H1 => ∃ c, x = .bl c ∧ if c = true then tb σ H1 Q else Q (.bl false) H1
def tNotV (ta : TE) : TE := fun σ H Q => ta σ H fun x H1 => ∃ c, x = .bl c ∧ Q (.bl (!c)) H1
theorem pe_one {op} {t : TE} (h : PE X a t) : PE X (.BoolOp op [a] pos) t := ⟨fun pins s σ H Q I hw => BoolOp_one (h pins s σ H Q I hw)⟩
theorem pe_and (ha : PE X a ta) (hb : PE X (.BoolOp .And (b :: rest) pos) tb) : PE X (.BoolOp .And (a :: b :: rest) pos) (tAndV ta tb) := by
  refine ⟨?_⟩
  intro pins s σ H Q I h
  refine BoolOp_and (thn (ha pins s σ H _ I h) fun v s1 ⟨x, H1, I1, r1, q1⟩ => ?_)
  obtain ⟨c, rfl, q1⟩ := q1
  cases r1
  refine wpAny_truthy_bool ?_
  cases c with
  | true => exact hb pins s1 σ H1 Q I1 q1
  | false => exact ⟨.bl false, H1, I1, rfl, q1⟩
theorem pe_not (ha : PE X a ta) : PE X (.UnaryOp .Not a pos) (tNotV ta) := by
  refine ⟨?_⟩
  intro pins s σ H Q I h
  refine UnaryOp_ (thn (ha pins s σ H _ I h) fun v s1 ⟨x, H1, I1, r1, q1⟩ => ?_)
  obtain ⟨c, rfl, q1⟩ := q1
  cases r1
  exact not_of (wpAny_truthy_bool ⟨.bl (!c), H1, I1, rfl, q1⟩)

def tIf (t : TT) (ta tb : TE) : TE := fun σ H Q => t σ H fun c H1 => if c = true then ta σ H1 Q else tb σ H1 Q
theorem pe_ifExp {c : Expr} (hc : PT X c tA) (ha : PE X a ta) (hb : PE X b tb) : PE X (.IfExp c a b pos) (tIf tA ta tb) := by
  refine ⟨?_⟩
  intro pins s σ H Q I h
  refine wpAny_IfExp (thn (hc pins s σ H _ I h) fun d s1 ⟨H1, I1, q1⟩ => ?_)
  cases d with
  | true => exact ha pins s1 σ H1 Q I1 q1
  | false => exact hb pins s1 σ H1 Q I1 q1
end
end L2

namespace L2
open PySem PySem.Spec PyProof.Rows

def SqL (K : PySem.W.Frag) (H : Hp) (a : Addr) (xs : List V) : Prop :=
  Rd H a (.lst xs) ∨
    ∃ (o : Obj) (its : Array Value) (n : Nat), K.lookup a = some o ∧ o.cls = .type "list" ∧ o.dict = none ∧ o.data = .seq its n ∧ its.size ≤ sizeLine ∧ Vals xs its.toList
def SqT (K : PySem.W.Frag) (H : Hp) (a : Addr) (xs : List V) : Prop :=
  Rd H a (.tup xs) ∨
    ∃ (o : Obj) (its : Array Value) (n : Nat), K.lookup a = some o ∧ o.cls = .type "tuple" ∧ o.data = .seq its n ∧ its.size ≤ sizeLine ∧ Vals xs its.toList
def absV : Value → Option V
  | .none => some .non
  | .bool b => some (.bl b)
  | .int i _ => some (.int i)
  | .str x _ => some (.str x)
  | .bytes b _ => some (.byt b)
  | .float b _ => some (.flt b)
  | .ref a => some (.ref a)
  | .type n => some (.ty n)
  | _ => none
theorem RelV.abs {x : V} {u : Value} (r : RelV x u) : absV u = some x := by
  cases x with
  | non => cases r; rfl
  | bl _ => cases r; rfl
  | int _ => obtain ⟨t, rfl⟩ := r; rfl
  | str _ => obtain ⟨t, rfl⟩ := r; rfl
  | byt _ => obtain ⟨t, rfl⟩ := r; rfl
  | flt _ => obtain ⟨t, rfl⟩ := r; rfl
  | ref _ => cases r; rfl
  | ty _ => cases r; rfl
theorem RelV.inj {x y : V} {u : Value} (r : RelV x u) (q : RelV y u) : x = y := Option.some.inj (r.abs.symm.trans q.abs)
theorem Vals.inj : ∀ {xs ys : List V} {us : List Value}, Vals xs us → Vals ys us → xs = ys
  | _, _, _, .nil, .nil => rfl
  | _, _, _, .cons r t, .cons r' t' => by rw [r.inj r', Vals.inj t t']
section
variable {X : Cx} {pins : List (Addr × Obj)} {σ : St} {H : Hp} {s : Shared} {a : Addr} {xs ys : List V}
theorem SqL.of {K : PySem.W.Frag} (h : H a = some (.lst xs)) : SqL K H a xs := .inl (.inl h)
theorem SqT.of {K : PySem.W.Frag} (h : H a = some (.tup xs)) : SqT K H a xs := .inl (.inl h)
theorem Inv.list (I : Inv X pins σ H s) (h : SqL X.K H a xs) : ∃ its : List Value, Vals xs its ∧ PlainL s.heap a its.toArray ∧ xs.length ≤ sizeLine := by
  rcases h with h | ⟨o, its, n, hk, hc, hd, hs, hz, r⟩
  · obtain ⟨z, its, n, r, e⟩ := h.ok I.hok
    exact ⟨its, r, ⟨_, n, e, rfl, rfl, rfl⟩, z⟩
  · refine ⟨its.toList, r, ⟨o, n, I.kIn a o hk, hc, hd, by simpa using hs⟩, ?_⟩
    have e := r.length
    simp only [Array.length_toList] at e
    omega
theorem Inv.tuple (I : Inv X pins σ H s) (h : SqT X.K H a xs) : ∃ its : List Value, Vals xs its ∧ IsTup s.heap a its.toArray ∧ xs.length ≤ sizeLine := by
  rcases h with h | ⟨o, its, n, hk, hc, hs, hz, r⟩
  · obtain ⟨z, its, r, p⟩ := h.ok I.hok
    exact ⟨its, r, p, z⟩
  · refine ⟨its.toList, r, ⟨o, I.kIn a o hk, hc, n, by simpa using hs⟩, ?_⟩
    have e := r.length
    simp only [Array.length_toList] at e
    omega
theorem Inv.list_inj (I : Inv X pins σ H s) (h : SqL X.K H a xs) (h' : SqL X.K H a ys) : xs = ys := by
  obtain ⟨its, r, ⟨o, n, e, _, _, d⟩, _⟩ := I.list h
  obtain ⟨its', r', ⟨o', n', e', _, _, d'⟩, _⟩ := I.list h'
  rw [e] at e'; cases e'
  rw [d] at d'
  injection d' with d1 _
  have : its = its' := by simpa using congrArg Array.toList d1
  subst this
  exact r.inj r'
theorem Inv.tuple_inj (I : Inv X pins σ H s) (h : SqT X.K H a xs) (h' : SqT X.K H a ys) : xs = ys := by
  obtain ⟨its, r, ⟨o, e, _, n, d⟩, _⟩ := I.tuple h
  obtain ⟨its', r', ⟨o', e', _, n', d'⟩, _⟩ := I.tuple h'
  rw [e] at e'; cases e'
  rw [d] at d'
  injection d' with d1 _
  have : its = its' := by simpa using congrArg Array.toList d1
  subst this
  exact r.inj r'
end

abbrev Cx.wish (X : Cx) (E : Value → Shared → Prop) : Cx := { X with xe := E }

abbrev Cx.nox (X : Cx) : Cx := X.wish fun _ _ => False
theorem Cx.Ok.wish {X : Cx} (ok : X.Ok) (E : Value → Shared → Prop) : (X.wish E).Ok :=
  ⟨ok.mod, ok.kind, ok.glob, ok.blt, ok.above, ok.inj, ok.has, ok.cab, ok.hd, ok.frames, ok.stk, ok.exf, ok.bs, ok.bsz, ok.noex, ok.exfs, ok.funs, ok.frf⟩
theorem Cx.Ok.unwish {X : Cx} {E : Value → Shared → Prop} (ok : (X.wish E).Ok) : X.Ok :=
  ⟨ok.mod, ok.kind, ok.glob, ok.blt, ok.above, ok.inj, ok.has, ok.cab, ok.hd, ok.frames, ok.stk, ok.exf, ok.bs, ok.bsz, ok.noex, ok.exfs, ok.funs, ok.frf⟩
section
variable {X : Cx} {pins : List (Addr × Obj)} {σ : St} {H : Hp} {s : Shared} {E : Value → Shared → Prop}
theorem Inv.wish (I : Inv X pins σ H s) (E : Value → Shared → Prop) : Inv (X.wish E) pins σ H s := ⟨I.ok.wish E, I.os, I.bare, I.base, I.loc, I.cell, I.free, I.freeC, I.pin, I.hok, I.len⟩
theorem Inv.unwish (I : Inv (X.wish E) pins σ H s) : Inv X pins σ H s := ⟨I.ok.unwish, I.os, I.bare, I.base, I.loc, I.cell, I.free, I.freeC, I.pin, I.hok, I.len⟩
theorem SP.unwish {D : Ends} {f : Flow} {s' : Shared} (h : SP (X.wish E) pins D f s') : SP X pins D f s' := by
  cases f with
  | next => obtain ⟨σ', H', I, q⟩ := h; exact ⟨σ', H', I.unwish, q⟩
  | brk => obtain ⟨σ', H', I, q⟩ := h; exact ⟨σ', H', I.unwish, q⟩
  | cont => obtain ⟨σ', H', I, q⟩ := h; exact ⟨σ', H', I.unwish, q⟩
  | ret u => obtain ⟨v, σ', H', I, r, q⟩ := h; exact ⟨v, σ', H', I.unwish, r, q⟩
theorem PE.nox {e : Expr} {t : TE} (h : PE X.nox e t) : PE X e t := ⟨fun pins s σ H Q I hw =>
  wpAny_mono (h pins s σ H Q (I.wish _) hw) (fun _ _ ⟨v, H', I', r, q⟩ => ⟨v, H', I'.unwish, r, q⟩) fun _ _ z => False.elim z⟩
theorem PT.nox {e : Expr} {t : TT} (h : PT X.nox e t) : PT X e t := ⟨fun pins s σ H Q I hw =>
  wpAny_mono (h pins s σ H Q (I.wish _) hw) (fun _ _ ⟨H', I', q⟩ => ⟨H', I'.unwish, q⟩) fun _ _ z => False.elim z⟩
theorem PSs.nox {st : List Stmt} {t : TS} (h : PSs X.nox st t) : PSs X st t := ⟨fun pins s σ H D I hw =>
  wpAny_mono (h pins s σ H D (I.wish _) hw) (fun _ _ q => q.unwish) fun _ _ z => False.elim z⟩
end

section
variable {X : Cx} {st : Stmt} {rest : List Stmt} {t u : TS} {e : Expr} {te : TE} {pos : Pos}
def tNext : TS := fun D σ H => D.nx σ H
def tSeq (t u : TS) : TS := fun D σ H => t { D with nx := u D } σ H
theorem pss_nil : PSs X [] tNext := ⟨fun _ _ σ H _ I h => wpAny_execs_nil ⟨σ, H, I, h⟩⟩
theorem pss_cons (h1 : PS X st t) (h2 : PSs X rest u) : PSs X (st :: rest) (tSeq t u) := by
  refine ⟨?_⟩
  intro pins s σ H D I h
  refine wpAny_execs_cons (thn (h1 pins s σ H { D with nx := u D } I h) fun f s1 q => ?_)
  cases f with
  | next =>
    obtain ⟨σ', H', I', q⟩ := q
    exact h2 pins s1 σ' H' D I' q
  | ret v => exact q
  | brk => exact q
  | cont => exact q
theorem pss_one (h1 : PS X st t) : PSs X [st] t := by
  refine ⟨?_⟩
  intro pins s σ H D I h
  refine wpAny_execs_cons (thn (h1 pins s σ H D I h) fun f s1 q => ?_)
  cases f with
  | next => exact wpAny_execs_nil q
  | ret v => exact q
  | brk => exact q
  | cont => exact q
theorem Inv.quiet {pins : List (Addr × Obj)} {σ : St} {H : Hp} {s : Shared} (I : Inv X pins σ H s) : interactive X.env = false := by simp [interactive, I.ok.kind]

def tDrop (te : TE) : TS := fun D σ H => te σ H fun _ H1 => D.nx σ H1
theorem ps_expr (he : PE X e te) (hs : swapsWith e none pos.line X.env = pure false := by rfl) : PS X (.Expr e pos) (tDrop te) := by
  refine ⟨?_⟩
  intro pins s σ H D I h
  exact wpAny_Expr_any (thn (he pins s σ H _ I h) fun v s1 ⟨x, H1, I1, r1, q1⟩ => ⟨σ, H1, I1, q1⟩) I.quiet hs
def tRet (te : TE) : TS := fun D σ H => te σ H D.rt
theorem ps_ret (he : PE X e te) : PS X (.Return (some e) pos) (tRet te) := by
  refine ⟨?_⟩
  intro pins s σ H D I h
  exact wpAny_Return_some (thn (he pins s σ H _ I h) fun v s1 ⟨x, H1, I1, r1, q1⟩ => ⟨x, σ, H1, I1, r1, q1⟩)
def tIfS (c : TT) (t u : TS) : TS := fun D σ H => c σ H fun b H1 => if b = true then t D σ H1 else u D σ H1
theorem ps_if {c : Expr} {a b : List Stmt} {tc : TT} (hc : PT X c tc) (ha : PSs X a t) (hb : PSs X b u) : PS X (.If c a b pos) (tIfS tc t u) := by
  refine ⟨?_⟩
  intro pins s σ H D I h
  refine wpAny_If (thn (hc pins s σ H _ I h) fun d s1 ⟨H1, I1, q1⟩ => ?_)
  cases d with
  | true => exact ha pins s1 σ H1 D I1 q1
  | false => exact hb pins s1 σ H1 D I1 q1

end

abbrev TG := V → St → Hp → (St → Hp → Prop) → Prop
def PG (X : Cx) (target : Expr) (t : TG) : Prop :=
  ∀ (pins : List (Addr × Obj)) (s : Shared) (σ : St) (H : Hp) (v : V) (u : Value) (Q : St → Hp → Prop), Inv X pins σ H s → RelV v u → t v σ H Q →
    wpAny (model X.prog X.w) X.A (assign target X.env u) (fun _ s' => ∃ σ' H', Inv X pins σ' H' s' ∧ Q σ' H') X.xe s

abbrev TSet := V → V → V → Hp → (Hp → Prop) → Prop
def PSet (X : Cx) (t : TSet) : Prop :=
  ∀ (pins : List (Addr × Obj)) (s : Shared) (σ : St) (H : Hp) (o i v : V) (ov iv u : Value) (Q : Hp → Prop), Inv X pins σ H s → RelV o ov → RelV i iv → RelV v u → t o i v H Q →
    wpAny (model X.prog X.w) X.A (setItem ov iv u) (fun _ s' => ∃ H', Inv X pins σ H' s' ∧ Q H') X.xe s

section
variable {X : Cx} {pos : Pos}
def gName (i : Nat) : TG := fun v σ H Q => Q (σ.set i (some v)) H
theorem pg_name {i : Nat} {x : Str} (hN : X.N.Nodup) (hi : X.N[i]? = some x) (hx : Loc X.env.scope x) (hf : X.fn x = true ∨ X.env.scope.names.lookup x = some .local := by first | exact .inl rfl | exact .inr rfl | assumption) : PG X (.Name x pos) (gName i) := by
  intro pins s σ H v u Q I r h
  exact wpAny_assign_Name (store_ok I hN hi hx r (fun s' I' => ⟨_, H, I', h⟩) hf)
def gSub (to ti : TE) (t : TSet) : TG := fun v σ H Q => to σ H fun o H1 => ti σ H1 fun i H2 => t o i v H2 fun H3 => Q σ H3
theorem pg_sub {o i : Expr} {to ti : TE} {t : TSet} (ho : PE X o to) (hi : PE X i ti) (hs : PSet X t)
    (ha : ∀ v, assign (.Subscript o i pos) X.env v = (do
      let ov ← holding [v] (eval o X.env)
      let iv ← holding [v, ov] (eval i X.env)
      standAt pos
      holding [v, ov, iv] (setItem ov iv v)
      release [v, ov, iv] []) := by intro _; rfl) : PG X (.Subscript o i pos) (gSub to ti t) := by
  intro pins s σ H v u Q I r h
  rw [ha]
  refine wpAny_bind (wpAny_holding (thn (ho pins s σ H _ I h) fun ov s1 ⟨x, H1, I1, r1, q1⟩ => ?_))
  refine wpAny_bind (wpAny_holding (thn (hi pins s1 σ H1 _ I1 q1) fun iv s2 ⟨y, H2, I2, r2, q2⟩ => ?_))
  refine wpAny_bind (wpAny_standAt (wpAny_bind (wpAny_holding (thn (hs pins s2 σ H2 x y v ov iv u _ I2 r1 r2 r q2) fun _ s3 ⟨H3, I3, q3⟩ => ?_))))
  exact wpAny_release ⟨σ, H3, I3, q3⟩

def tAsg (te : TE) (g : TG) : TS := fun D σ H => te σ H fun x H1 => g x σ H1 D.nx
theorem ps_asg {tg e : Expr} {te : TE} {g : TG} (he : PE X e te) (hg : PG X tg g) (hs : swapsWithSole [tg] e pos.line X.env = pure false := by rfl) (hw : swappedStores [tg] e X.env = pure none := by rfl)
    (h1 : (assignEach [tg] X.env).map (·.2) = [assign tg X.env] := by rfl) : PS X (.Assign [tg] e pos) (tAsg te g) := by
  refine ⟨?_⟩
  intro pins s σ H D I h
  refine wpAny_Assign_stores (thn (he pins s σ H _ I h) fun v s1 ⟨x, H1, I1, r1, q1⟩ => ?_) hs hw
  rw [h1]
  exact thn (hg pins s1 σ H1 x v _ I1 r1 q1) fun _ s2 q => q

theorem ps_set {i : Nat} {x : Str} {e : Expr} {te : TE} {pos' : Pos} (hN : X.N.Nodup) (hi : X.N[i]? = some x) (hx : Loc X.env.scope x) (he : PE X e te) (hs : swapsWith e (some (.Name x pos')) pos.line X.env = pure false := by rfl) (hf : X.fn x = true ∨ X.env.scope.names.lookup x = some .local := by first | exact .inl rfl | exact .inr rfl | assumption) :
    PS X (.Assign [.Name x pos'] e pos) (tAsg te (gName i)) := by
  refine ⟨?_⟩
  intro pins s σ H D I h
  refine wpAny_Assign_Name (thn (he pins s σ H _ I h) fun v s1 ⟨y, H1, I1, r1, q1⟩ => ?_) hs
  exact store_ok I1 hN hi hx r1 (fun s2 I2 => ⟨_, H1, I2, q1⟩) hf

end

section
variable {X : Cx} {pos : Pos}

def tWhile (c : TT) (tb : TS) : TS := fun D σ H => ∃ W : Nat → St → Hp → Prop, (∃ m, W m σ H) ∧ ∀ m σ H, W m σ H →
  c σ H fun b H1 => if b = true then ∃ N : St → Hp → Prop, (∀ σ' H', N σ' H' → ∃ m', m' < m ∧ W m' σ' H') ∧ tb { D with nx := N, ct := N, bk := D.nx } σ H1 else D.nx σ H1
theorem ps_while {c : Expr} {body : List Stmt} {tc : TT} {tb : TS} (hp : PassesOwn (model X.prog X.w) X.A X.env X.xe) (hc : PT X c tc) (hb : PSs X body tb) : PS X (.While c body [] pos) (tWhile tc tb) := by
  refine ⟨?_⟩
  intro pins s σ H D I h
  obtain ⟨W, ⟨m0, w0⟩, turn⟩ := h
  refine wpAny_While (codeAny_whileLoop (fun n s' => ∃ σ' H', Inv X pins σ' H' s' ∧ W n σ' H') ?_ m0 ⟨σ, H, I, w0⟩)
  rintro n s1 ⟨σ1, H1, I1, w1⟩
  refine wpAny_passesOwn hp (thn (hc pins s1 σ1 H1 _ I1 (turn n σ1 H1 w1)) fun b s2 ⟨H2, I2, q2⟩ => ?_)
  cases b with
  | true =>
    obtain ⟨N, hN, q2⟩ := q2
    rw [if_pos rfl]
    refine wpAny_passesOwn hp (thn (hb pins s2 σ1 H2 _ I2 q2) fun f s3 q3 => ?_)
    cases f with
    | next =>
      obtain ⟨σ3, H3, I3, n3⟩ := q3
      obtain ⟨m', hm, w3⟩ := hN σ3 H3 n3
      exact ⟨m', hm, σ3, H3, I3, w3⟩
    | cont =>
      obtain ⟨σ3, H3, I3, n3⟩ := q3
      obtain ⟨m', hm, w3⟩ := hN σ3 H3 n3
      exact ⟨m', hm, σ3, H3, I3, w3⟩
    | brk => exact q3
    | ret v => exact q3
  | false =>
    rw [if_neg Bool.false_ne_true]
    exact wpAny_execs_nil ⟨σ1, H2, I2, q2⟩
end

structure It where
  go : Nat → Hp → Prop
  yld : Nat → Hp → V → Hp → Prop
  stop : Nat → Hp → Prop

def FpOk (X : Cx) (pins : List (Addr × Obj)) (H : Hp) (b : Addr) : Prop :=
  H b = none ∧ b ≠ X.env.locals ∧ b ∉ X.fs ∧ (b ∈ X.ex ∨ X.s₀.heap.objs.size ≤ b) ∧ (∀ x c, X.env.cells.lookup x = some c → c ≠ b) ∧ ∀ p ∈ X.pn ++ pins, p.1 ≠ b
theorem Inv.fpOk {X : Cx} {pins : List (Addr × Obj)} {σ : St} {H H' : Hp} {s : Shared} {b : Addr} (I : Inv X pins σ H s) (hb : s.heap.objs.size ≤ b) (hn : H' b = none) : FpOk X pins H' b := by
  refine ⟨hn, Nat.ne_of_gt (Nat.lt_of_lt_of_le I.lt hb), I.nofs hb, .inr (Nat.le_trans I.sz hb), fun x c e z => ?_, fun p hp z => ?_⟩
  · obtain ⟨v, q⟩ := I.cell x c e
    exact absurd (Nat.lt_of_lt_of_le q.lt (by rw [z]; exact hb)) (Nat.lt_irrefl _)
  · exact absurd (Nat.lt_of_lt_of_le (Heap.lt_size (I.pin p hp).1) (by rw [z]; exact hb)) (Nat.lt_irrefl _)
structure Turn (P : Program) (w : World) (K : PySem.W.Frag) (tg : Expr) (J : It) (fp : List Addr) (it : Addr) (tn : Nat → Heap → Prop) : Prop where
  mem : it ∈ fp
  obj : ∀ i h, tn i h → ∀ b ∈ fp, ∃ o, h.get? b = some o ∧ ∀ v, o.data ≠ .cell v
  keep : ∀ i h h', tn i h → (∀ b ∈ fp, ∀ o, h.get? b = some o → h'.get? b = some o) → tn i h'
  item : ∀ (X : Cx), X.prog = P → X.w = w → X.K = K → X.calm = true → ∀ (i : Nat) (pins : List (Addr × Obj)) (s : Shared) (σ : St) (H : Hp) (E : Value → Shared → Prop), Inv X pins σ H s → (∀ b ∈ fp, FpOk X pins H b) → tn i s.heap → J.go i H →
    wpAny (model P w) X.A (pyNext (.ref it)) (fun r s1 => ∃ u, r = some u ∧
      wpAny (model P w) X.A (letOwnedTupleGo tg (.ref it) u) (fun _ s2 => ∃ x H', Inv X pins σ H' s2 ∧ RelV x u ∧ J.yld i H x H' ∧ tn (i + 1) s2.heap ∧ ∀ b ∈ fp, H' b = none) E s1) E s
  done : ∀ (X : Cx), X.prog = P → X.w = w → X.K = K → X.calm = true → ∀ (i : Nat) (pins : List (Addr × Obj)) (s : Shared) (σ : St) (H : Hp) (E : Value → Shared → Prop), Inv X pins σ H s → (∀ b ∈ fp, FpOk X pins H b) → tn i s.heap → J.stop i H →
    wpAny (model P w) X.A (pyNext (.ref it)) (fun r s1 => r = none ∧ Inv X pins σ H s1) E s
  self : ∀ (A : Around) (i : Nat) (s : Shared) (Q : Value → Shared → Prop) (E : Value → Shared → Prop), tn i s.heap → Q (.ref it) s → wpAny (model P w) A (pyIter (.ref it)) Q E s
abbrev TI := St → Hp → (It → Hp → Prop) → Prop

def PIE (X : Cx) (pins : List (Addr × Obj)) (σ : St) (tg : Expr) (R : It → Hp → Prop) (itv : Value) (s2 : Shared) : Prop :=
  ∃ (it : Addr) (fp : List Addr) (tn : Nat → Heap → Prop) (J : It) (H' : Hp), itv = .ref it ∧ Inv X pins σ H' s2 ∧ Turn X.prog X.w X.K tg J fp it tn ∧ tn 0 s2.heap ∧ (∀ b ∈ fp, FpOk X pins H' b) ∧ R J H'
def PI (X : Cx) (tg iter : Expr) (wi : TI) : Prop :=
  ∀ (pins : List (Addr × Obj)) (s : Shared) (σ : St) (H : Hp) (R : It → Hp → Prop), Inv X pins σ H s → wi σ H R →
    wpAny (model X.prog X.w) X.A (eval iter X.env) (fun v s1 => wpAny (model X.prog X.w) X.A (pyIter v) (PIE X pins σ tg R) X.xe s1) X.xe s

theorem go_of {M : Model} {A : Around} {E : Value → Shared → Prop} {s : Shared} {tg : Expr} {it : Addr} {u : Value} {o : Obj} {n : String} {vs : Array Value} {Q : Unit → Shared → Prop} (ho : s.heap.get? it = some o) (hc : o.cls = .type n) (hd : o.data = .fields vs)
    (hn : ["enumerate", "zip", "dict_itemiterator", "dict_reverseitemiterator", "odict_iterator", "itertools.zip_longest", "itertools.pairwise"].contains n = false) (hQ : Q () s) : wpAny M A (letOwnedTupleGo tg (.ref it) u) Q E s := by
  unfold letOwnedTupleGo
  cases tg <;> first
    | exact wpAny_pure hQ
    | (cases u <;> first
        | exact wpAny_pure hQ
        | (refine wpAny_bind (wpAny_load ho ?_)
           rw [hc, hd]
           show wpAny M A (if (["enumerate", "zip", "dict_itemiterator", "dict_reverseitemiterator", "odict_iterator", "itertools.zip_longest", "itertools.pairwise"].contains n && vs[0]? == some (rawInt _)) = true then _ else _) Q E s
           rw [if_neg (by intro h; rw [hn, Bool.false_and] at h; cases h)]
           exact wpAny_pure hQ))

def Itl (K : PySem.W.Frag) (a : Addr) : It :=
  ⟨fun i H => ∃ xs x, SqL K H a xs ∧ xs[i]? = some x, fun i H x H' => H' = H ∧ ∀ xs, SqL K H a xs → xs[i]? = some x, fun i H => ∃ xs, SqL K H a xs ∧ xs.length ≤ i⟩
def Itt (K : PySem.W.Frag) (a : Addr) : It :=
  ⟨fun i H => ∃ xs x, SqT K H a xs ∧ xs[i]? = some x, fun i H x H' => H' = H ∧ ∀ xs, SqT K H a xs → xs[i]? = some x, fun i H => ∃ xs, SqT K H a xs ∧ xs.length ≤ i⟩

def Itr (lo : Int) (n : Nat) : It := ⟨fun i _ => i < n, fun i H x H' => H' = H ∧ x = .int (lo + i), fun i _ => n ≤ i⟩
theorem turn_list {P : Program} {w : World} {K : PySem.W.Frag} {tg : Expr} (a it : Addr) : Turn P w K tg (Itl K a) [it] it (fun i h => h.IsListIter it a i) where
  mem := by simp
  obj := fun i h st b hb => by
    have e : b = it := by simpa using hb
    subst e
    obtain ⟨o, e, c, d⟩ := st
    exact ⟨o, e, fun v z => by rw [d] at z; cases z⟩
  keep := fun i h h' st k => st.at fun o e => k it (by simp) o e
  item := by
    intro X hP hw hK hc i pins s σ H E I hf st hg
    subst hP hw hK
    obtain ⟨xs, x, hq, hx⟩ := hg
    obtain ⟨its, rv, p, hz⟩ := I.list hq
    obtain ⟨u, hu, ru⟩ := rv.get hx
    obtain ⟨f0, f1, f2, f3, f4, f5⟩ := hf it (by simp)
    refine wpAny_pyNext_list_item st p.isList (x := u) (by simpa using hu) fun h' st' sb => ?_
    have I1 : Inv X pins σ H { s with heap := h' } := I.turned (t' := s.toks) (fun b o hb e => (sb.2 b hb).trans e) f0 f1 f3 f4 f5
    obtain ⟨o, e, c, d⟩ := id st'
    exact ⟨u, rfl, go_of (s := { s with heap := h' }) e c d (by decide) ⟨x, H, I1, ru, ⟨rfl, fun ys hy => by rw [I.list_inj hy hq]; exact hx⟩, st', fun b hb => (hf b hb).1⟩⟩
  done := by
    intro X hP hw hK hc i pins s σ H E I hf st hg
    subst hP hw hK
    obtain ⟨xs, hq, hx⟩ := hg
    obtain ⟨its, rv, p, hz⟩ := I.list hq
    obtain ⟨f0, f1, f2, f3, f4, f5⟩ := hf it (by simp)
    have hl := rv.length
    exact wpAny_pyNext_list_end (I.ok.hd hc) st p.isList (by simp; omega) fun h' eb => ⟨rfl, I.turned (t' := s.toks) (fun b o hb e => eb b o hb e) f0 f1 f3 f4 f5⟩
  self := fun _ _ _ _ _ st h => wpAny_pyIter_listiter st h
theorem turn_tuple {P : Program} {w : World} {K : PySem.W.Frag} {tg : Expr} (a it : Addr) : Turn P w K tg (Itt K a) [it] it (fun i h => h.IsTupleIter it a i) where
  mem := by simp
  obj := fun i h st b hb => by
    have e : b = it := by simpa using hb
    subst e
    obtain ⟨o, e, c, d⟩ := st
    exact ⟨o, e, fun v z => by rw [d] at z; cases z⟩
  keep := fun i h h' st k => st.at fun o e => k it (by simp) o e
  item := by
    intro X hP hw hK hc i pins s σ H E I hf st hg
    subst hP hw hK
    obtain ⟨xs, x, hq, hx⟩ := hg
    obtain ⟨its, rv, p, hz⟩ := I.tuple hq
    obtain ⟨u, hu, ru⟩ := rv.get hx
    obtain ⟨f0, f1, f2, f3, f4, f5⟩ := hf it (by simp)
    refine wpAny_pyNext_tuple_item st (show s.heap.IsTuple a its.toArray from p) (x := u) (by simpa using hu) fun h' st' sb => ?_
    have I1 : Inv X pins σ H { s with heap := h' } := I.turned (t' := s.toks) (fun b o hb e => (sb.2 b hb).trans e) f0 f1 f3 f4 f5
    obtain ⟨o, e, c, d⟩ := id st'
    exact ⟨u, rfl, go_of (s := { s with heap := h' }) e c d (by decide) ⟨x, H, I1, ru, ⟨rfl, fun ys hy => by rw [I.tuple_inj hy hq]; exact hx⟩, st', fun b hb => (hf b hb).1⟩⟩
  done := by
    intro X hP hw hK hc i pins s σ H E I hf st hg
    subst hP hw hK
    obtain ⟨xs, hq, hx⟩ := hg
    obtain ⟨its, rv, p, hz⟩ := I.tuple hq
    obtain ⟨f0, f1, f2, f3, f4, f5⟩ := hf it (by simp)
    have hl := rv.length
    exact wpAny_pyNext_tuple_end (I.ok.hd hc) st (show s.heap.IsTuple a its.toArray from p) (by simp; omega) fun h' eb => ⟨rfl, I.turned (t' := s.toks) (fun b o hb e => eb b o hb e) f0 f1 f3 f4 f5⟩
  self := fun _ _ _ _ _ st h => wpAny_pyIter_tupleiter st h
theorem turn_range {P : Program} {w : World} {K : PySem.W.Frag} {tg : Expr} (it : Addr) (lo : Int) (n : Nat) : Turn P w K tg (Itr lo n) [it] it (fun i h => IsRangeIter h it (lo + (i : Nat) * 1) ((n : Int) - (i : Nat)) 1) where
  mem := by simp
  obj := fun i h st b hb => by
    have e : b = it := by simpa using hb
    subst e
    exact ⟨_, st, fun v z => by
      have z' : Data.fields _ = Data.cell v := z
      cases z'⟩
  keep := fun i h h' st k => k it (by simp) _ st
  item := by
    intro X hP hw hK hc i pins s σ H E I hf st hg
    subst hP hw hK
    obtain ⟨f0, f1, f2, f3, f4, f5⟩ := hf it (by simp)
    have W := Walks.range (prog := X.prog) (w := X.w) (I.ok.hd hc) it lo 1 n
    refine W.item i s _ _ hg st fun v h' tk hv st' kk => ?_
    obtain ⟨t, rfl⟩ := hv
    have I1 : Inv X pins σ H { s with heap := h', toks := tk } := I.turned (fun b o hb e => kk b o (by simpa using hb) e) f0 f1 f3 f4 f5
    refine ⟨_, rfl, go_of (s := { s with heap := h', toks := tk }) (n := "range_iterator") st' rfl rfl (by decide) ⟨.int (lo + i), H, I1, ⟨t, ?_⟩, ⟨rfl, rfl⟩, st', fun b hb => (hf b hb).1⟩⟩
    rw [Int.mul_one]
  done := by
    intro X hP hw hK hc i pins s σ H E I hf st hg
    subst hP hw hK
    obtain ⟨f0, f1, f2, f3, f4, f5⟩ := hf it (by simp)
    exact wpAny_pyNext_range_end (I.ok.hd hc) st (by have : n ≤ i := hg; omega) fun h' eb => ⟨rfl, I.turned (t' := s.toks) (fun b o hb e => eb b o hb e) f0 f1 f3 f4 f5⟩
  self := fun _ _ _ _ _ st h => wpAny_pyIter_rangeiter st h
end L2

namespace L2
open PySem PySem.Spec PyProof.Rows
section
variable {X : Cx} {tg : Expr}
def iList (K : PySem.W.Frag) (tl : TE) : TI := fun σ H R => tl σ H fun x H1 => ∃ a, x = .ref a ∧ (∃ xs, SqL K H1 a xs) ∧ R (Itl K a) H1
def iTup (K : PySem.W.Frag) (tl : TE) : TI := fun σ H R => tl σ H fun x H1 => ∃ a, x = .ref a ∧ (∃ xs, SqT K H1 a xs) ∧ R (Itt K a) H1
theorem pi_list {l : Expr} {tl : TE} (hl : PE X l tl) : PI X tg l (iList X.K tl) := by
  intro pins s σ H R I h
  refine thn (hl pins s σ H _ I h) fun v s1 ⟨x, H1, I1, r1, q1⟩ => ?_
  obtain ⟨a, e, ⟨xs, hq⟩, q⟩ := q1
  subst e
  cases r1
  obtain ⟨its, rv, p, hz⟩ := I1.list hq
  refine wpAny_pyIter_list p.isList ?_
  refine ⟨s1.heap.objs.size, [s1.heap.objs.size], _, _, H1, rfl, I1.kept (t' := s1.toks) fun b o e => Heap.get?_push_of_some _ e, turn_list a _, ⟨_, Heap.get?_push_size _ rfl, rfl, rfl⟩, fun b hb => ?_, q⟩
  have e : b = s1.heap.objs.size := by simpa using hb
  subst e
  exact I1.fpOk (Nat.le_refl _) (I1.hok.fresh (Nat.le_refl _))
theorem pi_tup {l : Expr} {tl : TE} (hl : PE X l tl) : PI X tg l (iTup X.K tl) := by
  intro pins s σ H R I h
  refine thn (hl pins s σ H _ I h) fun v s1 ⟨x, H1, I1, r1, q1⟩ => ?_
  obtain ⟨a, e, ⟨xs, hq⟩, q⟩ := q1
  subst e
  cases r1
  obtain ⟨its, rv, p, hz⟩ := I1.tuple hq
  refine wpAny_pyIter_tuple (show s1.heap.IsTuple a its.toArray from p) ?_
  refine ⟨s1.heap.objs.size, [s1.heap.objs.size], _, _, H1, rfl, I1.kept (t' := s1.toks) fun b o e => Heap.get?_push_of_some _ e, turn_tuple a _, ⟨_, Heap.get?_push_size _ rfl, rfl, rfl⟩, fun b hb => ?_, q⟩
  have e : b = s1.heap.objs.size := by simpa using hb
  subst e
  exact I1.fpOk (Nat.le_refl _) (I1.hok.fresh (Nat.le_refl _))

theorem range_it {pins : List (Addr × Obj)} {σ : St} {H : Hp} {s : Shared} {R : It → Hp → Prop} {E : Value → Shared → Prop} {lo hi : Int} {t u v : Tok} {tk : Nat} (I : Inv X pins σ H s) (h1 : -(2 ^ 62) ≤ lo) (h2 : lo < 2 ^ 62) (h3 : -(2 ^ 62) ≤ hi) (h4 : hi < 2 ^ 62)
    (q : R (Itr lo (hi - lo).toNat) H) : wpAny (model X.prog X.w) X.A (pyIter (.ref s.heap.objs.size)) (PIE X pins σ tg R) E { s with heap := s.heap.push { cls := .type "range", data := .fields #[.int lo t, .int hi u, .int 1 v] }, toks := tk } := by
  refine wpAny_pyIter_range (IsRange.new ..) (small_one h1 h2 h3 h4) ?_
  have I1 : Inv X pins σ H { s with heap := s.heap.push { cls := .type "range", data := .fields #[.int lo t, .int hi u, .int 1 v] }, toks := tk } := I.kept fun b o e => Heap.get?_push_of_some _ e
  refine ⟨(s.heap.push { cls := .type "range", data := .fields #[.int lo t, .int hi u, .int 1 v] }).objs.size, [(s.heap.push { cls := .type "range", data := .fields #[.int lo t, .int hi u, .int 1 v] }).objs.size], _, _, H, rfl,
    I1.kept (t' := tk) fun b o e => Heap.get?_push_of_some _ e, turn_range _ lo (hi - lo).toNat, ?_, fun b hb => ?_, q⟩
  · have e1 : lo + ((0 : Nat) : Int) * 1 = lo := by simp
    have e2 : (((hi - lo).toNat : Nat) : Int) - ((0 : Nat) : Int) = Builtin.Range.rangeSize lo hi 1 := by rw [rangeSize_one]; split <;> omega
    show IsRangeIter _ _ (lo + ((0 : Nat) : Int) * 1) ((((hi - lo).toNat : Nat) : Int) - ((0 : Nat) : Int)) 1
    rw [e1, e2]
    exact Heap.get?_push_size _ rfl
  · have e : b = (s.heap.push { cls := .type "range", data := .fields #[.int lo t, .int hi u, .int 1 v] }).objs.size := by simpa using hb
    subst e
    exact I1.fpOk (Nat.le_refl _) (I1.hok.fresh (Nat.le_refl _))
def iRng1 (ta : TA) : TI := fun σ H R => ta σ H fun vs H1 => ∃ j : Int, vs = [.int j] ∧ -(2 ^ 62) ≤ j ∧ j < 2 ^ 62 ∧ R (Itr 0 j.toNat) H1
theorem pi_range1 {a : Expr} {ta : TA} {p pos : Pos} (hg : Gl X "range") (hm : X.mg "range" = none) (ha : PA X [a] ta) (hs : starEach [a] X.env = [(false, eval a X.env)] := by rfl) : PI X tg (.Call (.Name "range" p) [a] [] pos) (iRng1 ta) := by
  intro pins s σ H R I h
  refine Call_ (ld_blt I hg hm boot_range (PyProof.Rows.callWith_type1 (thn (ha pos pins s σ H _ I h) fun us s1 ⟨vs, H1, I1, r1, q1⟩ => ?_) hs rfl))
  obtain ⟨j, e, q1, q2, q⟩ := q1
  subst e
  cases r1 with
  | cons r rr =>
    cases rr
    obtain ⟨t, rfl⟩ := r
    exact call_range_1 (range_it I1 (by omega) (by omega) q1 q2 (by simpa using q))
def tFor (wi : TI) (g : TG) (tb : TS) : TS := fun D σ H => wi σ H fun J H1 => ∃ W : Nat → Nat → St → Hp → Prop, (∃ m, W 0 m σ H1) ∧ ∀ i m σ H, W i m σ H →
  (J.stop i H ∧ D.nx σ H) ∨ (J.go i H ∧ ∃ N : St → Hp → Prop, (∀ σ' H', N σ' H' → ∃ m', m' < m ∧ W (i + 1) m' σ' H') ∧ ∀ x H', J.yld i H x H' → g x σ H' fun σ2 H2 => tb { D with nx := N, ct := N, bk := D.nx } σ2 H2)

def pinsAt (fp : List Addr) (h : Heap) : List (Addr × Obj) := fp.filterMap fun b => (h.get? b).map fun o => (b, o)
theorem mem_pinsAt {fp : List Addr} {h : Heap} {b : Addr} {o : Obj} (hb : b ∈ fp) (e : h.get? b = some o) : (b, o) ∈ pinsAt fp h := List.mem_filterMap.mpr ⟨b, hb, by rw [e]; rfl⟩
theorem of_pinsAt {fp : List Addr} {h : Heap} {p : Addr × Obj} (hp : p ∈ pinsAt fp h) : p.1 ∈ fp ∧ h.get? p.1 = some p.2 := by
  obtain ⟨b, hb, e⟩ := List.mem_filterMap.mp hp
  cases q : h.get? b with
  | none => rw [q] at e; cases e
  | some o =>
    rw [q] at e
    have e' : (b, o) = p := Option.some.inj e
    subst e'
    exact ⟨hb, q⟩
theorem Inv.pinned {pins : List (Addr × Obj)} {σ : St} {H : Hp} {s : Shared} {fp : List Addr} (I : Inv X pins σ H s) (hf : ∀ b ∈ fp, FpOk X pins H b) (ho : ∀ b ∈ fp, ∃ o, s.heap.get? b = some o ∧ ∀ v, o.data ≠ .cell v) : Inv X (pins ++ pinsAt fp s.heap) σ H s :=
  I.pins_of fun p hp => (List.mem_append.mp hp).elim (fun z => I.pin p (List.mem_append_right _ z)) fun z => by
    obtain ⟨hb, e⟩ := of_pinsAt z
    obtain ⟨f0, f1, f2, _⟩ := hf p.1 hb
    obtain ⟨o, e', d⟩ := ho p.1 hb
    rw [e] at e'; cases e'
    exact ⟨e, f0, f1, f2, d⟩
theorem Inv.unpinned {pins pl : List (Addr × Obj)} {σ : St} {H : Hp} {s : Shared} (I : Inv X (pins ++ pl) σ H s) : Inv X pins σ H s := I.pins_of fun p hp => I.pin p (List.mem_append_right _ (List.mem_append_left _ hp))
theorem ps_for {iter : Expr} {body : List Stmt} {wi : TI} {g : TG} {tb : TS} {pos : Pos} (hp : PassesOwn (model X.prog X.w) X.A X.env X.xe) (hc : X.calm = true) (hi : PI X tg iter wi) (hg : PG X tg g) (hb : PSs X body tb)
    (hs : ∀ x, foldedSetIterable iter X.env x = pure x := by intro _; rfl) : PS X (.For tg iter body [] pos) (tFor wi g tb) := by
  refine ⟨?_⟩
  intro pins s σ H D I h
  refine wpAny_For (thn (hi pins s σ H _ I h) fun v s1 h1 => thn h1 fun itv s2 h2 => ?_) hs
  obtain ⟨it, fp, tn, J, H2, e, I2, T, st2, f2, W, ⟨m0, w0⟩, turn⟩ := h2
  subst e
  have stat : ∀ {H' : Hp}, (∀ b ∈ fp, H' b = none) → ∀ b ∈ fp, FpOk X pins H' b := fun hn b hb => ⟨hn b hb, (f2 b hb).2⟩
  refine codeAny_forLoop_any (fun n s' => ∃ i σ' H', Inv X pins σ' H' s' ∧ tn i s'.heap ∧ (∀ b ∈ fp, H' b = none) ∧ W i n σ' H') ?_ m0 ⟨0, σ, H2, I2, st2, fun b hb => (f2 b hb).1, w0⟩
  rintro n s3 ⟨i, σ3, H3, I3, st3, fr3, w3⟩
  rcases turn i n σ3 H3 w3 with ⟨stop, qn⟩ | ⟨go, N, hN, step⟩
  · refine wpAny_passesOwn hp (thn (T.done X rfl rfl rfl hc i pins s3 σ3 H3 X.xe I3 (stat fr3) st3 stop) fun r s4 ⟨hr, I4⟩ => ?_)
    subst hr
    exact wpAny_execs_nil ⟨σ3, H3, I4, qn⟩
  · refine wpAny_passesOwn hp (thn (T.item X rfl rfl rfl hc i pins s3 σ3 H3 X.xe I3 (stat fr3) st3 go) fun r s4 ⟨u, hr, h4⟩ => ?_)
    subst hr
    refine wpAny_passesOwn hp (thn h4 fun _ s5 ⟨x, H5, I5, r5, y5, st5, fr5⟩ => ?_)
    have I5' := I5.pinned (stat fr5) (T.obj _ _ st5)
    refine wpAny_passesOwn hp (thn (hg _ s5 σ3 H5 x u _ I5' r5 (step x H5 y5)) fun _ s6 ⟨σ6, H6, I6, q6⟩ => ?_)
    refine wpAny_passesOwn hp (thn (hb _ s6 σ6 H6 _ I6 q6) fun f s7 q7 => ?_)
    have again : ∀ {σ7 : St} {H7 : Hp}, Inv X (pins ++ pinsAt fp s5.heap) σ7 H7 s7 → N σ7 H7 → ∃ m, m < n ∧ ∃ i σ' H', Inv X pins σ' H' s7 ∧ tn i s7.heap ∧ (∀ b ∈ fp, H' b = none) ∧ W i m σ' H' := fun {σ7 H7} I7 n7 => by
      obtain ⟨m', hm, w7⟩ := hN σ7 H7 n7
      refine ⟨m', hm, i + 1, σ7, H7, I7.unpinned, T.keep _ _ _ st5 fun b hb o e => (I7.pin (b, o) (List.mem_append_right _ (List.mem_append_right _ (mem_pinsAt hb e)))).1, fun b hb => ?_, w7⟩
      obtain ⟨o, e, d⟩ := T.obj _ _ st5 b hb
      exact (I7.pin (b, o) (List.mem_append_right _ (List.mem_append_right _ (mem_pinsAt hb e)))).2.1
    cases f with
    | next => obtain ⟨σ7, H7, I7, n7⟩ := q7; exact again I7 n7
    | cont => obtain ⟨σ7, H7, I7, n7⟩ := q7; exact again I7 n7
    | brk => obtain ⟨σ7, H7, I7, q7⟩ := q7; exact ⟨σ7, H7, I7.unpinned, q7⟩
    | ret v => obtain ⟨x7, σ7, H7, I7, r7, q7⟩ := q7; exact ⟨x7, σ7, H7, I7.unpinned, r7, q7⟩
end

theorem while_by {c : TT} {tb : TS} {D : Ends} {σ : St} {H : Hp} (Pv : St → Hp → Prop) (μ : St → Hp → Nat) (h0 : Pv σ H)
    (hs : ∀ σ H, Pv σ H → c σ H fun b H1 => if b = true then tb { D with nx := fun σ' H' => Pv σ' H' ∧ μ σ' H' < μ σ H, ct := fun σ' H' => Pv σ' H' ∧ μ σ' H' < μ σ H, bk := D.nx } σ H1 else D.nx σ H1)
    (mono : ∀ σ H Q Q', (∀ b H1, Q b H1 → Q' b H1) → c σ H Q → c σ H Q') : tWhile c tb D σ H := by
  refine ⟨fun m σ H => m = μ σ H ∧ Pv σ H, ⟨_, rfl, h0⟩, ?_⟩
  rintro m σ H ⟨rfl, p⟩
  refine mono σ H _ _ (fun b H1 q => ?_) (hs σ H p)
  cases b with
  | true => exact ⟨_, fun σ' H' ⟨p', l⟩ => ⟨_, l, rfl, p'⟩, q⟩
  | false => exact q
end L2

namespace L2
open PySem PySem.Spec PyProof.Rows

abbrev R2 := V → V → Hp → VK → Prop

def OpR (X : Cx) (f : Value → Value → Sem Value) (r : R2) : Prop :=
  ∀ (pins : List (Addr × Obj)) (s : Shared) (σ : St) (H : Hp) (x y : V) (v u : Value) (Q : VK), Inv X pins σ H s → RelV x v → RelV y u → r x y H Q →
    wpAny (model X.prog X.w) X.A (f v u) (EP X pins σ Q) X.xe s

def UnR (X : Cx) (f : Value → Sem Value) (r : V → Hp → VK → Prop) : Prop :=
  ∀ (pins : List (Addr × Obj)) (s : Shared) (σ : St) (H : Hp) (x : V) (v : Value) (Q : VK), Inv X pins σ H s → RelV x v → r x H Q →
    wpAny (model X.prog X.w) X.A (f v) (EP X pins σ Q) X.xe s

def CallR (X : Cx) (f : Value) (r : List V → Hp → VK → Prop) : Prop :=
  ∀ (pins : List (Addr × Obj)) (s : Shared) (σ : St) (H : Hp) (xs : List V) (us : List Value) (Q : VK), Inv X pins σ H s → Vals xs us → r xs H Q →
    wpAny (model X.prog X.w) X.A (call f us) (EP X pins σ Q) X.xe s

def tOp (r : R2) (ta tb : TE) : TE := fun σ H Q => ta σ H fun x H1 => tb σ H1 fun y H2 => r x y H2 Q
def tUn (r : V → Hp → VK → Prop) (ta : TE) : TE := fun σ H Q => ta σ H fun x H1 => r x H1 Q

def rI (C : Int → Int → Prop) (g : Int → Int → V) : R2 := fun x y H Q => ∃ i j, x = .int i ∧ y = .int j ∧ C i j ∧ Q (g i j) H
def rI0 (g : Int → Int → V) : R2 := fun x y H Q => ∃ i j, x = .int i ∧ y = .int j ∧ Q (g i j) H
def rU (g : Int → V) : V → Hp → VK → Prop := fun x H Q => ∃ i, x = .int i ∧ Q (g i) H

section
variable {X : Cx} {a b c : Expr} {ta tb tc : TE} {pos : Pos}

theorem binT (ha : PE X a ta) (hb : PE X b tb) {pins : List (Addr × Obj)} {s : Shared} {σ : St} {H : Hp} {R : V → V → Hp → Prop} (I : Inv X pins σ H s)
    (h : ta σ H fun x H1 => tb σ H1 fun y H2 => R x y H2) {Q : Value → Shared → Prop} {f : Value → Value → Sem Value}
    (hf : ∀ v u s2 x y H2, Inv X pins σ H2 s2 → RelV x v → RelV y u → R x y H2 → wpAny (model X.prog X.w) X.A (f v u) Q X.xe s2) :
    wpAny (model X.prog X.w) X.A (eval a X.env) (fun v s₁ => wpAny (model X.prog X.w) X.A (eval b X.env) (fun u s₂ => wpAny (model X.prog X.w) X.A (f v u) Q X.xe s₂) X.xe s₁) X.xe s := by
  refine thn (ha pins s σ H _ I h) fun v s1 ⟨x, H1, I1, r1, q1⟩ => ?_
  refine thn (hb pins s1 σ H1 _ I1 q1) fun u s2 ⟨y, H2, I2, r2, q2⟩ => ?_
  exact hf v u s2 x y H2 I2 r1 r2 q2

theorem pe_op {op : Operator} {r : R2} (ho : OpR X (binaryOp op) r) (ha : PE X a ta) (hb : PE X b tb) : PE X (.BinOp a op b pos) (tOp r ta tb) := by
  refine ⟨?_⟩
  intro pins s σ H Q I h
  exact wpAny_BinOp (binT ha hb I h fun v u s2 x y H2 I2 rx ry q => ho pins s2 σ H2 x y v u Q I2 rx ry q)
theorem pe_un {op : UnaryOp} {r : V → Hp → VK → Prop} (ho : UnR X (unaryOp op) r) (ha : PE X a ta) : PE X (.UnaryOp op a pos) (tUn r ta) := by
  refine ⟨?_⟩
  intro pins s σ H Q I h
  exact UnaryOp_ (thn (ha pins s σ H _ I h) fun v s1 ⟨x, H1, I1, r1, q1⟩ => ho pins s1 σ H1 x v Q I1 r1 q1)

theorem opI {f : Value → Value → Sem Value} {C : Int → Int → Prop} {g : Int → Int → Int}
    (rule : ∀ (i j : Int) (t u : Tok) (s : Shared) (Q : Value → Shared → Prop) (E : Value → Shared → Prop), C i j → Q (.int (g i j) s.toks) { s with toks := s.toks + 1 } → wpAny (model X.prog X.w) X.A (f (.int i t) (.int j u)) Q E s) :
    OpR X f (rI C fun i j => .int (g i j)) := by
  intro pins s σ H x y v u Q I rx ry h
  obtain ⟨i, j, rfl, rfl, hc, q⟩ := h
  obtain ⟨t, rfl⟩ := rx
  obtain ⟨t', rfl⟩ := ry
  exact rule i j t t' s _ _ hc ⟨.int (g i j), H, I.tok _, ⟨_, rfl⟩, q⟩
theorem opI0 {f : Value → Value → Sem Value} {g : Int → Int → Int}
    (rule : ∀ (i j : Int) (t u : Tok) (s : Shared) (Q : Value → Shared → Prop) (E : Value → Shared → Prop), Q (.int (g i j) s.toks) { s with toks := s.toks + 1 } → wpAny (model X.prog X.w) X.A (f (.int i t) (.int j u)) Q E s) :
    OpR X f (rI0 fun i j => .int (g i j)) := by
  intro pins s σ H x y v u Q I rx ry h
  obtain ⟨i, j, rfl, rfl, q⟩ := h
  obtain ⟨t, rfl⟩ := rx
  obtain ⟨t', rfl⟩ := ry
  exact rule i j t t' s _ _ ⟨.int (g i j), H, I.tok _, ⟨_, rfl⟩, q⟩
theorem opB0 {f : Value → Value → Sem Value} {g : Int → Int → Bool}
    (rule : ∀ (i j : Int) (t u : Tok) (s : Shared) (Q : Value → Shared → Prop) (E : Value → Shared → Prop), Q (.bool (g i j)) s → wpAny (model X.prog X.w) X.A (f (.int i t) (.int j u)) Q E s) :
    OpR X f (rI0 fun i j => .bl (g i j)) := by
  intro pins s σ H x y v u Q I rx ry h
  obtain ⟨i, j, rfl, rfl, q⟩ := h
  obtain ⟨t, rfl⟩ := rx
  obtain ⟨t', rfl⟩ := ry
  exact rule i j t t' s _ _ ⟨.bl (g i j), H, I, rfl, q⟩

def CDiv (i j : Int) : Prop := 0 < j ∧ j < 1073741824
def CPow (i j : Int) : Prop := 0 ≤ j ∧ j ≤ 1000000 ∧ i.natAbs < 2 ^ 64
def CMul (i j : Int) : Prop := (-(2 ^ 64) < i ∧ i < 2 ^ 64) ∨ (-(2 ^ 64) < j ∧ j < 2 ^ 64)
theorem CMul.ok {i j : Int} (h : CMul i j) : IntMulOk i j := by
  rcases h with ⟨h1, h2⟩ | ⟨h1, h2⟩
  · exact .of_left (intBits_le_64 h1 h2)
  · exact .of_right (intBits_le_64 h1 h2)
theorem op_add : OpR X (binaryOp .Add) (rI0 fun i j => .int (i + j)) := opI0 fun _ _ _ _ _ _ _ q => add_int q
theorem op_sub : OpR X (binaryOp .Sub) (rI0 fun i j => .int (i - j)) := opI0 fun _ _ _ _ _ _ _ q => sub_int q
theorem op_mul : OpR X (binaryOp .Mult) (rI CMul fun i j => .int (i * j)) := opI fun _ _ _ _ _ _ _ hc q => mul_int q hc.ok

theorem op_fdiv : OpR X (binaryOp .FloorDiv) (rI CDiv fun i j => .int (i / j)) := opI fun i j _ _ _ _ _ hc q => by
  have h1 : (0 : Int) < j := hc.1
  have h2 : j < 1073741824 := hc.2
  exact floordiv_int (by omega) (by rw [Int.fdiv_eq_ediv_of_nonneg i (by omega)]; exact q) (.inl (PyProof.noPylong_small (by omega)))
theorem op_mod : OpR X (binaryOp .Mod) (rI (fun _ j => 0 < j) fun i j => .int (i % j)) := opI fun i j _ _ _ _ _ hc q => by
  have h1 : (0 : Int) < j := hc
  exact mod_int' (by omega) (by rw [Int.fmod_eq_emod_of_nonneg i (by omega)]; exact q)
theorem op_pow : OpR X (binaryOp .Pow) (rI CPow fun i j => .int (i ^ j.toNat)) := opI fun _ _ _ _ _ _ _ hc q => pow_int_small hc.1 hc.2.1 hc.2.2 q
theorem unI {f : Value → Sem Value} {g : Int → Int}
    (rule : ∀ (i : Int) (t : Tok) (s : Shared) (Q : Value → Shared → Prop) (E : Value → Shared → Prop), Q (.int (g i) s.toks) { s with toks := s.toks + 1 } → wpAny (model X.prog X.w) X.A (f (.int i t)) Q E s) :
    UnR X f (rU fun i => .int (g i)) := by
  intro pins s σ H x v Q I rx h
  obtain ⟨i, rfl, q⟩ := h
  obtain ⟨t, rfl⟩ := rx
  exact rule i t s _ _ ⟨.int (g i), H, I.tok _, ⟨_, rfl⟩, q⟩
theorem un_neg : UnR X (unaryOp .USub) (rU fun i => .int (-i)) := unI fun _ _ _ _ _ q => neg_int q
end

def scal : V → V → Bool
  | .non, .non => true | .non, .int _ => true | .int _, .non => true | .non, .bl _ => true | .bl _, .non => true | .non, .str _ => true | .str _, .non => true
  | .int _, .int _ => true | .bl _, .bl _ => true | .str _, .str _ => true | .byt _, .byt _ => true
  | .int _, .str _ => true | .str _, .int _ => true | .bl _, .str _ => true | .str _, .bl _ => true
  | _, _ => false
def rEq : R2 := fun x y H Q => scal x y = true ∧ Q (.bl (decide (x = y))) H
def rNe : R2 := fun x y H Q => scal x y = true ∧ Q (.bl (!decide (x = y))) H

theorem dec_int {i j : Int} : decide (V.int i = V.int j) = (i == j) := by
  rw [Bool.eq_iff_iff]
  simp
theorem dec_bl {i j : Bool} : decide (V.bl i = V.bl j) = (i == j) := by
  rw [Bool.eq_iff_iff]
  simp
theorem dec_str {i j : Str} : decide (V.str i = V.str j) = (i == j) := by
  rw [Bool.eq_iff_iff]
  simp
theorem dec_byt {i j : Array UInt8} : decide (V.byt i = V.byt j) = (i.toList == j.toList) := by
  rw [Bool.eq_iff_iff]
  cases i
  cases j
  simp

section
variable {X : Cx} {a b c : Expr} {ta tb tc : TE} {pos : Pos}
theorem fin_bl {pins : List (Addr × Obj)} {σ : St} {H : Hp} {s : Shared} {Q : VK} {k k' : Bool} (I : Inv X pins σ H s) (q : Q (.bl k) H) (e : k = k') : EP X pins σ Q (.bool k') s := by
  subst e
  exact ⟨.bl k, H, I, rfl, q⟩
theorem op_eq : OpR X (compareOp .Eq) rEq := by
  intro pins s σ H x y v u Q I rx ry h
  obtain ⟨hs, q⟩ := h
  cases x with
  | non =>
    cases rx
    cases y with
    | non => cases ry; exact PySem.EqNone.eq_none_none (fin_bl I q (by simp))
    | bl j => cases ry; exact PySem.EqNone.eq_none_bool (fin_bl I q (by simp))
    | int j => obtain ⟨t', rfl⟩ := ry; exact PySem.EqNone.eq_none_int (fin_bl I q (by simp))
    | str j => obtain ⟨t', rfl⟩ := ry; exact PySem.EqNone.eq_none_str (fin_bl I q (by simp))
    | _ => exact absurd (show false = true from hs) Bool.false_ne_true
  | bl i =>
    cases rx
    cases y with
    | non => cases ry; exact PySem.EqNone.eq_bool_none (fin_bl I q (by simp))
    | bl j => cases ry; exact eq_bool (fin_bl I q dec_bl)
    | str j => obtain ⟨t', rfl⟩ := ry; exact PySem.EqMixed.eq_bool_str (fin_bl I q (by simp))
    | _ => exact absurd (show false = true from hs) Bool.false_ne_true
  | int i =>
    obtain ⟨t, rfl⟩ := rx
    cases y with
    | non => cases ry; exact PySem.EqNone.eq_int_none (fin_bl I q (by simp))
    | int j => obtain ⟨t', rfl⟩ := ry; exact eq_int (fin_bl I q dec_int)
    | str j => obtain ⟨t', rfl⟩ := ry; exact PySem.EqMixed.eq_int_str (fin_bl I q (by simp))
    | _ => exact absurd (show false = true from hs) Bool.false_ne_true
  | str i =>
    obtain ⟨t, rfl⟩ := rx
    cases y with
    | non => cases ry; exact PySem.EqNone.eq_str_none (fin_bl I q (by simp))
    | bl j => cases ry; exact PySem.EqMixed.eq_str_bool (fin_bl I q (by simp))
    | int j => obtain ⟨t', rfl⟩ := ry; exact PySem.EqMixed.eq_str_int (fin_bl I q (by simp))
    | str j => obtain ⟨t', rfl⟩ := ry; exact eq_str (fin_bl I q dec_str)
    | _ => exact absurd (show false = true from hs) Bool.false_ne_true
  | byt i =>
    obtain ⟨t, rfl⟩ := rx
    cases y with
    | byt j => obtain ⟨t', rfl⟩ := ry; exact PySem.W.eq_bytes (fin_bl I q dec_byt)
    | _ => exact absurd (show false = true from hs) Bool.false_ne_true
  | _ => cases y <;> exact absurd (show false = true from hs) Bool.false_ne_true
theorem op_ne : OpR X (compareOp .NotEq) rNe := by
  intro pins s σ H x y v u Q I rx ry h
  obtain ⟨hs, q⟩ := h
  cases x with
  | non =>
    cases rx
    cases y with
    | non => cases ry; exact PySem.EqNone.ne_none_none (fin_bl I q (by simp))
    | bl j => cases ry; exact PySem.EqNone.ne_none_bool (fin_bl I q (by simp))
    | int j => obtain ⟨t', rfl⟩ := ry; exact PySem.EqNone.ne_none_int (fin_bl I q (by simp))
    | str j => obtain ⟨t', rfl⟩ := ry; exact PySem.EqNone.ne_none_str (fin_bl I q (by simp))
    | _ => exact absurd (show false = true from hs) Bool.false_ne_true
  | bl i =>
    cases rx
    cases y with
    | non => cases ry; exact PySem.EqNone.ne_bool_none (fin_bl I q (by simp))
    | bl j => cases ry; exact ne_bool (fin_bl I q (congrArg not dec_bl))
    | str j => obtain ⟨t', rfl⟩ := ry; exact PySem.EqMixed.ne_bool_str (fin_bl I q (by simp))
    | _ => exact absurd (show false = true from hs) Bool.false_ne_true
  | int i =>
    obtain ⟨t, rfl⟩ := rx
    cases y with
    | non => cases ry; exact PySem.EqNone.ne_int_none (fin_bl I q (by simp))
    | int j => obtain ⟨t', rfl⟩ := ry; exact ne_int (fin_bl I q (congrArg not dec_int))
    | str j => obtain ⟨t', rfl⟩ := ry; exact PySem.EqMixed.ne_int_str (fin_bl I q (by simp))
    | _ => exact absurd (show false = true from hs) Bool.false_ne_true
  | str i =>
    obtain ⟨t, rfl⟩ := rx
    cases y with
    | non => cases ry; exact PySem.EqNone.ne_str_none (fin_bl I q (by simp))
    | bl j => cases ry; exact PySem.EqMixed.ne_str_bool (fin_bl I q (by simp))
    | int j => obtain ⟨t', rfl⟩ := ry; exact PySem.EqMixed.ne_str_int (fin_bl I q (by simp))
    | str j => obtain ⟨t', rfl⟩ := ry; exact ne_str (fin_bl I q (congrArg not dec_str))
    | _ => exact absurd (show false = true from hs) Bool.false_ne_true
  | byt i =>
    obtain ⟨t, rfl⟩ := rx
    cases y with
    | byt j => obtain ⟨t', rfl⟩ := ry; exact PySem.W.ne_bytes (fin_bl I q (congrArg not dec_byt))
    | _ => exact absurd (show false = true from hs) Bool.false_ne_true
  | _ => cases y <;> exact absurd (show false = true from hs) Bool.false_ne_true

theorem op_lt : OpR X (compareOp .Lt) (rI0 fun i j => .bl (decide (i < j))) := opB0 fun _ _ _ _ _ _ _ q => lt_int q
theorem op_le : OpR X (compareOp .LtE) (rI0 fun i j => .bl (decide (i ≤ j))) := opB0 fun _ _ _ _ _ _ _ q => le_int q
theorem op_gt : OpR X (compareOp .Gt) (rI0 fun i j => .bl (decide (j < i))) := opB0 fun _ _ _ _ _ _ _ q => gt_int q
theorem op_ge : OpR X (compareOp .GtE) (rI0 fun i j => .bl (decide (j ≤ i))) := opB0 fun _ _ _ _ _ _ _ q => ge_int q
theorem nomark (b : Expr) {op : CmpOp} (h : op ≠ .In := by decide) (h2 : op ≠ .NotIn := by decide) : behindInMarks op b = false := by
  have e1 : (op == CmpOp.In) = false := by cases op <;> first | rfl | exact absurd rfl h
  have e2 : (op == CmpOp.NotIn) = false := by cases op <;> first | rfl | exact absurd rfl h2
  cases b <;> simp [behindInMarks, e1, e2]

theorem pe_cmpR {op : CmpOp} {r : R2} (ho : OpR X (compareOp op) r) (ha : PE X a ta) (hb : PE X b tb) (hm : behindInMarks op b = false) : PE X (.Compare a [op] [b] pos) (tOp r ta tb) := by
  refine ⟨?_⟩
  intro pins s σ H Q I h
  exact wpAny_Compare1 (binT ha hb I h fun v u s2 x y H2 I2 rx ry q => ho pins s2 σ H2 x y v u Q I2 rx ry q) hm

def tTest (t : TE) : TT := fun σ H Q => t σ H fun x H' => ∃ k, x = .bl k ∧ Q k H'
theorem pt_cmpR {op : CmpOp} {r : R2} (ho : OpR X (compareOp op) r) (ha : PE X a ta) (hb : PE X b tb) (hm : behindInMarks op b = false) : PT X (.Compare a [op] [b] pos) (tTest (tOp r ta tb)) := by
  refine ⟨?_⟩
  intro pins s σ H Q I h
  refine wpAny_isTrue_Compare1 (thn (ha pins s σ H _ I h) fun v s1 ⟨x, H1, I1, r1, q1⟩ => thn (hb pins s1 σ H1 _ I1 q1) fun u s2 ⟨y, H2, I2, r2, q2⟩ =>
    thn (ho pins s2 σ H2 x y v u _ I2 r1 r2 q2) fun c s3 ⟨z, H3, I3, r3, k, e, q3⟩ => ?_) hm
  subst e
  cases r3
  exact wpAny_truthy_bool ⟨H3, I3, q3⟩

def tChain (r r' : R2) (ta tb tc : TE) : TE := fun σ H Q => ta σ H fun x H1 => tb σ H1 fun y H2 => r x y H2 fun z H3 => ∃ k, z = .bl k ∧
  (if k = true then tc σ H3 fun w' H4 => r' y w' H4 Q else Q (.bl false) H3)
theorem pe_chain {op op' : CmpOp} {r r' : R2} (ho : OpR X (compareOp op) r) (ho' : OpR X (compareOp op') r') (ha : PE X a ta) (hb : PE X b tb) (hc : PE X c tc)
    (hm : lastMarks [op, op'] [b, c] = false := by with_unfolding_all rfl) : PE X (.Compare a [op, op'] [b, c] pos) (tChain r r' ta tb tc) := by
  refine ⟨?_⟩
  intro pins s σ H Q I h
  refine Compare_chain (thn (ha pins s σ H _ I h) fun v s1 ⟨x, H1, I1, r1, q1⟩ => chain_link (thn (hb pins s1 σ H1 _ I1 q1) fun u s2 ⟨y, H2, I2, r2, q2⟩ =>
    thn (ho pins s2 σ H2 x y v u _ I2 r1 r2 q2) fun d s3 ⟨z, H3, I3, r3, k, e, q3⟩ => ?_)) hm
  subst e
  cases r3
  refine wpAny_truthy_bool ?_
  cases k with
  | false => exact ite_ff ⟨.bl false, H3, I3, rfl, q3⟩
  | true => exact ite_tt (chain_last (thn (hc pins s3 σ H3 _ I3 q3) fun w' s4 ⟨z', H4, I4, r4, q4⟩ => ho' pins s4 σ H4 y z' u w' Q I4 r2 r4 q4))
theorem pt_chain {op op' : CmpOp} {r r' : R2} (ho : OpR X (compareOp op) r) (ho' : OpR X (compareOp op') r') (ha : PE X a ta) (hb : PE X b tb) (hc : PE X c tc)
    (hm : lastMarks [op, op'] [b, c] = false := by with_unfolding_all rfl) : PT X (.Compare a [op, op'] [b, c] pos) (tTest (tChain r r' ta tb tc)) := by
  refine ⟨?_⟩
  intro pins s σ H Q I h
  refine isTrue_chain (thn (ha pins s σ H _ I h) fun v s1 ⟨x, H1, I1, r1, q1⟩ => test_link (thn (hb pins s1 σ H1 _ I1 q1) fun u s2 ⟨y, H2, I2, r2, q2⟩ =>
    thn (ho pins s2 σ H2 x y v u _ I2 r1 r2 q2) fun d s3 ⟨z, H3, I3, r3, k, e, q3⟩ => ?_)) hm
  subst e
  cases r3
  refine wpAny_truthy_bool ?_
  cases k with
  | false =>
    obtain ⟨k', e', q'⟩ := q3
    cases e'
    exact ite_ff ⟨H3, I3, q'⟩
  | true =>
    refine ite_tt (test_last (thn (hc pins s3 σ H3 _ I3 q3) fun w' s4 ⟨z', H4, I4, r4, q4⟩ => thn (ho' pins s4 σ H4 y z' u w' _ I4 r2 r4 q4) fun d' s5 ⟨z2, H5, I5, r5, k2, e2, q5⟩ => ?_))
    subst e2
    cases r5
    exact wpAny_truthy_bool ⟨H5, I5, q5⟩

theorem line63 : (sizeLine : Nat) < 2 ^ 63 := by rw [sizeLine_eq]; decide
theorem vals1 {x : V} {us : List Value} (r : Vals [x] us) : ∃ u, us = [u] ∧ RelV x u := by
  cases r with
  | cons r1 r2 => cases r2; exact ⟨_, rfl, r1⟩
theorem vals2 {x y : V} {us : List Value} (r : Vals [x, y] us) : ∃ u w', us = [u, w'] ∧ RelV x u ∧ RelV y w' := by
  cases r with
  | cons r1 r2 =>
    cases r2 with
    | cons r3 r4 => cases r4; exact ⟨_, _, rfl, r1, r3⟩
theorem call_abs : CallR X (.builtin "abs") (fun xs H Q => ∃ i, xs = [.int i] ∧ Q (.int (if i < 0 then -i else i)) H) := by
  intro pins s σ H xs us Q I r h
  obtain ⟨i, rfl, q⟩ := h
  obtain ⟨u, rfl, t, rfl⟩ := vals1 r
  exact call_abs_int fun u tk => ⟨.int (if i < 0 then -i else i), H, I.tok _, ⟨_, rfl⟩, q⟩
theorem call_max2 (hc : X.calm = true) : CallR X (.builtin "max") (fun xs H Q => ∃ i j, xs = [.int i, .int j] ∧ Q (.int (if j > i then j else i)) H) := by
  intro pins s σ H xs us Q I r h
  obtain ⟨i, j, rfl, q⟩ := h
  obtain ⟨u, w', rfl, ⟨t, rfl⟩, ⟨t', rfl⟩⟩ := vals2 r
  refine max_two_ints (I.ok.hd hc) fun h' tk k => ⟨_, H, I.kept k, ?_, q⟩
  by_cases hj : j > i
  · rw [if_pos hj, if_pos hj]; exact ⟨_, rfl⟩
  · rw [if_neg hj, if_neg hj]; exact ⟨_, rfl⟩
theorem call_min2 (hc : X.calm = true) : CallR X (.builtin "min") (fun xs H Q => ∃ i j, xs = [.int i, .int j] ∧ Q (.int (if j < i then j else i)) H) := by
  intro pins s σ H xs us Q I r h
  obtain ⟨i, j, rfl, q⟩ := h
  obtain ⟨u, w', rfl, ⟨t, rfl⟩, ⟨t', rfl⟩⟩ := vals2 r
  refine min_two_ints (I.ok.hd hc) fun h' tk k => ⟨_, H, I.kept k, ?_, q⟩
  by_cases hj : j < i
  · rw [if_pos hj, if_pos hj]; exact ⟨_, rfl⟩
  · rw [if_neg hj, if_neg hj]; exact ⟨_, rfl⟩
theorem call_int1 : CallR X (.type "int") (fun xs H Q => (∃ i, xs = [.int i] ∧ Q (.int i) H) ∨ ∃ k, xs = [.bl k] ∧ Q (.int (if k then 1 else 0)) H) := by
  intro pins s σ H xs us Q I r h
  rcases h with ⟨i, rfl, q⟩ | ⟨k, rfl, q⟩
  · obtain ⟨u, rfl, t, rfl⟩ := vals1 r
    exact call_int_int ⟨.int i, H, I, ⟨_, rfl⟩, q⟩
  · obtain ⟨u, rfl, r1⟩ := vals1 r
    cases r1
    exact call_int_bool ⟨.int (if k then 1 else 0), H, I.tok _, ⟨_, rfl⟩, q⟩
end
end L2

namespace L2
open PySem PySem.Spec PyProof.Rows

structure ObjM (h : Heap) (x dx C : Addr) (mA : Str → Option Value) : Prop where
  obj : h.get? x = some (PySem.W.instObj C dx)
  ns : h.Ns1 dx mA
  ne : dx ≠ x

theorem lookIn_ns {h : Heap} {dx : Addr} {mA : Str → Option Value} (n : h.Ns1 dx mA) : ∃ od, h.get? dx = some od ∧ ∀ name, PySem.W.lookIn name od = some (mA name) := by
  obtain ⟨o, es, ep, ho, hd, hk, _, hm⟩ := n
  refine ⟨o, ho, fun name => ?_⟩
  have e := hm name
  unfold nsFind findBy at e
  rw [← Array.find?_toList] at e
  unfold PySem.W.lookIn
  rw [hd]
  dsimp only
  split
  · rename_i y q
    rw [q] at e
    exact congrArg some e
  · rename_i q
    rw [q] at e
    have a : es.toList.any (·.refKey) = false := by
      rw [List.any_eq_false]
      intro y hy
      obtain ⟨z, t, hkey⟩ := hk y (Array.mem_toList_iff.mp hy)
      simp [DictEntry.refKey, hkey]
    have a' : ¬ es.toList.any (·.refKey) = true := by rw [a]; exact Bool.false_ne_true
    rw [if_neg a']
    exact congrArg some e

theorem ObjM.look {h : Heap} {x dx C : Addr} {mA : Str → Option Value} (I : ObjM h x dx C mA) : ∃ od, PySem.W.InstAt h x (PySem.W.instObj C dx) C (some od) ∧ ∀ name, PySem.W.lookIn name od = some (mA name) :=
  let ⟨od, ho, hl⟩ := lookIn_ns I.ns
  ⟨od, ⟨I.obj, rfl, rfl, ho⟩, hl⟩

section
variable {prog : Program} {w : World} {A : Around} {E : Value → Shared → Prop} {s : Shared} {K : PySem.W.Frag} {x dx C f : Addr} {mA : Str → Option Value} {name : Str} {v : Value}

end

section
variable {P : Program} {w : World} {H H' : Hp} {h h' : Heap} {a C dx : Addr} {fs fs' : List (Str × V)}
theorem ins_get (hok : HOk P w H h) (e : H a = some (.ins C dx fs)) : ∃ mA, ObjM h a dx C mA ∧ (∀ f, RelO (fs.lookup f) (mA f)) ∧ PySem.Within mA (fs.map (·.1)) ∧ fs.length ≤ 1000 ∧ H dx = some (.own a) := by
  obtain ⟨d, z, ne, ob, mA, n, r, q⟩ := (show ObjOk P w H h a (.ins C dx fs) from hok a _ e)
  exact ⟨mA, ⟨ob, n, ne⟩, r, q, z, d⟩
end

structure Cls (K : PySem.W.Frag) (C : Addr) : Prop where
  pg : PySem.W.plainGet K C Str.empty = true
  hd : PySem.W.hasDictIn K C = true
  po : PySem.W.plainOver K C = true
  sa : PySem.W.findIn K (.ref C) "__setattr__" = some (some (.builtin "object.__setattr__"))
theorem Cls.get {K : PySem.W.Frag} {C : Addr} (c : Cls K C) (f : Str) : PySem.W.plainGet K C f = true := c.pg

section
variable {X : Cx} {pins : List (Addr × Obj)} {σ : St} {H : Hp} {s : Shared} {a C dx : Addr} {fs : List (Str × V)} {f : Str} {v : V} {A : Around} {E : Value → Shared → Prop}

theorem Inv.made (I : Inv X pins σ H s) : Inv X pins σ (upd (upd H s.heap.objs.size (.own (s.heap.objs.size + 1))) (s.heap.objs.size + 1) (.ins C s.heap.objs.size []))
    { s with heap := (s.heap.push PySem.W.emptyDict).push (PySem.W.instObj C s.heap.objs.size) } := by
  have e1 : (s.heap.push PySem.W.emptyDict).get? s.heap.objs.size = some PySem.W.emptyDict := Heap.get?_push_size s.heap rfl
  have e2 : ((s.heap.push PySem.W.emptyDict).push (PySem.W.instObj C s.heap.objs.size)).get? (s.heap.objs.size + 1) = some (PySem.W.instObj C s.heap.objs.size) := by
    have := Heap.get?_push_size (s.heap.push PySem.W.emptyDict) (o := PySem.W.instObj C s.heap.objs.size) rfl
    rwa [Heap.size_push] at this
  have e3 : (s.heap.push PySem.W.emptyDict).Ns s.heap.objs.size (fun _ => none) := ⟨PySem.W.emptyDict, #[], _, e1, rfl, (fun e he => absurd he (by simp)), fun _ => rfl⟩
  have I1 := I.laid (a := s.heap.objs.size) (o := .own (s.heap.objs.size + 1)) (h' := s.heap.push PySem.W.emptyDict) (t' := s.toks) (fun b u q => Heap.get?_push_of_some _ q) (Nat.le_refl _) ⟨_, e1⟩
  refine I1.laid (a := s.heap.objs.size + 1) (o := .ins C s.heap.objs.size []) (t' := s.toks) (fun b u q => Heap.get?_push_of_some _ q) (Nat.le_of_eq (Heap.size_push _ _)) ?_
  have ne : s.heap.objs.size ≠ s.heap.objs.size + 1 := Nat.ne_of_lt (Nat.lt_succ_self _)
  refine ⟨by rw [upd_ne ne, upd_same], Nat.zero_le _, ne, e2, fun _ => none, (Heap.Ns1.of_empty e3).at fun o q => Heap.get?_push_of_some _ q, fun _ => True.intro, fun y hy => absurd rfl hy⟩

end

section
variable {X : Cx} {o e value : Expr} {f : Str} {pos pos' tpos : Pos} {ta tv : TE}
end

section
variable {X : Cx} {pins : List (Addr × Obj)} {σ : St} {H : Hp} {s : Shared} {A : Around} {E : Value → Shared → Prop} {Q : Value → Shared → Prop} {c : Value} {b : Bool}

inductive TyOf (K : PySem.W.Frag) (H : Hp) : V → Value → Prop where
  | non : TyOf K H .non (.type "NoneType")
  | bl (x : Bool) : TyOf K H (.bl x) (.type "bool")
  | int (i : Int) : TyOf K H (.int i) (.type "int")
  | str (x : Str) : TyOf K H (.str x) (.type "str")
  | flt (x : UInt64) : TyOf K H (.flt x) (.type "float")
  | lst {a : Addr} {xs : List V} (e : H a = some (.lst xs)) : TyOf K H (.ref a) (.type "list")
  | frz {a : Addr} {o : Obj} {xs : List V} (e : H a = some (.frz o (.lst xs))) : TyOf K H (.ref a) (.type "list")
  | tup {a : Addr} {xs : List V} (e : H a = some (.tup xs)) : TyOf K H (.ref a) (.type "tuple")
  | dK {a : Addr} {kvs : List (Key × V)} (e : H a = some (.dK kvs)) : TyOf K H (.ref a) (.type "dict")
  | dT {a : Addr} {kvs : List (List Key × V)} (e : H a = some (.dT kvs)) : TyOf K H (.ref a) (.type "dict")
  | ins {a C dx : Addr} {fs : List (Str × V)} (e : H a = some (.ins C dx fs)) (cl : Cls K C) (ha : PySem.W.findIn K (.ref C) "__class__" = some (some (.builtin "object.__class__")))
      (hn : PySem.W.specialIn K (.builtin "object.__class__") "__get__" = some (some (.builtin "getset_descriptor.__get__"))) (htk : PySem.W.takesIn K (.builtin "object.__class__") = some true)
      (hm : PySem.W.mroIn K C (.type "object") = some true) : TyOf K H (.ref a) (.ref C)

theorem isinst_ok {x : V} {u t : Value} (I : Inv X pins σ H s) (rx : RelV x u) (ty : TyOf X.K H x t) (e : PySem.W.kitOne X.K t c = some b) (h : ∀ tk, Q (.bool b) { s with toks := tk }) :
    wpAny (model X.prog X.w) A (call (.builtin "isinstance") [u, c]) Q E s := by
  cases ty with
  | non => cases (show u = Value.none from rx); exact PySem.W.kia_one PySem.W.kitx_none I.kIn True.intro e (fun z => nomatch z) h
  | bl y => cases (show u = Value.bool y from rx); exact PySem.W.kia_one PySem.W.kitx_bool I.kIn True.intro e (fun z => nomatch z) h
  | int i => obtain ⟨t, q⟩ := (show ∃ t, u = Value.int i t from rx); cases q; exact PySem.W.kia_one PySem.W.kitx_int I.kIn True.intro e (fun z => nomatch z) h
  | str y => obtain ⟨t, q⟩ := (show ∃ t, u = Value.str y t from rx); cases q; exact PySem.W.kia_one PySem.W.kitx_str I.kIn True.intro e (fun z => nomatch z) h
  | flt y => obtain ⟨t, q⟩ := (show ∃ t, u = Value.float y t from rx); cases q; exact PySem.W.kia_one PySem.W.kitx_float I.kIn True.intro e (fun z => nomatch z) h
  | @lst a xs ea =>
    cases (show u = Value.ref a from rx)
    obtain ⟨_, _, n, _, h1⟩ := (show ObjOk X.prog X.w H s.heap a (.lst xs) from I.hok a _ ea)
    exact PySem.W.kia_one PySem.W.kitx_list I.kIn ⟨_, h1, rfl⟩ e (fun z => nomatch z) h
  | @frz a ob xs ea =>
    cases (show u = Value.ref a from rx)
    obtain ⟨_, _, _, n, _, h1⟩ := (show ObjOk X.prog X.w H s.heap a (.frz ob (.lst xs)) from I.hok a _ ea)
    exact PySem.W.kia_one PySem.W.kitx_list I.kIn ⟨_, h1, rfl⟩ e (fun z => nomatch z) h
  | @tup a xs ea =>
    cases (show u = Value.ref a from rx)
    obtain ⟨_, _, _, p⟩ := (show ObjOk X.prog X.w H s.heap a (.tup xs) from I.hok a _ ea)
    obtain ⟨o, h1, h2, _⟩ := p
    exact PySem.W.kia_one PySem.W.kitx_tuple I.kIn ⟨o, h1, h2⟩ e (fun z => nomatch z) h
  | @dK a kvs ea =>
    cases (show u = Value.ref a from rx)
    obtain ⟨_, _, vs, _, p⟩ := (show ObjOk X.prog X.w H s.heap a (.dK kvs) from I.hok a _ ea)
    obtain ⟨o, es, ep, h1, h2, _⟩ := p
    exact PySem.W.kia_one PySem.W.kitx_dict I.kIn ⟨o, h1, h2.1⟩ e (fun z => nomatch z) h
  | @dT a kvs ea =>
    cases (show u = Value.ref a from rx)
    obtain ⟨_, _, xs, _, o, es, ep, h1, h2, _⟩ := (show ObjOk X.prog X.w H s.heap a (.dT kvs) from I.hok a _ ea)
    exact PySem.W.kia_one PySem.W.kitx_dict I.kIn ⟨o, h1, h2.1⟩ e (fun z => nomatch z) h
  | @ins a C dx fs ea cl ha hn htk hm =>
    cases (show u = Value.ref a from rx)
    obtain ⟨mA, O, _⟩ := ins_get I.hok ea
    obtain ⟨od, J, _⟩ := O.look
    exact PySem.W.kia_one (PySem.W.kitx_own (cl.get _) cl.hd ha hn htk hm) I.kIn J e (fun z => nomatch z) h
end
end L2

namespace L2
open PySem PySem.Spec PyProof.Rows

structure Room (k : Nat) (A : Around) : Prop where
  hd : A.handled = none
  dp : A.depth + 3 * k + 5 < recursionLimit
  un : A.units + 16 * k + 200 < cLine
theorem Room.mono {j k : Nat} {A : Around} (r : Room k A) (h : j ≤ k) : Room j A := ⟨r.hd, by have := r.dp; omega, by have := r.un; omega⟩
theorem Room.deeper {k : Nat} {A : Around} (r : Room (k + 1) A) (env : Env) : Room k (A.deeper env) :=
  ⟨r.hd, by have := r.dp; show A.depth + 1 + 3 * k + 5 < _; omega, by have := r.un; show A.units + 3 + 16 * k + 200 < _; omega⟩
theorem Room.in1 {k : Nat} {A : Around} (r : Room (k + 1) A) : Room k A.in1 :=
  ⟨r.hd, by have := r.dp; show A.depth + 3 * k + 5 < _; omega, by have := r.un; show A.units + 1 + 16 * k + 200 < _; omega⟩
theorem Room.depth {k : Nat} {A : Around} (r : Room k A) : A.depth < recursionLimit := by have := r.dp; omega
theorem Room.units {k : Nat} {A : Around} (r : Room k A) : A.units + 64 < cLine := by have := r.un; omega
def tNil : TA := fun _ H Q => Q [] H
def tCons (ta : TE) (tr : TA) : TA := fun σ H Q => ta σ H fun x H1 => tr σ H1 fun xs H2 => Q (x :: xs) H2
section
variable {X : Cx} {e : Expr} {es : List Expr} {te : TE} {t : TA} {pos : Pos}
theorem pa_nil : PA X [] tNil := ⟨fun _ _ _ _ H Q I h => Calls.spliced_nil ⟨[], H, I, .nil, h⟩⟩
theorem pa_cons (ha : PE X e te) (hr : PA X es t) (hs : starEach (e :: es) X.env = (false, eval e X.env) :: starEach es X.env := by rfl) : PA X (e :: es) (tCons te t) := by
  refine ⟨?_⟩
  intro pos pins s σ H Q I h
  rw [hs]
  show wpAny _ _ (spliced ((false, eval e X.env) :: backTo pos (starEach es X.env))) _ _ s
  refine Calls.spliced_cons (thn (ha pins s σ H _ I h) fun u s1 ⟨x, H1, I1, r1, q1⟩ => ?_)
  exact thn (hr pos pins s1 σ H1 _ I1 q1) fun us s2 ⟨xs, H2, I2, r2, q2⟩ => ⟨x :: xs, H2, I2, .cons r1 r2, q2⟩

def tTup (t : TA) : TE := fun σ H Q => t σ H fun xs H1 => xs.length ≤ sizeLine ∧ ∀ p, H1 p = none → Q (.ref p) (upd H1 p (.tup xs))
def tLst (t : TA) : TE := fun σ H Q => t σ H fun xs H1 => xs.length ≤ sizeLine ∧ ∀ p, H1 p = none → Q (.ref p) (upd H1 p (.lst xs))
theorem pe_tup {x1} (h : PA X es t) : PE X (.Tuple es x1 pos) (tTup t) := by
  refine ⟨?_⟩
  intro pins s σ H Q I hq
  refine wpAny_Tuple_spliced (thn (h pos pins s σ H _ I hq) fun us s1 ⟨xs, H1, I1, r, z, q⟩ => ⟨by rw [← r.length]; exact z, ?_⟩)
  have hf : H1 s1.heap.objs.size = none := I1.hok.fresh (Nat.le_refl _)
  refine ⟨.ref s1.heap.objs.size, upd H1 s1.heap.objs.size (.tup xs), I1.laid (t' := s1.toks) (fun b u e => Heap.get?_push_of_some _ e) (Nat.le_refl _) ?_, rfl, q _ hf⟩
  exact ⟨z, us, r, ⟨_, Heap.get?_push_size _ rfl, rfl, _, rfl⟩⟩
theorem pe_lst (h : PA X es t) : PE X (.List es pos) (tLst t) := by
  refine ⟨?_⟩
  intro pins s σ H Q I hq
  refine wpAny_List_spliced (thn (h pos pins s σ H _ I hq) fun us s1 ⟨xs, H1, I1, r, z, q⟩ => ⟨by rw [← r.length]; exact z, ?_⟩)
  have hf : H1 s1.heap.objs.size = none := I1.hok.fresh (Nat.le_refl _)
  refine ⟨.ref s1.heap.objs.size, upd H1 s1.heap.objs.size (.lst xs), I1.laid (t' := s1.toks) (fun b u e => Heap.get?_push_of_some _ e) (Nat.le_refl _) ?_, rfl, q _ hf⟩
  exact ⟨z, us, 0, r, Heap.get?_push_size _ rfl⟩
end

abbrev Sp := List V → Hp → VK → XK → Prop

abbrev CXT := List Env → Hp → Shared → XK → Value → Shared → Prop

structure Env0 (P : Program) (w : World) (K : PySem.W.Frag) (mg : Str → Option Value) (base : Heap) (A : Around) (outer : List Env) (s : Shared) (H : Hp) : Prop where
  frames : A.frames = some outer
  mod : Mod K mg base
  bs : ∀ b o, base.get? b = some o → s.heap.get? b = some o ∧ H b = none
  bsz : base.objs.size ≤ s.heap.objs.size
  funs : s.heap.FunFrames base outer
  frf : ∀ b ∈ frs outer, H b = none
  hok : HOk P w H s.heap
  bare : AllBare s.gens

def CE (outer : List Env) (P : Program) (w : World) (H : Hp) (s : Shared) (Q : VK) (u : Value) (s' : Shared) : Prop :=
  ∃ v H', s'.os = s.os ∧ Gn s.gens.size s'.gens ∧ Un (frs outer) [] H H' s.heap s'.heap ∧ HOk P w H' s'.heap ∧ RelV v u ∧ Q v H'
def CR (CX : CXT) (outer : List Env) (P : Program) (w : World) (H : Hp) (s : Shared) (Q : VK) (E : XK) (r : Result) (s' : Shared) : Prop :=
  match r with
  | .ok (.ret u) => CE outer P w H s Q u s'
  | .ok _ => False
  | .error e => CX outer H s E e s'
structure FnOk (P : Program) (w : World) (K : PySem.W.Frag) (mg : Str → Option Value) (base : Heap) (CX : CXT) (k : Nat) (f : Addr) (fd : FuncData) (ps : List Str) (sp : Sp) : Prop where
  len : ∀ vs H Q E, sp vs H Q E → vs.length = ps.length
  run : ∀ (A : Around) (outer : List Env) (s : Shared) (H : Hp) (args : Args) (us : List Value) (vs : List V) (Q : VK) (E : XK), Room k A → Env0 P w K mg base A outer s H → BindsTo s fd args (ps.zip us) → Vals vs us → sp vs H Q E →
    codeAny (model P w) A (.call (.ref f) args) (CR CX outer P w H s Q E) s
theorem FnOk.mono {P : Program} {w : World} {K : PySem.W.Frag} {mg : Str → Option Value} {base : Heap} {CX : CXT} {j k : Nat} {f : Addr} {fd : FuncData} {ps : List Str} {sp : Sp} (F : FnOk P w K mg base CX j f fd ps sp) (h : j ≤ k) :
    FnOk P w K mg base CX k f fd ps sp := ⟨F.len, fun A outer s H args us vs Q E hr => F.run A outer s H args us vs Q E (hr.mono h)⟩

theorem FnOk.imp {P : Program} {w : World} {K : PySem.W.Frag} {mg : Str → Option Value} {base : Heap} {CX : CXT} {k : Nat} {f : Addr} {fd : FuncData} {ps : List Str} {sp sp' : Sp} (F : FnOk P w K mg base CX k f fd ps sp)
    (h : ∀ vs H Q E, sp' vs H Q E → sp vs H Q E) : FnOk P w K mg base CX k f fd ps sp' :=
  ⟨fun vs H Q E q => F.len vs H Q E (h _ _ _ _ q), fun A outer s H args us vs Q E hr he hb hv hs => F.run A outer s H args us vs Q E hr he hb hv (h _ _ _ _ hs)⟩

theorem Env0.in1 {P : Program} {w : World} {K : PySem.W.Frag} {mg : Str → Option Value} {base : Heap} {A : Around} {outer : List Env} {s : Shared} {H : Hp} (e : Env0 P w K mg base A outer s H) :
    Env0 P w K mg base A.in1 outer s H := ⟨e.frames, e.mod, e.bs, e.bsz, e.funs, e.frf, e.hok, e.bare⟩

section
variable {X : Cx} {pins : List (Addr × Obj)} {σ : St} {H : Hp} {s s' : Shared}

theorem Inv.env0 (I : Inv X pins σ H s) : Env0 X.prog X.w X.K X.mg X.base X.A X.stack s H :=
  ⟨I.ok.frames, I.ok.mod, I.bs, Nat.le_trans I.ok.bsz I.sz, I.stack, I.stkFree, I.hok, I.bare.1⟩

theorem Inv.after {Q : VK} {u : Value} (I : Inv X pins σ H s) (h : CE X.stack X.prog X.w H s Q u s') : EP X pins σ Q u s' := by
  obtain ⟨v, H', os, bare, un, hok, r, q⟩ := h
  obtain ⟨hh, g, d, t, os'⟩ := s'
  obtain rfl : os' = s.os := os
  exact ⟨v, H', I.call (h' := hh) (g' := g) (d' := d) (t' := t) (ch := []) un hok bare (fun b z => absurd z (by simp)), r, q⟩
end

def tCall (sp : Sp) (dvs : List V) (E : XK) (t : TA) : TE := fun σ H Q => t σ H fun vs H1 => sp (vs ++ dvs) H1 Q E

def Binds (K : PySem.W.Frag) (fd : FuncData) (ps : List Str) (ds : List Value) : Prop :=
  ∀ (s : Shared) (us : List Value), K.In s.heap → (us ++ ds).length = ps.length → BindsTo s fd ⟨us, []⟩ (ps.zip (us ++ ds))

theorem Binds.all {K : PySem.W.Frag} {fd : FuncData} {ps : List Str} (h : ∀ us : List Value, us.length = ps.length → bindArgs fd ⟨us, []⟩ = pure (ps.zip us)) : Binds K fd ps [] := fun s us _ hl => by
  rw [List.append_nil] at hl ⊢
  exact .of_eq (h us hl)

def Passes (CX : CXT) (X : Cx) (E : XK) : Prop := ∀ (pins : List (Addr × Obj)) (σ : St) (H : Hp) (s : Shared) (e : Value) (s' : Shared), Inv X pins σ H s → CX X.stack H s E e s' → X.xe e s'

section
variable {X : Cx} {CX : CXT} {k : Nat} {f C : Addr} {fd : FuncData} {ps : List Str} {sp : Sp} {dvs : List V} {ds : List Value} {E : XK} {x m : Str} {p pos apos : Pos} {e o : Expr} {es : List Expr} {ta : TE} {t : TA}

theorem run_fn {pins : List (Addr × Obj)} {σ : St} {H : Hp} {s : Shared} {Q : VK} {us : List Value} {vs : List V} (F : FnOk X.prog X.w X.K X.mg X.base CX k f fd ps sp) (hr : Room k X.A) (hb : Binds X.K fd ps ds) (hd : Vals dvs ds) (hx : Passes CX X E)
    (I : Inv X pins σ H s) (r : Vals vs us) (h : sp (vs ++ dvs) H Q E) : wpAny (model X.prog X.w) X.A (call (.ref f) us) (EP X pins σ Q) X.xe s := by
  have r2 : Vals (vs ++ dvs) (us ++ ds) := r.append hd
  have hl : (us ++ ds).length = ps.length := by rw [← r2.length]; exact F.len _ _ _ _ h
  refine wpAny_call (codeAny_mono (F.run X.A X.stack s H ⟨us, []⟩ (us ++ ds) (vs ++ dvs) Q E hr I.env0 (hb s us I.kIn hl) r2 h) fun r s' hq => ?_)
  cases r with
  | error e => exact hx pins σ H s e s' I hq
  | ok fl =>
    cases fl with
    | ret u => exact I.after hq
    | next => exact False.elim hq
    | brk => exact False.elim hq
    | cont => exact False.elim hq

theorem pe_call (F : FnOk X.prog X.w X.K X.mg X.base CX k f fd ps sp) (hr : Room k X.A) (hg : Gl X x) (hm : X.mg x = some (.ref f)) (hk : PySem.W.keepIn X.K (.ref f) = true) (hb : Binds X.K fd ps ds) (hd : Vals dvs ds) (hx : Passes CX X E)
    (ha : PA X (e :: es) t) (hdb : (x == ("__debug__" : Str)) = false := by decide) (he : starEach (e :: es) X.env = (false, eval e X.env) :: starEach es X.env := by rfl) (hpl : (backTo pos (starEach es X.env)).any (·.1) = false := by rfl) :
    PE X (.Call (.Name x p) (e :: es) [] pos) (tCall sp dvs E t) := by
  refine ⟨?_⟩
  intro pins s σ H Q I h
  refine wpAny_Call_Name_kw (ld_glob I hg hm ?_ hdb)
  refine PySem.W.callWith_K (h₀ := X.base) I.ok.mod.kin hk (thn (ha pos pins s σ H _ I h) fun us s1 ⟨vs, H1, I1, r, q⟩ => ⟨I1.kIn, ?_⟩) he hpl
  exact run_fn F hr hb hd hx I1 r q
end

section
variable {X : Cx} {CX : CXT} {k : Nat} {f C : Addr} {fd : FuncData} {ps ks : List Str} {sp : Sp} {E : XK} {x m : Str} {p pos apos kpos : Pos} {e o : Expr} {es : List Expr} {kws : List Keyword} {te ta : TE} {t tk : TA} {nm : Option Str}
variable {g : List Value → List Value → List Value} {gV : List V → List V → List V}
end

structure FnScope (N P : List Str) (sc : Scope) : Prop where
  kind : sc.kind = .function
  co : sc.isCoroutine = false
  gen : sc.isGenerator = false
  nd : N.Nodup
  pre : N.take P.length = P
  par : ∀ x ∈ P, sc.names.lookup x = some .local ∨ sc.names.lookup x = some .cell
  nofree : ∀ y ∈ sc.names, y.2 ≠ .free

theorem bindL_out {kindOf : Str → Option NameKind} {x : Str} : ∀ {binds : List (Str × Value)} {m : Str → Option Value}, (∀ v, (x, v) ∉ binds) → bindL kindOf binds m x = m x
  | [], _, _ => rfl
  | (n, v) :: r, m, h => by
    unfold bindL
    rw [bindL_out fun w hw => h w (List.mem_cons_of_mem _ hw)]
    split
    · have : x ≠ n := by rintro rfl; exact h v List.mem_cons_self
      simp [this]
    · rfl
theorem bindC_out {kindOf : Str → Option NameKind} {x : Str} : ∀ {binds : List (Str × Value)} {m : Str → Option Value}, (∀ v, (x, v) ∉ binds) → bindC kindOf binds m x = m x
  | [], _, _ => rfl
  | (n, v) :: r, m, h => by
    unfold bindC
    rw [bindC_out fun w hw => h w (List.mem_cons_of_mem _ hw)]
    split
    · rfl
    · have : x ≠ n := by rintro rfl; exact h v List.mem_cons_self
      simp [this]
theorem bindL_get {kindOf : Str → Option NameKind} {x : Str} {v : Value} : ∀ {P : List Str} {vs : List Value} {i : Nat} {m : Str → Option Value}, P.Nodup → P[i]? = some x → vs[i]? = some v → kindOf x = some .local →
    bindL kindOf (P.zip vs) m x = some v
  | [], _, _, _, _, h, _, _ => by simp at h
  | _ :: _, [], _, _, _, _, h, _ => by simp at h
  | p :: P, w :: vs, 0, m, nd, h1, h2, hk => by
    simp at h1 h2; subst h1; subst h2
    show bindL kindOf ((p, w) :: P.zip vs) m p = _
    unfold bindL
    rw [bindL_out fun v hv => (List.nodup_cons.mp nd).1 (List.of_mem_zip hv).1, if_pos hk]
    simp
  | p :: P, w :: vs, i + 1, m, nd, h1, h2, hk => by
    show bindL kindOf ((p, w) :: P.zip vs) m x = _
    unfold bindL
    exact bindL_get (i := i) (List.nodup_cons.mp nd).2 (by simpa using h1) (by simpa using h2) hk
theorem bindC_get {kindOf : Str → Option NameKind} {x : Str} {v : Value} : ∀ {P : List Str} {vs : List Value} {i : Nat} {m : Str → Option Value}, P.Nodup → P[i]? = some x → vs[i]? = some v → kindOf x ≠ some .local →
    bindC kindOf (P.zip vs) m x = some v
  | [], _, _, _, _, h, _, _ => by simp at h
  | _ :: _, [], _, _, _, _, h, _ => by simp at h
  | p :: P, w :: vs, 0, m, nd, h1, h2, hk => by
    simp at h1 h2; subst h1; subst h2
    show bindC kindOf ((p, w) :: P.zip vs) m p = _
    unfold bindC
    rw [bindC_out fun v hv => (List.nodup_cons.mp nd).1 (List.of_mem_zip hv).1, if_neg hk]
    simp
  | p :: P, w :: vs, i + 1, m, nd, h1, h2, hk => by
    show bindC kindOf ((p, w) :: P.zip vs) m x = _
    unfold bindC
    exact bindC_get (i := i) (List.nodup_cons.mp nd).2 (by simpa using h1) (by simpa using h2) hk

def start (N : List Str) (vs : List V) : St := vs.map some ++ List.replicate (N.length - vs.length) none

def cxOf (CX : CXT) (P : Program) (w : World) (K : PySem.W.Frag) (mg : Str → Option Value) (base : Heap) (N : List Str) (qual : Str) (scope : Scope) (f : Addr) (cd : Value) (A : Around) (outer : List Env) (s : Shared) (H : Hp) (E : XK) : Cx where
  prog := P
  w := w
  K := K
  mg := mg
  base := base
  A := A.deeper (envOfC qual scope s.heap.objs.size f cd)
  N := N
  s₀ := s
  H₀ := H
  env := envOfC qual scope s.heap.objs.size f cd
  outer := outer
  stack := envOfC qual scope s.heap.objs.size f cd :: outer
  ex := []
  calm := true
  fn := fun _ => true
  pn := []
  xe := fun e s' => wpAny (model P w) (A.deeper (envOfC qual scope s.heap.objs.size f cd)) (leaving (envOfC qual scope s.heap.objs.size f cd) e) (fun _ s'' => CX outer H s E e s'') (fun e' s'' => CX outer H s E e' s'') s'

theorem cell_has {sc : Scope} {n : Nat} {x : Str} (h : sc.names.lookup x = some .cell) : ∃ c, (cellsFrom n sc.names []).lookup x = some c := by
  have q := PySem.W.cellsFrom_some sc.names n [] (.inl h)
  exact Option.isSome_iff_exists.mp q

theorem inv_start {CX : CXT} {P : Program} {w : World} {K : PySem.W.Frag} {mg : Str → Option Value} {base : Heap} {N ps : List Str} {qual : Str} {scope : Scope} {f : Addr} {cd : Value} {A : Around} {outer : List Env} {s s1 : Shared} {H : Hp} {E : XK} {us : List Value} {vs : List V}
    (S : FnScope N ps scope) (hd : A.handled = none) (e0 : Env0 P w K mg base A outer s H) (hl : vs.length = ps.length) (r : Vals vs us)
    (x : InCallC s s.heap.objs.size (bindL (envOfC qual scope s.heap.objs.size f cd).kindOf (ps.zip us) fun _ => none) (cellsFrom (s.heap.objs.size + 1) scope.names []) (bindC (envOfC qual scope s.heap.objs.size f cd).kindOf (ps.zip us) fun _ => none) s1) :
    Inv (cxOf CX P w K mg base N qual scope f cd A outer s H E) [] (start N vs) H s1 := by
  have hpl : ps.length ≤ N.length := by have := congrArg List.length S.pre; rw [List.length_take] at this; omega
  obtain ⟨h1, tk, rfl, hk⟩ := x.done
  have noA : ∀ b : Addr, b ∉ (cxOf CX P w K mg base N qual scope f cd A outer s H E).ex := fun b z => absurd (show b ∈ ([] : List Addr) from z) (by simp)
  refine ⟨⟨e0.mod, S.kind, rfl, rfl, Nat.le_refl _, fun y z c h1 h2 => ?_, fun y hy => ?_, fun y c _ h => ?_, fun _ => hd, Around.frames_deeper e0.frames, .inr ⟨rfl, rfl⟩, fun b z => absurd z (noA b), e0.bs, e0.bsz, fun b _ _ => noA b, fun b z => absurd z (noA b), e0.funs, e0.frf⟩,
    rfl, ⟨e0.bare, Nat.le_refl _⟩, Un.kept hk, ⟨_, x.toInCall.ns, fun i y v h1 h2 h3 => ?_⟩, fun y c h => ⟨_, x.cell y c h⟩, e0.hok.fresh (Nat.le_refl _), fun y c h => ?_, fun p hp => absurd (show p ∈ ([] : List (Addr × Obj)) from hp) (by simp), e0.hok.kept hk, ?_⟩
  · exact name_of_addr x.apart (PySem.mem_of_lookup h1) (PySem.mem_of_lookup h2)
  · have hy : scope.names.lookup y = some .cell ∨ scope.names.lookup y = some .free := hy
    rcases hy with hy | hy
    · exact cell_has hy
    · exact absurd rfl (S.nofree _ (PySem.mem_of_lookup hy))
  · exact Nat.le_of_lt (x.above y c (PySem.mem_of_lookup h))
  · have hi : i < vs.length := by
      unfold start at h2
      by_cases hi : i < vs.length
      · exact hi
      · rw [List.getElem?_append_right (by simpa using hi)] at h2
        rw [List.getElem?_replicate] at h2
        split at h2 <;> cases h2
    have ha : vs[i]? = some v := by
      unfold start at h2
      rw [List.getElem?_append_left (by simpa using hi), List.getElem?_map] at h2
      cases e : vs[i]? with
      | none => rw [e] at h2; cases h2
      | some a => rw [e] at h2; cases h2; rfl
    obtain ⟨u, hu, rv⟩ := r.get ha
    have hp : ps[i]? = some y := by
      rw [← S.pre, List.getElem?_take_of_lt (by omega)]; exact h1
    have ndP : ps.Nodup := by rw [← S.pre]; exact S.nd.sublist (List.take_sublist _ _)
    refine ⟨u, rv, ?_⟩
    rcases S.par y (List.mem_of_getElem? hp) with k | k
    · exact .inl ⟨k, bindL_get ndP hp hu k⟩
    · obtain ⟨c, e⟩ := cell_has (n := s.heap.objs.size + 1) k
      refine .inr ⟨.inl k, c, e, ?_⟩
      have q := x.cell y c e
      rw [bindC_get ndP hp hu (by show scope.names.lookup y ≠ _; rw [k]; decide)] at q
      exact q
  · exact e0.hok.fresh (Nat.le_of_lt (x.above y c (PySem.mem_of_lookup h)))
  · unfold start
    show _ = N.length
    rw [List.length_append, List.length_map, List.length_replicate]
    omega

theorem fn_of {CX : CXT} {P : Program} {w : World} {K : PySem.W.Frag} {mg : Str → Option Value} {base : Heap} {k : Nat} {f : Addr} {name qual : Str} {params : Arguments} {body : List Stmt} {scope : Scope} {dV kV doc pm cdv ct oc : Value} {an od : Option Addr}
    {osl : Array (Option Value)} {N ps : List Str} {sp : Sp} (lk : K.lookup f = some ⟨oc, od, .func (PySem.W.fnOf name qual params body scope dV kV doc pm an cdv ct), osl⟩) (hcd : PySem.W.codeIn K cdv qual = true) (S : FnScope N ps scope)
    (len : ∀ vs H Q E, sp vs H Q E → vs.length = ps.length)
    (hbody : ∀ (A : Around) (outer : List Env) (s : Shared) (H : Hp) (vs : List V) (Q : VK) (E : XK), Room k (A.deeper (envOfC qual scope s.heap.objs.size f cdv)) → sp vs H Q E →
      ∃ t, PSs (cxOf CX P w K mg base N qual scope f cdv A outer s H E) body t ∧ t { nx := fun _ H' => Q .non H', rt := Q } (start N vs) H) :
    FnOk P w K mg base CX (k + 1) f (PySem.W.fnOf name qual params body scope dV kV doc pm an cdv ct) ps sp := by
  refine ⟨len, fun A outer s H args us vs Q E hr e0 hb r hsp => ?_⟩
  have hl := len _ _ _ _ hsp
  have KX : K.In s.heap := e0.mod.kin.keeps fun b o e => (e0.bs b o e).1
  have lim : s.heap.NoLimit := e0.mod.nolimit.keeps fun b o e => (e0.bs b o e).1
  have hkind : ∀ y ∈ ps.zip us, scope.names.lookup y.1 = some .local ∨ (scope.names.lookup y.1 = some .cell ∧ ((cellsFrom (s.heap.objs.size + 1) scope.names []).lookup y.1).isSome = true) := fun ⟨n, v⟩ hy => by
    rcases S.par n (List.of_mem_zip hy).1 with q | q
    · exact .inl q
    · exact .inr ⟨q, PySem.W.cellsFrom_some _ _ _ (.inl q)⟩
  refine codeAny_call_function hr.depth (KX _ _ lk) rfl S.co S.gen rfl (PySem.W.codeRec_of KX hcd) (hb _ _ _ _ ?_)
  refine wpAny_newFunctionEnv_cells S.kind hkind fun env he s1 x => ?_
  subst he
  refine ⟨lim.keeps x.toInCall.keep, codeAny_func ?_⟩
  obtain ⟨t, ht, hq⟩ := hbody A outer s H vs Q E (hr.deeper _) hsp
  have I : Inv (cxOf CX P w K mg base N qual scope f cdv A outer s H E) [] (start N vs) H s1 := inv_start S hr.hd e0 hl r x
  refine wpAny_mono (ht [] s1 (start N vs) H _ I hq) (fun fl s' hs => ?_) fun e s' hs => hs
  have fin : ∀ {σ' : St} {H' : Hp} {v : V} {u : Value}, Inv (cxOf CX P w K mg base N qual scope f cdv A outer s H E) [] σ' H' s' → RelV v u → Q v H' → CE outer P w H s Q u s' :=
    fun {σ' H' v u} J rv q => ⟨v, H', J.os, J.bare, J.base, J.hok, rv, q⟩
  cases fl with
  | ret u =>
    obtain ⟨v, σ', H', J, rv, q⟩ := hs
    exact fin J rv q
  | next =>
    obtain ⟨σ', H', J, q⟩ := hs
    exact fin (v := V.non) (u := Value.none) J rfl q
  | brk =>
    obtain ⟨_, _, _, q⟩ := hs
    exact False.elim q
  | cont =>
    obtain ⟨_, _, _, q⟩ := hs
    exact False.elim q
end L2

namespace L2
open PySem PySem.Spec PyProof.Rows
section
variable {X : Cx} {x : Str} {p pos : Pos} {e : Expr} {es : List Expr} {t : TA} {id T : String} {r : List V → Hp → VK → Prop}

def tCB (r : List V → Hp → VK → Prop) (t : TA) : TE := fun σ H Q => t σ H fun vs H1 => r vs H1 Q

theorem pe_callB (hc : CallR X (.builtin id) r) (hg : Gl X x) (hm : X.mg x = none) (hv : bootBuiltins x = some (.builtin id)) (ha : PA X (e :: es) t) (hn : x ≠ "__name__" := by decide) (hdb : (x == ("__debug__" : Str)) = false := by decide)
    (he : starEach (e :: es) X.env = (false, eval e X.env) :: starEach es X.env := by rfl) (hpl : (backTo pos (starEach es X.env)).any (·.1) = false := by rfl) : PE X (.Call (.Name x p) (e :: es) [] pos) (tCB r t) := by
  refine ⟨?_⟩
  intro pins s σ H Q I h
  refine wpAny_Call_Name_kw (ld_blt I hg hm hv ?_ hn hdb)
  exact PyProof.Rows.callWith_builtin1 (thn (ha pos pins s σ H _ I h) fun us s1 ⟨vs, H1, I1, r1, q1⟩ => hc pins s1 σ H1 vs us Q I1 r1 q1) he hpl

theorem pe_callTy (hc : CallR X (.type T) r) (hg : Gl X x) (hm : X.mg x = none) (hv : bootBuiltins x = some (.type T)) (ha : PA X (e :: es) t) (hn : x ≠ "__name__" := by decide) (hdb : (x == ("__debug__" : Str)) = false := by decide)
    (he : starEach (e :: es) X.env = (false, eval e X.env) :: starEach es X.env := by rfl) (hpl : (backTo pos (starEach es X.env)).any (·.1) = false := by rfl) : PE X (.Call (.Name x p) (e :: es) [] pos) (tCB r t) := by
  refine ⟨?_⟩
  intro pins s σ H Q I h
  refine wpAny_Call_Name_kw (ld_blt I hg hm hv ?_ hn hdb)
  exact PyProof.Rows.callWith_type1 (thn (ha pos pins s σ H _ I h) fun us s1 ⟨vs, H1, I1, r1, q1⟩ => hc pins s1 σ H1 vs us Q I1 r1 q1) he hpl

end
end L2

namespace HT
open PySem PyProof.Rows

section
open PySem.SeqAt
open PySem.AutoSeq1 (wpAny_loadPart')
open PySem.MeetsSeq PySem.MeetsSeq2 PySem.MeetsSeq3

end

section
variable {prog : Program} {w : World} {A : Around} {E : Value → Shared → Prop} {s : Shared}

theorem cat_tup {t b : Addr} {vs ws : List Value} {Q : Value → Shared → Prop} (ht : IsTup s.heap t vs.toArray) (hb : IsTup s.heap b ws.toArray) (hv : vs ≠ [])
    (h1 : ws = [] → Q (.ref t) s) (h2 : ws ≠ [] → Q (.ref s.heap.objs.size) { s with heap := s.heap.push { cls := .type "tuple", data := .seq (vs ++ ws).toArray } })
    (hsz : vs.length + ws.length ≤ sizeLine) : wpAny (model prog w) A (binaryOp .Add (.ref t) (.ref b)) Q E s := by
  obtain ⟨⟨cls, dd, data, sl⟩, ho, hc, n, hd⟩ := id ht
  obtain ⟨⟨cls2, dd2, data2, sl2⟩, ho2, hc2, n2, hd2⟩ := id hb
  simp only at hc hd hc2 hd2
  subst hc hd hc2 hd2
  have e : vs.toArray ++ ws.toArray = (vs ++ ws).toArray := by simp
  by_cases hw : ws = []
  · exact concat_meets ⟨_, ho, rfl⟩ ⟨_, ho2, rfl⟩ noFill_tuple_add seq_tuple_add PySem.F.slot_tuple_add PySem.F.entry_tuple_add (PySem.F.args_tuple_add_2 _ _)
      (tuple_addW1 t b vs.toArray ws.toArray n n2 dd dd2 sl sl2 (by simpa using hv) (by simp [hw])) ⟨ho, ho2, h1 hw⟩
  · refine concat_meets ⟨_, ho, rfl⟩ ⟨_, ho2, rfl⟩ noFill_tuple_add seq_tuple_add PySem.F.slot_tuple_add PySem.F.entry_tuple_add (PySem.F.args_tuple_add_2 _ _)
      (tuple_addW2 t b vs.toArray ws.toArray n n2 dd dd2 sl sl2 (by simpa using hv) (by simpa using hw) (by rw [List.size_toArray, List.size_toArray]; exact hsz)) ⟨ho, ho2, ?_⟩
    rw [e]
    exact h2 hw

def sIx (n d : Nat) : Option Int → Nat
  | none => d
  | some v => if v < 0 then (v + (n : Int)).toNat else min v.toNat n
theorem sIx_le (n d : Nat) (hd : d ≤ n) (o : Option Int) : sIx n d o ≤ n := by
  cases o with
  | none => exact hd
  | some v =>
    show (if v < 0 then (v + (n : Int)).toNat else min v.toNat n) ≤ n
    by_cases hv : v < 0
    · rw [if_pos hv]; omega
    · rw [if_neg hv]; exact Nat.min_le_right _ _
theorem clip_eq (v : Int) (n d : Nat) : (if v < 0 then max (v + (n : Int)) 0 else min v (n : Int)) = ((sIx n d (some v) : Nat) : Int) := by
  show (if v < 0 then max (v + (n : Int)) 0 else min v (n : Int)) = (((if v < 0 then (v + (n : Int)).toNat else min v.toNat n) : Nat) : Int)
  by_cases hv : v < 0
  · simp only [if_pos hv]; omega
  · simp only [if_neg hv]; omega
theorem adjust_gen (lo hi : Option Int) (n : Nat) : Builtin.Slice.sliceAdjust lo hi 1 (n : Int) = (((sIx n 0 lo : Nat) : Int), ((sIx n n hi : Nat) : Int)) := by
  have h1 : ¬ ((1 : Int) < 0) := by omega
  unfold Builtin.Slice.sliceAdjust
  simp only [h1, if_false]
  refine Prod.ext ?_ ?_
  · cases lo with
    | none => rfl
    | some v => exact clip_eq v n 0
  · cases hi with
    | none => rfl
    | some v => exact clip_eq v n n
theorem places_gen (i j : Nat) : Builtin.Slice.slicePlaces (i : Int) (j : Int) 1 = j - i := by
  unfold Builtin.Slice.slicePlaces
  have h1 : (1 : Int) > 0 := by omega
  simp only [h1, if_true, Int.ediv_one]
  split <;> omega
theorem slicePart_ {v : Value} {o : Option Int} {Q : Option Int → Shared → Prop} (p : IsPart v o) (h : Q o s) : wpAny (model prog w) A (Builtin.Slice.slicePartIndex v) Q E s := by
  cases p with
  | none => exact slicePart_none h
  | int i t => exact slicePart_int h
theorem sliceApplied_gen {sl : Addr} {vl vu : Value} {lo hi : Option Int} {n : Nat} {Q : Int × Int × Nat → Shared → Prop} (hs : s.heap.IsSliceOf sl vl vu .none) (pl : IsPart vl lo) (pu : IsPart vu hi)
    (h : Q (((sIx n 0 lo : Nat) : Int), 1, sIx n n hi - sIx n 0 lo) s) : wpAny (model prog w) A (Builtin.Slice.sliceApplied (.ref sl) (pure (n : Int))) Q E s := by
  obtain ⟨os, hos, hcs, hds⟩ := id hs
  unfold Builtin.Slice.sliceApplied Builtin.Slice.sliceFields
  refine wpAny_bind (wpAny_bind (wpAny_field hos hds (x := vl) rfl (wpAny_bind (wpAny_field hos hds (x := vu) rfl (wpAny_bind (wpAny_field hos hds (x := .none) rfl (wpAny_pure ?_)))))))
  refine wpAny_bind (slicePart_none ?_)
  show wpAny _ _ (if ((1 : Int) == 0) = true then _ else _) _ _ s
  rw [if_neg (by decide)]
  refine wpAny_bind (slicePart_ pl (wpAny_bind (slicePart_ pu (wpAny_bind (wpAny_pure ?_)))))
  show wpAny _ _ (match Builtin.Slice.sliceAdjust lo hi 1 (n : Int) with | (lo, hi) => pure (lo, (1 : Int), Builtin.Slice.slicePlaces lo hi 1)) _ _ s
  rw [adjust_gen lo hi n]
  show wpAny _ _ (pure (((sIx n 0 lo : Nat) : Int), (1 : Int), Builtin.Slice.slicePlaces ((sIx n 0 lo : Nat) : Int) ((sIx n n hi : Nat) : Int) 1)) _ _ s
  rw [places_gen]
  exact wpAny_pure h
theorem pick_gen (xs : Array Value) (i k : Nat) : ((List.range k).filterMap fun (m : Nat) => xs[((i : Int) + (m : Int) * 1).toNat]?).toArray = ((xs.toList.drop i).take k).toArray := by
  have e : (fun (m : Nat) => xs[((i : Int) + (m : Int) * 1).toNat]?) = fun m => xs[i + m]? := by
    funext m
    have : ((i : Int) + (m : Int) * 1).toNat = i + m := by omega
    rw [this]
  rw [e]
  have := pick_run xs i k
  rw [List.filterMap_map] at this
  have e2 : ((fun x => xs[x]?) ∘ fun x => i + x) = fun m => xs[i + m]? := rfl
  rw [e2] at this
  rw [this]

theorem getItem_tuple_cut {t sl : Addr} {items : Array Value} {vl vu : Value} {lo hi : Option Int} {Q : Value → Shared → Prop} (ht : IsTup s.heap t items) (hs : s.heap.IsSliceOf sl vl vu .none) (pl : IsPart vl lo) (pu : IsPart vu hi)
    (hw : ¬ (sIx items.size 0 lo = 0 ∧ sIx items.size items.size hi = items.size))
    (h : Q (.ref s.heap.objs.size) { s with heap := s.heap.push { cls := .type "tuple", data := .seq ((items.toList.drop (sIx items.size 0 lo)).take (sIx items.size items.size hi - sIx items.size 0 lo)).toArray } })
    (hsz : items.size ≤ sizeLine) : wpAny (model prog w) A (getItem (.ref t) (.ref sl)) Q E s := by
  have htake : sizeOk (.seq ((items.toList.drop (sIx items.size 0 lo)).take (sIx items.size items.size hi - sIx items.size 0 lo)).toArray) := by
    show ((items.toList.drop (sIx items.size 0 lo)).take (sIx items.size items.size hi - sIx items.size 0 lo)).toArray.size ≤ sizeLine
    rw [List.size_toArray, List.length_take, List.length_drop, Array.length_toList]
    omega
  have hj : sIx items.size items.size hi ≤ items.size := sIx_le _ _ (Nat.le_refl _) hi
  obtain ⟨os, hos, hcs, hds⟩ := id hs
  have hTs : s.TypeIs (.ref sl) "slice" := ⟨os, hos, hcs⟩
  unfold getItem
  try with_reducible refine wpAny_holding ?_
  first | refine wpAny_bind (wpAny_pure ?_) | skip
  refine wpAny_bind (wpAny_sequenceKey ht.typeIs (by decide) ?_)
  refine wpAny_bind (wpAny_callSpecial?_slot (name := Str.ofString "__getitem__") ht.typeIs PyProof.Rows.slot_tuple_getitem
    (wpAny_call_entry PyProof.Rows.slot_tuple_getitem ht.typeIs entry_tuple_getitem ?_ (args_tuple_getitem _ _)))
  show wpAny _ _ (Builtin.Tuple.tupleItemsOf (.ref t) >>= _) _ _ s
  refine wpAny_bind (tupleItemsOf_ ht ?_)
  refine wpAny_bind (wpAny_typeOf hTs ?_)
  rw [if_pos (by decide)]
  refine wpAny_bind (sliceApplied_gen hs pl pu ?_)
  have hno : ¬ ((((sIx items.size 0 lo : Nat) : Int) == 0 && (1 : Int) == 1 && (sIx items.size items.size hi - sIx items.size 0 lo) == items.size) = true) := by
    intro q
    rw [Bool.and_eq_true, Bool.and_eq_true] at q
    have q1 : ((sIx items.size 0 lo : Nat) : Int) = 0 := eq_of_beq q.1.1
    have q2 : sIx items.size items.size hi - sIx items.size 0 lo = items.size := eq_of_beq q.2
    exact hw ⟨by omega, by omega⟩
  show wpAny _ _ (if (((sIx items.size 0 lo : Nat) : Int) == 0 && (1 : Int) == 1 && (sIx items.size items.size hi - sIx items.size 0 lo) == items.size) = true then _ else _) _ _ s
  rw [if_neg hno, pick_gen]
  first
    | exact wpAny_bind (m := Builtin.Tuple.tupleExact _) (wpAny_newObj_type (wpAny_pure ⟨_, rfl, wpAny_pure h⟩) htake)
    | exact wpAny_bind (m := Builtin.Tuple.tupleExact _) (wpAny_newObj_type (wpAny_bind (wpAny_pure (wpAny_pure ⟨_, rfl, wpAny_pure h⟩))) htake)
    | exact wpAny_bind (wpAny_bind (m := Builtin.Tuple.tupleExact _) (wpAny_newObj_type (wpAny_pure (wpAny_pure ⟨_, rfl, wpAny_pure h⟩)) htake))
    | exact wpAny_bind (wpAny_bind (m := Builtin.Tuple.tupleExact _) (wpAny_newObj_type (wpAny_pure ⟨_, rfl, wpAny_pure h⟩) htake))
end
end HT

namespace L2
open PySem PySem.Spec PyProof.Rows

abbrev TO := St → Hp → (Option Int → Hp → Prop) → Prop

def PO (X : Cx) (e : Option Expr) (t : TO) : Prop :=
  ∀ (pins : List (Addr × Obj)) (s : Shared) (σ : St) (H : Hp) (Q : Option Int → Hp → Prop), Inv X pins σ H s → t σ H Q →
    wpAny (model X.prog X.w) X.A (evalPart e X.env) (fun u s' => ∃ o H', Inv X pins σ H' s' ∧ IsPart u o ∧ Q o H') X.xe s
def tNoPart : TO := fun _ H Q => Q none H
def tPart (t : TE) : TO := fun σ H Q => t σ H fun x H1 => ∃ i, x = .int i ∧ Q (some i) H1

section
variable {X : Cx} {e : Expr} {te : TE} {lo hi : Option Expr} {tl th : TO} {pos p2 : Pos}

theorem po_none : PO X none tNoPart := by
  intro pins s σ H Q I h
  rw [evalPart_none]
  exact wpAny_pure ⟨none, H, I, .none, h⟩
theorem po_some (h : PE X e te) : PO X (some e) (tPart te) := by
  intro pins s σ H Q I hw
  rw [evalPart_some]
  refine thn (h pins s σ H _ I hw) fun u s1 ⟨x, H1, I1, r1, q1⟩ => ?_
  obtain ⟨i, rfl, q⟩ := q1
  obtain ⟨t, rfl⟩ := r1
  exact ⟨some i, H1, I1, .int i t, q⟩

def SlR (X : Cx) (r : V → Option Int → Option Int → Hp → VK → Prop) : Prop :=
  ∀ (pins : List (Addr × Obj)) (s : Shared) (σ : St) (H : Hp) (x : V) (v vl vu : Value) (lo hi : Option Int) (sl : Addr) (Q : VK), Inv X pins σ H s → RelV x v → s.heap.IsSliceOf sl vl vu .none → IsPart vl lo → IsPart vu hi → r x lo hi H Q →
    ∃ T id, typeLookup (.type T) "__getitem__" = pure (some (.builtin id)) ∧ s.TypeIs v T ∧ wpAny (model X.prog X.w) X.A (getItem v (.ref sl)) (EP X pins σ Q) X.xe s
def tSl (r : V → Option Int → Option Int → Hp → VK → Prop) (te : TE) (tl th : TO) : TE := fun σ H Q => te σ H fun x H1 => tl σ H1 fun l H2 => th σ H2 fun u H3 => r x l u H3 Q

theorem pe_slice {r : V → Option Int → Option Int → Hp → VK → Prop} (hr : SlR X r) (he : PE X e te) (hl : PO X lo tl) (hu : PO X hi th) : PE X (.Subscript e (.Slice lo hi none p2) pos) (tSl r te tl th) := by
  refine ⟨?_⟩
  intro pins s σ H Q I h
  refine Subscript_ (thn (he pins s σ H _ I h) fun v s1 ⟨x, H1, I1, r1, q1⟩ => ?_)
  refine wpAny_Slice (thn (hl pins s1 σ H1 _ I1 q1) fun vl s2 ⟨l, H2, I2, pl, q2⟩ => thn (hu pins s2 σ H2 _ I2 q2) fun vu s3 ⟨u, H3, I3, pu, q3⟩ => ?_)
  rw [evalPart_none]
  refine wpAny_pure ?_
  have I4 : Inv X pins σ H3 { s3 with heap := s3.heap.push { cls := .type "slice", data := .fields #[vl, vu, .none] } } := I3.kept (t' := s3.toks) fun b ob q => Heap.get?_push_of_some _ q
  obtain ⟨T, id, hT, ht, hg⟩ := hr pins { s3 with heap := s3.heap.push { cls := .type "slice", data := .fields #[vl, vu, .none] } } σ H3 x v vl vu l u s3.heap.objs.size Q I4 r1 (Heap.IsSliceOf.new ..) pl pu q3
  show wpAny (model X.prog X.w) X.A (subscriptTail e (.Slice lo hi none p2) v (.ref s3.heap.objs.size)) (EP X pins σ Q) X.xe { s3 with heap := s3.heap.push { cls := .type "slice", data := .fields #[vl, vu, .none] } }
  exact tail_any (ops := [.ref s3.heap.objs.size, v]) ht hT hg (by with_unfolding_all rfl)

def cutV (xs : List V) (lo hi : Option Int) : List V := (xs.drop (HT.sIx xs.length 0 lo)).take (HT.sIx xs.length xs.length hi - HT.sIx xs.length 0 lo)
theorem cutV_length (xs : List V) (lo hi : Option Int) : (cutV xs lo hi).length ≤ xs.length := by
  unfold cutV
  rw [List.length_take, List.length_drop]
  omega

def rSlT (K : PySem.W.Frag) : V → Option Int → Option Int → Hp → VK → Prop := fun x lo hi H Q => ∃ a xs, x = .ref a ∧ SqT K H a xs ∧
  ¬ (HT.sIx xs.length 0 lo = 0 ∧ HT.sIx xs.length xs.length hi = xs.length) ∧ ∀ p, H p = none → Q (.ref p) (upd H p (.tup (cutV xs lo hi)))
theorem sl_tup : SlR X (rSlT X.K) := by
  intro pins s σ H x v vl vu lo hi sl Q I rx hs pl pu h
  obtain ⟨a, xs, rfl, hx, hw, q⟩ := h
  cases rx
  obtain ⟨its, r, ht, hz⟩ := I.tuple hx
  have hlen : its.toArray.size = xs.length := by rw [List.size_toArray]; exact r.length.symm
  refine ⟨"tuple", _, PyProof.Rows.slot_tuple_getitem.lookup, ht.typeIs, ?_⟩
  refine HT.getItem_tuple_cut ht hs pl pu (by rw [hlen]; exact hw) ?_ (by rw [hlen]; exact hz)
  rw [hlen]
  refine ⟨.ref s.heap.objs.size, _, I.laid (t' := s.toks) (o := .tup (cutV xs lo hi)) (fun b ob q => Heap.get?_push_of_some _ q) (Nat.le_refl _) ?_, rfl, q _ (I.hok.fresh (Nat.le_refl _))⟩
  exact ⟨Nat.le_trans (cutV_length xs lo hi) hz, _, (r.drop (HT.sIx xs.length 0 lo)).take (HT.sIx xs.length xs.length hi - HT.sIx xs.length 0 lo), IsTup.new _ _⟩

def rCatT (K : PySem.W.Frag) : R2 := fun x y H Q => ∃ a b xs ys, x = .ref a ∧ y = .ref b ∧ SqT K H a xs ∧ SqT K H b ys ∧ xs ≠ [] ∧ xs.length + ys.length ≤ sizeLine ∧
  (ys = [] → Q (.ref a) H) ∧ (ys ≠ [] → ∀ p, H p = none → Q (.ref p) (upd H p (.tup (xs ++ ys))))
theorem Vals.nil_iff {xs : List V} {us : List Value} (r : Vals xs us) : us = [] ↔ xs = [] := by
  cases r with
  | nil => simp
  | cons _ _ => simp
theorem op_catT : OpR X (binaryOp .Add) (rCatT X.K) := by
  intro pins s σ H x y v u Q I rx ry h
  obtain ⟨a, b, xs, ys, rfl, rfl, ha, hb, hx, hz, q1, q2⟩ := h
  cases rx
  cases ry
  obtain ⟨its, r1, p1, _⟩ := I.tuple ha
  obtain ⟨its2, r2, p2, _⟩ := I.tuple hb
  refine HT.cat_tup p1 p2 (fun z => hx (r1.nil_iff.mp z)) (fun z => ⟨.ref a, H, I, rfl, q1 (r2.nil_iff.mp z)⟩) (fun z => ?_) (by rw [← r1.length, ← r2.length]; exact hz)
  refine ⟨.ref s.heap.objs.size, _, I.laid (t' := s.toks) (o := .tup (xs ++ ys)) (fun b ob q => Heap.get?_push_of_some _ q) (Nat.le_refl _) ?_, rfl, q2 (fun w => z (r2.nil_iff.mpr w)) _ (I.hok.fresh (Nat.le_refl _))⟩
  exact ⟨by rw [List.length_append]; exact hz, _, r1.append r2, IsTup.new _ _⟩

end
end L2

namespace L2
open PySem PySem.Spec PyProof.Rows

def ixN (n : Nat) (i : Int) : Option Nat := if 0 ≤ i then (if i < n then some i.toNat else none) else if -(n : Int) ≤ i then some (i + n).toNat else none
def atI {α : Type} (xs : List α) (i : Int) : Option α := (ixN xs.length i).bind fun j => xs[j]?
theorem ixN_seq {n : Nat} {i : Int} {j : Nat} (h : ixN n i = some j) : seqIndex? i n = some j ∧ j < n ∧ -(n : Int) ≤ i ∧ i < n := by
  unfold ixN at h
  by_cases h0 : 0 ≤ i
  · rw [if_pos h0] at h
    by_cases h1 : i < n
    · rw [if_pos h1] at h
      have e : i.toNat = j := Option.some.inj h
      exact ⟨by rw [seqIndex_of h0 h1, e], by omega, by omega, h1⟩
    · rw [if_neg h1] at h; cases h
  · rw [if_neg h0] at h
    by_cases h1 : -(n : Int) ≤ i
    · rw [if_pos h1] at h
      have e : (i + n).toNat = j := Option.some.inj h
      exact ⟨by rw [seqIndex_neg (by omega) h1, e], by omega, h1, by omega⟩
    · rw [if_neg h1] at h; cases h
theorem atI_get {α : Type} {xs : List α} {i : Int} {v : α} (h : atI xs i = some v) : ∃ j, seqIndex? i xs.length = some j ∧ xs[j]? = some v ∧ j < xs.length ∧ -(xs.length : Int) ≤ i ∧ i < xs.length := by
  unfold atI at h
  cases e : ixN xs.length i with
  | none => rw [e] at h; cases h
  | some j =>
    rw [e] at h
    obtain ⟨h1, h2, h3, h4⟩ := ixN_seq e
    exact ⟨j, h1, h, h2, h3, h4⟩
theorem atI_nat {α : Type} {xs : List α} {j : Nat} {v : α} (h : xs[j]? = some v) : atI xs (j : Int) = some v := by
  have hj : j < xs.length := (List.getElem?_eq_some_iff.mp h).1
  have e : ixN xs.length (j : Int) = some j := by
    unfold ixN
    rw [if_pos (by omega), if_pos (by omega)]; simp
  unfold atI; rw [e]; exact h
def PlainIx (b : Expr) : Prop := ∀ o i, subscripted b false o i = operate [o, i] (getItem o i)

def IxR (X : Cx) (r : R2) : Prop :=
  ∀ (value slice : Expr) (pins : List (Addr × Obj)) (s : Shared) (σ : St) (H : Hp) (x y : V) (v u : Value) (Q : VK), Inv X pins σ H s → RelV x v → RelV y u → r x y H Q →
    subscripted slice false v u = operate [v, u] (getItem v u) → wpAny (model X.prog X.w) X.A (subscriptTail value slice v u) (EP X pins σ Q) X.xe s

def MtR (X : Cx) (id : String) (r : V → List V → Hp → VK → Prop) : Prop :=
  ∀ (pins : List (Addr × Obj)) (s : Shared) (σ : St) (H : Hp) (x : V) (xs : List V) (v : Value) (us : List Value) (Q : VK), Inv X pins σ H s → RelV x v → Vals xs us → r x xs H Q →
    wpAny (model X.prog X.w) X.A (call (.builtin id) (v :: us)) (EP X pins σ Q) X.xe s
section
variable {X : Cx} {a b : Expr} {ta tb : TE} {pos : Pos}
theorem pe_ix {r : R2} (hr : IxR X r) (ha : PE X a ta) (hb : PE X b tb) (hs : PlainIx b) : PE X (.Subscript a b pos) (tOp r ta tb) := by
  refine ⟨?_⟩
  intro pins s σ H Q I h
  exact Subscript_ (binT ha hb I h fun v u s2 x y H2 I2 rx ry q => hr a b pins s2 σ H2 x y v u Q I2 rx ry q (hs _ _))

def rIxL (K : PySem.W.Frag) : R2 := fun x y H Q => ∃ p xs i v, x = .ref p ∧ y = .int i ∧ SqL K H p xs ∧ atI xs i = some v ∧ Q v H
def rIxT (K : PySem.W.Frag) : R2 := fun x y H Q => ∃ p xs i v, x = .ref p ∧ y = .int i ∧ SqT K H p xs ∧ atI xs i = some v ∧ Q v H
theorem ix_list : IxR X (rIxL X.K) := by
  intro value slice pins s σ H x y v u Q I rx ry h hs
  obtain ⟨p, xs, i, z, rfl, rfl, hq, he, q⟩ := h
  cases rx
  obtain ⟨t, rfl⟩ := ry
  obtain ⟨its, r, pl, hz⟩ := I.list hq
  obtain ⟨j, h1, h2, h3, h4, h5⟩ := atI_get he
  obtain ⟨w, ew, rw'⟩ := r.get h2
  have hl := r.length
  have hn := line63
  have fin : EP X pins σ Q w s := ⟨z, H, I, rw', q⟩
  by_cases h0 : 0 ≤ i
  · have hj : i.toNat = j := by
      rw [seqIndex_of h0 h5] at h1
      exact Option.some.inj h1
    exact item_listR pl.isList h0 (by omega) (by rw [hj]; simpa using ew) fin hs
  · have hj : (i + (its.toArray.size : Int)).toNat = j := by
      rw [seqIndex_neg (by omega) h4] at h1
      rw [List.size_toArray, ← hl]
      exact Option.some.inj h1
    exact subscriptTail_builtinR (x := w) pl.isList.typeIs slot_list_getitem.lookup
      (wpAny_getItem_list_neg (Q := fun r s' => r = w ∧ EP X pins σ Q r s') pl.isList (by omega) (by rw [List.size_toArray] <;> omega) (by omega) (by rw [hj]; simpa using ew) ⟨rfl, fin⟩) hs
theorem ix_tup : IxR X (rIxT X.K) := by
  intro value slice pins s σ H x y v u Q I rx ry h hs
  obtain ⟨p, xs, i, z, rfl, rfl, hq, he, q⟩ := h
  cases rx
  obtain ⟨t, rfl⟩ := ry
  obtain ⟨its, r, pl, hz⟩ := I.tuple hq
  obtain ⟨j, h1, h2, h3, h4, h5⟩ := atI_get he
  obtain ⟨w, ew, rw'⟩ := r.get h2
  have hl := r.length
  have hn := line63
  have fin : EP X pins σ Q w s := ⟨z, H, I, rw', q⟩
  exact subscriptTail_builtinR (x := w) pl.typeIs slot_tuple_getitem.lookup
    (getItem_tuple (j := j) (Q := fun r s' => r = w ∧ EP X pins σ Q r s') pl (by omega) (by omega) (by rw [List.size_toArray, ← hl]; exact h1) (by simpa using ew) ⟨rfl, fin⟩) hs
theorem mapSeq_set (its : List Value) (n j : Nat) (u : Value) : Obj.mapSeq (·.setIfInBounds j u) { cls := .type "list", data := .seq its.toArray n } = { cls := .type "list", data := .seq (its.set j u).toArray n } := by
  simp [Obj.mapSeq]
theorem Inv.lst {pins : List (Addr × Obj)} {σ : St} {H : Hp} {s : Shared} {p : Addr} {xs : List V} (I : Inv X pins σ H s) (h : H p = some (.lst xs)) :
    ∃ (its : List Value) (n : Nat), Vals xs its ∧ s.heap.get? p = some { cls := .type "list", data := .seq its.toArray n } ∧ xs.length ≤ sizeLine := by
  obtain ⟨z, its, n, r, e⟩ := I.hok p _ h
  exact ⟨its, n, r, e, z⟩

theorem Inv.lstUpd {pins : List (Addr × Obj)} {σ : St} {H : Hp} {s : Shared} {p : Addr} {xs ys : List V} {its its' : List Value} {n n' : Nat} {f : Obj → Obj} (I : Inv X pins σ H s) (h : H p = some (.lst xs))
    (ho : s.heap.get? p = some { cls := .type "list", data := .seq its.toArray n }) (hf : f { cls := .type "list", data := .seq its.toArray n } = { cls := .type "list", data := .seq its'.toArray n' }) (r : Vals ys its') (hz : ys.length ≤ sizeLine) (t : Nat) :
    Inv X pins σ (upd H p (.lst ys)) { s with heap := s.heap.update p f, toks := t } := by
  have e : (s.heap.update p f).get? p = some { cls := .type "list", data := .seq its'.toArray n' } := by
    rw [Heap.get?_update_self f ho (by rw [hf] <;> rfl), hf]
  refine I.write (x := p) (e := p) (by rw [h]; trivial) (.inl rfl) (fun b u hb q => (Heap.get?_update_other _ _ (Ne.symm hb)).trans q) ⟨_, e⟩ ?_
  exact ⟨hz, its', n', r, e⟩
def rSetL : V → V → V → Hp → (Hp → Prop) → Prop := fun o i v H Q => ∃ p xs k j, o = .ref p ∧ i = .int k ∧ H p = some (.lst xs) ∧ ixN xs.length k = some j ∧ Q (upd H p (.lst (xs.set j v)))
theorem set_list : PSet X rSetL := by
  intro pins s σ H o i v ov iv u Q I ro ri rv h
  obtain ⟨p, xs, k, j, rfl, rfl, hp, hj, q⟩ := h
  cases ro
  obtain ⟨t, rfl⟩ := ri
  obtain ⟨its, n, r, ho, hz⟩ := I.lst hp
  obtain ⟨h1, h2, h3, h4⟩ := ixN_seq hj
  have hl := r.length
  have hn := line63
  have I' : Inv X pins σ (upd H p (.lst (xs.set j v))) { s with heap := s.heap.update p (Obj.mapSeq (·.setIfInBounds j u)) } :=
    I.lstUpd hp ho (mapSeq_set its n j u) (r.set rv j) (by rw [List.length_set]; exact hz) s.toks
  by_cases h0 : 0 ≤ k
  · have hk : k.toNat = j := by
      rw [seqIndex_of h0 h4] at h1
      exact Option.some.inj h1
    exact PySem.W.ki_setAt ho h0 (by omega) (by rw [List.size_toArray, ← hl]; exact h4) (by rw [hk]; exact ⟨_, I', q⟩)
  · have hk : (k + (its.toArray.size : Int)).toNat = j := by
      rw [seqIndex_neg (by omega) h3] at h1
      rw [List.size_toArray, ← hl]
      exact Option.some.inj h1
    exact PySem.W.ki_setBack ho (by omega) (by rw [List.size_toArray, ← hl]; exact h3) (by omega) (by rw [hk]; exact ⟨_, I', q⟩)

theorem call_len_seq : CallR X (.builtin "len") (fun xs H Q => ∃ p ys, xs = [.ref p] ∧ (SqL X.K H p ys ∨ SqT X.K H p ys) ∧ Q (.int ys.length) H) := by
  intro pins s σ H xs us Q I r h
  obtain ⟨p, ys, rfl, hq, q⟩ := h
  obtain ⟨u, rfl, rx⟩ := vals1 r
  cases rx
  have hn := line63
  rcases hq with hq | hq
  · obtain ⟨its, r', pl, hz⟩ := I.list hq
    have hlen := r'.length
    exact Calls.call_len_list pl.isList (by simp only [List.size_toArray] <;> omega) ⟨.int ys.length, H, I.tok _, ⟨s.toks + 1, by rw [List.size_toArray, hlen]⟩, q⟩
  · obtain ⟨its, r', pl, hz⟩ := I.tuple hq
    have hlen := r'.length
    exact len_tuple pl (by simp only [List.size_toArray] <;> omega) ⟨.int ys.length, H, I.tok _, ⟨s.toks + 1, by rw [List.size_toArray, hlen]⟩, q⟩
theorem call_list_of : CallR X (.type "list") (fun xs H Q => ∃ p ys, xs = [.ref p] ∧ (SqL X.K H p ys ∨ SqT X.K H p ys) ∧ ∀ l, H l = none → Q (.ref l) (upd H l (.lst ys))) := by
  intro pins s σ H xs us Q I r h
  obtain ⟨p, ys, rfl, hq, q⟩ := h
  obtain ⟨u, rfl, rx⟩ := vals1 r
  cases rx
  have fin : ∀ (its : List Value), Vals ys its → ys.length ≤ sizeLine → ∀ (h' : Heap) (c' : Nat), (∀ b o', s.heap.get? b = some o' → h'.get? b = some o') →
      h'.get? s.heap.objs.size = some { cls := .type "list", dict := none, data := .seq its.toArray c', slots := #[] } → EP X pins σ Q (.ref s.heap.objs.size) { s with heap := h' } := fun its r' hz h' c' kp e =>
    ⟨.ref s.heap.objs.size, _, I.laid (t' := s.toks) kp (Nat.le_refl _) (show ObjOk X.prog X.w _ h' _ (.lst ys) from ⟨hz, its, c', r', e⟩), rfl, q _ (I.hok.fresh (Nat.le_refl _))⟩
  rcases hq with hq | hq
  · obtain ⟨its, r', pl, hz⟩ := I.list hq
    have hlen := r'.length
    obtain ⟨o, ho, hc, n, hd⟩ := pl.isList
    exact call_list_seq p (.inl rfl) ho hc hd (fun h' c' kp e => fin its r' hz h' c' kp e) (by simp only [List.size_toArray] <;> omega)
  · obtain ⟨its, r', pl, hz⟩ := I.tuple hq
    have hlen := r'.length
    obtain ⟨o, ho, hc, n, hd⟩ := pl
    exact call_list_seq p (.inr rfl) ho hc hd (fun h' c' kp e => fin its r' hz h' c' kp e) (by simp only [List.size_toArray] <;> omega)
theorem call_tuple_of : CallR X (.type "tuple") (fun xs H Q => ∃ p ys, xs = [.ref p] ∧ ((SqL X.K H p ys ∧ ∀ l, H l = none → Q (.ref l) (upd H l (.tup ys))) ∨ (SqT X.K H p ys ∧ Q (.ref p) H))) := by
  intro pins s σ H xs us Q I r h
  obtain ⟨p, ys, rfl, h⟩ := h
  obtain ⟨u, rfl, rx⟩ := vals1 r
  cases rx
  rcases h with ⟨hq, q⟩ | ⟨hq, q⟩
  · obtain ⟨its, r', pl, hz⟩ := I.list hq
    have hlen := r'.length
    refine call_tuple_list pl.isList (fun h' kp => ?_) (by simp only [List.size_toArray] <;> omega)
    have I1 : Inv X pins σ H { s with heap := h' } := I.kept (t' := s.toks) kp
    have I2 : Inv X pins σ (upd H h'.objs.size (.tup ys)) { s with heap := h'.push { cls := .type "tuple", data := .seq its.toArray } } :=
      I1.laid (t' := s.toks) (fun b o e => Heap.get?_push_of_some _ e) (Nat.le_refl _) (show ObjOk X.prog X.w _ _ _ (.tup ys) from ⟨hz, its, r', IsTup.new _ _⟩)
    exact ⟨.ref h'.objs.size, _, I2, rfl, q _ (I1.hok.fresh (Nat.le_refl _))⟩
  · obtain ⟨its, r', pl, hz⟩ := I.tuple hq
    exact call_tuple_same pl ⟨.ref p, H, I, rfl, q⟩

def tyV (K : PySem.W.Frag) (T : String) (x : V) (H : Hp) : Prop := match x with
  | .str _ => T = "str"
  | .int _ => T = "int"
  | .ref p => (T = "list" ∧ ∃ xs, SqL K H p xs) ∨ (T = "tuple" ∧ ∃ o, K.lookup p = some o ∧ o.cls = .type "tuple" ∧ o.dict = none) ∨
      (T = "dict" ∧ ((∃ kvs, H p = some (.dK kvs)) ∨ ∃ kvs, H p = some (.dT kvs))) ∨ (T = "set" ∧ ∃ S n, H p = some (.set S n))
  | _ => False
theorem tyV_is {pins : List (Addr × Obj)} {σ : St} {H : Hp} {s : Shared} {T : String} {x : V} {v : Value} (I : Inv X pins σ H s) (r : RelV x v) (ty : tyV X.K T x H) :
    s.TypeIs v T ∧ ∀ a, v = .ref a → ∃ ob, s.heap.get? a = some ob ∧ ob.dict = none := by
  cases x with
  | str z =>
    obtain ⟨t, rfl⟩ := r
    cases (show T = "str" from ty)
    exact ⟨typeIs_str s z t, fun _ e => nomatch e⟩
  | int i =>
    obtain ⟨t, rfl⟩ := r
    cases (show T = "int" from ty)
    exact ⟨typeIs_int s i t, fun _ e => nomatch e⟩
  | ref p =>
    cases r
    rcases ty with ⟨rfl, xs, hq⟩ | ⟨rfl, o, hk, hc, hd⟩ | ⟨rfl, hk⟩ | ⟨rfl, S, n, hk⟩
    · obtain ⟨its, _, pl, _⟩ := I.list hq
      refine ⟨pl.isList.typeIs, fun a e => ?_⟩
      cases e
      obtain ⟨o, n, e, c, hd, _⟩ := pl
      exact ⟨o, e, hd⟩
    · refine ⟨⟨o, I.kIn p o hk, hc⟩, fun a e => ?_⟩
      cases e
      exact ⟨o, I.kIn _ o hk, hd⟩
    · have z : ∃ o, s.heap.get? p = some o ∧ o.ExactDict := by
        rcases hk with ⟨kvs, hk⟩ | ⟨kvs, hk⟩
        · obtain ⟨_, _, _, _, o, _, _, e, ex, _⟩ := I.hok p _ hk
          exact ⟨o, e, ex⟩
        · obtain ⟨_, _, _, _, o, _, _, e, ex, _⟩ := I.hok p _ hk
          exact ⟨o, e, ex⟩
      obtain ⟨o, e, ex⟩ := z
      refine ⟨⟨o, e, ex.1⟩, fun a e2 => ?_⟩
      cases e2
      exact ⟨o, e, ex.2.1⟩
    · obtain ⟨o, _, _, _, e, ex, _⟩ := I.hok p _ hk
      refine ⟨⟨o, e, ex.1⟩, fun a e2 => ?_⟩
      cases e2
      exact ⟨o, e, ex.2.1⟩
  | _ => exact False.elim ty
def tBM (K : PySem.W.Frag) (T : String) (r : V → List V → Hp → VK → Prop) (to : TE) (t : TA) : TE := fun σ H Q => to σ H fun x H1 => tyV K T x H1 ∧ t σ H1 fun xs H2 => r x xs H2 Q
variable {o e : Expr} {es : List Expr} {to : TE} {t : TA} {name : Str} {apos cpos : Pos} {T id : String} {r : V → List V → Hp → VK → Prop}
theorem pe_bm (pa : PlainAttrs T) (slot : Slot T name id) (hty : typeOf (.builtin id) = pure (.type "method_descriptor")) (hm : MtR X id r) (ho : PE X o to) (ha : PA X (e :: es) t)
    (hbase : attributeBase o name X.env (eval o X.env) = eval o X.env := by rfl)
    (hfew : ((backTo cpos (starEach (e :: es) X.env)).all (fun x => !x.1) && (backToKw cpos (keywordEach [] X.env)).all (fun x => x.1.isSome)
      && decide ((e :: es).length + ([] : List Keyword).length + (if ([] : List Keyword).isEmpty then 0 else 1) < 30)) = true := by rfl)
    (hline : (apos.endLine == cpos.line) = true := by rfl) (hs : starEach (e :: es) X.env = (false, eval e X.env) :: starEach es X.env := by rfl) (hplain : (backTo cpos (starEach es X.env)).any (·.1) = false := by rfl) :
    PE X (.Call (.Attribute o name apos) (e :: es) [] cpos) (tBM X.K T r to t) := by
  refine ⟨?_⟩
  intro pins s σ H Q I h
  refine wpAny_Call_method_late hbase hfew hline rfl (thn (ho pins s σ H _ I h) fun v s1 ⟨x, H1, I1, r1, ty, q1⟩ => ?_)
  obtain ⟨h1, h2⟩ := tyV_is I1 r1 ty
  refine ⟨T, id, pa, slot, hty, h1, h2, ?_⟩
  have hA := ha cpos pins s1 σ H1 _ I1 q1
  rw [hs] at hA ⊢
  refine Calls.callWith_builtin (by show (false || (backTo cpos (starEach es X.env)).any (·.1)) = false; rw [hplain] <;> rfl) (Calls.evalArgs_plain ?_)
  exact thn hA fun us s2 ⟨vs, H2, I2, r2, q2⟩ => hm pins s2 σ H2 x vs v us Q I2 r1 r2 q2

end
end L2

namespace L2
open PySem PySem.Spec PyProof.Rows

def MtM (X : Cx) (id : String) (r : V → List V → Hp → VK → Prop) : Prop :=
  ∀ (pins : List (Addr × Obj)) (s : Shared) (σ : St) (H : Hp) (x : V) (xs : List V) (v : Value) (us : List Value) (Q : VK), Inv X pins σ H s → RelV x v → Vals xs us → r x xs H Q →
    wpAny (model X.prog X.w) X.A (call (.builtin id) (v :: us)) (EP X pins σ Q) X.xe s

theorem Vals.one : ∀ {x : V} {us : List Value}, Vals [x] us → ∃ u, us = [u] ∧ RelV x u
  | _, _, .cons r .nil => ⟨_, rfl, r⟩
theorem Vals.zero : ∀ {us : List Value}, Vals [] us → us = []
  | _, .nil => rfl
theorem Vals.eraseIdx : ∀ {xs : List V} {us : List Value} (i : Nat), Vals xs us → Vals (xs.eraseIdx i) (us.eraseIdx i)
  | _, _, _, .nil => .nil
  | _, _, 0, .cons _ t => t
  | _, _, i + 1, .cons r t => .cons r (Vals.eraseIdx i t)
theorem Vals.reverse {xs : List V} {us : List Value} (h : Vals xs us) : Vals xs.reverse us.reverse := by
  induction h with
  | nil => exact .nil
  | cons r t ih => rw [List.reverse_cons, List.reverse_cons]; exact Vals.append ih (.cons r .nil)
theorem Vals.rep {xs : List V} {us : List Value} (h : Vals xs us) : ∀ k : Nat, Vals (List.replicate k xs).flatten (List.replicate k us).flatten
  | 0 => .nil
  | k + 1 => by
    rw [List.replicate_succ, List.replicate_succ, List.flatten_cons, List.flatten_cons]
    exact Vals.append h (Vals.rep h k)
theorem len_erase {α : Type} : ∀ (l : List α) (i : Nat), (l.eraseIdx i).length ≤ l.length
  | [], _ => Nat.le_refl _
  | _ :: _, 0 => Nat.le_succ _
  | _ :: r, i + 1 => Nat.succ_le_succ (len_erase r i)
theorem foldl_rep (its : List Value) : ∀ (k : Nat) (acc : List Value),
    List.foldl (fun x1 x2 => x1 ++ x2) acc.toArray (List.replicate k its.toArray) = (acc ++ (List.replicate k its).flatten).toArray
  | 0, acc => by simp
  | k + 1, acc => by
    have e : acc.toArray ++ its.toArray = (acc ++ its).toArray := by simp
    have e2 : (acc ++ its) ++ (List.replicate k its).flatten = acc ++ (List.replicate (k + 1) its).flatten := by
      rw [List.replicate_succ, List.flatten_cons, List.append_assoc]
    rw [← e2, ← foldl_rep its k (acc ++ its), ← e, List.replicate_succ, List.foldl_cons]

section
variable {X : Cx} {pins : List (Addr × Obj)} {σ : St} {H : Hp} {s : Shared} {l b : Addr} {xs ys zs : List V}

theorem Inv.lset {its its' : List Value} {n : Nat} {f : Array Value → Array Value} {t' : Nat} (I : Inv X pins σ H s) (hH : H l = some (.lst xs))
    (e : s.heap.get? l = some { cls := .type "list", data := .seq its.toArray n }) (hf : f its.toArray = its'.toArray) (hv : Vals ys its') (hz : ys.length ≤ sizeLine) :
    Inv X pins σ (upd H l (.lst ys)) { s with heap := s.heap.update l (Obj.mapSeq f), toks := t' } := by
  have q := PySem.IsL.update e f
  rw [hf] at q
  refine I.write (x := l) (e := l) (by rw [hH]; exact trivial) (.inl rfl) (fun b' u hb hu => (Heap.get?_update_other s.heap (Obj.mapSeq f) (Ne.symm hb)).trans hu) ⟨_, q⟩ ?_
  exact ⟨hz, its', _, hv, q⟩
theorem Inv.lnew {its : List Value} {t' : Nat} (I : Inv X pins σ H s) (hv : Vals ys its) (hz : ys.length ≤ sizeLine) :
    Inv X pins σ (upd H s.heap.objs.size (.lst ys)) { s with heap := s.heap.push { cls := .type "list", data := .seq its.toArray }, toks := t' } :=
  I.laid (fun _ _ q => Heap.get?_push_of_some _ q) (Nat.le_refl _) ⟨hz, its, 0, hv, Heap.get?_push_size _ rfl⟩
theorem Inv.fresh (I : Inv X pins σ H s) : H s.heap.objs.size = none := I.hok.fresh (Nat.le_refl _)
theorem Inv.lstM (I : Inv X pins σ H s) (hH : H l = some (.lst xs)) : xs.length ≤ sizeLine ∧ ∃ (its : List Value) (n : Nat), Vals xs its ∧ xs.length = its.length ∧ s.heap.get? l = some { cls := .type "list", data := .seq its.toArray n } := by
  obtain ⟨z, its, n, r, e⟩ := I.hok l _ hH
  exact ⟨z, its, n, r, r.length, e⟩

theorem notLongL {n : Nat} (h : n ≤ sizeLine) : Builtin.List.listTooLong n = false := by
  unfold Builtin.List.listTooLong
  exact decide_eq_false (by omega)
end

section
variable {X : Cx}

def rAppend : V → List V → Hp → VK → Prop := fun x vs H Q => ∃ l xs y, x = .ref l ∧ vs = [y] ∧ H l = some (.lst xs) ∧ xs.length < sizeLine ∧ Q .non (upd H l (.lst (xs ++ [y])))
theorem mt_append : MtM X "list.append" rAppend := by
  intro pins s σ H x vs v us Q I rx rv h
  obtain ⟨l, xs, y, rfl, rfl, hH, hz, q⟩ := h
  cases rx
  obtain ⟨u, rfl, ru⟩ := rv.one
  obtain ⟨z, its, n, r, hl, e⟩ := I.lstM hH
  refine call_meets F.slot_list_append ⟨_, e, rfl⟩ F.entry_list_append (F.args_list_append_2 _ _) (PySem.list_append l its.toArray n u (by rw [List.size_toArray]; omega)) ⟨e, ?_⟩
  refine ⟨.non, _, I.lset (its' := its ++ [u]) hH e (by simp) (r.append (.cons ru .nil)) ?_, rfl, q⟩
  rw [List.length_append, List.length_singleton]
  omega

def rPopAt : V → List V → Hp → VK → Prop := fun x vs H Q => ∃ l xs i k y, x = .ref l ∧ vs = [.int i] ∧ H l = some (.lst xs) ∧ -(2 ^ 63) ≤ i ∧ i < 2 ^ 63 ∧ seqIndex? i xs.length = some k ∧ xs[k]? = some y ∧ Q y (upd H l (.lst (xs.eraseIdx k)))
theorem mt_popAt : MtM X "list.pop" rPopAt := by
  intro pins s σ H x vs v us Q I rx rv h
  obtain ⟨l, xs, i, k, y, rfl, rfl, hH, h1, h2, hk, hy, q⟩ := h
  cases rx
  obtain ⟨u, rfl, ru⟩ := rv.one
  obtain ⟨t, rfl⟩ := ru
  obtain ⟨z, its, n, r, hl, e⟩ := I.lstM hH
  obtain ⟨w, hw, rw'⟩ := r.get hy
  refine call_meets F.slot_list_pop ⟨_, e, rfl⟩ F.entry_list_pop (F.args_list_pop_2 _ _)
    (MeetsSeq.list_pop_at l its.toArray n i t k w (fitsIndex_both h1 h2) (by rw [List.size_toArray, ← hl]; exact hk) (by rw [← Array.getElem?_toList]; exact hw) (by rw [List.size_toArray]; omega)) ⟨e, ?_⟩
  refine ⟨y, _, I.lset (its' := its.eraseIdx k) hH e ?_ (r.eraseIdx k) ?_, rw', q⟩
  · show its.toArray.eraseIdxIfInBounds k = (its.eraseIdx k).toArray
    rw [List.eraseIdxIfInBounds_toArray]
  · have := len_erase xs k
    omega

def rRep : R2 := fun x y H Q => ∃ l k xs, x = .ref l ∧ y = .int k ∧ H l = some (.lst xs) ∧ -(2 ^ 63) ≤ k ∧ k < 2 ^ 63 ∧ xs.length * k.toNat ≤ sizeLine ∧
  ∀ p, H p = none → Q (.ref p) (upd H p (.lst (List.replicate k.toNat xs).flatten))
theorem len_rep {α : Type} (xs : List α) (k : Nat) : (List.replicate k xs).flatten.length = k * xs.length := by
  induction k with
  | zero => simp
  | succ k ih => rw [List.replicate_succ, List.flatten_cons, List.length_append, ih, Nat.succ_mul, Nat.add_comm]
theorem op_rep : OpR X (binaryOp .Mult) rRep := by
  intro pins s σ H x y v u Q I rx ry h
  obtain ⟨l, k, xs, rfl, rfl, hH, h1, h2, hz, q⟩ := h
  cases rx
  obtain ⟨t, rfl⟩ := ry
  obtain ⟨z, its, n, r, hl, e⟩ := I.lstM hH
  have hlen : its.toArray.size * k.toNat ≤ sizeLine := by rw [List.size_toArray, ← hl]; exact hz
  have hcap : ¬ its.toArray.size * k.toNat > (2 ^ 63 - 1) / 8 := by
    have : (sizeLine : Nat) ≤ (2 ^ 63 - 1) / 8 := by decide
    omega
  have hfit : ¬ (!Builtin.List.listFitsIndex k) = true := by
    rw [fitsIndex_both h1 h2]
    exact Bool.false_ne_true
  have hlong : ¬ Builtin.List.listTooLong (its.toArray.size * k.toNat) = true := by
    rw [notLongL hlen]
    exact Bool.false_ne_true
  have hnew : List.foldl (fun x1 x2 => x1 ++ x2) #[] (List.replicate (if its.toArray.isEmpty = true then 0 else k.toNat) its.toArray) = (List.replicate k.toNat its).flatten.toArray := by
    have f0 : ∀ m : Nat, List.foldl (fun x1 x2 => x1 ++ x2) #[] (List.replicate m its.toArray) = (List.replicate m its).flatten.toArray := fun m => by
      have := foldl_rep its m []
      rw [List.nil_append] at this
      exact this
    rw [f0]
    cases its with
    | nil => simp
    | cons a r' => rw [if_neg (by simp)]
  refine wpAny_binaryOp_repeat_ref (T := "list") (U := "int") (by decide) ⟨_, e, rfl⟩ (fun s' => typeIs_int s' k t) noFill_list_mul F.fills_int_mul F.slot_int_rmul repeat_list F.slot_int_index.lookup
    (call_meets F.slot_int_rmul (typeIs_int s k t) F.entry_int_rmul (F.args_int_rmul_2 _ _) (int___rmul___int_list k t l its.toArray n)
      ⟨e, rfl, ⟨_, e, rfl⟩, call_meets F.slot_list_mul ⟨_, e, rfl⟩ F.entry_list_mul (F.args_list_mul_2 _ _) (AutoListH.list___mul___list_int_3 l its.toArray n k t hfit hcap hlong) ⟨e, ?_⟩⟩)
  rw [hnew]
  exact ⟨.ref _, _, I.lnew (t' := s.toks) (r.rep k.toNat) (by rw [len_rep, Nat.mul_comm]; exact hz), rfl, q _ I.fresh⟩

end

section
variable {prog : Program} {w : World} {A : Around} {E : Value → Shared → Prop} {s : Shared}
end

section
variable {X : Cx}

end
end L2

namespace Att
open PySem PySem.W PySem.Calls PyProof.Rows

theorem ints_of_wellAll {P : Params} {h : Heap} : ∀ (ns : List Int) (vs : List Value), WellAll P h vs (ns.map WData.int) → IntsAre vs ns := by
  intro ns
  induction ns with
  | nil =>
    intro vs w
    rw [List.map_nil] at w
    cases w
    exact .nil
  | cons n ns ih =>
    intro vs w
    rw [List.map_cons] at w
    cases w with
    | cons a b =>
      cases a
      exact .cons _ _ (ih _ b)

theorem script_of {l : OpenLaw} {n : Nat} (hn : l.most = some n) {P : Params} {h : Heap} {args : List WData} {vals : List Value}
    (hpre : l.row.toRowW.claim.pre args = true) (hwl : WellAll P h vals args) :
    ∃ a vs ns, vals = [Value.ref a] ∧ args = [WData.list (ns.map WData.int)] ∧ h.get? a = some { cls := .type "list", data := .seq vs.toArray } ∧ IntsAre vs ns ∧ ns.length ≤ n := by
  have hsh : WShape.hasAll [] args [.list .int] = true := (pre_splitW hpre).1
  have hc : l.pre.holds [] { args := args } = true := (pre_splitW hpre).2
  obtain ⟨d, r, rfl, h1, h2⟩ := hasAllW_cons hsh
  obtain rfl := hasAllW_nil h2
  obtain ⟨xs, rfl, h3⟩ := hasW_list h1
  obtain ⟨ns, rfl⟩ := items_int h3
  have hlen : ns.length ≤ n := by
    unfold OpenLaw.pre at hc
    have h4 : (WTm.not (.lt (.lit (.int (n : Int))) (.len (.arg 0)))).holds [] { args := [.list (ns.map .int)] } = true := by
      have h4 := (holds_andW hc).1
      rw [hn] at h4
      exact h4
    have h5 := condW_of h4 (w_not (w_lt w_lit (w_len_list (w_arg rfl))))
    rw [List.length_map] at h5
    refine Nat.le_of_not_lt fun q => ?_
    have q' : (n : Int) < ((ns.length : Nat) : Int) := by omega
    first
      | (rw [decide_eq_true q'] at h5; exact absurd h5 (by decide))
      | (simp at h5; omega)
  cases hwl with
  | cons w1 w2 =>
    cases w2
    cases w1 with
    | list ho hall => exact ⟨_, _, ns, rfl, rfl, ho, ints_of_wellAll ns _ hall, hlen⟩

theorem post_true (l : OpenLaw) (args : List WData) : l.row.toRowW.claim.post args (.bool true) args = true :=
  postW_of (r := l.row.toRowW) (X := (true == true))
    (show WShape.has [] (.bool true) .bool = true by first | rfl | decide | simp [WShape.has, WShape.arms, WShape.armsAll])
    (show (WTm.eq .res (.lit (.bool true))).value [] { args := args, res := some (.bool true), after := args } = some (.bool (true == true)) from w_eq_bool (w_res rfl) w_lit) rfl

theorem attach_call {l : OpenLaw} {n : Nat} {q : Program} {loose : List Str} {XP : (Str → Option Value) → Heap → Prop} {YP : World → Heap → Prop} {d : DefRec}
    (hn : l.most = some n) (hdf : d.params.defaults = [])
    (call : ∀ (w : World) (s₀ s₁ : Shared) (mg mb : Str → Option Value) (fa : Addr) (o : Obj) (pm cd doc : Value) (a : Addr) (vs : List Value) (ns : List Int),
      Ground q loose [] XP w s₀ mg mb s₁.heap → YP w s₁.heap →
      s₁.heap.get? fa = some o → o.data = .func (docDef d.name d.params d.body d.scope pm cd doc) → s₁.heap.CodeRec cd d.name → mg d.name = some (.ref fa) →
      s₁.heap.get? a = some { cls := .type "list", data := .seq vs.toArray } → IntsAre vs ns → ns.length ≤ n → s₁.gens = #[] →
      codeAny (model l.prog w) callerA (.call (.ref fa) ⟨[.ref a], []⟩) (fun r s' => r = .ok (.ret (.bool true)) ∧ OldK s₁.heap s'.heap ∧ s'.os = s₁.os ∧ AllBare s'.gens) s₁) :
    WalkO q loose XP YP l.row.toRowW d [] (fun f vs => PySem.call f vs) := by
  intro w s₀ s₁ mg mb G Y fa o pm cd doc dV kV ho hd hcd hD hmg hg args vals as hpre hlay hrd hwl hlo
  obtain rfl : dV = .none := Dflts.none hD hdf
  obtain rfl : kV = .none := Dflts.noKw hD
  obtain ⟨a, vs, ns, rfl, rfl, hobj, hints, hlen⟩ := script_of hn hpre hwl
  refine enter_call (codeAny_mono (call w s₀ s₁ mg mb fa o pm cd doc a vs ns G Y ho (fd_plain hd) hcd hmg hobj hints hlen hg) fun r s' hq => ?_)
  obtain ⟨rfl, h2, h3, h4⟩ := hq
  exact ⟨.inl ⟨.bool true, .bool true, [], rfl, fun _ => rfl, .bool true, post_true l _, fun _ => ⟨List.Pairwise.nil, fun _ hm => (nomatch hm)⟩⟩, h2, h3, h4⟩

section
variable {prog : Program} {w : World} {A : Around} {E : Value → Shared → Prop} {s : Shared} {K : Frag}

end
end Att

namespace L2
open PySem PySem.Spec PyProof.Rows

theorem vals_ints : ∀ {vs : List Value} {ns : List Int}, IntsAre vs ns → Vals (ns.map V.int) vs
  | _, _, .nil => .nil
  | _, _, .cons n t h => .cons ⟨t, rfl⟩ (vals_ints h)

end L2

namespace L2
open PySem PySem.Spec PyProof.Rows

end L2

namespace L2
open PySem PySem.Spec PyProof.Rows

def defArgs (s : Stmt) : Arguments := match s with
  | .FunctionDef _ a _ _ _ _ _ _ _ _ => a
  | _ => { posonlyargs := [], args := [], vararg := none, kwonlyargs := [], kw_defaults := [], kwarg := none, defaults := [] }
def defBody (s : Stmt) : List Stmt := match s with
  | .FunctionDef _ _ b _ _ _ _ _ _ _ => b
  | _ => []
def defScope (s : Stmt) : Scope := match s with
  | .FunctionDef _ _ _ _ _ _ sc _ _ _ => sc
  | _ => { kind := .function, names := [], isGenerator := false, isCoroutine := false }

abbrev CX0 : CXT := fun _ _ _ _ _ _ => False
abbrev E0 : XK := fun _ _ _ => False
theorem pass0 {X : Cx} : Passes CX0 X E0 := fun _ _ _ _ _ _ _ h => h.elim

structure Fun (K : PySem.W.Frag) (x qual : Str) (st : Stmt) (f : Addr) (fd : FuncData) : Prop where
  ex : ∃ (oc : Value) (od : Option Addr) (kV doc pm : Value) (an : Option Addr) (cdv ct : Value) (osl : Array (Option Value)),
    fd = PySem.W.fnOf x qual (defArgs st) (defBody st) (defScope st) .none kV doc pm an cdv ct ∧ K.lookup f = some ⟨oc, od, .func fd, osl⟩ ∧ PySem.W.codeIn K cdv qual = true
  kp : PySem.W.keepIn K (.ref f) = true
section
variable {P : Program} {w : World} {K : PySem.W.Frag} {mg : Str → Option Value} {base : Heap}

theorem Fun.ok {x qual : Str} {st : Stmt} {f : Addr} {fd : FuncData} {N ps : List Str} {k : Nat} {sp : Sp} (F : Fun K x qual st f fd) (S : FnScope N ps (defScope st)) (len : ∀ vs H Q E, sp vs H Q E → vs.length = ps.length)
    (hbody : ∀ (cdv : Value) (A : Around) (outer : List Env) (s : Shared) (H : Hp) (vs : List V) (Q : VK) (E : XK), Room k (A.deeper (envOfC qual (defScope st) s.heap.objs.size f cdv)) → sp vs H Q E →
      ∃ t, PSs (cxOf CX0 P w K mg base N qual (defScope st) f cdv A outer s H E).nox (defBody st) t ∧ t { nx := fun _ H' => Q .non H', rt := Q } (start N vs) H) : FnOk P w K mg base CX0 (k + 1) f fd ps sp := by
  obtain ⟨oc, od, kV, doc, pm, an, cdv, ct, osl, rfl, lk, hcd⟩ := F.ex
  refine fn_of lk hcd S len fun A outer s H vs Q E hr hsp => ?_
  obtain ⟨t, h, q⟩ := hbody cdv A outer s H vs Q E hr hsp
  exact ⟨t, h.nox, q⟩

theorem Fun.binds {x qual : Str} {st : Stmt} {f : Addr} {fd : FuncData} {ps : List Str} (F : Fun K x qual st f fd)
    (h : ∀ (kV doc pm : Value) (an : Option Addr) (cdv ct : Value) (us : List Value), us.length = ps.length → bindArgs (PySem.W.fnOf x qual (defArgs st) (defBody st) (defScope st) .none kV doc pm an cdv ct) ⟨us, []⟩ = pure (ps.zip us)) : Binds K fd ps [] := by
  obtain ⟨oc, od, kV, doc, pm, an, cdv, ct, osl, rfl, lk, hcd⟩ := F.ex
  exact .all (h kV doc pm an cdv ct)
theorem fun_mk {x qual : Str} {st : Stmt} {f : Addr} {oc : Value} {od an : Option Addr} {osl : Array (Option Value)} {kV doc pm cdv ct : Value} (l : K.lookup f = some ⟨oc, od, .func (PySem.W.fnOf x qual (defArgs st) (defBody st) (defScope st) .none kV doc pm an cdv ct), osl⟩)
    (c : PySem.W.codeIn K cdv qual = true) (k : PySem.W.keepIn K (.ref f) = true) : Fun K x qual st f (PySem.W.fnOf x qual (defArgs st) (defBody st) (defScope st) .none kV doc pm an cdv ct) := ⟨⟨oc, od, kV, doc, pm, an, cdv, ct, osl, rfl, l, c⟩, k⟩
end
section
variable {X : Cx}
theorem pv (i : Nat) {x : Str} {pos : Pos} (hN : X.N[i]? = some x := by rfl) (hv : Vis X.env.scope x := by first | exact Or.inl rfl | exact Or.inr (Or.inl rfl) | exact Or.inr (Or.inr rfl)) (hd : (x == ("__debug__" : Str)) = false := by decide)
    (hcd : (x == ("__classdict__" : Str)) = false := by decide) : PE X (.Name x pos) (tVar i) := pe_var hN hv hd hcd
end

theorem iteF {A B : Prop} (h : B) : if false = true then A else B := by
  rw [if_neg Bool.false_ne_true]
  exact h
theorem iteT {A B : Prop} (h : A) : if true = true then A else B := by
  rw [if_pos rfl]
  exact h
theorem ite2 {c A B : Prop} [Decidable c] (h1 : c → A) (h2 : ¬ c → B) : if c then A else B := by
  by_cases h : c
  · rw [if_pos h]
    exact h1 h
  · rw [if_neg h]
    exact h2 h
theorem iteNS {c A B : Prop} [Decidable c] (hc : c) (h : B) : if (!decide c) = true then A else B := by
  rw [decide_eq_true hc]
  exact iteF h

def Same (H H' : Hp) : Prop := ∀ b o, H b = some o → H' b = some o
theorem Same.refl (H : Hp) : Same H H := fun _ _ h => h
theorem Same.trans {H H1 H2 : Hp} (a : Same H H1) (b : Same H1 H2) : Same H H2 := fun c o h => b c o (a c o h)
theorem Same.free {H H' : Hp} (e : Same H H') {l : Addr} (h : H' l = Option.none) : H l = Option.none := by
  cases q : H l with
  | none => rfl
  | some o =>
    rw [e l o q] at h
    cases h
theorem Same.seq {K : PySem.W.Frag} {H H' : Hp} {a : Addr} {xs : List V} (e : Same H H') (h : SqL K H a xs) : SqL K H' a xs := by
  rcases h with (h | ⟨o, h⟩) | h
  · exact .inl (.inl (e _ _ h))
  · exact .inl (.inr ⟨o, e _ _ h⟩)
  · exact .inr h

end L2

set_option Elab.async false
set_option maxRecDepth 100000
set_option maxHeartbeats 4000000
namespace L2
open PySem PySem.Spec PyProof.Rows

theorem closure_go {env : Env} : ∀ (names : List (Str × NameKind)) (acc : List (Str × Addr)), (∀ n, (n, NameKind.free) ∈ names → ∃ c, env.cells.lookup n = some c) →
    (∀ n c, acc.lookup n = some c → env.cells.lookup n = some c) →
    ∃ cl, (forIn names acc fun x r => if (x.2 == NameKind.free) = true then (do let a ← cellOf env x.1; pure (ForInStep.yield ((x.1, a) :: r))) else pure (ForInStep.yield r) : Sem (List (Str × Addr))) = pure cl ∧
      (∀ n c, cl.lookup n = some c → env.cells.lookup n = some c) ∧ (∀ n, (n, NameKind.free) ∈ names → ∃ c, cl.lookup n = some c) ∧ (∀ n c, acc.lookup n = some c → ∃ c', cl.lookup n = some c')
  | [], acc, _, h2 => ⟨acc, rfl, h2, fun n h => by simp at h, fun n c h => ⟨c, h⟩⟩
  | (n, k) :: r, acc, h1, h2 => by
    rw [List.forIn_cons]
    cases hk : (k == NameKind.free) with
    | true =>
      have ek : k = NameKind.free := by simpa using hk
      subst ek
      obtain ⟨c, hc⟩ := h1 n List.mem_cons_self
      have e1 : cellOf env n = pure c := by unfold cellOf; rw [hc]
      obtain ⟨cl, e, a1, a2, a3⟩ := closure_go r ((n, c) :: acc) (fun m hm => h1 m (List.mem_cons_of_mem _ hm)) (fun m c' hm => by
        rw [List.lookup_cons] at hm
        cases hb : m == n with
        | true =>
          rw [hb] at hm
          have e2 : m = n := by simpa using hb
          rw [e2, hc]; exact hm
        | false => rw [hb] at hm; exact h2 m c' hm)
      refine ⟨cl, ?_, a1, fun m hm => ?_, fun m c' hm => ?_⟩
      · simp only [if_true, e1]
        exact e
      · rcases List.mem_cons.mp hm with z | z
        · cases z
          exact a3 n c (by rw [List.lookup_cons]; simp)
        · exact a2 m z
      · by_cases hb : m = n
        · subst hb
          exact a3 m c (by rw [List.lookup_cons]; simp)
        · exact a3 m c' (by
            rw [List.lookup_cons]
            have : (m == n) = false := by simpa using hb
            rw [this]; exact hm)
    | false =>
      obtain ⟨cl, e, a1, a2, a3⟩ := closure_go r acc (fun m hm => h1 m (List.mem_cons_of_mem _ hm)) h2
      refine ⟨cl, ?_, a1, fun m hm => ?_, a3⟩
      · simp only [Bool.false_eq_true, if_false]
        exact e
      · rcases List.mem_cons.mp hm with z | z
        · cases z; simp at hk
        · exact a2 m z
theorem closure_ok {scope : Scope} {env : Env} (h : ∀ n, (n, NameKind.free) ∈ scope.names → ∃ c, env.cells.lookup n = some c) :
    ∃ cl, closureFor scope env = pure cl ∧ (∀ n c, cl.lookup n = some c → env.cells.lookup n = some c) ∧ (∀ n, (n, NameKind.free) ∈ scope.names → ∃ c, cl.lookup n = some c) := by
  obtain ⟨cl, e, a1, a2, _⟩ := closure_go (env := env) scope.names [] h (fun n c hn => by simp at hn)
  refine ⟨cl, ?_, a1, a2⟩
  simp only [closureFor]
  rw [e]
  rfl

def cxBlock (X : Cx) (N' : List Str) (env' : Env) (A' : Around) (stack' : List Env) (s : Shared) (H : Hp) (ex : List Addr) : Cx :=
  { X with N := N', s₀ := s, H₀ := H, env := env', A := A', outer := X.stack, stack := stack', ex := ex, fn := fun _ => false, pn := [], xe := fun _ _ => False }

theorem inv_block {X : Cx} {pins : List (Addr × Obj)} {σ σ' : St} {H H' : Hp} {s : Shared} {N' : List Str} {env' : Env} {A' : Around} {stack' : List Env} {ex : List Addr} {h1 : Heap} {m0 : Str → Option Value} {g' : Array GenState} {tk : Nat}
    (I : Inv X pins σ H s) (hkind : env'.scope.kind = .function) (hglob : env'.globals = X.env.globals) (hblt : env'.builtins = X.env.builtins)
    (hcl : ∀ n c, env'.cells.lookup n = some c → X.env.cells.lookup n = some c)
    (hhas : ∀ x, (env'.kindOf x = some .cell ∨ env'.kindOf x = some .free) → ∃ c, env'.cells.lookup x = some c)
    (hh : X.calm = true → A'.handled = none) (hfr : A'.frames = some stack') (hstk : stack' = X.stack ∨ (stack' = env' :: X.stack ∧ env'.frame = some env'.locals))
    (hC : s.heap.objs.size ≤ env'.locals) (hf : ∀ b ∈ ex, FpOk X pins H b) (hexC : ∀ b ∈ ex, b < s.heap.objs.size)
    (hun : Un (frs X.stack) ex H H' s.heap h1) (hok : HOk X.prog X.w H' h1) (hCn : H' env'.locals = none) (hkeep : ∀ b o, s.heap.get? b = some o → h1.get? b = some o) (hns : h1.Ns env'.locals m0)
    (hnames : ∀ (i : Nat) (x : Str) (v : V), N'[i]? = some x → σ'[i]? = some (some v) → Vis env'.scope x → (env'.kindOf x = some .cell ∨ env'.kindOf x = some .free) ∧ Vis X.env.scope x ∧ (X.env.kindOf x = some .cell ∨ X.env.kindOf x = some .free) ∧ ∃ j : Nat, X.N[j]? = some x ∧ σ[j]? = some (some v))
    (hlen : σ'.length = N'.length) (hg : Gn s.gens.size g') : Inv (cxBlock X N' env' A' stack' s H ex) [] σ' H' { s with heap := h1, gens := g', toks := tk } := by
  have exX : ∀ b ∈ ex, ∀ x c, X.env.cells.lookup x = some c → c ≠ b := fun b hb => (hf b hb).2.2.2.2.1
  refine ⟨⟨I.ok.mod, hkind, hglob.trans I.ok.glob, hblt.trans I.ok.blt, hC, fun x y c a b => I.ok.inj x y c (hcl x c a) (hcl y c b), hhas, fun _ _ z => (nomatch z), hh, hfr, hstk, fun b hb => ⟨Nat.ne_of_lt (Nat.lt_of_lt_of_le (hexC b hb) hC), fun x c e => exX b hb x c (hcl x c e)⟩,
      I.bs, Nat.le_trans I.ok.bsz I.sz, fun b o e hb => ?_, fun b hb z => ?_, I.stack, I.stkFree⟩, rfl, hg, hun, ⟨m0, hns, fun i x v e1 e2 e3 => ?_⟩, fun x c e => ?_, hCn, fun x c e => ?_, fun p hp => absurd (show p ∈ ([] : List (Addr × Obj)) from hp) (by simp), hok, hlen⟩
  · rcases (hf b hb).2.2.2.1 with z | z
    · exact I.ok.noex b o e z
    · exact absurd (Nat.lt_of_lt_of_le (Heap.lt_size e) (Nat.le_trans I.ok.bsz z)) (Nat.lt_irrefl _)
  · rcases List.mem_cons.mp (I.stkSub b z) with q | q
    · exact (hf b hb).2.1 q
    · exact (hf b hb).2.2.1 q
  · obtain ⟨k1, vx, k2, j, n1, n2⟩ := hnames i x v e1 e2 e3
    obtain ⟨m, hn, hl⟩ := I.loc
    obtain ⟨u, r, l⟩ := hl j x v n1 n2 vx
    refine ⟨u, r, .inr ⟨k1, ?_⟩⟩
    obtain ⟨c', ec'⟩ := hhas x k1
    rcases l with ⟨kl, _⟩ | ⟨_, c, ec, z⟩
    · rcases k2 with q | q <;> (rw [kl] at q; cases q)
    · have : c' = c := Option.some.inj ((hcl x c' ec').symm.trans ec)
      subst this
      exact ⟨c', ec', z.keeps hkeep⟩
  · obtain ⟨v, z⟩ := I.cell x c (hcl x c e)
    exact ⟨v, z.keeps hkeep⟩
  · obtain ⟨v, o, ho, hd⟩ := I.cell x c (hcl x c e)
    exact hun.free c o ho (I.freeC x c (hcl x c e)) fun z => exX c z x c (hcl x c e) rfl

theorem lookup_map2 {c : Str → NameKind → NameKind} : ∀ {names : List (Str × NameKind)} {x : Str}, (names.map fun (p : Str × NameKind) => (p.1, c p.1 p.2)).lookup x = (names.lookup x).map (c x)
  | [], x => rfl
  | (n, k') :: r, x => by
    have ih := @lookup_map2 c r x
    rw [List.map_cons, List.lookup_cons, List.lookup_cons]
    cases hx : x == n with
    | true =>
      have e : x = n := by simpa using hx
      subst e
      rfl
    | false => exact ih
theorem relabel_kind {scope : Scope} {env : Env} (x : Str) : (relabel scope env).names.lookup x = (scope.names.lookup x).map fun k => if (k == .free && env.scope.kind == .function && env.kindOf x == some .cell) = true then .cell else k := by
  have e : (relabel scope env).names = scope.names.map fun p => (p.1, (fun n k => if (k == NameKind.free && env.scope.kind == .function && env.kindOf n == some .cell) = true then NameKind.cell else k) p.1 p.2) := by
    unfold relabel
    dsimp only
    congr 1
    funext p
    obtain ⟨n, k⟩ := p
    dsimp only
    split <;> rfl
  rw [e]
  exact lookup_map2 (c := fun n k => if (k == NameKind.free && env.scope.kind == .function && env.kindOf n == some .cell) = true then NameKind.cell else k)

def BlockOk (N : List Str) (sc scope : Scope) (N' : List Str) (tn : Nat) (idx : List Nat) : Prop :=
  scope.kind = .function ∧ (∀ y ∈ scope.names, y.2 ≠ .cell ∧ (y.2 = .local → scope.names.lookup y.1 = some .local) ∧ (y.2 = .free → sc.names.lookup y.1 = some .cell ∨ sc.names.lookup y.1 = some .free)) ∧
    N'.length = tn + idx.length ∧ ∀ p ∈ idx.zip (N'.drop tn), N[p.1]? = some p.2 ∧ scope.names.lookup p.2 = some .free
instance (N : List Str) (sc scope : Scope) (N' : List Str) (tn : Nat) (idx : List Nat) : Decidable (BlockOk N sc scope N' tn idx) := by unfold BlockOk; infer_instance
def blockSt (tn : Nat) (idx : List Nat) (σ : St) : St := List.replicate tn none ++ idx.map fun i => (σ[i]?).join

theorem BlockOk.at {N : List Str} {sc scope : Scope} {N' : List Str} {tn : Nat} {idx : List Nat} (B : BlockOk N sc scope N' tn idx) {σ : St} {i : Nat} {x : Str} {v : V} (h1 : N'[i]? = some x) (h2 : (blockSt tn idx σ)[i]? = some (some v)) :
    scope.names.lookup x = some .free ∧ ∃ j : Nat, N[j]? = some x ∧ σ[j]? = some (some v) := by
  obtain ⟨_, _, b3, b4⟩ := B
  unfold blockSt at h2
  by_cases hi : i < tn
  · rw [List.getElem?_append_left (by simpa using hi), List.getElem?_replicate, if_pos hi] at h2
    cases h2
  · rw [List.getElem?_append_right (by simpa using hi), List.length_replicate, List.getElem?_map] at h2
    cases e : idx[i - tn]? with
    | none => rw [e] at h2; cases h2
    | some k =>
      rw [e] at h2
      have h3 : (σ[k]?).join = some v := Option.some.inj h2
      have e2 : (N'.drop tn)[i - tn]? = some x := by
        rw [List.getElem?_drop]
        have : tn + (i - tn) = i := by omega
        rw [this]; exact h1
      have m : (k, x) ∈ idx.zip (N'.drop tn) := by
        refine List.mem_of_getElem? (i := i - tn) ?_
        rw [List.getElem?_zip_eq_some]
        exact ⟨e, e2⟩
      obtain ⟨a, b⟩ := b4 _ m
      refine ⟨b, k, a, ?_⟩
      cases q : σ[k]? with
      | none => rw [q] at h3; cases h3
      | some w => rw [q] at h3; exact congrArg some h3
theorem BlockOk.len {N : List Str} {sc scope : Scope} {N' : List Str} {tn : Nat} {idx : List Nat} (B : BlockOk N sc scope N' tn idx) (σ : St) : (blockSt tn idx σ).length = N'.length := by
  rw [B.2.2.1]
  unfold blockSt
  simp
end L2

set_option Elab.async false
set_option maxRecDepth 100000
set_option maxHeartbeats 4000000
namespace L2
open PySem PySem.Spec PyProof.Rows
section
variable {X : Cx}

def PIf (X : Cx) (ifs : List Expr) (tt : TT) : Prop :=
  ∀ (pins : List (Addr × Obj)) (s : Shared) (σ : St) (H : Hp) (Q : Bool → Hp → Prop), Inv X pins σ H s → tt σ H Q →
    wpAny (model X.prog X.w) X.A (forIn ifs true fun c r => if r = true then do let ok ← isTrue c X.env (eval c X.env); pure (ForInStep.yield ok) else pure (ForInStep.yield r)) (TP X pins σ Q) X.xe s
def tNoIf : TT := fun _ H Q => Q true H
theorem pif_nil : PIf X [] tNoIf := fun _ _ _ H _ I h => wpAny_tests_nil ⟨H, I, h⟩
theorem pif_one {c : Expr} {tc : TT} (h : PT X c tc) : PIf X [c] tc := fun pins s σ H Q I q => wpAny_tests_one (h pins s σ H Q I q)

abbrev cxC (X : Cx) (N' : List Str) (scope : Scope) (cl : List (Str × Addr)) (C : Addr) (s : Shared) (H : Hp) (fp : List Addr) : Cx := cxBlock X N' (compEnvC scope cl C X.env) X.A X.stack s H fp
abbrev Blk (X : Cx) (N' : List Str) (scope : Scope) (P : Cx → Prop) : Prop := ∀ (cl : List (Str × Addr)) (C : Addr) (s : Shared) (H : Hp) (fp : List Addr), P (cxC X N' scope cl C s H fp)

def tTurn (J : It) (g : TG) (tt : TT) (te : TE) (D : Addr) (Q : VK) (W : Nat → Nat → St → Hp → Prop) : Prop := ∀ i m τ H, W i m τ H →
  (J.stop i H ∧ Q (.ref D) H) ∨ (J.go i H ∧ ∀ x H', J.yld i H x H' → g x τ H' fun τ2 H2 => tt τ2 H2 fun b H3 => if b = true then te τ2 H3 fun y H4 => ∃ ys m', H4 D = some (.lst ys) ∧ ys.length < sizeLine ∧ m' < m ∧ W (i + 1) m' τ2 (upd H4 D (.lst (ys ++ [y]))) else ∃ m', m' < m ∧ W (i + 1) m' τ2 H3)
def tComp (tn : Nat) (idx : List Nat) (wi : TI) (g : TG) (tt : TT) (te : TE) : TE := fun σ H Q => wi σ H fun J H1 => ∀ D, H1 D = none → ∃ W : Nat → Nat → St → Hp → Prop, (∃ m, W 0 m (blockSt tn idx σ) (upd H1 D (.lst []))) ∧ tTurn J g tt te D Q W

theorem comp_core {pins : List (Addr × Obj)} {σ : St} {H2 : Hp} {s2 : Shared} {tg elt iter : Expr} {ifs : List Expr} {scope : Scope} {pos : Pos} {N' : List Str} {tn : Nat} {idx : List Nat} {g : TG} {tt : TT} {te : TE} {it : Addr} {fp : List Addr} {tnn : Nat → Heap → Prop} {J : It}
    {cl : List (Str × Addr)} {E : Value → Shared → Prop} {RR : Value → Addr → Result → Shared → Prop} {Q : VK}
    (hc : X.calm = true) (B : BlockOk X.N X.env.scope scope N' tn idx)
    (hg : Blk X N' scope fun Y => PG Y tg g) (ht : Blk X N' scope fun Y => PIf Y ifs tt) (he : Blk X N' scope fun Y => PE Y elt te)
    (I : Inv X pins σ H2 s2) (T : Turn X.prog X.w X.K tg J fp it tnn) (st : tnn 0 s2.heap) (f2 : ∀ b ∈ fp, FpOk X pins H2 b)
    (hcl1 : ∀ n c, cl.lookup n = some c → X.env.cells.lookup n = some c) (hcl2 : ∀ n, (n, NameKind.free) ∈ scope.names → ∃ c, cl.lookup n = some c)
    (hq : ∀ D, H2 D = none → ∃ W : Nat → Nat → St → Hp → Prop, (∃ m, W 0 m (blockSt tn idx σ) (upd H2 D (.lst []))) ∧ tTurn J g tt te D Q W)
    (hRR : ∀ D C m s' H', Inv X pins σ H' s' → FpOk X pins H' C → s'.heap.Ns C m → Q (.ref D) H' → RR (.ref D) C (.ok .next) s') :
    wpAny (model X.prog X.w) X.A (newList []) (fun acc s₃ => wpAny (model X.prog X.w) X.A (newFunctionEnv scope X.env.globals cl [] X.env.qual none .none (some X.env)) (fun cenv s₄ =>
      codeAny (model X.prog X.w) X.A (.compStart (.ListComp elt [⟨tg, iter, ifs, 0⟩] scope pos) 0 (.ref it) acc { cenv with scope := relabel scope X.env }) (RR acc cenv.locals) s₄) E s₃) E s2 := by
  obtain ⟨b1, b2, b3, b4⟩ := id B
  refine wpAny_newObj_type (wpAny_newFunctionEnv (fun y hy => (b2 y hy).1) (by intro y hy; simp at hy) (fun h₁ hns₁ hsb₁ => ?_) b1)
  dsimp only at hns₁ hsb₁ ⊢
  generalize hG : s2.heap.push { cls := .type "list", dict := none, data := .seq ([] : List Value).toArray } = G at hns₁ hsb₁ ⊢
  have hC : G.objs.size = s2.heap.objs.size + 1 := by rw [← hG, Heap.size_push]
  have hDC : s2.heap.objs.size ≠ G.objs.size := by rw [hC]; exact Nat.ne_of_lt (Nat.lt_succ_self _)
  have hCle : s2.heap.objs.size ≤ G.objs.size := by rw [hC]; exact Nat.le_succ _
  have below : ∀ b, b < s2.heap.objs.size → b ≠ G.objs.size := fun b hb => by rw [hC]; exact Nat.ne_of_lt (Nat.lt_succ_of_lt hb)
  have old : ∀ b o, s2.heap.get? b = some o → h₁.get? b = some o := fun b o e => hsb₁.extBut b o (below b (Heap.lt_size e)) (Heap.get?_push_of_some _ (hG ▸ Heap.get?_push_of_some _ e))
  have hDo : h₁.get? s2.heap.objs.size = some { cls := .type "list", data := .seq ([] : List Value).toArray } := hsb₁.extBut _ _ hDC (Heap.get?_push_of_some _ (hG ▸ Heap.get?_push_size _ rfl))
  have hDn : H2 s2.heap.objs.size = none := I.hok.fresh (Nat.le_refl _)
  have hCn : upd H2 s2.heap.objs.size (.lst []) G.objs.size = none := by rw [upd_ne (Ne.symm hDC)]; exact I.hok.fresh hCle
  have hok1 : HOk X.prog X.w (upd H2 s2.heap.objs.size (.lst [])) h₁ := I.hok.laid old (Nat.le_refl _) ⟨Nat.zero_le _, [], 0, .nil, hDo⟩
  have fpo : ∀ b ∈ fp, b < s2.heap.objs.size := fun b hb => let ⟨o, e, _⟩ := T.obj _ _ st b hb; Heap.lt_size e
  obtain ⟨W, ⟨m0, w0⟩, turn⟩ := hq s2.heap.objs.size hDn
  have I1 : Inv (cxC X N' scope cl G.objs.size s2 H2 fp) [] (blockSt tn idx σ) (upd H2 s2.heap.objs.size (.lst [])) { s2 with heap := h₁, toks := s2.toks + ([] : List (Str × Value)).length } := by
    refine inv_block (g' := s2.gens) (m0 := fun x => ([] : List (Str × Value)).reverse.lookup x) I b1 rfl rfl hcl1 (fun x hx => ?_) (fun z => I.ok.hd z) I.ok.frames (.inl rfl) hCle f2 fpo (Un.laid old (Nat.le_refl _) hDn) hok1 hCn old hns₁ (fun i x v e1 e2 e3 => ?_) (B.len σ) I.bare.self
    · have hx' : (relabel scope X.env).names.lookup x = some .cell ∨ (relabel scope X.env).names.lookup x = some .free := hx
      rw [relabel_kind] at hx'
      cases q : scope.names.lookup x with
      | none => rw [q] at hx'; rcases hx' with z | z <;> cases z
      | some k0 =>
        have hm := PySem.mem_of_lookup q
        rw [q] at hx'
        by_cases hk : k0 = .free
        · subst hk; exact hcl2 x hm
        · have nk : (k0 == NameKind.free) = false := by simpa using hk
          have nc := (b2 _ hm).1
          simp only [Option.map_some, nk, Bool.false_and, Bool.false_eq_true, if_false] at hx'
          rcases hx' with z | z
          · exact absurd (Option.some.inj z) nc
          · exact absurd (Option.some.inj z) hk
    · obtain ⟨fr, j, e4, e5⟩ := B.at e1 e2
      have kx := (b2 _ (PySem.mem_of_lookup fr)).2.2 rfl
      refine ⟨?_, .inr kx, kx, j, e4, e5⟩
      show (relabel scope X.env).names.lookup x = some .cell ∨ (relabel scope X.env).names.lookup x = some .free
      rw [relabel_kind, fr]
      simp only [Option.map_some]
      split
      · exact .inl rfl
      · exact .inr rfl
  have stat : ∀ {H' : Hp}, (∀ b ∈ fp, H' b = none) → ∀ b ∈ fp, FpOk (cxC X N' scope cl G.objs.size s2 H2 fp) [] H' b := fun hn b hb => by
    refine ⟨hn b hb, below b (fpo b hb), fun z => ?_, .inl hb, fun x c e => (f2 b hb).2.2.2.2.1 x c (hcl1 x c e), fun p hp => absurd (show p ∈ ([] : List (Addr × Obj)) from hp) (by simp)⟩
    rcases List.mem_cons.mp (I.stkSub b z) with q | q
    · exact (f2 b hb).2.1 q
    · exact (f2 b hb).2.2.1 q
  have loop : ∀ s₃ : Shared, s₃ = { s2 with heap := h₁, toks := s2.toks + ([] : List (Str × Value)).length } →
      codeAny (model X.prog X.w) X.A (.compLoop (.ListComp elt [⟨tg, iter, ifs, 0⟩] scope pos) 0 (.ref it) (.ref s2.heap.objs.size) (compEnvC scope cl G.objs.size X.env))
        (RR (.ref s2.heap.objs.size) G.objs.size) s₃ := by
    rintro s₃ rfl
    refine codeAny_loop rfl (fun n s' => ∃ i τ H', Inv (cxC X N' scope cl G.objs.size s2 H2 fp) [] τ H' s' ∧ tnn i s'.heap ∧ (∀ b ∈ fp, H' b = none) ∧ W i n τ H') (fun n s hI => ?_) m0
      ⟨0, _, _, I1, T.keep _ _ _ st fun b _ o e => old b o e, fun b hb => by rw [upd_ne (Nat.ne_of_lt (fpo b hb))]; exact (f2 b hb).1, w0⟩
    show wpAny _ X.A ((compTurn (.ListComp elt [⟨tg, iter, ifs, 0⟩] scope pos) 0 (.ref it) (.ref s2.heap.objs.size) (compEnvC scope cl G.objs.size X.env)).onRaise (fun x => do noteFrame x (compEnvC scope cl G.objs.size X.env); theTreesLotGoes x)) _ _ s
    refine wpAny_noted ?_
    rw [compTurn_list]
    obtain ⟨i, τ, H3, I3, st3, fr3, w3⟩ := hI
    rcases turn i n τ H3 w3 with ⟨stop, qn⟩ | ⟨go, step⟩
    · refine wpAny_bind (wpAny_standAt (wpAny_bind (wpAny_mono (T.done (cxC X N' scope cl G.objs.size s2 H2 fp) rfl rfl rfl hc i [] s τ H3 (fun _ _ => False) I3 (stat fr3) st3 stop) (fun r s4 ⟨hr, I4⟩ => ?_) fun _ _ z => z.elim)))
      subst hr
      refine wpAny_pure ?_
      have J2 : Inv X pins σ H3 s4 := I.call' I4.os I4.base I4.hok I4.bare fun b hb => ⟨(f2 b hb).2.2.2.1, (f2 b hb).2.1, (f2 b hb).2.2.2.2.1, (f2 b hb).2.2.2.2.2⟩
      obtain ⟨mm, hm, _⟩ := I4.loc
      exact hRR _ _ mm s4 H3 J2 (I.fpOk hCle I4.free) hm qn
    · refine wpAny_bind (wpAny_standAt (wpAny_bind (wpAny_mono (T.item (cxC X N' scope cl G.objs.size s2 H2 fp) rfl rfl rfl hc i [] s τ H3 (fun _ _ => False) I3 (stat fr3) st3 go) (fun r s4 ⟨u, hr, h4⟩ => ?_) fun _ _ z => z.elim)))
      subst hr
      refine wpAny_bind (wpAny_mono h4 (fun _ s5 ⟨x, H5, I5, r5, y5, st5, fr5⟩ => ?_) fun _ _ z => z.elim)
      have I5' := I5.pinned (stat fr5) (T.obj _ _ st5)
      have again : ∀ {τ7 : St} {H7 : Hp} {s7 : Shared}, Inv (cxC X N' scope cl G.objs.size s2 H2 fp) ([] ++ pinsAt fp s5.heap) τ7 H7 s7 → (∃ m', m' < n ∧ W (i + 1) m' τ7 H7) →
          ∃ m, m < n ∧ ∃ i τ H', Inv (cxC X N' scope cl G.objs.size s2 H2 fp) [] τ H' s7 ∧ tnn i s7.heap ∧ (∀ b ∈ fp, H' b = none) ∧ W i m τ H' := fun {τ7 H7 s7} I7 n7 => by
        obtain ⟨m', hm, w7⟩ := n7
        refine ⟨m', hm, i + 1, τ7, H7, I7.unpinned, T.keep _ _ _ st5 fun b hb o e => (I7.pin (b, o) (List.mem_append_right _ (List.mem_append_right _ (mem_pinsAt hb e)))).1, fun b hb => ?_, w7⟩
        obtain ⟨o, e, d⟩ := T.obj _ _ st5 b hb
        exact (I7.pin (b, o) (List.mem_append_right _ (List.mem_append_right _ (mem_pinsAt hb e)))).2.1
      refine wpAny_bind (wpAny_mono (hg cl G.objs.size s2 H2 fp _ s5 τ H5 x u _ I5' r5 (step x H5 y5)) (fun _ s6 ⟨τ6, H6, I6, q6⟩ => ?_) fun _ _ z => z.elim)
      refine wpAny_bind (wpAny_mono (ht cl G.objs.size s2 H2 fp _ s6 τ6 H6 _ I6 q6) (fun ok s7 ⟨H7, I7, q7⟩ => ?_) fun _ _ z => z.elim)
      cases ok with
      | false => exact wpAny_pure ⟨rfl, again I7 q7⟩
      | true =>
        refine wpAny_bind (wpAny_bind (wpAny_mono (he cl G.objs.size s2 H2 fp _ s7 τ6 H7 _ I7 q7) (fun yv s8 ⟨y, H8, I8, r8, q8⟩ => ?_) fun _ _ z => z.elim))
        obtain ⟨ys, m', hD, hsz, hm', w8⟩ := q8
        refine wpAny_bind (wpAny_mono (mt_append (X := cxC X N' scope cl G.objs.size s2 H2 fp) _ s8 τ6 H8 (.ref s2.heap.objs.size) [y] (.ref s2.heap.objs.size) [yv] (fun v H9 => v = .non ∧ H9 = upd H8 s2.heap.objs.size (.lst (ys ++ [y]))) I8 rfl (.cons r8 .nil) ⟨_, ys, y, rfl, rfl, hD, hsz, rfl, rfl⟩) (fun rv s9 ⟨v9, H9, I9, _, _, e9⟩ => ?_) fun _ _ z => z.elim)
        subst e9
        exact wpAny_pure (wpAny_pure ⟨rfl, again I9 ⟨m', hm', w8⟩⟩)
  exact codeAny_compStart_list (loop _ rfl) (T.self _ 0 _ _ _ (T.keep _ _ _ st fun b _ o e => old b o e) (loop _ rfl))

variable {tg elt iter : Expr} {ifs : List Expr} {scope : Scope} {pos : Pos} {N' : List Str} {tn : Nat} {idx : List Nat} {wi : TI} {g : TG} {tt : TT} {te : TE}
theorem FpOk.turn {pins : List (Addr × Obj)} {σ : St} {H : Hp} {s : Shared} {C : Addr} {h' : Heap} (f : FpOk X pins H C) (I : Inv X pins σ H s) (hs : Heap.SameBut C s.heap h') : Inv X pins σ H { s with heap := h' } :=
  I.turned (t' := s.toks) (fun b o hb e => (hs.2 b hb).trans e) f.1 f.2.1 f.2.2.2.1 f.2.2.2.2.1 f.2.2.2.2.2

theorem pe_listcomp (hc : X.calm = true) (B : BlockOk X.N X.env.scope scope N' tn idx) (hi : PI X tg iter wi)
    (hg : Blk X N' scope fun Y => PG Y tg g) (ht : Blk X N' scope fun Y => PIf Y ifs tt) (he : Blk X N' scope fun Y => PE Y elt te)
    (hs : ∀ x, foldedSetIterable iter X.env x = pure x := by intro _; rfl) : PE X (.ListComp elt [⟨tg, iter, ifs, 0⟩] scope pos) (tComp tn idx wi g tt te) := by
  refine ⟨?_⟩
  intro pins s σ H Q I h
  obtain ⟨cl, hclos, hcl1, hcl2⟩ := closure_ok (scope := scope) (env := X.env) fun n hn => I.ok.has n ((B.2.1 _ hn).2.2 rfl)
  rw [eval_ListComp]
  refine wpAny_comprehension_free (use := none) rfl hs hclos B.1 (fun y hy => (B.2.1 y hy).2.1) (wpAny_mono (hi pins s σ H _ I h) (fun xv s1 h1 => wpAny_mono h1 (fun itv s2 h2 => ?_) fun _ _ z => z) fun _ _ z => z)
  obtain ⟨it, fp, tnn, J, H2, e, I2, T, st2, f2, q2⟩ := h2
  subst e
  refine comp_core (RR := fun acc C => compPost (model X.prog X.w) X.A X.xe none (EP X pins σ Q) acc C) hc B hg ht he I2 T st2 f2 hcl1 hcl2 q2 fun D C m s' H' J2 fC hm q => ?_
  exact ⟨m, hm, fun h' hs' => ⟨.ref D, H', fC.turn J2 hs', rfl, q⟩⟩

theorem ps_setcomp {i : Nat} {y : Str} {py spos : Pos} (hN : X.N.Nodup) (hi' : X.N[i]? = some y) (hy : X.env.scope.names.lookup y = some .local) (hc : X.calm = true) (B : BlockOk X.N X.env.scope scope N' tn idx) (hi : PI X tg iter wi)
    (hg : Blk X N' scope fun Y => PG Y tg g) (ht : Blk X N' scope fun Y => PIf Y ifs tt) (he : Blk X N' scope fun Y => PE Y elt te)
    (hsw : swapsWith (.ListComp elt [⟨tg, iter, ifs, 0⟩] scope pos) (some (.Name y py)) spos.line X.env = pure true := by rfl)
    (hs : ∀ x, foldedSetIterable iter X.env x = pure x := by intro _; rfl) : PS X (.Assign [.Name y py] (.ListComp elt [⟨tg, iter, ifs, 0⟩] scope pos) spos) (tAsg (tComp tn idx wi g tt te) (gName i)) := by
  refine ⟨?_⟩
  intro pins s σ H D I h
  obtain ⟨cl, hclos, hcl1, hcl2⟩ := closure_ok (scope := scope) (env := X.env) fun n hn => I.ok.has n ((B.2.1 _ hn).2.2 rfl)
  rw [exec_Assign_Name_used _ _ _ _ hsw]
  refine wpAny_bind (wpAny_standAt (wpAny_bind ?_))
  show wpAny _ X.A (do let _ ← comprehension (.ListComp elt [⟨tg, iter, ifs, 0⟩] scope pos) scope X.env _ (newList []) false (eval iter X.env) (some (assign (.Name y py) X.env))) _ _ s
  refine wpAny_bind (wpAny_mono (wpAny_comprehension_free (use := some (assign (.Name y py) X.env)) (Q := fun _ s' => SP X pins D .next s') rfl hs hclos B.1 (fun y hy => (B.2.1 y hy).2.1)
    (wpAny_mono (hi pins s σ H _ I h) (fun xv s1 h1 => wpAny_mono h1 (fun itv s2 h2 => ?_) fun _ _ z => z) fun _ _ z => z)) (fun _ s' hq => wpAny_pure (wpAny_pure hq)) fun _ _ z => z)
  obtain ⟨it, fp, tnn, J, H2, e, I2, T, st2, f2, q2⟩ := h2
  subst e
  refine comp_core (RR := fun acc C => compPost (model X.prog X.w) X.A X.xe (some (assign (.Name y py) X.env)) (fun _ s' => SP X pins D .next s') acc C) hc B hg ht he I2 T st2 f2 hcl1 hcl2 q2 fun E C m s' H' J2 fC hm q => ?_
  show wpAny _ X.A (assign (.Name y py) X.env (.ref E)) _ _ s'
  refine wpAny_assign_Name (store_ok2 J2 hN hi' (.inl hy) (v := .ref E) rfl (fun s3 J3 ⟨a, hsb, ha⟩ => ?_) (.inr hy))
  have hne : C ≠ a := by
    rcases ha with z | z
    · rw [z]; exact fC.2.1
    · exact fun w => fC.2.2.2.2.1 _ _ z w.symm
  exact ⟨m, hm.sameBut hsb hne, fun h' hs' => ⟨_, H', fC.turn J3 hs', q⟩⟩
end
end L2

set_option Elab.async false
set_option maxRecDepth 100000
set_option maxHeartbeats 4000000
namespace L2
open PySem PySem.Spec PyProof.Rows

def Tb (P : Addr) (H : Hp) : Prop := ∃ ps, H P = some (.tbl ps) ∧ TriplesOk ps.toList
section
variable {X : Cx} {pins : List (Addr × Obj)} {σ : St} {H : Hp} {s : Shared} {P : Addr} {ps more : Array Value} {h' : Heap}
theorem Inv.grown (I : Inv X pins σ H s) (hP : H P = some (.tbl ps)) (k : ∀ b o, b ≠ P → s.heap.get? b = some o → h'.get? b = some o) (n : h'.get? P = some { cls := .none, data := .fields (ps ++ more) }) (t' : Nat) :
    Inv X pins σ (upd H P (.tbl (ps ++ more))) { s with heap := h', toks := t' } := by
  have ne : ∀ b u, H b = some u → u ≠ .tbl ps → b ≠ P := fun b u e d => ne_of e hP d
  have nn : ∀ b, H b = none → b ≠ P := fun b e z => by rw [z, hP] at e; cases e
  refine I.un ⟨fun b o e q _ _ => k b o (nn b q) e, fun b o e q _ _ => ⟨o.slots, k b o (nn b q) e⟩, fun b o e q _ => by rw [upd_ne (nn b q)]; exact q, fun b o e _ => ?_, fun b xs e => by rw [upd_ne (ne b _ e (by intro z; cases z))]; exact e,
    fun b o u e => by rw [upd_ne (ne b _ e (by intro z; cases z))]; exact e, fun b qs e => ?_⟩ fun b u e => ?_
  · by_cases hb : b = P
    · subst hb; exact ⟨_, n⟩
    · exact ⟨o, k b o hb e⟩
  · by_cases hb : b = P
    · subst hb
      rw [hP] at e; cases e
      exact ⟨more, upd_same⟩
    · exact ⟨#[], by rw [upd_ne hb, e]; simp⟩
  · by_cases hb : b = P
    · subst hb
      rw [upd_same] at e; cases e
      exact n
    · rw [upd_ne hb] at e
      refine (I.hok b u e).stay (fun c v hc q => k c v ?_ q) (fun c q => ?_) fun c xs q => ?_
      · rcases hc with z | z
        · rw [z]; exact hb
        · exact ne c _ z (by intro w; cases w)
      · rw [upd_ne (ne c _ q (by intro w; cases w))]; exact q
      · rw [upd_ne (ne c _ q (by intro w; cases w))]; exact q
theorem wp_genexprCode {c : Addr} {pos : Pos} {qn : Str} {scope : Scope} {Q : Value → Shared → Prop} {A : Around} {E : Value → Shared → Prop} (I : Inv X pins σ H s) (hc : X.env.code = .ref c) (hd : PySem.W.CodeHd X.base c P) (hP : H P = some (.tbl ps)) (ht : TriplesOk ps.toList)
    (h : ∀ code ps' s', TriplesOk ps'.toList → Inv X pins σ (upd H P (.tbl ps')) s' → (∀ b o, b ≠ P → s.heap.get? b = some o → s'.heap.get? b = some o) → s'.gens = s.gens → Q code s') : wpAny (model X.prog X.w) A (genexprCode X.env pos qn scope) Q E s := by
  have hPo : s.heap.get? P = some (PySem.W.tabObj ps) := I.hok P _ hP
  have hd' := hd.keeps I.bk
  have ic := hd'.code hPo ht
  cases q : codeAmong pos ps.toList with
  | some c' =>
    refine wpAny_genexprCode_hit hc ic q (h c' ps s ht ?_ (fun _ _ _ e => e) rfl)
    have e : upd H P (.tbl ps) = H := by
      funext b
      by_cases hb : b = P
      · subst hb; rw [upd_same, hP]
      · rw [upd_ne hb]
    rw [e]; exact I
  | none =>
    refine wpAny_genexprCodeX hc ic (hd'.tab hPo) q fun c' h' tk ex h1 h2 ic' _ ta _ => ?_
    obtain ⟨_, hP'⟩ := ta
    have tr : TriplesOk (ps ++ #[rawInt pos.line, rawInt pos.col, Value.ref c']).toList := by
      rw [Array.toList_append]
      exact TriplesOk_snoc _ _ _ _ ht
    exact h _ _ _ tr (I.grown hP (fun b o hb e => ex b o hb e) hP' tk) (fun b o hb e => ex b o hb e) rfl
end

def Okay (s s'' : Shared) : Prop := s''.heap = s.heap ∧ s''.os = s.os ∧ Gn s.gens.size s''.gens
theorem Inv.okay {X : Cx} {pins : List (Addr × Obj)} {σ : St} {H : Hp} {s s'' : Shared} (I : Inv X pins σ H s) (o : Okay s s'') : Inv X pins σ H s'' := by
  obtain ⟨h, g, d, t, os⟩ := s
  obtain ⟨h', g', d', t', os'⟩ := s''
  obtain ⟨e1, e2, e3⟩ := o
  cases e1
  cases e2
  exact ⟨I.ok, I.os, I.bare.trans e3, I.base, I.loc, I.cell, I.free, I.freeC, I.pin, I.hok, I.len⟩

section
variable {Y : Cx} {A2 : Around} {tg elt iter : Expr} {ifs : List Expr} {scope : Scope} {pos : Pos} {it : Addr} {fp : List Addr} {tnn : Nat → Heap → Prop} {J : It} {g : TG} {tt : TT} {te : TE} {pp : List (Addr × Obj)} {R : GenEnd} {Yp : Protocol}

def tGen (J : It) (g : TG) (tt : TT) (te : TE) (stopAt : Bool) (Z : Bool → Hp → Prop) (W : Nat → Nat → St → Hp → Prop) : Prop := ∀ i m τ H, W i m τ H →
  (J.stop i H ∧ Z (!stopAt) H) ∨ (J.go i H ∧ ∀ x H', J.yld i H x H' → g x τ H' fun τ2 H2 => tt τ2 H2 fun b H3 => if b = true then te τ2 H3 fun y H4 => ∃ c, y = .bl c ∧ (if c = stopAt then Z stopAt H4 else ∃ m', m' < m ∧ W (i + 1) m' τ2 H4) else ∃ m', m' < m ∧ W (i + 1) m' τ2 H3)
theorem seg_loop (hA : Y.A = A2.over (.compLoop (.GeneratorExp elt [⟨tg, iter, ifs, 0⟩] scope pos) 0 (.ref it) .none Y.env) []) (hxe : Y.xe = fun _ _ => False) (hc : Y.calm = true) (hco : Y.env.scope.isCoroutine = false)
    (T : Turn Y.prog Y.w Y.K tg J fp it tnn) (hg : PG Y tg g) (ht : PIf Y ifs tt) (he : PE Y elt te) (stat : ∀ {H' : Hp}, (∀ b ∈ fp, H' b = none) → ∀ b ∈ fp, FpOk Y pp H' b)
    {W : Nat → Nat → St → Hp → Prop} {Z : Bool → Hp → Prop} {stopAt : Bool} (turn : tGen J g tt te stopAt Z W)
    (hR : ∀ n s₀ s₁ τ H, Inv Y pp τ H s₁ → Z (!stopAt) H → R n s₀ (.ok .next) s₁)
    (hY : ∀ n s₀ s kap c τ H, Inv Y pp τ H s → (c = stopAt → Z stopAt H) → (c ≠ stopAt → ∀ s'', Okay s s'' → kap (.send .none) s'') → Yp n s₀ (.bool c) s kap) :
    ∀ (m n i : Nat) (τ : St) (H : Hp) (s s₀ : Shared), m < n → W i m τ H → Inv Y pp τ H s → tnn i s.heap → (∀ b ∈ fp, H b = none) →
      Seg (model Y.prog Y.w) A2 R Yp n s₀ (.compLoop (.GeneratorExp elt [⟨tg, iter, ifs, 0⟩] scope pos) 0 (.ref it) .none Y.env)
        ((model Y.prog Y.w).den (.compLoop (.GeneratorExp elt [⟨tg, iter, ifs, 0⟩] scope pos) 0 (.ref it) .none Y.env)) [] s := by
  intro m
  induction m using Nat.strongRecOn with
  | ind m ih =>
    intro n i τ H s s₀ hmn w I st fr
    show Seg _ A2 _ _ _ s₀ _ ((compTurn (.GeneratorExp elt [⟨tg, iter, ifs, 0⟩] scope pos) 0 (.ref it) .none Y.env).onRaise (leaving Y.env)) [] s
    rw [compTurn_gen, Sem.onRaise_eq_wrap]
    rcases turn i m τ H w with ⟨stop, qn⟩ | ⟨go, step⟩
    · refine seg_bind_wrap (wpAny_standAt ?_)
      have d := T.done Y rfl rfl rfl hc i pp s τ H (fun _ _ => False) I (stat fr) st stop
      rw [hA] at d
      refine seg_bind_wrap (wpAny_mono d (fun r s1 ⟨hr, I1⟩ => ?_) fun _ _ z => z.elim)
      subst hr
      exact seg_end (.ok .next) (hR _ _ _ _ _ I1 qn)
    · refine seg_bind_wrap (wpAny_standAt ?_)
      have d := T.item Y rfl rfl rfl hc i pp s τ H (fun _ _ => False) I (stat fr) st go
      rw [hA] at d
      refine seg_bind_wrap (wpAny_mono d (fun r s4 ⟨u, hr, h4⟩ => ?_) fun _ _ z => z.elim)
      subst hr
      refine seg_bind_wrap (wpAny_mono h4 (fun _ s5 ⟨x, H5, I5, r5, y5, st5, fr5⟩ => ?_) fun _ _ z => z.elim)
      have I5' := I5.pinned (stat fr5) (T.obj _ _ st5)
      have back : ∀ {τ7 : St} {H7 : Hp} {s7 : Shared}, Inv Y (pp ++ pinsAt fp s5.heap) τ7 H7 s7 → tnn (i + 1) s7.heap ∧ ∀ b ∈ fp, H7 b = none := fun {τ7 H7 s7} I7 => by
        refine ⟨T.keep _ _ _ st5 fun b hb o e => (I7.pin (b, o) (List.mem_append_right _ (List.mem_append_right _ (mem_pinsAt hb e)))).1, fun b hb => ?_⟩
        obtain ⟨o, e, d⟩ := T.obj _ _ st5 b hb
        exact (I7.pin (b, o) (List.mem_append_right _ (List.mem_append_right _ (mem_pinsAt hb e)))).2.1
      have d2 := hg _ s5 τ H5 x u _ I5' r5 (step x H5 y5)
      rw [hA, hxe] at d2
      refine seg_bind_wrap (wpAny_mono d2 (fun _ s6 ⟨τ6, H6, I6, q6⟩ => ?_) fun _ _ z => z.elim)
      have d3 := ht _ s6 τ6 H6 _ I6 q6
      rw [hA, hxe] at d3
      refine seg_bind_wrap (wpAny_mono d3 (fun ok s7 ⟨H7, I7, q7⟩ => ?_) fun _ _ z => z.elim)
      have hy : ∀ v, yieldOut Y.env v = yieldValue v := fun v => by simp only [yieldOut, hco, Bool.false_eq_true, if_false]
      cases ok with
      | false =>
        simp only [Bool.false_eq_true, if_false] at q7 ⊢
        obtain ⟨m', hm', w7⟩ := q7
        exact seg_again rfl (ih m' hm' n (i + 1) τ6 H7 s7 s₀ (by omega) w7 I7.unpinned (back I7).1 (back I7).2)
      | true =>
        simp only [if_true] at q7 ⊢
        simp only [hy]
        rw [Sem.bind_eq_wrap', Sem.bind_eq_wrap', Sem.wrap_wrap, Sem.wrap_wrap]
        have d4 := he _ s7 τ6 H7 _ I7 q7
        rw [hA, hxe] at d4
        refine seg_wrap (wpAny_mono d4 (fun yv s8 ⟨y, H8, I8, r8, q8⟩ => ?_) fun _ _ z => z.elim)
        obtain ⟨c, ey, q8⟩ := q8
        subst ey
        cases (show yv = Value.bool c from r8)
        obtain ⟨n, rfl⟩ : ∃ n', n = n' + 1 := ⟨n - 1, by omega⟩
        refine seg_at (seg_yield rfl rfl rfl (hY _ _ _ _ c τ6 H8 I8.unpinned (fun e => by rw [if_pos e] at q8; exact q8) fun e s'' ok => ?_))
        rw [if_neg e] at q8
        obtain ⟨m', hm', w8⟩ := q8
        have I9 := I8.okay ok
        exact seg_again rfl (ih m' hm' n (i + 1) τ6 H8 s'' s'' (by omega) w8 I9.unpinned (back I9).1 (back I9).2)
end
end L2

set_option Elab.async false
set_option maxRecDepth 100000
set_option maxHeartbeats 4000000
namespace L2
open PySem PySem.Spec PyProof.Rows

abbrev geOf (elt tg iter : Expr) (ifs : List Expr) (scope : Scope) (pos : Pos) : Expr := .GeneratorExp elt [⟨tg, iter, ifs, 0⟩] scope pos
abbrev cxG (X : Cx) (N' : List Str) (scope : Scope) (cl : List (Str × Addr)) (C : Addr) (code : Value) (A' : Around) (s : Shared) (H : Hp) (fp : List Addr) : Cx :=
  cxBlock X N' (genEnv scope cl C code builtinsNs X.env) A' (genEnv scope cl C code builtinsNs X.env :: X.stack) s H fp
abbrev BlkG (X : Cx) (N' : List Str) (scope : Scope) (k : Nat) (P : Cx → Prop) : Prop := ∀ (cl : List (Str × Addr)) (C : Addr) (code : Value) (A' : Around) (s : Shared) (H : Hp) (fp : List Addr), Room k A' → P (cxG X N' scope cl C code A' s H fp)

structure GenL (X : Cx) (pins : List (Addr × Obj)) (σ : St) (N' : List Str) (scope : Scope) (tn : Nat) (idx : List Nat) (k : Nat) (elt tg iter : Expr) (ifs : List Expr) (pos : Pos) (J : It) (H3 : Hp) (a : Addr) (s5 : Shared)
    (Y : Cx) (it : Addr) (fp : List Addr) (tnn : Nat → Heap → Prop) (g : Nat) (pp : List (Addr × Obj)) : Prop where
  inv : Inv Y pp (blockSt tn idx σ) H3 s5
  isg : ∀ {τ : St} {H' : Hp} {s' : Shared}, Inv Y pp τ H' s' → s'.heap.IsGen a g
  st : s5.gens[g]? = some (.fresh (.compStart (geOf elt tg iter ifs scope pos) 0 (.ref it) .none Y.env))
  T : Turn Y.prog Y.w Y.K tg J fp it tnn
  tn0 : tnn 0 s5.heap
  fr : ∀ b ∈ fp, H3 b = none
  stat : ∀ {H' : Hp}, (∀ b ∈ fp, H' b = none) → ∀ b ∈ fp, FpOk Y pp H' b
  out : ∀ {τ : St} {H' : Hp} {s' : Shared}, Inv Y pp τ H' s' → Inv X pins σ H' s'
  A : Y.A = X.A.in4.in1.over (.compLoop (geOf elt tg iter ifs scope pos) 0 (.ref it) .none Y.env) []
  xe : Y.xe = fun _ _ => False
  calm : Y.calm = true
  co : Y.env.scope.isCoroutine = false
  gsz : ∀ {τ : St} {H' : Hp} {s' : Shared}, Inv Y pp τ H' s' → g < s'.gens.size
  blk : ∀ P : Cx → Prop, BlkG X N' scope k P → P Y
  prog : Y.prog = X.prog
  w : Y.w = X.w

section
variable {X : Cx} {tg elt iter : Expr} {ifs : List Expr} {scope : Scope} {pos : Pos} {N' : List Str} {tn : Nat} {idx : List Nat} {wi : TI} {g : TG} {tt : TT} {te : TE} {c P : Addr} {k : Nat}
def tMk (P : Addr) (wi : TI) (R : It → Hp → Prop) : St → Hp → Prop := fun σ H => wi σ H fun J H1 => Tb P H1 ∧ ∀ ps, TriplesOk ps.toList → R J (upd H1 P (.tbl ps))
theorem gen_make {pins : List (Addr × Obj)} {s : Shared} {σ : St} {H : Hp} {QQ : Value → Shared → Prop} {R : It → Hp → Prop} (hr : Room (k + 1) X.A) (hc : X.calm = true) (B : BlockOk X.N X.env.scope scope N' tn idx)
    (h0 : scope.names.lookup (".0" : Str) = some .local) (hco : scope.isCoroutine = false) (hcode : X.env.code = .ref c) (hd : PySem.W.CodeHd X.base c P) (hbm : ∃ bm ob, BMod X.base mainGlobals X.mg bm ob)
    (hi : PI X tg iter wi) (hs : ∀ x, genFold iter X.env x = pure x) (I : Inv X pins σ H s) (h : tMk P wi R σ H)
    (q : ∀ J H3 a s5 Y it fp tnn gn pp, GenL X pins σ N' scope tn idx k elt tg iter ifs pos J H3 a s5 Y it fp tnn gn pp → R J H3 → QQ (.ref a) s5) :
    wpAny (model X.prog X.w) X.A (eval (geOf elt tg iter ifs scope pos) X.env) QQ X.xe s := by
  obtain ⟨cl, hclos, hcl1, hcl2⟩ := closure_ok (scope := scope) (env := X.env) fun n hn => I.ok.has n ((B.2.1 _ hn).2.2 rfl)
  refine wpAny_GeneratorExp_make hco hclos (fun y hy => (B.2.1 y hy).1) h0 B.1 hr.depth (thn (hi pins s σ H _ I h) fun xv s1 h1 => thn h1 fun itv s2 h2 => ?_) hs
  obtain ⟨it, fp, tnn, J, H2, e, I2, T, st2, f2, ⟨ps, hP, htr⟩, q2⟩ := h2
  subst e
  refine ⟨I2.nolimit, wp_genexprCode I2 hcode hd hP htr fun code ps' s3 tr' I3 kp gs3 => ?_⟩
  obtain ⟨bm, ob, bmod⟩ := hbm
  have bm3 := bmod.keeps I3.bk
  refine wpAny_builtinsFor (by rw [I3.ok.glob]; exact bm3.ns) bm3.name bm3.ne bm3.obj bm3.cls bm3.dict bm3.data ?_
  intro h' hn' hs'
  have neP : ∀ b ∈ fp, b ≠ P := fun b hb z => by have := (f2 b hb).1; rw [z, hP] at this; cases this
  have st3 : tnn 0 s3.heap := T.keep _ _ _ st2 fun b hb o e => kp b o (neP b hb) e
  have fpo : ∀ b ∈ fp, b < s3.heap.objs.size := fun b hb => let ⟨o, e, _⟩ := T.obj _ _ st3 b hb; Heap.lt_size e
  have f3 : ∀ b ∈ fp, FpOk X pins (upd H2 P (.tbl ps')) b := fun b hb => ⟨by rw [upd_ne (neP b hb)]; exact (f2 b hb).1, (f2 b hb).2⟩
  have hsz : h'.objs.size = s3.heap.objs.size + 1 := by rw [hs'.1, Heap.size_push]
  have keep' : ∀ b o, s3.heap.get? b = some o → h'.get? b = some o := fun b o e => hs'.extBut b o (Nat.ne_of_lt (Heap.lt_size e)) (Heap.get?_push_of_some _ e)
  have gn' : Gn s3.gens.size (s3.gens.push (.fresh (.compStart (geOf elt tg iter ifs scope pos) 0 (.ref it) .none (genEnv scope cl s3.heap.objs.size code builtinsNs X.env)))) := ⟨AllBare.push I3.bare.1 rfl, by rw [Array.size_push]; exact Nat.le_succ _⟩
  have I3' : Inv X pins σ (upd H2 P (.tbl ps')) { s3 with gens := s3.gens.push (.fresh (.compStart (geOf elt tg iter ifs scope pos) 0 (.ref it) .none (genEnv scope cl s3.heap.objs.size code builtinsNs X.env))) } := I3.okay ⟨rfl, rfl, gn'⟩
  have hA : (X.A.in4.in1.over (.compLoop (geOf elt tg iter ifs scope pos) 0 (.ref it) .none (genEnv scope cl s3.heap.objs.size code builtinsNs X.env)) []).frames = some (genEnv scope cl s3.heap.objs.size code builtinsNs X.env :: X.stack) := by
    show pushEnvs [_] (pushEnvs [] X.A.frames) = _
    rw [I.ok.frames]; rfl
  have hroom : Room k (X.A.in4.in1.over (.compLoop (geOf elt tg iter ifs scope pos) 0 (.ref it) .none (genEnv scope cl s3.heap.objs.size code builtinsNs X.env)) []) := by
    refine ⟨hr.hd, ?_, ?_⟩
    · show X.A.depth + 0 + 1 + 3 * k + 5 < recursionLimit
      have := hr.dp
      omega
    · show X.A.units + 1 + 1 + 1 + 1 + 1 + 0 + 3 + 16 * k + 200 < cLine
      have := hr.un
      omega
  generalize hgo : ({ cls := .type "generator", data := .fields #[.int s3.gens.size 0, .str "<genexpr>" (s3.toks + 1), .str (X.env.qual ++ "<genexpr>") (s3.toks + 1 + 1)] } : Obj) = gob
  have keep5 : ∀ b o, s3.heap.get? b = some o → (h'.push gob).get? b = some o := fun b o e => Heap.get?_push_of_some _ (keep' b o e)
  have hgob : gob.isFreed = false := by rw [← hgo]; rfl
  have hao : (h'.push gob).get? h'.objs.size = some gob := Heap.get?_push_size _ hgob
  have haC : h'.objs.size ≠ s3.heap.objs.size := by rw [hsz]; exact Nat.succ_ne_self _
  have hHa : upd H2 P (.tbl ps') h'.objs.size = none := I3.hok.fresh (by rw [hsz]; exact Nat.le_succ _)
  have I5 := inv_block (X := X) (N' := N') (A' := X.A.in4.in1.over (.compLoop (geOf elt tg iter ifs scope pos) 0 (.ref it) .none (genEnv scope cl s3.heap.objs.size code builtinsNs X.env)) []) (env' := genEnv scope cl s3.heap.objs.size code builtinsNs X.env) (stack' := genEnv scope cl s3.heap.objs.size code builtinsNs X.env :: X.stack) (ex := fp) (h1 := h'.push gob) (m0 := fun y => if y = ".0" then some (.ref it) else none)
    (g' := s3.gens.push (.fresh (.compStart (geOf elt tg iter ifs scope pos) 0 (.ref it) .none (genEnv scope cl s3.heap.objs.size code builtinsNs X.env)))) (tk := s3.toks + 1 + 1 + 1) (σ' := blockSt tn idx σ) I3' B.1 rfl I3.ok.blt.symm hcl1 (fun x hx => by
      have hx' : scope.names.lookup x = some .cell ∨ scope.names.lookup x = some .free := hx
      rcases hx' with z | z
      · exact absurd rfl ((B.2.1 _ (PySem.mem_of_lookup z)).1)
      · exact hcl2 x (PySem.mem_of_lookup z)) (fun z => I.ok.hd z) hA (.inr ⟨rfl, rfl⟩) (Nat.le_refl _) f3 fpo (Un.kept keep5) (I3.hok.kept keep5) (I3.hok.fresh (Nat.le_refl _)) keep5 (hn'.push _) (fun i x v e1 e2 e3 => by
      obtain ⟨fr, j, e4, e5⟩ := B.at e1 e2
      have kx := (B.2.1 _ (PySem.mem_of_lookup fr)).2.2 rfl
      exact ⟨.inr fr, .inr kx, kx, j, e4, e5⟩) (B.len σ) (Gn.self gn')
  have nfs : h'.objs.size ∉ frs X.stack := fun z => by
    rcases List.mem_cons.mp (I3.stkSub _ z) with q | q
    · exact Nat.ne_of_gt (Nat.lt_of_lt_of_le I3.lt (by rw [hsz]; exact Nat.le_succ _)) q
    · exact I3.nofs (by rw [hsz]; exact Nat.le_succ _) q
  have hcell : ∀ v, gob.data ≠ .cell v := by rw [← hgo]; intro v z; cases z
  have I6 := I5.pins_of (pins' := [(h'.objs.size, gob)]) (fun p hp => by
    rcases List.mem_singleton.mp hp with rfl
    exact ⟨hao, hHa, haC, nfs, hcell⟩)
  refine q J _ _ _ (cxG X N' scope cl s3.heap.objs.size code _ _ _ fp) it fp tnn s3.gens.size [(h'.objs.size, gob)] ⟨I6, fun {τ H' s'} J' => ?_, ?_, T, T.keep _ _ _ st3 fun b _ o e => keep5 b o e, fun b hb => (f3 b hb).1, fun {H'} hn b hb => ?_, fun {τ H' s'} J' => ?_, rfl, rfl, hc, hco, fun {τ H' s'} J' => ?_, fun Pp hb => hb cl _ code _ _ _ fp hroom, rfl, rfl⟩ (q2 ps' tr')
  · have := (J'.pin (h'.objs.size, gob) (List.mem_append_right _ (List.mem_singleton.mpr rfl))).1
    exact ⟨gob, _, _, this, by rw [← hgo], by rw [← hgo], by rw [← hgo]⟩
  · exact Array.getElem?_push_size ..
  · refine ⟨hn b hb, Nat.ne_of_lt (fpo b hb), fun z => ?_, .inl hb, fun x c e => (f2 b hb).2.2.2.2.1 x c (hcl1 x c e), fun p hp z => ?_⟩
    · rcases List.mem_cons.mp (I2.stkSub b z) with q | q
      · exact (f2 b hb).2.1 q
      · exact (f2 b hb).2.2.1 q
    · rcases List.mem_singleton.mp hp with rfl
      have z' : h'.objs.size = b := z
      have := fpo b hb
      rw [← z', hsz] at this
      exact absurd this (Nat.not_lt.mpr (Nat.le_succ _))
  · exact I3'.call' J'.os J'.base J'.hok J'.bare fun b hb => ⟨(f3 b hb).2.2.2.1, (f3 b hb).2.1, (f3 b hb).2.2.2.2.1, (f3 b hb).2.2.2.2.2⟩
  · have := J'.bare.2
    have e : (cxG X N' scope cl s3.heap.objs.size code (X.A.in4.in1.over (.compLoop (geOf elt tg iter ifs scope pos) 0 (.ref it) .none (genEnv scope cl s3.heap.objs.size code builtinsNs X.env)) []) { s3 with gens := s3.gens.push (.fresh (.compStart (geOf elt tg iter ifs scope pos) 0 (.ref it) .none (genEnv scope cl s3.heap.objs.size code builtinsNs X.env))) } (upd H2 P (.tbl ps')) fp).s₀.gens.size = s3.gens.size + 1 := by
      show (s3.gens.push _).size = _
      rw [Array.size_push]
    rw [e] at this
    omega

theorem all_loop {prog : Program} {w : World} {A : Around} {a : Addr} {R' : Result → Shared → Prop} (In : Nat → Shared → Prop)
    (turn : ∀ n s, In n s → wpAny (model prog w) A.in1 (pyNext (.ref a)) (fun r s1 => match r with
      | none => R' (.ok (.ret (.bool true))) s1
      | some v => ∃ c, v = .bool c ∧ if c = true then ∃ m, m < n ∧ In m s1 else R' (.ok (.ret (.bool false))) s1) (fun e s' => R' (.error e) s') s) :
    ∀ (n : Nat) (s : Shared), In n s → codeAny (model prog w) A (.builtin "all.loop" ⟨[.ref a], []⟩) R' s := by
  intro n
  induction n using Nat.strongRecOn with
  | ind n ih =>
    intro s h
    refine codeAny_builtin F.entry_all_loop ?_
    rw [Around.under_plainId F.plain_all_loop _]
    show wpAny _ A.in1 (pyNext (.ref a) >>= _) _ _ s
    refine wpAny_bind (wpAny_mono (turn n s h) (fun r s1 q => ?_) fun _ _ z => z)
    cases r with
    | none => exact wpAny_bind (wpAny_rule (wpAny_pure q))
    | some v =>
      obtain ⟨c, e, q⟩ := q
      subst e
      refine wpAny_bind (wpAny_holding (wpAny_truthy_bool ?_))
      refine wpAny_bind (wpAny_letGo ?_)
      cases c with
      | true =>
        simp only [if_true] at q ⊢
        obtain ⟨m, hm, hI⟩ := q
        exact wpAny_pure ⟨plainId_quiet F.plain_all_loop _, ih m hm s1 hI⟩
      | false =>
        simp only [Bool.false_eq_true, if_false] at q ⊢
        exact wpAny_bind (wpAny_rule (wpAny_pure q))

theorem setGen_gn {s : Shared} {g : Nat} {x : GenState} {n : Nat} (h : Gn n s.gens) (hx : x.bare = true) : Gn s.gens.size (s.setGen g x).gens := by
  refine ⟨fun y hy => ?_, ?_⟩
  · have hy' : y ∈ s.gens.setIfInBounds g x := hy
    rcases Array.mem_or_eq_of_mem_setIfInBounds hy' with z | z
    · exact h.1 y z
    · rw [z]; exact hx
  · show s.gens.size ≤ (s.gens.setIfInBounds g x).size
    rw [Array.size_setIfInBounds]
    exact Nat.le_refl _
theorem setGen_at {s : Shared} {g : Nat} {x : GenState} (h : g < s.gens.size) : (s.setGen g x).gens[g]? = some x := by
  show (s.gens.setIfInBounds g x)[g]? = _
  rw [Array.getElem?_setIfInBounds_self]
  simp [h]

theorem seg_start {Y : Cx} {A2 : Around} {R : GenEnd} {Yp : Protocol} {n : Nat} {s₀ s : Shared} {it : Addr} {J : It} {fp : List Addr} {tnn : Nat → Heap → Prop} (T : Turn Y.prog Y.w Y.K tg J fp it tnn) {i : Nat} (st : tnn i s.heap)
    (loop : Seg (model Y.prog Y.w) A2 R Yp n s₀ (.compLoop (geOf elt tg iter ifs scope pos) 0 (.ref it) .none Y.env) ((model Y.prog Y.w).den (.compLoop (geOf elt tg iter ifs scope pos) 0 (.ref it) .none Y.env)) [] s) :
    Seg (model Y.prog Y.w) A2 R Yp n s₀ (.compStart (geOf elt tg iter ifs scope pos) 0 (.ref it) .none Y.env) ((model Y.prog Y.w).den (.compStart (geOf elt tg iter ifs scope pos) 0 (.ref it) .none Y.env)) [] s := by
  show Seg _ A2 _ _ _ s₀ _ ((compStart (geOf elt tg iter ifs scope pos) 0 (.ref it) .none Y.env).onRaise (leaving Y.env)) [] s
  unfold compStart
  rw [Sem.onRaise_eq_wrap]
  show Seg _ A2 _ _ _ s₀ _ ((ask >>= _).wrap _ _ _ _) [] s
  refine seg_bind_wrap (wpAny_askSetting ?_)
  split
  · exact seg_again rfl loop
  · first
      | exact seg_bind_wrap (wpAny_rule (seg_bind_wrap (wpAny_standAt (seg_bind_wrap (T.self _ i s _ _ st (seg_again rfl loop))))))
      | (refine seg_bind_wrap (wpAny_rule ?_); show Seg _ A2 _ _ _ s₀ _ ((standAt iter.pos >>= _).wrap _ _ _ _) [] s; exact seg_bind_wrap (wpAny_standAt (seg_bind_wrap (T.self _ i s _ _ st (seg_again rfl loop)))))

def tAll (P : Addr) (tn : Nat) (idx : List Nat) (wi : TI) (g : TG) (tt : TT) (te : TE) : TE := fun σ H Q => tMk P wi (fun J H1 => ∃ W : Nat → Nat → St → Hp → Prop, (∃ m, W 0 m (blockSt tn idx σ) H1) ∧ tGen J g tt te false (fun b H2 => Q (.bl b) H2) W) σ H

theorem pe_all {p gpos : Pos} (hr : Room (k + 1) X.A) (hc : X.calm = true) (B : BlockOk X.N X.env.scope scope N' tn idx)
    (h0 : scope.names.lookup (".0" : Str) = some .local) (hco : scope.isCoroutine = false) (hcode : X.env.code = .ref c) (hd : PySem.W.CodeHd X.base c P) (hbm : ∃ bm ob, BMod X.base mainGlobals X.mg bm ob)
    (hgl : Gl X "all") (hm : X.mg "all" = none) (hi : PI X tg iter wi) (hg : BlkG X N' scope k fun Y => PG Y tg g) (ht : BlkG X N' scope k fun Y => PIf Y ifs tt) (he : BlkG X N' scope k fun Y => PE Y elt te)
    (hs : ∀ x, genFold iter X.env x = pure x := by intro _; rfl) : PE X (.Call (.Name "all" p) [geOf elt tg iter ifs scope gpos] [] pos) (tAll P tn idx wi g tt te) := by
  refine ⟨?_⟩
  intro pins s σ H Q I h
  refine wpAny_Call_Name_kw (ld_blt I hgl hm PyProof.Rows.boot_all ?_)
  refine PyProof.Rows.callWith_builtin1 ?_ rfl rfl
  show wpAny _ _ (spliced ((false, eval (geOf elt tg iter ifs scope gpos) X.env) :: [])) _ _ s
  refine Calls.spliced_cons (gen_make hr hc B h0 hco hcode hd hbm hi hs I h ?_)
  intro J H3 a s5 Y it fp tnn gn pp G ⟨W, ⟨m0, w0⟩, turn⟩
  refine Calls.spliced_nil ?_
  refine call_function_tree F.kind_all F.plain_all F.entry_all (F.args_all1 _) ?_
  unfold Builtin.«all»
  refine wpAny_bind (m := oneArg "all" _) (wpAny_pure ?_)
  refine wpAny_bind (wpAny_pyIter_gen (G.isg G.inv) ?_)
  refine wpAny_pure ⟨plainId_quiet F.plain_all_loop _, ?_⟩
  have segs := seg_loop (A2 := X.A.in4.in1) (pp := pp) (R := fun n s₀ r s₁ => r = .ok .next ∧ ∃ τ H, Inv Y pp τ H s₁ ∧ Q (.bl true) H)
    (Yp := fun n s₀ v s kap => ∃ c τ H, v = .bool c ∧ Inv Y pp τ H s ∧ (c = false → Q (.bl false) H) ∧ (c ≠ false → ∀ s'', Okay s s'' → kap (.send .none) s'')) G.A G.xe G.calm G.co G.T (G.blk _ hg) (G.blk _ ht) (G.blk _ he) G.stat turn
    (fun n s₀ s₁ τ H J z => ⟨rfl, τ, H, J, z⟩) (fun n s₀ s kap c τ H J z1 z2 => ⟨c, τ, H, rfl, J, z1, z2⟩)
  have hP := G.prog
  have hW := G.w
  rw [hP, hW] at segs
  refine all_loop (A := X.A) (fun n s => (∃ τ H, Inv Y pp τ H s) ∧ ∃ gs, s.gens[gn]? = some gs ∧ ∀ s'', Okay s s'' → gs.Goes (model X.prog X.w) X.A.in4.in1 (fun n s₀ r s₁ => r = .ok .next ∧ ∃ τ H, Inv Y pp τ H s₁ ∧ Q (.bl true) H)
    (fun n s₀ v s kap => ∃ c τ H, v = .bool c ∧ Inv Y pp τ H s ∧ (c = false → Q (.bl false) H) ∧ (c ≠ false → ∀ s'', Okay s s'' → kap (.send .none) s'')) n (.send .none) s'') ?_ (m0 + 1) s5 ?_
  · rintro n s6 ⟨⟨τ, H6, I6⟩, gs, hgs, hgo⟩
    have hgsz := G.gsz I6
    refine wpAny_of_in1 (wpAny_of_in1 (wpAny_of_in1 ?_))
    show wpAny (model X.prog X.w) X.A.in4 (pyNext (.ref a)) _ _ s6
    refine wpAny_pyNext_genexpQ (A := X.A.in4) (P := fun n s₀ s₁ => ∃ τ H, Inv Y pp τ H s₁ ∧ Q (.bl true) H) hr.hd I6.nolimit hr.depth (G.isg I6) hgs (hgo _ ⟨rfl, rfl, setGen_gn I6.bare rfl⟩) (fun v s1 gs' hb hv => ?_) (fun s1 hp h' hk => ?_)
    · obtain ⟨c, τ1, H1, e, I1, z1, z2⟩ := hv
      subst e
      refine ⟨c, rfl, ?_⟩
      have ok1 : Okay s1 (s1.setGen gn gs') := ⟨rfl, rfl, setGen_gn I1.bare hb⟩
      cases c with
      | false =>
        rw [if_neg Bool.false_ne_true]
        exact ⟨.bl false, H1, G.out (I1.okay ok1), rfl, z1 rfl⟩
      | true =>
        rw [if_pos rfl]
        have z3 := z2 (by decide)
        cases n with
        | zero => exact (z3 s1 ⟨rfl, rfl, I1.bare.self⟩).elim
        | succ m =>
          refine ⟨m, Nat.lt_succ_self _, ⟨τ1, H1, I1.okay ok1⟩, gs', setGen_at (G.gsz I1), fun s'' o => z3 s'' ⟨o.1, o.2.1, ?_⟩⟩
          exact ok1.2.2.trans o.2.2
    · obtain ⟨τ1, H1, I1, z1⟩ := hp
      have I2 := I1.kept (t' := s1.toks) hk
      have ok2 : Okay { s1 with heap := h' } { s1.setGen gn .finished with heap := h' } := ⟨rfl, rfl, setGen_gn (s := s1) I1.bare rfl⟩
      exact ⟨.bl true, H1, G.out (I2.okay ok2), rfl, z1⟩
  · refine ⟨⟨_, _, G.inv⟩, _, G.st, fun s'' o => ⟨rfl, ?_⟩⟩
    have I7 := G.inv.okay o
    have st7 : tnn 0 s''.heap := by rw [o.1]; exact G.tn0
    have q := seg_start (iter := iter) (ifs := ifs) (scope := scope) (pos := gpos) (elt := elt) G.T st7 (by rw [hP, hW]; exact segs m0 (m0 + 1) 0 _ _ s'' s'' (Nat.lt_succ_self _) w0 I7 st7 G.fr)
    rw [hP, hW] at q
    exact q
end
end L2

set_option Elab.async false
set_option maxRecDepth 100000
set_option maxHeartbeats 4000000
namespace L2
open PySem PySem.Spec PyProof.Rows

theorem law_callT {P : Program} {w : World} {K : PySem.W.Frag} {mg mb : Str → Option Value} {CX : CXT} {k : Nat} {fa a : Addr} {fd : FuncData} {x : Str} {sp : Sp} {s₁ : Shared} {vs : List Value} {ns : List Int} {tabs : List Addr}
    (KX : K.In s₁.heap) (hns : s₁.heap.Ns mainGlobals mg) (hb : s₁.heap.Ns builtinsNs mb) (hbb : ∀ x : Str, x ≠ "__name__" → mb x = bootBuiltins x) (hlim : s₁.heap.NoLimit) (hg : s₁.gens = #[])
    (ha : s₁.heap.get? a = some { cls := .type "list", data := .seq vs.toArray }) (hi : IntsAre vs ns) (hl : ns.length ≤ sizeLine) (hr : Room k callerA)
    (htab : ∀ p ∈ tabs, s₁.heap.get? p = some (PySem.W.tabObj #[]) ∧ isCodeTable s₁.heap p) (hKc : PySem.W.kb_classed K = true) (hbm : ∃ bm ob, BMod s₁.heap mainGlobals mg bm ob)
    (F : ∀ base : Heap, K.In base → base.Ns mainGlobals mg → (∃ bm ob, BMod base mainGlobals mg bm ob) → (∀ c p, PySem.W.CodeHd s₁.heap c p → PySem.W.CodeHd base c p) → FnOk P w K mg base CX k fa fd [x] sp)
    (hbind : ∀ (s : Shared) (u : Value), BindsTo s fd ⟨[u], []⟩ [(x, u)])
    (hsp : ∀ H : Hp, (∀ p ∈ tabs, Tb p H) → SqL K H a (ns.map V.int) → sp [.ref a] H (fun v _ => v = .bl true) fun _ _ _ => False)
    (hCX : ∀ H e s', CX [] H s₁ (fun _ _ _ => False) e s' → False) :
    codeAny (model P w) callerA (.call (.ref fa) ⟨[.ref a], []⟩) (fun r s' => r = .ok (.ret (.bool true)) ∧ OldK s₁.heap s'.heap ∧ s'.os = s₁.os ∧ AllBare s'.gens) s₁ := by
  have rv := vals_ints hi
  have lenV := hi.length
  have hat : a ∉ tabs := fun z => by
    have e := (htab a z).1
    rw [ha] at e
    cases e
  have core : ∀ H : Hp, (∀ b u, H b = some u → (b = a ∧ ∃ o xs, u = .frz o (.lst xs)) ∨ (b ∈ tabs ∧ u = .tbl #[])) → (∀ p ∈ tabs, H p = some (.tbl #[])) → SqL K H a (ns.map V.int) → HOk P w H s₁.heap → (H a ≠ none → K.lookup a = none) →
      codeAny (model P w) callerA (.call (.ref fa) ⟨[.ref a], []⟩) (fun r s' => r = .ok (.ret (.bool true)) ∧ OldK s₁.heap s'.heap ∧ s'.os = s₁.os ∧ AllBare s'.gens) s₁ := by
    intro H hO hTb hS hok hK
    have base_of : ∀ {b : Addr} {o : Obj}, s₁.heap.get? b = some o → H b = none → (hidT s₁.heap H).get? b = some o := fun e n => hidT_get e n
    have no : ∀ {b : Addr} {o : Obj}, s₁.heap.get? b = some o → (∀ n, o.data ≠ .seq vs.toArray n) → o ≠ PySem.W.tabObj #[] → H b = none := fun {b o} e d1 d2 => by
      cases q : H b with
      | none => rfl
      | some u =>
        rcases hO b u q with ⟨e', _⟩ | ⟨hb', _⟩
        · subst e'
          rw [ha] at e; cases e
          exact absurd rfl (d1 _)
        · rw [(htab b hb').1] at e
          exact absurd (Option.some.inj e).symm d2
    have noD : ∀ {b : Addr} {o : Obj} {es : Array DictEntry} {ep : Nat}, s₁.heap.get? b = some o → o.data = .dict es ep → H b = none := fun {b o es ep} e d => no e (fun n z => by rw [d] at z; cases z) fun z => by rw [z] at d; cases d
    have nsK : ∀ {b : Addr} {m : Str → Option Value}, s₁.heap.Ns b m → (hidT s₁.heap H).Ns b m := fun {b m} ⟨o, es, ep, e, d, r⟩ => ⟨o, es, ep, base_of e (noD e d), d, r⟩
    have hKb : K.In (hidT s₁.heap H) := fun b o e => base_of (KX b o e) (by
      cases q : H b with
      | none => rfl
      | some u =>
        rcases hO b u q with ⟨e', _⟩ | ⟨hb', _⟩
        · subst e'
          rw [hK (by rw [q]; simp)] at e; cases e
        · have e1 := KX b o e
          have e2 := (htab b hb').1
          rw [e1] at e2
          have e3 : o = PySem.W.tabObj #[] := Option.some.inj e2
          have q2 := List.all_eq_true.mp hKc (b, o) (PySem.W.kb_mem e)
          simp only [Bool.or_eq_true, decide_eq_true_eq, beq_iff_eq] at q2
          rcases q2 with (q2 | q2) | q2
          · rw [e3] at q2; exact absurd rfl q2
          · obtain ⟨mc, ⟨oc, es, ep, ho, hd, _⟩, _⟩ := hlim
            rw [← q2, e1] at ho
            cases ho
            rw [e3] at hd; cases hd
          · obtain ⟨oc, es, ep, ho, hd, _⟩ := id hns
            rw [← q2, e1] at ho
            cases ho
            rw [e3] at hd; cases hd)
    have hM : Mod K mg (hidT s₁.heap H) := ⟨hKb, nsK hns, ⟨mb, nsK hb, hbb⟩, let ⟨mc, h1, h2⟩ := hlim; ⟨mc, nsK h1, h2⟩⟩
    have hB : ∃ bm ob, BMod (hidT s₁.heap H) mainGlobals mg bm ob := by
      obtain ⟨bm, ob, B⟩ := hbm
      exact ⟨bm, ob, nsK B.ns, B.name, B.ne, base_of B.obj (no B.obj (fun n z => by rw [B.data] at z; cases z) fun z => by have := B.data; rw [z] at this; cases this), B.cls, B.dict, B.data⟩
    have hC : ∀ c p, PySem.W.CodeHd s₁.heap c p → PySem.W.CodeHd (hidT s₁.heap H) c p := fun c p ⟨o, vs', file, tf, flags, tg, inF, text, tt, e1, e2, e3, r⟩ =>
      ⟨o, vs', file, tf, flags, tg, inF, text, tt, base_of e1 (no e1 (fun n z => by rw [e3] at z; cases z) fun z => by rw [z] at e2; cases e2), e2, e3, r⟩
    have e0 : Env0 P w K mg (hidT s₁.heap H) callerA [] s₁ H := ⟨rfl, hM, fun b o e => of_hidT e, Nat.le_of_eq (hidT_size _ _), trivial, fun b hb => absurd (show b ∈ ([] : List Addr) from hb) (by simp), hok, .of_eq hg⟩
    refine codeAny_mono ((F _ hKb (nsK hns) hB hC).run callerA [] s₁ H ⟨[.ref a], []⟩ [.ref a] [.ref a] _ _ hr e0 (hbind s₁ (.ref a)) (.cons rfl .nil) (hsp H (fun p hp => ⟨#[], hTb p hp, trivial⟩) hS)) fun r s' h => ?_
    cases r with
    | error e => exact (hCX H e s' h).elim
    | ok fl =>
      cases fl with
      | next => exact False.elim h
      | brk => exact False.elim h
      | cont => exact False.elim h
      | ret u =>
        obtain ⟨v, H', os, bare, un, hok', r', q⟩ := h
        have q' : v = .bl true := q
        subst q'
        obtain rfl : u = Value.bool true := r'
        have all : ∀ b o, s₁.heap.get? b = some o → asItWas s₁.heap s'.heap b o ∧ ∃ o', s'.heap.get? b = some o' := fun b o e => by
          cases q : H b with
          | none =>
            have := un.keep b o e q (by intro z; exact absurd (show b ∈ ([] : List Addr) from z) (by simp)) (by simp)
            exact ⟨.inl this, _, this⟩
          | some u =>
            rcases hO b u q with ⟨_, ob, xs, z⟩ | ⟨hb', z⟩
            · subst z
              have z2 := un.frzs b ob _ q
              obtain ⟨e1, _⟩ := hok b _ q
              obtain ⟨e2, _⟩ := hok' b _ z2
              rw [e] at e1; cases e1
              exact ⟨.inl e2, _, e2⟩
            · subst z
              obtain ⟨more, z2⟩ := un.tbls b #[] q
              have e2 : s'.heap.get? b = some { cls := .none, data := .fields (#[] ++ more) } := hok' b _ z2
              have e1 := (htab b hb').1
              rw [e] at e1
              obtain rfl : o = PySem.W.tabObj #[] := Option.some.inj e1
              exact ⟨.inr (.inl ⟨(htab b hb').2, rfl, #[], more, rfl, e2⟩), _, e2⟩
        exact ⟨rfl, ⟨fun b o e => (all b o e).1, fun b o e => (all b o e).2⟩, os, bare.1⟩
  have tbOk : ∀ p ∈ tabs, ∀ H : Hp, ObjOk P w H s₁.heap p (.tbl #[]) := fun p hp H => (htab p hp).1
  cases hk : K.lookup a with
  | some o =>
    have e := KX a o hk
    rw [ha] at e
    cases e
    refine core (fun b => if b ∈ tabs then some (.tbl #[]) else none) (fun b u z => ?_) (fun p hp => if_pos hp) (.inr ⟨_, vs.toArray, _, hk, rfl, rfl, rfl, by rw [List.size_toArray, lenV]; exact hl, by simpa using rv⟩) (fun b u z => ?_) fun z => absurd (if_neg hat) z
    · by_cases hb : b ∈ tabs
      · have z' := (if_pos hb).symm.trans z
        cases z'
        exact .inr ⟨hb, rfl⟩
      · have z' := (if_neg hb).symm.trans z
        cases z'
    · by_cases hb : b ∈ tabs
      · have z' := (if_pos hb).symm.trans z
        cases z'
        exact tbOk b hb _
      · have z' := (if_neg hb).symm.trans z
        cases z'
  | none =>
    refine core (fun b => if b = a then some (.frz { cls := .type "list", data := .seq vs.toArray } (.lst (ns.map V.int))) else if b ∈ tabs then some (.tbl #[]) else none) (fun b u z => ?_) (fun p hp => ?_) (.inl (.inr ⟨{ cls := .type "list", data := .seq vs.toArray }, if_pos rfl⟩)) (fun b u z => ?_) fun _ => hk
    · by_cases hb : b = a
      · have z' := (if_pos hb).symm.trans z
        cases z'
        exact .inl ⟨hb, _, _, rfl⟩
      · have z' := (if_neg hb).symm.trans z
        by_cases hb2 : b ∈ tabs
        · have z2 := (if_pos hb2).symm.trans z'
          cases z2
          exact .inr ⟨hb2, rfl⟩
        · have z2 := (if_neg hb2).symm.trans z'
          cases z2
    · have hpa : p ≠ a := fun z => hat (z ▸ hp)
      show (if p = a then _ else if p ∈ tabs then _ else none) = _
      rw [if_neg hpa, if_pos hp]
    · by_cases hb : b = a
      · have z' := (if_pos hb).symm.trans z
        cases z'
        subst hb
        exact ⟨ha, by rw [List.length_map]; exact hl, vs, _, rv, ha⟩
      · have z' := (if_neg hb).symm.trans z
        by_cases hb2 : b ∈ tabs
        · have z2 := (if_pos hb2).symm.trans z'
          cases z2
          exact tbOk b hb2 _
        · have z2 := (if_neg hb2).symm.trans z'
          cases z2

theorem walk_ofT {l : PySem.W.OpenLaw} {n k : Nat} {q : Program} {loose : List Str} {XP : (Str → Option Value) → Heap → Prop} {YP : World → Heap → Prop} {d : DefRec} {K : Params → PySem.W.Frag} {CX : CXT} {sp : PySem.W.Frag → List Addr → Sp} {x : Str} {nms : List Str}
    (hn : l.most = some n) (hn2 : n ≤ sizeLine) (hdf : d.params.defaults = []) (hr : Room k callerA) (hKc : ∀ w : World, PySem.W.kb_classed (K w.params) = true)
    (hnm : ∀ y ∈ nms, ∃ r ∈ recsOf q, r.name = y)
    (hY : ∀ (w : World) (h : Heap), YP w h → (K w.params).In h)
    (F : ∀ (w : World) (mg : Str → Option Value) (fa : Addr) (h : Heap) (tabs : List Addr), (K w.params).In h → h.Ns mainGlobals mg → mg d.name = some (.ref fa) →
      Paired (fun y p => ∃ f o fd c, mg y = some (.ref f) ∧ h.get? f = some o ∧ o.data = .func fd ∧ fd.code = .ref c ∧ PySem.W.CodeHd h c p) nms tabs →
      ∃ fd : FuncData, (∀ (s : Shared) (u : Value), BindsTo s fd ⟨[u], []⟩ [(x, u)]) ∧
        ∀ base : Heap, (K w.params).In base → base.Ns mainGlobals mg → (∃ bm ob, BMod base mainGlobals mg bm ob) → (∀ c p, PySem.W.CodeHd h c p → PySem.W.CodeHd base c p) → FnOk l.prog w (K w.params) mg base CX k fa fd [x] (sp (K w.params) tabs))
    (hsp : ∀ (K : PySem.W.Frag) (tabs : List Addr) (H : Hp) (a : Addr) (ns : List Int), ns.length ≤ n → (∀ p ∈ tabs, Tb p H) → SqL K H a (ns.map V.int) → sp K tabs [.ref a] H (fun v _ => v = .bl true) fun _ _ _ => False)
    (hCX : ∀ (H : Hp) (s : Shared) (e : Value) (s' : Shared), CX [] H s (fun _ _ _ => False) e s' → False) :
    PySem.W.WalkO q loose XP YP l.row.toRowW d [] (fun f vs => PySem.call f vs) := by
  refine Att.attach_call hn hdf fun w s₀ s₁ mg mb fa o pm cd doc a vs ns G Y ho hd hcd hmg hobj hints hlen hg => ?_
  have KX := hY w _ Y
  have tb : ∀ nms : List Str, (∀ y ∈ nms, ∃ r ∈ recsOf q, r.name = y) → ∃ tabs, Paired (fun y p => ∃ f o fd c, mg y = some (.ref f) ∧ s₁.heap.get? f = some o ∧ o.data = .func fd ∧ fd.code = .ref c ∧ PySem.W.CodeHd s₁.heap c p) nms tabs ∧ ∀ p ∈ tabs, s₁.heap.get? p = some (PySem.W.tabObj #[]) ∧ isCodeTable s₁.heap p := by
    intro nms
    induction nms with
    | nil => intro _; exact ⟨[], .nil, fun p hp => absurd hp (by simp)⟩
    | cons y r ih =>
      intro hm
      obtain ⟨tabs, h1, h2⟩ := ih fun z hz => hm z (List.mem_cons_of_mem _ hz)
      obtain ⟨rr, hrr, e⟩ := hm y List.mem_cons_self
      obtain ⟨f, o', fd, c, p, a1, a2, a3, a4, a5, a6⟩ := G.T.tab rr hrr
      rw [e] at a1
      refine ⟨p :: tabs, .cons ⟨f, o', fd, c, a1, a2, a3, a4, .of a5 a6⟩ h1, fun z hz => ?_⟩
      rcases List.mem_cons.mp hz with rfl | hz
      · exact ⟨a6.2, a6.isCodeTable⟩
      · exact h2 z hz
  obtain ⟨tabs, t1, t2⟩ := tb nms hnm
  obtain ⟨fd, hb, hF⟩ := F w mg fa _ tabs KX G.T.g hmg t1
  exact law_callT KX G.T.g G.T.b G.T.builtins G.T.nolimit hg hobj hints (Nat.le_trans hlen hn2) hr t2 (hKc w) (PySem.W.bmod_of_top G.T) hF hb (fun H hO hS => hsp _ tabs H a ns hlen hO hS) fun H e s' => hCX H s₁ e s'
end L2

set_option Elab.async false
set_option maxRecDepth 100000
set_option maxHeartbeats 4000000
namespace L2
open PySem PySem.Spec PyProof.Rows

section
variable {X : Cx} {tg l : Expr} {tl : TE}
def rSlS : V → Option Int → Option Int → Hp → VK → Prop := fun x lo hi H Q => ∃ z, x = .str z ∧ z.length ≤ sizeLine ∧ Q (.str (Txt.slice z lo hi)) H
theorem sl_str : SlR X rSlS := by
  intro pins s σ H x v vl vu lo hi sl Q I rx hs pl pu h
  obtain ⟨z, rfl, hz, q⟩ := h
  obtain ⟨t, rfl⟩ := rx
  refine ⟨"str", _, F.slot_str_getitem.lookup, typeIs_str _ _ _, ?_⟩
  have fin : ∀ (l u : Option (Int × Tok)), s.heap.IsSlice sl l u none → l.map (·.1) = lo → u.map (·.1) = hi → wpAny (model X.prog X.w) X.A (getItem (.str z t) (.ref sl)) (EP X pins σ Q) X.xe s := fun l u e e1 e2 => by
    refine wpAny_getItem_str_slice (l := l) (u := u) (st := none) e rfl ?_
    refine post_val_or_str ⟨?_, fun t' k => ?_⟩
    · exact (show (Txt.slice z (l.map (·.1)) (u.map (·.1))).length ≤ sizeLine from Nat.le_trans (Txt.slice_le z _ _) hz)
    · refine ⟨.str (Txt.slice z lo hi), H, I.tok k, ⟨t', ?_⟩, q⟩
      rw [← e1, ← e2]
      rfl
  obtain ⟨o, ho, hc, hd⟩ := hs
  cases pl with
  | none =>
    cases pu with
    | none => exact fin none none ⟨o, ho, hc, hd⟩ rfl rfl
    | int j uj => exact fin none (some (j, uj)) ⟨o, ho, hc, hd⟩ rfl rfl
  | int i ui =>
    cases pu with
    | none => exact fin (some (i, ui)) none ⟨o, ho, hc, hd⟩ rfl rfl
    | int j uj => exact fin (some (i, ui)) (some (j, uj)) ⟨o, ho, hc, hd⟩ rfl rfl
theorem call_isinst : CallR X (.builtin "isinstance") (fun xs H Q => ∃ x T t b, xs = [x, .ty T] ∧ TyOf X.K H x t ∧ PySem.W.kitOne X.K t (.type T) = some b ∧ Q (.bl b) H) := by
  intro pins s σ H xs us Q I r h
  obtain ⟨x, T, t, b, rfl, ty, e, q⟩ := h
  obtain ⟨u, w', rfl, r1, r2⟩ := vals2 r
  cases (show w' = Value.type T from r2)
  exact isinst_ok I r1 ty e fun tk => ⟨.bl b, H, I.tok tk, rfl, q⟩

theorem vals_of_get : ∀ {xs : List V} {us : List Value}, xs.length = us.length → (∀ (i : Nat) (v : V), xs[i]? = some v → ∃ u, us[i]? = some u ∧ RelV v u) → Vals xs us
  | [], [], _, _ => .nil
  | [], _ :: _, h, _ => by simp at h
  | _ :: _, [], h, _ => by simp at h
  | x :: xs, u :: us, h, g => by
    obtain ⟨u', e, r⟩ := g 0 x rfl
    have e' : u = u' := by simpa using e
    subst e'
    exact .cons r (vals_of_get (by simpa using h) fun i v hv => by
      obtain ⟨w, e2, r2⟩ := g (i + 1) v (by simpa using hv)
      exact ⟨w, by simpa using e2, r2⟩)

theorem pe_listrange {e : Expr} {te : TE} {p p1 p2 pos : Pos} (hc : X.calm = true) (hg : Gl X "list") (hm : X.mg "list" = none) (hgr : Gl X "range") (hmr : X.mg "range" = none) (he : PE X e te) (hs : starEach [e] X.env = [(false, eval e X.env)] := by rfl) :
    PE X (.Call (.Name "list" p) [.Call (.Name "range" p1) [e] [] p2] [] pos) (fun σ H Q => te σ H fun x H1 => ∃ j : Int, x = .int j ∧ -(2 ^ 24) ≤ j ∧ j ≤ 2 ^ 24 ∧ ∀ l, H1 l = none → Q (.ref l) (upd H1 l (.lst ((List.range j.toNat).map fun i => V.int (i : Nat))))) := by
  refine ⟨?_⟩
  intro pins s σ H Q I h
  refine wpAny_Call_Name_kw (ld_blt I hg hm (by decide +kernel : bootBuiltins "list" = some (.type "list")) ?_)
  refine PyProof.Rows.callWith_type1 ?_ rfl rfl
  show wpAny _ _ (spliced ((false, eval (.Call (.Name "range" p1) [e] [] p2) X.env) :: [])) _ _ s
  refine Calls.spliced_cons ?_
  refine Call_ (ld_blt I hgr hmr boot_range (PyProof.Rows.callWith_type1 ?_ hs rfl))
  rw [hs]
  refine Calls.spliced_cons (thn (he pins s σ H _ I h) fun v s1 ⟨x, H1, I1, r1, q1⟩ => Calls.spliced_nil ?_)
  obtain ⟨j, rfl, b1, b2, q⟩ := q1
  obtain ⟨t, rfl⟩ := r1
  refine call_range_1 ?_
  refine Calls.spliced_nil ?_
  refine call_list_range (n := j.toNat) (I1.ok.hd hc) (IsRange.new ..) (small_one (by omega) (by omega) (by omega) (by omega)) (by rw [PyProof.Rows.rangeSize_nat]; simp) (by omega) fun h' tk acc' c' hk hS hit => ?_
  have I2 : Inv X pins σ H1 { s1 with heap := s1.heap.push { cls := .type "range", data := .fields #[.int 0 s1.toks, .int j t, .int 1 (s1.toks + 1)] }, toks := s1.toks + 1 + 1 } := I1.kept fun b o e => Heap.get?_push_of_some _ e
  obtain ⟨hsz, hat⟩ := hit
  have rv : Vals ((List.range j.toNat).map fun i => V.int (i : Nat)) acc'.toList := by
    refine vals_of_get (by simpa using hsz.symm) fun i v e => ?_
    rw [List.getElem?_map] at e
    cases q2 : (List.range j.toNat)[i]? with
    | none => rw [q2] at e; cases e
    | some k =>
      rw [q2] at e
      have ek : k = i := by
        obtain ⟨_, e3⟩ := List.getElem?_eq_some_iff.mp q2
        simpa using e3.symm
      have hi : i < acc'.size := by
        have := (List.getElem?_eq_some_iff.mp q2).1
        rw [List.length_range] at this
        omega
      obtain ⟨t2, e4⟩ := hat i acc'[i] (by simp [hi])
      refine ⟨acc'[i], by simp [hi], ?_⟩
      rw [e4]
      have e5 : v = V.int (k : Nat) := (Option.some.inj e).symm
      rw [e5, ek]
      exact ⟨t2, by simp⟩
  have ob : ObjOk X.prog X.w (upd H1 (s1.heap.push { cls := .type "range", data := .fields #[.int 0 s1.toks, .int j t, .int 1 (s1.toks + 1)] }).objs.size (.lst ((List.range j.toNat).map fun i => V.int (i : Nat)))) h' (s1.heap.push { cls := .type "range", data := .fields #[.int 0 s1.toks, .int j t, .int 1 (s1.toks + 1)] }).objs.size (.lst ((List.range j.toNat).map fun i => V.int (i : Nat))) := by
    refine ⟨?_, acc'.toList, c', rv, by simpa using hS⟩
    rw [List.length_map, List.length_range]
    exact Nat.le_trans (show j.toNat ≤ 2 ^ 24 by omega) (by decide)
  exact ⟨.ref _, _, I2.laid (t' := tk) hk (Nat.le_refl _) ob, rfl, q _ (I2.hok.fresh (Nat.le_refl _))⟩
end

def Keep (H H' : Hp) : Prop := ∀ b o, H b = some o → H' b = some o ∨ ∃ ps ps' : Array Value, o = .tbl ps ∧ H' b = some (.tbl ps') ∧ TriplesOk ps'.toList
theorem Keep.refl (H : Hp) : Keep H H := fun _ _ h => .inl h
theorem Keep.trans {H H1 H2 : Hp} (a : Keep H H1) (b : Keep H1 H2) : Keep H H2 := fun c o h => by
  rcases a c o h with z | ⟨ps, ps', e, z, t⟩
  · exact b c o z
  · rcases b c _ z with z2 | ⟨qs, qs', e2, z2, t2⟩
    · exact .inr ⟨ps, ps', e, z2, t⟩
    · exact .inr ⟨ps, qs', e, z2, t2⟩
theorem Keep.free {H H' : Hp} (e : Keep H H') {l : Addr} (h : H' l = Option.none) : H l = Option.none := by
  cases q : H l with
  | none => rfl
  | some o =>
    rcases e l o q with z | ⟨_, _, _, z, _⟩ <;> (rw [h] at z; cases z)
theorem Keep.get {H H' : Hp} (k : Keep H H') {b : Addr} {o : HO} (h : H b = some o) (n : ∀ ps, o ≠ .tbl ps) : H' b = some o := by
  rcases k b o h with z | ⟨ps, _, e, _⟩
  · exact z
  · exact absurd e (n ps)
theorem Keep.lst {H H' : Hp} (k : Keep H H') {b : Addr} {xs : List V} (h : H b = some (.lst xs)) : H' b = some (.lst xs) := k.get h (by intro ps z; cases z)
theorem Keep.tup {H H' : Hp} (k : Keep H H') {b : Addr} {xs : List V} (h : H b = some (.tup xs)) : H' b = some (.tup xs) := k.get h (by intro ps z; cases z)
theorem Keep.tb {H H' : Hp} (k : Keep H H') {P : Addr} (h : Tb P H) : Tb P H' := by
  obtain ⟨ps, e, t⟩ := h
  rcases k P _ e with z | ⟨_, ps', _, z, t'⟩
  · exact ⟨ps, z, t⟩
  · exact ⟨ps', z, t'⟩
theorem Keep.sqL {K : PySem.W.Frag} {H H' : Hp} {a : Addr} {xs : List V} (e : Keep H H') (h : SqL K H a xs) : SqL K H' a xs := by
  rcases h with (h | ⟨o, h⟩) | h
  · exact .inl (.inl (e.lst h))
  · exact .inl (.inr ⟨o, e.get h (by intro ps z; cases z)⟩)
  · exact .inr h
theorem Keep.new {H : Hp} {p : Addr} (h : H p = none) (o : HO) : Keep H (upd H p o) := fun b u q => .inl (by rw [upd_ne (ne_of_none q h)]; exact q)
theorem Keep.tbl {H : Hp} {P : Addr} (h : Tb P H) {ps : Array Value} (t : TriplesOk ps.toList) : Keep H (upd H P (.tbl ps)) := fun b u q => by
  by_cases hb : b = P
  · subst hb
    obtain ⟨qs, e, _⟩ := h
    rw [e] at q; cases q
    exact .inr ⟨qs, ps, rfl, upd_same, t⟩
  · exact .inl (by rw [upd_ne hb]; exact q)

def KeepBut (a : Addr) (H H' : Hp) : Prop := ∀ b o, b ≠ a → H b = some o → H' b = some o ∨ ∃ ps ps' : Array Value, o = .tbl ps ∧ H' b = some (.tbl ps') ∧ TriplesOk ps'.toList
theorem Keep.but {H H' : Hp} (k : Keep H H') (a : Addr) : KeepBut a H H' := fun b o _ h => k b o h
theorem KeepBut.refl (a : Addr) (H : Hp) : KeepBut a H H := fun _ _ _ h => .inl h
theorem KeepBut.trans {a : Addr} {H H1 H2 : Hp} (x : KeepBut a H H1) (y : KeepBut a H1 H2) : KeepBut a H H2 := fun c o n h => by
  rcases x c o n h with z | ⟨ps, ps', e, z, t⟩
  · exact y c o n z
  · rcases y c _ n z with z2 | ⟨qs, qs', e2, z2, t2⟩
    · exact .inr ⟨ps, ps', e, z2, t⟩
    · exact .inr ⟨ps, qs', e, z2, t2⟩
theorem KeepBut.upd {a : Addr} {H : Hp} {o : HO} : KeepBut a H (upd H a o) := fun b u n q => .inl (by rw [upd_ne n]; exact q)
theorem KeepBut.get {a : Addr} {H H' : Hp} (k : KeepBut a H H') {b : Addr} {o : HO} (hb : b ≠ a) (h : H b = some o) (n : ∀ ps, o ≠ .tbl ps) : H' b = some o := by
  rcases k b o hb h with z | ⟨ps, _, e, _⟩
  · exact z
  · exact absurd e (n ps)
theorem KeepBut.lst {a : Addr} {H H' : Hp} (k : KeepBut a H H') {b : Addr} {xs : List V} (hb : b ≠ a) (h : H b = some (.lst xs)) : H' b = some (.lst xs) := k.get hb h (by intro ps z; cases z)
theorem KeepBut.tup {a : Addr} {H H' : Hp} (k : KeepBut a H H') {b : Addr} {xs : List V} (hb : b ≠ a) (h : H b = some (.tup xs)) : H' b = some (.tup xs) := k.get hb h (by intro ps z; cases z)

theorem KeepBut.keep {a : Addr} {H H' : Hp} (k : KeepBut a H H') (n : H a = none) : Keep H H' := fun b o h => k b o (fun z => by rw [z, n] at h; cases h) h
end L2

set_option Elab.async false
set_option maxRecDepth 100000
set_option maxHeartbeats 4000000
namespace L2
open PySem PySem.Spec PyProof.Rows

theorem bt_int : bootBuiltins "int" = some (.type "int") := by decide +kernel
theorem bt_bool : bootBuiltins "bool" = some (.type "bool") := by decide +kernel
theorem bt_tuple : bootBuiltins "tuple" = some (.type "tuple") := by decide +kernel
theorem bt_list : bootBuiltins "list" = some (.type "list") := by decide +kernel
theorem bt_min : bootBuiltins "min" = some (.builtin "min") := by decide +kernel
theorem bt_max : bootBuiltins "max" = some (.builtin "max") := by decide +kernel
theorem bt_abs : bootBuiltins "abs" = some (.builtin "abs") := by decide +kernel
theorem bt_ValueError : bootBuiltins "ValueError" = some (.type "ValueError") := by decide +kernel
theorem bt_isinstance : bootBuiltins "isinstance" = some (.builtin "isinstance") := by decide +kernel

structure Bl (mg : Str → Option Value) : Prop where
  len_ : mg "len" = none
  range_ : mg "range" = none
  min_ : mg "min" = none
  max_ : mg "max" = none
  abs_ : mg "abs" = none
  list_ : mg "list" = none
  tuple_ : mg "tuple" = none
  int_ : mg "int" = none
  str_ : mg "str" = none
  bool_ : mg "bool" = none
  isinstance_ : mg "isinstance" = none
  all_ : mg "all" = none
  set_ : mg "set" = none
  sorted_ : mg "sorted" = none
  zip_ : mg "zip" = none
  enumerate_ : mg "enumerate" = none
  sum_ : mg "sum" = none
  reversed_ : mg "reversed" = none
  divmod_ : mg "divmod" = none
  any_ : mg "any" = none
  ValueError_ : mg "ValueError" = none

structure Df (K : PySem.W.Frag) (mg : Str → Option Value) (x : Str) (st : Stmt) (ps : List Str) (f : Addr) (fd : FuncData) : Prop where
  fn : Fun K x x st f fd
  bd : Binds K fd ps []
  mg : mg x = some (.ref f)

structure DfC (base : Heap) (fd : FuncData) (c P : Addr) : Prop where
  code : fd.code = .ref c
  hd : PySem.W.CodeHd base c P
section
variable {P : Program} {w : World} {K : PySem.W.Frag} {mg : Str → Option Value} {base : Heap}
theorem Fun.okc {x qual : Str} {st : Stmt} {f : Addr} {fd : FuncData} {N ps : List Str} {k : Nat} {sp : Sp} (F : Fun K x qual st f fd) (S : FnScope N ps (defScope st)) (len : ∀ vs H Q E, sp vs H Q E → vs.length = ps.length)
    (hbody : ∀ (A : Around) (outer : List Env) (s : Shared) (H : Hp) (vs : List V) (Q : VK) (E : XK), Room k (A.deeper (envOfC qual (defScope st) s.heap.objs.size f fd.code)) → sp vs H Q E →
      ∃ t, PSs (cxOf CX0 P w K mg base N qual (defScope st) f fd.code A outer s H E).nox (defBody st) t ∧ t { nx := fun _ H' => Q .non H', rt := Q } (start N vs) H) : FnOk P w K mg base CX0 (k + 1) f fd ps sp := by
  obtain ⟨oc, od, kV, doc, pm, an, cdv, ct, osl, rfl, lk, hcd⟩ := F.ex
  refine fn_of lk hcd S len fun A outer s H vs Q E hr hsp => ?_
  obtain ⟨t, h, q⟩ := hbody A outer s H vs Q E hr hsp
  exact ⟨t, h.nox, q⟩
end

inductive Kd (H : Hp) : V → Prop where
  | non : Kd H .non
  | bl (b : Bool) : Kd H (.bl b)
  | int (i : Int) : Kd H (.int i)
  | str (x : Str) : Kd H (.str x)
  | lst {a : Addr} {xs : List V} (e : H a = some (.lst xs)) : Kd H (.ref a)
  | tup {a : Addr} {xs : List V} (e : H a = some (.tup xs)) : Kd H (.ref a)
theorem Kd.keep {H H' : Hp} {x : V} (k : Keep H H') (h : Kd H x) : Kd H' x := by
  cases h with
  | non => exact .non
  | bl b => exact .bl b
  | int i => exact .int i
  | str x => exact .str x
  | lst e => exact .lst (k.lst e)
  | tup e => exact .tup (k.tup e)
def isI : V → Bool | .int _ => true | _ => false
def isB : V → Bool | .bl _ => true | _ => false
def isT (H : Hp) : V → Bool | .ref a => (match H a with | some (.tup _) => true | _ => false) | _ => false
theorem kd_int {K : PySem.W.Frag} {H : Hp} {x : V} (h : Kd H x) : ∃ t, TyOf K H x t ∧ PySem.W.kitOne K t (.type "int") = some (isI x || isB x) := by
  cases h with
  | non => exact ⟨_, .non, rfl⟩
  | bl b => exact ⟨_, .bl b, rfl⟩
  | int i => exact ⟨_, .int i, rfl⟩
  | str x => exact ⟨_, .str x, rfl⟩
  | lst e => exact ⟨_, .lst e, rfl⟩
  | tup e => exact ⟨_, .tup e, rfl⟩
theorem kd_bool {K : PySem.W.Frag} {H : Hp} {x : V} (h : Kd H x) : ∃ t, TyOf K H x t ∧ PySem.W.kitOne K t (.type "bool") = some (isB x) := by
  cases h with
  | non => exact ⟨_, .non, rfl⟩
  | bl b => exact ⟨_, .bl b, rfl⟩
  | int i => exact ⟨_, .int i, rfl⟩
  | str x => exact ⟨_, .str x, rfl⟩
  | lst e => exact ⟨_, .lst e, rfl⟩
  | tup e => exact ⟨_, .tup e, rfl⟩
theorem kd_tup {K : PySem.W.Frag} {H : Hp} {x : V} (h : Kd H x) : ∃ t, TyOf K H x t ∧ PySem.W.kitOne K t (.type "tuple") = some (isT H x) := by
  cases h with
  | non => exact ⟨_, .non, rfl⟩
  | bl b => exact ⟨_, .bl b, rfl⟩
  | int i => exact ⟨_, .int i, rfl⟩
  | str x => exact ⟨_, .str x, rfl⟩
  | lst e => exact ⟨_, .lst e, by simp only [isT, e]; rfl⟩
  | tup e => exact ⟨_, .tup e, by simp only [isT, e]; rfl⟩

def Th (H : Hp) : Nat → V → Prop
  | 0, x => Kd H x
  | n + 1, x => Kd H x ∧ ∀ a ys, x = .ref a → H a = some (.tup ys) → ∀ y ∈ ys, Th H n y
theorem Th.kd {H : Hp} {n : Nat} {x : V} (h : Th H n x) : Kd H x := by
  cases n with
  | zero => exact h
  | succ n => exact h.1
theorem Th.keep {H H' : Hp} (k : Keep H H') : ∀ {n : Nat} {x : V}, Th H n x → Th H' n x
  | 0, _, h => Kd.keep k h
  | n + 1, x, h => ⟨h.1.keep k, fun a ys e e' y hy => by
    have q := h.1
    subst e
    cases q with
    | lst e2 => rw [k.lst e2] at e'; cases e'
    | tup e2 => rw [k.tup e2] at e'; cases e'; exact Th.keep k (h.2 a _ rfl e2 y hy)⟩

def below (m : Int) : V → Bool | .int i => decide (0 ≤ i) && decide (i < m) | _ => false
def rowB (H : Hp) (m : Int) (w : Nat) : V → Bool
  | .ref a => (match H a with | some (.tup ys) => decide (ys.length = w) && ys.all (below m) | _ => false)
  | _ => false
def netB (H : Hp) : V → Bool
  | .ref a => (match H a with | some (.tup rs) => decide (1 ≤ rs.length ∧ rs.length ≤ 9) && (rs.all (rowB H rs.length 2) || rs.all (rowB H rs.length 3)) | _ => false)
  | _ => false
theorem rowB_keep {H H' : Hp} (k : Keep H H') {m : Int} {w : Nat} {x : V} (h : Kd H x) : rowB H' m w x = rowB H m w x := by
  cases h with
  | lst e => simp only [rowB, k.lst e, e]
  | tup e => simp only [rowB, k.tup e, e]
  | _ => rfl
theorem netB_keep {H H' : Hp} (k : Keep H H') {x : V} (h : Th H 1 x) : netB H' x = netB H x := by
  have q := h.1
  cases q with
  | lst e => simp only [netB, k.lst e, e]
  | @tup a xs e =>
    simp only [netB, k.tup e, e]
    have all : ∀ w, xs.all (rowB H' xs.length w) = xs.all (rowB H xs.length w) := fun w => by
      refine Bool.eq_iff_iff.mpr ?_
      rw [List.all_eq_true, List.all_eq_true]
      exact ⟨fun z y hy => by rw [← rowB_keep k (h.2 a xs rfl e y hy)]; exact z y hy, fun z y hy => by rw [rowB_keep k (h.2 a xs rfl e y hy)]; exact z y hy⟩
    simp only [all]
  | _ => rfl

def RowAt (H : Hp) (v : V) (row : List Int) : Prop := ∃ p, v = .ref p ∧ H p = some (.tup (row.map V.int))
def NetAt (H : Hp) (v : V) (net : List (List Int)) : Prop := ∃ a rs, v = .ref a ∧ H a = some (.tup rs) ∧ Paired (RowAt H) rs net
structure NetOk (net : List (List Int)) (w : Nat) : Prop where
  one : 1 ≤ net.length
  nine : net.length ≤ 9
  wid : w = 2 ∨ w = 3
  row : ∀ r ∈ net, r.length = w ∧ ∀ g ∈ r, 0 ≤ g ∧ g < (net.length : Int)
theorem RowAt.keep {H H' : Hp} (k : Keep H H') {v : V} {row : List Int} (h : RowAt H v row) : RowAt H' v row := let ⟨p, e, q⟩ := h; ⟨p, e, k.tup q⟩
theorem NetAt.keep {H H' : Hp} (k : Keep H H') {v : V} {net : List (List Int)} (h : NetAt H v net) : NetAt H' v net := let ⟨a, rs, e, q, r⟩ := h; ⟨a, rs, e, k.tup q, Paired.mapP r fun _ _ z => z.keep k⟩
theorem paired_mem {α β : Type} {F : α → β → Prop} : ∀ {xs : List α} {ys : List β}, Paired F xs ys → ∀ x ∈ xs, ∃ y ∈ ys, F x y
  | _, _, .nil, x, h => by simp at h
  | _, _, .cons f t, x, h => by
    rcases List.mem_cons.mp h with rfl | h
    · exact ⟨_, List.mem_cons_self, f⟩
    · obtain ⟨y, hy, q⟩ := paired_mem t x h
      exact ⟨y, List.mem_cons_of_mem _ hy, q⟩
theorem paired_get {α β : Type} {F : α → β → Prop} : ∀ {xs : List α} {ys : List β} {i : Nat} {y : β}, Paired F xs ys → ys[i]? = some y → ∃ x, xs[i]? = some x ∧ F x y
  | _, _, _, _, .nil, e => by simp at e
  | _, _, 0, _, .cons f _, e => by simp at e; subst e; exact ⟨_, rfl, f⟩
  | _, _, i + 1, y, .cons _ t, e => by
    obtain ⟨x, h1, h2⟩ := paired_get (i := i) (y := y) t (by simpa using e)
    exact ⟨x, by simpa using h1, h2⟩
theorem NetAt.th {H : Hp} {v : V} {net : List (List Int)} (h : NetAt H v net) : Th H 2 v := by
  obtain ⟨a, rs, rfl, q, r⟩ := h
  refine ⟨.tup q, fun a' ys e e' y hy => ?_⟩
  cases e
  rw [q] at e'; cases e'
  obtain ⟨row, _, p, rfl, z⟩ := paired_mem r y hy
  refine ⟨.tup z, fun a2 zs e2 e3 u hu => ?_⟩
  cases e2
  rw [z] at e3; cases e3
  obtain ⟨g, _, rfl⟩ := List.mem_map.mp hu
  exact .int g
theorem NetAt.ok {H : Hp} {v : V} {net : List (List Int)} {w : Nat} (h : NetAt H v net) (o : NetOk net w) : netB H v = true := by
  obtain ⟨a, rs, rfl, q, r⟩ := h
  have hl := r.length
  have rows : rs.all (rowB H rs.length w) = true := by
    rw [List.all_eq_true]
    intro x hx
    obtain ⟨row, hr, p, rfl, z⟩ := paired_mem r x hx
    obtain ⟨o1, o2⟩ := o.row row hr
    simp only [rowB, z, List.length_map, o1, decide_true, Bool.true_and]
    rw [List.all_eq_true]
    intro u hu
    obtain ⟨g, hg, rfl⟩ := List.mem_map.mp hu
    obtain ⟨g1, g2⟩ := o2 g hg
    simp only [below]
    rw [decide_eq_true g1, decide_eq_true (by rw [hl]; exact g2)]
    rfl
  simp only [netB, q]
  have h1 : 1 ≤ rs.length ∧ rs.length ≤ 9 := by rw [hl]; exact ⟨o.one, o.nine⟩
  rw [decide_eq_true h1]
  rcases o.wid with rfl | rfl
  · rw [rows]; rfl
  · rw [rows]; simp
def TbAll (tb : List Addr) (H : Hp) : Prop := ∀ p ∈ tb, Tb p H
theorem TbAll.keep {tb : List Addr} {H H' : Hp} (k : Keep H H') (h : TbAll tb H) : TbAll tb H' := fun p hp => k.tb (h p hp)

def BagAt (H : Hp) (b : Addr) : Prop := ∃ c m : Int, H b = some (.lst [.int c, .int m]) ∧ 0 ≤ c ∧ 0 ≤ m
end L2

set_option Elab.async false
set_option maxRecDepth 100000
set_option maxHeartbeats 4000000
namespace L2
open PySem PySem.Spec PyProof.Rows

def Runs (J : It) (ys : List V) (H : Hp) : Prop := ∀ i, (i < ys.length → J.go i H ∧ ∀ x H', J.yld i H x H' → H' = H ∧ ys[i]? = some x) ∧ (ys.length ≤ i → J.stop i H)
theorem runs_tup {K : PySem.W.Frag} {a : Addr} {ys : List V} {H : Hp} (h : SqT K H a ys) : Runs (Itt K a) ys H := fun i =>
  ⟨fun hi => ⟨⟨ys, ys[i], h, List.getElem?_eq_getElem hi⟩, fun x H' y => ⟨y.1, y.2 ys h⟩⟩, fun hi => ⟨ys, h, hi⟩⟩
theorem runs_list {K : PySem.W.Frag} {a : Addr} {ys : List V} {H : Hp} (h : SqL K H a ys) : Runs (Itl K a) ys H := fun i =>
  ⟨fun hi => ⟨⟨ys, ys[i], h, List.getElem?_eq_getElem hi⟩, fun x H' y => ⟨y.1, y.2 ys h⟩⟩, fun hi => ⟨ys, h, hi⟩⟩
theorem runs_range {lo : Int} {n : Nat} {H : Hp} : Runs (Itr lo n) ((List.range n).map fun i => V.int (lo + (i : Nat))) H := fun i => by
  have el : ((List.range n).map fun i => V.int (lo + (i : Nat))).length = n := by simp
  rw [el]
  refine ⟨fun hi => ⟨hi, fun x H' y => ?_⟩, fun hi => hi⟩
  obtain ⟨e1, e2⟩ := y
  refine ⟨e1, ?_⟩
  rw [e2, List.getElem?_map, List.getElem?_range hi]
  rfl
theorem set0 {τ : St} {x y : Option V} : (τ.set 0 x).set 0 y = τ.set 0 y := by
  cases τ <;> rfl

theorem tgen_of {J : It} {ys : List V} {te : TE} {Z : Bool → Hp → Prop} {H0 : Hp} {τ0 : St} (p : V → Bool) (hJ : ∀ H, Keep H0 H → Runs J ys H)
    (st : ∀ (i : Nat) (y : V), ys[i]? = some y → ∀ H, Keep H0 H → ∀ R : VK, (∀ H', Keep H0 H' → R (.bl (p y)) H') → te (τ0.set 0 (some y)) H R) (q : ∀ H, Keep H0 H → Z (ys.all p) H) :
    ∃ W : Nat → Nat → St → Hp → Prop, (∃ m, W 0 m τ0 H0) ∧ tGen J (gName 0) tNoIf te false Z W := by
  refine ⟨fun i m τ H => m = ys.length - i ∧ i ≤ ys.length ∧ (∀ v, τ.set 0 v = τ0.set 0 v) ∧ Keep H0 H ∧ (ys.take i).all p = true, ⟨ys.length, by simp, Nat.zero_le _, fun _ => rfl, .refl _, rfl⟩, ?_⟩
  rintro i m τ H ⟨rfl, hi, hτ, k, ht⟩
  by_cases hlt : i < ys.length
  · obtain ⟨g1, g2⟩ := (hJ H k i).1 hlt
    refine .inr ⟨g1, fun x H' y => ?_⟩
    obtain ⟨e, hx⟩ := g2 x H' y
    subst e
    dsimp only [gName, tNoIf]
    rw [if_pos rfl, hτ]
    refine st i x hx _ k _ fun H4 k4 => ?_
    have et : (ys.take (i + 1)).all p = p x := by
      rw [List.take_add_one, hx, List.all_append, ht]
      simp
    refine ⟨p x, rfl, ?_⟩
    cases hp : p x with
    | false =>
      rw [if_pos rfl]
      have : ys.all p = false := by
        rw [← List.take_append_drop (i + 1) ys, List.all_append, et, hp]
        rfl
      rw [← this]
      exact q _ k4
    | true =>
      rw [if_neg (by decide)]
      exact ⟨ys.length - (i + 1), by omega, rfl, hlt, fun v => set0, k4, et.trans hp⟩
  · have e : i = ys.length := by omega
    subst e
    refine .inl ⟨(hJ H k _).2 (Nat.le_refl _), ?_⟩
    rw [List.take_length] at ht
    have z := q H k
    rw [ht] at z
    exact z

theorem tturn_of {J : It} {xs : List V} {tt : TT} {te : TE} {Q : VK} {H0 : Hp} {τ0 : St} {D : Addr} (Pv : Nat → List V → Hp → Prop) (hJ : ∀ i acc H, i ≤ xs.length → Pv i acc H → Runs J xs H) (h0 : Pv 0 [] H0)
    (hs : ∀ (i : Nat) (x : V) acc H, xs[i]? = some x → Pv i acc H → ∀ (R1 : Hp → Prop) (R2 : VK), (∀ y H4, H4 D = some (.lst acc) → acc.length < sizeLine → Pv (i + 1) (acc ++ [y]) (upd H4 D (.lst (acc ++ [y]))) → R2 y H4) → (∀ H3, Pv (i + 1) acc H3 → R1 H3) →
      tt (τ0.set 0 (some x)) H fun b H3 => if b = true then te (τ0.set 0 (some x)) H3 R2 else R1 H3)
    (hd : ∀ acc H, Pv xs.length acc H → Q (.ref D) H) :
    ∃ W : Nat → Nat → St → Hp → Prop, (∃ m, W 0 m τ0 H0) ∧ tTurn J (gName 0) tt te D Q W := by
  refine ⟨fun i m τ H => m = xs.length - i ∧ i ≤ xs.length ∧ (∀ v, τ.set 0 v = τ0.set 0 v) ∧ ∃ acc, Pv i acc H, ⟨xs.length, by simp, Nat.zero_le _, fun _ => rfl, [], h0⟩, ?_⟩
  rintro i m τ H ⟨rfl, hi, hτ, acc, p⟩
  by_cases hlt : i < xs.length
  · obtain ⟨g1, g2⟩ := (hJ i acc H hi p i).1 hlt
    refine .inr ⟨g1, fun x H' y => ?_⟩
    obtain ⟨e, hx⟩ := g2 x H' y
    subst e
    dsimp only [gName]
    rw [hτ]
    exact hs i x acc _ hx p _ _ (fun v H4 z1 z2 z3 => ⟨acc, xs.length - (i + 1), z1, z2, by omega, rfl, hlt, fun v => set0, _, z3⟩) fun H3 z => ⟨xs.length - (i + 1), by omega, rfl, hlt, fun v => set0, acc, z⟩
  · have e : i = xs.length := by omega
    subst e
    exact .inl ⟨(hJ _ acc H hi p _).2 (Nat.le_refl _), hd acc H p⟩

theorem tturn0 {J : It} {xs : List V} {te : TE} {Q : VK} {H0 : Hp} {τ0 : St} {D : Addr} (Pv : Nat → List V → Hp → Prop) (hJ : ∀ i acc H, i ≤ xs.length → Pv i acc H → Runs J xs H) (h0 : Pv 0 [] H0)
    (hs : ∀ (i : Nat) (x : V) acc H, xs[i]? = some x → Pv i acc H → ∀ R2 : VK, (∀ y H4, H4 D = some (.lst acc) → acc.length < sizeLine → Pv (i + 1) (acc ++ [y]) (upd H4 D (.lst (acc ++ [y]))) → R2 y H4) → te (τ0.set 0 (some x)) H R2)
    (hd : ∀ acc H, Pv xs.length acc H → Q (.ref D) H) :
    ∃ W : Nat → Nat → St → Hp → Prop, (∃ m, W 0 m τ0 H0) ∧ tTurn J (gName 0) tNoIf te D Q W :=
  tturn_of (tt := tNoIf) Pv hJ h0 (fun i x acc H hx p R1 R2 h2 h1 => by dsimp only [tNoIf]; rw [if_pos rfl]; exact hs i x acc H hx p R2 h2) hd

theorem for_of {J : It} {xs : List V} {g : TG} {tb : TS} {D : Ends} {σ : St} {H : Hp} (Pv : Nat → St → Hp → Prop) (h0 : Pv 0 σ H) (hJ : ∀ i σ H, i ≤ xs.length → Pv i σ H → Runs J xs H)
    (hs : ∀ i x σ H, xs[i]? = some x → Pv i σ H → g x σ H fun σ2 H2 => tb { D with nx := Pv (i + 1), ct := Pv (i + 1), bk := D.nx } σ2 H2) (hd : ∀ σ H, Pv xs.length σ H → D.nx σ H) :
    ∃ W : Nat → Nat → St → Hp → Prop, (∃ m, W 0 m σ H) ∧ ∀ i m σ H, W i m σ H →
      (J.stop i H ∧ D.nx σ H) ∨ (J.go i H ∧ ∃ N : St → Hp → Prop, (∀ σ' H', N σ' H' → ∃ m', m' < m ∧ W (i + 1) m' σ' H') ∧ ∀ x H', J.yld i H x H' → g x σ H' fun σ2 H2 => tb { D with nx := N, ct := N, bk := D.nx } σ2 H2) := by
  refine ⟨fun i m σ H => m = xs.length - i ∧ i ≤ xs.length ∧ Pv i σ H, ⟨xs.length, by simp, Nat.zero_le _, h0⟩, ?_⟩
  rintro i m σ H ⟨rfl, hi, p⟩
  by_cases hlt : i < xs.length
  · obtain ⟨g1, g2⟩ := (hJ i σ H hi p i).1 hlt
    refine .inr ⟨g1, Pv (i + 1), fun σ' H' p' => ⟨xs.length - (i + 1), by omega, rfl, hlt, p'⟩, fun x H' y => ?_⟩
    obtain ⟨e, hx⟩ := g2 x H' y
    subst e
    exact hs i x σ _ hx p
  · have e : i = xs.length := by omega
    subst e
    exact .inl ⟨(hJ _ σ H hi p _).2 (Nat.le_refl _), hd σ H p⟩
end L2

set_option Elab.async false
set_option maxRecDepth 100000
set_option maxHeartbeats 4000000
namespace L2
open PySem PySem.Spec PyProof.Rows

def Ho (X : Cx) (st : List Stmt) (Pre : St → Hp → Prop) (D : Ends) : Prop := ∃ u, PSs X st u ∧ ∀ σ H, Pre σ H → u D σ H
def Hs (X : Cx) (st : Stmt) (Pre Mid : St → Hp → Prop) (D : Ends) : Prop := ∃ t, PS X st t ∧ ∀ (N : St → Hp → Prop) σ H, Pre σ H → (∀ σ' H', Mid σ' H' → N σ' H') → t { D with nx := N } σ H
theorem Ho.cons {X : Cx} {st : Stmt} {rest : List Stmt} {Pre : St → Hp → Prop} {D : Ends} (Mid : St → Hp → Prop) (h1 : Hs X st Pre Mid D) (h2 : Ho X rest Mid D) : Ho X (st :: rest) Pre D := by
  obtain ⟨t, ht, q⟩ := h1
  obtain ⟨u, hu, r⟩ := h2
  exact ⟨tSeq t u, pss_cons ht hu, fun σ H p => q (u D) σ H p r⟩
theorem Ho.last {X : Cx} {st : Stmt} {Pre : St → Hp → Prop} {D : Ends} (h : ∃ t, PS X st t ∧ ∀ σ H, Pre σ H → t D σ H) : Ho X [st] Pre D := by
  obtain ⟨t, ht, q⟩ := h
  exact ⟨t, pss_one ht, q⟩
theorem Ho.nil {X : Cx} {Pre : St → Hp → Prop} {D : Ends} (h : ∀ σ H, Pre σ H → D.nx σ H) : Ho X [] Pre D := ⟨tNext, pss_nil, h⟩

theorem Ho.run {X : Cx} {st : List Stmt} {Pre : St → Hp → Prop} {D : Ends} {σ : St} {H : Hp} (p : Pre σ H) (h : Ho X st Pre D) : ∃ t, PSs X st t ∧ t D σ H := by
  obtain ⟨u, hu, r⟩ := h
  exact ⟨u, hu, r σ H p⟩

theorem BagAt.keep {H H' : Hp} (k : Keep H H') {b : Addr} (h : BagAt H b) : BagAt H' b := let ⟨c, m, e, r⟩ := h; ⟨c, m, k.lst e, r⟩
theorem atI_int {xs : List V} {i : Int} (h0 : 0 ≤ i) (h1 : i < (xs.length : Nat)) : ∃ v, atI xs i = some v ∧ xs[i.toNat]? = some v := by
  have hj : i.toNat < xs.length := by omega
  have e : i = ((i.toNat : Nat) : Int) := by omega
  refine ⟨xs[i.toNat], ?_, List.getElem?_eq_getElem hj⟩
  have := atI_nat (xs := xs) (j := i.toNat) (v := xs[i.toNat]) (List.getElem?_eq_getElem hj)
  rw [← e] at this
  exact this
theorem atI_ints {ns : List Int} {i : Int} (h0 : 0 ≤ i) (h1 : i < (ns.length : Nat)) : ∃ v : Int, atI (ns.map V.int) i = some (.int v) ∧ ns[i.toNat]? = some v := by
  have hj : i.toNat < ns.length := by omega
  have e : i = ((i.toNat : Nat) : Int) := by omega
  refine ⟨ns[i.toNat], ?_, List.getElem?_eq_getElem hj⟩
  have := atI_nat (xs := ns.map V.int) (j := i.toNat) (v := V.int ns[i.toNat]) (by rw [List.getElem?_map, List.getElem?_eq_getElem hj]; rfl)
  rw [← e] at this
  exact this
end L2

set_option Elab.async false
set_option maxRecDepth 100000
set_option maxHeartbeats 4000000
namespace L2
open PySem PySem.Spec PyProof.Rows

section
variable {X : Cx} {K : PySem.W.Frag}
theorem ix_listK (h : X.K = K) : IxR X (rIxL K) := h ▸ ix_list
theorem ix_tupK (h : X.K = K) : IxR X (rIxT K) := h ▸ ix_tup
theorem call_len_seqK (h : X.K = K) : CallR X (.builtin "len") (fun xs H Q => ∃ p ys, xs = [.ref p] ∧ (SqL K H p ys ∨ SqT K H p ys) ∧ Q (.int ys.length) H) := h ▸ call_len_seq
theorem call_list_ofK (h : X.K = K) : CallR X (.type "list") (fun xs H Q => ∃ p ys, xs = [.ref p] ∧ (SqL K H p ys ∨ SqT K H p ys) ∧ ∀ l, H l = none → Q (.ref l) (upd H l (.lst ys))) := h ▸ call_list_of
theorem call_tuple_ofK (h : X.K = K) : CallR X (.type "tuple") (fun xs H Q => ∃ p ys, xs = [.ref p] ∧ ((SqL K H p ys ∧ ∀ l, H l = none → Q (.ref l) (upd H l (.tup ys))) ∨ (SqT K H p ys ∧ Q (.ref p) H))) := h ▸ call_tuple_of
theorem call_isinstK (h : X.K = K) : CallR X (.builtin "isinstance") (fun xs H Q => ∃ x T t b, xs = [x, .ty T] ∧ TyOf K H x t ∧ PySem.W.kitOne K t (.type T) = some b ∧ Q (.bl b) H) := h ▸ call_isinst
theorem pi_listK {tg l : Expr} {tl : TE} (h : X.K = K) (hl : PE X l tl) : PI X tg l (iList K tl) := h ▸ pi_list hl
theorem pi_tupK {tg l : Expr} {tl : TE} (h : X.K = K) (hl : PE X l tl) : PI X tg l (iTup K tl) := h ▸ pi_tup hl
variable {o e : Expr} {es : List Expr} {to : TE} {t : TA} {name : Str} {apos cpos : Pos} {T id : String} {r : V → List V → Hp → VK → Prop}
theorem pe_bmK (h : X.K = K) (pa : PlainAttrs T) (slot : Slot T name id) (hty : typeOf (.builtin id) = pure (.type "method_descriptor")) (hm : MtR X id r) (ho : PE X o to) (ha : PA X (e :: es) t) (hbase : attributeBase o name X.env (eval o X.env) = eval o X.env := by rfl)
    (hfew : ((backTo cpos (starEach (e :: es) X.env)).all (fun x => !x.1) && (backToKw cpos (keywordEach [] X.env)).all (fun x => x.1.isSome)
      && decide ((e :: es).length + ([] : List Keyword).length + (if ([] : List Keyword).isEmpty then 0 else 1) < 30)) = true := by rfl)
    (hline : (apos.endLine == cpos.line) = true := by rfl) (hs : starEach (e :: es) X.env = (false, eval e X.env) :: starEach es X.env := by rfl) (hplain : (backTo cpos (starEach es X.env)).any (·.1) = false := by rfl) :
    PE X (.Call (.Attribute o name apos) (e :: es) [] cpos) (tBM K T r to t) := h ▸ pe_bm pa slot hty hm ho ha hbase hfew hline hs hplain
end
end L2

set_option Elab.async false
set_option maxRecDepth 100000
set_option maxHeartbeats 4000000
namespace L2
open PySem PySem.Spec PyProof.Rows
end L2

set_option Elab.async false
set_option maxRecDepth 100000
set_option maxHeartbeats 4000000
namespace L2
open PySem PySem.Spec PyProof.Rows

abbrev DefIn (K : PySem.W.Frag) (x : Str) (st : Stmt) : Prop :=
  ∃ (f : Addr) (oc : Value) (od : Option Addr) (sl : Array (Option Value)) (kV dc pm : Value) (an : Option Addr) (cd ct : Value),
    PySem.W.nsIn K mainGlobals x = some (some (.ref f)) ∧ K.lookup f = some ⟨oc, od, .func (PySem.W.fnOf x x (defArgs st) (defBody st) (defScope st) .none kV dc pm an cd ct), sl⟩ ∧ PySem.W.codeIn K cd x = true ∧ PySem.W.keepIn K (.ref f) = true
theorem defIn_mk {K : PySem.W.Frag} {x : Str} {st : Stmt} {f : Addr} {oc : Value} {od : Option Addr} {sl : Array (Option Value)} {kV dc pm : Value} {an : Option Addr} {cd ct : Value} (a : PySem.W.nsIn K mainGlobals x = some (some (.ref f)))
    (l : K.lookup f = some ⟨oc, od, .func (PySem.W.fnOf x x (defArgs st) (defBody st) (defScope st) .none kV dc pm an cd ct), sl⟩) (c : PySem.W.codeIn K cd x = true) (k : PySem.W.keepIn K (.ref f) = true) : DefIn K x st := ⟨f, oc, od, sl, kV, dc, pm, an, cd, ct, a, l, c, k⟩
theorem strIn_mk {K : PySem.W.Frag} {x : Str} {z : Str} {tk : Tok} (a : PySem.W.nsIn K mainGlobals x = some (some (.str z tk))) : ∃ tk, PySem.W.nsIn K mainGlobals x = some (some (.str z tk)) := ⟨tk, a⟩
theorem intIn_mk {K : PySem.W.Frag} {x : Str} {z : Int} {tk : Tok} (a : PySem.W.nsIn K mainGlobals x = some (some (.int z tk))) : ∃ tk, PySem.W.nsIn K mainGlobals x = some (some (.int z tk)) := ⟨tk, a⟩
section
variable {K : PySem.W.Frag} {mg : Str → Option Value} {h base : Heap}
theorem DefIn.df {x : Str} {st : Stmt} (d : DefIn K x st) (X : K.In h) (G : h.Ns mainGlobals mg) (ps : List Str)
    (hb : ∀ (kV doc pm : Value) (an : Option Addr) (cdv ct : Value) (us : List Value), us.length = ps.length → bindArgs (PySem.W.fnOf x x (defArgs st) (defBody st) (defScope st) .none kV doc pm an cdv ct) ⟨us, []⟩ = pure (ps.zip us)) :
    ∃ f fd, Df K mg x st ps f fd := by
  obtain ⟨f, oc, od, sl, kV, dc, pm, an, cd, ct, a, l, c, k⟩ := d
  have F := fun_mk (st := st) l c k
  exact ⟨f, _, F, F.binds hb, PySem.W.mg_of X G a⟩

theorem dfc_of {x : Str} {st : Stmt} {ps : List Str} {f p : Addr} {fd : FuncData} (D : Df K mg x st ps f fd) (X : K.In h)
    (t : ∃ f o fd c, mg x = some (.ref f) ∧ h.get? f = some o ∧ o.data = .func fd ∧ fd.code = .ref c ∧ PySem.W.CodeHd h c p) (tr : ∀ c p, PySem.W.CodeHd h c p → PySem.W.CodeHd base c p) : ∃ c, DfC base fd c p := by
  obtain ⟨f', o, fd', c, e1, e2, e3, e4, e5⟩ := t
  obtain ⟨oc, od, kV, doc, pm, an, cdv, ct, osl, rfl, lk, hcd⟩ := D.fn.ex
  have e := D.mg.symm.trans e1
  cases e
  have q := (X _ _ lk).symm.trans e2
  cases q
  cases e3
  exact ⟨c, e4, tr _ _ e5⟩
theorem Df.bind1 {x y : Str} {st : Stmt} {f : Addr} {fd : FuncData} (D : Df K mg x st [y] f fd) (s : Shared) (v : Value)
    (hb : ∀ (kV doc pm : Value) (an : Option Addr) (cdv ct : Value) (u : Value), bindArgs (PySem.W.fnOf x x (defArgs st) (defBody st) (defScope st) .none kV doc pm an cdv ct) ⟨[u], []⟩ = pure [(y, u)]) : BindsTo s fd ⟨[v], []⟩ [(y, v)] := by
  obtain ⟨oc, od, kV, doc, pm, an, cdv, ct, osl, rfl, lk, hcd⟩ := D.fn.ex
  exact .of_eq (hb kV doc pm an cdv ct v)
theorem paired_cons {α β : Type} {F : α → β → Prop} {a : α} {r : List α} {t : List β} (h : Paired F (a :: r) t) : ∃ b t', t = b :: t' ∧ F a b ∧ Paired F r t' := by
  cases h with
  | cons x y => exact ⟨_, _, rfl, x, y⟩
theorem recs_of {q : Program} {nms : List Str} (h : (nms.all fun y => (recsOf q).any fun r => decide (r.name = y)) = true) : ∀ y ∈ nms, ∃ r ∈ recsOf q, r.name = y := fun y hy => by
  have := List.all_eq_true.mp h y hy
  obtain ⟨r, hr, e⟩ := List.any_eq_true.mp this
  exact ⟨r, hr, of_decide_eq_true e⟩
end
end L2

set_option Elab.async false
set_option maxRecDepth 100000
set_option maxHeartbeats 4000000
namespace L2
open PySem PySem.Spec PyProof.Rows

section
variable {Y : Cx} {A2 : Around} {tg elt iter : Expr} {ifs : List Expr} {scope : Scope} {pos : Pos} {it : Addr} {fp : List Addr} {tnn : Nat → Heap → Prop} {J : It} {g : TG} {tt : TT} {te : TE} {pp : List (Addr × Obj)} {R : GenEnd} {Yp : Protocol}
end

section
variable {X : Cx} {tg elt iter : Expr} {ifs : List Expr} {scope : Scope} {pos : Pos} {N' : List Str} {tn : Nat} {idx : List Nat} {wi : TI} {g : TG} {tt : TT} {te : TE} {c P : Addr} {k : Nat}

end
end L2

set_option Elab.async false
set_option maxRecDepth 100000
set_option maxHeartbeats 4000000
namespace L2
open PySem PySem.Spec PyProof.Rows
section
variable {X : Cx} {tg elt iter : Expr} {ifs : List Expr} {scope : Scope} {pos : Pos} {N' : List Str} {tn : Nat} {idx : List Nat} {wi : TI} {g : TG} {tt : TT} {te : TE} {c P : Addr} {k : Nat}

end
end L2

set_option Elab.async false
set_option maxRecDepth 100000
set_option maxHeartbeats 4000000
namespace L2
open PySem PySem.Spec PyProof.Rows

def Ris (xs : Array Nat) : Prop := xs.toList.Pairwise (· < ·)
theorem ris_lt {xs : Array Nat} (h : Ris xs) {i j : Nat} (hij : i < j) (hj : j < xs.size) : xs[i] < xs[j] := by
  have := List.pairwise_iff_getElem.mp h i j (by simpa using Nat.lt_trans hij hj) (by simpa using hj) hij
  simpa using this
theorem below_go {xs : Array Nat} {v : Nat} (h : Ris xs) : ∀ (fuel lo hi : Nat), hi - lo ≤ fuel → lo ≤ hi → hi ≤ xs.size → (∀ i (hi' : i < xs.size), i < lo → xs[i] < v) → (∀ i (hi' : i < xs.size), hi ≤ i → v ≤ xs[i]) →
    SetTable.below.go xs v fuel lo hi ≤ xs.size ∧ (∀ i (hi' : i < xs.size), i < SetTable.below.go xs v fuel lo hi → xs[i] < v) ∧ ∀ i (hi' : i < xs.size), SetTable.below.go xs v fuel lo hi ≤ i → v ≤ xs[i]
  | 0, lo, hi, hf, h1, h2, ha, hb => by
    have e : lo = hi := by omega
    subst e
    exact ⟨h2, ha, hb⟩
  | fuel + 1, lo, hi, hf, h1, h2, ha, hb => by
    unfold SetTable.below.go
    by_cases hlt : lo < hi
    · rw [if_pos hlt]
      dsimp only
      have hm : (lo + hi) / 2 < xs.size := by omega
      have e : xs.getD ((lo + hi) / 2) v = xs[(lo + hi) / 2] := by simp [Array.getD, hm]
      rw [e]
      by_cases hc : xs[(lo + hi) / 2] < v
      · rw [if_pos hc]
        refine below_go h fuel _ _ (by omega) (by omega) h2 (fun i hi' hl => ?_) hb
        by_cases ei : i = (lo + hi) / 2
        · subst ei; exact hc
        · exact Nat.lt_trans (ris_lt h (show i < (lo + hi) / 2 by omega) hm) hc
      · rw [if_neg hc]
        refine below_go h fuel _ _ (by omega) (by omega) (by omega) ha (fun i hi' hl => ?_)
        by_cases ei : i = (lo + hi) / 2
        · subst ei; exact Nat.le_of_not_lt hc
        · exact Nat.le_trans (Nat.le_of_not_lt hc) (Nat.le_of_lt (ris_lt h (show (lo + hi) / 2 < i by omega) hi'))
    · rw [if_neg hlt]
      have e : lo = hi := by omega
      subst e
      exact ⟨h2, ha, hb⟩
theorem below_ok {xs : Array Nat} (v : Nat) (h : Ris xs) : SetTable.below xs v ≤ xs.size ∧ (∀ i (hi' : i < xs.size), i < SetTable.below xs v → xs[i] < v) ∧ ∀ i (hi' : i < xs.size), SetTable.below xs v ≤ i → v ≤ xs[i] :=
  below_go h _ _ _ (by omega) (Nat.zero_le _) (Nat.le_refl _) (fun i _ z => absurd z (Nat.not_lt_zero _)) (fun i z z' => absurd z (Nat.not_lt.mpr z'))
theorem ris_insert {xs : Array Nat} {v : Nat} (h : Ris xs) (hn : xs[SetTable.below xs v]? ≠ some v) : Ris (SetTable.insertAt xs (SetTable.below xs v) v) := by
  obtain ⟨b0, b1, b2⟩ := below_ok v h
  generalize SetTable.below xs v = p at *
  unfold Ris SetTable.insertAt
  have e : ((xs.extract 0 p).push v ++ xs.extract p xs.size).toList = xs.toList.take p ++ [v] ++ xs.toList.drop p := by
    simp
    exact List.take_of_length_le (by simp)
  rw [e]
  have hl : ∀ y ∈ xs.toList.take p, y < v := fun y hy => by
    obtain ⟨i, hi, rfl⟩ := List.mem_take_iff_getElem.mp hy
    have hi2 : i < p ∧ i < xs.size := by simpa [Nat.lt_min] using hi
    simpa using b1 i hi2.2 hi2.1
  have hr : ∀ y ∈ xs.toList.drop p, v < y := fun y hy => by
    obtain ⟨i, hi, rfl⟩ := List.mem_drop_iff_getElem.mp hy
    have hi2 : p + i < xs.size := by rw [Nat.add_comm]; simpa using hi
    have h1 : v ≤ xs[p + i] := b2 (p + i) hi2 (Nat.le_add_right _ _)
    have h2 : v ≠ xs[p + i] := fun z => by
      by_cases hi0 : i = 0
      · subst hi0
        exact hn (by rw [Nat.add_zero] at hi2; rw [Array.getElem?_eq_getElem hi2]; simpa using z.symm)
      · have q := ris_lt h (show p < p + i by omega) hi2
        have q2 := b2 p (by omega) (Nat.le_refl _)
        omega
    have : xs.toList[p + i]'(by simpa using hi2) = xs[p + i] := by simp
    rw [this]
    omega
  have hp := List.take_append_drop p xs.toList
  have hpw : (xs.toList.take p ++ xs.toList.drop p).Pairwise (· < ·) := by rw [hp]; exact h
  obtain ⟨q1, q2, q3⟩ := List.pairwise_append.mp hpw
  refine List.pairwise_append.mpr ⟨List.pairwise_append.mpr ⟨q1, List.pairwise_singleton _ _, fun a ha b hb => ?_⟩, q2, fun a ha b hb => ?_⟩
  · rw [List.mem_singleton] at hb; subst hb; exact hl a ha
  · rcases List.mem_append.mp ha with ha | ha
    · exact q3 a ha b hb
    · rw [List.mem_singleton] at ha; subst ha; exact hr b hb

structure TabOk (w : World) (t : SetTable) : Prop where
  dum : t.dummies = #[]
  ris : Ris t.place
  led : t.led = !w.params.followText "set-order"
theorem ris_range (n : Nat) : Ris (Array.range n) := by
  unfold Ris
  rw [Array.toList_range]
  exact List.pairwise_lt_range
theorem TabOk.standIn {w : World} {t : SetTable} (h : TabOk w t) (n : Nat) : TabOk w (t.standIn n) := ⟨rfl, ris_range n, h.led⟩
theorem TabOk.orStandIn {w : World} {t : SetTable} (h : TabOk w t) (n : Nat) : TabOk w (t.orStandIn n) := by
  unfold SetTable.orStandIn
  split
  · exact h
  · exact h.standIn n
theorem has_nil (j : Nat) : SetTable.has #[] j = false := by
  unfold SetTable.has
  have : (#[] : Array Nat)[SetTable.below #[] j]? = none := by simp
  rw [this]
  rfl
theorem probe_go {w : World} {t : SetTable} (h : TabOk w t) {hashAt : Nat → Int} {hh : Int} {j : Nat} {d : Option Nat} : ∀ (fuel : Nat) (p : SetTable.Probe), p.dummy = none → SetTable.probe.go t hashAt hh fuel p = some (.empty j d) → t.slot j = .empty ∧ d = none
  | 0, p, _, e => by simp [SetTable.probe.go] at e
  | fuel + 1, p, hp, e => by
    unfold SetTable.probe.go at e
    have hadv : ∀ p : SetTable.Probe, (t.advance p).dummy = p.dummy := fun p => by
      unfold SetTable.advance
      split <;> rfl
    cases hs : t.slot p.j with
    | empty =>
      rw [hs] at e
      have e' := Option.some.inj e
      injection e' with e1 e2
      exact ⟨by rw [← e1]; exact hs, by rw [← e2]; exact hp⟩
    | dummy =>
      exfalso
      unfold SetTable.slot at hs
      dsimp only at hs
      rw [h.dum, has_nil] at hs
      split at hs <;> simp at hs
    | live i =>
      rw [hs] at e
      dsimp only at e
      split at e
      · simp at e
      · exact probe_go h fuel _ (by rw [hadv]; exact hp) e
theorem slot_empty {w : World} {t : SetTable} (h : TabOk w t) {j : Nat} (e : t.slot j = .empty) : t.place[SetTable.below t.place j]? ≠ some j := fun z => by
  unfold SetTable.slot at e
  dsimp only at e
  rw [z] at e
  simp at e
theorem TabOk.put {w : World} {t : SetTable} (h : TabOk w t) {j : Nat} (e : t.slot j = .empty) : TabOk w (t.put j).1 := by
  unfold SetTable.put
  refine ⟨?_, ris_insert h.ris (slot_empty h e), h.led⟩
  show (if SetTable.has t.dummies j then _ else t.dummies) = #[]
  rw [h.dum, has_nil]
  rfl
theorem TabOk.layNew {w : World} {t : SetTable} (h : TabOk w t) (es : Array (Int × Value)) (hh : Int) (x : Value) : TabOk w (layNew t es hh x).2.1 := by
  unfold PySem.layNew
  split
  · rename_i slot wasDummy hf
    unfold SetTable.freeSlot at hf
    refine (TabOk.put h ?_).orStandIn _
    split at hf
    · rename_i j dummy hp
      obtain ⟨e1, e2⟩ := probe_go h _ _ rfl hp
      subst e2
      have := Option.some.inj hf
      injection this with z1 _
      rw [← z1]
      exact e1
    · cases hf
  · exact h.standIn _
theorem ris_live {α : Type} (f : Nat → Option α) (n : Nat) : Ris (((List.range n).filterMap fun j => (f j).map (j, ·)).map (·.1)).toArray := by
  unfold Ris
  have e : (((List.range n).filterMap fun j => (f j).map (j, ·)).map (·.1)).toArray.toList = (List.range n).filter fun j => (f j).isSome := by
    rw [List.toList_toArray]
    induction List.range n with
    | nil => rfl
    | cons a l ih =>
      cases hf : f a with
      | none => simp [List.filterMap_cons, hf, ih]
      | some b => simp [List.filterMap_cons, hf, ih]
  rw [e]
  exact List.Pairwise.filter _ List.pairwise_lt_range
theorem TabOk.relay {w : World} {t : SetTable} (h : TabOk w t) (es : Array (Int × Value)) (wanted : Nat) : TabOk w (relayAll t es wanted).2.1 := by
  unfold relayAll
  split
  · rename_i t' order hr
    dsimp only
    split
    · unfold SetTable.relaid SetTable.laid at hr
      simp only [Option.bind_eq_bind, Option.bind_eq_some_iff, Option.pure_def] at hr
      obtain ⟨owner, _, hr⟩ := hr
      have := Option.some.inj hr
      injection this with z1 _
      subst z1
      exact ⟨rfl, ris_live (fun j => owner.getD j none) _, h.led⟩
    · exact h.standIn _
  · exact h.standIn _
theorem TabOk.plainOff {w : World} {t : SetTable} (h : TabOk w t) (b : Bool) : TabOk w (if b = true then t else { t with plain := false }) := by
  split
  · exact h
  · exact ⟨h.dum, h.ris, h.led⟩
end L2

set_option Elab.async false
set_option maxRecDepth 100000
set_option maxHeartbeats 4000000
namespace L2
open PySem PySem.Spec PyProof.Rows

def numE (e : Int × Value) : Int := match e.2 with | .int i _ => i | _ => 0
def SetM (P : Program) (w : World) (h : Heap) (a : Addr) (ns : List Int) : Prop :=
  ∃ o es ep t, h.get? a = some o ∧ o.ExactSet ∧ o.data = .set es ep t ∧ ElemsOf (intKind P w) es.toList ∧ (es.toList.map numE).Perm ns ∧ ns.Nodup ∧ es.size < scanBound ∧ t.fits es.size = true ∧ TabOk w t
theorem SetM.stay {P : Program} {w : World} {h h' : Heap} {a : Addr} {ns : List Int} (x : SetM P w h a ns) (k : ∀ o, h.get? a = some o → h'.get? a = some o) : SetM P w h' a ns :=
  let ⟨o, es, ep, t, e, r⟩ := x; ⟨o, es, ep, t, k o e, r⟩
theorem SetM.perm {P : Program} {w : World} {h : Heap} {a : Addr} {ns ms : List Int} (x : SetM P w h a ns) (p : ns.Perm ms) : SetM P w h a ms :=
  let ⟨o, es, ep, t, e, a1, a2, a3, a4, a5, r⟩ := x; ⟨o, es, ep, t, e, a1, a2, a3, a4.trans p, p.nodup_iff.mp a5, r⟩
def setO (P : Program) (w : World) (a : Addr) (ns : List Int) : HO := .ext fun h => SetM P w h a ns
def addI (ns : List Int) (m : Int) : List Int := if m ∈ ns then ns else ns ++ [m]
theorem intKind_mem {P : Program} {w : World} {es : List (Int × Value)} (h : ElemsOf (intKind P w) es) {k : Int} : (∃ e ∈ es, (intKind P w).is k e.2 = true) ↔ k ∈ es.map numE := by
  constructor
  · rintro ⟨e, he, hk⟩
    obtain ⟨t, e2⟩ := Value.isInt_shape (k := k) (v := e.2) hk
    exact List.mem_map.mpr ⟨e, he, by unfold numE; rw [e2]⟩
  · intro hm
    obtain ⟨e, he, q⟩ := List.mem_map.mp hm
    obtain ⟨⟨k', hk', _⟩, _⟩ := h e he
    obtain ⟨t, e2⟩ := Value.isInt_shape (k := k') (v := e.2) hk'
    have : k' = k := by rw [← q]; unfold numE; rw [e2]
    exact ⟨e, he, this ▸ hk'⟩
section
variable {P : Program} {w : World} {A : Around} {E : Value → Shared → Prop} {s : Shared}
theorem setM_store {h : Heap} {a : Addr} {o : Obj} {es : Array (Int × Value)} {ep : Nat} {t : SetTable} (ho : h.get? a = some o) (hex : o.ExactSet) (hd : o.data = .set es ep t)
    {es' : Array (Int × Value)} {t' : SetTable} {ns : List Int} (hel : ElemsOf (intKind P w) es'.toList) (hp : (es'.toList.map numE).Perm ns) (hn : ns.Nodup) (hb : es'.size < scanBound) (hf : t'.fits es'.size = true) (ht : TabOk w t') :
    (h.update a (Obj.putSet es' t')).get? a = some { o with data := .set es' (ep + 1) t' } ∧ SetM P w (h.update a (Obj.putSet es' t')) a ns := by
  have hg : (h.update a (Obj.putSet es' t')).get? a = some { o with data := .set es' (ep + 1) t' } := by
    have := Heap.get?_update_self (Obj.putSet es' t') ho (by rw [putSet_of es' t' hd]; rfl)
    rw [putSet_of es' t' hd] at this; exact this
  exact ⟨hg, _, es', ep + 1, t', hg, hex, rfl, hel, hp, hn, hb, hf, ht⟩
theorem add_tail {g : Bool → Sem Unit} (hg : ∀ (b : Bool) (s₁ : Shared) (Q' : Unit → Shared → Prop), Q' () s₁ → wpAny (model P w) A (g b) Q' E s₁)
    {a : Addr} {o : Obj} {es : Array (Int × Value)} {ep : Nat} {t : SetTable} (ho : s.heap.get? a = some o) (hex : o.ExactSet) (hd : o.data = .set es ep t)
    {es1 : Array (Int × Value)} {t2 : SetTable} {ns : List Int} (hel1 : ElemsOf (intKind P w) es1.toList) (hp1 : (es1.toList.map numE).Perm ns) (hn : ns.Nodup)
    (hb1 : es1.size < scanBound) (hf2 : t2.fits es1.size = true) (ht2 : TabOk w t2) {wasDummy : Bool} {R : Option Bool → Shared → Prop}
    (h : ∀ h', Heap.SameBut a s.heap h' → SetM P w h' a ns → R (some true) { s with heap := h' }) :
    wpAny (model P w) A (do
        storeSet a es1 t2
        if (!wasDummy && t2.tooFull) = true then do
            g (relayAll t2 es1 (SetTable.grown es1.size)).2.2
            storeSet a (relayAll t2 es1 (SetTable.grown es1.size)).1 (relayAll t2 es1 (SetTable.grown es1.size)).2.1
            pure (some true)
          else pure (some true)) R E s := by
  refine wpAny_bind (wpAny_storeSet_of ho hd ?_ (fits_of_scanBound hb1))
  obtain ⟨ho1, hS1⟩ := setM_store (P := P) (w := w) ho hex hd hel1 hp1 hn hb1 hf2 ht2
  have hsb1 := Heap.SameBut.update s.heap a (Obj.putSet es1 t2)
  split
  · have hp := relayAll_perm t2 es1 (SetTable.grown es1.size)
    have hfr := relayAll_fits t2 es1 (SetTable.grown es1.size)
    have htr := ht2.relay es1 (SetTable.grown es1.size)
    generalize relayAll t2 es1 (SetTable.grown es1.size) = Rl at hp hfr htr ⊢
    obtain ⟨es2, t3, gave2⟩ := Rl
    dsimp only at hp hfr htr ⊢
    have hsz : es2.size = es1.size := by rw [← Array.length_toList, hp.length_eq, Array.length_toList]
    have hb2 : es2.size < scanBound := by rw [hsz]; exact hb1
    refine wpAny_bind (hg _ _ _ (wpAny_bind (wpAny_storeSet_of ho1 rfl ?_ (fits_of_scanBound hb2))))
    obtain ⟨_, hS2⟩ := setM_store (P := P) (w := w) ho1 hex rfl (hel1.perm hp) ((hp.map numE).trans hp1) hn hb2 hfr htr
    exact wpAny_pure (h _ (hsb1.trans (Heap.SameBut.update _ a _)) hS2)
  · exact wpAny_pure (h _ hsb1 hS1)
theorem wp_setAdd {a : Addr} {ns : List Int} {m : Int} {tk : Tok} {Q : Bool → Shared → Prop} (hS : SetM P w s.heap a ns) (hroom : ns.length + 1 < scanBound)
    (h : ∀ h', Heap.SameBut a s.heap h' → SetM P w h' a (addI ns m) → Q (decide (m ∉ ns)) { s with heap := h', toks := s.toks + 1 }) : wpAny (model P w) A (setAdd a (.int m tk)) Q E s := by
  unfold setAdd
  refine wpAny_holding (wpAny_bind ((intKind P w).pyHash (k := m) (intKind_is _ _ _ _) ?_))
  have hkey : (intKind P w).is m (.int m tk) = true := intKind_is _ _ _ _
  obtain ⟨o, es, ep, t, ho, hex, hd, hel, hp, hn, hb, hf, ht⟩ := hS
  have hmem : ∀ k, (∃ e ∈ es.toList, (intKind P w).is k e.2 = true) ↔ k ∈ ns := fun k => (intKind_mem hel).trans hp.mem_iff
  have hlen : es.size = ns.length := by rw [← Array.length_toList, ← hp.length_eq, List.length_map]
  unfold setAddHashed setAddHashedIn
  refine wpAny_holding (wpAny_bind (wpAny_setState_of (s := { s with toks := s.toks + 1 }) ho hd hf ?_))
  dsimp only
  rw [byScan_of (x := .int m tk) rfl hb hel]
  simp only [↓reduceIte]
  unfold setAddByScan
  refine wpAny_bind (wpAny_bind (wpAny_rule (wpAny_bind (wpAny_setScan_of hkey ho hd hf hel ?_))))
  cases hr : List.findIdx? (fun e => (intKind P w).is m e.2) es.toList with
  | some j =>
    dsimp only
    obtain ⟨hj, hpj, _⟩ := List.findIdx?_eq_some_iff_getElem.mp hr
    have hm : m ∈ ns := (hmem m).mp ⟨es.toList[j], List.getElem_mem hj, hpj⟩
    have := h s.heap (Heap.SameBut.refl a s.heap) (by unfold addI; rw [if_pos hm]; exact ⟨o, es, ep, t, ho, hex, hd, hel, hp, hn, hb, hf, ht⟩)
    rw [decide_eq_false (fun z => z hm)] at this
    exact wpAny_pure (wpAny_pure this)
  | none =>
    dsimp only
    have hm : m ∉ ns := fun z => by
      obtain ⟨e, he, q⟩ := (hmem m).mpr z
      have := List.findIdx?_eq_none_iff.mp hr e he
      rw [q] at this; cases this
    have hperm := layNew_perm t es ((intKind P w).hash m) (.int m tk)
    have hfits := layNew_fits t es ((intKind P w).hash m) (.int m tk)
    have htab := ht.layNew es ((intKind P w).hash m) (.int m tk)
    generalize layNew t es ((intKind P w).hash m) (.int m tk) = L at hperm hfits htab ⊢
    obtain ⟨es1, t1, wasDummy, gave⟩ := L
    dsimp only at hperm hfits htab ⊢
    rw [Array.toList_push] at hperm
    have hel1 : ElemsOf (intKind P w) es1.toList := (hel.push hkey rfl).perm hperm
    have hadd : addI ns m = ns ++ [m] := by unfold addI; rw [if_neg hm]
    have hp1 : (es1.toList.map numE).Perm (addI ns m) := by
      rw [hadd]
      refine (hperm.map numE).trans ?_
      rw [List.map_append]
      exact List.Perm.append hp (.refl _)
    have hn1 : (addI ns m).Nodup := by
      rw [hadd]
      exact List.nodup_append.mpr ⟨hn, by simp, fun a ha b hb => by rw [List.mem_singleton] at hb; rw [hb]; exact fun z => hm (z ▸ ha)⟩
    have hb1 : es1.size < scanBound := by rw [← Array.length_toList, hperm.length_eq, List.length_append, Array.length_toList, hlen]; simpa using hroom
    have hgw : ∀ (b : Bool) (s₁ : Shared) (Q' : Unit → Shared → Prop), Q' () s₁ → wpAny (model P w) A (match b with | true => rule "set.scan.the-table-gave-way" | false => pure ()) Q' E s₁ :=
      fun b s₁ Q' hq => by cases b <;> first | exact wpAny_pure hq | exact wpAny_rule hq
    have hend : ∀ h', Heap.SameBut a s.heap h' → SetM P w h' a (addI ns m) → Q true { s with heap := h', toks := s.toks + 1 } := by
      intro h' hsb hS'
      have := h h' hsb hS'
      rw [decide_eq_true hm] at this
      exact this
    refine wpAny_bind (hgw _ _ _ ?_)
    split
    · refine wpAny_bind ?_
      rw [hashByValue_scannable 8 (x := .int m tk) rfl]
      refine wpAny_pure (add_tail (P := P) (w := w) (s := { s with toks := s.toks + 1 }) hgw ho hex hd hel1 hp1 hn1 hb1 ?_ (htab.plainOff _) fun h' hsb hS' => wpAny_pure (hend h' hsb hS'))
      split
      · exact hfits
      · exact SetTable.fits_plain_off hfits
    · refine wpAny_bind (wpAny_pure ?_)
      simp only [↓reduceIte]
      exact add_tail (P := P) (w := w) (s := { s with toks := s.toks + 1 }) hgw ho hex hd hel1 hp1 hn1 hb1 hfits htab fun h' hsb hS' => wpAny_pure (hend h' hsb hS')
theorem addI_nodup {ns : List Int} (h : ns.Nodup) (m : Int) : (addI ns m).Nodup := by
  unfold addI
  split
  · exact h
  · rename_i hm
    exact List.nodup_append.mpr ⟨h, by simp, fun a ha b hb => by rw [List.mem_singleton] at hb; rw [hb]; exact fun z => hm (z ▸ ha)⟩
theorem addI_mem {ns : List Int} {m k : Int} : k ∈ addI ns m ↔ k ∈ ns ∨ k = m := by
  unfold addI
  split
  · rename_i hm
    exact ⟨.inl, fun h => h.elim id fun e => e ▸ hm⟩
  · simp
theorem addI_len {ns : List Int} {m : Int} : (addI ns m).length ≤ ns.length + 1 := by
  unfold addI
  split
  · omega
  · simp
end

def dedI (ns : List Int) : List Int := ns.foldl addI []
theorem dedI_snoc (ns : List Int) (m : Int) : dedI (ns ++ [m]) = addI (dedI ns) m := by
  unfold dedI
  rw [List.foldl_append]
  rfl
theorem dedI_nodup (ns : List Int) : (dedI ns).Nodup := by
  unfold dedI
  have : ∀ (l acc : List Int), acc.Nodup → (l.foldl addI acc).Nodup := fun l => by
    induction l with
    | nil => exact fun acc h => h
    | cons a l ih => exact fun acc h => ih _ (addI_nodup h a)
  exact this ns [] .nil
theorem dedI_mem {ns : List Int} {k : Int} : k ∈ dedI ns ↔ k ∈ ns := by
  unfold dedI
  have : ∀ (l acc : List Int), k ∈ l.foldl addI acc ↔ k ∈ acc ∨ k ∈ l := fun l => by
    induction l with
    | nil => intro acc; simp
    | cons a l ih =>
      intro acc
      rw [List.foldl_cons, ih, addI_mem, List.mem_cons]
      constructor
      · rintro ((h | h) | h)
        · exact .inl h
        · exact .inr (.inl h)
        · exact .inr (.inr h)
      · rintro (h | h | h)
        · exact .inl (.inl h)
        · exact .inl (.inr h)
        · exact .inr h
  rw [this]
  simp
theorem dedI_len (ns : List Int) : (dedI ns).length ≤ ns.length := by
  unfold dedI
  have : ∀ (l acc : List Int), (l.foldl addI acc).length ≤ acc.length + l.length := fun l => by
    induction l with
    | nil => intro acc; simp
    | cons a l ih =>
      intro acc
      rw [List.foldl_cons, List.length_cons]
      have h1 := ih (addI acc a)
      have h2 := @addI_len acc a
      omega
  simpa using this ns []
end L2

set_option Elab.async false
set_option maxRecDepth 100000
set_option maxHeartbeats 4000000
namespace L2
open PySem PySem.Spec PyProof.Rows

section
variable {P : Program} {w : World} {A : Around} {R : Result → Shared → Prop} {I : Addr} {fp wr : List Addr} {G : Array GenState → Array GenState → Prop} {n : Nat} {St : Nat → Shared → Prop}
theorem upd_loop {vs : List Int} {Pv : Nat → Value → Prop} (W : WalksS P w A.in1 I fp wr G vs.length Pv St) (S : Addr) (hSf : S ∉ fp) (hval : ∀ (i : Nat) (v : Value), Pv i v → ∃ m t, vs[i]? = some m ∧ v = .int m t) (hb : vs.length + 1 < scanBound) :
    ∀ (k i : Nat) (s : Shared), vs.length - i = k → i ≤ vs.length → St i s → SetM P w s.heap S (dedI (vs.take i)) →
      (∀ s', Moved (S :: wr) G s s' → SetM P w s'.heap S (dedI vs) → R (.ok (.ret .none)) s') →
      codeAny (model P w) A (.builtin "set.update.loop" ⟨[.ref S, .ref I], []⟩) R s := by
  have hSw : S ∉ wr := fun h => hSf (W.sub _ h)
  have hsub : ∀ b ∈ wr, b ∈ S :: wr := fun b hb => List.mem_cons_of_mem _ hb
  intro k
  induction k with
  | zero =>
    intro i s hk hi hst hS hR
    have hin : i = vs.length := by omega
    subst hin
    refine codeAny_builtin F.entry_set_update_loop ?_
    rw [Around.under_plainId F.plain_set_update_loop _]
    show wpAny _ A.in1 (pyNext (.ref I) >>= _) _ _ s
    refine wpAny_bind (W.done s _ _ hst fun s' hm => ?_)
    rw [List.take_length] at hS
    exact wpAny_pure (hR s' (hm.mono hsub) (hS.stay fun o e => hm.heap S _ hSw e))
  | succ k ih =>
    intro i s hk hi hst hS hR
    have hlt : i < vs.length := by omega
    refine codeAny_builtin F.entry_set_update_loop ?_
    rw [Around.under_plainId F.plain_set_update_loop _]
    show wpAny _ A.in1 (pyNext (.ref I) >>= _) _ _ s
    refine wpAny_bind (W.item i s _ _ hlt hst fun v s' hP hst' hm => ?_)
    obtain ⟨m, t, hm1, rfl⟩ := hval i v hP
    have hS' : SetM P w s'.heap S (dedI (vs.take i)) := hS.stay fun o e => hm.heap S _ hSw e
    show wpAny _ A.in1 (holding [Value.int m t] (setAdd S (.int m t)) >>= _) _ _ s'
    have hroom : (dedI (vs.take i)).length + 1 < scanBound := by
      have h1 := dedI_len (vs.take i)
      rw [List.length_take] at h1
      omega
    refine wpAny_bind (wpAny_holding (wp_setAdd hS' hroom fun h' hsb hS2 => ?_))
    have hSi : SetM P w h' S (dedI (vs.take (i + 1))) := by
      rw [List.take_add_one, hm1]
      show SetM P w h' S (dedI (vs.take i ++ [m]))
      rw [dedI_snoc]
      exact hS2
    refine wpAny_pure ⟨plainId_quiet F.plain_set_update_loop _, ih (i + 1) _ (by omega) hlt (W.frame _ s' _ _ hst' (Nat.le_succ _) fun b hb o e => ?_) hSi fun s'' hm'' hS'' => ?_⟩
    · rw [hsb.2 b (fun h : b = S => hSf (by rw [← h]; exact hb))]; exact e
    · refine hR s'' (Moved.trans W.gtrans ((hm.mono hsub).then_heap (Nat.le_succ _) fun b o hb e => ?_) hm'') hS''
      rw [hsb.2 b (fun h : b = S => hb (by rw [h]; exact List.mem_cons_self))]; exact e
end
theorem sub_tuple_set : isSubtype (.type "tuple") (.type "set") = pure false := by rw [isSubtype_type]; kernel_rfl
theorem sub_tuple_fset : isSubtype (.type "tuple") (.type "frozenset") = pure false := by rw [isSubtype_type]; kernel_rfl
section
variable {P : Program} {w : World} {A : Around} {E : Value → Shared → Prop} {s : Shared}
abbrev newS (w : World) : Obj := { cls := .type "set", dict := none, data := .set #[] 0 (.fresh 0 0 (!w.params.followText "set-order")) }
theorem newS_ok {h : Heap} : SetM P w (h.push (newS w)) h.objs.size [] := ⟨_, #[], 0, _, Heap.get?_push_size _ rfl, ⟨rfl, rfl, rfl⟩, rfl, fun e he => by simp at he, by simp, by simp, by decide, by rfl, rfl, List.Pairwise.nil, rfl⟩
theorem new_set1 (a : Value) {Q₁ : Value → Shared → Prop} (h : Q₁ (.ref s.heap.objs.size) { s with heap := s.heap.push (newS w) }) :
    codeAny (model P w) A (.call (.builtin "set.__new__") ⟨[.type "set", a], []⟩) (wants Q₁ E) s := by
  refine codeAny_of_tree ?_
  show wpAny _ A.in1 (do checkBuiltinCall "set.__new__" ⟨[.type "set", a], []⟩; again (.builtin "set.__new__" ⟨[.type "set", a], []⟩)) _ _ s
  refine wpAny_bind (wpAny_of_eq (F.newCall_set_1 a) (wpAny_pure ⟨plainId_quiet F.plain_set_new _, codeAny_builtin F.entry_set_new ?_⟩))
  rw [Around.under_plainId F.plain_set_new _]
  unfold Builtin.«set.__new__» Builtin.Frozenset.newClass
  have hsub := sub_set_self
  obtain ⟨hp, g, d, tk, os⟩ := s
  dsimp only
  wp_walk
  refine wpAny_askSetting (wpAny_pure ?_)
  dsimp only
  simp only [newObj]
  refine wpAny_bind (wpAny_alloc (wpAny_pure ?_))
  exact wpAny_pure h
theorem SetM.typeIs {h : Heap} {a : Addr} {ns : List Int} {s : Shared} (x : SetM P w s.heap a ns) : s.TypeIs (.ref a) "set" := let ⟨o, _, _, _, ho, hex, _⟩ := x; ⟨o, ho, hex.1⟩
theorem call_set_seq {T : String} {l : Addr} {itob : Obj} {vs : List Int} {Pv : Nat → Value → Prop} {St : Addr → Nat → Heap → Prop} {Q : Value → Shared → Prop} (hh : A.handled = none)
    (hl : ∃ o, s.heap.get? l = some o) (hT : ∀ s1 : Shared, (∀ o, s.heap.get? l = some o → s1.heap.get? l = some o) → s1.TypeIs (.ref l) T) (h1 : isSubtype (.type T) (.type "set") = pure false) (h2 : isSubtype (.type T) (.type "frozenset") = pure false) (h3 : (Value.type T == Value.type "dict") = false)
    (hit : ∀ (A' : Around) (s1 : Shared) (Q' : Value → Shared → Prop) (E' : Value → Shared → Prop), (∀ o, s.heap.get? l = some o → s1.heap.get? l = some o) → Q' (.ref s1.heap.objs.size) { s1 with heap := s1.heap.push itob } → wpAny (model P w) A' (pyIter (.ref l)) Q' E' s1)
    (hW : ∀ (A' : Around) (I : Addr), A'.handled = none → l ≠ I → Walks P w A' I [I, l] [I] vs.length Pv (St I)) (hSt : ∀ h1 : Heap, (∀ o, s.heap.get? l = some o → h1.get? l = some o) → St h1.objs.size 0 (h1.push itob))
    (hval : ∀ (i : Nat) (v : Value), Pv i v → ∃ m t, vs[i]? = some m ∧ v = .int m t) (hb : vs.length + 1 < scanBound)
    (h : ∀ (h' : Heap) (tk : Nat), SetM P w h' s.heap.objs.size (dedI vs) → (∀ b o, s.heap.get? b = some o → h'.get? b = some o) → Q (.ref s.heap.objs.size) { s with heap := h', toks := tk }) :
    wpAny (model P w) A (call (.type "set") [.ref l]) Q E s := by
  obtain ⟨c, tl, hmro⟩ := F.called_set.mro
  have hmade := F.called_set.made
  have hsub := F.called_set.sub
  refine wpAny_call (codeAny_of_tree ?_)
  show wpAny _ _ (callAny (.type "set") _) _ _ _
  refine wpAny_pure ⟨Code.quiet_builtin _ (by decide +kernel), codeAny_builtin F.entry_type_call ?_⟩
  rw [Around.under_plain (weight_type_call_type "set" [.ref l] []) rfl]
  have k1 := F.called_set.notType
  have k2 := F.called_set.canCreate
  have hct := F.typeCall_set_1 (.ref l)
  repeat (any_goals (first | assumption | wp_step))
  refine codeAny_mono (new_set1 (P := P) (w := w) (.ref l) (E := E) (Q₁ := fun obj s₁ => obj = .ref s.heap.objs.size ∧ s₁ = { s with heap := s.heap.push (newS w) }) ⟨rfl, rfl⟩) fun r s₁ hr => ?_
  cases r with
  | error e => exact hr
  | ok fl =>
    cases fl with
    | ret obj =>
      obtain ⟨rfl, rfl⟩ := hr
      have hS : (s.heap.push (newS w)).get? s.heap.objs.size = some { cls := .type "set", dict := none, data := .set #[] 0 (.fresh 0 0 (!w.params.followText "set-order")) } := Heap.get?_push_size _ rfl
      have hTS : Shared.TypeIs { s with heap := s.heap.push (newS w) } (.ref s.heap.objs.size) "set" := ⟨_, hS, rfl⟩
      have kp : ∀ b o, s.heap.get? b = some o → (s.heap.push (newS w)).get? b = some o := fun b o e => Heap.get?_push_of_some _ e
      have sz : (s.heap.push (newS w)).objs.size = s.heap.objs.size + 1 := by rw [Heap.size_push]
      have hli := F.called_set.init.lookup
      have hbi := F.called_set.init.bind (.ref s.heap.objs.size)
      repeat (any_goals (first | assumption | wp_step))
      refine codeAny_mono (codeAny_call_builtin (R := wants (fun r s₂ => r = .none ∧ ∃ h' tk, s₂ = { s with heap := h', toks := tk } ∧ SetM P w h' s.heap.objs.size (dedI vs) ∧
          (∀ b o, s.heap.get? b = some o → h'.get? b = some o)) E) F.called_set.init.plain F.entry_set_init (check_set_init_1 hTS ?_)) fun r₂ s₂ hr₂ => ?_
      · have hTl := hT { s with heap := s.heap.push (newS w) } (fun o e => kp l o e)
        unfold Builtin.«set.__init__» noKeywords Builtin.Frozenset.updateFrom
        generalize hPI : pyIter = PI
        wp_walk
        subst hPI
        obtain ⟨ol, hol⟩ := hl
        have hlS : l < s.heap.objs.size := Heap.lt_size hol
        refine hit _ { s with heap := s.heap.push (newS w) } _ _ (fun o e => kp l o e) ?_
        refine wpAny_bind (wpAny_runValue ?_)
        have hh3 : A.in1.in1.in1.handled = none := by simp [hh]
        have hneI : l ≠ (s.heap.push (newS w)).objs.size := by rw [sz]; exact Nat.ne_of_lt (Nat.lt_succ_of_lt hlS)
        have hSf : s.heap.objs.size ∉ [(s.heap.push (newS w)).objs.size, l] := by
          rw [sz]; simp only [List.mem_cons, List.not_mem_nil, or_false, not_or]
          exact ⟨Nat.ne_of_lt (Nat.lt_succ_self _), Nat.ne_of_gt hlS⟩
        refine upd_loop ((hW _ (s.heap.push (newS w)).objs.size hh3 hneI).toS) s.heap.objs.size hSf hval hb (vs.length - 0) 0 _ (by omega) (Nat.zero_le _) (hSt (s.heap.push (newS w)) fun o e => kp l o e) (newS_ok.stay fun o e => Heap.get?_push_of_some _ e) ?_
        intro s' hm hS'
        obtain ⟨h', g', d', tk', os'⟩ := s'
        have eg : g' = s.gens := hm.gens
        have ed : d' = s.drawn := hm.drawn
        have eo : os' = s.os := hm.os
        subst eg; subst ed; subst eo
        show wpAny _ _ _ _ _ _
        refine wpAny_pure ?_
        show wpAny _ _ (ret Value.none) _ _ _
        refine wpAny_pure ⟨rfl, h', tk', rfl, hS', fun b o e => ?_⟩
        have hb0 : b < s.heap.objs.size := Heap.lt_size e
        refine hm.heap b o ?_ (Heap.get?_push_of_some _ (kp b o e))
        simp only [List.mem_cons, List.not_mem_nil, or_false, not_or]
        exact ⟨Nat.ne_of_lt hb0, by rw [sz]; exact Nat.ne_of_lt (Nat.lt_succ_of_lt hb0)⟩
      · cases r₂ with
        | error e => exact hr₂
        | ok fl₂ =>
          cases fl₂ with
          | ret r =>
            obtain ⟨rfl, h', tk, rfl, hS', hk'⟩ := hr₂
            repeat (any_goals (first | assumption | wp_step))
            exact h _ _ hS' hk'
          | _ => exact hr₂.elim
    | _ => exact hr.elim
end
end L2

set_option Elab.async false
set_option maxRecDepth 100000
set_option maxHeartbeats 4000000
namespace L2
open PySem PySem.Spec PyProof.Rows

def SIt (h : Heap) (I a : Addr) (first : Value) (i n ep : Nat) : Prop := ∃ o, h.get? I = some o ∧ o.cls = .type "set_iterator" ∧ o.data = .fields #[first, .int i 0, .ref a, .int n 0, .int ep 0]
theorem SIt.typeIs {s : Shared} {I a : Addr} {first : Value} {i n ep : Nat} (x : SIt s.heap I a first i n ep) : s.TypeIs (.ref I) "set_iterator" := let ⟨o, ho, hc, _⟩ := x; ⟨o, ho, hc⟩
theorem erase_perm {α : Type} : ∀ {l : List α} {i : Nat} (h : i < l.length), (l[i] :: l.eraseIdx i).Perm l
  | [], i, h => by simp at h
  | x :: l, 0, h => .refl _
  | x :: l, i + 1, h => by
    rw [List.eraseIdx_cons_succ, List.getElem_cons_succ]
    exact (List.Perm.swap _ _ _).trans (.cons _ (erase_perm (by simpa using h)))
section
variable {P : Program} {w : World} {A : Around} {E : Value → Shared → Prop} {s : Shared}
end
end L2

set_option Elab.async false
set_option maxRecDepth 100000
set_option maxHeartbeats 4000000
namespace L2
open PySem PySem.Spec PyProof.Rows
section
variable {P : Program} {w : World} {A : Around} {E : Value → Shared → Prop} {s : Shared}

structure SetE (P : Program) (w : World) (h : Heap) (a : Addr) (es : Array (Int × Value)) (ep : Nat) (t : SetTable) : Prop where
  at_ : ∃ o, h.get? a = some o ∧ o.ExactSet ∧ o.data = .set es ep t
  fits : t.fits es.size = true
  tab : TabOk w t
end
end L2

set_option Elab.async false
set_option maxRecDepth 100000
set_option maxHeartbeats 4000000
namespace L2
open PySem PySem.Spec PyProof.Rows
section
variable {P : Program} {w : World} {A : Around} {E : Value → Shared → Prop} {s : Shared}
theorem SIt.set0 {h : Heap} {I a : Addr} {first x : Value} {i n ep : Nat} (hit : SIt h I a first i n ep) : SIt (h.update I (Obj.mapFields (·.setIfInBounds 0 x))) I a x i n ep := by
  obtain ⟨o, ho, hc, hd⟩ := hit
  exact ⟨_, Heap.get?_update_self _ ho (Obj.isFreed_of_fields (Obj.data_mapFields hd _)), (Obj.cls_mapFields ..).trans hc, by rw [Obj.data_mapFields hd]; simp⟩
end
end L2

set_option Elab.async false
set_option maxRecDepth 100000
set_option maxHeartbeats 4000000
namespace L2
open PySem PySem.Spec PyProof.Rows
theorem SIt.stay {h h' : Heap} {I a : Addr} {first : Value} {i n ep : Nat} (x : SIt h I a first i n ep) (k : ∀ o, h.get? I = some o → h'.get? I = some o) : SIt h' I a first i n ep := let ⟨o, ho, r⟩ := x; ⟨o, k o ho, r⟩
theorem SetE.stay {P : Program} {w : World} {h h' : Heap} {a : Addr} {es : Array (Int × Value)} {ep : Nat} {t : SetTable} (x : SetE P w h a es ep t) (k : ∀ o, h.get? a = some o → h'.get? a = some o) : SetE P w h' a es ep t :=
  ⟨let ⟨o, ho, r⟩ := x.at_; ⟨o, k o ho, r⟩, x.fits, x.tab⟩
section
variable {P : Program} {w : World} {A : Around} {E : Value → Shared → Prop} {s : Shared}
end
end L2

set_option Elab.async false
set_option maxRecDepth 100000
set_option maxHeartbeats 4000000
namespace L2
open PySem PySem.Spec PyProof.Rows
section
variable {P : Program} {w : World} {A : Around} {E : Value → Shared → Prop} {s : Shared}
end
end L2

set_option Elab.async false
set_option maxRecDepth 100000
set_option maxHeartbeats 4000000
namespace L2
open PySem PySem.Spec PyProof.Rows
section
variable {P : Program} {w : World} {A : Around} {E : Value → Shared → Prop} {s : Shared}
end
end L2

set_option Elab.async false
set_option maxRecDepth 100000
set_option maxHeartbeats 4000000
namespace L2
open PySem PySem.Spec PyProof.Rows
theorem setM_there {P : Program} {w : World} {h : Heap} {a : Addr} {ns : List Int} (x : SetM P w h a ns) : ∃ o, h.get? a = some o := let ⟨o, _, _, _, e, _⟩ := x; ⟨o, e⟩
theorem setO_ok {P : Program} {w : World} {H : Hp} {h : Heap} {a : Addr} {ns : List Int} (x : SetM P w h a ns) : ObjOk P w H h a (setO P w a ns) := ⟨x, setM_there x, fun h1 h2 y k => y.stay k⟩
theorem setO_at {X : Cx} {pins : List (Addr × Obj)} {σ : St} {H : Hp} {s : Shared} {a : Addr} {ns : List Int} (I : Inv X pins σ H s) (h : H a = some (setO X.prog X.w a ns)) : SetM X.prog X.w s.heap a ns := (I.hok a _ h).1
section
variable {P : Program} {w : World} {A : Around} {E : Value → Shared → Prop} {s : Shared}
end
section
variable {X : Cx}
variable {tg elt iter : Expr} {ifs : List Expr} {scope : Scope} {pos : Pos} {N' : List Str} {tn : Nat} {idx : List Nat} {wi : TI} {g : TG} {tt : TT} {te : TE}

end
end L2

set_option Elab.async false
set_option maxRecDepth 100000
set_option maxHeartbeats 4000000
namespace L2
open PySem PySem.Spec PyProof.Rows

inductive Dt where
  | non | bl (b : Bool) | int (i : Int) | str (x : Str) | lst (xs : List Dt) | tup (xs : List Dt)
inductive Rdt (H : Hp) : V → Dt → Prop where
  | non : Rdt H .non .non
  | bl (b : Bool) : Rdt H (.bl b) (.bl b)
  | int (i : Int) : Rdt H (.int i) (.int i)
  | str (x : Str) : Rdt H (.str x) (.str x)
  | lst {a : Addr} {xs : List V} {ds : List Dt} (e : H a = some (.lst xs)) (hl : xs.length = ds.length) (h : ∀ (i : Nat) (x : V) (d : Dt), xs[i]? = some x → ds[i]? = some d → Rdt H x d) : Rdt H (.ref a) (.lst ds)
  | tup {a : Addr} {xs : List V} {ds : List Dt} (e : H a = some (.tup xs)) (hl : xs.length = ds.length) (h : ∀ (i : Nat) (x : V) (d : Dt), xs[i]? = some x → ds[i]? = some d → Rdt H x d) : Rdt H (.ref a) (.tup ds)
theorem Rdt.inj {H : Hp} {v : V} {d : Dt} (h : Rdt H v d) : ∀ {d' : Dt}, Rdt H v d' → d = d' := by
  induction h with
  | non => intro d' h'; cases h'; rfl
  | bl b => intro d' h'; cases h'; rfl
  | int i => intro d' h'; cases h'; rfl
  | str x => intro d' h'; cases h'; rfl
  | lst e hl h ih =>
    intro d' h'
    cases h' with
    | lst e' hl' h' =>
      rw [e] at e'; cases e'
      congr 1
      refine List.ext_getElem? fun i => ?_
      rename_i xs ds ds'
      by_cases hi : i < xs.length
      · rw [List.getElem?_eq_getElem (by omega), List.getElem?_eq_getElem (by omega)]
        exact congrArg some (ih i _ _ (List.getElem?_eq_getElem hi) (List.getElem?_eq_getElem (by omega)) (h' i _ _ (List.getElem?_eq_getElem hi) (List.getElem?_eq_getElem (by omega))))
      · rw [List.getElem?_eq_none (by omega), List.getElem?_eq_none (by omega)]
    | tup e' hl' h' => rw [e] at e'; cases e'
  | tup e hl h ih =>
    intro d' h'
    cases h' with
    | lst e' hl' h' => rw [e] at e'; cases e'
    | tup e' hl' h' =>
      rw [e] at e'; cases e'
      congr 1
      refine List.ext_getElem? fun i => ?_
      rename_i xs ds ds'
      by_cases hi : i < xs.length
      · rw [List.getElem?_eq_getElem (by omega), List.getElem?_eq_getElem (by omega)]
        exact congrArg some (ih i _ _ (List.getElem?_eq_getElem hi) (List.getElem?_eq_getElem (by omega)) (h' i _ _ (List.getElem?_eq_getElem hi) (List.getElem?_eq_getElem (by omega))))
      · rw [List.getElem?_eq_none (by omega), List.getElem?_eq_none (by omega)]
theorem Rdt.keep {H H' : Hp} (k : Keep H H') {v : V} {d : Dt} (h : Rdt H v d) : Rdt H' v d := by
  induction h with
  | non => exact .non
  | bl b => exact .bl b
  | int i => exact .int i
  | str x => exact .str x
  | lst e hl h ih => exact .lst (k.lst e) hl ih
  | tup e hl h ih => exact .tup (k.tup e) hl ih
section
variable {X : Cx} {pins : List (Addr × Obj)} {σ : St} {H : Hp} {s : Shared}
theorem Inv.tups (I : Inv X pins σ H s) {a : Addr} {xs : List V} (h : H a = some (.tup xs)) : ∃ its : List Value, Vals xs its ∧ s.heap.IsTuple a its.toArray := by
  obtain ⟨its, rv, p, _⟩ := I.tuple (SqT.of h)
  exact ⟨its, rv, p⟩
end
end L2

set_option Elab.async false
set_option maxRecDepth 100000
set_option maxHeartbeats 4000000
namespace L2
open PySem PySem.Spec PyProof.Rows
section
variable {X : Cx} {pins : List (Addr × Obj)} {σ : St} {H : Hp} {s : Shared}
end
section
variable {X : Cx}
end
end L2

set_option Elab.async false
set_option maxRecDepth 100000
set_option maxHeartbeats 4000000
namespace L2
open PySem PySem.Spec PyProof.Rows
theorem bt_set : bootBuiltins "set" = some (.type "set") := by decide +kernel
section
variable {X : Cx}

def IntSeq (K : PySem.W.Frag) (H : Hp) (p : Addr) (ns : List Int) : Prop := SqL K H p (ns.map V.int) ∨ SqT K H p (ns.map V.int)
def rSetOf (P : Program) (w : World) (K : PySem.W.Frag) : List V → Hp → VK → Prop := fun xs H Q => ∃ p ns, xs = [.ref p] ∧ IntSeq K H p ns ∧ ns.length + 1 < scanBound ∧ ∀ l, H l = none → Q (.ref l) (upd H l (setO P w l (dedI ns)))
theorem valsI_at {ns : List Int} {us : List Value} (r : Vals (ns.map V.int) us) : ∀ (i : Nat) (v : Value), us.toArray[i]? = some v → ∃ m t, ns[i]? = some m ∧ v = .int m t := fun i v h => by
  have hl := r.length
  have h' : us[i]? = some v := by simpa using h
  have hi : i < us.length := (List.getElem?_eq_some_iff.mp h').1
  have hi' : i < ns.length := by rw [List.length_map] at hl; omega
  obtain ⟨u, e, q⟩ := r.get (i := i) (x := V.int ns[i]) (by rw [List.getElem?_map, List.getElem?_eq_getElem hi']; rfl)
  rw [h'] at e; cases e
  obtain ⟨t, rfl⟩ := q
  exact ⟨_, t, List.getElem?_eq_getElem hi', rfl⟩
theorem call_setR (hc : X.calm = true) : CallR X (.type "set") (rSetOf X.prog X.w X.K) := by
  intro pins s σ H xs us Q I r h
  obtain ⟨p, ns, rfl, hq, hb, q⟩ := h
  obtain ⟨u, rfl, rx⟩ := vals1 r
  cases rx
  have fin : ∀ (h' : Heap) (tk : Nat), SetM X.prog X.w h' s.heap.objs.size (dedI ns) → (∀ b o, s.heap.get? b = some o → h'.get? b = some o) → EP X pins σ Q (.ref s.heap.objs.size) { s with heap := h', toks := tk } := fun h' tk hM hk =>
    ⟨.ref s.heap.objs.size, _, I.laid (t' := tk) hk (Nat.le_refl _) (setO_ok hM), rfl, q _ (I.hok.fresh (Nat.le_refl _))⟩
  have hh := I.ok.hd hc
  rcases hq with hq | hq
  · obtain ⟨its, rv, pl, hz⟩ := I.list hq
    have hl : its.toArray.size = ns.length := by rw [List.size_toArray, ← rv.length, List.length_map]
    obtain ⟨o, ho, hcl, n, hd⟩ := pl.isList
    refine call_set_seq (T := "list") (vs := ns) (itob := { cls := .type "list_iterator", data := .fields #[.ref p, .int 0 0] }) (Pv := fun i v => its.toArray[i]? = some v) (St := fun I i h => h.IsListIter I p i ∧ h.IsList p its.toArray) hh ⟨o, ho⟩ (fun s1 k => ⟨o, k o ho, hcl⟩) F.sub_list_set F.sub_list_frozenset (by decide)
      (fun A' s1 Q' E' k hq' => wpAny_pyIter_list ⟨o, k o ho, hcl, n, hd⟩ hq') (fun A' I' hA hne => hl ▸ Walks.list hA I' p hne its.toArray) (fun h1 k => ⟨⟨_, Heap.get?_push_size _ rfl, rfl, rfl⟩, ⟨o, Heap.get?_push_of_some _ (k o ho), hcl, n, hd⟩⟩) (valsI_at rv) hb fin
  · obtain ⟨its, rv, pl, hz⟩ := I.tuple hq
    have hl : its.toArray.size = ns.length := by rw [List.size_toArray, ← rv.length, List.length_map]
    obtain ⟨o, ho, hcl, n, hd⟩ := pl
    refine call_set_seq (T := "tuple") (vs := ns) (itob := { cls := .type "tuple_iterator", data := .fields #[.ref p, .int 0 0] }) (Pv := fun i v => its.toArray[i]? = some v) (St := fun I i h => h.IsTupleIter I p i ∧ h.IsTuple p its.toArray) hh ⟨o, ho⟩ (fun s1 k => ⟨o, k o ho, hcl⟩) sub_tuple_set sub_tuple_fset (by decide)
      (fun A' s1 Q' E' k hq' => wpAny_pyIter_tuple ⟨o, k o ho, hcl, n, hd⟩ hq') (fun A' I' hA hne => hl ▸ Walks.tuple hA I' p hne its.toArray) (fun h1 k => ⟨⟨_, Heap.get?_push_size _ rfl, rfl, rfl⟩, ⟨o, Heap.get?_push_of_some _ (k o ho), hcl, n, hd⟩⟩) (valsI_at rv) hb fin
def rLenS (P : Program) (w : World) : List V → Hp → VK → Prop := fun xs H Q => ∃ p ns, xs = [.ref p] ∧ H p = some (setO P w p ns) ∧ Q (.int ns.length) H
theorem call_lenS : CallR X (.builtin "len") (rLenS X.prog X.w) := by
  intro pins s σ H xs us Q I r h
  obtain ⟨p, ns, rfl, hp, q⟩ := h
  obtain ⟨u, rfl, rx⟩ := vals1 r
  cases rx
  obtain ⟨o, es, ep, t, ho, hex, hd, hel, hpm, hn, hb, hf, ht⟩ := setO_at I hp
  have hlen : es.size = ns.length := by rw [← Array.length_toList, ← hpm.length_eq, List.length_map]
  have hb' : es.size < 4096 := hb
  refine call_len_set ho hex hd hf (by omega) ⟨.int ns.length, H, I.tok _, ⟨_, by rw [hlen]⟩, q⟩
end
end L2

set_option Elab.async false
set_option maxRecDepth 100000
set_option maxHeartbeats 4000000
namespace L2
open PySem PySem.Spec PyProof.Rows
section
variable {P : Program} {w : World} {A : Around} {E : Value → Shared → Prop} {s : Shared}
end
def rangeI (n : Nat) : List Int := (List.range n).map fun i => ((i : Nat) : Int)
section
variable {X : Cx}
theorem call_setRK {K : PySem.W.Frag} (h : X.K = K) (hc : X.calm = true) : CallR X (.type "set") (rSetOf X.prog X.w K) := h ▸ call_setR hc
end
end L2

set_option Elab.async false
set_option maxRecDepth 100000
set_option maxHeartbeats 4000000
namespace L2
open PySem PySem.Spec PyProof.Rows
theorem Keep.over {H H' : Hp} {D : Addr} {o : HO} (k : Keep H H') (hD : H D = none) : Keep H (upd H' D o) := fun b u e => by
  rw [upd_ne (ne_of_none e hD)]
  exact k b u e
section
variable {J : It} {xs : List V} {te : TE} {Q : VK} {H0 : Hp} {τ0 : St} {D : Addr}
theorem comp_map (f : V → V) (hD : H0 D = none) (hJ : ∀ H, Keep H0 H → Runs J xs H) (hlen : xs.length < sizeLine)
    (hs : ∀ (i : Nat) (x : V), xs[i]? = some x → ∀ H, Keep H0 H → ∀ R : VK, (∀ H', Keep H H' → R (f x) H') → te (τ0.set 0 (some x)) H R)
    (hd : ∀ H, Keep H0 H → H D = some (.lst (xs.map f)) → Q (.ref D) H) :
    ∃ W : Nat → Nat → St → Hp → Prop, (∃ m, W 0 m τ0 (upd H0 D (.lst []))) ∧ tTurn J (gName 0) tNoIf te D Q W := by
  refine tturn0 (fun i acc H => Keep H0 H ∧ H D = some (.lst acc) ∧ acc = (xs.take i).map f) (fun i acc H _ p => hJ H p.1) ⟨.new hD _, upd_same, rfl⟩ ?_ ?_
  · rintro i x acc H hx ⟨k, hd1, hacc⟩ R2 hR
    refine hs i x hx H k R2 fun H' k' => hR _ _ (k'.lst hd1) ?_ ⟨(k.trans k').over hD, upd_same, ?_⟩
    · rw [hacc, List.length_map, List.length_take]
      omega
    · rw [hacc, List.take_add_one, hx, List.map_append]
      rfl
  · rintro acc H ⟨k, hd1, hacc⟩
    rw [List.take_length] at hacc
    exact hd H k (hacc ▸ hd1)
theorem Keep.ext {H H' : Hp} (k : Keep H H') {b : Addr} {φ : Heap → Prop} (h : H b = some (.ext φ)) : H' b = some (.ext φ) := k.get h (by intro ps z; cases z)
end
end L2

set_option Elab.async false
set_option maxRecDepth 100000
set_option maxHeartbeats 4000000
namespace L2
open PySem PySem.Spec PyProof.Rows

def HoI (X : Cx) (st : List Stmt) {ι : Type} (Pre : ι → St → Hp → Prop) (D : ι → Ends) : Prop := ∃ u, PSs X st u ∧ ∀ i σ H, Pre i σ H → u (D i) σ H
def HsI (X : Cx) (st : Stmt) {ι : Type} (Pre Mid : ι → St → Hp → Prop) (D : ι → Ends) : Prop := ∃ t, PS X st t ∧ ∀ i (N : St → Hp → Prop) σ H, Pre i σ H → (∀ σ' H', Mid i σ' H' → N σ' H') → t { D i with nx := N } σ H
section
variable {X : Cx} {st : Stmt} {rest : List Stmt} {ι : Type} {Pre : ι → St → Hp → Prop} {D : ι → Ends}
theorem HoI.cons (Mid : ι → St → Hp → Prop) (h1 : HsI X st Pre Mid D) (h2 : HoI X rest Mid D) : HoI X (st :: rest) Pre D := by
  obtain ⟨t, ht, q⟩ := h1
  obtain ⟨u, hu, r⟩ := h2
  exact ⟨tSeq t u, pss_cons ht hu, fun i σ H p => q i (u (D i)) σ H p (r i)⟩
theorem HoI.last (h : ∃ t, PS X st t ∧ ∀ i σ H, Pre i σ H → t (D i) σ H) : HoI X [st] Pre D := by
  obtain ⟨t, ht, q⟩ := h
  exact ⟨t, pss_one ht, q⟩
theorem HoI.nil (h : ∀ i σ H, Pre i σ H → (D i).nx σ H) : HoI X [] Pre D := ⟨tNext, pss_nil, h⟩
theorem HoI.run {Pre : Unit → St → Hp → Prop} {D : Unit → Ends} {st : List Stmt} {σ : St} {H : Hp} (p : Pre () σ H) (h : HoI X st Pre D) : ∃ t, PSs X st t ∧ t (D ()) σ H := by
  obtain ⟨u, hu, r⟩ := h
  exact ⟨u, hu, r () σ H p⟩
abbrev LpI (ι : Type) : Type := ι × Nat × V × (St → Hp → Prop)
theorem HsI.loop {bd : List Stmt} {wi : TI} {g : TG} {Mid : ι → St → Hp → Prop} (xs : ι → List V) (Pv : ι → Nat → St → Hp → Prop) (PB : LpI ι → St → Hp → Prop)
    (mk : ∀ tb, PSs X bd tb → PS X st (tFor wi g tb))
    (start : ∀ i σ H, Pre i σ H → ∀ R : It → Hp → Prop, (∀ J H1, Pv i 0 σ H1 → (∀ k σ' H', k ≤ (xs i).length → Pv i k σ' H' → Runs J (xs i) H') → R J H1) → wi σ H R)
    (bind : ∀ i k x σ H M, (xs i)[k]? = some x → Pv i k σ H → (∀ σ' H', Mid i σ' H' → M σ' H') → ∀ N : St → Hp → Prop, (∀ σ2 H2, PB (i, k, x, M) σ2 H2 → N σ2 H2) → g x σ H N)
    (body : HoI X bd PB fun j => { D j.1 with nx := Pv j.1 (j.2.1 + 1), ct := Pv j.1 (j.2.1 + 1), bk := j.2.2.2 })
    (fin : ∀ i σ H, Pv i (xs i).length σ H → Mid i σ H) : HsI X st Pre Mid D := by
  obtain ⟨u, hu, r⟩ := body
  refine ⟨_, mk u hu, fun i N σ H p hN => ?_⟩
  refine start i σ H p _ fun J H1 p1 hJ => ?_
  refine for_of (xs := xs i) (Pv i) p1 hJ (fun k x σ2 H2 hx p2 => ?_) (fun σ2 H2 p2 => hN _ _ (fin i σ2 H2 p2))
  exact bind i k x σ2 H2 N hx p2 hN _ fun σ3 H3 p3 => r (i, k, x, N) σ3 H3 p3
end
end L2

set_option Elab.async false
set_option maxRecDepth 100000
set_option maxHeartbeats 4000000
namespace L2
open PySem PySem.Spec PyProof.Rows
section
variable {X : Cx}

end
end L2

set_option Elab.async false
set_option maxRecDepth 100000
set_option maxHeartbeats 4000000
namespace L2
open PySem PySem.Spec PyProof.Rows

theorem ObjOk.there {P : Program} {w : World} {H : Hp} {h : Heap} {a : Addr} {o : HO} (x : ObjOk P w H h a o) : ∃ u, h.get? a = some u := by
  cases o with
  | lst xs => obtain ⟨_, _, _, _, e⟩ := x; exact ⟨_, e⟩
  | tup xs => obtain ⟨_, _, _, ob, e, _⟩ := x; exact ⟨_, e⟩
  | dK kvs => obtain ⟨_, _, _, _, o, _, _, e, _⟩ := x; exact ⟨_, e⟩
  | dT kvs => obtain ⟨_, _, _, _, o, _, _, e, _⟩ := x; exact ⟨_, e⟩
  | set S n => obtain ⟨o, _, _, _, e, _⟩ := x; exact ⟨_, e⟩
  | ins C dx fs => obtain ⟨_, _, _, e, _⟩ := x; exact ⟨_, e⟩
  | own y => obtain ⟨_, e⟩ := x; exact ⟨_, e⟩
  | xd fs => obtain ⟨_, ⟨_, _, _, e, _⟩, _⟩ := x; exact ⟨_, e⟩
  | rng lo hi => obtain ⟨_, _, _, e⟩ := x; exact ⟨_, e⟩
  | frz ob u => obtain ⟨e, _⟩ := x; exact ⟨_, e⟩
  | tbl ps => exact ⟨_, x⟩
  | met f y => exact ⟨_, x⟩
  | ext φ => obtain ⟨_, ⟨_, e⟩, _⟩ := x; exact ⟨_, e⟩

def CX1 (P : Program) (w : World) : CXT := fun outer H s E e s' => ∃ (a C t : Addr) (B : Heap) (H' : Hp), e = .ref a ∧ s'.os = s.os ∧ Gn s.gens.size s'.gens ∧ Heap.FlyingW B outer a (.ref C) (.ref t) s'.heap ∧
  (∀ b o, s.heap.get? b = some o → b ∉ frs outer → ∃ o', B.get? b = some o') ∧ (∀ b u, H' b = some u → ∃ o', B.get? b = some o') ∧ Un (frs outer) [] H H' s.heap s'.heap ∧ HOk P w H' s'.heap ∧ E (.ref C) none H'

section
variable {X : Cx} {pins : List (Addr × Obj)} {σ : St} {H H1 : Hp} {s s1 : Shared} {B h' : Heap}
theorem Inv.notStk (I : Inv X pins σ H s) {b : Addr} (h1 : b ≠ X.env.locals) (h2 : b ∉ X.fs) : b ∉ frs X.stack := fun z => by
  rcases List.mem_cons.mp (I.stkSub b z) with q | q
  · exact h1 q
  · exact h2 q
theorem Inv.oldNe (I : Inv X pins σ H s) {b : Addr} {o : Obj} (e : X.s₀.heap.get? b = some o) : b ≠ X.env.locals := fun z => by
  have l := Heap.lt_size e
  have := I.ok.above
  rw [← z] at this
  exact absurd l (Nat.not_lt.mpr this)

theorem Inv.fly (I1 : Inv X pins σ H1 s1) (I : Inv X pins σ H s) (c1 : ∀ b o, s1.heap.get? b = some o → b ∉ frs X.stack → ∃ o', B.get? b = some o') (c2 : ∀ b u, H b = some u → ∃ o', B.get? b = some o')
    (k : B.StaysIn s.heap) (k' : B.StaysIn h') (up : s.heap.UpToSlots h') : Inv X pins σ H { s with heap := h' } := by
  have same : ∀ b o', (∃ o2, B.get? b = some o2) → s.heap.get? b = some o' → h'.get? b = some o' := fun b o' ⟨o2, e⟩ q => by
    have z := k b o2 e
    rw [q] at z
    cases z
    exact k' b _ e
  refine ⟨I.ok, I.os, I.bare, ⟨fun b o q n hb hx => ?_, fun b o q n hb hx => ?_, I.base.free, fun b o q hx => ?_, I.base.tups, I.base.frzs, I.base.tbls⟩, ?_, fun x c e => ?_, I.free, I.freeC, fun p hp => ?_, fun a o e => ?_, I.len⟩
  · exact same b o (c1 b o (I1.base.keep b o q n hb hx) (I.notStk (I.oldNe q) hb)) (I.base.keep b o q n hb hx)
  · obtain ⟨sl, e⟩ := I.base.slot b o q n hb hx
    obtain ⟨_, o2, e2, nf⟩ := I.funs.mem hb
    rw [e] at e2
    cases e2
    obtain ⟨sl2, e4⟩ := up b { o with slots := sl } e nf
    exact ⟨sl2, e4⟩
  · obtain ⟨o', e⟩ := I.base.there b o q hx
    by_cases hb : b ∈ X.fs
    · obtain ⟨_, o2, e2, nf⟩ := I.funs.mem hb
      obtain ⟨sl, e3⟩ := up b _ e2 nf
      exact ⟨_, e3⟩
    · obtain ⟨o1, q1⟩ := I1.base.there b o q hx
      exact ⟨o', same b o' (c1 b o1 q1 (I.notStk (I.oldNe q) hb)) e⟩
  · obtain ⟨m, hn, hl⟩ := I.loc
    refine ⟨m, up.ns hn, fun i x v a b c => ?_⟩
    obtain ⟨u, r, l⟩ := hl i x v a b c
    refine ⟨u, r, ?_⟩
    rcases l with l | ⟨kd, c, ec, o, ho, hd⟩
    · exact .inl l
    · obtain ⟨sl, e⟩ := up c o ho fun vs z => by rw [hd] at z; cases z
      exact .inr ⟨kd, c, ec, _, e, hd⟩
  · obtain ⟨v, o, ho, hd⟩ := I.cell x c e
    obtain ⟨sl, e⟩ := up c o ho fun vs z => by rw [hd] at z; cases z
    exact ⟨v, _, e, hd⟩
  · obtain ⟨p1, p2, p3, p4, p5⟩ := I.pin p hp
    exact ⟨same p.1 p.2 (c1 p.1 p.2 (I1.pin p hp).1 (I.notStk p3 p4)) p1, p2, p3, p4, p5⟩
  · refine (I.hok a o e).stay (fun b u hb q => ?_) (fun _ q => q) fun _ _ q => q
    rcases hb with z | z
    · exact same b u (c2 b o (by rw [z]; exact e)) q
    · exact same b u (c2 b _ z) q
end

section
variable {P : Program} {w : World} {K : PySem.W.Frag} {mg : Str → Option Value} {base : Heap} {N : List Str} {qual : Str} {scope : Scope} {f : Addr} {cd : Value} {A : Around} {outer : List Env} {s0 : Shared} {H0 : Hp} {E : XK}

theorem pass1 : Passes (CX1 P w) (cxOf (CX1 P w) P w K mg base N qual scope f cd A outer s0 H0 E) E := by
  intro pins σ H s e s' I h
  obtain ⟨a, C, t, B, H', rfl, os, gn, fl, c1, c2, un, hok, q⟩ := h
  have I' := I.call' (ch := []) os un hok gn (fun b z => absurd z (by simp))
  refine wpAny_leaves_onW (cls := .ref C) (a0 := .ref t) I.ok.frames rfl fl fun h' fl' up => ?_
  have I2 := I.fly I' c1 c2 fl.1 fl'.1 up
  refine ⟨a, C, t, B, H', rfl, I2.os, I2.bare, fl', fun b o e n => ?_, c2, I2.base, I2.hok, q⟩
  obtain ⟨o1, e1⟩ := I.base.there b o e (fun z => absurd (show b ∈ ([] : List Addr) from z) (by simp))
  exact c1 b o1 e1 (I.notStk (I.oldNe e) n)

def Raises (X : Cx) (E : XK) : Prop := ∀ (pins : List (Addr × Obj)) (σ : St) (H : Hp) (s : Shared) (C : Addr) (h' : Heap) (a : Addr) (vs : List Value), Inv X pins σ H s → Heap.MadeExcOf s.heap h' a (.ref C) vs → E (.ref C) none H → X.xe (.ref a) { s with heap := h' }
theorem raise1 : Raises (cxOf (CX1 P w) P w K mg base N qual scope f cd A outer s0 H0 E) E := by
  intro pins σ H s C h' a vs I hx q
  have c1 : ∀ b o, s.heap.get? b = some o → b ∉ frs (cxOf (CX1 P w) P w K mg base N qual scope f cd A outer s0 H0 E).stack → ∃ o', (PySem.W.hideAll s.heap (frs (cxOf (CX1 P w) P w K mg base N qual scope f cd A outer s0 H0 E).stack)).get? b = some o' :=
    fun b o e n => ⟨o, PySem.W.hideAll_get _ e n⟩
  have c2 : ∀ b u, H b = some u → ∃ o', (PySem.W.hideAll s.heap (frs (cxOf (CX1 P w) P w K mg base N qual scope f cd A outer s0 H0 E).stack)).get? b = some o' := fun b u hu => by
    obtain ⟨o, e⟩ := (I.hok b u hu).there
    exact c1 b o e fun z => by rw [I.stkFree b z] at hu; cases hu
  have st : (PySem.W.hideAll s.heap (frs (cxOf (CX1 P w) P w K mg base N qual scope f cd A outer s0 H0 E).stack)).StaysIn s.heap := fun b o e => PySem.W.of_hideAll _ e
  refine wpAny_leaves_madeW (cls := .ref C) I.ok.frames rfl st (PySem.W.funFrames_hide I.stack fun env he b hb => List.mem_filterMap.mpr ⟨env, he, hb⟩) hx fun h'' t fl _ _ up => ?_
  have I2 := I.fly I c1 c2 st fl.1 ((Heap.UpToSlots.of_keeps hx.keeps).trans up)
  refine ⟨a, C, t, _, H, rfl, I2.os, I2.bare, fl, fun b o e n => ?_, c2, I2.base, I2.hok, q⟩
  obtain ⟨o1, e1⟩ := I.base.there b o e (fun z => absurd (show b ∈ ([] : List Addr) from z) (by simp))
  exact c1 b o1 e1 (I.notStk (I.oldNe e) n)
end

theorem exc_obj {K : PySem.W.Frag} {h : Heap} {C : Addr} {bmB : List Value} {newId : String} (X : K.In h) (q : PySem.W.excIn K C bmB newId = true) :
    ∃ bm Nn nm qn bs hd sn sub ab col dd k0 k1 k2 k3 k5 mN, h.get? C = some (excClassObj nm qn C Nn bs bm hd sn sub ab col dd k0 k1 k2 k3 k5 newId) ∧ h.Ns Nn mN ∧ mN "__init__" = none ∧ OwnTail h bmB bm := by
  unfold PySem.W.excIn at q
  split at q
  case h_2 => cases q
  case h_1 dd cd sl ho =>
    split at q
    case h_2 => cases q
    case h_1 C' bm k0 k1 k2 k3 n k5 hm hs =>
      rw [Bool.and_eq_true, Bool.and_eq_true, Bool.and_eq_true, Bool.and_eq_true, Bool.and_eq_true] at q
      obtain ⟨⟨⟨⟨⟨q1, q2⟩, q3⟩, q4⟩, q5⟩, q6⟩ := q
      have e1 : C' = C := beq_iff_eq.mp q1
      have e2 : n = newId := beq_iff_eq.mp q2
      have e3 : cd.hasDel = false := by simpa using q3
      subst e1 e2
      obtain ⟨nm, bs, mro, ns, qn, hd, sn, sub, ab, col, del⟩ := cd
      dsimp only at hm e3 q5 q6
      subst hm e3
      have es : sl = #[k0, k1, k2, k3, some (.builtin n), k5] := by
        cases sl with
        | mk l => exact congrArg Array.mk hs
      subst es
      exact ⟨bm, ns, nm, qn, bs, hd, sn, sub, ab, col, dd, k0, k1, k2, k3, k5, _, X _ _ ho, Heap.Ns.of_isNs (PySem.W.isNs_of_in X q5), PySem.W.nsMap_none_of_in X q5 (beq_iff_eq.mp q6), PySem.W.tail_of_in X q4⟩

section
variable {X : Cx} {x : Str} {C : Addr} {e₀ : Expr} {rest : List Expr} {t : TA} {bmB : List Value} {B newId initId : String} {E : XK} {np cpos pos : Pos}

def tRaise (C : Addr) (E : XK) (t : TA) : TS := fun _ σ H => t σ H fun vs H1 => vs.length ≤ sizeLine ∧ E (.ref C) none H1
theorem ps_raise (O : PySem.W.excIn X.K C bmB newId = true) (FB : ExcBaseFacts B newId initId bmB) (hc : X.calm = true) (hR : Raises X E) (hg : Gl X x) (hm : X.mg x = some (.ref C)) (ha : PA X (e₀ :: rest) t)
    (hdb : (x == ("__debug__" : Str)) = false := by decide) (he : starEach (e₀ :: rest) X.env = (false, eval e₀ X.env) :: starEach rest X.env := by rfl) (hpl : (backTo cpos (starEach rest X.env)).any (·.1) = false := by rfl) :
    PS X (.Raise (some (.Call (.Name x np) (e₀ :: rest) [] cpos)) none pos) (tRaise C E t) := by
  refine ⟨fun pins s σ H D I h => ?_⟩
  obtain ⟨bm, Nn, nm, qn, bs, hd, sn, sub, ab, col, dd, k0, k1, k2, k3, k5, mN, hC, hN, hni, T⟩ := exc_obj I.ok.mod.kin O
  have hp : (backTo cpos (starEach (e₀ :: rest) X.env)).any (·.1) = false := by
    rw [he]
    exact hpl
  have ha' := ha cpos pins s σ H _ I h
  rw [he] at ha'
  refine wpAny_Raise_call_subT (C := C) (nm := nm) (q := qn) (N := Nn) (bs := bs) (bm := bm) (hdct := hd) (sn := sn) (sub := sub) (ab := ab) (col := col) (dd := dd) (k0 := k0) (k1 := k1) (k2 := k2) (k3 := k3) (k5 := k5) FB (mN := mN)
    (T.hasType FB.hasBase) (I.ok.hd hc) hp hni (ld_glob I hg hm ⟨rfl, ?_⟩ hdb)
  rw [he]
  refine Calls.evalArgs_plain (thn ha' fun us s2 ⟨vs, H2, I2, r, l, q⟩ => ?_)
  exact ⟨rfl, by rw [← r.length]; exact l, I2.bk _ _ hC, hN.keeps I2.bk, T.keeps I2.bk, fun h' a hx => hR pins σ H2 s2 C h' a us I2 hx q⟩
end
end L2

set_option Elab.async false
set_option maxRecDepth 100000
set_option maxHeartbeats 4000000
namespace L2
open PySem PySem.Spec PyProof.Rows PySem.W Builtin Builtin.ObjectAttr Builtin.Getset_descriptor

def ExcAt (C a : Addr) (h : Heap) : Prop := ∃ o vs, h.get? a = some o ∧ o.cls = .ref C ∧ o.data = .fields vs
def excO (C a : Addr) : HO := .ext (ExcAt C a)
theorem ExcAt.stay {C a : Addr} {h h' : Heap} (x : ExcAt C a h) (k : ∀ o, h.get? a = some o → h'.get? a = some o) : ExcAt C a h' := let ⟨o, vs, e, c, d⟩ := x; ⟨o, vs, k o e, c, d⟩
theorem excO_ok {P : Program} {w : World} {H : Hp} {h : Heap} {C a : Addr} (x : ExcAt C a h) : ObjOk P w H h a (excO C a) := ⟨x, let ⟨o, _, e, _⟩ := x; ⟨o, e⟩, fun _ _ y k => y.stay k⟩

structure ExcCls (K : Frag) (C : Addr) : Prop where
  cls : (clsIn K C).isSome = true
  ga : findIn K (.ref C) "__getattribute__" = some (some (.builtin "BaseException.__getattribute__"))
  gt : findIn K (.ref C) "__getattr__" = some none
  cl : findIn K (.ref C) "__class__" = some (some (.builtin "object.__class__"))
  gg : specialIn K (.builtin "object.__class__") "__get__" = some (some (.builtin "getset_descriptor.__get__"))
  tk : takesIn K (.builtin "object.__class__") = some true
  ob : mroIn K C (.type "object") = some true
  be : mroIn K C (.type "BaseException") = some true
section
variable {K : Frag} {C a : Addr} {M : Model} {h : Heap}
theorem excAt_ty (x : ExcAt C a h) : Looks M h (typeOf (.ref a)) (.ref C) := by
  obtain ⟨o, vs, h1, h2, h3⟩ := x
  exact h2 ▸ (Looks.ld h1).andThen .now
theorem exc_find (X : K.In h) (E : ExcCls K C) : Looks M h (find (.ref a) (.ref C) "__class__") (.bind (.builtin "getset_descriptor.__get__") (.builtin "object.__class__")) := by
  refine (looks_findIn X E.cl).andThen (Looks.andThen (show Looks M h (getOf (some (.builtin "object.__class__"))) (some (.builtin "getset_descriptor.__get__")) from looks_specialIn X E.gg) ?_)
  have l3 : Looks M h (dataDescriptor? (some (.builtin "object.__class__")) (some (.builtin "getset_descriptor.__get__"))) (some (.builtin "getset_descriptor.__get__", .builtin "object.__class__")) := (looks_takesIn X E.tk).andThen .now
  exact l3.andThen (Looks.tag .now)
theorem exc_isType (X : K.In h) (E : ExcCls K C) : Looks M h (isType (.ref C)) true := by
  have z := E.cls
  unfold clsIn at z
  split at z
  case h_2 => cases z
  case h_1 ho =>
    intro A Q E s k q
    unfold isType loadHead
    exact wpAny_bind (m := loadPart _ _) (wpAny_loadPart (k _ _ (X _ _ ho)) (wpAny_pure q))
theorem exc_neTup (X : K.In h) (E : ExcCls K C) {tp : Addr} {dd : Option Addr} {its : List Value} {n : Nat} {sl : Array (Option Value)} (e : h.get? tp = some ⟨.type "tuple", dd, .seq its.toArray n, sl⟩) : (Value.ref C == Value.ref tp) = false := by
  refine Bool.eq_false_iff.mpr fun q => ?_
  cases Value.ref.inj (beq_iff_eq.mp q)
  have z := E.cls
  unfold clsIn at z
  split at z
  case h_2 => cases z
  case h_1 ho => cases (X _ _ ho).symm.trans e
end
section
variable {K : Frag} {C a : Addr} {prog : Program} {w : World} {A : Around} {s : Shared} {R : Result → Shared → Prop} {EE : Value → Shared → Prop}
theorem exc_class_get {tp : Value} (X : K.In s.heap) (E : ExcCls K C) (x : ExcAt C a s.heap) (q : R (.ok (.ret (.ref C))) s) : codeAny (model prog w) A (.call (.builtin "getset_descriptor.__get__") ⟨[.builtin "object.__class__", .ref a, tp], []⟩) R s := by
  obtain ⟨hh, g, dr, t, os⟩ := s
  have L0 := excAt_ty (M := model prog w) x
  have L1 := looks_mroIn (M := model prog w) X E.ob
  have ck := KF.slot_gs.check (model prog w)
  refine codeAny_call_builtin KF.slot_gs.plain KF.entry_gs (ck _ _ _ _ _ _ _ KF.type_class (KF.args_gs _ _ _) ?_)
  unfold Builtin.«getset_descriptor.__get__» descrGet
  rw [dga_obj]
  refine wpAny_bind (m := pure _) (wpAny_pure ?_)
  unfold descrGetter descrCheckInstance descrNameAndClass
  unfold isInstance
  simp only [KF.owner_class]
  repeat lk
  refine ⟨Code.quiet_builtin _ (by decide +kernel), codeAny_builtin KF.entry_class ?_⟩
  unfold Builtin.«object.__class__»
  unfold shownTypeOf
  repeat lk
  exact q
theorem exc_ga_check {nv : Value} {Q : Unit → Shared → Prop} (X : K.In s.heap) (E : ExcCls K C) (x : ExcAt C a s.heap) (q : Q () s) : wpAny (model prog w) A (checkBuiltinCall "BaseException.__getattribute__" ⟨[.ref a, nv], []⟩) Q EE s := by
  have e1 : builtinKind "BaseException.__getattribute__" = some .slot := by decide +kernel
  have e2 : splitId "BaseException.__getattribute__" = some ("BaseException", "__getattribute__") := by decide +kernel
  have hargs := F.args_bexc_ga (.ref a) nv
  have L0 := excAt_ty (M := model prog w) x
  have L1 := looks_mroIn (M := model prog w) X E.be
  obtain ⟨hh, g, dr, t, os⟩ := s
  simp only [checkBuiltinCall, e1, e2]
  refine wpAny_bind ?_
  unfold isInstance
  repeat lk
  exact q
theorem exc_class_attr {Q : Option Value → Shared → Prop} (X : K.In s.heap) (E : ExcCls K C) (x : ExcAt C a s.heap) (q : Q (some (.ref C)) { s with toks := s.toks + 1 }) : wpAny (model prog w) A (getAttr? (.ref a) "__class__") Q EE s := by
  obtain ⟨hh, g, d, t, os⟩ := s
  have L0 := excAt_ty (M := model prog w) x
  have L1 := looks_findIn (M := model prog w) X E.ga
  have L2 := looks_findIn (M := model prog w) X E.gt
  have hne : (onTheHeap (Value.ref C) && Value.builtin "BaseException.__getattribute__" == Value.builtin "object.__getattribute__") = false := by
    rw [show (Value.builtin "BaseException.__getattribute__" == Value.builtin "object.__getattribute__") = false from by decide +kernel]
    rfl
  unfold getAttr? getAttrBy?
  refine wpAny_bind (wpAny_mkText (wpAny_bind (m := (getAttrBy _ _ _).attempt) (wpAny_attempt ?_)))
  unfold getAttrBy
  refine wpAny_holding (wpAny_bind (m := typeOf _) (L0.at (wpAny_bind (m := typeLookup _ _) (L1.at ?_))))
  simp only [hne, Bool.false_eq_true, if_false]
  unfold getAttrByItsOwn hookBefore
  refine wpAny_bind (L2.at ?_)
  refine wpAny_bind (wpAny_attempt (wpAny_holding ?_))
  unfold callGetattribute boundAndCalled
  simp only [Bool.false_and, Bool.false_eq_true, if_false]
  refine wpAny_bind (m := bindSpecial _ _) (wpAny_of_eq (F.attr_ValueError.ga.bind (.ref a)) ?_)
  have L3 := exc_find (M := model prog w) (a := a) X E
  refine wpAny_call (codeAny_call_builtin F.attr_ValueError.ga.plain F.entry_bexc_ga (exc_ga_check X E x ?_))
  unfold Builtin.«object.__getattribute__»
  iterate 9 lk
  refine wpAny_bind (m := attrName _) (wpAny_pure (wpAny_bind (m := typeOf _) (L0.at (wpAny_bind (m := find _ _ _) (L3.at ?_)))))
  show wpAny _ _ (holding [Value.builtin "object.__class__"] (call (.builtin "getset_descriptor.__get__") [.builtin "object.__class__", .ref a, .ref C]) >>= ret) _ _ _
  refine wpAny_bind (m := holding _ _) (wpAny_holding (wpAny_call (exc_class_get X E x ?_)))
  exact wpAny_pure (handed_on rfl (wpAny_pure q))
end
theorem kitx_exc {K : Frag} {C a : Addr} (E : ExcCls K C) : KitX K (.ref a) (.ref C) (ExcAt C a) where
  ty := fun _ _ _ x => excAt_ty x
  it := fun _ _ X _ => exc_isType X E
  ne := fun _ _ _ _ _ _ X e => exc_neTup X E e
  ca := fun X x q => exc_class_attr X E x q
theorem refs_vals : ∀ {Ds : List Addr} {us : List Value}, Vals (Ds.map V.ref) us → us = Ds.map Value.ref
  | [], _, .nil => rfl
  | D :: Ds, _, .cons r t => by
    cases (show _ = Value.ref D from r)
    rw [refs_vals t]
    rfl
section
variable {X : Cx}
def rIsE (K : Frag) : List V → Hp → VK → Prop := fun xs H Q => ∃ a C b, H a = some (excO C a) ∧ ExcCls K C ∧
  ((∃ D, xs = [.ref a, .ref D] ∧ kitOne K (.ref C) (.ref D) = some b) ∨ (∃ T, xs = [.ref a, .ty T] ∧ kitOne K (.ref C) (.type T) = some b) ∨ ∃ (tp : Addr) (Ds : List Addr), xs = [.ref a, .ref tp] ∧ H tp = some (.tup (Ds.map V.ref)) ∧ kitAny K (.ref C) (Ds.map Value.ref) = some b) ∧ Q (.bl b) H
theorem call_isE {K : Frag} (hK : X.K = K) : CallR X (.builtin "isinstance") (rIsE K) := by
  subst hK
  intro pins s σ H xs us Q I r h
  obtain ⟨a, C, b, ha, E, h, q⟩ := h
  have x : ExcAt C a s.heap := (I.hok a _ ha).1
  have fin : ∀ tk, EP X pins σ Q (.bool b) { s with toks := tk } := fun tk => ⟨.bl b, H, I.tok tk, rfl, q⟩
  rcases h with ⟨D, rfl, e⟩ | ⟨T, rfl, e⟩ | ⟨tp, Ds, rfl, ht, e⟩
  · obtain ⟨u, w', rfl, r1, r2⟩ := vals2 r
    cases (show u = Value.ref a from r1)
    cases (show w' = Value.ref D from r2)
    exact kia_one (kitx_exc E) I.kIn x e (fun z => nomatch z) fin
  · obtain ⟨u, w', rfl, r1, r2⟩ := vals2 r
    cases (show u = Value.ref a from r1)
    cases (show w' = Value.type T from r2)
    exact kia_one (kitx_exc E) I.kIn x e (fun z => nomatch z) fin
  · obtain ⟨u, w', rfl, r1, r2⟩ := vals2 r
    cases (show u = Value.ref a from r1)
    cases (show w' = Value.ref tp from r2)
    obtain ⟨_, its, rv, ob, ho, hc, n, hd⟩ := I.hok tp _ ht
    have ei := refs_vals rv
    subst ei
    obtain ⟨c, dd, dt, sl⟩ := ob
    dsimp only at hc hd
    subst hc hd
    exact kia_tup (kitx_exc E) I.kIn x ho e (fun z => nomatch z) fin
end
end L2

set_option Elab.async false
set_option maxRecDepth 100000
set_option maxHeartbeats 4000000
namespace L2
open PySem PySem.Spec PyProof.Rows PySem.W

def blank (n : Nat) : St := List.replicate n none
theorem blank_at {n i : Nat} {v : V} (h : (blank n)[i]? = some (some v)) : False := by
  unfold blank at h
  rw [List.getElem?_replicate] at h
  split at h <;> cases h

abbrev Cx.tryc (X : Cx) (T : Value → Shared → Prop) (pn : List (Addr × Obj)) : Cx := { X with xe := T, pn := pn }

abbrev Cx.suite (X : Cx) (a : Addr) : Cx := { X with A := X.A.mark (some (.ref a)), calm := false, xe := fun _ _ => False }
section
variable {X : Cx} {pins pins' : List (Addr × Obj)} {σ : St} {H : Hp} {s : Shared} {T : Value → Shared → Prop}
theorem Inv.tryc (I : Inv X pins σ H s) (T : Value → Shared → Prop) : Inv (X.tryc T (X.pn ++ pins)) [] σ H s :=
  ⟨⟨I.ok.mod, I.ok.kind, I.ok.glob, I.ok.blt, I.ok.above, I.ok.inj, I.ok.has, I.ok.cab, I.ok.hd, I.ok.frames, I.ok.stk, I.ok.exf, I.ok.bs, I.ok.bsz, I.ok.noex, I.ok.exfs, I.ok.funs, I.ok.frf⟩,
    I.os, I.bare, I.base, I.loc, I.cell, I.free, I.freeC, fun p hp => I.pin p (by simpa using hp), I.hok, I.len⟩
theorem Inv.untryc (J : Inv (X.tryc T (X.pn ++ pins)) pins' σ H s) : Inv X pins σ H s :=
  ⟨⟨J.ok.mod, J.ok.kind, J.ok.glob, J.ok.blt, J.ok.above, J.ok.inj, J.ok.has, J.ok.cab, J.ok.hd, J.ok.frames, J.ok.stk, J.ok.exf, J.ok.bs, J.ok.bsz, J.ok.noex, J.ok.exfs, J.ok.funs, J.ok.frf⟩,
    J.os, J.bare, J.base, J.loc, J.cell, J.free, J.freeC, fun p hp => J.pin p (List.mem_append_left _ hp), J.hok, J.len⟩
theorem Inv.suite (I : Inv X pins σ H s) (a : Addr) : Inv (X.suite a) pins σ H s :=
  ⟨⟨I.ok.mod, I.ok.kind, I.ok.glob, I.ok.blt, I.ok.above, I.ok.inj, I.ok.has, I.ok.cab, (fun z => nomatch z), I.ok.frames, I.ok.stk, I.ok.exf, I.ok.bs, I.ok.bsz, I.ok.noex, I.ok.exfs, I.ok.funs, I.ok.frf⟩,
    I.os, I.bare, I.base, I.loc, I.cell, I.free, I.freeC, I.pin, I.hok, I.len⟩
theorem Inv.unsuite {a : Addr} (ok : X.Ok) (J : Inv (X.suite a) pins σ H s) : Inv X pins σ H s :=
  ⟨ok, J.os, J.bare, J.base, J.loc, J.cell, J.free, J.freeC, J.pin, J.hok, J.len⟩
theorem Inv.blank (I : Inv X pins σ H s) : Inv X pins (blank X.N.length) H s := by
  refine ⟨I.ok, I.os, I.bare, I.base, ?_, I.cell, I.free, I.freeC, I.pin, I.hok, by unfold L2.blank; simp⟩
  obtain ⟨m, hn, _⟩ := I.loc
  exact ⟨m, hn, fun i x v _ e => (blank_at e).elim⟩

theorem Inv.lost {h' : Heap} {m' : Str → Option Value} {t' : Nat} (I : Inv X pins σ H s) (hn : h'.Ns X.env.locals m') (sb : Heap.SameBut X.env.locals s.heap h') : Inv X pins (L2.blank X.N.length) H { s with heap := h', toks := t' } := by
  have mv : ∀ b o, b ≠ X.env.locals → s.heap.get? b = some o → h'.get? b = some o := fun b o n e => (sb.2 b n).trans e
  refine ⟨I.ok, I.os, I.bare, ⟨fun b o q n hb hx => mv b o (I.oldNe q) (I.base.keep b o q n hb hx), fun b o q n hb hx => ?_, I.base.free, fun b o q hx => ?_, I.base.tups, I.base.frzs, I.base.tbls⟩,
    ⟨m', hn, fun i x v _ e => (blank_at e).elim⟩, fun x c e => ?_, I.free, I.freeC, fun p hp => ?_, fun a o e => ?_, by unfold L2.blank; simp⟩
  · obtain ⟨sl, e⟩ := I.base.slot b o q n hb hx
    exact ⟨sl, mv b _ (I.oldNe q) e⟩
  · obtain ⟨o', e⟩ := I.base.there b o q hx
    exact ⟨o', mv b _ (I.oldNe q) e⟩
  · obtain ⟨v, o, ho, hd⟩ := I.cell x c e
    exact ⟨v, o, mv c o (I.cne x c e) ho, hd⟩
  · obtain ⟨p1, p2, p3, p4, p5⟩ := I.pin p hp
    exact ⟨mv _ _ p3 p1, p2, p3, p4, p5⟩
  · refine (I.hok a o e).stay (fun b u hb q => mv b u (fun z => ?_) q) (fun _ q => q) fun _ _ q => q
    have fr := I.free
    rw [← z] at fr
    rcases hb with y | y
    · rw [y, e] at fr; cases fr
    · rw [y] at fr; cases fr

theorem Inv.track {a : Addr} {o : HO} (I : Inv X pins σ H s) (n0 : H a = none) (n1 : X.s₀.heap.get? a = none) (n2 : a ≠ X.env.locals) (n3 : ∀ x c, X.env.cells.lookup x = some c → c ≠ a) (n4 : ∀ p ∈ X.pn ++ pins, p.1 ≠ a)
    (ob : ObjOk X.prog X.w (upd H a o) s.heap a o) : Inv X pins σ (upd H a o) s := by
  have un : ∀ b u, H b = some u → upd H a o b = some u := fun b u e => by rw [upd_ne (ne_of_none e n0)]; exact e
  refine ⟨I.ok, I.os, I.bare, ⟨I.base.keep, I.base.slot, fun b u q n hx => ?_, I.base.there, fun b xs e => un _ _ (I.base.tups b xs e), fun b u v e => un _ _ (I.base.frzs b u v e), fun b ps e => ?_⟩, I.loc, I.cell, ?_, fun x c e => ?_, fun p hp => ?_, fun b u e => ?_, I.len⟩
  · rw [upd_ne (fun z => by rw [z, n1] at q; cases q)]
    exact I.base.free b u q n hx
  · obtain ⟨more, z⟩ := I.base.tbls b ps e
    exact ⟨more, un _ _ z⟩
  · rw [upd_ne (Ne.symm n2)]
    exact I.free
  · rw [upd_ne (n3 x c e)]
    exact I.freeC x c e
  · obtain ⟨p1, p2, p3⟩ := I.pin p hp
    exact ⟨p1, by rw [upd_ne (n4 p hp)]; exact p2, p3⟩
  · by_cases hb : b = a
    · subst hb
      rw [upd_same] at e
      cases e
      exact ob
    · rw [upd_ne hb] at e
      exact (I.hok b u e).stay (fun _ _ _ q => q) (fun c q => un _ _ q) fun c xs q => un _ _ q
end

structure CaughtCls (K : Frag) (C0 : Addr) : Prop where
  ty : typeIn K (.ref C0) = some (.type "type")
  be : subIn K (.ref C0) (.type "BaseException") = some true
  it : (clsIn K C0).isSome = true
theorem exc_match {K : Frag} {C C0 a : Addr} {M : Model} {A : Around} {E : Value → Shared → Prop} {s : Shared} {Q : Bool → Shared → Prop} (X : K.In s.heap) (O : CaughtCls K C0) (e : subIn K (.ref C) (.ref C0) = some true) (x : ExcAt C a s.heap) (q : Q true s) :
    wpAny M A (excMatches (.ref a) (.ref C0)) Q E s := by
  obtain ⟨hh, g, d, t, os⟩ := s
  have L0 := excAt_ty (M := M) x
  have L1 := looks_typeIn (M := M) X O.ty
  have L2 := looks_subIn (M := M) X O.be
  have L3 := looks_subIn (M := M) X e
  have L4 : Looks M hh (isSubtype (.type "type") (.type "tuple")) false := Looks.of_pure tc_notTuple
  have L5 : Looks M hh (isType (.ref C0)) true := by
    have z := O.it
    unfold clsIn at z
    split at z
    case h_2 => cases z
    case h_1 ho =>
      intro A Q E s k q
      unfold isType loadHead
      exact wpAny_bind (m := loadPart _ _) (wpAny_loadPart (k _ _ (X _ _ ho)) (wpAny_pure q))
  unfold excMatches
  unfold isInstance isExcClass
  repeat lk
  exact q

def eTry (K : Frag) (C0 : Addr) (i n : Nat) (th : TS) (D : Ends) : XK := fun cls _ H' => ∃ C, cls = .ref C ∧ subIn K (.ref C) (.ref C0) = some true ∧ ∀ a, H' a = none →
  th { nx := fun _ H2 => D.nx (blank n) H2, rt := D.rt, bk := fun _ H2 => D.bk (blank n) H2, ct := fun _ H2 => D.ct (blank n) H2 } ((blank n).set i (some (.ref a))) (upd H' a (excO C a))
def tTry (K : Frag) (C0 : Addr) (i n : Nat) (tb : XK → TS) (th : TS) : TS := fun D σ H => tb (eTry K C0 i n th D) D σ H
section
variable {X : Cx} {body suite : List Stmt} {x n : Str} {i : Nat} {np hpos pos : Pos} {b₀ : Stmt} {C0 : Addr} {tb : XK → TS} {th : TS}
theorem ps_try (hN : X.N.Nodup) (hi : X.N[i]? = some n) (hl : X.env.scope.names.lookup n = some .local) (hst : X.stack = X.env :: X.outer ∧ X.env.frame = some X.env.locals) (hex : X.ex = []) (O : CaughtCls X.K C0) (hg : Gl X x) (hm : X.mg x = some (.ref C0))
    (hb : ∀ (T : Value → Shared → Prop) (pn : List (Addr × Obj)) (E : XK), Passes (CX1 X.prog X.w) (X.tryc T pn) E → PSs (X.tryc T pn) body (tb E)) (hs : ∀ a : Addr, PSs (X.suite a) (b₀ :: suite) th)
    (hdb : (x == ("__debug__" : Str)) = false := by decide) :
    PS X (.Try body [.ExceptHandler (some (.Name x np)) (some n) (b₀ :: suite) hpos] [] [] pos) (tTry X.K C0 i X.N.length tb th) := by
  refine ⟨fun pins s σ H D I h => ?_⟩
  refine wpAny_Try_except ?_
  have hp : Passes (CX1 X.prog X.w) (X.tryc (fun e s₁ => wpAny (model X.prog X.w) X.A (noteFrame e X.env) (fun _ s₂ => wpAny (model X.prog X.w) X.A (setFlight e none) (fun _ s₃ => wpAny (model X.prog X.w) X.A (handleBy e X.env [.ExceptHandler (some (.Name x np)) (some n) (b₀ :: suite) hpos]) (SP X pins D) X.xe s₃) X.xe s₂) X.xe s₁) (X.pn ++ pins)) (eTry X.K C0 i X.N.length th D) := by
    intro pins' σ1 H1 s1 e s' J1 hcx
    obtain ⟨a, C, t, B, H', rfl, os, gn, fl, c1, c2, un, hok, C', ec, hsub, q⟩ := hcx
    cases ec
    have I1 := J1.untryc
    have I' := I1.call' (ch := []) os un hok gn (fun b z => absurd z (by simp))
    have fr : X.A.frames = some (X.env :: X.outer) := I.ok.frames.trans (congrArg some hst.1)
    have fl' : Heap.FlyingW B (X.env :: X.outer) a (.ref C) (.ref t) s'.heap := hst.1 ▸ fl
    refine wpAny_looks_onW fr hst.2 fl' fun h4 held up4 => ?_
    refine wpAny_landsW held fun h5 fl5 up5 => ?_
    have I5 := I1.fly I' c1 c2 fl.1 fl5.1 (up4.trans up5)
    have Y5 := I5.suite a
    have ex5 : ExcAt C a h5 := let ⟨oe, vs, e1, e2, e3, _⟩ := fl5.first; ⟨oe, vs, e1, e2, e3⟩
    refine wpAny_handleBy_cons (codeAny_handlers_test (ld_glob Y5 hg hm (exc_match Y5.kIn O hsub ex5 ?_) hdb)) (fun z => nomatch z)
    refine codeAny_handlers_suite_as (lands_againW fl5 fun h6 fl6 up6 => ?_)
    have I6 := I1.fly I' c1 c2 fl.1 fl6.1 ((up4.trans up5).trans up6)
    have ex6 : ExcAt C a h6 := let ⟨oe, vs, e1, e2, e3, _⟩ := fl6.first; ⟨oe, vs, e1, e2, e3⟩
    obtain ⟨oe, vs, e1, e2, e3⟩ := id ex6
    have nfr : a ∉ frs X.stack := fun z => by
      obtain ⟨_, o2, q1, q2⟩ := I6.stack.mem z
      rw [e1] at q1
      cases q1
      exact q2 _ e3
    have nb : ∀ o, s1.heap.get? a ≠ some o := fun o z => by
      obtain ⟨o', z'⟩ := c1 a o z nfr
      rw [fl.2.1] at z'
      cases z'
    have nH : H' a = none := by
      cases z : H' a with
      | none => rfl
      | some u =>
        obtain ⟨o', z'⟩ := c2 a u z
        rw [fl.2.1] at z'
        cases z'
    have nL : a ≠ X.env.locals := fun z => by
      obtain ⟨m, ⟨o, es, ep, ho, hd, _⟩, _⟩ := I6.loc
      rw [← z, e1] at ho
      cases ho
      rw [e3] at hd
      cases hd
    have I7 : Inv X pins (blank X.N.length) (upd H' a (excO C a)) { s' with heap := h6 } := I6.blank.track nH
      (by
        cases z : X.s₀.heap.get? a with
        | none => rfl
        | some o =>
          obtain ⟨o1, q1⟩ := I1.base.there a o z (by rw [hex]; simp)
          exact (nb _ q1).elim)
      nL
      (fun y c ec z => by
        obtain ⟨v, o, ho, hd⟩ := I6.cell y c ec
        rw [z, e1] at ho
        cases ho
        rw [e3] at hd
        cases hd)
      (fun p hp z => by
        have := (I1.pin p hp).1
        rw [z] at this
        exact (nb _ this).elim)
      (excO_ok ex6)
    refine store_ok2 I7 hN hi (.inl hl) (v := .ref a) rfl (fun s8 I8 _ => ?_) (.inr hl)
    refine wpAny_mono ((hs a).run pins s8 _ _ _ (I8.suite a) (q a nH)) (fun f s9 r => ?_) (fun _ _ z => z.elim)
    have fin : ∀ {σ9 : St} {H9 : Hp}, Inv (X.suite a) pins σ9 H9 s9 → (∀ s10, Inv X pins (blank X.N.length) H9 s10 → SP X pins D f s10) → wpAny (model X.prog X.w) X.A (do bindName X.env n .none; unbindBehindTheSuite X.env n hpos) (fun _ s₅ => SP X pins D f s₅) X.xe s9 := fun {σ9 H9} Y9 k => by
      have I9 := Y9.unsuite I.ok
      obtain ⟨m, hn, _⟩ := id I9.loc
      exact wpAny_nameGoes hl hn (by rw [I.ok.kind]; rfl) fun h' m' hn' sb => k _ (I9.lost hn' sb)
    cases f with
    | next => obtain ⟨σ9, H9, Y9, z⟩ := r; exact fin Y9 fun s10 J => ⟨_, H9, J, z⟩
    | brk => obtain ⟨σ9, H9, Y9, z⟩ := r; exact fin Y9 fun s10 J => ⟨_, H9, J, z⟩
    | cont => obtain ⟨σ9, H9, Y9, z⟩ := r; exact fin Y9 fun s10 J => ⟨_, H9, J, z⟩
    | ret u => obtain ⟨v, σ9, H9, Y9, rv, z⟩ := r; exact fin Y9 fun s10 J => ⟨v, _, H9, J, rv, z⟩
  have hb' := hb _ (X.pn ++ pins) _ hp
  refine wpAny_mono (hb'.run [] s σ H D (I.tryc _) h) (fun f s1 q => ?_) (fun e s1 q => q)
  have q2 : SP X pins D f s1 := by
    cases f with
    | next => obtain ⟨σ', H', J, z⟩ := q; exact ⟨σ', H', J.untryc, z⟩
    | brk => obtain ⟨σ', H', J, z⟩ := q; exact ⟨σ', H', J.untryc, z⟩
    | cont => obtain ⟨σ', H', J, z⟩ := q; exact ⟨σ', H', J.untryc, z⟩
    | ret u => obtain ⟨v, σ', H', J, r, z⟩ := q; exact ⟨v, σ', H', J.untryc, r, z⟩
  cases f with
  | next => exact wpAny_pure q2
  | _ => exact q2
end
end L2

set_option Elab.async false
set_option maxRecDepth 100000
set_option maxHeartbeats 4000000
namespace L2
open PySem PySem.Spec PyProof.Rows PySem.W

theorem Fun.ok1 {P : Program} {w : World} {K : PySem.W.Frag} {mg : Str → Option Value} {base : Heap} {x qual : Str} {st : Stmt} {f : Addr} {fd : FuncData} {N ps : List Str} {k : Nat} {sp : Sp} (F : Fun K x qual st f fd) (S : FnScope N ps (defScope st)) (len : ∀ vs H Q E, sp vs H Q E → vs.length = ps.length)
    (hbody : ∀ (A : Around) (outer : List Env) (s : Shared) (H : Hp) (vs : List V) (Q : VK) (E : XK), Room k (A.deeper (envOfC qual (defScope st) s.heap.objs.size f fd.code)) → sp vs H Q E →
      ∃ t, PSs (cxOf (CX1 P w) P w K mg base N qual (defScope st) f fd.code A outer s H E) (defBody st) t ∧ t { nx := fun _ H' => Q .non H', rt := Q } (start N vs) H) : FnOk P w K mg base (CX1 P w) (k + 1) f fd ps sp := by
  obtain ⟨oc, od, kV, doc, pm, an, cdv, ct, osl, rfl, lk, hcd⟩ := F.ex
  exact fn_of lk hcd S len fun A outer s H vs Q E hr hsp => hbody A outer s H vs Q E hr hsp
def bmV : List Value := [.type "ValueError", .type "Exception", .type "BaseException", .type "object"]

def errB (K : Frag) (C0 C : Addr) : Bool := excIn K C bmV "ValueError.__new__" && (clsIn K C).isSome && findIn K (.ref C) "__getattribute__" == some (some (.builtin "BaseException.__getattribute__")) && findIn K (.ref C) "__getattr__" == some none &&
  findIn K (.ref C) "__class__" == some (some (.builtin "object.__class__")) && mroIn K C (.type "object") == some true && mroIn K C (.type "BaseException") == some true && subIn K (.ref C) (.ref C0) == some true && kitOne K (.ref C) (.type "ValueError") == some true

def errsB (K : Frag) (C0 : Addr) (cs : List Addr) : Bool := cs.all (errB K C0) && (cs.all fun C => cs.all fun D => kitOne K (.ref C) (.ref D) == some (decide (C = D))) && specialIn K (.builtin "object.__class__") "__get__" == some (some (.builtin "getset_descriptor.__get__")) && takesIn K (.builtin "object.__class__") == some true &&
  typeIn K (.ref C0) == some (.type "type") && subIn K (.ref C0) (.type "BaseException") == some true && (clsIn K C0).isSome
structure Errs (K : Frag) (C0 : Addr) (cs : List Addr) : Prop where
  ex : ∀ C ∈ cs, excIn K C bmV "ValueError.__new__" = true
  cl : ∀ C ∈ cs, ExcCls K C
  sub : ∀ C ∈ cs, subIn K (.ref C) (.ref C0) = some true
  one : ∀ C ∈ cs, ∀ D ∈ cs, kitOne K (.ref C) (.ref D) = some (decide (C = D))
  val : ∀ C ∈ cs, kitOne K (.ref C) (.type "ValueError") = some true
  top : CaughtCls K C0
theorem errs_of {K : Frag} {C0 : Addr} {cs : List Addr} (h : errsB K C0 cs = true) : Errs K C0 cs := by
  unfold errsB at h
  simp only [Bool.and_eq_true] at h
  obtain ⟨⟨⟨⟨⟨⟨h1, h2⟩, h3⟩, h4⟩, h5⟩, h6⟩, h7⟩ := h
  have all : ∀ C ∈ cs, errB K C0 C = true := List.all_eq_true.mp h1
  have part : ∀ C ∈ cs, _ := fun C hC => by
    have z := all C hC
    unfold errB at z
    simp only [Bool.and_eq_true] at z
    exact z
  refine ⟨fun C hC => (part C hC).1.1.1.1.1.1.1.1, fun C hC => ?_, fun C hC => beq_iff_eq.mp (part C hC).1.2, fun C hC D hD => beq_iff_eq.mp (List.all_eq_true.mp (List.all_eq_true.mp h2 C hC) D hD), fun C hC => beq_iff_eq.mp (part C hC).2, ⟨beq_iff_eq.mp h5, beq_iff_eq.mp h6, h7⟩⟩
  obtain ⟨⟨⟨⟨⟨⟨⟨⟨_, p1⟩, p2⟩, p3⟩, p4⟩, p5⟩, p6⟩, _⟩, _⟩ := part C hC
  exact ⟨p1, beq_iff_eq.mp p2, beq_iff_eq.mp p3, beq_iff_eq.mp p4, beq_iff_eq.mp h3, beq_iff_eq.mp h4, beq_iff_eq.mp p5, beq_iff_eq.mp p6⟩
theorem Errs.any {K : Frag} {C0 : Addr} {cs : List Addr} (E : Errs K C0 cs) {C : Addr} (hC : C ∈ cs) : ∀ {Ds : List Addr}, (∀ D ∈ Ds, D ∈ cs) → kitAny K (.ref C) (Ds.map Value.ref) = some (decide (C ∈ Ds))
  | [], _ => by simp [kitAny]
  | D :: Ds, h => by
    rw [List.map_cons]
    unfold kitAny
    rw [E.one C hC D (h D List.mem_cons_self)]
    by_cases e : C = D
    · subst e
      simp
    · have ih := E.any hC (Ds := Ds) fun D' hD => h D' (List.mem_cons_of_mem _ hD)
      simp only [e, decide_false, ih, List.mem_cons, false_or]
section
open PySem.Builtin.Str
end
end L2

set_option Elab.async false
set_option maxRecDepth 100000
set_option maxHeartbeats 4000000
namespace L2
open PySem PySem.Spec PyProof.Rows Builtin.SmallTypes

def SqIt (k : Bool) (h : Heap) (it a : Addr) (i : Nat) : Prop := if k = true then h.IsListIter it a i else h.IsTupleIter it a i
def SqIs (k : Bool) (h : Heap) (a : Addr) (items : Array Value) : Prop := if k = true then h.IsList a items else h.IsTuple a items
theorem SqIt.at {k : Bool} {h h' : Heap} {it a : Addr} {i : Nat} (x : SqIt k h it a i) (q : ∀ o, h.get? it = some o → h'.get? it = some o) : SqIt k h' it a i := by
  cases k with
  | true => exact Heap.IsListIter.at (h := h) x q
  | false => exact Heap.IsTupleIter.at (h := h) x q
theorem SqIt.obj {k : Bool} {h : Heap} {it a : Addr} {i : Nat} (x : SqIt k h it a i) : ∃ o, h.get? it = some o ∧ ∃ vs, o.data = .fields vs := by
  cases k with
  | true => obtain ⟨o, e, _, d⟩ := (show h.IsListIter it a i from x); exact ⟨o, e, _, d⟩
  | false => obtain ⟨o, e, _, d⟩ := (show h.IsTupleIter it a i from x); exact ⟨o, e, _, d⟩
theorem SqIs.obj {k : Bool} {h : Heap} {a : Addr} {items : Array Value} (x : SqIs k h a items) : ∃ o n, h.get? a = some o ∧ o.data = .seq items n := by
  cases k with
  | true => obtain ⟨o, e, _, n, d⟩ := (show h.IsList a items from x); exact ⟨o, n, e, d⟩
  | false => obtain ⟨o, e, _, n, d⟩ := (show h.IsTuple a items from x); exact ⟨o, n, e, d⟩
theorem SqIs.at {k : Bool} {h h' : Heap} {a : Addr} {items : Array Value} (x : SqIs k h a items) (q : ∀ o, h.get? a = some o → h'.get? a = some o) : SqIs k h' a items := by
  cases k with
  | true => exact Heap.IsList.at (h := h) x q
  | false => exact Heap.IsTuple.at (h := h) x q
section
variable {prog : Program} {w : World} {A : Around} {E : Value → Shared → Prop} {s : Shared} {it a : Addr} {i : Nat} {items : Array Value} {x : Value} {k : Bool}
end
end L2

set_option Elab.async false
set_option maxRecDepth 100000
set_option maxHeartbeats 4000000
namespace L2
open PySem PySem.Spec PyProof.Rows Builtin.SmallTypes
section
variable {prog : Program} {w : World} {A : Around} {E : Value → Shared → Prop} {s : Shared} {e it a : Addr} {i : Nat} {items : Array Value} {x old : Value} {k : Bool}
end
end L2

set_option Elab.async false
set_option maxRecDepth 100000
set_option maxHeartbeats 4000000
namespace L2
open PySem PySem.Spec PyProof.Rows Builtin.SmallTypes AutoSeq1
section
variable {X : Cx} {pins : List (Addr × Obj)} {σ : St} {H : Hp} {s : Shared} {h' : Heap}

end

def Sq (k : Bool) (K : PySem.W.Frag) (H : Hp) (a : Addr) (xs : List V) : Prop := if k = true then SqL K H a xs else SqT K H a xs
theorem Inv.sq {X : Cx} {pins : List (Addr × Obj)} {σ : St} {H : Hp} {s : Shared} {k : Bool} {a : Addr} {xs : List V} (I : Inv X pins σ H s) (h : Sq k X.K H a xs) : ∃ its : List Value, Vals xs its ∧ SqIs k s.heap a its.toArray := by
  cases k with
  | true => obtain ⟨its, rv, p, _⟩ := I.list (show SqL X.K H a xs from h); exact ⟨its, rv, p.isList⟩
  | false => obtain ⟨its, rv, p, _⟩ := I.tuple (show SqT X.K H a xs from h); exact ⟨its, rv, p⟩
end L2

set_option Elab.async false
set_option maxRecDepth 100000
set_option maxHeartbeats 4000000
namespace L2
open PySem PySem.Spec PyProof.Rows Builtin.SmallTypes AutoSeq1
section
variable {prog : Program} {w : World} {A : Around} {E : Value → Shared → Prop} {s : Shared}
end
section
variable {X : Cx} {l : Expr} {tl : TE} {elts : List Expr} {x1 : Nat} {tp p pos : Pos}
end

end L2

set_option Elab.async false
set_option maxRecDepth 100000
set_option maxHeartbeats 4000000
namespace L2
open PySem PySem.Spec PyProof.Rows Builtin.SmallTypes AutoSeq1
section
variable {prog : Program} {w : World} {A : Around} {E : Value → Shared → Prop} {s : Shared} {z TI TO i1 i2 l1 l2 : Addr} {n1 n2 : Nat} {xs ys : Array Value} {x y a b : Value} {k1 k2 : Bool}
end

theorem Sq.ne {X : Cx} {pins : List (Addr × Obj)} {σ : St} {H : Hp} {s : Shared} {k : Bool} {a b : Addr} {xs : List V} (I : Inv X pins σ H s) (h : Sq k X.K H a xs) (hb : FpOk X pins H b) (hd : ∀ o, s.heap.get? b = some o → ∀ xs n, o.data ≠ .seq xs n) : a ≠ b := fun e => by
  obtain ⟨its, _, sq⟩ := I.sq h
  obtain ⟨o, n, ho, hs⟩ := sq.obj
  exact hd o (e ▸ ho) _ _ hs
section
variable {prog : Program} {w : World} {A : Around} {E : Value → Shared → Prop} {s : Shared} {k1 k2 : Bool} {a1 a2 : Addr} {xs ys : Array Value}
end
section
variable {X : Cx} {l1 l2 : Expr} {t1 t2 : TE} {elts : List Expr} {x1 : Nat} {tp p pos : Pos}
end
end L2

set_option Elab.async false
set_option maxRecDepth 100000
set_option maxHeartbeats 4000000
namespace L2
open PySem PySem.Spec PyProof.Rows AutoSeq1

theorem tup_add0 (l b : Addr) (items items2 : Array Value) (n n2 : Nat) (dd dd2 : Option Addr) (sl sl2 : Array (Option Value)) (h0 : items.isEmpty = true) :
    Meets (Builtin.«tuple.__add__» ⟨[.ref l, .ref b], []⟩) (fun _ R s => s.heap.get? l = some { cls := .type "tuple", dict := dd, data := .seq items n, slots := sl } ∧ s.heap.get? b = some { cls := .type "tuple", dict := dd2, data := .seq items2 n2, slots := sl2 } ∧ R (.ok (.ret (.ref b))) s) :=
  .of_wp fun prog w A R s h => by
    obtain ⟨hp, g, d, tk, os⟩ := s
    obtain ⟨hl, hb, h⟩ := h
    have f2 := AutoSeq1.sub_tuple_tuple
    wp_walk using wpAny_loadPart' hl, wpAny_loadPart' hb
    exact ⟨_, rfl, h⟩
section
variable {X : Cx}
def rCatA (K : PySem.W.Frag) : R2 := fun x y H Q => ∃ a b xs ys, x = .ref a ∧ y = .ref b ∧ SqT K H a xs ∧ SqT K H b ys ∧ xs.length + ys.length ≤ sizeLine ∧ (xs = [] → Q (.ref b) H) ∧ (xs ≠ [] → ys = [] → Q (.ref a) H) ∧ (xs ≠ [] → ys ≠ [] → ∀ p, H p = none → Q (.ref p) (upd H p (.tup (xs ++ ys))))
theorem op_catA {K : PySem.W.Frag} (hK : X.K = K) : OpR X (binaryOp .Add) (rCatA K) := by
  subst hK
  intro pins s σ H x y v u Q I rx ry h
  obtain ⟨a, b, xs, ys, rfl, rfl, ha, hb, hz, q0, q1, q2⟩ := h
  by_cases hx : xs = []
  · cases rx
    cases ry
    obtain ⟨its, r1, p1, _⟩ := I.tuple ha
    obtain ⟨its2, r2, p2, _⟩ := I.tuple hb
    obtain ⟨⟨cls, dd, data, sl⟩, ho, hc, n, hd⟩ := id p1
    obtain ⟨⟨cls2, dd2, data2, sl2⟩, ho2, hc2, n2, hd2⟩ := id p2
    dsimp only at hc hd hc2 hd2
    subst hc hd hc2 hd2
    exact concat_meets ⟨_, ho, rfl⟩ ⟨_, ho2, rfl⟩ noFill_tuple_add seq_tuple_add PySem.F.slot_tuple_add PySem.F.entry_tuple_add (PySem.F.args_tuple_add_2 _ _) (tup_add0 a b its.toArray its2.toArray n n2 dd dd2 sl sl2 (by simp [r1.nil_iff.mpr hx])) ⟨ho, ho2, ⟨.ref b, H, I, rfl, q0 hx⟩⟩
  · exact op_catT pins s σ H _ _ v u Q I rx ry ⟨a, b, xs, ys, rfl, rfl, ha, hb, hx, hz, q1 hx, q2 hx⟩

theorem catA_of {K : PySem.W.Frag} {H : Hp} {a b : Addr} {xs ys : List V} {Q : VK} (ha : H a = some (.tup xs)) (hb : H b = some (.tup ys)) (hz : xs.length + ys.length ≤ 1000) (q : ∀ t H', Keep H H' → H' t = some (.tup (xs ++ ys)) → Q (.ref t) H') : rCatA K (.ref a) (.ref b) H Q := by
  refine ⟨a, b, xs, ys, rfl, rfl, SqT.of ha, SqT.of hb, Nat.le_trans hz (by decide), fun e => q b H (.refl _) (by rw [e]; exact hb), fun _ e => q a H (.refl _) (by rw [e, List.append_nil]; exact ha), fun _ _ p hp => q p _ (.new hp _) upd_same⟩
theorem slice_whole {prog : Program} {w : World} {A : Around} {E : Value → Shared → Prop} {s : Shared} {t sl : Addr} {items : Array Value} {vl vu : Value} {lo hi : Option Int} {Q : Value → Shared → Prop} (ht : IsTup s.heap t items) (hs : s.heap.IsSliceOf sl vl vu .none) (pl : IsPart vl lo) (pu : IsPart vu hi)
    (hw : HT.sIx items.size 0 lo = 0 ∧ HT.sIx items.size items.size hi = items.size) (h : Q (.ref t) s) : wpAny (model prog w) A (getItem (.ref t) (.ref sl)) Q E s := by
  obtain ⟨os, hos, hcs, hds⟩ := id hs
  have hTs : s.TypeIs (.ref sl) "slice" := ⟨os, hos, hcs⟩
  have hTt : s.TypeIs (.ref t) "tuple" := ht.typeIs
  unfold getItem
  refine wpAny_holding ?_
  first | refine wpAny_bind (wpAny_pure ?_) | skip
  refine wpAny_bind (wpAny_sequenceKey ht.typeIs (by decide) ?_)
  have sg := PyProof.Rows.slot_tuple_getitem
  refine wpAny_bind (wpAny_callSpecial?_slot (name := Str.ofString "__getitem__") ht.typeIs sg (wpAny_call_entry sg ht.typeIs entry_tuple_getitem ?_ (args_tuple_getitem _ _)))
  refine wpAny_bind (m := Builtin.Tuple.tupleItemsOf (.ref t)) (tupleItemsOf_ ht (wpAny_bind (wpAny_typeOf hTs ?_)))
  rw [if_pos (by decide)]
  refine wpAny_bind (HT.sliceApplied_gen hs pl pu ?_)
  rw [hw.1, hw.2]
  show wpAny _ _ (if (((0 : Nat) : Int) == 0 && (1 : Int) == 1 && (items.size - 0) == items.size) = true then _ else _) _ _ s
  rw [if_pos (by simp)]
  refine wpAny_bind (m := Builtin.Tuple.tupleIsExact (.ref t)) ?_
  unfold Builtin.Tuple.tupleIsExact
  refine wpAny_bind (wpAny_typeOf hTt (wpAny_pure ?_))
  rw [if_pos (by decide)]
  exact wpAny_bind (wpAny_rule (wpAny_pure ⟨_, rfl, wpAny_pure h⟩))
def rSlA (K : PySem.W.Frag) : V → Option Int → Option Int → Hp → VK → Prop := fun x lo hi H Q => ∃ a xs, x = .ref a ∧ SqT K H a xs ∧
  ((HT.sIx xs.length 0 lo = 0 ∧ HT.sIx xs.length xs.length hi = xs.length) → Q (.ref a) H) ∧ (¬ (HT.sIx xs.length 0 lo = 0 ∧ HT.sIx xs.length xs.length hi = xs.length) → ∀ p, H p = none → Q (.ref p) (upd H p (.tup (cutV xs lo hi))))
theorem sl_tupA {K : PySem.W.Frag} (hK : X.K = K) : SlR X (rSlA K) := by
  subst hK
  intro pins s σ H x v vl vu lo hi sl Q I rx hs pl pu h
  obtain ⟨a, xs, rfl, hx, q1, q2⟩ := h
  by_cases hw : HT.sIx xs.length 0 lo = 0 ∧ HT.sIx xs.length xs.length hi = xs.length
  · cases rx
    obtain ⟨its, r, ht, hz⟩ := I.tuple hx
    have hlen : its.toArray.size = xs.length := by rw [List.size_toArray]; exact r.length.symm
    exact ⟨"tuple", _, PyProof.Rows.slot_tuple_getitem.lookup, ht.typeIs, slice_whole ht hs pl pu (by rw [hlen]; exact hw) ⟨.ref a, H, I, rfl, q1 hw⟩⟩
  · exact sl_tup pins s σ H _ v vl vu lo hi sl Q I rx hs pl pu ⟨a, xs, rfl, hx, hw, q2 hw⟩
theorem cutV_whole {xs : List V} {lo hi : Option Int} (h : HT.sIx xs.length 0 lo = 0 ∧ HT.sIx xs.length xs.length hi = xs.length) : cutV xs lo hi = xs := by
  unfold cutV
  rw [h.1, h.2, List.drop_zero, Nat.sub_zero, List.take_length]

theorem slA_of {K : PySem.W.Frag} {H : Hp} {a : Addr} {xs : List V} {lo hi : Option Int} {Q : VK} (ha : H a = some (.tup xs)) (q : ∀ t H', Keep H H' → H' t = some (.tup (cutV xs lo hi)) → Q (.ref t) H') : rSlA K (.ref a) lo hi H Q :=
  ⟨a, xs, rfl, SqT.of ha, fun h => q a H (.refl _) (by rw [cutV_whole h]; exact ha), fun _ p hp => q p _ (.new hp _) upd_same⟩
end
end L2

set_option Elab.async false
set_option maxRecDepth 100000
set_option maxHeartbeats 4000000
namespace L2
open PySem PySem.Spec PyProof.Rows
section
variable {X : Cx} {st : Stmt} {ι : Type} {Pre : ι → St → Hp → Prop} {D : ι → Ends}

theorem HsI.loopX {γ : Type} {bd : List Stmt} {wi : TI} {g : TG} {Mid : ι → St → Hp → Prop} (xs : γ → List V) (Pv : ι → γ → Nat → St → Hp → Prop) (PB : LpI (ι × γ) → St → Hp → Prop)
    (mk : ∀ tb, PSs X bd tb → PS X st (tFor wi g tb))
    (start : ∀ i σ H, Pre i σ H → ∀ R : It → Hp → Prop, (∀ c J H1, Pv i c 0 σ H1 → (∀ k σ' H', k ≤ (xs c).length → Pv i c k σ' H' → Runs J (xs c) H') → R J H1) → wi σ H R)
    (bind : ∀ i c k x σ H M, (xs c)[k]? = some x → Pv i c k σ H → (∀ σ' H', Mid i σ' H' → M σ' H') → ∀ N : St → Hp → Prop, (∀ σ2 H2, PB ((i, c), k, x, M) σ2 H2 → N σ2 H2) → g x σ H N)
    (body : HoI X bd PB fun j => { D j.1.1 with nx := Pv j.1.1 j.1.2 (j.2.1 + 1), ct := Pv j.1.1 j.1.2 (j.2.1 + 1), bk := j.2.2.2 })
    (fin : ∀ i c σ H, Pv i c (xs c).length σ H → Mid i σ H) : HsI X st Pre Mid D := by
  obtain ⟨u, hu, r⟩ := body
  refine ⟨_, mk u hu, fun i N σ H p hN => ?_⟩
  refine start i σ H p _ fun c J H1 p1 hJ => ?_
  refine for_of (xs := xs c) (Pv i c) p1 hJ (fun k x σ2 H2 hx p2 => ?_) (fun σ2 H2 p2 => hN _ _ (fin i c σ2 H2 p2))
  exact bind i c k x σ2 H2 N hx p2 hN _ fun σ3 H3 p3 => r ((i, c), k, x, N) σ3 H3 p3
end
end L2

set_option Elab.async false
set_option maxRecDepth 100000
set_option maxHeartbeats 4000000
namespace My
open PySem L2 PyProof.Rows
def top (i : Nat) : Stmt := PySem.Challenge.pw_roadcall_k01_nets_of_any_thing.main.body.getD i (.Pass ⟨0, 0, 0, 0⟩)
abbrev s_is_whole : Stmt := top 8
abbrev s_is_whole_below : Stmt := top 9
abbrev s_is_row : Stmt := top 13
abbrev s_is_net : Stmt := top 14
abbrev s_need_net : Stmt := top 15
abbrev s_signs_of : Stmt := top 16
abbrev s__law_bag : Stmt := top 18
abbrev s__law_take : Stmt := top 19
abbrev s__law_order : Stmt := top 20
abbrev s__law_net : Stmt := top 21
abbrev s__law_is_whole : Stmt := top 22
abbrev s__law_is_net : Stmt := top 23
abbrev s__law_odd : Stmt := top 24
abbrev s__law_none : Stmt := top 25
abbrev s__law_changed : Stmt := top 26
abbrev s__law_signs : Stmt := top 27
abbrev s_law : Stmt := top 28
end My

set_option Elab.async false
set_option maxRecDepth 100000
set_option maxHeartbeats 4000000
namespace My
open PySem L2 PyProof.Rows

section
variable {P : Program} {w : World} {K : PySem.W.Frag} {mg : Str → Option Value} {base : Heap} {tb : List Addr}
theorem sc_is_whole : FnScope ["thing"] ["thing"] (defScope s_is_whole) := ⟨rfl, rfl, rfl, by decide +kernel, rfl, by decide +kernel, by decide +kernel⟩
theorem sc_is_whole_below : FnScope ["thing", "many"] ["thing", "many"] (defScope s_is_whole_below) := ⟨rfl, rfl, rfl, by decide +kernel, rfl, by decide +kernel, by decide +kernel⟩
theorem sc_is_row : FnScope ["thing", "many", "width"] ["thing", "many", "width"] (defScope s_is_row) := ⟨rfl, rfl, rfl, by decide +kernel, rfl, by decide +kernel, by decide +kernel⟩
theorem sc_is_net : FnScope ["thing", "many", "width"] ["thing"] (defScope s_is_net) := ⟨rfl, rfl, rfl, by decide +kernel, rfl, by decide +kernel, by decide +kernel⟩
theorem sc_need_net : FnScope ["thing"] ["thing"] (defScope s_need_net) := ⟨rfl, rfl, rfl, by decide +kernel, rfl, by decide +kernel, by decide +kernel⟩
def spIsWhole : Sp := fun vs H Q _ => ∃ x, vs = [x] ∧ Kd H x ∧ Q (.bl (isI x)) H
theorem ok_is_whole {f : Addr} {fd : FuncData} (D : Df K mg "is_whole" s_is_whole ["thing"] f fd) (bl : Bl mg) : FnOk P w K mg base CX0 1 f fd ["thing"] spIsWhole := by
  refine D.fn.ok sc_is_whole (fun vs H Q E h => ?_) (fun cdv A outer s H vs Q E hr h => ?_)
  · obtain ⟨x, rfl, _⟩ := h
    rfl
  · obtain ⟨x, rfl, kd, q⟩ := h
    refine ⟨_, (pss_one (ps_ret (pe_and (pe_callB (call_isinstK (K := K) rfl) rfl bl.isinstance_ bt_isinstance (pa_cons (pv 0) (pa_cons (pe_bltn (v := .ty "int") rfl bl.int_ bt_int rfl) pa_nil))) (pe_one (pe_not (pe_callB (call_isinstK (K := K) rfl) rfl bl.isinstance_ bt_isinstance (pa_cons (pv 0) (pa_cons (pe_bltn (v := .ty "bool") rfl bl.bool_ bt_bool rfl) pa_nil)))))))), ?_⟩
    obtain ⟨t, ty, e⟩ := kd_int (K := K) kd
    obtain ⟨t2, ty2, e2⟩ := kd_bool (K := K) kd
    refine ⟨_, rfl, x, "int", t, _, rfl, ty, e, _, rfl, ?_⟩
    have z : ∀ b : Bool, b = isI x → Q (.bl b) H := fun b e => by rw [e]; exact q
    refine ite2 (fun c => ?_) (fun c => ?_)
    · refine ⟨_, rfl, x, "bool", t2, _, rfl, ty2, e2, _, rfl, z _ ?_⟩
      cases x <;> first | rfl | (exfalso; exact absurd c (by simp [isI, isB]))
    · refine z _ ?_
      cases x <;> first | rfl | (exfalso; exact c (by simp [isI, isB]))
def spBelow : Sp := fun vs H Q _ => ∃ x m, vs = [x, .int m] ∧ Kd H x ∧ Q (.bl (below m x)) H
theorem ok_is_whole_below {f f1 : Addr} {fd fd1 : FuncData} (D : Df K mg "is_whole_below" s_is_whole_below ["thing", "many"] f fd) (D_is_whole : Df K mg "is_whole" s_is_whole ["thing"] f1 fd1) (bl : Bl mg) : FnOk P w K mg base CX0 2 f fd ["thing", "many"] spBelow := by
  have G_is_whole : FnOk P w K mg base CX0 1 f1 fd1 ["thing"] spIsWhole := ok_is_whole D_is_whole bl
  refine D.fn.ok sc_is_whole_below (fun vs H Q E h => ?_) (fun cdv A outer s H vs Q E hr h => ?_)
  · obtain ⟨x, m, rfl, _⟩ := h
    rfl
  · obtain ⟨x, m, rfl, kd, q⟩ := h
    refine ⟨_, (pss_one (ps_ret (pe_and (pe_call G_is_whole (hr.mono (by decide)) rfl D_is_whole.mg D_is_whole.fn.kp D_is_whole.bd .nil pass0 (pa_cons (pv 0) pa_nil)) (pe_one (pe_chain op_le op_lt pe_int (pv 0) (pv 1)))))), ?_⟩
    refine ⟨_, rfl, x, rfl, kd, _, rfl, ?_⟩
    have z : ∀ b : Bool, b = below m x → Q (.bl b) H := fun b e => by rw [e]; exact q
    cases x with
    | int i =>
      refine iteT ?_
      refine ⟨_, rfl, _, _, rfl, rfl, _, rfl, ?_⟩
      refine ite2 (fun c => ?_) (fun c => ?_)
      · refine ⟨_, rfl, _, _, rfl, rfl, z _ ?_⟩
        simp only [below, c, Bool.true_and]
      · refine z _ ?_
        simp only [below]
        rw [Bool.eq_false_iff.mpr c]
        rfl
    | _ => exact iteF (z _ rfl)
end
end My

set_option Elab.async false
set_option maxRecDepth 100000
set_option maxHeartbeats 4000000
namespace My
open PySem L2 PyProof.Rows
section
variable {P : Program} {w : World} {K : PySem.W.Frag} {mg : Str → Option Value} {base : Heap} {tb : List Addr}
def spRow (tb : List Addr) : Sp := fun vs H Q _ => ∃ x m, ∃ n : Nat, vs = [x, .int m, .int n] ∧ TbAll tb H ∧ Th H 1 x ∧ ∀ H', Keep H H' → Q (.bl (rowB H m n x)) H'
theorem ok_is_row {f f1 f2 c p : Addr} {fd fd1 fd2 : FuncData} (D : Df K mg "is_row" s_is_row ["thing", "many", "width"] f fd) (C_is_row : DfC base fd c p) (hp : p ∈ tb) (hbm : ∃ bm ob, BMod base mainGlobals mg bm ob)
    (D_is_whole_below : Df K mg "is_whole_below" s_is_whole_below ["thing", "many"] f1 fd1) (D_is_whole : Df K mg "is_whole" s_is_whole ["thing"] f2 fd2) (bl : Bl mg) : FnOk P w K mg base CX0 4 f fd ["thing", "many", "width"] (spRow tb) := by
  have G_is_whole_below : FnOk P w K mg base CX0 2 f1 fd1 ["thing", "many"] spBelow := ok_is_whole_below D_is_whole_below D_is_whole bl
  refine D.fn.okc sc_is_row (fun vs H Q E h => ?_) (fun A outer s H vs Q E hr h => ?_)
  · obtain ⟨x, m, n, rfl, _⟩ := h
    rfl
  · obtain ⟨x, m, n, rfl, htb, th, q⟩ := h
    refine ⟨_, (pss_cons (ps_if (PW.pt (pw_or (pt_not (pt_val (pe_callB (call_isinstK (K := K) rfl) rfl bl.isinstance_ bt_isinstance (pa_cons (pv 0) (pa_cons (pe_bltn (v := .ty "tuple") rfl bl.tuple_ bt_tuple rfl) pa_nil))))) (pw_or1 (pt_cmpR op_ne (pe_callB (call_len_seqK (K := K) rfl) rfl bl.len_ PySem.boot_len (pa_cons (pv 0) pa_nil)) (pv 2) (nomark _)))))
      (pss_one (ps_ret pe_bl))
      pss_nil)
    (pss_one (ps_ret (pe_all (k := 2) (N' := ["goal", "many"]) (tn := 1) (idx := [1]) (hr.mono (by decide)) rfl (show BlockOk ["thing", "many", "width"] (defScope s_is_row) _ ["goal", "many"] 1 [1] from by decide +kernel) rfl rfl C_is_row.code C_is_row.hd hbm rfl bl.all_ (pi_tupK (K := K) rfl (pv 0)) (fun _ _ _ _ _ _ _ hr => (pg_name (i := 0) (show List.Nodup [("goal" : Str), ("many" : Str)] from by decide +kernel) rfl (Or.inl rfl))) (fun _ _ _ _ _ _ _ hr => pif_nil) (fun _ _ _ _ _ _ _ hr => (pe_call G_is_whole_below (hr.mono (by decide)) rfl D_is_whole_below.mg D_is_whole_below.fn.kp D_is_whole_below.bd .nil pass0 (pa_cons (pv 0) (pa_cons (pv 1) pa_nil)))))))), ?_⟩
    obtain ⟨t, ty, e⟩ := kd_tup (K := K) th.1
    refine ⟨_, rfl, x, "tuple", t, _, rfl, ty, e, _, rfl, ?_⟩
    have z : ∀ b : Bool, b = rowB H m n x → ∀ H', Keep H H' → Q (.bl b) H' := fun b e H' k => by rw [e]; exact q H' k
    have kd := th.1
    cases kd with
    | @tup a ys ea =>
      have hT : isT H (.ref a) = true := by simp only [isT, ea]
      rw [hT]
      refine iteF ?_
      refine ⟨_, rfl, a, ys, rfl, .inr (SqT.of ea), _, rfl, rfl, _, rfl, ?_⟩
      have eR : rowB H m n (.ref a) = (decide (ys.length = n) && ys.all (below m)) := by simp only [rowB, ea]
      refine ite2 (fun cc => ?_) (fun cc => ?_)
      · refine z _ ?_ H (.refl _)
        have : ¬ ys.length = n := fun e' => by rw [e'] at cc; simp at cc
        rw [eR, decide_eq_false this]
        rfl
      · have hl : ys.length = n := by
          by_cases h' : ys.length = n
          · exact h'
          · exfalso
            refine cc ?_
            have : ¬ V.int ((ys.length : Nat) : Int) = V.int (n : Int) := fun e' => h' (by injection e' with e'; omega)
            rw [decide_eq_false this]
            rfl
        refine ⟨_, rfl, a, rfl, ⟨ys, SqT.of ea⟩, htb p hp, fun ps tr => ?_⟩
        have k0 : Keep H (upd H p (.tbl ps)) := .tbl (htb p hp) tr
        refine tgen_of (τ0 := [none, some (.int m)]) (below m) (fun H1 k1 => runs_tup (SqT.of ((k0.trans k1).tup ea))) (fun i y hy H1 k1 R hR => ?_) (fun H1 k1 => ?_)
        · exact ⟨_, rfl, _, rfl, y, m, rfl, (th.2 a ys rfl ea y (List.mem_of_getElem? hy)).keep (k0.trans k1), hR H1 k1⟩
        · refine z _ ?_ H1 (k0.trans k1)
          rw [eR, decide_eq_true hl]
          rfl
    | @lst a ys ea =>
      have hT : isT H (.ref a) = false := by simp only [isT, ea]
      rw [hT]
      exact iteT (iteT (z _ (by simp only [rowB, ea]) H (.refl _)))
    | _ => exact iteT (iteT (z _ rfl H (.refl _)))
def spNet (tb : List Addr) : Sp := fun vs H Q _ => ∃ x, vs = [x] ∧ TbAll tb H ∧ Th H 2 x ∧ ∀ H', Keep H H' → Q (.bl (netB H x)) H'
theorem ok_is_net {f f0 f1 f2 c p c0 p0 : Addr} {fd fd0 fd1 fd2 : FuncData} {tk : Tok} (D : Df K mg "is_net" s_is_net ["thing"] f fd) (C_is_net : DfC base fd c p) (hp : p ∈ tb) (hbm : ∃ bm ob, BMod base mainGlobals mg bm ob)
    (D_is_row : Df K mg "is_row" s_is_row ["thing", "many", "width"] f0 fd0) (C_is_row : DfC base fd0 c0 p0) (hp0 : p0 ∈ tb) (D_is_whole_below : Df K mg "is_whole_below" s_is_whole_below ["thing", "many"] f1 fd1) (D_is_whole : Df K mg "is_whole" s_is_whole ["thing"] f2 fd2)
    (bl : Bl mg) (tx_MOST_PLACES : mg "MOST_PLACES" = some (.int 9 tk)) : FnOk P w K mg base CX0 6 f fd ["thing"] (spNet tb) := by
  have G_is_row : FnOk P w K mg base CX0 4 f0 fd0 ["thing", "many", "width"] (spRow tb) := ok_is_row D_is_row C_is_row hp0 hbm D_is_whole_below D_is_whole bl
  refine D.fn.okc sc_is_net (fun vs H Q E h => ?_) (fun A outer s H vs Q E hr h => ?_)
  · obtain ⟨x, rfl, _⟩ := h
    rfl
  · obtain ⟨x, rfl, htb, th, q⟩ := h
    refine ⟨_, (pss_cons (ps_if (PW.pt (pw_or (pt_not (pt_val (pe_callB (call_isinstK (K := K) rfl) rfl bl.isinstance_ bt_isinstance (pa_cons (pv 0) (pa_cons (pe_bltn (v := .ty "tuple") rfl bl.tuple_ bt_tuple rfl) pa_nil))))) (pw_or1 (pt_not (pt_chain op_le op_le pe_int (pe_callB (call_len_seqK (K := K) rfl) rfl bl.len_ PySem.boot_len (pa_cons (pv 0) pa_nil)) (pe_glob (v := .int 9) rfl tx_MOST_PLACES ⟨_, rfl⟩))))))
      (pss_one (ps_ret pe_bl))
      pss_nil)
    (pss_cons (ps_set (i := 1) sc_is_net.nd rfl (Or.inr rfl) (pe_callB (call_len_seqK (K := K) rfl) rfl bl.len_ PySem.boot_len (pa_cons (pv 0) pa_nil)))
    (pss_cons (ps_for PassesOwn.never rfl (pi_tupK (K := K) rfl (pe_tup (pa_cons pe_int (pa_cons pe_int pa_nil)))) (pg_name (i := 2) sc_is_net.nd rfl (Or.inr rfl))
      (pss_one (ps_if (pt_val (pe_all (k := 4) (N' := ["row", "many", "width"]) (tn := 1) (idx := [1, 2]) (hr.mono (by decide)) rfl (show BlockOk ["thing", "many", "width"] (defScope s_is_net) _ ["row", "many", "width"] 1 [1, 2] from by decide +kernel) rfl rfl C_is_net.code C_is_net.hd hbm rfl bl.all_ (pi_tupK (K := K) rfl (pv 0)) (fun _ _ _ _ _ _ _ hr => (pg_name (i := 0) (show List.Nodup [("row" : Str), ("many" : Str), ("width" : Str)] from by decide +kernel) rfl (Or.inl rfl))) (fun _ _ _ _ _ _ _ hr => pif_nil) (fun _ _ _ _ _ _ _ hr => (pe_call G_is_row (hr.mono (by decide)) rfl D_is_row.mg D_is_row.fn.kp D_is_row.bd .nil pass0 (pa_cons (pv 0) (pa_cons (pv 1) (pa_cons (pv 2) pa_nil)))))))
      (pss_one (ps_ret pe_bl))
      pss_nil)))
    (pss_one (ps_ret pe_bl))))), ?_⟩
    obtain ⟨t, ty, e⟩ := kd_tup (K := K) th.1
    refine ⟨_, rfl, x, "tuple", t, _, rfl, ty, e, _, rfl, ?_⟩
    have z : ∀ b : Bool, b = netB H x → ∀ H', Keep H H' → Q (.bl b) H' := fun b e H' k => by rw [e]; exact q H' k
    have kd := th.1
    cases kd with
    | @tup a rs ea =>
      have hT : isT H (.ref a) = true := by simp only [isT, ea]
      rw [hT]
      refine iteF ?_
      have eN : netB H (.ref a) = (decide (1 ≤ rs.length ∧ rs.length ≤ 9) && (rs.all (rowB H rs.length 2) || rs.all (rowB H rs.length 3))) := by simp only [netB, ea]
      refine ⟨_, rfl, a, rs, rfl, .inr (SqT.of ea), _, _, rfl, rfl, _, rfl, ?_⟩
      have bad : ¬ (1 ≤ rs.length ∧ rs.length ≤ 9) → netB H (.ref a) = false := fun h => by rw [eN, decide_eq_false h]; rfl
      refine ite2 (fun c1 => ?_) (fun c1 => ?_)
      · have c1' : (1 : Int) ≤ (rs.length : Int) := of_decide_eq_true c1
        refine ⟨_, _, rfl, rfl, _, rfl, ?_⟩
        refine ite2 (fun c2 => ?_) (fun c2 => ?_)
        · refine z _ ?_ H (.refl _)
          refine (bad fun h => ?_).symm
          have : decide ((rs.length : Int) ≤ 9) = true := decide_eq_true (by omega)
          rw [this] at c2
          cases c2
        · have c2' : (rs.length : Int) ≤ 9 := by
            by_cases h : (rs.length : Int) ≤ 9
            · exact h
            · exfalso
              refine c2 ?_
              rw [decide_eq_false h]
              rfl
          have eN2 : netB H (.ref a) = (rs.all (rowB H rs.length 2) || rs.all (rowB H rs.length 3)) := by
            have h9 : 1 ≤ rs.length ∧ rs.length ≤ 9 := by omega
            rw [eN, decide_eq_true h9, Bool.true_and]
          refine ⟨_, rfl, a, rs, rfl, .inr (SqT.of ea), ?_⟩
          refine ⟨by decide, fun p2 hp2 => ⟨p2, rfl, ⟨_, SqT.of upd_same⟩, for_of (xs := [.int 2, .int 3]) (fun i σ H1 => Keep H H1 ∧ H1 p2 = some (.tup [.int 2, .int 3]) ∧ (∃ v, σ = [some (.ref a), some (.int (rs.length : Nat)), v]) ∧ (1 ≤ i → rs.all (rowB H rs.length 2) = false) ∧ (2 ≤ i → rs.all (rowB H rs.length 3) = false))
            ⟨.new hp2 _, upd_same, ⟨_, rfl⟩, fun h => absurd h (by decide), fun h => absurd h (by decide)⟩ (fun i σ H1 _ ⟨_, h, _⟩ => runs_tup (SqT.of h)) ?_ ?_⟩⟩
          · rintro i x σ H1 hx ⟨k1, hp1, ⟨v, rfl⟩, w2, w3⟩
            obtain ⟨n, rfl, hn⟩ : ∃ n : Nat, x = .int (n : Nat) ∧ ((i = 0 ∧ n = 2) ∨ (i = 1 ∧ n = 3)) := by
              match i, hx with
              | 0, hx => exact ⟨2, (Option.some.inj hx).symm, .inl ⟨rfl, rfl⟩⟩
              | 1, hx => exact ⟨3, (Option.some.inj hx).symm, .inr ⟨rfl, rfl⟩⟩
            refine ⟨_, rfl, a, rfl, ⟨rs, SqT.of (k1.tup ea)⟩, (htb.keep k1) p hp, fun ps tr => ?_⟩
            have k2 : Keep H (upd H1 p (.tbl ps)) := k1.trans (.tbl ((htb.keep k1) p hp) tr)
            have hp3 : upd H1 p (.tbl ps) p2 = some (.tup [.int 2, .int 3]) := (Keep.tbl ((htb.keep k1) p hp) tr).tup hp1
            refine tgen_of (τ0 := [none, some (.int (rs.length : Nat)), some (.int (n : Nat))]) (rowB H rs.length n) (fun H2 k3 => runs_tup (SqT.of ((k2.trans k3).tup ea))) (fun j y hy H2 k3 R hR => ?_) (fun H2 k3 => ?_)
            · have k4 := k2.trans k3
              have thy := th.2 a rs rfl ea y (List.mem_of_getElem? hy)
              refine ⟨_, rfl, _, rfl, _, rfl, y, _, n, rfl, htb.keep k4, thy.keep k4, fun H3 k5 => ?_⟩
              have e3 : rowB H2 (rs.length : Nat) n y = rowB H rs.length n y := rowB_keep k4 thy.1
              rw [e3]
              exact hR H3 (k3.trans k5)
            · have k4 := k2.trans k3
              refine ⟨_, rfl, ?_⟩
              refine ite2 (fun c => ?_) (fun c => ?_)
              · refine z _ ?_ H2 k4
                rw [eN2]
                rcases hn with ⟨_, rfl⟩ | ⟨_, rfl⟩
                · rw [c]; rfl
                · rw [c, Bool.or_true]
              · have c' := Bool.eq_false_iff.mpr c
                refine ⟨k4, k3.tup hp3, ⟨_, rfl⟩, fun hi => ?_, fun hi => ?_⟩
                · rcases hn with ⟨_, rfl⟩ | ⟨hi', rfl⟩
                  · exact c'
                  · exact w2 (by omega)
                · rcases hn with ⟨hi', rfl⟩ | ⟨_, rfl⟩
                  · omega
                  · exact c'
          · rintro σ H1 ⟨k1, _, _, w2, w3⟩
            refine z _ ?_ H1 k1
            rw [eN2, w2 (by decide), w3 (by decide)]
            rfl
      · have c1' : ¬ (1 : Int) ≤ (rs.length : Int) := of_decide_eq_false (Bool.eq_false_iff.mpr c1)
        refine ⟨_, rfl, ?_⟩
        refine iteT ?_
        exact z _ (bad fun h => c1' (by omega)).symm H (.refl _)
    | @lst a ys ea =>
      have hT : isT H (.ref a) = false := by simp only [isT, ea]
      rw [hT]
      exact iteT (iteT (z _ (by simp only [netB, ea]) H (.refl _)))
    | _ => exact iteT (iteT (z _ rfl H (.refl _)))
end
end My

set_option Elab.async false
set_option maxRecDepth 100000
set_option maxHeartbeats 4000000
namespace My
open PySem L2 PyProof.Rows
section
variable {P : Program} {w : World} {K : PySem.W.Frag} {mg : Str → Option Value} {base : Heap} {tb : List Addr} {C_RoadError C_NoNet C_NoWord : Addr} {cs : List Addr}
def spNeed1 (C : Addr) (tb : List Addr) : Sp := fun vs H Q E => ∃ x, vs = [x] ∧ TbAll tb H ∧ Th H 2 x ∧ (netB H x = true → ∀ H', Keep H H' → Q .non H') ∧ (netB H x = false → ∀ H', Keep H H' → E (.ref C) none H')
theorem ok_need_net {f f1 : Addr} {fd fd1 : FuncData} (D : Df K mg "need_net" s_need_net ["thing"] f fd) (D_is_net : Df K mg "is_net" s_is_net ["thing"] f1 fd1) (G_is_net : FnOk P w K mg base CX0 6 f1 fd1 ["thing"] (spNet tb))
    (X_ : Errs K C_RoadError cs) (m_NoNet : C_NoNet ∈ cs) (g_NoNet : mg "NoNet" = some (.ref C_NoNet)) : FnOk P w K mg base (CX1 P w) 7 f fd ["thing"] (spNeed1 C_NoNet tb) := by
  refine D.fn.ok1 sc_need_net (fun vs H Q E h => ?_) (fun A outer s H vs Q E hr h => ?_)
  · obtain ⟨x, rfl, _⟩ := h
    rfl
  · obtain ⟨x, rfl, htb, th, q1, q2⟩ := h
    refine ⟨_, (pss_one (ps_if (pt_not (pt_val (pe_call G_is_net (hr.mono (by decide)) rfl D_is_net.mg D_is_net.fn.kp D_is_net.bd .nil pass0 (pa_cons (pv 0) pa_nil))))
      (pss_one (ps_raise (X_.ex _ m_NoNet) PySem.F.excBase_ValueError rfl raise1 rfl g_NoNet (pa_cons pe_str pa_nil)))
      pss_nil)), ?_⟩
    refine ⟨_, rfl, x, rfl, htb, th, fun H' k => ⟨_, rfl, ?_⟩⟩
    cases hn : netB H x with
    | true => exact iteF (q1 hn H' k)
    | false => exact iteT ⟨by decide, q2 hn H' k⟩
theorem sc_signs_of : FnScope ["net"] ["net"] (defScope s_signs_of) := ⟨rfl, rfl, rfl, by decide +kernel, rfl, by decide +kernel, by decide +kernel⟩
def sgn (w : Nat) : Str := Txt.slice "abc" none (some (w : Int))
theorem net0 {H : Hp} {x : V} {net : List (List Int)} {n : Nat} (h : NetAt H x net) (o : NetOk net n) : ∃ a rs p row, x = .ref a ∧ H a = some (.tup rs) ∧ atI rs 0 = some (.ref p) ∧ H p = some (.tup row) ∧ row.length = n ∧ rs.length = net.length := by
  obtain ⟨a, rs, rfl, q, r⟩ := h
  have hl := r.length
  have h0 : 0 < net.length := o.one
  obtain ⟨y, hy, p, rfl, z⟩ := paired_get (i := 0) (y := net[0]) r (List.getElem?_eq_getElem h0)
  refine ⟨a, rs, p, _, rfl, q, atI_nat (j := 0) hy, z, ?_, hl⟩
  rw [List.length_map]
  exact (o.row _ (List.getElem_mem h0)).1

def spSigns1 (C : Addr) (tb : List Addr) : Sp := fun vs H Q E => ∃ x, vs = [x] ∧ TbAll tb H ∧ Th H 2 x ∧ (netB H x = false → ∀ H', Keep H H' → E (.ref C) none H') ∧
  (netB H x = true → ∃ net n, NetAt H x net ∧ NetOk net n ∧ ∀ H', Keep H H' → Q (.str (sgn n)) H')
theorem ok_signs_of {f f1 : Addr} {fd fd1 : FuncData} {tk : Tok} (D : Df K mg "signs_of" s_signs_of ["net"] f fd) (D_need_net : Df K mg "need_net" s_need_net ["thing"] f1 fd1) (G_need_net : FnOk P w K mg base (CX1 P w) 7 f1 fd1 ["thing"] (spNeed1 C_NoNet tb)) (bl : Bl mg) (tx_SIGNS : mg "SIGNS" = some (.str "abc" tk)) :
    FnOk P w K mg base (CX1 P w) 8 f fd ["net"] (spSigns1 C_NoNet tb) := by
  refine D.fn.ok1 sc_signs_of (fun vs H Q E h => ?_) (fun A outer s H vs Q E hr h => ?_)
  · obtain ⟨x, rfl, _⟩ := h
    rfl
  · obtain ⟨x, rfl, htb, th, q0, q1⟩ := h
    refine ⟨_, (pss_cons (ps_expr (pe_call G_need_net (hr.mono (by decide)) rfl D_need_net.mg D_need_net.fn.kp D_need_net.bd .nil pass1 (pa_cons (pv 0) pa_nil)))
    (pss_one (ps_ret (pe_slice sl_str (pe_glob (v := .str "abc") rfl tx_SIGNS ⟨_, rfl⟩) po_none (po_some (pe_callB (call_len_seqK (K := K) rfl) rfl bl.len_ PySem.boot_len (pa_cons (pe_ix (ix_tupK (K := K) rfl) (pv 0) pe_int (fun _ _ => rfl)) pa_nil))))))), ?_⟩
    refine ⟨_, rfl, x, rfl, htb, th, fun hn H' k => ?_, q0⟩
    obtain ⟨net, n, hN, ok, q⟩ := q1 hn
    obtain ⟨a, rs, p, row, rfl, ha, h0, hp, hrow, _⟩ := net0 (hN.keep k) ok
    refine ⟨_, rfl, a, rs, 0, _, rfl, rfl, SqT.of ha, h0, p, row, rfl, .inr (SqT.of hp), _, rfl, "abc", rfl, by decide +kernel, ?_⟩
    rw [hrow]
    exact q H' k
end
end My

set_option Elab.async false
set_option maxRecDepth 100000
set_option maxHeartbeats 4000000
namespace My
open PySem L2 PyProof.Rows

section
variable {P : Program} {w : World} {K : PySem.W.Frag} {mg : Str → Option Value} {base : Heap} {tb : List Addr}
theorem sc__law_bag : FnScope ["_law_script", "_law_at", "_law_cell", "_law_mix", "_law_k"] ["_law_script", "_law_at"] (defScope s__law_bag) := ⟨rfl, rfl, rfl, by decide +kernel, rfl, by decide +kernel, by decide +kernel⟩
theorem sc__law_take : FnScope ["_law_bag_here", "_law_many", "_law_digit", "_law_number", "_law_room"] ["_law_bag_here", "_law_many"] (defScope s__law_take) := ⟨rfl, rfl, rfl, by decide +kernel, rfl, by decide +kernel, by decide +kernel⟩
theorem sc__law_order : FnScope ["_law_bag_here", "_law_many", "_law_rest", "_law_found", "_law_k"] ["_law_bag_here", "_law_many"] (defScope s__law_order) := ⟨rfl, rfl, rfl, by decide +kernel, rfl, by decide +kernel, by decide +kernel⟩
theorem sc__law_net : FnScope ["_law_bag_here", "_law_most", "_law_many", "_law_fans", "_law_kind", "_law_lap", "_law_order_here", "_law_rows", "_law_k", "_law_goals", "_law_fan"] ["_law_bag_here", "_law_most"] (defScope s__law_net) := ⟨rfl, rfl, rfl, by decide +kernel, rfl, by decide +kernel, by decide +kernel⟩
def spBag (K : PySem.W.Frag) : Sp := fun vs H Q _ => ∃ (a : Addr) (ns : List Int) (t : Int), vs = [.ref a, .int t] ∧ SqL K H a (ns.map V.int) ∧ ns.length ≤ 63 ∧ 0 ≤ t ∧ t ≤ 63 ∧ ∀ b H', H b = none → Keep H H' → BagAt H' b → Q (.ref b) H'
theorem ok_law_bag {f : Addr} {fd : FuncData} (D : Df K mg "_law_bag" s__law_bag ["_law_script", "_law_at"] f fd) (bl : Bl mg) : FnOk P w K mg base CX0 1 f fd ["_law_script", "_law_at"] (spBag K) := by
  refine D.fn.ok sc__law_bag (fun vs H Q E h => ?_) (fun cdv A outer s H vs Q E hr h => ?_)
  · obtain ⟨a, ns, t, rfl, _⟩ := h
    rfl
  · obtain ⟨a, ns, t, rfl, hS, h63, t0, t1, q⟩ := h
    have hl : (ns.map V.int).length = ns.length := List.length_map _
    refine Ho.run (Pre := fun σ H1 => H1 = H ∧ σ = [some (.ref a), some (.int t), none, none, none]) ⟨rfl, rfl⟩ ?_
    refine Ho.cons (fun σ H1 => H1 = H ∧ σ = [some (.ref a), some (.int t), some (.int 0), none, none]) ⟨_, (ps_set (i := 2) sc__law_bag.nd rfl (Or.inl rfl) pe_int), ?_⟩ ?_
    · rintro N σ H1 ⟨rfl, rfl⟩ k
      exact k _ _ ⟨rfl, rfl⟩
    refine Ho.cons (fun σ H1 => H1 = H ∧ ∃ c : Int, 0 ≤ c ∧ σ = [some (.ref a), some (.int t), some (.int c), none, none]) ⟨_, (ps_if (pt_cmpR op_lt (pv 1) (pe_callB (call_len_seqK (K := K) rfl) rfl bl.len_ PySem.boot_len (pa_cons (pv 0) pa_nil)) (nomark _))
      (pss_one (ps_set (i := 2) sc__law_bag.nd rfl (Or.inl rfl) (pe_callB call_abs rfl bl.abs_ bt_abs (pa_cons (pe_ix (ix_listK (K := K) rfl) (pv 0) (pv 1) (fun _ _ => rfl)) pa_nil))))
      pss_nil), ?_⟩ ?_
    · rintro N σ H1 ⟨rfl, rfl⟩ k
      refine ⟨_, rfl, _, rfl, a, _, rfl, .inl hS, _, _, rfl, rfl, _, rfl, ?_⟩
      refine ite2 (fun c => ?_) (fun c => ?_)
      · have c' : t < ((ns.map V.int).length : Nat) := of_decide_eq_true c
        rw [hl] at c'
        obtain ⟨v, hv, _⟩ := atI_ints (ns := ns) t0 c'
        refine ⟨_, rfl, _, rfl, a, _, _, _, rfl, rfl, hS, hv, v, rfl, k _ _ ⟨rfl, _, ?_, rfl⟩⟩
        split <;> omega
      · exact k _ _ ⟨rfl, 0, Int.le_refl _, rfl⟩
    refine Ho.cons (fun σ H1 => H1 = H ∧ ∃ c m : Int, 0 ≤ c ∧ 0 ≤ m ∧ σ = [some (.ref a), some (.int t), some (.int c), some (.int m), none]) ⟨_, (ps_set (i := 3) sc__law_bag.nd rfl (Or.inl rfl) (pe_op op_add (pe_op op_mul pe_int (pv 1)) pe_int)), ?_⟩ ?_
    · rintro N σ H1 ⟨rfl, c, hc, rfl⟩ k
      exact ⟨_, rfl, _, _, rfl, rfl, .inl ⟨by decide, by decide⟩, _, _, rfl, rfl, k _ _ ⟨rfl, c, _, hc, by omega, rfl⟩⟩
    refine Ho.cons (fun σ H1 => H1 = H ∧ ∃ c m : Int, ∃ v, 0 ≤ c ∧ 0 ≤ m ∧ σ = [some (.ref a), some (.int t), some (.int c), some (.int m), v]) ⟨_, (ps_for PassesOwn.never rfl (pi_range1 rfl bl.range_ (pa_cons (pe_callB (call_min2 rfl) rfl bl.min_ bt_min (pa_cons (pe_callB (call_len_seqK (K := K) rfl) rfl bl.len_ PySem.boot_len (pa_cons (pv 0) pa_nil)) (pa_cons pe_int pa_nil))) pa_nil)) (pg_name (i := 4) sc__law_bag.nd rfl (Or.inl rfl))
      (pss_one (ps_set (i := 3) sc__law_bag.nd rfl (Or.inl rfl) (pe_op op_mod (pe_op op_add (pe_op op_add (pe_op op_mul (pv 3) pe_int) (pe_op op_mod (pe_ix (ix_listK (K := K) rfl) (pv 0) (pv 4) (fun _ _ => rfl)) pe_int)) (pv 4)) pe_int)))), ?_⟩ ?_
    · rintro N σ H1 ⟨rfl, c, m, hc, hm, rfl⟩ k
      refine ⟨_, rfl, a, _, rfl, .inl hS, _, _, rfl, _, rfl, by split <;> omega, by split <;> omega, ?_⟩
      refine for_of (fun i σ H2 => H2 = H1 ∧ ∃ c m : Int, ∃ v, 0 ≤ c ∧ 0 ≤ m ∧ σ = [some (.ref a), some (.int t), some (.int c), some (.int m), v]) ⟨rfl, c, m, none, hc, hm, rfl⟩ (fun _ _ _ _ _ => runs_range) ?_ (fun σ H2 h => k _ _ h)
      rintro i x σ H2 hx ⟨rfl, c, m, v, hc, hm, rfl⟩
      have hi : i < (List.range (if (60 : Int) < ((ns.map V.int).length : Nat) then (60 : Int) else ((ns.map V.int).length : Nat)).toNat).length := by
        have := (List.getElem?_eq_some_iff.mp hx).1
        simpa using this
      rw [List.length_range] at hi
      have hi2 : i < ns.length := by
        rw [hl] at hi
        split at hi <;> omega
      obtain rfl : x = .int (0 + (i : Nat)) := by
        rw [List.getElem?_map, List.getElem?_range hi] at hx
        exact (Option.some.inj hx).symm
      obtain ⟨u, hu, _⟩ := atI_ints (ns := ns) (i := 0 + (i : Nat)) (by omega) (by omega)
      refine ⟨_, rfl, _, _, rfl, rfl, .inr ⟨by decide, by decide⟩, _, rfl, _, rfl, a, _, _, _, rfl, rfl, hS, hu, _, _, rfl, rfl, (by show (0 : Int) < 2147483647; decide), _, _, rfl, rfl, _, rfl, _, _, rfl, rfl, _, _, rfl, rfl, (by show (0 : Int) < 2147483629; decide), ?_⟩
      exact ⟨rfl, c, _, _, hc, Int.emod_nonneg _ (by decide), rfl⟩
    refine Ho.cons (fun σ H1 => H1 = H ∧ ∃ c m : Int, ∃ v, 0 ≤ c ∧ 0 ≤ m ∧ σ = [some (.ref a), some (.int t), some (.int c), some (.int m), v]) ⟨_, (ps_if (pt_cmpR op_lt (pv 2) (pe_op op_pow pe_int pe_int) (nomark _))
      (pss_one (ps_set (i := 2) sc__law_bag.nd rfl (Or.inl rfl) pe_int))
      pss_nil), ?_⟩ ?_
    · rintro N σ H1 ⟨rfl, c, m, v, hc, hm, rfl⟩ k
      refine ⟨_, rfl, _, _, rfl, rfl, ⟨by decide, by decide, by decide⟩, _, _, rfl, rfl, _, rfl, ?_⟩
      refine ite2 (fun _ => ?_) (fun _ => ?_)
      · exact k _ _ ⟨rfl, 0, m, v, Int.le_refl _, hm, rfl⟩
      · exact k _ _ ⟨rfl, c, m, v, hc, hm, rfl⟩
    refine Ho.last ⟨_, (ps_ret (pe_lst (pa_cons (pv 2) (pa_cons (pv 3) pa_nil)))), ?_⟩
    rintro σ H1 ⟨rfl, c, m, v, hc, hm, rfl⟩
    refine ⟨_, rfl, _, rfl, (by show 2 ≤ sizeLine; decide), fun b hb => ?_⟩
    exact q b _ hb (.new hb _) ⟨c, m, upd_same, hc, hm⟩
end
end My

set_option Elab.async false
set_option maxRecDepth 100000
set_option maxHeartbeats 4000000
namespace My
open PySem L2 PyProof.Rows
section
variable {P : Program} {w : World} {K : PySem.W.Frag} {mg : Str → Option Value} {base : Heap} {tb : List Addr}
def spTake : Sp := fun vs H Q _ => ∃ (b : Addr) (n : Int), vs = [.ref b, .int n] ∧ BagAt H b ∧ 1 ≤ n ∧ n < 1073741824 ∧ ∀ (d : Int) (H' : Hp), 0 ≤ d → d < n → KeepBut b H H' → BagAt H' b → Q (.int d) H'
theorem ok_law_take {f : Addr} {fd : FuncData} (D : Df K mg "_law_take" s__law_take ["_law_bag_here", "_law_many"] f fd) : FnOk P w K mg base CX0 1 f fd ["_law_bag_here", "_law_many"] spTake := by
  refine D.fn.ok sc__law_take (fun vs H Q E h => ?_) (fun cdv A outer s H vs Q E hr h => ?_)
  · obtain ⟨b, n, rfl, _⟩ := h
    rfl
  · obtain ⟨b, n, rfl, ⟨c, m, hb, hc, hm⟩, n1, n2, q⟩ := h
    refine Ho.run (Pre := fun σ H1 => H1 = H ∧ σ = [some (.ref b), some (.int n), none, none, none]) ⟨rfl, rfl⟩ ?_
    refine Ho.cons (fun σ H1 => H1 = H ∧ σ = [some (.ref b), some (.int n), none, none, none]) ⟨_, (ps_if (pt_cmpR op_gt (pe_ix (ix_listK (K := K) rfl) (pv 0) pe_int (fun _ _ => rfl)) pe_int (nomark _))
      (pss_cons (ps_set (i := 2) sc__law_take.nd rfl (Or.inl rfl) (pe_op op_mod (pe_ix (ix_listK (K := K) rfl) (pv 0) pe_int (fun _ _ => rfl)) (pv 1)))
    (pss_cons (ps_asg (pe_op op_fdiv (pe_ix (ix_listK (K := K) rfl) (pv 0) pe_int (fun _ _ => rfl)) (pv 1)) (pg_sub (pv 0) pe_int set_list))
    (pss_one (ps_ret (pv 2)))))
      pss_nil), ?_⟩ ?_
    · rintro N σ H1 ⟨rfl, rfl⟩ k
      refine ⟨_, rfl, b, _, _, _, rfl, rfl, SqL.of hb, atI_nat (j := 0) rfl, _, _, rfl, rfl, _, rfl, ?_⟩
      refine ite2 (fun c1 => ?_) (fun _ => k _ _ ⟨rfl, rfl⟩)
      refine ⟨_, rfl, b, _, _, _, rfl, rfl, SqL.of hb, atI_nat (j := 0) rfl, _, rfl, _, _, rfl, rfl, (by show (0 : Int) < n; omega), ?_⟩
      refine ⟨_, rfl, b, _, _, _, rfl, rfl, SqL.of hb, atI_nat (j := 0) rfl, _, rfl, _, _, rfl, rfl, ⟨by omega, n2⟩, _, rfl, b, _, _, 0, rfl, rfl, hb, rfl, ?_⟩
      exact ⟨_, rfl, q _ _ (Int.emod_nonneg _ (by omega)) (Int.emod_lt_of_pos _ (by omega)) .upd ⟨c / n, m, upd_same, Int.ediv_nonneg hc (by omega), hm⟩⟩
    refine Ho.cons (fun σ H1 => H1 = H ∧ σ = [some (.ref b), some (.int n), none, some (.int 0), none]) ⟨_, (ps_set (i := 3) sc__law_take.nd rfl (Or.inl rfl) pe_int), ?_⟩ ?_
    · rintro N σ H1 ⟨rfl, rfl⟩ k
      exact k _ _ ⟨rfl, rfl⟩
    refine Ho.cons (fun σ H1 => H1 = H ∧ σ = [some (.ref b), some (.int n), none, some (.int 0), some (.int 1)]) ⟨_, (ps_set (i := 4) sc__law_take.nd rfl (Or.inl rfl) pe_int), ?_⟩ ?_
    · rintro N σ H1 ⟨rfl, rfl⟩ k
      exact k _ _ ⟨rfl, rfl⟩
    refine Ho.cons (fun σ H1 => KeepBut b H H1 ∧ BagAt H1 b ∧ ∃ num room : Int, 0 ≤ num ∧ σ = [some (.ref b), some (.int n), none, some (.int num), some (.int room)]) ⟨_, (ps_while PassesOwn.never (pt_cmpR op_lt (pv 4) (pv 1) (nomark _))
      (pss_cons (ps_asg (pe_op op_mod (pe_op op_add (pe_op op_mul (pe_ix (ix_listK (K := K) rfl) (pv 0) pe_int (fun _ _ => rfl)) pe_int) pe_int) pe_int) (pg_sub (pv 0) pe_int set_list))
    (pss_cons (ps_set (i := 3) sc__law_take.nd rfl (Or.inl rfl) (pe_op op_add (pe_op op_mul (pv 3) pe_int) (pe_op op_mod (pe_op op_mul (pe_op op_fdiv (pe_ix (ix_listK (K := K) rfl) (pv 0) pe_int (fun _ _ => rfl)) pe_int) pe_int) pe_int)))
    (pss_one (ps_set (i := 4) sc__law_take.nd rfl (Or.inl rfl) (pe_op op_mul (pv 4) pe_int)))))), ?_⟩ ?_
    · rintro N σ H1 ⟨rfl, rfl⟩ k
      refine while_by (fun σ H2 => KeepBut b H1 H2 ∧ BagAt H2 b ∧ ∃ num room : Int, 0 ≤ num ∧ 1 ≤ room ∧ σ = [some (.ref b), some (.int n), none, some (.int num), some (.int room)])
        (fun (σ : L2.St) _ => match σ[4]? with | some (some (V.int r)) => (n - r).toNat | _ => 0) ⟨.refl _ _, ⟨c, m, hb, hc, hm⟩, 0, 1, Int.le_refl _, Int.le_refl _, rfl⟩ ?_ ?_
      · rintro σ H2 ⟨k2, ⟨c2, m2, hb2, hc2, hm2⟩, num, room, h1, h2, rfl⟩
        refine ⟨_, rfl, _, rfl, _, _, rfl, rfl, _, rfl, ?_⟩
        refine ite2 (fun c1 => ?_) (fun _ => k _ _ ⟨k2, ⟨c2, m2, hb2, hc2, hm2⟩, num, room, h1, rfl⟩)
        have c1' : room < n := of_decide_eq_true c1
        refine ⟨_, rfl, b, _, _, _, rfl, rfl, SqL.of hb2, atI_nat (j := 1) rfl, _, _, rfl, rfl, .inr ⟨by decide, by decide⟩, _, _, rfl, rfl, _, _, rfl, rfl, (by show (0 : Int) < 2147483647; decide), _, rfl, b, _, _, 1, rfl, rfl, hb2, rfl, ?_⟩
        have m3 : 0 ≤ (m2 * 48271 + 7919) % 2147483647 := Int.emod_nonneg _ (by decide)
        refine ⟨_, rfl, _, _, rfl, rfl, .inr ⟨by decide, by decide⟩, _, rfl, b, _, _, _, rfl, rfl, SqL.of upd_same, atI_nat (j := 1) rfl, _, _, rfl, rfl, ⟨by decide, by decide⟩, _, _, rfl, rfl, .inr ⟨by decide, by decide⟩, _, _, rfl, rfl, (by show (0 : Int) < 1073741789; decide), _, _, rfl, rfl, ?_⟩
        have n3 : 0 ≤ (m2 * 48271 + 7919) % 2147483647 / 8 * 69621 % 1073741789 := Int.emod_nonneg _ (by decide)
        refine ⟨_, rfl, _, _, rfl, rfl, .inr ⟨by decide, by decide⟩, ?_⟩
        refine ⟨⟨k2.trans .upd, ⟨c2, _, upd_same, hc2, m3⟩, _, _, ?_, ?_, rfl⟩, ?_⟩
        · omega
        · omega
        · show (n - room * 1073741789).toNat < (n - room).toNat
          omega
      · rintro σ H2 Q1 Q2 hQ ⟨v, e, v', e', i, j, r1, r2, kk, r3, z⟩
        exact ⟨v, e, v', e', i, j, r1, r2, kk, r3, hQ _ _ z⟩
    refine Ho.last ⟨_, (ps_ret (pe_op op_mod (pv 3) (pv 1))), ?_⟩
    rintro σ H1 ⟨k1, hB, num, room, h1, rfl⟩
    exact ⟨_, rfl, _, rfl, _, _, rfl, rfl, (by show (0 : Int) < n; omega), q _ _ (Int.emod_nonneg _ (by omega)) (Int.emod_lt_of_pos _ (by omega)) k1 hB⟩
end
end My

set_option Elab.async false
set_option maxRecDepth 100000
set_option maxHeartbeats 4000000
namespace My
open PySem L2 PyProof.Rows
section
variable {P : Program} {w : World} {K : PySem.W.Frag} {mg : Str → Option Value} {base : Heap} {tb : List Addr}
theorem erase_map {α β : Type} (f : α → β) : ∀ (l : List α) (i : Nat), (l.map f).eraseIdx i = (l.eraseIdx i).map f
  | [], _ => rfl
  | _ :: _, 0 => rfl
  | a :: l, i + 1 => by
    show f a :: (l.map f).eraseIdx i = f a :: (l.eraseIdx i).map f
    rw [erase_map f l i]
theorem erase_perm {α : Type} : ∀ (l : List α) (i : Nat) (h : i < l.length), (l[i] :: l.eraseIdx i).Perm l
  | a :: l, 0, _ => .refl _
  | a :: l, i + 1, h => by
    have h' : i < l.length := by simpa using h
    show (l[i] :: a :: l.eraseIdx i).Perm (a :: l)
    exact (List.Perm.swap a l[i] _).trans ((erase_perm l i h').cons a)

structure OrderOf (n : Nat) (os : List Int) : Prop where
  perm : os.Perm ((List.range n).map fun i : Nat => (i : Int))
theorem OrderOf.len {n : Nat} {os : List Int} (h : OrderOf n os) : os.length = n := by
  have := h.perm.length_eq
  simpa using this
theorem OrderOf.mem {n : Nat} {os : List Int} (h : OrderOf n os) {x : Int} (hx : x ∈ os) : 0 ≤ x ∧ x < n := by
  have := h.perm.mem_iff.mp hx
  obtain ⟨i, hi, rfl⟩ := List.mem_map.mp this
  have := List.mem_range.mp hi
  omega
theorem OrderOf.nodup {n : Nat} {os : List Int} (h : OrderOf n os) : os.Nodup := by
  refine h.perm.nodup_iff.mpr ?_
  exact List.pairwise_map.mpr (List.nodup_range.imp fun h e => h (by omega))
theorem OrderOf.all {n : Nat} {os : List Int} (h : OrderOf n os) {i : Nat} (hi : i < n) : (i : Int) ∈ os := h.perm.mem_iff.mpr (List.mem_map.mpr ⟨i, List.mem_range.mpr hi, rfl⟩)
def spOrder : Sp := fun vs H Q _ => ∃ (b : Addr) (n : Nat), vs = [.ref b, .int (n : Nat)] ∧ BagAt H b ∧ n ≤ 100 ∧ ∀ (o : Addr) (os : List Int) (H' : Hp), H o = none → OrderOf n os → KeepBut b H H' → BagAt H' b → H' o = some (.lst (os.map V.int)) → Q (.ref o) H'
theorem ok_law_order {f f1 : Addr} {fd fd1 : FuncData} (D : Df K mg "_law_order" s__law_order ["_law_bag_here", "_law_many"] f fd) (D__law_take : Df K mg "_law_take" s__law_take ["_law_bag_here", "_law_many"] f1 fd1) (bl : Bl mg) : FnOk P w K mg base CX0 2 f fd ["_law_bag_here", "_law_many"] spOrder := by
  have G__law_take : FnOk P w K mg base CX0 1 f1 fd1 ["_law_bag_here", "_law_many"] spTake := ok_law_take D__law_take
  refine D.fn.ok sc__law_order (fun vs H Q E h => ?_) (fun cdv A outer s H vs Q E hr h => ?_)
  · obtain ⟨b, n, rfl, _⟩ := h
    rfl
  · obtain ⟨b, n, rfl, hB, n1, q⟩ := h
    have ⟨cb, mb, hb0, _, _⟩ := hB
    refine ⟨_, (pss_cons (ps_set (i := 2) sc__law_order.nd rfl (Or.inl rfl) (pe_listrange rfl rfl bl.list_ rfl bl.range_ (pv 1)))
    (pss_cons (ps_set (i := 3) sc__law_order.nd rfl (Or.inl rfl) (pe_lst pa_nil))
    (pss_cons (ps_for PassesOwn.never rfl (pi_range1 rfl bl.range_ (pa_cons (pv 1) pa_nil)) (pg_name (i := 4) sc__law_order.nd rfl (Or.inl rfl))
      (pss_one (ps_expr (pe_bmK (K := K) rfl PySem.F.plainAttrs_list PySem.F.slot_list_append PySem.F.type_list_append mt_append (pv 3) (pa_cons (pe_bmK (K := K) rfl PySem.F.plainAttrs_list PySem.F.slot_list_pop PySem.F.type_list_pop mt_popAt (pv 2) (pa_cons (pe_call G__law_take (hr.mono (by decide)) rfl D__law_take.mg D__law_take.fn.kp D__law_take.bd .nil pass0 (pa_cons (pv 0) (pa_cons (pe_callB (call_len_seqK (K := K) rfl) rfl bl.len_ PySem.boot_len (pa_cons (pv 2) pa_nil)) pa_nil))) pa_nil)) pa_nil)))))
    (pss_one (ps_ret (pv 3)))))), ?_⟩
    refine ⟨_, rfl, _, rfl, by omega, by omega, fun r hr' => ?_⟩
    have hbr : b ≠ r := ne_of_none hb0 hr'
    refine ⟨by decide, fun o ho => ?_⟩
    have hro : r ≠ o := ne_of_none (H := upd H r (.lst _)) upd_same ho
    have hbo : b ≠ o := ne_of_none (H := upd H r (.lst _)) (by rw [upd_ne hbr]; exact hb0) ho
    have ho' : H o = none := by rw [upd_ne (Ne.symm hro)] at ho; exact ho
    refine ⟨_, rfl, _, rfl, by omega, by omega, ?_⟩
    refine for_of (fun i σ H1 => KeepBut b H H1 ∧ BagAt H1 b ∧ (∃ v, σ = [some (.ref b), some (.int (n : Nat)), some (.ref r), some (.ref o), v]) ∧ ∃ rest got : List Int, H1 r = some (.lst (rest.map V.int)) ∧ H1 o = some (.lst (got.map V.int)) ∧ got.length = i ∧ (got ++ rest).Perm ((List.range n).map fun i : Nat => (i : Int))) ?_ (fun _ _ _ _ _ => runs_range) ?_ ?_
    · refine ⟨((Keep.new hr' _).trans (Keep.new ho _)).but b, ?_, ⟨none, rfl⟩, (List.range n).map fun i : Nat => (i : Int), [], ?_, upd_same, rfl, .refl _⟩
      · exact hB.keep ((Keep.new hr' _).trans (Keep.new ho _))
      · rw [upd_ne hro, upd_same, List.map_map]
        rfl
    · rintro i x σ H1 hx ⟨k1, hB1, ⟨v, rfl⟩, rest, got, hr1, ho1, hg, pm⟩
      have hi : i < n := by
        have := (List.getElem?_eq_some_iff.mp hx).1
        simpa using this
      have hlen : got.length + rest.length = n := by
        have := pm.length_eq
        simpa using this
      have hl0 : (rest.map V.int).length = rest.length := List.length_map _
      refine ⟨_, rfl, .inl ⟨rfl, _, SqL.of ho1⟩, _, rfl, .inl ⟨rfl, _, SqL.of hr1⟩, _, rfl, _, rfl, r, _, rfl, .inl (SqL.of hr1), b, _, rfl, hB1, by rw [hl0]; omega, by rw [hl0]; omega, fun d H2 d0 d1 k2 hB2 => ?_⟩
      rw [hl0] at d1
      have hr2 := k2.lst (Ne.symm hbr) hr1
      have ho2 := k2.lst (Ne.symm hbo) ho1
      have hd : d.toNat < rest.length := by omega
      have hseq : seqIndex? d (rest.map V.int).length = some d.toNat := by
        obtain ⟨h1, _⟩ := ixN_seq (n := (rest.map V.int).length) (i := d) (j := d.toNat) (by unfold ixN; rw [if_pos d0, if_pos (by rw [hl0]; omega)])
        exact h1
      refine ⟨r, _, d, d.toNat, .int rest[d.toNat], rfl, rfl, hr2, by omega, by omega, hseq, by rw [List.getElem?_map, List.getElem?_eq_getElem hd]; rfl, ?_⟩
      refine ⟨o, got.map V.int, _, rfl, rfl, by rw [upd_ne (Ne.symm hro)]; exact ho2, by rw [List.length_map]; exact Nat.lt_of_le_of_lt (show got.length ≤ 1000 by omega) (by decide), ?_⟩
      refine ⟨?_, ?_, ⟨_, rfl⟩, rest.eraseIdx d.toNat, got ++ [rest[d.toNat]], ?_, ?_, by simp [hg], ?_⟩
      · refine fun b1 o1 n1 h1 => ?_
        have z := (k1.trans k2) b1 o1 n1 h1
        have e1 : b1 ≠ r := ne_of_none h1 hr'
        have e2 : b1 ≠ o := ne_of_none h1 ho'
        rw [upd_ne e2, upd_ne e1]
        exact z
      · obtain ⟨c3, m3, e3, z3⟩ := hB2
        exact ⟨c3, m3, by rw [upd_ne hbo, upd_ne hbr]; exact e3, z3⟩
      · rw [upd_ne hro, upd_same, erase_map]
      · rw [upd_same, List.map_append]
        rfl
      · refine List.Perm.trans ?_ pm
        rw [List.append_assoc]
        refine List.Perm.append_left got ?_
        exact erase_perm rest d.toNat hd
    · rintro σ H1 ⟨k1, hB1, ⟨v, rfl⟩, rest, got, hr1, ho1, hg, pm⟩
      have hlen : got.length + rest.length = n := by
        have := pm.length_eq
        simpa using this
      have hg' : got.length = n := by simpa using hg
      have hr0 : rest = [] := List.eq_nil_of_length_eq_zero (by omega)
      rw [hr0, List.append_nil] at pm
      exact ⟨_, rfl, q o got H1 ho' ⟨pm⟩ k1 hB1 ho1⟩
end
end My

set_option Elab.async false
set_option maxRecDepth 100000
set_option maxHeartbeats 4000000
namespace My
open PySem L2 PyProof.Rows
section

structure NI (H : Hp) (b o rl : Addr) (n : Nat) (os : List Int) (H1 : Hp) (rps : List Addr) (rows : List (List Int)) : Prop where
  kp : KeepBut b H H1
  bag : BagAt H1 b
  ord : H1 o = some (.lst (os.map V.int))
  oo : OrderOf n os
  ob : o ≠ b
  on : H o = none
  rb : rl ≠ b
  ro : rl ≠ o
  rn : H rl = none
  top : H1 rl = some (.lst (rps.map V.ref))
  nd : rps.Nodup
  fr : ∀ p ∈ rps, H p = none ∧ p ≠ b ∧ p ≠ o ∧ p ≠ rl
  row : ∀ (i : Nat) (p : Addr) (r : List Int), rps[i]? = some p → rows[i]? = some r → H1 p = some (.lst (r.map V.int))
  l1 : rps.length = n
  l2 : rows.length = n
  rng : ∀ r ∈ rows, ∀ g ∈ r, 0 ≤ g ∧ g < (n : Int)
variable {H H1 H2 : Hp} {b o rl : Addr} {n : Nat} {os : List Int} {rps : List Addr} {rows : List (List Int)}
theorem NI.rowAt (h : NI H b o rl n os H1 rps rows) {p : Addr} (hp : p ∈ rps) : ∃ r : List Int, H1 p = some (.lst (r.map V.int)) := by
  obtain ⟨i, hi, rfl⟩ := List.getElem_of_mem hp
  have hi2 : i < rows.length := by rw [h.l2, ← h.l1]; exact hi
  exact ⟨_, h.row i _ _ (List.getElem?_eq_getElem hi) (List.getElem?_eq_getElem hi2)⟩
theorem NI.take (h : NI H b o rl n os H1 rps rows) (k : KeepBut b H1 H2) (hB : BagAt H2 b) : NI H b o rl n os H2 rps rows :=
  { h with kp := h.kp.trans k, bag := hB, ord := k.lst h.ob h.ord, top := k.lst h.rb h.top, row := fun i p r e1 e2 => k.lst (h.fr p (List.mem_of_getElem? e1)).2.1 (h.row i p r e1 e2) }
theorem NI.fresh (h : NI H b o rl n os H1 rps rows) {d : Addr} (hd : H1 d = none) : H d = none ∧ d ≠ b ∧ d ≠ o ∧ d ≠ rl ∧ d ∉ rps := by
  obtain ⟨c, m, hb, _⟩ := h.bag
  have e1 : d ≠ b := (ne_of_none hb hd).symm
  refine ⟨?_, e1, (ne_of_none h.ord hd).symm, (ne_of_none h.top hd).symm, fun hp => ?_⟩
  · cases q : H d with
    | none => rfl
    | some u => rcases h.kp d u e1 q with z | ⟨_, _, _, z, _⟩ <;> (rw [hd] at z; cases z)
  · obtain ⟨r, e⟩ := h.rowAt hp
    rw [hd] at e; cases e
theorem NI.other (h : NI H b o rl n os H1 rps rows) {d : Addr} (hd : H d = none ∧ d ≠ b ∧ d ≠ o ∧ d ≠ rl ∧ d ∉ rps) (u : HO) : NI H b o rl n os (upd H1 d u) rps rows := by
  obtain ⟨d0, d1, d2, d3, d4⟩ := hd
  refine { h with kp := fun b1 o1 n1 e => ?_, bag := ?_, ord := by rw [upd_ne (Ne.symm d2)]; exact h.ord, top := by rw [upd_ne (Ne.symm d3)]; exact h.top, row := fun i p r e1 e2 => ?_ }
  · rw [upd_ne (ne_of_none e d0)]
    exact h.kp b1 o1 n1 e
  · obtain ⟨c, m, e, r⟩ := h.bag
    exact ⟨c, m, by rw [upd_ne (Ne.symm d1)]; exact e, r⟩
  · have np : p ≠ d := fun z => d4 (by rw [← z]; exact List.mem_of_getElem? e1)
    rw [upd_ne np]
    exact h.row i p r e1 e2
theorem NI.new (h : NI H b o rl n os H1 rps rows) {d : Addr} (hd : H1 d = none) (u : HO) : NI H b o rl n os (upd H1 d u) rps rows := h.other (h.fresh hd) u
theorem nodup_at {α : Type} {l : List α} (h : l.Nodup) {i j : Nat} {x : α} (a : l[i]? = some x) (b : l[j]? = some x) : i = j := by
  obtain ⟨h1, e1⟩ := List.getElem?_eq_some_iff.mp a
  obtain ⟨h2, e2⟩ := List.getElem?_eq_some_iff.mp b
  exact (List.getElem_inj h).mp (e1.trans e2.symm)
theorem NI.put (h : NI H b o rl n os H1 rps rows) {i : Nat} {p : Addr} {r' : List Int} (hi : rps[i]? = some p) (hr : ∀ g ∈ r', 0 ≤ g ∧ g < (n : Int)) : NI H b o rl n os (upd H1 p (.lst (r'.map V.int))) rps (rows.set i r') := by
  obtain ⟨p0, p1, p2, p3⟩ := h.fr p (List.mem_of_getElem? hi)
  refine { h with kp := fun b1 o1 n1 e => ?_, bag := ?_, ord := by rw [upd_ne (Ne.symm p2)]; exact h.ord, top := by rw [upd_ne (Ne.symm p3)]; exact h.top, row := fun j q r e1 e2 => ?_, l2 := by rw [List.length_set]; exact h.l2, rng := fun r hr' => ?_ }
  · rw [upd_ne (ne_of_none e p0)]
    exact h.kp b1 o1 n1 e
  · obtain ⟨c, m, e, r⟩ := h.bag
    exact ⟨c, m, by rw [upd_ne (Ne.symm p1)]; exact e, r⟩
  · by_cases hij : j = i
    · subst hij
      rw [hi] at e1; cases e1
      have hl : j < rows.length := by rw [h.l2, ← h.l1]; exact (List.getElem?_eq_some_iff.mp hi).1
      rw [List.getElem?_set_self hl] at e2
      cases e2
      exact upd_same
    · rw [List.getElem?_set_ne (Ne.symm hij)] at e2
      have : q ≠ p := fun z => hij (nodup_at h.nd e1 (by rw [z]; exact hi))
      rw [upd_ne this]
      exact h.row j q r e1 e2
  · rcases List.mem_or_eq_of_mem_set hr' with z | z
    · exact h.rng r z
    · rw [z]; exact hr
theorem NI.swap (h : NI H b o rl n os H1 rps rows) {i : Nat} {q : Addr} {r' : List Int} (hi : i < n) (hq : H q = none ∧ q ≠ b ∧ q ≠ o ∧ q ≠ rl ∧ q ∉ rps) (hq1 : H1 q = some (.lst (r'.map V.int))) (hr : ∀ g ∈ r', 0 ≤ g ∧ g < (n : Int)) :
    NI H b o rl n os (upd H1 rl (.lst ((rps.map V.ref).set i (.ref q)))) (rps.set i q) (rows.set i r') := by
  obtain ⟨q0, q1, q2, q3, q4⟩ := hq
  have nodup : ∀ (l : List Addr) (i : Nat), l.Nodup → q ∉ l → (l.set i q).Nodup := by
    intro l
    induction l with
    | nil => intro i h1 h2; exact h1
    | cons a l ih =>
      intro i h1 h2
      obtain ⟨a1, a2⟩ := List.nodup_cons.mp h1
      have n1 : q ≠ a := fun z => h2 (z ▸ List.mem_cons_self)
      have n2 : q ∉ l := fun z => h2 (List.mem_cons_of_mem _ z)
      cases i with
      | zero => exact List.nodup_cons.mpr ⟨n2, a2⟩
      | succ i =>
        refine List.nodup_cons.mpr ⟨fun z => ?_, ih i a2 n2⟩
        rcases List.mem_or_eq_of_mem_set z with z | z
        · exact a1 z
        · exact n1 z.symm
  refine { h with kp := fun b1 o1 n1 e => ?_, bag := ?_, ord := by rw [upd_ne (Ne.symm h.ro)]; exact h.ord, top := ?_, nd := nodup rps i h.nd q4, fr := fun p hp => ?_, row := fun j p r e1 e2 => ?_, l1 := by rw [List.length_set]; exact h.l1, l2 := by rw [List.length_set]; exact h.l2, rng := fun r hr' => ?_ }
  · rw [upd_ne (ne_of_none e h.rn)]
    exact h.kp b1 o1 n1 e
  · obtain ⟨c, m, e, r⟩ := h.bag
    exact ⟨c, m, by rw [upd_ne (Ne.symm h.rb)]; exact e, r⟩
  · rw [upd_same, List.map_set]
  · rcases List.mem_or_eq_of_mem_set hp with z | z
    · exact h.fr p z
    · rw [z]; exact ⟨q0, q1, q2, q3⟩
  · have hprl : p ≠ rl := by
      rcases List.mem_or_eq_of_mem_set (List.mem_of_getElem? e1) with z | z
      · exact (h.fr p z).2.2.2
      · rw [z]; exact q3
    rw [upd_ne hprl]
    by_cases hij : j = i
    · subst hij
      rw [List.getElem?_set_self (by rw [h.l1]; exact hi)] at e1
      rw [List.getElem?_set_self (by rw [h.l2]; exact hi)] at e2
      cases e1
      cases e2
      exact hq1
    · rw [List.getElem?_set_ne (Ne.symm hij)] at e1 e2
      exact h.row j p r e1 e2
  · rcases List.mem_or_eq_of_mem_set hr' with z | z
    · exact h.rng r z
    · rw [z]; exact hr
theorem NI.at (h : NI H b o rl n os H1 rps rows) {x : Int} (hx : x ∈ os) : ∃ p r, atI (rps.map V.ref) x = some (.ref p) ∧ rps[x.toNat]? = some p ∧ rows[x.toNat]? = some r ∧ H1 p = some (.lst (r.map V.int)) ∧ x.toNat < n := by
  obtain ⟨x0, x1⟩ := h.oo.mem hx
  have hx2 : x.toNat < n := by omega
  have e : x = ((x.toNat : Nat) : Int) := by omega
  have g1 : x.toNat < rps.length := by rw [h.l1]; exact hx2
  have g2 : x.toNat < rows.length := by rw [h.l2]; exact hx2
  have e1 : rps[x.toNat]? = some rps[x.toNat] := List.getElem?_eq_getElem g1
  have e2 : rows[x.toNat]? = some rows[x.toNat] := List.getElem?_eq_getElem g2
  have := atI_nat (xs := rps.map V.ref) (j := x.toNat) (v := .ref rps[x.toNat]) (by rw [List.getElem?_map, e1]; rfl)
  rw [← e] at this
  exact ⟨_, _, this, e1, e2, h.row _ _ _ e1 e2, hx2⟩
theorem atI_neg {α : Type} {xs : List α} (h : 0 < xs.length) : ∃ x, atI xs (-1) = some x ∧ x ∈ xs := by
  have e : ixN xs.length (-1) = some (xs.length - 1) := by
    unfold ixN
    rw [if_neg (by decide), if_pos (by omega)]
    congr 1
    omega
  refine ⟨xs[xs.length - 1], ?_, List.getElem_mem _⟩
  unfold atI
  rw [e]
  exact List.getElem?_eq_getElem (by omega)
theorem OrderOf.at {n : Nat} {os : List Int} (h : OrderOf n os) {i : Int} (h0 : -1 ≤ i) (h1 : i < n) (hn : 1 ≤ n) : ∃ x : Int, atI (os.map V.int) i = some (.int x) ∧ x ∈ os := by
  by_cases hi : 0 ≤ i
  · obtain ⟨v, e1, e2⟩ := atI_ints (ns := os) hi (by rw [h.len]; exact h1)
    exact ⟨v, e1, List.mem_of_getElem? e2⟩
  · have e : i = -1 := by omega
    subst e
    obtain ⟨x, e1, e2⟩ := atI_neg (xs := os.map V.int) (by rw [List.length_map, h.len]; exact hn)
    obtain ⟨v, hv, rfl⟩ := List.mem_map.mp e2
    exact ⟨v, e1, hv⟩
end
end My

set_option Elab.async false
set_option maxRecDepth 100000
set_option maxHeartbeats 4000000
namespace My
open PySem L2 PyProof.Rows
section
variable {P : Program} {w : World} {K : PySem.W.Frag} {mg : Str → Option Value} {base : Heap} {tb : List Addr}
theorem range_at {n : Int} {i : Nat} {x : V} (hx : ((List.range n.toNat).map fun i => V.int (0 + (i : Nat)))[i]? = some x) : x = .int (i : Nat) ∧ (i : Int) < n := by
  rw [List.getElem?_map] at hx
  cases e : (List.range n.toNat)[i]? with
  | none => rw [e] at hx; cases hx
  | some k =>
    rw [e] at hx
    obtain ⟨h1, h2⟩ := List.getElem?_eq_some_iff.mp e
    rw [List.length_range] at h1
    have h3 : k = i := by simpa using h2.symm
    have h4 : x = .int (0 + (k : Nat)) := (Option.some.inj hx).symm
    rw [h4, h3]
    exact ⟨by simp, by omega⟩
theorem range_len {n : Int} : ((List.range n.toNat).map fun i => V.int (0 + (i : Nat))).length = n.toNat := by simp
def spMade : Sp := fun vs H Q _ => ∃ (b : Addr) (most : Int), vs = [.ref b, .int most] ∧ BagAt H b ∧ 1 ≤ most ∧ most ≤ 9 ∧
  ∀ (v : V) (net : List (List Int)) (n : Nat) (H' : Hp), NetAt H' v net → NetOk net n → KeepBut b H H' → BagAt H' b → (net.length : Int) ≤ most → Q v H'
set_option maxHeartbeats 8000000 in
theorem ok_law_net {f f1 f2 : Addr} {fd fd1 fd2 : FuncData} (D : Df K mg "_law_net" s__law_net ["_law_bag_here", "_law_most"] f fd) (D__law_take : Df K mg "_law_take" s__law_take ["_law_bag_here", "_law_many"] f1 fd1) (D__law_order : Df K mg "_law_order" s__law_order ["_law_bag_here", "_law_many"] f2 fd2) (bl : Bl mg) :
    FnOk P w K mg base CX0 3 f fd ["_law_bag_here", "_law_most"] spMade := by
  have G__law_take : FnOk P w K mg base CX0 1 f1 fd1 ["_law_bag_here", "_law_many"] spTake := ok_law_take D__law_take
  have G__law_order : FnOk P w K mg base CX0 2 f2 fd2 ["_law_bag_here", "_law_many"] spOrder := ok_law_order D__law_order D__law_take bl
  refine D.fn.ok sc__law_net (fun vs H Q E h => ?_) (fun cdv A outer s H vs Q E hr h => ?_)
  · obtain ⟨b, most, rfl, _⟩ := h
    rfl
  obtain ⟨b, most, rfl, hB, m1, m9, q⟩ := h
  refine Ho.run (Pre := fun σ H1 => H1 = H ∧ σ = [some (.ref b), some (.int most), none, none, none, none, none, none, none, none, none]) ⟨rfl, rfl⟩ ?_
  refine Ho.cons (fun σ H1 => KeepBut b H H1 ∧ BagAt H1 b ∧ ∃ many : Int, 1 ≤ many ∧ many ≤ most ∧ σ = [some (.ref b), some (.int most), some (.int many), none, none, none, none, none, none, none, none]) ⟨_, (ps_set (i := 2) sc__law_net.nd rfl (Or.inl rfl) (pe_op op_add pe_int (pe_call G__law_take (hr.mono (by decide)) rfl D__law_take.mg D__law_take.fn.kp D__law_take.bd .nil pass0 (pa_cons (pv 0) (pa_cons (pv 1) pa_nil))))), ?_⟩ ?_
  · rintro N σ H1 ⟨rfl, rfl⟩ k
    refine ⟨_, rfl, _, rfl, b, _, rfl, hB, m1, by omega, fun d H2 d0 d1 k2 hB2 => ⟨_, _, rfl, rfl, k _ _ ⟨k2, hB2, _, by omega, by omega, rfl⟩⟩⟩
  refine Ho.cons (fun σ H1 => KeepBut b H H1 ∧ BagAt H1 b ∧ ∃ many fans : Int, 1 ≤ many ∧ many ≤ most ∧ 2 ≤ fans ∧ fans ≤ 3 ∧ σ = [some (.ref b), some (.int most), some (.int many), some (.int fans), none, none, none, none, none, none, none]) ⟨_, (ps_set (i := 3) sc__law_net.nd rfl (Or.inl rfl) (pe_op op_add pe_int (pe_call G__law_take (hr.mono (by decide)) rfl D__law_take.mg D__law_take.fn.kp D__law_take.bd .nil pass0 (pa_cons (pv 0) (pa_cons pe_int pa_nil))))), ?_⟩ ?_
  · rintro N σ H1 ⟨k1, hB1, many, a1, a2, rfl⟩ k
    refine ⟨_, rfl, b, _, rfl, hB1, by decide, by decide, fun d H2 d0 d1 k2 hB2 => ⟨_, _, rfl, rfl, k _ _ ⟨k1.trans k2, hB2, many, _, a1, a2, by omega, by omega, rfl⟩⟩⟩
  refine Ho.cons (fun σ H1 => KeepBut b H H1 ∧ BagAt H1 b ∧ ∃ many fans kind : Int, 1 ≤ many ∧ many ≤ most ∧ 2 ≤ fans ∧ fans ≤ 3 ∧ σ = [some (.ref b), some (.int most), some (.int many), some (.int fans), some (.int kind), none, none, none, none, none, none]) ⟨_, (ps_set (i := 4) sc__law_net.nd rfl (Or.inl rfl) (pe_call G__law_take (hr.mono (by decide)) rfl D__law_take.mg D__law_take.fn.kp D__law_take.bd .nil pass0 (pa_cons (pv 0) (pa_cons pe_int pa_nil)))), ?_⟩ ?_
  · rintro N σ H1 ⟨k1, hB1, many, fans, a1, a2, a3, a4, rfl⟩ k
    refine ⟨_, rfl, b, _, rfl, hB1, by decide, by decide, fun d H2 d0 d1 k2 hB2 => k _ _ ⟨k1.trans k2, hB2, many, fans, d, a1, a2, a3, a4, rfl⟩⟩
  refine Ho.cons (fun σ H1 => KeepBut b H H1 ∧ BagAt H1 b ∧ ∃ many fans kind : Int, 1 ≤ many ∧ many ≤ most ∧ 2 ≤ fans ∧ fans ≤ 3 ∧ σ = [some (.ref b), some (.int most), some (.int many), some (.int fans), some (.int kind), some (.int 1), none, none, none, none, none]) ⟨_, (ps_set (i := 5) sc__law_net.nd rfl (Or.inr rfl) pe_int), ?_⟩ ?_
  · rintro N σ H1 ⟨k1, hB1, many, fans, kind, a1, a2, a3, a4, rfl⟩ k
    exact k _ _ ⟨k1, hB1, many, fans, kind, a1, a2, a3, a4, rfl⟩
  refine Ho.cons (fun σ H1 => KeepBut b H H1 ∧ BagAt H1 b ∧ ∃ many fans kind lap : Int, 1 ≤ many ∧ many ≤ most ∧ 2 ≤ fans ∧ fans ≤ 3 ∧ 1 ≤ lap ∧ lap ≤ many ∧ σ = [some (.ref b), some (.int most), some (.int many), some (.int fans), some (.int kind), some (.int lap), none, none, none, none, none]) ⟨_, (ps_if (pt_cmpR op_eq (pv 4) pe_int (nomark _))
      (pss_cons (ps_set (i := 5) sc__law_net.nd rfl (Or.inr rfl) (pe_callB (call_min2 rfl) rfl bl.min_ bt_min (pa_cons (pe_op op_add pe_int (pe_call G__law_take (hr.mono (by decide)) rfl D__law_take.mg D__law_take.fn.kp D__law_take.bd .nil pass0 (pa_cons (pv 0) (pa_cons pe_int pa_nil)))) (pa_cons (pv 2) pa_nil))))
    (pss_one (ps_set (i := 2) sc__law_net.nd rfl (Or.inl rfl) (pe_op op_mul (pe_op op_fdiv (pv 2) (pv 5)) (pv 5)))))
      pss_nil), ?_⟩ ?_
  · rintro N σ H1 ⟨k1, hB1, many, fans, kind, a1, a2, a3, a4, rfl⟩ k
    refine ⟨_, rfl, rfl, _, rfl, ?_⟩
    refine ite2 (fun _ => ?_) (fun _ => k _ _ ⟨k1, hB1, many, fans, kind, 1, a1, a2, a3, a4, Int.le_refl _, a1, rfl⟩)
    refine ⟨_, rfl, b, _, rfl, hB1, by decide, by decide, fun d H2 d0 d1 k2 hB2 => ⟨_, _, rfl, rfl, _, rfl, _, _, rfl, ?_⟩⟩
    obtain ⟨lap, el, l1, l2⟩ : ∃ lap : Int, (if many < 2 + d then many else 2 + d) = lap ∧ 1 ≤ lap ∧ lap ≤ many := ⟨_, rfl, by split <;> omega, by split <;> omega⟩
    rw [el]
    have dv1 : 1 ≤ many / lap := by
      have := Int.ediv_le_ediv (c := lap) (by omega) l2
      rwa [Int.ediv_self (by omega)] at this
    have dv2 : many / lap * lap ≤ many := Int.ediv_mul_le many (by omega)
    have dv3 : lap ≤ many / lap * lap := by
      have := Int.mul_le_mul_of_nonneg_right dv1 (show 0 ≤ lap by omega)
      rwa [Int.one_mul] at this
    refine ⟨_, rfl, _, rfl, _, _, rfl, rfl, ⟨by omega, by omega⟩, _, rfl, _, _, rfl, rfl, .inr ⟨by omega, by omega⟩, ?_⟩
    exact k _ _ ⟨k1.trans k2, hB2, _, fans, kind, lap, by omega, by omega, a3, a4, l1, dv3, rfl⟩
  refine Ho.cons (fun σ H1 => ∃ (many fans : Nat) (kind lap : Int) (o : Addr) (os : List Int), KeepBut b H H1 ∧ BagAt H1 b ∧ H1 o = some (.lst (os.map V.int)) ∧ OrderOf many os ∧ o ≠ b ∧ H o = none ∧ 1 ≤ many ∧ (many : Int) ≤ most ∧ (fans = 2 ∨ fans = 3) ∧ 1 ≤ lap ∧ lap ≤ many ∧
      σ = [some (.ref b), some (.int most), some (.int (many : Nat)), some (.int (fans : Nat)), some (.int kind), some (.int lap), some (.ref o), none, none, none, none]) ⟨_, (ps_set (i := 6) sc__law_net.nd rfl (Or.inr rfl) (pe_call G__law_order (hr.mono (by decide)) rfl D__law_order.mg D__law_order.fn.kp D__law_order.bd .nil pass0 (pa_cons (pv 0) (pa_cons (pv 2) pa_nil)))), ?_⟩ ?_
  · rintro N σ H1 ⟨k1, hB1, many, fans, kind, lap, a1, a2, a3, a4, a5, a6, rfl⟩ k
    obtain ⟨mN, rfl⟩ : ∃ mN : Nat, many = (mN : Nat) := ⟨many.toNat, by omega⟩
    obtain ⟨fN, rfl⟩ : ∃ fN : Nat, fans = (fN : Nat) := ⟨fans.toNat, by omega⟩
    refine ⟨_, rfl, _, rfl, b, mN, rfl, hB1, by omega, fun o os H2 ho oo k2 hB2 ho2 => ?_⟩
    obtain ⟨cb, mb, hb, _, _⟩ := hB1
    have ob : o ≠ b := (ne_of_none hb ho).symm
    have hHo : H o = none := by
      cases z : H o with
      | none => rfl
      | some u => rcases k1 o u ob z with z2 | ⟨_, _, _, z2, _⟩ <;> (rw [ho] at z2; cases z2)
    exact k _ _ ⟨mN, fN, kind, lap, o, os, k1.trans k2, hB2, ho2, oo, ob, hHo, by omega, a2, by omega, a5, a6, rfl⟩
  refine Ho.cons (fun σ H1 => ∃ (many fans : Nat) (kind lap : Int) (o rl : Addr) (os : List Int) (rps : List Addr) (rows : List (List Int)), NI H b o rl many os H1 rps rows ∧ (∀ r ∈ rows, r = []) ∧ 1 ≤ many ∧ (many : Int) ≤ most ∧ (fans = 2 ∨ fans = 3) ∧ 1 ≤ lap ∧ lap ≤ many ∧
      σ = [some (.ref b), some (.int most), some (.int (many : Nat)), some (.int (fans : Nat)), some (.int kind), some (.int lap), some (.ref o), some (.ref rl), none, none, none]) ⟨_, (ps_setcomp (i := 7) sc__law_net.nd rfl rfl (N' := ["_law_place"]) (tn := 1) (idx := []) rfl (show BlockOk ["_law_bag_here", "_law_most", "_law_many", "_law_fans", "_law_kind", "_law_lap", "_law_order_here", "_law_rows", "_law_k", "_law_goals", "_law_fan"] (defScope s__law_net) _ ["_law_place"] 1 [] from by decide +kernel) (pi_range1 rfl bl.range_ (pa_cons (pv 2) pa_nil)) (fun _ _ _ _ _ => (pg_name (i := 0) (show List.Nodup [("_law_place" : Str)] from by decide +kernel) rfl (Or.inl rfl))) (fun _ _ _ _ _ => pif_nil) (fun _ _ _ _ _ => (pe_lst pa_nil))), ?_⟩ ?_
  · rintro N σ H1 ⟨many, fans, kind, lap, o, os, k1, hB1, ho, oo, ob, on, a1, a2, a3, a4, a5, rfl⟩ k
    refine ⟨_, rfl, _, rfl, by omega, by omega, fun rl hrl => ?_⟩
    have rb : rl ≠ b := by obtain ⟨cb, mb, hb, _⟩ := hB1; exact (ne_of_none hb hrl).symm
    have ro : rl ≠ o := (ne_of_none ho hrl).symm
    have rn : H rl = none := by
      cases z : H rl with
      | none => rfl
      | some u => rcases k1 rl u rb z with z2 | ⟨_, _, _, z2, _⟩ <;> (rw [hrl] at z2; cases z2)
    refine tturn0 (τ0 := [none]) (fun i acc H2 => ∃ rps : List Addr, acc = rps.map V.ref ∧ rps.length = i ∧ KeepBut b H H2 ∧ BagAt H2 b ∧ H2 o = some (.lst (os.map V.int)) ∧ H2 rl = some (.lst acc) ∧ rps.Nodup ∧ ∀ p ∈ rps, H p = none ∧ p ≠ b ∧ p ≠ o ∧ p ≠ rl ∧ H2 p = some (.lst []))
      (fun _ _ _ _ _ => runs_range) ?_ ?_ ?_
    · have k0 : Keep H1 (upd H1 rl (.lst [])) := .new hrl _
      exact ⟨[], rfl, rfl, k1.trans (k0.but b), hB1.keep k0, k0.lst ho, upd_same, List.nodup_nil, fun p hp => absurd hp (by simp)⟩
    · rintro i x acc H2 hx ⟨rps, rfl, hl, k2, hB2, ho2, hr2, nd, hp2⟩ R hR
      obtain ⟨_, hi⟩ := range_at hx
      refine ⟨by decide, fun p hp => ?_⟩
      have pb : p ≠ b := by obtain ⟨cb, mb, hb, _⟩ := hB2; exact (ne_of_none hb hp).symm
      have po : p ≠ o := (ne_of_none ho2 hp).symm
      have pr : p ≠ rl := (ne_of_none hr2 hp).symm
      have pn : H p = none := by
        cases z : H p with
        | none => rfl
        | some u => rcases k2 p u pb z with z2 | ⟨_, _, _, z2, _⟩ <;> (rw [hp] at z2; cases z2)
      have pin : p ∉ rps := fun hm => by have := (hp2 p hm).2.2.2.2; rw [hp] at this; cases this
      have kk : Keep H2 (upd H2 p (.lst [])) := .new hp _
      refine hR _ _ (kk.lst hr2) (by rw [List.length_map, hl]; exact Nat.lt_of_le_of_lt (show i ≤ 1000 by omega) (by decide)) ?_
      refine ⟨rps ++ [p], by rw [List.map_append]; rfl, by simp [hl], ?_, ?_, ?_, upd_same, ?_, ?_⟩
      · refine fun b1 o1 n1 e => ?_
        rw [upd_ne (ne_of_none e rn), upd_ne (ne_of_none e pn)]
        exact k2 b1 o1 n1 e
      · obtain ⟨c, m, e, r⟩ := hB2
        exact ⟨c, m, by rw [upd_ne (Ne.symm rb), upd_ne (Ne.symm pb)]; exact e, r⟩
      · rw [upd_ne (Ne.symm ro)]; exact kk.lst ho2
      · refine List.nodup_append.mpr ⟨nd, by simp, fun a ha c hc e => pin ?_⟩
        rw [List.mem_singleton.mp hc] at e
        rw [← e]; exact ha
      · intro p' hp'
        rcases List.mem_append.mp hp' with z | z
        · obtain ⟨y1, y2, y3, y4, y5⟩ := hp2 p' z
          exact ⟨y1, y2, y3, y4, by rw [upd_ne y4]; exact kk.lst y5⟩
        · rw [List.mem_singleton.mp z]
          exact ⟨pn, pb, po, pr, by rw [upd_ne pr]; exact upd_same⟩
    · rintro acc H2 ⟨rps, rfl, hl, k2, hB2, ho2, hr2, nd, hp2⟩
      rw [range_len] at hl
      have hl' : rps.length = many := by simpa using hl
      refine k _ _ ⟨many, fans, kind, lap, o, rl, os, rps, List.replicate many [], ⟨k2, hB2, ho2, oo, ob, on, rb, ro, rn, hr2, nd, fun p hp => ⟨(hp2 p hp).1, (hp2 p hp).2.1, (hp2 p hp).2.2.1, (hp2 p hp).2.2.2.1⟩, fun i p r e1 e2 => ?_, hl', by simp, fun r hr' => ?_⟩, fun r hr' => (List.eq_of_mem_replicate hr'), a1, a2, a3, a4, a5, rfl⟩
      · have := List.eq_of_mem_replicate (List.mem_of_getElem? e2)
        subst this
        exact (hp2 p (List.mem_of_getElem? e1)).2.2.2.2
      · rw [List.eq_of_mem_replicate hr']
        intro g hg
        cases hg
  refine Ho.cons (fun σ H1 => ∃ (many fans : Nat) (kind : Int) (vl : Option V) (o rl : Addr) (os : List Int) (rps : List Addr) (rows : List (List Int)) (vk vg vf : Option V), NI H b o rl many os H1 rps rows ∧ (∀ r ∈ rows, r.length = fans) ∧ 1 ≤ many ∧ (many : Int) ≤ most ∧ (fans = 2 ∨ fans = 3) ∧
      σ = [some (.ref b), some (.int most), some (.int (many : Nat)), some (.int (fans : Nat)), some (.int kind), vl, some (.ref o), some (.ref rl), vk, vg, vf]) ⟨_, (ps_for PassesOwn.never rfl (pi_range1 rfl bl.range_ (pa_cons (pv 2) pa_nil)) (pg_name (i := 8) sc__law_net.nd rfl (Or.inr rfl))
      (pss_cons (ps_setcomp (i := 9) sc__law_net.nd rfl rfl (N' := ["_law_j", "_law_order_here", "_law_lap", "_law_k"]) (tn := 1) (idx := [6, 5, 8]) rfl (show BlockOk ["_law_bag_here", "_law_most", "_law_many", "_law_fans", "_law_kind", "_law_lap", "_law_order_here", "_law_rows", "_law_k", "_law_goals", "_law_fan"] (defScope s__law_net) _ ["_law_j", "_law_order_here", "_law_lap", "_law_k"] 1 [6, 5, 8] from by decide +kernel) (pi_range1 rfl bl.range_ (pa_cons (pv 2) pa_nil)) (fun _ _ _ _ _ => (pg_name (i := 0) (show List.Nodup [("_law_j" : Str), ("_law_order_here" : Str), ("_law_lap" : Str), ("_law_k" : Str)] from by decide +kernel) rfl (Or.inl rfl))) (fun _ _ _ _ _ => (pif_one (pt_cmpR op_eq (pe_op op_mod (pv 0) (pv 2)) (pe_op op_mod (pe_op op_add (pv 3) pe_int) (pv 2)) (nomark _)))) (fun _ _ _ _ _ => (pe_ix (ix_listK (K := K) rfl) (pv 1) (pv 0) (fun _ _ => rfl))))
    (pss_one (ps_for PassesOwn.never rfl (pi_range1 rfl bl.range_ (pa_cons (pv 3) pa_nil)) (pg_name (i := 10) sc__law_net.nd rfl (Or.inl rfl))
      (pss_one (ps_expr (pe_bmK (K := K) rfl PySem.F.plainAttrs_list PySem.F.slot_list_append PySem.F.type_list_append mt_append (pe_ix (ix_listK (K := K) rfl) (pv 7) (pe_ix (ix_listK (K := K) rfl) (pv 6) (pv 8) (fun _ _ => rfl)) (fun _ _ => rfl)) (pa_cons (pe_ix (ix_listK (K := K) rfl) (pv 9) (pe_call G__law_take (hr.mono (by decide)) rfl D__law_take.mg D__law_take.fn.kp D__law_take.bd .nil pass0 (pa_cons (pv 0) (pa_cons (pe_callB (call_len_seqK (K := K) rfl) rfl bl.len_ PySem.boot_len (pa_cons (pv 9) pa_nil)) pa_nil))) (fun _ _ => rfl)) pa_nil)))))))), ?_⟩ ?_
  · rintro N σ H1 ⟨many, fans, kind, lap, o, rl, os, rps, rows, h, hz, a1, a2, a3, a4, a5, rfl⟩ k
    refine ⟨_, rfl, _, rfl, by omega, by omega, ?_⟩
    refine for_of (fun i σ H2 => ∃ (rows : List (List Int)) (vk vg vf : Option V), NI H b o rl many os H2 rps rows ∧ (∀ (j : Nat) r, rows[j]? = some r → r.length = if ((j : Nat) : Int) ∈ os.take i then fans else 0) ∧
      σ = [some (.ref b), some (.int most), some (.int (many : Nat)), some (.int (fans : Nat)), some (.int kind), some (.int lap), some (.ref o), some (.ref rl), vk, vg, vf]) ⟨rows, none, none, none, h, fun j r e => by rw [hz r (List.mem_of_getElem? e)]; simp, rfl⟩ (fun _ _ _ _ _ => runs_range) ?_ ?_
    · rintro i x σ H2 hx ⟨rows, vk, vg, vf, h2, hlen, rfl⟩
      obtain ⟨rfl, hi⟩ := range_at hx
      refine ⟨_, rfl, _, rfl, by omega, by omega, fun dl hdl => ?_⟩
      have fd := h2.fresh hdl
      refine tturn_of (τ0 := [none, some (.ref o), some (.int lap), some (.int (i : Nat))]) (fun j acc H3 => NI H b o rl many os H3 rps rows ∧ H3 dl = some (.lst acc) ∧ ∃ gs : List Int, acc = gs.map V.int ∧ gs.length ≤ j ∧ (∀ g ∈ gs, 0 ≤ g ∧ g < (many : Int)) ∧ (((i : Int) + 1) % lap < j → gs ≠ []))
        (fun _ _ _ _ _ => runs_range) ⟨h2.new hdl _, upd_same, [], rfl, Nat.le_refl _, fun g hg => absurd hg (by simp), fun z => absurd z (by have := Int.emod_nonneg ((i : Int) + 1) (show lap ≠ 0 by omega); omega)⟩ ?_ ?_
      · rintro j x acc H3 hx ⟨h3, hd3, gs, rfl, hgl, hgr, hne⟩ R1 R2 hR2 hR1
        obtain ⟨rfl, hj⟩ := range_at hx
        refine ⟨_, rfl, _, rfl, _, _, rfl, rfl, (by show 0 < lap; omega), _, rfl, _, _, rfl, rfl, _, rfl, _, _, rfl, rfl, (by show 0 < lap; omega), rfl, _, rfl, ?_⟩
        refine ite2 (fun c => ?_) (fun c => ?_)
        · obtain ⟨y, hy, ym⟩ := h3.oo.at (i := (j : Nat)) (by omega) hj a1
          refine ⟨_, rfl, _, rfl, o, _, _, _, rfl, rfl, SqL.of h3.ord, hy, hR2 _ _ hd3 (by rw [List.length_map]; exact Nat.lt_of_le_of_lt (show gs.length ≤ 1000 by omega) (by decide)) ⟨h3.other fd _, upd_same, gs ++ [y], by rw [List.map_append]; rfl, by rw [List.length_append]; simp; omega, fun g hg => ?_, fun _ z => by simp at z⟩⟩
          rcases List.mem_append.mp hg with z | z
          · exact hgr g z
          · rw [List.mem_singleton.mp z]; exact h3.oo.mem ym
        · refine hR1 _ ⟨h3, hd3, gs, rfl, by omega, hgr, fun z => ?_⟩
          by_cases e : ((i : Int) + 1) % lap < j
          · exact hne e
          · exfalso
            have e2 : ((i : Int) + 1) % lap = (j : Nat) := by omega
            have l2 := Int.emod_lt_of_pos ((i : Int) + 1) (show 0 < lap by omega)
            refine c (decide_eq_true ?_)
            have e3 : ((j : Nat) : Int) % lap = (j : Nat) := Int.emod_eq_of_lt (by omega) (by omega)
            show V.int (((j : Nat) : Int) % lap) = V.int ((((i : Nat) : Int) + 1) % lap)
            rw [e3, e2]
      · rintro acc H3 ⟨h3, hd3, gs, rfl, hgl, hgr, hne⟩
        have hgl2 : gs.length ≤ many := by
          rw [range_len] at hgl
          simpa using hgl
        have gpos : 0 < gs.length := by
          refine List.length_pos_iff.mpr (hne ?_)
          rw [range_len]
          have l2 := Int.emod_lt_of_pos ((i : Int) + 1) (show 0 < lap by omega)
          omega
        obtain ⟨x, hxa, hxm⟩ := h3.oo.at (i := (i : Nat)) (by omega) hi a1
        have hxi : os[i]? = some x := by
          obtain ⟨v, e1, e2⟩ := atI_ints (ns := os) (i := (i : Nat)) (by omega) (by rw [h3.oo.len]; exact hi)
          rw [hxa] at e1
          have e3 : x = v := by injection e1 with e1; injection e1
          rw [e3]; simpa using e2
        have hxn : x ∉ os.take i := fun z => by
          obtain ⟨j, hj, e⟩ := List.getElem_of_mem z
          rw [List.getElem_take] at e
          have hj2 : j < i := by rw [List.length_take] at hj; omega
          have := nodup_at h3.oo.nodup (List.getElem?_eq_getElem (by rw [List.length_take] at hj; omega)) (e ▸ hxi : os[i]? = some _)
          omega
        have hxt : ∀ y : Int, y ∈ os.take (i + 1) ↔ y ∈ os.take i ∨ y = x := fun y => by
          rw [List.take_add_one, hxi]
          simp
        obtain ⟨x0, x1⟩ := h3.oo.mem hxm
        refine ⟨_, rfl, _, rfl, by omega, by omega, ?_⟩
        refine for_of (fun t σ H4 => ∃ (rows : List (List Int)) (vf : Option V), NI H b o rl many os H4 rps rows ∧ H4 dl = some (.lst (gs.map V.int)) ∧ (∀ (j : Nat) r, rows[j]? = some r → r.length = if ((j : Nat) : Int) = x then t else if ((j : Nat) : Int) ∈ os.take i then fans else 0) ∧
          σ = [some (.ref b), some (.int most), some (.int (many : Nat)), some (.int (fans : Nat)), some (.int kind), some (.int lap), some (.ref o), some (.ref rl), some (.int (i : Nat)), some (.ref dl), vf]) ⟨rows, vf, h3, hd3, fun j r e => ?_, rfl⟩ (fun _ _ _ _ _ => runs_range) ?_ ?_
        · rw [hlen j r e]
          by_cases hj : ((j : Nat) : Int) = x
          · rw [if_pos hj, if_neg (by rw [hj]; exact hxn)]
          · rw [if_neg hj]
        · rintro t y σ H4 hy ⟨rows, vf, h4, hd4, hlen4, rfl⟩
          obtain ⟨rfl, ht⟩ := range_at hy
          obtain ⟨p, r, hpa, hp, hr4, hrow, hxl⟩ := h4.at hxm
          refine ⟨_, rfl, _, rfl, _, rfl, o, _, _, _, rfl, rfl, SqL.of h4.ord, hxa, rl, _, _, _, rfl, rfl, SqL.of h4.top, hpa, .inl ⟨rfl, _, SqL.of hrow⟩, ?_⟩
          have hgl' : (gs.map V.int).length = gs.length := List.length_map _
          refine ⟨_, rfl, _, rfl, _, rfl, dl, _, rfl, .inl (SqL.of hd4), b, _, rfl, h4.bag, by rw [hgl']; omega, by rw [hgl']; omega, fun d H5 d0 d1 k5 hB5 => ?_⟩
          rw [hgl'] at d1
          have h5 := h4.take k5 hB5
          have hd5 := k5.lst fd.2.1 hd4
          obtain ⟨g, hg, hgm⟩ := atI_ints (ns := gs) d0 d1
          have hrow5 := h5.row _ _ _ hp hr4
          have hrl : r.length ≤ 1000 := by rw [hlen4 _ _ hr4]; split <;> (try split) <;> omega
          refine ⟨dl, _, _, _, rfl, rfl, SqL.of hd5, hg, p, _, _, rfl, rfl, hrow5, by rw [List.length_map]; exact Nat.lt_of_le_of_lt hrl (by decide), ?_⟩
          have e6 : r.map V.int ++ [V.int g] = (r ++ [g]).map V.int := by rw [List.map_append]; rfl
          rw [e6]
          refine ⟨rows.set x.toNat (r ++ [g]), _, h5.put hp fun z hz => ?_, ?_, fun j r2 e => ?_, rfl⟩
          · rcases List.mem_append.mp hz with z1 | z1
            · exact h5.rng r (List.mem_of_getElem? hr4) z z1
            · rw [List.mem_singleton.mp z1]
              exact hgr g (List.mem_of_getElem? hgm)
          · rw [upd_ne (fun z => fd.2.2.2.2 (by rw [z]; exact List.mem_of_getElem? hp))]
            exact hd5
          · by_cases hj : j = x.toNat
            · subst hj
              rw [List.getElem?_set_self (by rw [h5.l2]; exact hxl)] at e
              cases e
              have ex : (((x.toNat : Nat)) : Int) = x := by omega
              rw [if_pos ex, List.length_append, hlen4 _ _ hr4, if_pos ex]
              rfl
            · rw [List.getElem?_set_ne (Ne.symm hj)] at e
              have ex : ¬ ((j : Nat) : Int) = x := by omega
              rw [hlen4 _ _ e, if_neg ex, if_neg ex]
        · rintro σ H4 ⟨rows, vf, h4, hd4, hlen4, rfl⟩
          refine ⟨rows, _, _, _, h4, fun j r e => ?_, rfl⟩
          rw [hlen4 j r e, range_len]
          by_cases hj : ((j : Nat) : Int) = x
          · rw [if_pos hj, if_pos ((hxt _).mpr (.inr hj))]
            simp
          · rw [if_neg hj]
            by_cases hj2 : ((j : Nat) : Int) ∈ os.take i
            · rw [if_pos hj2, if_pos ((hxt _).mpr (.inl hj2))]
            · rw [if_neg hj2, if_neg (fun z => ((hxt _).mp z).elim hj2 hj)]
    · rintro σ H2 ⟨rows, vk, vg, vf, h2, hlen, rfl⟩
      refine k _ _ ⟨many, fans, kind, some (.int lap), o, rl, os, rps, rows, vk, vg, vf, h2, fun r hr' => ?_, a1, a2, a3, rfl⟩
      obtain ⟨j, hj, rfl⟩ := List.getElem_of_mem hr'
      rw [hlen j _ (List.getElem?_eq_getElem hj), if_pos]
      rw [range_len, List.take_of_length_le (by rw [h2.oo.len]; simp)]
      exact h2.oo.all (by rw [h2.l2] at hj; exact hj)
  refine Ho.cons (fun σ H1 => ∃ (many fans : Nat) (kind : Int) (vl : Option V) (o rl : Addr) (os : List Int) (rps : List Addr) (rows : List (List Int)) (vk vg vf : Option V), NI H b o rl many os H1 rps rows ∧ (∀ r ∈ rows, r.length = fans) ∧ 1 ≤ many ∧ (many : Int) ≤ most ∧ (fans = 2 ∨ fans = 3) ∧
      σ = [some (.ref b), some (.int most), some (.int (many : Nat)), some (.int (fans : Nat)), some (.int kind), vl, some (.ref o), some (.ref rl), vk, vg, vf]) ⟨_, (ps_if (pt_cmpR op_gt (pv 4) pe_int (nomark _))
      (pss_one (ps_for PassesOwn.never rfl (pi_range1 rfl bl.range_ (pa_cons (pv 2) pa_nil)) (pg_name (i := 8) sc__law_net.nd rfl (Or.inr rfl))
      (pss_one (ps_asg (pe_ix (ix_listK (K := K) rfl) (pv 6) (pv 8) (fun _ _ => rfl)) (pg_sub (pe_ix (ix_listK (K := K) rfl) (pv 7) (pe_ix (ix_listK (K := K) rfl) (pv 6) (pe_op op_sub (pv 8) pe_int) (fun _ _ => rfl)) (fun _ _ => rfl)) (pe_call G__law_take (hr.mono (by decide)) rfl D__law_take.mg D__law_take.fn.kp D__law_take.bd .nil pass0 (pa_cons (pv 0) (pa_cons (pv 3) pa_nil))) set_list)))))
      pss_nil), ?_⟩ ?_
  · rintro N σ H1 ⟨many, fans, kind, vl, o, rl, os, rps, rows, vk, vg, vf, h, hf, a1, a2, a3, rfl⟩ k
    refine ⟨_, rfl, _, _, rfl, rfl, _, rfl, ?_⟩
    refine ite2 (fun _ => ?_) (fun _ => k _ _ ⟨many, fans, kind, vl, o, rl, os, rps, rows, vk, vg, vf, h, hf, a1, a2, a3, rfl⟩)
    refine ⟨_, rfl, _, rfl, by omega, by omega, ?_⟩
    refine for_of (fun i σ H2 => ∃ (rows : List (List Int)) (vk : Option V), NI H b o rl many os H2 rps rows ∧ (∀ r ∈ rows, r.length = fans) ∧
      σ = [some (.ref b), some (.int most), some (.int (many : Nat)), some (.int (fans : Nat)), some (.int kind), vl, some (.ref o), some (.ref rl), vk, vg, vf]) ⟨rows, vk, h, hf, rfl⟩ (fun _ _ _ _ _ => runs_range) ?_ ?_
    · rintro i x σ H2 hx ⟨rows, vk, h2, hf2, rfl⟩
      obtain ⟨rfl, hi⟩ := range_at hx
      obtain ⟨y, hya, hym⟩ := h2.oo.at (i := (i : Nat)) (by omega) hi a1
      obtain ⟨x, hxa, hxm⟩ := h2.oo.at (i := (i : Nat) - 1) (by omega) (by omega) a1
      obtain ⟨p, r, hpa, hp, hr2, hrow, hxl⟩ := h2.at hxm
      refine ⟨_, rfl, _, rfl, o, _, _, _, rfl, rfl, SqL.of h2.ord, hya, _, rfl, _, rfl, _, rfl, _, _, rfl, rfl, o, _, _, _, rfl, rfl, SqL.of h2.ord, hxa, rl, _, _, _, rfl, rfl, SqL.of h2.top, hpa, ?_⟩
      refine ⟨_, rfl, _, rfl, b, _, rfl, h2.bag, by omega, by omega, fun d H3 d0 d1 k3 hB3 => ?_⟩
      have h3 := h2.take k3 hB3
      have hrow3 := h3.row _ _ _ hp hr2
      have hrl := hf2 r (List.mem_of_getElem? hr2)
      have hix : ixN (r.map V.int).length d = some d.toNat := by
        unfold ixN
        rw [if_pos d0, if_pos (by rw [List.length_map, hrl]; exact d1)]
      refine ⟨p, _, _, d.toNat, rfl, rfl, hrow3, hix, ?_⟩
      have e6 : (r.map V.int).set d.toNat (.int y) = (r.set d.toNat y).map V.int := by rw [List.map_set]
      rw [e6]
      refine ⟨rows.set x.toNat (r.set d.toNat y), _, h3.put hp fun z hz => ?_, fun r2 hr2' => ?_, rfl⟩
      · rcases List.mem_or_eq_of_mem_set hz with z1 | z1
        · exact h3.rng r (List.mem_of_getElem? hr2) z z1
        · rw [z1]; exact h3.oo.mem hym
      · rcases List.mem_or_eq_of_mem_set hr2' with z1 | z1
        · exact hf2 r2 z1
        · rw [z1, List.length_set]; exact hrl
    · rintro σ H2 ⟨rows, vk, h2, hf2, rfl⟩
      exact k _ _ ⟨many, fans, kind, vl, o, rl, os, rps, rows, vk, vg, vf, h2, hf2, a1, a2, a3, rfl⟩
  refine Ho.cons (fun σ H1 => ∃ (many fans : Nat) (kind : Int) (vl : Option V) (o rl : Addr) (os : List Int) (rps : List Addr) (rows : List (List Int)) (vk vg vf : Option V), NI H b o rl many os H1 rps rows ∧ (∀ r ∈ rows, r.length = fans) ∧ 1 ≤ many ∧ (many : Int) ≤ most ∧ (fans = 2 ∨ fans = 3) ∧
      σ = [some (.ref b), some (.int most), some (.int (many : Nat)), some (.int (fans : Nat)), some (.int kind), vl, some (.ref o), some (.ref rl), vk, vg, vf]) ⟨_, (ps_if (pt_cmpR op_eq (pv 4) pe_int (nomark _))
      (pss_cons (ps_for PassesOwn.never rfl (pi_range1 rfl bl.range_ (pa_cons (pv 2) pa_nil)) (pg_name (i := 8) sc__law_net.nd rfl (Or.inr rfl))
      (pss_one (ps_asg (pe_op op_rep (pe_lst (pa_cons (pe_ix (ix_listK (K := K) rfl) (pv 6) (pv 8) (fun _ _ => rfl)) pa_nil)) (pv 3)) (pg_sub (pv 7) (pe_ix (ix_listK (K := K) rfl) (pv 6) (pe_op op_sub (pv 8) pe_int) (fun _ _ => rfl)) set_list))))
    (pss_one (ps_asg (pe_call G__law_take (hr.mono (by decide)) rfl D__law_take.mg D__law_take.fn.kp D__law_take.bd .nil pass0 (pa_cons (pv 0) (pa_cons (pv 2) pa_nil))) (pg_sub (pe_ix (ix_listK (K := K) rfl) (pv 7) pe_int (fun _ _ => rfl)) pe_int set_list))))
      pss_nil), ?_⟩ ?_
  · rintro N σ H1 ⟨many, fans, kind, vl, o, rl, os, rps, rows, vk, vg, vf, h, hf, a1, a2, a3, rfl⟩ k
    refine ⟨_, rfl, rfl, _, rfl, ?_⟩
    refine ite2 (fun _ => ?_) (fun _ => k _ _ ⟨many, fans, kind, vl, o, rl, os, rps, rows, vk, vg, vf, h, hf, a1, a2, a3, rfl⟩)
    refine ⟨_, rfl, _, rfl, by omega, by omega, ?_⟩
    refine for_of (fun i σ H2 => ∃ (rps : List Addr) (rows : List (List Int)) (vk : Option V), NI H b o rl many os H2 rps rows ∧ (∀ r ∈ rows, r.length = fans) ∧
      σ = [some (.ref b), some (.int most), some (.int (many : Nat)), some (.int (fans : Nat)), some (.int kind), vl, some (.ref o), some (.ref rl), vk, vg, vf]) ⟨rps, rows, vk, h, hf, rfl⟩ (fun _ _ _ _ _ => runs_range) ?_ ?_
    · rintro i x σ H2 hx ⟨rps, rows, vk, h2, hf2, rfl⟩
      obtain ⟨rfl, hi⟩ := range_at hx
      obtain ⟨y, hya, hym⟩ := h2.oo.at (i := (i : Nat)) (by omega) hi a1
      obtain ⟨x, hxa, hxm⟩ := h2.oo.at (i := (i : Nat) - 1) (by omega) (by omega) a1
      refine ⟨_, rfl, _, rfl, o, _, _, _, rfl, rfl, SqL.of h2.ord, hya, (by show 1 ≤ sizeLine; decide), fun l1 hl1 => ?_⟩
      have h3 := h2.new hl1 (.lst [.int y])
      refine ⟨_, rfl, l1, _, _, rfl, rfl, upd_same, by omega, by omega, by show 1 * ((fans : Nat) : Int).toNat ≤ sizeLine; exact Nat.le_trans (show 1 * ((fans : Nat) : Int).toNat ≤ 3 by omega) (by decide), fun l2 hl2 => ?_⟩
      have fr2 := h3.fresh hl2
      have h4 := h3.new hl2 (.lst (List.replicate ((fans : Nat) : Int).toNat [V.int y]).flatten)
      have e5 : (List.replicate ((fans : Nat) : Int).toNat [V.int y]).flatten = (List.replicate fans y).map V.int := by
        rcases a3 with rfl | rfl <;> rfl
      obtain ⟨x0, x1⟩ := h4.oo.mem hxm
      have hix : ixN (rps.map V.ref).length x = some x.toNat := by
        unfold ixN
        rw [if_pos x0, if_pos (by rw [List.length_map, h4.l1]; exact x1)]
      refine ⟨_, rfl, _, rfl, _, rfl, _, _, rfl, rfl, o, _, _, _, rfl, rfl, SqL.of h4.ord, hxa, rl, _, _, x.toNat, rfl, rfl, h4.top, hix, ?_⟩
      refine ⟨rps.set x.toNat l2, rows.set x.toNat (List.replicate fans y), _, h4.swap (by omega) fr2 (by rw [upd_same, e5]) fun g hg => ?_, fun r hr' => ?_, rfl⟩
      · rw [List.eq_of_mem_replicate hg]; exact h4.oo.mem hym
      · rcases List.mem_or_eq_of_mem_set hr' with z1 | z1
        · exact hf2 r z1
        · rw [z1, List.length_replicate]
    · rintro σ H2 ⟨rps, rows, vk, h2, hf2, rfl⟩
      have hp0 : 0 < rps.length := by rw [h2.l1]; omega
      have hr0 : 0 < rows.length := by rw [h2.l2]; omega
      refine ⟨_, rfl, _, rfl, b, _, rfl, h2.bag, by omega, by omega, fun d H3 d0 d1 k3 hB3 => ?_⟩
      have h3 := h2.take k3 hB3
      have e1 : rps[0]? = some rps[0] := List.getElem?_eq_getElem hp0
      have e2 : rows[0]? = some rows[0] := List.getElem?_eq_getElem hr0
      have hrow3 := h3.row _ _ _ e1 e2
      have hrl := hf2 rows[0] (List.getElem_mem hr0)
      refine ⟨_, rfl, rl, _, _, _, rfl, rfl, SqL.of h3.top, atI_nat (j := 0) (by rw [List.getElem?_map, e1]; rfl), _, _, _, 0, rfl, rfl, hrow3, ?_, ?_⟩
      · unfold ixN
        rw [if_pos (by decide), if_pos (by rw [List.length_map, hrl]; omega)]
        rfl
      have e6 : (rows[0].map V.int).set 0 (.int d) = (rows[0].set 0 d).map V.int := by rw [List.map_set]
      rw [e6]
      refine k _ _ ⟨many, fans, kind, vl, o, rl, os, rps, rows.set 0 (rows[0].set 0 d), vk, vg, vf, h3.put e1 fun z hz => ?_, fun r2 hr2' => ?_, a1, a2, a3, rfl⟩
      · rcases List.mem_or_eq_of_mem_set hz with z1 | z1
        · exact h3.rng _ (List.getElem_mem hr0) z z1
        · rw [z1]; exact ⟨d0, d1⟩
      · rcases List.mem_or_eq_of_mem_set hr2' with z1 | z1
        · exact hf2 r2 z1
        · rw [z1, List.length_set]; exact hrl
  refine Ho.last ⟨_, (ps_ret (pe_callTy (call_tuple_ofK (K := K) rfl) rfl bl.tuple_ bt_tuple (pa_cons (pe_listcomp (N' := ["_law_row"]) (tn := 1) (idx := []) rfl (show BlockOk ["_law_bag_here", "_law_most", "_law_many", "_law_fans", "_law_kind", "_law_lap", "_law_order_here", "_law_rows", "_law_k", "_law_goals", "_law_fan"] (defScope s__law_net) _ ["_law_row"] 1 [] from by decide +kernel) (pi_listK (K := K) rfl (pv 7)) (fun _ _ _ _ _ => (pg_name (i := 0) (show List.Nodup [("_law_row" : Str)] from by decide +kernel) rfl (Or.inl rfl))) (fun _ _ _ _ _ => pif_nil) (fun _ _ _ _ _ => (pe_callTy (call_tuple_ofK (K := K) rfl) rfl bl.tuple_ bt_tuple (pa_cons (pv 0) pa_nil)))) pa_nil))), ?_⟩
  rintro σ H1 ⟨many, fans, kind, vl, o, rl, os, rps, rows, vk, vg, vf, h, hf, a1, a2, a3, rfl⟩
  have e0 : SqL K H1 rl (rps.map V.ref) := SqL.of h.top
  refine ⟨_, rfl, rl, rfl, ⟨_, e0⟩, fun dl hdl => ?_⟩
  have fd := h.fresh hdl
  refine tturn0 (xs := rps.map V.ref) (τ0 := [none]) (fun i acc H2 => NI H b o rl many os H2 rps rows ∧ H2 dl = some (.lst acc) ∧ Paired (RowAt H2) acc (rows.take i)) (fun i acc H2 _ h2 => runs_list (SqL.of h2.1.top)) ⟨h.new hdl _, upd_same, .nil⟩ ?_ ?_
  · rintro i x acc H2 hx ⟨h2, hd2, pr⟩ R hR
    rw [List.getElem?_map] at hx
    cases ep : rps[i]? with
    | none => rw [ep] at hx; cases hx
    | some p =>
      rw [ep] at hx
      obtain rfl : x = .ref p := (Option.some.inj hx).symm
      have hi : i < rows.length := by rw [h2.l2, ← h2.l1]; exact (List.getElem?_eq_some_iff.mp ep).1
      have er : rows[i]? = some rows[i] := List.getElem?_eq_getElem hi
      have hrow := h2.row _ _ _ ep er
      refine ⟨_, rfl, p, _, rfl, .inl ⟨SqL.of hrow, fun t ht => ?_⟩⟩
      have kk : Keep H2 (upd H2 t (.tup (rows[i].map V.int))) := .new ht _
      have hl := pr.length
      have dt : dl ≠ t := ne_of_none hd2 ht
      refine hR _ _ (kk.lst hd2) (by rw [hl, List.length_take]; exact Nat.lt_of_le_of_lt (show min i rows.length ≤ 1000 by have := h2.l2; omega) (by decide)) ⟨(h2.new ht _).other fd _, upd_same, ?_⟩
      rw [List.take_add_one, er]
      have mv : ∀ v r, RowAt H2 v r → RowAt (upd (upd H2 t (.tup (rows[i].map V.int))) dl (.lst (acc ++ [.ref t]))) v r := fun v r ⟨a, e1, e2⟩ => ⟨a, e1, by
        rw [upd_ne (fun z => by rw [z, hd2] at e2; cases e2)]
        exact kk.tup e2⟩
      refine Paired.snoc (Paired.mapP pr mv) ⟨t, rfl, by rw [upd_ne (Ne.symm dt)]; exact upd_same⟩
  · rintro acc H2 ⟨h2, hd2, pr⟩
    refine ⟨dl, acc, rfl, .inl ⟨SqL.of hd2, fun a ha => ?_⟩⟩
    have kk : Keep H2 (upd H2 a (.tup acc)) := .new ha _
    have hlen : (rps.map V.ref).length = many := by rw [List.length_map, h2.l1]
    rw [hlen, List.take_of_length_le (by rw [h2.l2]; exact Nat.le_refl _)] at pr
    refine q (.ref a) rows fans _ ⟨a, acc, rfl, upd_same, Paired.mapP pr fun v r hv => hv.keep kk⟩ ⟨by rw [h2.l2]; exact a1, by rw [h2.l2]; omega, a3, fun r hr' => ⟨hf r hr', fun g hg => ?_⟩⟩ (h2.kp.trans (kk.but b)) (h2.bag.keep kk) (by rw [h2.l2]; exact a2)
    rw [h2.l2]
    exact h2.rng r hr' g hg
end
end My

set_option Elab.async false
set_option maxRecDepth 100000
set_option maxHeartbeats 4000000
namespace My
open PySem L2 PyProof.Rows
section
variable {P : Program} {w : World} {K : PySem.W.Frag} {mg : Str → Option Value} {base : Heap} {tb : List Addr}
theorem net_but {H H' : Hp} {b : Addr} {v : V} {net : List (List Int)} (h : NetAt H v net) (hB : BagAt H b) (k : KeepBut b H H') : NetAt H' v net := by
  obtain ⟨c, m, e, _⟩ := hB
  have nt : ∀ p xs, H p = some (.tup xs) → p ≠ b := fun p xs e2 z => by rw [z, e] at e2; cases e2
  obtain ⟨a, rs, e1, q, r⟩ := h
  exact ⟨a, rs, e1, k.tup (nt a _ q) q, Paired.mapP r fun _ _ ⟨p, z1, z2⟩ => ⟨p, z1, k.tup (nt p _ z2) z2⟩⟩
theorem range_rangeI (n : Nat) : ((List.range n).map fun i => V.int (0 + (i : Nat))) = (rangeI n).map V.int := by
  unfold rangeI
  rw [List.map_map]
  refine List.map_congr_left fun i _ => ?_
  show V.int (0 + (i : Int)) = V.int (i : Int)
  rw [Int.zero_add]
theorem rangeI_at {n i : Nat} {x : V} (h : ((rangeI n).map V.int)[i]? = some x) : x = .int (i : Nat) ∧ i < n := by
  unfold rangeI at h
  rw [List.map_map, List.getElem?_map] at h
  cases e : (List.range n)[i]? with
  | none => rw [e] at h; cases h
  | some k =>
    rw [e] at h
    obtain ⟨h1, h2⟩ := List.getElem?_eq_some_iff.mp e
    rw [List.getElem_range] at h2
    subst h2
    exact ⟨(Option.some.inj h).symm, by simpa using h1⟩
def spLaw (K : PySem.W.Frag) (tb : List Addr) : Sp := fun vs H Q _ => ∃ (a : Addr) (ns : List Int), vs = [.ref a] ∧ SqL K H a (ns.map V.int) ∧ ns.length ≤ 63 ∧ TbAll tb H ∧ ∀ H', Q (.bl true) H'
theorem tb_but {tb : List Addr} {H H' : Hp} {b : Addr} (h : TbAll tb H) (hB : BagAt H b) (k : KeepBut b H H') : TbAll tb H' := fun p hp => by
  obtain ⟨ps, e, t⟩ := h p hp
  obtain ⟨c, m, e2, _⟩ := hB
  have : p ≠ b := fun z => by rw [z, e2] at e; cases e
  rcases k p _ this e with z | ⟨_, ps', _, z, t'⟩
  · exact ⟨ps, z, t⟩
  · exact ⟨ps', z, t'⟩
theorem range_atN {m i : Nat} {x : V} (h : ((List.range m).map fun i => V.int (0 + (i : Nat)))[i]? = some x) : x = .int (i : Nat) ∧ i < m := by
  rw [range_rangeI] at h
  exact rangeI_at h
structure Ctx (b : Addr) (v : V) (net : List (List Int)) (n : Nat) (tb : List Addr) (H0 H : Hp) : Prop where
  kb : KeepBut b H0 H
  bag : BagAt H b
  net : NetAt H v net
  tabs : TbAll tb H
theorem Ctx.keep {b : Addr} {v : V} {net : List (List Int)} {n : Nat} {tb : List Addr} {H0 H H' : Hp} (c : Ctx b v net n tb H0 H) (k : Keep H H') : Ctx b v net n tb H0 H' := ⟨c.kb.trans (k.but b), c.bag.keep k, c.net.keep k, TbAll.keep k c.tabs⟩
theorem Ctx.but {b : Addr} {v : V} {net : List (List Int)} {n : Nat} {tb : List Addr} {H0 H H' : Hp} (c : Ctx b v net n tb H0 H) (k : KeepBut b H H') (hB : BagAt H' b) : Ctx b v net n tb H0 H' := ⟨c.kb.trans k, hB, net_but c.net c.bag k, tb_but c.tabs c.bag k⟩
theorem hoI_lastS {X : Cx} {st : Stmt} {ι : Type} {Pre Mid : ι → L2.St → Hp → Prop} {D : ι → Ends} (h : HsI X st Pre Mid D) (fin : ∀ i σ H, Mid i σ H → (D i).nx σ H) : HoI X [st] Pre D := by
  obtain ⟨t, ht, q⟩ := h
  exact HoI.last ⟨t, ht, fun i σ H p => q i (D i).nx σ H p (fin i)⟩

theorem cells_eq (m : Nat) (k : Nat) (hm : 1 ≤ m) : (if (if (k : Int) < (m : Nat) then (k : Int) else (m : Nat)) > 1 then (if (k : Int) < (m : Nat) then (k : Int) else (m : Nat)) else 1).toNat = max 1 (min m k) := by
  split <;> (try split) <;> omega
end
end My

set_option Elab.async false
set_option maxRecDepth 100000
set_option maxHeartbeats 4000000
namespace My
open PySem L2 PyProof.Rows
section

def KdB (b : Addr) (H : Hp) (v : V) : Prop := Kd H v ∧ v ≠ .ref b
theorem KdB.keep {b : Addr} {H H' : Hp} {v : V} (h : KdB b H v) (k : Keep H H') : KdB b H' v := ⟨h.1.keep k, h.2⟩
theorem KdB.but {b : Addr} {H H' : Hp} {v : V} (h : KdB b H v) (k : KeepBut b H H') : KdB b H' v := by
  obtain ⟨h, n⟩ := h
  refine ⟨?_, n⟩
  cases h with
  | non => exact .non
  | bl b => exact .bl b
  | int i => exact .int i
  | str x => exact .str x
  | lst e => exact .lst (k.lst (fun z => n (by rw [z])) e)
  | tup e => exact .tup (k.tup (fun z => n (by rw [z])) e)
theorem below_no {m : Nat} {i : Int} (h : ¬ (0 ≤ i ∧ i < (m : Nat))) : below (m : Nat) (.int i) = false := by
  simp only [below]
  rw [Bool.and_eq_false_iff, decide_eq_false_iff_not, decide_eq_false_iff_not]
  omega
end
end My

set_option Elab.async false
set_option maxRecDepth 100000
set_option maxHeartbeats 4000000
namespace My
open PySem L2 PyProof.Rows
section
variable {P : Program} {w : World} {K : PySem.W.Frag} {mg : Str → Option Value} {base : Heap} {tb : List Addr}
theorem sc__law_is_whole : FnScope ["_law_thing"] ["_law_thing"] (defScope s__law_is_whole) := ⟨rfl, rfl, rfl, by decide +kernel, rfl, by decide +kernel, by decide +kernel⟩
theorem sc__law_is_net : FnScope ["_law_thing", "_law_row", "_law_place"] ["_law_thing"] (defScope s__law_is_net) := ⟨rfl, rfl, rfl, by decide +kernel, rfl, by decide +kernel, by decide +kernel⟩
theorem ok_law_is_whole {f : Addr} {fd : FuncData} (D : Df K mg "_law_is_whole" s__law_is_whole ["_law_thing"] f fd) (bl : Bl mg) : FnOk P w K mg base CX0 1 f fd ["_law_thing"] spIsWhole := by
  refine D.fn.ok sc__law_is_whole (fun vs H Q E h => ?_) (fun cdv A outer s H vs Q E hr h => ?_)
  · obtain ⟨x, rfl, _⟩ := h
    rfl
  · obtain ⟨x, rfl, kd, q⟩ := h
    refine ⟨_, (pss_one (ps_ret (pe_and (pe_callB (call_isinstK (K := K) rfl) rfl bl.isinstance_ bt_isinstance (pa_cons (pv 0) (pa_cons (pe_bltn (v := .ty "int") rfl bl.int_ bt_int rfl) pa_nil))) (pe_one (pe_not (pe_callB (call_isinstK (K := K) rfl) rfl bl.isinstance_ bt_isinstance (pa_cons (pv 0) (pa_cons (pe_bltn (v := .ty "bool") rfl bl.bool_ bt_bool rfl) pa_nil)))))))), ?_⟩
    obtain ⟨t, ty, e⟩ := kd_int (K := K) kd
    obtain ⟨t2, ty2, e2⟩ := kd_bool (K := K) kd
    refine ⟨_, rfl, x, "int", t, _, rfl, ty, e, _, rfl, ?_⟩
    have z : ∀ b : Bool, b = isI x → Q (.bl b) H := fun b e => by rw [e]; exact q
    refine ite2 (fun c => ?_) (fun c => ?_)
    · refine ⟨_, rfl, x, "bool", t2, _, rfl, ty2, e2, _, rfl, z _ ?_⟩
      cases x <;> first | rfl | (exfalso; exact absurd c (by simp [isI, isB]))
    · refine z _ ?_
      cases x <;> first | rfl | (exfalso; exact c (by simp [isI, isB]))

def RowP (H : Hp) (m : Int) (r : V) : Prop := ∃ a ys, r = .ref a ∧ H a = some (.tup ys) ∧ 2 ≤ ys.length ∧ ys.length ≤ 3 ∧ ys.all (below m) = true
def lenI (H : Hp) : V → Int
  | .ref a => (match H a with | some (.tup ys) => (ys.length : Nat) | _ => 0)
  | _ => 0
theorem RowP.rowB {H : Hp} {m : Int} {r : V} {n : Nat} (h : RowP H m r) : rowB H m n r = decide (lenI H r = (n : Nat)) := by
  obtain ⟨a, ys, rfl, e, _, _, hb⟩ := h
  simp only [L2.rowB, lenI, e, hb, Bool.and_true]
  exact decide_eq_decide.mpr (by omega)
theorem RowP.len {H : Hp} {m : Int} {r : V} (h : RowP H m r) : lenI H r = 2 ∨ lenI H r = 3 := by
  obtain ⟨a, ys, rfl, e, _, _, hb⟩ := h
  simp only [lenI, e]
  omega
theorem one_len {l : List Int} (nd : l.Nodup) (c : Int) (h : ∀ x ∈ l, x = c) (ne : l ≠ []) : l.length = 1 := by
  match l, nd, h, ne with
  | [], _, _, ne => exact absurd rfl ne
  | [x], _, _, _ => rfl
  | x :: y :: t, nd, h, _ =>
    have h1 := h x (by simp)
    have h2 := h y (by simp)
    rw [List.nodup_cons] at nd
    exact absurd (by rw [h1, h2]; simp) nd.1
theorem net_lens {H : Hp} {a : Addr} {rs : List V} (ea : H a = some (.tup rs)) (h1 : 1 ≤ rs.length) (h9 : rs.length ≤ 9) (hr : ∀ r ∈ rs, RowP H rs.length r) :
    netB H (.ref a) = decide ((((dedI (rs.map (lenI H))).length : Nat) : Int) = 1) := by
  have e0 : netB H (.ref a) = (rs.all (rowB H rs.length 2) || rs.all (rowB H rs.length 3)) := by
    have e : netB H (.ref a) = (decide (1 ≤ rs.length ∧ rs.length ≤ 9) && (rs.all (rowB H rs.length 2) || rs.all (rowB H rs.length 3))) := by simp only [netB, ea]
    rw [e, decide_eq_true ⟨h1, h9⟩, Bool.true_and]
  have hm : ∀ k, k ∈ dedI (rs.map (lenI H)) ↔ ∃ r ∈ rs, lenI H r = k := fun k => by rw [dedI_mem, List.mem_map]
  have ne : dedI (rs.map (lenI H)) ≠ [] := fun e => by
    match rs, h1, hm with
    | r :: t, _, hm =>
      have := (hm (lenI H r)).mpr ⟨r, by simp, rfl⟩
      rw [e] at this
      cases this
  have yes : ∀ n : Nat, rs.all (rowB H rs.length n) = true → (dedI (rs.map (lenI H))).length = 1 := fun n ha => by
    refine one_len (dedI_nodup _) (n : Nat) (fun x hx => ?_) ne
    obtain ⟨r, hr1, rfl⟩ := (hm x).mp hx
    have := List.all_eq_true.mp ha r hr1
    rw [(hr r hr1).rowB] at this
    exact of_decide_eq_true this
  rw [e0]
  cases c2 : rs.all (rowB H rs.length 2) with
  | true => rw [Bool.true_or, yes 2 c2]; rfl
  | false =>
    cases c3 : rs.all (rowB H rs.length 3) with
    | true => rw [yes 3 c3]; rfl
    | false =>
      refine (decide_eq_false fun hl => ?_).symm
      obtain ⟨k, hk⟩ := List.length_eq_one_iff.mp (show (dedI (rs.map (lenI H))).length = 1 by omega)
      have hall : ∀ r ∈ rs, lenI H r = k := fun r hr1 => by
        have := (hm (lenI H r)).mpr ⟨r, hr1, rfl⟩
        rw [hk] at this
        exact List.mem_singleton.mp this
      obtain ⟨r0, hr0, e1⟩ := (hm k).mp (by rw [hk]; simp)
      have all : ∀ n : Nat, k = (n : Nat) → rs.all (rowB H rs.length n) = true := fun n hn => List.all_eq_true.mpr fun r hr1 => by
        rw [(hr r hr1).rowB]
        exact decide_eq_true (by rw [hall r hr1, hn])
      rcases (hr r0 hr0).len with q | q
      · exact absurd (all 2 (by rw [← e1, q]; rfl)) (by rw [c2]; decide)
      · exact absurd (all 3 (by rw [← e1, q]; rfl)) (by rw [c3]; decide)
theorem netB_bad {H : Hp} {a : Addr} {rs : List V} {r : V} (ea : H a = some (.tup rs)) (hr : r ∈ rs) (h : rowB H rs.length 2 r = false) (h3 : rowB H rs.length 3 r = false) : netB H (.ref a) = false := by
  have e : netB H (.ref a) = (decide (1 ≤ rs.length ∧ rs.length ≤ 9) && (rs.all (rowB H rs.length 2) || rs.all (rowB H rs.length 3))) := by simp only [netB, ea]
  have g : ∀ n, rowB H rs.length n r = false → rs.all (rowB H rs.length n) = false := fun n hn => Bool.eq_false_iff.mpr fun c => by
    rw [List.all_eq_true.mp c r hr] at hn
    cases hn
  rw [e, g 2 h, g 3 h3, Bool.or_self, Bool.and_false]
def spLNet : Sp := fun vs H Q _ => ∃ x, vs = [x] ∧ Th H 2 x ∧ ∀ H', Keep H H' → Q (.bl (netB H x)) H'
theorem ok_law_is_net {f f1 : Addr} {fd fd1 : FuncData} (D : Df K mg "_law_is_net" s__law_is_net ["_law_thing"] f fd)
    (D__law_is_whole : Df K mg "_law_is_whole" s__law_is_whole ["_law_thing"] f1 fd1) (bl : Bl mg) : FnOk P w K mg base CX0 2 f fd ["_law_thing"] spLNet := by
  have G__law_is_whole : FnOk P w K mg base CX0 1 f1 fd1 ["_law_thing"] spIsWhole := ok_law_is_whole D__law_is_whole bl
  refine D.fn.ok sc__law_is_net (fun vs H Q E h => ?_) (fun cdv A outer s H vs Q E hr h => ?_)
  · obtain ⟨x, rfl, _⟩ := h
    rfl
  obtain ⟨x, rfl, th, q⟩ := h
  refine ⟨_, (pss_cons (ps_if (PW.pt (pw_or (pt_not (pt_val (pe_callB (call_isinstK (K := K) rfl) rfl bl.isinstance_ bt_isinstance (pa_cons (pv 0) (pa_cons (pe_bltn (v := .ty "tuple") rfl bl.tuple_ bt_tuple rfl) pa_nil))))) (pw_or (pt_cmpR op_eq (pe_callB (call_len_seqK (K := K) rfl) rfl bl.len_ PySem.boot_len (pa_cons (pv 0) pa_nil)) pe_int (nomark _)) (pw_or1 (pt_cmpR op_gt (pe_callB (call_len_seqK (K := K) rfl) rfl bl.len_ PySem.boot_len (pa_cons (pv 0) pa_nil)) pe_int (nomark _))))))
      (pss_one (ps_ret pe_bl))
      pss_nil)
    (pss_cons (ps_for PassesOwn.never rfl (pi_tupK (K := K) rfl (pv 0)) (pg_name (i := 1) sc__law_is_net.nd rfl (Or.inl rfl))
      (pss_cons (ps_if (PW.pt (pw_or (pt_not (pt_val (pe_callB (call_isinstK (K := K) rfl) rfl bl.isinstance_ bt_isinstance (pa_cons (pv 1) (pa_cons (pe_bltn (v := .ty "tuple") rfl bl.tuple_ bt_tuple rfl) pa_nil))))) (pw_or (pt_cmpR op_lt (pe_callB (call_len_seqK (K := K) rfl) rfl bl.len_ PySem.boot_len (pa_cons (pv 1) pa_nil)) pe_int (nomark _)) (pw_or1 (pt_cmpR op_gt (pe_callB (call_len_seqK (K := K) rfl) rfl bl.len_ PySem.boot_len (pa_cons (pv 1) pa_nil)) pe_int (nomark _))))))
      (pss_one (ps_ret pe_bl))
      pss_nil)
    (pss_one (ps_for PassesOwn.never rfl (pi_tupK (K := K) rfl (pv 1)) (pg_name (i := 2) sc__law_is_net.nd rfl (Or.inl rfl))
      (pss_one (ps_if (PW.pt (pw_or (pt_not (pt_val (pe_call G__law_is_whole (hr.mono (by decide)) rfl D__law_is_whole.mg D__law_is_whole.fn.kp D__law_is_whole.bd .nil pass0 (pa_cons (pv 2) pa_nil)))) (pw_or (pt_cmpR op_lt (pv 2) pe_int (nomark _)) (pw_or1 (pt_cmpR op_ge (pv 2) (pe_callB (call_len_seqK (K := K) rfl) rfl bl.len_ PySem.boot_len (pa_cons (pv 0) pa_nil)) (nomark _))))))
      (pss_one (ps_ret pe_bl))
      pss_nil))))))
    (pss_one (ps_ret (pe_cmpR op_eq (pe_callB call_lenS rfl bl.len_ PySem.boot_len (pa_cons (pe_callTy (call_setRK (K := K) rfl rfl) rfl bl.set_ bt_set (pa_cons (pe_listcomp (N' := ["_law_row"]) (tn := 1) (idx := []) rfl (show BlockOk ["_law_thing", "_law_row", "_law_place"] (defScope s__law_is_net) _ ["_law_row"] 1 [] from by decide +kernel) (pi_tupK (K := K) rfl (pv 0)) (fun _ _ _ _ _ => (pg_name (i := 0) (show List.Nodup [("_law_row" : Str)] from by decide +kernel) rfl (Or.inl rfl))) (fun _ _ _ _ _ => pif_nil) (fun _ _ _ _ _ => (pe_callB (call_len_seqK (K := K) rfl) rfl bl.len_ PySem.boot_len (pa_cons (pv 0) pa_nil)))) pa_nil)) pa_nil)) pe_int (nomark _)))))), ?_⟩
  obtain ⟨t, ty, e⟩ := kd_tup (K := K) th.1
  refine ⟨_, rfl, x, "tuple", t, _, rfl, ty, e, _, rfl, ?_⟩
  have z : ∀ b : Bool, b = netB H x → ∀ H', Keep H H' → Q (.bl b) H' := fun b e H' k => by rw [e]; exact q H' k
  have kd := th.1
  cases kd with
  | @tup a rs ea =>
    have hT : isT H (.ref a) = true := by simp only [isT, ea]
    rw [hT]
    refine iteF ?_
    have eN : netB H (.ref a) = (decide (1 ≤ rs.length ∧ rs.length ≤ 9) && (rs.all (rowB H rs.length 2) || rs.all (rowB H rs.length 3))) := by simp only [netB, ea]
    have bad : ¬ (1 ≤ rs.length ∧ rs.length ≤ 9) → netB H (.ref a) = false := fun h => by rw [eN, decide_eq_false h]; rfl
    refine ⟨_, rfl, a, rs, rfl, .inr (SqT.of ea), rfl, _, rfl, ?_⟩
    refine ite2 (fun c1 => ?_) (fun c1 => ?_)
    · have c1' : V.int (rs.length : Nat) = .int 0 := of_decide_eq_true c1
      injection c1' with c1'
      exact iteT (z _ (bad (by omega)).symm H (.refl _))
    have c1' : rs.length ≠ 0 := fun h => c1 (decide_eq_true (by rw [h]; rfl))
    refine ⟨_, rfl, a, rs, rfl, .inr (SqT.of ea), _, _, rfl, rfl, _, rfl, ?_⟩
    refine ite2 (fun c2 => ?_) (fun c2 => ?_)
    · have c2' := of_decide_eq_true c2
      exact z _ (bad (by omega)).symm H (.refl _)
    have c2' : ¬ ((9 : Int) < (rs.length : Nat)) := fun h => c2 (decide_eq_true h)
    refine ⟨_, rfl, a, rfl, ⟨_, SqT.of ea⟩, ?_⟩
    refine for_of (xs := rs) (fun i σ H1 => Keep H H1 ∧ (∃ v1 v2, σ = [some (.ref a), v1, v2]) ∧ ∀ r ∈ rs.take i, RowP H rs.length r) ⟨.refl _, ⟨_, _, rfl⟩, fun r h => by simp at h⟩ (fun i σ H1 _ p => runs_tup (SqT.of (p.1.tup ea))) ?_ ?_
    · rintro i r σ H1 hx ⟨k1, ⟨v1, v2, rfl⟩, hp⟩
      have hm := List.mem_of_getElem? hx
      have thr := th.2 a rs rfl ea r hm
      have thr1 := thr.keep k1
      obtain ⟨t2, ty2, e2⟩ := kd_tup (K := K) thr1.1
      refine ⟨_, rfl, r, "tuple", t2, _, rfl, ty2, e2, _, rfl, ?_⟩
      have nob : rowB H rs.length 2 r = false → rowB H rs.length 3 r = false → ∀ H', Keep H H' → Q (.bl false) H' := fun h2 h3 => z _ (netB_bad ea hm h2 h3).symm
      have kr := thr.1
      cases kr with
      | @tup ra ys er =>
        have hT : isT H1 (.ref ra) = true := by simp only [isT, k1.tup er]
        have eR : ∀ n, rowB H rs.length n (.ref ra) = (decide (ys.length = n) && ys.all (below rs.length)) := fun n => by simp only [rowB, er]
        rw [hT]
        refine iteF ?_
        refine ⟨_, rfl, ra, ys, rfl, .inr (SqT.of (k1.tup er)), _, _, rfl, rfl, _, rfl, ?_⟩
        refine ite2 (fun c3 => ?_) (fun c3 => ?_)
        · have c3' := of_decide_eq_true c3
          exact iteT (nob (by rw [eR, decide_eq_false (by omega)]; rfl) (by rw [eR, decide_eq_false (by omega)]; rfl) H1 k1)
        have c3' : ¬ (((ys.length : Nat) : Int) < 2) := fun h => c3 (decide_eq_true h)
        refine ⟨_, rfl, ra, ys, rfl, .inr (SqT.of (k1.tup er)), _, _, rfl, rfl, _, rfl, ?_⟩
        refine ite2 (fun c4 => ?_) (fun c4 => ?_)
        · have c4' := of_decide_eq_true c4
          exact nob (by rw [eR, decide_eq_false (by omega)]; rfl) (by rw [eR, decide_eq_false (by omega)]; rfl) H1 k1
        have c4' : ¬ ((3 : Int) < (ys.length : Nat)) := fun h => c4 (decide_eq_true h)
        refine ⟨_, rfl, ra, rfl, ⟨_, SqT.of (k1.tup er)⟩, ?_⟩
        refine for_of (xs := ys) (fun j σ H2 => Keep H H2 ∧ (∃ v2, σ = [some (.ref a), some (.ref ra), v2]) ∧ (ys.take j).all (below rs.length) = true) ⟨k1, ⟨_, rfl⟩, rfl⟩ (fun j σ H2 _ p => runs_tup (SqT.of (p.1.tup er))) ?_ ?_
        · rintro j y σ H2 hy ⟨k2, ⟨v2, rfl⟩, hq⟩
          have hmy := List.mem_of_getElem? hy
          have ky := (thr.2 ra ys rfl er y hmy).keep k2
          have noy : below rs.length y = false → Q (.bl false) H2 := fun hb => by
            have : ys.all (below rs.length) = false := Bool.eq_false_iff.mpr fun c => by rw [List.all_eq_true.mp c y hmy] at hb; cases hb
            exact nob (by rw [eR, this, Bool.and_false]) (by rw [eR, this, Bool.and_false]) H2 k2
          have yes : below rs.length y = true → (ys.take (j + 1)).all (below rs.length) = true := fun hb => by
            rw [List.take_add_one, hy, List.all_append, hq]
            simpa using hb
          refine ⟨_, rfl, y, rfl, ky, _, rfl, ?_⟩
          cases y with
          | int i2 =>
            refine iteF ?_
            refine ⟨_, rfl, _, _, rfl, rfl, _, rfl, ?_⟩
            refine ite2 (fun c5 => ?_) (fun c5 => ?_)
            · have c5' := of_decide_eq_true c5
              exact iteT (noy (below_no (by omega)))
            have c5' : ¬ (i2 < 0) := fun h => c5 (decide_eq_true h)
            refine ⟨_, rfl, _, rfl, a, rs, rfl, .inr (SqT.of (k2.tup ea)), _, _, rfl, rfl, _, rfl, ?_⟩
            refine ite2 (fun c6 => ?_) (fun c6 => ?_)
            · have c6' := of_decide_eq_true c6
              exact noy (below_no (by omega))
            have c6' : ¬ (((rs.length : Nat) : Int) ≤ i2) := fun h => c6 (decide_eq_true h)
            exact ⟨k2, ⟨_, rfl⟩, yes (by show (decide (0 ≤ i2) && decide (i2 < _)) = true; rw [decide_eq_true (by omega), decide_eq_true (by omega)]; rfl)⟩
          | _ => exact iteT (iteT (noy rfl))
        · rintro σ H2 ⟨k2, ⟨v2, rfl⟩, hq⟩
          rw [List.take_length] at hq
          refine ⟨k2, ⟨_, _, rfl⟩, fun r2 hr2 => ?_⟩
          rw [List.take_add_one, hx, List.mem_append] at hr2
          rcases hr2 with hr2 | hr2
          · exact hp r2 hr2
          · have : r2 = .ref ra := by simpa using hr2
            exact ⟨ra, ys, this, er, by omega, by omega, hq⟩
      | @lst ra ys er =>
        have hT : isT H1 (.ref ra) = false := by simp only [isT, k1.lst er]
        rw [hT]
        exact iteT (iteT (nob (by simp only [rowB, er]) (by simp only [rowB, er]) H1 k1))
      | _ => exact iteT (iteT (nob rfl rfl H1 k1))
    · rintro σ H1 ⟨k1, ⟨v1, v2, rfl⟩, hp⟩
      rw [List.take_length] at hp
      refine ⟨_, rfl, a, rfl, ⟨_, SqT.of (k1.tup ea)⟩, fun l hl => ?_⟩
      refine comp_map (xs := rs) (τ0 := [none]) (fun v => .int (lenI H v)) hl (fun H4 k4 => runs_tup (SqT.of ((k1.trans k4).tup ea))) (Nat.lt_of_le_of_lt (show rs.length ≤ 9 by omega) (by decide)) (fun i r hr H4 k4 R hR => ?_) (fun H4 k4 hS4 => ?_)
      · obtain ⟨ra, ys, rfl, er, _⟩ := hp r (List.mem_of_getElem? hr)
        have hR2 := hR H4 (.refl _)
        simp only [lenI, er] at hR2
        exact ⟨_, rfl, ra, ys, rfl, .inr (SqT.of ((k1.trans k4).tup er)), hR2⟩
      · have hS5 : H4 l = some (.lst ((rs.map (lenI H)).map V.int)) := by rw [List.map_map]; exact hS4
        refine ⟨l, _, rfl, .inl (SqL.of hS5), Nat.lt_of_le_of_lt (show (rs.map (lenI H)).length + 1 ≤ 10 by rw [List.length_map]; omega) (by decide), fun l2 hl2 => ?_⟩
        refine ⟨l2, _, rfl, upd_same, rfl, ?_⟩
        refine z _ ?_ _ ((k1.trans k4).trans (.new hl2 _))
        rw [net_lens ea (by omega) (by omega) hp]
        exact decide_eq_decide.mpr ⟨fun h => by injection h, fun h => by rw [h]⟩
  | @lst a ys ea =>
    have hT : isT H (.ref a) = false := by simp only [isT, ea]
    rw [hT]
    exact iteT (iteT (z _ (by simp only [netB, ea]) H (.refl _)))
  | _ => exact iteT (iteT (z _ rfl H (.refl _)))
end
end My

set_option Elab.async false
set_option maxRecDepth 100000
set_option maxHeartbeats 4000000
namespace My
open PySem L2 PyProof.Rows
section
variable {P : Program} {w : World} {K : PySem.W.Frag} {mg : Str → Option Value} {base : Heap} {tb : List Addr}
theorem sc__law_odd : FnScope ["_law_bag_here", "_law_many", "_law_some"] ["_law_bag_here", "_law_many"] (defScope s__law_odd) := ⟨rfl, rfl, rfl, by decide +kernel, rfl, by decide +kernel, by decide +kernel⟩
theorem sc__law_none : FnScope ["_law_bag_here", "_law_net_here", "_law_some"] ["_law_bag_here", "_law_net_here"] (defScope s__law_none) := ⟨rfl, rfl, rfl, by decide +kernel, rfl, by decide +kernel, by decide +kernel⟩

def ThB (b : Addr) (H : Hp) : Nat → V → Prop
  | 0, x => KdB b H x
  | n + 1, x => KdB b H x ∧ ∀ a ys, x = .ref a → H a = some (.tup ys) → ∀ y ∈ ys, ThB b H n y
theorem ThB.kd {b : Addr} {H : Hp} {n : Nat} {x : V} (h : ThB b H n x) : KdB b H x := by
  cases n with
  | zero => exact h
  | succ n => exact h.1
theorem ThB.th {b : Addr} {H : Hp} : ∀ {n : Nat} {x : V}, ThB b H n x → Th H n x
  | 0, _, h => h.1
  | n + 1, _, h => ⟨h.1.1, fun a ys e1 e2 y hy => (h.2 a ys e1 e2 y hy).th⟩
theorem ThB.but {b : Addr} {H H' : Hp} (k : KeepBut b H H') : ∀ {n : Nat} {x : V}, ThB b H n x → ThB b H' n x
  | 0, _, h => KdB.but h k
  | n + 1, x, h => ⟨h.1.but k, fun a ys e e' y hy => by
    obtain ⟨q, nb⟩ := h.1
    subst e
    have ab : a ≠ b := fun z => nb (by rw [z])
    cases q with
    | lst e2 => rw [k.lst ab e2] at e'; cases e'
    | tup e2 =>
      have e3 := k.tup ab e2
      rw [e3] at e'
      cases e'
      exact (h.2 a _ rfl e2 y hy).but k⟩
theorem ThB.keep {b : Addr} {H H' : Hp} {n : Nat} {x : V} (h : ThB b H n x) (k : Keep H H') : ThB b H' n x := h.but (k.but b)
theorem bag_ne {b : Addr} {H : Hp} {p : Addr} (hB : BagAt H b) (h : H p = none) : p ≠ b := fun z => by obtain ⟨c, m, e, _⟩ := hB; rw [z, e] at h; cases h
theorem bag_neT {b : Addr} {H : Hp} {p : Addr} {xs : List V} (hB : BagAt H b) (h : H p = some (.tup xs)) : p ≠ b := fun z => by obtain ⟨c, m, e, _⟩ := hB; rw [z, e] at h; cases h
theorem thb_tup {b : Addr} {H : Hp} {n : Nat} {p : Addr} {xs : List V} (hB : BagAt H b) (e : H p = some (.tup xs)) (h : ∀ y ∈ xs, ThB b H n y) : ThB b H (n + 1) (.ref p) :=
  ⟨⟨.tup e, fun z => bag_neT hB e (by cases z; rfl)⟩, fun a ys e1 e2 y hy => by
    cases e1
    rw [e] at e2
    cases e2
    exact h y hy⟩
theorem thb_tup0 {b : Addr} {H : Hp} {p : Addr} {xs : List V} (hB : BagAt H b) (e : H p = some (.tup xs)) : ThB b H 0 (.ref p) := ⟨.tup e, fun z => bag_neT hB e (by cases z; rfl)⟩
theorem thb_lst {b : Addr} {H : Hp} {n : Nat} {p : Addr} {xs : List V} (e : H p = some (.lst xs)) (h : p ≠ b) : ThB b H n (.ref p) := by
  have k : KdB b H (.ref p) := ⟨.lst e, fun z => h (by cases z; rfl)⟩
  cases n with
  | zero => exact k
  | succ n => exact ⟨k, fun a ys e1 e2 => by cases e1; rw [e] at e2; cases e2⟩
theorem thb_sc {b : Addr} {H : Hp} {n : Nat} {x : V} (h : Kd H x) (nr : ∀ a, x ≠ .ref a) : ThB b H n x := by
  cases n with
  | zero => exact ⟨h, nr b⟩
  | succ n => exact ⟨⟨h, nr b⟩, fun a ys e => absurd e (nr a)⟩
theorem thb_int {b : Addr} {H : Hp} {n : Nat} {i : Int} : ThB b H n (.int i) := thb_sc (.int i) nofun
theorem thb_ints {b : Addr} {H : Hp} {n : Nat} {xs : List Int} : ∀ y ∈ xs.map V.int, ThB b H n y := fun y hy => by
  obtain ⟨i, _, rfl⟩ := List.mem_map.mp hy
  exact thb_int
theorem bag_over {b : Addr} {H : Hp} {l : Addr} {o : HO} (hB : BagAt H b) (h : l ≠ b) : BagAt (upd H l o) b := by
  obtain ⟨c, m, e, r⟩ := hB
  exact ⟨c, m, by rw [upd_ne (Ne.symm h)]; exact e, r⟩
theorem paired_getL {α β : Type} {F : α → β → Prop} : ∀ {xs : List α} {ys : List β} {i : Nat} {x : α}, Paired F xs ys → xs[i]? = some x → ∃ y, ys[i]? = some y ∧ F x y
  | _, _, _, _, .nil, e => by simp at e
  | _, _, 0, _, .cons f _, e => by simp at e; subst e; exact ⟨_, rfl, f⟩
  | _, _, i + 1, _, .cons _ t, e => by
    rw [List.getElem?_cons_succ] at e
    obtain ⟨y, h1, h2⟩ := paired_getL t e
    exact ⟨y, by rw [List.getElem?_cons_succ]; exact h1, h2⟩
def spOdd : Sp := fun vs H Q _ => ∃ (b : Addr) (m : Int), vs = [.ref b, .int m] ∧ BagAt H b ∧ ∀ v H', KeepBut b H H' → BagAt H' b → ThB b H' 1 v → Q v H'
theorem ok_law_odd {f f1 : Addr} {fd fd1 : FuncData} (D : Df K mg "_law_odd" s__law_odd ["_law_bag_here", "_law_many"] f fd)
    (D__law_take : Df K mg "_law_take" s__law_take ["_law_bag_here", "_law_many"] f1 fd1) : FnOk P w K mg base CX0 2 f fd ["_law_bag_here", "_law_many"] spOdd := by
  have G__law_take : FnOk P w K mg base CX0 1 f1 fd1 ["_law_bag_here", "_law_many"] spTake := ok_law_take D__law_take
  refine D.fn.ok sc__law_odd (fun vs H Q E h => ?_) (fun cdv A outer s H vs Q E hr h => ?_)
  · obtain ⟨b, m, rfl, _⟩ := h
    rfl
  obtain ⟨b, m, rfl, hB, q⟩ := h
  refine ⟨_, (pss_cons (ps_set (i := 2) sc__law_odd.nd rfl (Or.inl rfl) (pe_lst (pa_cons (pv 1) (pa_cons (pe_un un_neg pe_int) (pa_cons pe_bl (pa_cons pe_bl (pa_cons pe_non (pa_cons pe_str (pa_cons pe_str (pa_cons (pe_tup pa_nil) (pa_cons (pe_lst (pa_cons pe_int pa_nil)) (pa_cons (pe_tup (pa_cons pe_int pa_nil)) (pa_cons (pe_op op_pow pe_int pe_int) (pa_cons (pe_un un_neg (pe_op op_pow pe_int pe_int)) (pa_cons (pe_op op_sub (pv 1) pe_int) (pa_cons pe_int (pa_cons (pe_op op_add (pv 1) pe_int) pa_nil)))))))))))))))))
    (pss_cons (ps_expr (pe_bmK (K := K) rfl PySem.F.plainAttrs_list PySem.F.slot_list_append PySem.F.type_list_append mt_append (pv 2) (pa_cons (pe_tup (pa_cons (pe_tup (pa_cons pe_int pa_nil)) pa_nil)) pa_nil)))
    (pss_one (ps_ret (pe_ix (ix_listK (K := K) rfl) (pv 2) (pe_call G__law_take (hr.mono (by decide)) rfl D__law_take.mg D__law_take.fn.kp D__law_take.bd .nil pass0 (pa_cons (pv 0) (pa_cons pe_int pa_nil))) (fun _ _ => rfl)))))), ?_⟩
  refine ⟨_, rfl, _, rfl, (by show 0 ≤ sizeLine; decide), fun l1 h1 => ?_⟩
  refine ⟨(by show 1 ≤ sizeLine; decide), fun l2 h2 => ⟨(by show 1 ≤ sizeLine; decide), fun l3 h3 => ?_⟩⟩
  refine ⟨_, _, rfl, rfl, ⟨by decide, by decide, by decide⟩, _, _, rfl, rfl, ⟨by decide, by decide, by decide⟩, _, rfl, _, rfl, _, _, rfl, rfl, _, rfl, _, _, rfl, rfl, (by show 15 ≤ sizeLine; decide), fun l h4 => ?_⟩
  refine ⟨_, rfl, .inl ⟨rfl, _, SqL.of upd_same⟩, (by show 1 ≤ sizeLine; decide), fun l5 h5 => ⟨(by show 1 ≤ sizeLine; decide), fun l6 h6 => ?_⟩⟩
  have n5 : l ≠ l5 := ne_of_none upd_same h5
  have n6 : l ≠ l6 := ne_of_none (by rw [upd_ne n5]; exact upd_same) h6
  have n56 : l5 ≠ l6 := ne_of_none upd_same h6
  have K1 := Keep.new h1 (.tup [])
  have K2 := Keep.new h2 (.lst [.int 0])
  have K3 := Keep.new h3 (.tup [.int 0])
  have B1 := hB.keep K1
  have B2 := B1.keep K2
  have B3 := B2.keep K3
  have lb := bag_ne B3 h4
  refine ⟨l, _, _, rfl, rfl, by rw [upd_ne n6, upd_ne n5]; exact upd_same, (by show 15 < sizeLine; decide), ?_⟩
  have K7 : Keep _ (upd (upd (upd (upd _ l _) l5 _) l6 _) l (.lst ([.int m, .int (-1), .bl true, .bl false, .non, .str "0", .str "", .ref l1, .ref l2, .ref l3, .int (10 ^ 30), .int (-(10 ^ 30)), .int (m - 1), .int 0, .int (m + 1)] ++ [.ref l6]))) := (((Keep.new h4 (.lst [.int m, .int (-1), .bl true, .bl false, .non, .str "0", .str "", .ref l1, .ref l2, .ref l3, .int (10 ^ 30), .int (-(10 ^ 30)), .int (m - 1), .int 0, .int (m + 1)])).trans (.new h5 (.tup [.int 0]))).trans (.new h6 (.tup [.ref l5]))).over h4
  have B7 := B3.keep K7
  refine ⟨_, rfl, _, rfl, b, _, rfl, B7, by decide, by decide, fun d H8 d0 d9 k8 hB8 => ?_⟩
  have hl8 := k8.lst lb upd_same
  obtain ⟨o, hv, hv2⟩ := atI_int (xs := [V.int m, .int (-1), .bl true, .bl false, .non, .str "0", .str "", .ref l1, .ref l2, .ref l3, .int (10 ^ 30), .int (-(10 ^ 30)), .int (m - 1), .int 0, .int (m + 1)] ++ [V.ref l6]) d0 d9
  refine ⟨l, _, _, _, rfl, rfl, SqL.of hl8, hv, q _ _ (((((K1.trans K2).trans K3).trans K7).but b).trans k8) hB8 ?_⟩
  have t1 : ThB b _ 1 (.ref l1) := ((thb_tup B1 (xs := []) upd_same nofun).keep ((K2.trans K3).trans K7)).but k8
  have t2 : ThB b _ 1 (.ref l2) := ((thb_lst (H := upd _ l2 (.lst [.int 0])) upd_same (bag_ne B1 h2)).keep (K3.trans K7)).but k8
  have t3 : ThB b _ 1 (.ref l3) := ((thb_tup B3 (xs := [.int 0]) upd_same (thb_ints (xs := [0]))).keep K7).but k8
  have e5 : H8 l5 = some (.tup [.int 0]) := k8.tup (fun z => by rw [z] at h5; exact bag_ne (bag_over B3 lb) h5 rfl) (by rw [upd_ne n5.symm, upd_ne n56]; exact upd_same)
  have e6 : H8 l6 = some (.tup [.ref l5]) := k8.tup (fun z => by rw [z] at h6; exact bag_ne ((bag_over B3 lb).keep (.new h5 _)) h6 rfl) (by rw [upd_ne n6.symm]; exact upd_same)
  have t6 : ThB b H8 1 (.ref l6) := thb_tup hB8 e6 fun y hy => by
    rw [List.mem_singleton.mp hy]
    exact thb_tup0 hB8 e5
  have hm := List.mem_of_getElem? hv2
  simp only [List.mem_append, List.mem_cons, List.not_mem_nil, or_false] at hm
  rcases hm with (rfl | rfl | rfl | rfl | rfl | rfl | rfl | rfl | rfl | rfl | rfl | rfl | rfl | rfl | rfl) | rfl
  · exact thb_int
  · exact thb_int
  · exact thb_sc (.bl _) nofun
  · exact thb_sc (.bl _) nofun
  · exact thb_sc .non nofun
  · exact thb_sc (.str _) nofun
  · exact thb_sc (.str _) nofun
  · exact t1
  · exact t2
  · exact t3
  · exact thb_int
  · exact thb_int
  · exact thb_int
  · exact thb_int
  · exact thb_int
  · exact t6
def spNone : Sp := fun vs H Q _ => ∃ (b : Addr) (x : V) (net : List (List Int)) (n : Nat), vs = [.ref b, x] ∧ BagAt H b ∧ NetAt H x net ∧ NetOk net n ∧ ∀ v H', KeepBut b H H' → BagAt H' b → ThB b H' 2 v → Q v H'
theorem ok_law_none {f f1 : Addr} {fd fd1 : FuncData} (D : Df K mg "_law_none" s__law_none ["_law_bag_here", "_law_net_here"] f fd)
    (D__law_take : Df K mg "_law_take" s__law_take ["_law_bag_here", "_law_many"] f1 fd1) (bl : Bl mg) : FnOk P w K mg base CX0 2 f fd ["_law_bag_here", "_law_net_here"] spNone := by
  have G__law_take : FnOk P w K mg base CX0 1 f1 fd1 ["_law_bag_here", "_law_many"] spTake := ok_law_take D__law_take
  refine D.fn.ok sc__law_none (fun vs H Q E h => ?_) (fun cdv A outer s H vs Q E hr h => ?_)
  · obtain ⟨b, x, net, n, rfl, _⟩ := h
    rfl
  obtain ⟨b, x, net, n, rfl, hB, hN, ok, q⟩ := h
  have h9 := ok.nine
  refine ⟨_, (pss_cons (ps_set (i := 2) sc__law_none.nd rfl (Or.inl rfl) (pe_lst (pa_cons pe_non (pa_cons pe_int (pa_cons pe_str (pa_cons (pe_lst pa_nil) (pa_cons (pe_tup pa_nil) (pa_cons (pe_tup (pa_cons (pe_tup pa_nil) pa_nil)) (pa_cons (pe_tup (pa_cons (pe_tup (pa_cons pe_int pa_nil)) pa_nil)) (pa_cons (pe_tup (pa_cons pe_int (pa_cons pe_int pa_nil))) (pa_cons (pe_tup (pa_cons (pe_tup (pa_cons pe_int (pa_cons pe_int (pa_cons pe_int (pa_cons pe_int pa_nil))))) pa_nil)) (pa_cons pe_bl (pa_cons (pe_tup (pa_cons (pe_lst (pa_cons pe_int (pa_cons pe_int pa_nil))) pa_nil)) pa_nil)))))))))))))
    (pss_cons (ps_expr (pe_bmK (K := K) rfl PySem.F.plainAttrs_list PySem.F.slot_list_append PySem.F.type_list_append mt_append (pv 2) (pa_cons (pe_listcomp (N' := ["_law_row"]) (tn := 1) (idx := []) rfl (show BlockOk ["_law_bag_here", "_law_net_here", "_law_some"] (defScope s__law_none) _ ["_law_row"] 1 [] from by decide +kernel) (pi_tupK (K := K) rfl (pv 1)) (fun _ _ _ _ _ => (pg_name (i := 0) (show List.Nodup [("_law_row" : Str)] from by decide +kernel) rfl (Or.inl rfl))) (fun _ _ _ _ _ => pif_nil) (fun _ _ _ _ _ => (pe_callTy (call_list_ofK (K := K) rfl) rfl bl.list_ bt_list (pa_cons (pv 0) pa_nil)))) pa_nil)))
    (pss_one (ps_ret (pe_ix (ix_listK (K := K) rfl) (pv 2) (pe_call G__law_take (hr.mono (by decide)) rfl D__law_take.mg D__law_take.fn.kp D__law_take.bd .nil pass0 (pa_cons (pv 0) (pa_cons pe_int pa_nil))) (fun _ _ => rfl)))))), ?_⟩
  have s0 : 0 ≤ sizeLine := by decide
  have s1 : 1 ≤ sizeLine := by decide
  have s2 : 2 ≤ sizeLine := by decide
  refine ⟨s0, fun l1 h1 => ⟨s0, fun l2 h2 => ⟨s0, fun l3 h3 => ⟨s1, fun l4 h4 => ⟨s1, fun l5 h5 => ⟨s1, fun l6 h6 => ⟨s2, fun l7 h7 => ⟨(by show 4 ≤ sizeLine; decide), fun l8 h8 => ⟨s1, fun l9 h9' => ⟨s2, fun l10 h10 => ⟨s1, fun l11 h11 => ⟨(by show 11 ≤ sizeLine; decide), fun l hl => ?_⟩⟩⟩⟩⟩⟩⟩⟩⟩⟩⟩⟩
  have K1 := Keep.new h1 (.lst [])
  have K2 := Keep.new h2 (.tup [])
  have K3 := Keep.new h3 (.tup [])
  have K4 := Keep.new h4 (.tup [.ref l3])
  have K5 := Keep.new h5 (.tup [.int 0])
  have K6 := Keep.new h6 (.tup [.ref l5])
  have K7 := Keep.new h7 (.tup [.int 0, .int 0])
  have K8 := Keep.new h8 (.tup [.int 0, .int 0, .int 0, .int 0])
  have K9 := Keep.new h9' (.tup [.ref l8])
  have K10 := Keep.new h10 (.lst [.int 0, .int 0])
  have K11 := Keep.new h11 (.tup [.ref l10])
  have B1 := hB.keep K1
  have B2 := B1.keep K2
  have B3 := B2.keep K3
  have B4 := B3.keep K4
  have B5 := B4.keep K5
  have B6 := B5.keep K6
  have B7 := B6.keep K7
  have B8 := B7.keep K8
  have B9 := B8.keep K9
  have B10 := B9.keep K10
  have B11 := B10.keep K11
  have lb := bag_ne B11 hl
  have k10 := K11
  have k9 := K10.trans k10
  have k8 := K9.trans k9
  have k7 := K8.trans k8
  have k6 := K7.trans k7
  have k5 := K6.trans k6
  have k4 := K5.trans k5
  have k3 := K4.trans k4
  have k2 := K3.trans k3
  have k1 := K2.trans k2
  have t1 : ThB b _ 2 (.ref l1) := (thb_lst (n := 2) (H := upd _ l1 (.lst [])) upd_same (bag_ne hB h1)).keep k1
  have t2 : ThB b _ 2 (.ref l2) := (thb_tup (n := 1) B2 (xs := []) upd_same nofun).keep k2
  have t3 : ThB b _ 1 (.ref l3) := thb_tup (n := 0) B3 (xs := []) upd_same nofun
  have t4 : ThB b _ 2 (.ref l4) := (thb_tup (n := 1) B4 (xs := [.ref l3]) upd_same (fun y hy => by rw [List.mem_singleton.mp hy]; exact t3.keep K4)).keep k4
  have t5 : ThB b _ 1 (.ref l5) := thb_tup (n := 0) B5 (xs := [.int 0]) upd_same (thb_ints (xs := [0]))
  have t6 : ThB b _ 2 (.ref l6) := (thb_tup (n := 1) B6 (xs := [.ref l5]) upd_same (fun y hy => by rw [List.mem_singleton.mp hy]; exact t5.keep K6)).keep k6
  have t7 : ThB b _ 2 (.ref l7) := (thb_tup (n := 1) B7 (xs := [.int 0, .int 0]) upd_same (thb_ints (xs := [0, 0]))).keep k7
  have t8 : ThB b _ 1 (.ref l8) := thb_tup (n := 0) B8 (xs := [.int 0, .int 0, .int 0, .int 0]) upd_same (thb_ints (xs := [0, 0, 0, 0]))
  have t9 : ThB b _ 2 (.ref l9) := (thb_tup (n := 1) B9 (xs := [.ref l8]) upd_same (fun y hy => by rw [List.mem_singleton.mp hy]; exact t8.keep K9)).keep k9
  have t11 : ThB b _ 2 (.ref l11) := thb_tup (n := 1) B11 (xs := [.ref l10]) upd_same (fun y hy => by rw [List.mem_singleton.mp hy]; exact (thb_lst (n := 1) (xs := [.int 0, .int 0]) upd_same (bag_ne B9 h10)).keep K11)
  have K0 := K1.trans k1
  have KL := Keep.new hl (.lst [.non, .int 0, .str "012", .ref l1, .ref l2, .ref l4, .ref l6, .ref l7, .ref l9, .bl true, .ref l11])
  obtain ⟨a, rs, rfl, ha, pr⟩ := hN.keep (K0.trans KL)
  have hrl : rs.length = net.length := pr.length
  refine ⟨_, rfl, .inl ⟨rfl, _, SqL.of upd_same⟩, _, rfl, a, rfl, ⟨_, SqT.of ha⟩, fun dd hdd => ?_⟩
  have nd : l ≠ dd := ne_of_none upd_same hdd
  refine tturn0 (xs := rs) (τ0 := [none]) (fun i acc H2 => Keep _ H2 ∧ H2 dd = some (.lst acc) ∧ acc.length = i) (fun i acc H2 _ p => runs_tup (SqT.of (p.1.tup ha))) ⟨.new hdd _, upd_same, rfl⟩ ?_ ?_
  · rintro i x acc H2 hx ⟨k, hd1, hacc⟩ R2 hR
    obtain ⟨r, hr1, p, rfl, hp⟩ := paired_getL pr hx
    have hi := (List.getElem?_eq_some_iff.mp hx).1
    refine ⟨_, rfl, p, _, rfl, .inr (SqT.of (k.tup hp)), fun e he => ?_⟩
    have k' := Keep.new he (.lst (r.map V.int))
    exact hR _ _ (k'.lst hd1) (Nat.lt_of_le_of_lt (show acc.length ≤ 9 by omega) (by decide)) ⟨(k.trans k').over hdd, upd_same, by rw [List.length_append, hacc]; rfl⟩
  · rintro acc H2 ⟨k, hd1, hacc⟩
    refine ⟨l, _, _, rfl, rfl, k.lst upd_same, (by show 11 < sizeLine; decide), ?_⟩
    have k12 := (KL.trans k).over (o := .lst ([.non, .int 0, .str "012", .ref l1, .ref l2, .ref l4, .ref l6, .ref l7, .ref l9, .bl true, .ref l11] ++ [.ref dd])) hl
    have B12 := B11.keep k12
    refine ⟨_, rfl, _, rfl, b, _, rfl, B12, by decide, by decide, fun d H8 d0 d9 k8 hB8 => ?_⟩
    have hl8 := k8.lst lb upd_same
    obtain ⟨o, hv, hv2⟩ := atI_int (xs := [V.non, .int 0, .str "012", .ref l1, .ref l2, .ref l4, .ref l6, .ref l7, .ref l9, .bl true, .ref l11] ++ [V.ref dd]) d0 d9
    refine ⟨l, _, _, _, rfl, rfl, SqL.of hl8, hv, q _ _ (((K0.trans k12).but b).trans k8) hB8 ?_⟩
    have db := bag_ne (bag_over B11 lb) hdd
    have ed : H8 dd = some (.lst acc) := k8.lst db (by rw [upd_ne nd.symm]; exact hd1)
    have hm := List.mem_of_getElem? hv2
    simp only [List.mem_append, List.mem_cons, List.not_mem_nil, or_false] at hm
    rcases hm with (rfl | rfl | rfl | rfl | rfl | rfl | rfl | rfl | rfl | rfl | rfl) | rfl
    · exact thb_sc .non nofun
    · exact thb_int
    · exact thb_sc (.str _) nofun
    · exact (t1.keep k12).but k8
    · exact (t2.keep k12).but k8
    · exact (t4.keep k12).but k8
    · exact (t6.keep k12).but k8
    · exact (t7.keep k12).but k8
    · exact (t9.keep k12).but k8
    · exact thb_sc (.bl _) nofun
    · exact (t11.keep k12).but k8
    · exact thb_lst ed db
end
end My

set_option Elab.async false
set_option maxRecDepth 100000
set_option maxHeartbeats 4000000
namespace My
open PySem L2 PyProof.Rows
section
variable {P : Program} {w : World} {K : PySem.W.Frag} {mg : Str → Option Value} {base : Heap} {tb : List Addr}
theorem sc__law_changed : FnScope ["_law_bag_here", "_law_net_here", "_law_how", "_law_at", "_law_to", "_law_row"] ["_law_bag_here", "_law_net_here"] (defScope s__law_changed) := ⟨rfl, rfl, rfl, by decide +kernel, rfl, by decide +kernel, by decide +kernel⟩
theorem cutV_mem {xs : List V} {lo hi : Option Int} {y : V} (h : y ∈ cutV xs lo hi) : y ∈ xs := List.mem_of_mem_drop (List.mem_of_mem_take h)
structure Cg (b : Addr) (x : V) (net : List (List Int)) (H H1 : Hp) : Prop where
  kb : KeepBut b H H1
  bag : BagAt H1 b
  net : NetAt H1 x net
theorem Cg.keep {b : Addr} {x : V} {net : List (List Int)} {H H1 H2 : Hp} (c : Cg b x net H H1) (k : Keep H1 H2) : Cg b x net H H2 := ⟨c.kb.trans (k.but b), c.bag.keep k, c.net.keep k⟩
theorem Cg.but {b : Addr} {x : V} {net : List (List Int)} {H H1 H2 : Hp} (c : Cg b x net H H1) (k : KeepBut b H1 H2) (hB : BagAt H2 b) : Cg b x net H H2 := ⟨c.kb.trans k, hB, net_but c.net c.bag k⟩
theorem RowAt.thb {b : Addr} {H : Hp} {v : V} {r : List Int} (h : RowAt H v r) (hB : BagAt H b) : ThB b H 1 v := by
  obtain ⟨p, rfl, e⟩ := h
  exact thb_tup hB e thb_ints
theorem rows_thb {b : Addr} {H : Hp} {rs : List V} {net : List (List Int)} (h : Paired (RowAt H) rs net) (hB : BagAt H b) : ∀ y ∈ rs, ThB b H 1 y := fun y hy => by
  obtain ⟨i, hi⟩ := List.getElem?_of_mem hy
  obtain ⟨r, _, hr⟩ := paired_getL h hi
  exact RowAt.thb hr hB

def Rw (b : Addr) (n : Nat) (S : List Int) (how : Int) (r : V) (H : Hp) : Prop := ThB b H 1 r ∧ (how ∉ S → ∃ row : List Int, RowAt H r row ∧ row.length = n)
theorem Rw.mono {b : Addr} {n : Nat} {S S' : List Int} {how : Int} {r : V} {H : Hp} (h : Rw b n S how r H) (hs : ∀ i ∈ S, i ∈ S') : Rw b n S' how r H := ⟨h.1, fun ni => h.2 fun z => ni (hs _ z)⟩
theorem Rw.gone {b : Addr} {n : Nat} {S : List Int} {how : Int} {r : V} {H : Hp} (h : ThB b H 1 r) (hs : how ∈ S) : Rw b n S how r H := ⟨h, fun z => absurd hs z⟩
def spChg : Sp := fun vs H Q _ => ∃ (b : Addr) (x : V) (net : List (List Int)) (n : Nat), vs = [.ref b, x] ∧ BagAt H b ∧ NetAt H x net ∧ NetOk net n ∧ ∀ v H', KeepBut b H H' → BagAt H' b → ThB b H' 2 v → Q v H'
set_option maxHeartbeats 8000000 in
theorem ok_law_changed {f f1 f2 f3 : Addr} {fd fd1 fd2 fd3 : FuncData} (D : Df K mg "_law_changed" s__law_changed ["_law_bag_here", "_law_net_here"] f fd)
    (D__law_take : Df K mg "_law_take" s__law_take ["_law_bag_here", "_law_many"] f1 fd1) (D__law_odd : Df K mg "_law_odd" s__law_odd ["_law_bag_here", "_law_many"] f2 fd2)
    (D__law_none : Df K mg "_law_none" s__law_none ["_law_bag_here", "_law_net_here"] f3 fd3) (bl : Bl mg) : FnOk P w K mg base CX0 3 f fd ["_law_bag_here", "_law_net_here"] spChg := by
  have G__law_take : FnOk P w K mg base CX0 1 f1 fd1 ["_law_bag_here", "_law_many"] spTake := ok_law_take D__law_take
  have G__law_odd : FnOk P w K mg base CX0 2 f2 fd2 ["_law_bag_here", "_law_many"] spOdd := ok_law_odd D__law_odd D__law_take
  have G__law_none : FnOk P w K mg base CX0 2 f3 fd3 ["_law_bag_here", "_law_net_here"] spNone := ok_law_none D__law_none D__law_take bl
  refine D.fn.ok sc__law_changed (fun vs H Q E h => ?_) (fun cdv A outer s H vs Q E hr h => ?_)
  · obtain ⟨b, x, net, n, rfl, _⟩ := h
    rfl
  obtain ⟨b, x, net, n, rfl, hB, hN0, ok, q⟩ := h
  have h9 := ok.nine
  have h1 := ok.one
  have hw := ok.wid
  have fin : ∀ t H' zs, KeepBut b H H' → BagAt H' b → H' t = some (.tup zs) → (∀ y ∈ zs, ThB b H' 1 y) → Q (.ref t) H' := fun t H' zs k hb e h => q _ _ k hb (thb_tup hb e h)
  refine HoI.run (Pre := fun _ σ H1 => H1 = H ∧ σ = [some (.ref b), some x, none, none, none, none]) (D := fun _ => { nx := fun _ H' => Q .non H', rt := Q }) ⟨rfl, rfl⟩ ?_
  refine HoI.cons (fun _ σ H1 => Cg b x net H H1 ∧ ∃ how : Int, σ = [some (.ref b), some x, some (.int how), none, none, none]) ⟨_, (ps_set (i := 2) sc__law_changed.nd rfl (Or.inl rfl) (pe_call G__law_take (hr.mono (by decide)) rfl D__law_take.mg D__law_take.fn.kp D__law_take.bd .nil pass0 (pa_cons (pv 0) (pa_cons pe_int pa_nil)))), ?_⟩ ?_
  · rintro _ N σ H1 ⟨rfl, rfl⟩ hN
    refine ⟨_, rfl, b, _, rfl, hB, by decide, by decide, fun d H2 d0 d1 k2 hB2 => ?_⟩
    exact hN _ _ ⟨⟨k2, hB2, net_but hN0 hB k2⟩, d, rfl⟩
  refine HoI.cons (fun _ σ H1 => Cg b x net H H1 ∧ ∃ (how : Int) (t : Nat), t < net.length ∧ σ = [some (.ref b), some x, some (.int how), some (.int (t : Nat)), none, none]) ⟨_, (ps_set (i := 3) sc__law_changed.nd rfl (Or.inl rfl) (pe_call G__law_take (hr.mono (by decide)) rfl D__law_take.mg D__law_take.fn.kp D__law_take.bd .nil pass0 (pa_cons (pv 0) (pa_cons (pe_callB (call_len_seqK (K := K) rfl) rfl bl.len_ PySem.boot_len (pa_cons (pv 1) pa_nil)) pa_nil)))), ?_⟩ ?_
  · rintro _ N σ H1 ⟨c, how, rfl⟩ hN
    obtain ⟨av, rs, p0, row, rfl, ha, h0, hp0, hrow, hlen⟩ := net0 c.net ok
    refine ⟨_, rfl, _, rfl, av, rs, rfl, .inr (SqT.of ha), b, _, rfl, c.bag, by omega, by omega, fun d H2 d0 d1 k2 hB2 => ?_⟩
    have ed : d = ((d.toNat : Nat) : Int) := by omega
    have h2 := hN _ _ ⟨c.but k2 hB2, how, d.toNat, by omega, rfl⟩
    rw [← ed] at h2
    exact h2
  refine HoI.cons (fun _ σ H1 => Cg b x net H H1 ∧ ∃ (how : Int) (t u : Nat), t < net.length ∧ u < n ∧ σ = [some (.ref b), some x, some (.int how), some (.int (t : Nat)), some (.int (u : Nat)), none]) ⟨_, (ps_set (i := 4) sc__law_changed.nd rfl (Or.inl rfl) (pe_call G__law_take (hr.mono (by decide)) rfl D__law_take.mg D__law_take.fn.kp D__law_take.bd .nil pass0 (pa_cons (pv 0) (pa_cons (pe_callB (call_len_seqK (K := K) rfl) rfl bl.len_ PySem.boot_len (pa_cons (pe_ix (ix_tupK (K := K) rfl) (pv 1) pe_int (fun _ _ => rfl)) pa_nil)) pa_nil)))), ?_⟩ ?_
  · rintro _ N σ H1 ⟨c, how, t, ht, rfl⟩ hN
    obtain ⟨av, rs, p0, row, rfl, ha, h0, hp0, hrow, hlen⟩ := net0 c.net ok
    refine ⟨_, rfl, _, rfl, av, rs, 0, _, rfl, rfl, SqT.of ha, h0, p0, row, rfl, .inr (SqT.of hp0), b, _, rfl, c.bag, by omega, by omega, fun d H2 d0 d1 k2 hB2 => ?_⟩
    have ed : d = ((d.toNat : Nat) : Int) := by omega
    have h2 := hN _ _ ⟨c.but k2 hB2, how, t, d.toNat, ht, by omega, rfl⟩
    rw [← ed] at h2
    exact h2
  refine HoI.cons (fun _ σ H1 => Cg b x net H H1 ∧ ∃ (how : Int) (t u : Nat) (r : V), t < net.length ∧ u < n ∧ Rw b n [] how r H1 ∧ σ = [some (.ref b), some x, some (.int how), some (.int (t : Nat)), some (.int (u : Nat)), some r]) ⟨_, (ps_set (i := 5) sc__law_changed.nd rfl (Or.inl rfl) (pe_ix (ix_tupK (K := K) rfl) (pv 1) (pv 3) (fun _ _ => rfl))), ?_⟩ ?_
  · rintro _ N σ H1 ⟨c, how, t, u, ht, hu, rfl⟩ hN
    obtain ⟨av, rs, rfl, ha, pr⟩ := c.net
    obtain ⟨y, hy, hrow⟩ := paired_get (y := net[t]) pr (List.getElem?_eq_getElem ht)
    exact ⟨_, rfl, _, rfl, av, rs, _, _, rfl, rfl, SqT.of ha, atI_nat hy, hN _ _ ⟨c, how, t, u, y, ht, hu, ⟨RowAt.thb hrow c.bag, fun _ => ⟨_, hrow, (ok.row _ (List.getElem_mem ht)).1⟩⟩, rfl⟩⟩
  refine HoI.cons (fun _ σ H1 => Cg b x net H H1 ∧ ∃ (how : Int) (t u : Nat) (r : V), t < net.length ∧ u < n ∧ Rw b n [] how r H1 ∧ σ = [some (.ref b), some x, some (.int how), some (.int (t : Nat)), some (.int (u : Nat)), some r]) ⟨_, (ps_if (pt_cmpR op_eq (pv 2) pe_int (nomark _))
      (pss_one (ps_ret (pe_call G__law_none (hr.mono (by decide)) rfl D__law_none.mg D__law_none.fn.kp D__law_none.bd .nil pass0 (pa_cons (pv 0) (pa_cons (pv 1) pa_nil)))))
      pss_nil), ?_⟩ ?_
  · rintro _ N σ H1 ⟨c, how, t, u, r, ht, hu, hr1, rfl⟩ hN
    refine ⟨_, rfl, rfl, _, rfl, ?_⟩
    refine ite2 (fun ch => ?_) (fun _ => hN _ _ ⟨c, how, t, u, r, ht, hu, hr1.mono (by simp), rfl⟩)
    have ch' : V.int how = .int 0 := of_decide_eq_true ch
    injection ch' with ch'
    subst ch'
    exact ⟨_, rfl, _, rfl, b, x, net, n, rfl, c.bag, c.net, ok, fun v H2 k2 hB2 tv => q v H2 (c.kb.trans k2) hB2 tv⟩
  refine HoI.cons (fun _ σ H1 => Cg b x net H H1 ∧ ∃ (how : Int) (t u : Nat) (r : V), t < net.length ∧ u < n ∧ Rw b n [] how r H1 ∧ σ = [some (.ref b), some x, some (.int how), some (.int (t : Nat)), some (.int (u : Nat)), some r]) ⟨_, (ps_if (pt_cmpR op_eq (pv 2) pe_int (nomark _))
      (pss_one (ps_ret (pe_callTy (call_list_ofK (K := K) rfl) rfl bl.list_ bt_list (pa_cons (pv 1) pa_nil))))
      pss_nil), ?_⟩ ?_
  · rintro _ N σ H1 ⟨c, how, t, u, r, ht, hu, hr1, rfl⟩ hN
    refine ⟨_, rfl, rfl, _, rfl, ?_⟩
    refine ite2 (fun ch => ?_) (fun _ => hN _ _ ⟨c, how, t, u, r, ht, hu, hr1.mono (by simp), rfl⟩)
    have ch' : V.int how = .int 1 := of_decide_eq_true ch
    injection ch' with ch'
    subst ch'
    obtain ⟨av, rs, rfl, ha, pr⟩ := c.net
    refine ⟨_, rfl, av, rs, rfl, .inr (SqT.of ha), fun l hl => ?_⟩
    have c2 := c.keep (.new hl (.lst rs))
    exact q _ _ c2.kb c2.bag (thb_lst upd_same (bag_ne c.bag hl))
  refine HoI.cons (fun _ σ H1 => Cg b x net H H1 ∧ ∃ (how : Int) (t u : Nat) (r : V), t < net.length ∧ u < n ∧ Rw b n [2] how r H1 ∧ σ = [some (.ref b), some x, some (.int how), some (.int (t : Nat)), some (.int (u : Nat)), some r]) ⟨_, (ps_if (pt_cmpR op_eq (pv 2) pe_int (nomark _))
      (pss_one (ps_set (i := 5) sc__law_changed.nd rfl (Or.inl rfl) (pe_ix (ix_listK (K := K) rfl) (pe_lst (pa_cons (pe_callTy (call_list_ofK (K := K) rfl) rfl bl.list_ bt_list (pa_cons (pv 5) pa_nil)) (pa_cons (pe_call G__law_odd (hr.mono (by decide)) rfl D__law_odd.mg D__law_odd.fn.kp D__law_odd.bd .nil pass0 (pa_cons (pv 0) (pa_cons (pe_callB (call_len_seqK (K := K) rfl) rfl bl.len_ PySem.boot_len (pa_cons (pv 1) pa_nil)) pa_nil))) pa_nil))) (pe_call G__law_take (hr.mono (by decide)) rfl D__law_take.mg D__law_take.fn.kp D__law_take.bd .nil pass0 (pa_cons (pv 0) (pa_cons pe_int pa_nil))) (fun _ _ => rfl))))
      pss_nil), ?_⟩ ?_
  · rintro _ N σ H1 ⟨c, how, t, u, r, ht, hu, hr1, rfl⟩ hN
    refine ⟨_, rfl, rfl, _, rfl, ?_⟩
    refine ite2 (fun ch => ?_) (fun _ => hN _ _ ⟨c, how, t, u, r, ht, hu, hr1.mono (by simp), rfl⟩)
    have ch' : V.int how = .int 2 := of_decide_eq_true ch
    injection ch' with ch'
    subst ch'
    obtain ⟨row, ⟨p, rfl, hp⟩, hl⟩ := hr1.2 (by simp)
    refine ⟨_, rfl, p, _, rfl, .inr (SqT.of hp), fun l1 hl1 => ?_⟩
    have c2 := c.keep (.new hl1 (.lst (row.map V.int)))
    obtain ⟨av, rs, rfl, ha, pr⟩ := c2.net
    refine ⟨_, rfl, _, rfl, av, rs, rfl, .inr (SqT.of ha), b, _, rfl, c2.bag, fun v H2 k2 hB2 tv => ?_⟩
    have l1b := bag_ne c.bag hl1
    have c3 := c2.but k2 hB2
    refine ⟨(by show 2 ≤ sizeLine; decide), fun l hl => ?_⟩
    have K4 := Keep.new hl (.lst [.ref l1, v])
    have c4 := c3.keep K4
    refine ⟨_, rfl, b, _, rfl, c4.bag, by decide, by decide, fun d H3 d0 d1 k3 hB3 => ?_⟩
    have hl3 := k3.lst (bag_ne hB2 hl) upd_same
    obtain ⟨o, hv, hv2⟩ := atI_int (xs := [V.ref l1, v]) d0 d1
    have t1 : ThB b H3 1 (.ref l1) := ((thb_lst (n := 1) (k2.lst l1b upd_same) l1b).keep K4).but k3
    have t2 : ThB b H3 1 v := (tv.keep K4).but k3
    have to : ThB b H3 1 o := by
      have hm := List.mem_of_getElem? hv2
      simp only [List.mem_cons, List.not_mem_nil, or_false] at hm
      rcases hm with rfl | rfl
      · exact t1
      · exact t2
    exact ⟨l, _, _, _, rfl, rfl, SqL.of hl3, hv, hN _ _ ⟨c4.but k3 hB3, 2, t, u, o, ht, hu, .gone to (by simp), rfl⟩⟩
  refine HoI.cons (fun _ σ H1 => Cg b x net H H1 ∧ ∃ (how : Int) (t u : Nat) (r : V), t < net.length ∧ u < n ∧ Rw b n [2] how r H1 ∧ σ = [some (.ref b), some x, some (.int how), some (.int (t : Nat)), some (.int (u : Nat)), some r]) ⟨_, (ps_if (pt_cmpR op_eq (pv 2) pe_int (nomark _))
      (pss_one (ps_ret (pe_op (op_catA (K := K) rfl) (pe_slice (sl_tupA (K := K) rfl) (pv 1) po_none (po_some (pv 3))) (pe_slice (sl_tupA (K := K) rfl) (pv 1) (po_some (pe_op op_add (pv 3) pe_int)) po_none))))
      pss_nil), ?_⟩ ?_
  · rintro _ N σ H1 ⟨c, how, t, u, r, ht, hu, hr1, rfl⟩ hN
    refine ⟨_, rfl, rfl, _, rfl, ?_⟩
    refine ite2 (fun ch => ?_) (fun _ => hN _ _ ⟨c, how, t, u, r, ht, hu, hr1.mono (by simp), rfl⟩)
    have ch' : V.int how = .int 3 := of_decide_eq_true ch
    injection ch' with ch'
    subst ch'
    obtain ⟨av, rs, rfl, ha, pr⟩ := c.net
    have hrl : rs.length = net.length := pr.length
    have hrs := rows_thb pr c.bag
    refine ⟨_, rfl, _, rfl, _, rfl, slA_of ha fun t1 H2 k2 ht1 => ?_⟩
    refine ⟨_, rfl, _, rfl, _, _, rfl, rfl, _, rfl, ?_⟩
    dsimp only [tNoPart]
    refine slA_of (k2.tup ha) fun t2 H3 k3 ht2 => ?_
    refine catA_of (k3.tup ht1) ht2 (Nat.le_trans (Nat.add_le_add (cutV_length _ _ _) (cutV_length _ _ _)) (by omega)) fun t3 H4 k4 ht3 => ?_
    have k24 := (k2.trans k3).trans k4
    have c2 := c.keep k24
    refine fin _ _ _ c2.kb c2.bag ht3 fun y hy => ?_
    rcases List.mem_append.mp hy with hy | hy
    · exact (hrs y (cutV_mem hy)).keep k24
    · exact (hrs y (cutV_mem hy)).keep k24
  refine HoI.cons (fun _ σ H1 => Cg b x net H H1 ∧ ∃ (how : Int) (t u : Nat) (r : V), t < net.length ∧ u < n ∧ Rw b n [2] how r H1 ∧ σ = [some (.ref b), some x, some (.int how), some (.int (t : Nat)), some (.int (u : Nat)), some r]) ⟨_, (ps_if (pt_cmpR op_eq (pv 2) pe_int (nomark _))
      (pss_one (ps_ret (pe_op (op_catA (K := K) rfl) (pe_op (op_catA (K := K) rfl) (pe_slice (sl_tupA (K := K) rfl) (pv 1) po_none (po_some (pv 3))) (pe_tup (pa_cons (pv 5) pa_nil))) (pe_slice (sl_tupA (K := K) rfl) (pv 1) (po_some (pv 3)) po_none))))
      pss_nil), ?_⟩ ?_
  · rintro _ N σ H1 ⟨c, how, t, u, r, ht, hu, hr1, rfl⟩ hN
    refine ⟨_, rfl, rfl, _, rfl, ?_⟩
    refine ite2 (fun ch => ?_) (fun _ => hN _ _ ⟨c, how, t, u, r, ht, hu, hr1.mono (by simp), rfl⟩)
    have ch' : V.int how = .int 4 := of_decide_eq_true ch
    injection ch' with ch'
    subst ch'
    obtain ⟨av, rs, rfl, ha, pr⟩ := c.net
    have hrl : rs.length = net.length := pr.length
    have hrs := rows_thb pr c.bag
    refine ⟨_, rfl, _, rfl, _, rfl, slA_of ha fun t1 H2 k2 ht1 => ?_⟩
    refine ⟨_, rfl, (by show 1 ≤ sizeLine; decide), fun t2 h2 => ?_⟩
    have k3 := Keep.new h2 (.tup [r])
    refine catA_of (k3.tup ht1) upd_same (Nat.le_trans (Nat.add_le_add (cutV_length _ _ _) (Nat.le_refl 1)) (by omega)) fun t3 H4 k4 ht3 => ?_
    refine ⟨_, rfl, _, rfl, _, rfl, ?_⟩
    dsimp only [tNoPart]
    refine slA_of (((k2.trans k3).trans k4).tup ha) fun t5 H5 k5 ht5 => ?_
    refine catA_of (k5.tup ht3) ht5 (Nat.le_trans (Nat.add_le_add (by rw [List.length_append]; exact Nat.add_le_add (cutV_length _ _ _) (Nat.le_refl 1)) (cutV_length _ _ _)) (by omega)) fun t6 H6 k6 ht6 => ?_
    have k26 := (((k2.trans k3).trans k4).trans k5).trans k6
    have c2 := c.keep k26
    refine fin _ _ _ c2.kb c2.bag ht6 fun y hy => ?_
    rcases List.mem_append.mp hy with hy | hy
    · rcases List.mem_append.mp hy with hy | hy
      · exact (hrs y (cutV_mem hy)).keep k26
      · rw [List.mem_singleton.mp hy]
        exact hr1.1.keep k26
    · exact (hrs y (cutV_mem hy)).keep k26
  refine HoI.cons (fun _ σ H1 => Cg b x net H H1 ∧ ∃ (how : Int) (t u : Nat) (r : V), t < net.length ∧ u < n ∧ Rw b n [5, 2] how r H1 ∧ σ = [some (.ref b), some x, some (.int how), some (.int (t : Nat)), some (.int (u : Nat)), some r]) ⟨_, (ps_if (pt_cmpR op_eq (pv 2) pe_int (nomark _))
      (pss_one (ps_set (i := 5) sc__law_changed.nd rfl (Or.inl rfl) (pe_op (op_catA (K := K) rfl) (pv 5) (pe_tup (pa_cons (pe_call G__law_take (hr.mono (by decide)) rfl D__law_take.mg D__law_take.fn.kp D__law_take.bd .nil pass0 (pa_cons (pv 0) (pa_cons (pe_callB (call_len_seqK (K := K) rfl) rfl bl.len_ PySem.boot_len (pa_cons (pv 1) pa_nil)) pa_nil))) pa_nil)))))
      pss_nil), ?_⟩ ?_
  · rintro _ N σ H1 ⟨c, how, t, u, r, ht, hu, hr1, rfl⟩ hN
    refine ⟨_, rfl, rfl, _, rfl, ?_⟩
    refine ite2 (fun ch => ?_) (fun _ => hN _ _ ⟨c, how, t, u, r, ht, hu, hr1.mono (by simp), rfl⟩)
    have ch' : V.int how = .int 5 := of_decide_eq_true ch
    injection ch' with ch'
    subst ch'
    obtain ⟨row, ⟨p, rfl, hp⟩, hl⟩ := hr1.2 (by simp)
    obtain ⟨av, rs, rfl, ha, pr⟩ := c.net
    have hrl : rs.length = net.length := pr.length
    refine ⟨_, rfl, _, rfl, _, rfl, av, rs, rfl, .inr (SqT.of ha), b, _, rfl, c.bag, by omega, by omega, fun d H2 d0 d1 k2 hB2 => ?_⟩
    refine ⟨(by show 1 ≤ sizeLine; decide), fun t2 h2 => ?_⟩
    have k3 := Keep.new h2 (.tup [.int d])
    refine catA_of (k3.tup (k2.tup (bag_neT c.bag hp) hp)) upd_same (by simp; omega) fun t3 H4 k4 ht3 => ?_
    have c4 := ((c.but k2 hB2).keep k3).keep k4
    refine hN _ _ ⟨c4, 5, t, u, _, ht, hu, .gone (thb_tup c4.bag ht3 fun y hy => ?_) (by simp), rfl⟩
    rcases List.mem_append.mp hy with hy | hy
    · exact thb_ints y hy
    · rw [List.mem_singleton.mp hy]
      exact thb_int
  refine HoI.cons (fun _ σ H1 => Cg b x net H H1 ∧ ∃ (how : Int) (t u : Nat) (r : V), t < net.length ∧ u < n ∧ Rw b n [6, 5, 2] how r H1 ∧ σ = [some (.ref b), some x, some (.int how), some (.int (t : Nat)), some (.int (u : Nat)), some r]) ⟨_, (ps_if (pt_cmpR op_eq (pv 2) pe_int (nomark _))
      (pss_one (ps_set (i := 5) sc__law_changed.nd rfl (Or.inl rfl) (pe_slice (sl_tupA (K := K) rfl) (pv 5) po_none (po_some (pe_un un_neg pe_int)))))
      pss_nil), ?_⟩ ?_
  · rintro _ N σ H1 ⟨c, how, t, u, r, ht, hu, hr1, rfl⟩ hN
    refine ⟨_, rfl, rfl, _, rfl, ?_⟩
    refine ite2 (fun ch => ?_) (fun _ => hN _ _ ⟨c, how, t, u, r, ht, hu, hr1.mono (by simp), rfl⟩)
    have ch' : V.int how = .int 6 := of_decide_eq_true ch
    injection ch' with ch'
    subst ch'
    obtain ⟨row, ⟨p, rfl, hp⟩, hl⟩ := hr1.2 (by simp)
    refine ⟨_, rfl, _, rfl, _, rfl, slA_of hp fun t1 H2 k2 ht1 => ?_⟩
    have c2 := c.keep k2
    exact hN _ _ ⟨c2, 6, t, u, _, ht, hu, .gone (thb_tup c2.bag ht1 fun y hy => thb_ints y (cutV_mem hy)) (by simp), rfl⟩
  refine HoI.cons (fun _ σ H1 => Cg b x net H H1 ∧ ∃ (how : Int) (t u : Nat) (r : V), t < net.length ∧ u < n ∧ Rw b n [6, 5, 2] how r H1 ∧ σ = [some (.ref b), some x, some (.int how), some (.int (t : Nat)), some (.int (u : Nat)), some r]) ⟨_, (ps_if (pt_cmpR op_eq (pv 2) pe_int (nomark _))
      (pss_one (ps_ret (pe_slice (sl_tupA (K := K) rfl) (pe_op (op_catA (K := K) rfl) (pe_op (op_catA (K := K) rfl) (pv 1) (pv 1)) (pv 1)) po_none (po_some (pe_op op_add pe_int (pe_call G__law_take (hr.mono (by decide)) rfl D__law_take.mg D__law_take.fn.kp D__law_take.bd .nil pass0 (pa_cons (pv 0) (pa_cons pe_int pa_nil))))))))
      pss_nil), ?_⟩ ?_
  · rintro _ N σ H1 ⟨c, how, t, u, r, ht, hu, hr1, rfl⟩ hN
    refine ⟨_, rfl, rfl, _, rfl, ?_⟩
    refine ite2 (fun ch => ?_) (fun _ => hN _ _ ⟨c, how, t, u, r, ht, hu, hr1.mono (by simp), rfl⟩)
    have ch' : V.int how = .int 7 := of_decide_eq_true ch
    injection ch' with ch'
    subst ch'
    obtain ⟨av, rs, rfl, ha, pr⟩ := c.net
    have hrl : rs.length = net.length := pr.length
    have hrs := rows_thb pr c.bag
    refine ⟨_, rfl, _, rfl, catA_of ha ha (by omega) fun t1 H2 k2 ht1 => ?_⟩
    refine ⟨_, rfl, catA_of ht1 (k2.tup ha) (by simp; omega) fun t3 H3 k3 ht3 => ?_⟩
    have c3 := c.keep (k2.trans k3)
    refine ⟨_, rfl, b, _, rfl, c3.bag, by decide, by decide, fun d H4 d0 d1 k4 hB4 => ⟨_, _, rfl, rfl, _, rfl, ?_⟩⟩
    refine slA_of (k4.tup (bag_neT c3.bag ht3) ht3) fun t5 H5 k5 ht5 => ?_
    have c5 := (c3.but k4 hB4).keep k5
    refine fin _ _ _ c5.kb c5.bag ht5 fun y hy => ?_
    have hy2 := cutV_mem hy
    rw [List.mem_append, List.mem_append, or_self, or_self] at hy2
    exact (((hrs y hy2).keep (k2.trans k3)).but k4).keep k5
  refine HoI.cons (fun _ σ H1 => Cg b x net H H1 ∧ ∃ (how : Int) (t u : Nat) (r : V), t < net.length ∧ u < n ∧ Rw b n [8, 9, 6, 5, 2] how r H1 ∧ σ = [some (.ref b), some x, some (.int how), some (.int (t : Nat)), some (.int (u : Nat)), some r]) ⟨_, (ps_if (PW.pt (pw_or (pt_cmpR op_eq (pv 2) pe_int (nomark _)) (pw_or1 (pt_cmpR op_eq (pv 2) pe_int (nomark _)))))
      (pss_one (ps_set (i := 5) sc__law_changed.nd rfl (Or.inl rfl) (pe_op (op_catA (K := K) rfl) (pe_op (op_catA (K := K) rfl) (pe_slice (sl_tupA (K := K) rfl) (pv 5) po_none (po_some (pv 4))) (pe_tup (pa_cons (pe_call G__law_odd (hr.mono (by decide)) rfl D__law_odd.mg D__law_odd.fn.kp D__law_odd.bd .nil pass0 (pa_cons (pv 0) (pa_cons (pe_callB (call_len_seqK (K := K) rfl) rfl bl.len_ PySem.boot_len (pa_cons (pv 1) pa_nil)) pa_nil))) pa_nil))) (pe_slice (sl_tupA (K := K) rfl) (pv 5) (po_some (pe_op op_add (pv 4) pe_int)) po_none))))
      pss_nil), ?_⟩ ?_
  · rintro _ N σ H1 ⟨c, how, t, u, r, ht, hu, hr1, rfl⟩ hN
    refine ⟨_, rfl, rfl, _, rfl, ?_⟩
    refine ite2 (fun ch => ?_) (fun _ => ⟨_, rfl, rfl, _, rfl, ite2 (fun ch => ?_) (fun _ => hN _ _ ⟨c, how, t, u, r, ht, hu, hr1.mono (by simp), rfl⟩)⟩)
    · have ch' : V.int how = .int 8 := of_decide_eq_true ch
      injection ch' with ch'
      refine iteT ?_
      obtain ⟨row, ⟨p, rfl, hp⟩, hl⟩ := hr1.2 (by simp; omega)
      refine ⟨_, rfl, _, rfl, _, rfl, slA_of hp fun t1 H2 k2 ht1 => ?_⟩
      have lm : (row.map V.int).length = row.length := List.length_map _
      have c2 := c.keep k2
      obtain ⟨av, rs, rfl, ha, pr⟩ := c2.net
      refine ⟨_, rfl, _, rfl, av, rs, rfl, .inr (SqT.of ha), b, _, rfl, c2.bag, fun v H3 k3 hB3 tv => ?_⟩
      have c3 := c2.but k3 hB3
      refine ⟨(by show 1 ≤ sizeLine; decide), fun t4 h4 => ?_⟩
      have k4 := Keep.new h4 (.tup [v])
      have c4 := c3.keep k4
      refine catA_of (k4.tup (k3.tup (bag_neT c2.bag ht1) ht1)) upd_same (Nat.le_trans (Nat.add_le_add (cutV_length _ _ _) (Nat.le_refl 1)) (by omega)) fun t5 H5 k5 ht5 => ?_
      refine ⟨_, rfl, _, rfl, _, _, rfl, rfl, _, rfl, ?_⟩
      dsimp only [tNoPart]
      refine slA_of (k5.tup (k4.tup (k3.tup (bag_neT c2.bag (k2.tup hp)) (k2.tup hp)))) fun t6 H6 k6 ht6 => ?_
      refine catA_of (k6.tup ht5) ht6 (Nat.le_trans (Nat.add_le_add (by rw [List.length_append]; exact Nat.add_le_add (cutV_length _ _ _) (Nat.le_refl 1)) (cutV_length _ _ _)) (by omega)) fun t7 H7 k7 ht7 => ?_
      have c7 := c4.keep ((k5.trans k6).trans k7)
      refine hN _ _ ⟨c7, how, t, u, _, ht, hu, .gone (thb_tup c7.bag ht7 fun y hy => ?_) (by simp; omega), rfl⟩
      rcases List.mem_append.mp hy with hy | hy
      · rcases List.mem_append.mp hy with hy | hy
        · exact thb_ints y (cutV_mem hy)
        · rw [List.mem_singleton.mp hy]
          exact (tv.keep (k4.trans ((k5.trans k6).trans k7))).kd
      · exact thb_ints y (cutV_mem hy)
    · have ch' : V.int how = .int 9 := of_decide_eq_true ch
      injection ch' with ch'
      obtain ⟨row, ⟨p, rfl, hp⟩, hl⟩ := hr1.2 (by simp; omega)
      refine ⟨_, rfl, _, rfl, _, rfl, slA_of hp fun t1 H2 k2 ht1 => ?_⟩
      have lm : (row.map V.int).length = row.length := List.length_map _
      have c2 := c.keep k2
      obtain ⟨av, rs, rfl, ha, pr⟩ := c2.net
      refine ⟨_, rfl, _, rfl, av, rs, rfl, .inr (SqT.of ha), b, _, rfl, c2.bag, fun v H3 k3 hB3 tv => ?_⟩
      have c3 := c2.but k3 hB3
      refine ⟨(by show 1 ≤ sizeLine; decide), fun t4 h4 => ?_⟩
      have k4 := Keep.new h4 (.tup [v])
      have c4 := c3.keep k4
      refine catA_of (k4.tup (k3.tup (bag_neT c2.bag ht1) ht1)) upd_same (Nat.le_trans (Nat.add_le_add (cutV_length _ _ _) (Nat.le_refl 1)) (by omega)) fun t5 H5 k5 ht5 => ?_
      refine ⟨_, rfl, _, rfl, _, _, rfl, rfl, _, rfl, ?_⟩
      dsimp only [tNoPart]
      refine slA_of (k5.tup (k4.tup (k3.tup (bag_neT c2.bag (k2.tup hp)) (k2.tup hp)))) fun t6 H6 k6 ht6 => ?_
      refine catA_of (k6.tup ht5) ht6 (Nat.le_trans (Nat.add_le_add (by rw [List.length_append]; exact Nat.add_le_add (cutV_length _ _ _) (Nat.le_refl 1)) (cutV_length _ _ _)) (by omega)) fun t7 H7 k7 ht7 => ?_
      have c7 := c4.keep ((k5.trans k6).trans k7)
      refine hN _ _ ⟨c7, how, t, u, _, ht, hu, .gone (thb_tup c7.bag ht7 fun y hy => ?_) (by simp; omega), rfl⟩
      rcases List.mem_append.mp hy with hy | hy
      · rcases List.mem_append.mp hy with hy | hy
        · exact thb_ints y (cutV_mem hy)
        · rw [List.mem_singleton.mp hy]
          exact (tv.keep (k4.trans ((k5.trans k6).trans k7))).kd
      · exact thb_ints y (cutV_mem hy)
  refine HoI.cons (fun _ σ H1 => Cg b x net H H1 ∧ ∃ (how : Int) (t u : Nat) (r : V), t < net.length ∧ u < n ∧ Rw b n [8, 9, 6, 5, 2] how r H1 ∧ σ = [some (.ref b), some x, some (.int how), some (.int (t : Nat)), some (.int (u : Nat)), some r]) ⟨_, (ps_if (pt_cmpR op_eq (pv 2) pe_int (nomark _))
      (pss_one (ps_ret (pe_callTy (call_tuple_ofK (K := K) rfl) rfl bl.tuple_ bt_tuple (pa_cons (pe_listcomp (N' := ["_law_row"]) (tn := 1) (idx := []) rfl (show BlockOk ["_law_bag_here", "_law_net_here", "_law_how", "_law_at", "_law_to", "_law_row"] (defScope s__law_changed) _ ["_law_row"] 1 [] from by decide +kernel) (pi_tupK (K := K) rfl (pv 1)) (fun _ _ _ _ _ => (pg_name (i := 0) (show List.Nodup [("_law_row" : Str)] from by decide +kernel) rfl (Or.inl rfl))) (fun _ _ _ _ _ => pif_nil) (fun _ _ _ _ _ => (pe_op (op_catA (K := K) rfl) (pv 0) (pe_tup (pa_cons pe_int pa_nil))))) pa_nil))))
      pss_nil), ?_⟩ ?_
  · rintro _ N σ H1 ⟨c, how, t, u, r, ht, hu, hr1, rfl⟩ hN
    refine ⟨_, rfl, rfl, _, rfl, ?_⟩
    refine ite2 (fun ch => ?_) (fun _ => hN _ _ ⟨c, how, t, u, r, ht, hu, hr1.mono (by simp), rfl⟩)
    have ch' : V.int how = .int 10 := of_decide_eq_true ch
    injection ch' with ch'
    subst ch'
    obtain ⟨av, rs, rfl, ha, pr⟩ := c.net
    have hrl : rs.length = net.length := pr.length
    refine ⟨_, rfl, av, rfl, ⟨_, SqT.of ha⟩, fun dd hdd => ?_⟩
    refine tturn0 (xs := rs) (τ0 := [none]) (fun i acc H2 => Keep H1 H2 ∧ H2 dd = some (.lst acc) ∧ acc.length = i ∧ ∀ y ∈ acc, ∃ row, RowAt H2 y row) (fun i acc H2 _ p => runs_tup (SqT.of (p.1.tup ha))) ⟨.new hdd _, upd_same, rfl, nofun⟩ ?_ ?_
    · rintro i x acc H2 hx ⟨k, hd1, hacc, hall⟩ R2 hR
      obtain ⟨row, hr2, p, rfl, hp⟩ := paired_getL pr hx
      have hi := (List.getElem?_eq_some_iff.mp hx).1
      have hrow := (ok.row row (List.mem_of_getElem? hr2)).1
      refine ⟨_, rfl, (by show 1 ≤ sizeLine; decide), fun t2 h2 => ?_⟩
      have k3 := Keep.new h2 (.tup [.int 0])
      refine catA_of (k3.tup (k.tup hp)) upd_same (by simp; omega) fun t3 H4 k4 ht3 => ?_
      have k24 := k3.trans k4
      have hd4 := k24.lst hd1
      have nt : ∀ (p : Addr) (zs : List V), H4 p = some (.tup zs) → p ≠ dd := fun p zs e z => by rw [z, hd4] at e; cases e
      refine hR _ _ hd4 (Nat.lt_of_le_of_lt (show acc.length ≤ 9 by omega) (by decide)) ⟨(k.trans k24).over hdd, upd_same, by rw [List.length_append, hacc]; rfl, fun y hy => ?_⟩
      rcases List.mem_append.mp hy with hy | hy
      · obtain ⟨row2, p2, e2, hp2⟩ := hall y hy
        exact ⟨row2, p2, e2, by rw [upd_ne (nt p2 _ (k24.tup hp2))]; exact k24.tup hp2⟩
      · refine ⟨row ++ [0], t3, List.mem_singleton.mp hy, ?_⟩
        rw [upd_ne (nt t3 _ ht3), List.map_append]
        exact ht3
    · rintro acc H2 ⟨k, hd1, hacc, hall⟩
      refine ⟨dd, _, rfl, .inl ⟨SqL.of hd1, fun l hl => ?_⟩⟩
      have k3 := Keep.new hl (.tup acc)
      have c3 := c.keep (k.trans k3)
      refine fin _ _ _ c3.kb c3.bag upd_same fun y hy => ?_
      obtain ⟨row2, hr2⟩ := hall y hy
      exact (RowAt.thb hr2 (c.keep k).bag).keep k3
  refine HoI.last ⟨_, (ps_ret (pe_op (op_catA (K := K) rfl) (pe_op (op_catA (K := K) rfl) (pe_slice (sl_tupA (K := K) rfl) (pv 1) po_none (po_some (pv 3))) (pe_tup (pa_cons (pv 5) pa_nil))) (pe_slice (sl_tupA (K := K) rfl) (pv 1) (po_some (pe_op op_add (pv 3) pe_int)) po_none))), ?_⟩
  rintro _ σ H1 ⟨c, how, t, u, r, ht, hu, hr1, rfl⟩
  obtain ⟨av, rs, rfl, ha, pr⟩ := c.net
  have hrl : rs.length = net.length := pr.length
  have hrs := rows_thb pr c.bag
  refine ⟨_, rfl, _, rfl, _, rfl, slA_of ha fun t1 H2 k2 ht1 => ?_⟩
  refine ⟨_, rfl, (by show 1 ≤ sizeLine; decide), fun t2 h2 => ?_⟩
  have k3 := Keep.new h2 (.tup [r])
  refine catA_of (k3.tup ht1) upd_same (Nat.le_trans (Nat.add_le_add (cutV_length _ _ _) (Nat.le_refl 1)) (by omega)) fun t3 H4 k4 ht3 => ?_
  refine ⟨_, rfl, _, rfl, _, _, rfl, rfl, _, rfl, ?_⟩
  dsimp only [tNoPart]
  refine slA_of (((k2.trans k3).trans k4).tup ha) fun t5 H5 k5 ht5 => ?_
  refine catA_of (k5.tup ht3) ht5 (Nat.le_trans (Nat.add_le_add (by rw [List.length_append]; exact Nat.add_le_add (cutV_length _ _ _) (Nat.le_refl 1)) (cutV_length _ _ _)) (by omega)) fun t6 H6 k6 ht6 => ?_
  have k26 := (((k2.trans k3).trans k4).trans k5).trans k6
  have c2 := c.keep k26
  refine fin _ _ _ c2.kb c2.bag ht6 fun y hy => ?_
  rcases List.mem_append.mp hy with hy | hy
  · rcases List.mem_append.mp hy with hy | hy
    · exact (hrs y (cutV_mem hy)).keep k26
    · rw [List.mem_singleton.mp hy]
      exact hr1.1.keep k26
  · exact (hrs y (cutV_mem hy)).keep k26
end
end My

set_option Elab.async false
set_option maxRecDepth 100000
set_option maxHeartbeats 4000000
namespace My
open PySem L2 PyProof.Rows
section
variable {P : Program} {w : World} {K : PySem.W.Frag} {mg : Str → Option Value} {base : Heap} {tb : List Addr} {C_RoadError C_NoNet C_NoPlace C_NoSign C_NoWord C_NoWhole : Addr} {cs : List Addr}
theorem sc__law_signs : FnScope ["_law_thing", "e"] ["_law_thing"] (defScope s__law_signs) := ⟨rfl, rfl, rfl, by decide +kernel, rfl, by decide +kernel, by decide +kernel⟩
theorem rows_ints {ys : List V} {m : Int} (h : ys.all (below m) = true) : ∃ row : List Int, ys = row.map V.int ∧ ∀ g ∈ row, 0 ≤ g ∧ g < m := by
  induction ys with
  | nil => exact ⟨[], rfl, nofun⟩
  | cons y ys ih =>
    rw [List.all_cons, Bool.and_eq_true] at h
    obtain ⟨row, rfl, hg⟩ := ih h.2
    cases y with
    | int i =>
      have h1 := h.1
      simp only [below, Bool.and_eq_true, decide_eq_true_eq] at h1
      refine ⟨i :: row, rfl, fun g hm => ?_⟩
      rcases List.mem_cons.mp hm with rfl | hm
      · exact h1
      · exact hg g hm
    | _ => exact absurd h.1 (by simp [below])
theorem rows_net {H : Hp} {m : Int} {n : Nat} : ∀ {rs : List V}, rs.all (rowB H m n) = true → ∃ net : List (List Int), Paired (RowAt H) rs net ∧ ∀ r ∈ net, r.length = n ∧ ∀ g ∈ r, 0 ≤ g ∧ g < m
  | [], _ => ⟨[], .nil, nofun⟩
  | r :: rs, h => by
    rw [List.all_cons, Bool.and_eq_true] at h
    obtain ⟨net, hp, hn⟩ := rows_net h.2
    have h1 := h.1
    cases r with
    | ref a =>
      simp only [rowB] at h1
      split at h1
      · rename_i ys e
        rw [Bool.and_eq_true] at h1
        obtain ⟨row, rfl, hg⟩ := rows_ints h1.2
        have hl := of_decide_eq_true h1.1
        rw [List.length_map] at hl
        refine ⟨row :: net, .cons ⟨a, rfl, e⟩ hp, fun r hr => ?_⟩
        rcases List.mem_cons.mp hr with rfl | hr
        · exact ⟨hl, hg⟩
        · exact hn r hr
      · cases h1
    | _ => exact absurd h1 (by simp [rowB])
theorem netB_net {H : Hp} {v : V} (h : netB H v = true) : ∃ net n, NetAt H v net ∧ NetOk net n := by
  cases v with
  | ref a =>
    simp only [netB] at h
    split at h
    · rename_i rs e
      rw [Bool.and_eq_true] at h
      have h9 := of_decide_eq_true h.1
      have go : ∀ n : Nat, n = 2 ∨ n = 3 → rs.all (rowB H rs.length n) = true → ∃ net n, NetAt H (.ref a) net ∧ NetOk net n := fun n hn ha => by
        obtain ⟨net, hp, hr⟩ := rows_net ha
        have hl : rs.length = net.length := hp.length
        rw [hl] at hr h9
        exact ⟨net, n, ⟨a, rs, rfl, e, hp⟩, ⟨h9.1, h9.2, hn, hr⟩⟩
      cases c : rs.all (rowB H rs.length 2) with
      | true => exact go 2 (.inl rfl) c
      | false =>
        rw [c, Bool.false_or] at h
        exact go 3 (.inr rfl) h.2
    · cases h
  | _ => exact absurd h (by simp [netB])
def spLSigns (tb : List Addr) : Sp := fun vs H Q _ => ∃ x, vs = [x] ∧ TbAll tb H ∧ Th H 2 x ∧ (netB H x = false → ∀ H', Keep H H' → Q (.str "none") H') ∧
  (netB H x = true → ∃ net n, NetAt H x net ∧ NetOk net n ∧ ∀ H', Keep H H' → Q (.str (sgn n)) H')
theorem ok_law_signs {f f1 : Addr} {fd fd1 : FuncData} (D : Df K mg "_law_signs" s__law_signs ["_law_thing"] f fd)
    (D_signs_of : Df K mg "signs_of" s_signs_of ["net"] f1 fd1) (G_signs_of : FnOk P w K mg base (CX1 P w) 8 f1 fd1 ["net"] (spSigns1 C_NoNet tb))
    (X_ : Errs K C_RoadError cs) (nd : [C_NoNet, C_NoPlace, C_NoSign, C_NoWord, C_NoWhole].Nodup) (m_NoNet : C_NoNet ∈ cs) (m_NoPlace : C_NoPlace ∈ cs) (m_NoSign : C_NoSign ∈ cs) (m_NoWord : C_NoWord ∈ cs) (m_NoWhole : C_NoWhole ∈ cs)
    (g_RoadError : mg "RoadError" = some (.ref C_RoadError)) (g_NoNet : mg "NoNet" = some (.ref C_NoNet)) (g_NoPlace : mg "NoPlace" = some (.ref C_NoPlace)) (g_NoSign : mg "NoSign" = some (.ref C_NoSign)) (g_NoWord : mg "NoWord" = some (.ref C_NoWord)) (g_NoWhole : mg "NoWhole" = some (.ref C_NoWhole)) (bl : Bl mg) :
    FnOk P w K mg base CX0 9 f fd ["_law_thing"] (spLSigns tb) := by
  refine D.fn.ok sc__law_signs (fun vs H Q E h => ?_) (fun cdv A outer s H vs Q E hr h => ?_)
  · obtain ⟨x, rfl, _⟩ := h
    rfl
  obtain ⟨x, rfl, htb, th, q1, q2⟩ := h
  refine ⟨_, (pss_one (ps_try (i := 1) sc__law_signs.nd rfl rfl ⟨rfl, rfl⟩ rfl X_.top rfl g_RoadError (fun T pn EE hp => (pss_one (ps_ret (pe_call G_signs_of (hr.mono (by decide)) rfl D_signs_of.mg D_signs_of.fn.kp D_signs_of.bd .nil hp (pa_cons (pv 0) pa_nil)))))
      (fun ea => (pss_cons (ps_if (PW.pt (pw_or (pt_val (pe_callB (call_isE (K := K) rfl) rfl bl.isinstance_ bt_isinstance (pa_cons (pv 1) (pa_cons (pe_tup (pa_cons (pe_glob (v := .ref C_NoPlace) rfl g_NoPlace rfl) (pa_cons (pe_glob (v := .ref C_NoSign) rfl g_NoSign rfl) (pa_cons (pe_glob (v := .ref C_NoWord) rfl g_NoWord rfl) (pa_cons (pe_glob (v := .ref C_NoWhole) rfl g_NoWhole rfl) pa_nil))))) pa_nil)))) (pw_or1 (pt_not (pt_val (pe_callB (call_isE (K := K) rfl) rfl bl.isinstance_ bt_isinstance (pa_cons (pv 1) (pa_cons (pe_bltn (v := .ty "ValueError") rfl bl.ValueError_ bt_ValueError rfl) pa_nil))))))))
      (pss_one (ps_ret pe_str))
      pss_nil)
    (pss_one (ps_ret (pe_ix (ix_listK (K := K) rfl) (pe_lst (pa_cons pe_str (pa_cons pe_str pa_nil))) (pe_callTy call_int1 rfl bl.int_ bt_int (pa_cons (pe_callB (call_isE (K := K) rfl) rfl bl.isinstance_ bt_isinstance (pa_cons (pv 1) (pa_cons (pe_glob (v := .ref C_NoNet) rfl g_NoNet rfl) pa_nil))) pa_nil)) (fun _ _ => rfl)))))))), ?_⟩
  refine ⟨_, rfl, x, rfl, htb, th, fun hb H1 k1 => ?_, fun hb => ?_⟩
  · refine ⟨C_NoNet, rfl, X_.sub _ m_NoNet, fun a ha => ?_⟩
    have e1 : decide (C_NoNet = C_NoNet) = true := by simp
    refine ⟨_, rfl, by show 4 ≤ sizeLine; decide, fun t ht => ?_⟩
    have hea : upd (upd H1 a (excO C_NoNet a)) t (.tup [.ref C_NoPlace, .ref C_NoSign, .ref C_NoWord, .ref C_NoWhole]) a = some (excO C_NoNet a) := by rw [upd_ne (ne_of_none (H := upd H1 a (excO C_NoNet a)) upd_same ht)]; exact upd_same
    have k2 : Keep H (upd (upd H1 a (excO C_NoNet a)) t (.tup [.ref C_NoPlace, .ref C_NoSign, .ref C_NoWord, .ref C_NoWhole])) := (k1.trans (.new ha _)).trans (.new ht _)
    refine ⟨a, C_NoNet, _, hea, X_.cl _ m_NoNet, .inr (.inr ⟨t, [C_NoPlace, C_NoSign, C_NoWord, C_NoWhole], rfl, upd_same, X_.any m_NoNet (by simp [m_NoPlace, m_NoSign, m_NoWord, m_NoWhole])⟩), _, rfl, ?_⟩
    rw [decide_eq_false (by simp at nd ⊢; simp [nd, Ne.symm])]
    refine iteF ?_
    refine ⟨_, rfl, a, C_NoNet, _, hea, X_.cl _ m_NoNet, .inr (.inl ⟨_, rfl, X_.val _ m_NoNet⟩), _, rfl, ?_⟩
    refine iteF ?_
    refine ⟨by show 2 ≤ sizeLine; decide, fun l hl => ?_⟩
    refine ⟨_, rfl, a, C_NoNet, _, (Keep.new hl _).ext hea, X_.cl _ m_NoNet, .inl ⟨_, rfl, X_.one _ m_NoNet _ m_NoNet⟩, .inr ⟨_, rfl, ?_⟩⟩
    rw [e1]
    exact ⟨l, _, 1, _, rfl, rfl, SqL.of upd_same, atI_nat (j := 1) rfl, q1 hb _ (k2.trans (.new hl _))⟩
  · exact q2 hb
end
end My

set_option Elab.async false
set_option maxRecDepth 100000
set_option maxHeartbeats 4000000
namespace My
open PySem L2 PyProof.Rows
section
variable {P : Program} {w : World} {K : PySem.W.Frag} {mg : Str → Option Value} {base : Heap} {tb : List Addr}
theorem sc_law : FnScope ["_law_script", "_law_k", "_law_bag_here", "_law_net_here", "_law_thing", "_law_due", "_law_found"] ["_law_script"] (defScope s_law) := ⟨rfl, rfl, rfl, by decide +kernel, rfl, by decide +kernel, by decide +kernel⟩

set_option maxHeartbeats 8000000 in
theorem ok_law {f g0 g1 g2 g3 g4 g5 : Addr} {fd gd0 gd1 gd2 gd3 gd4 gd5 : FuncData} (D : Df K mg "law" s_law ["_law_script"] f fd)
    (D__law_bag : Df K mg "_law_bag" s__law_bag ["_law_script", "_law_at"] g0 gd0) (G__law_bag : FnOk P w K mg base CX0 1 g0 gd0 ["_law_script", "_law_at"] (spBag K))
    (D__law_net : Df K mg "_law_net" s__law_net ["_law_bag_here", "_law_most"] g1 gd1) (G__law_net : FnOk P w K mg base CX0 3 g1 gd1 ["_law_bag_here", "_law_most"] spMade)
    (D_is_net : Df K mg "is_net" s_is_net ["thing"] g2 gd2) (G_is_net : FnOk P w K mg base CX0 6 g2 gd2 ["thing"] (spNet tb))
    (D__law_is_net : Df K mg "_law_is_net" s__law_is_net ["_law_thing"] g3 gd3) (G__law_is_net : FnOk P w K mg base CX0 2 g3 gd3 ["_law_thing"] spLNet)
    (D__law_changed : Df K mg "_law_changed" s__law_changed ["_law_bag_here", "_law_net_here"] g4 gd4) (G__law_changed : FnOk P w K mg base CX0 3 g4 gd4 ["_law_bag_here", "_law_net_here"] spChg)
    (D__law_signs : Df K mg "_law_signs" s__law_signs ["_law_thing"] g5 gd5) (G__law_signs : FnOk P w K mg base CX0 9 g5 gd5 ["_law_thing"] (spLSigns tb))
    (bl : Bl mg) : FnOk P w K mg base CX0 10 f fd ["_law_script"] (spLaw K tb) := by
  refine D.fn.ok sc_law (fun vs H Q E h => ?_) (fun cdv A outer s H vs Q E hr h => ?_)
  · obtain ⟨a, ns, rfl, _⟩ := h
    rfl
  obtain ⟨a, ns, rfl, hS, h63, htb, q⟩ := h
  have hl : (ns.map V.int).length = ns.length := List.length_map _
  refine HoI.run (Pre := fun _ σ H1 => H1 = H ∧ σ = [some (.ref a), none, none, none, none, none, none]) (D := fun _ => { nx := fun _ H' => Q .non H', rt := Q }) ⟨rfl, rfl⟩ ?_
  refine HoI.cons (fun _ _ _ => True) ?_ (HoI.last ⟨_, (ps_ret pe_bl), fun _ σ H1 _ => q H1⟩)
  refine HsI.loop (xs := fun _ => (List.range (max 1 (min 4 ns.length))).map fun i => V.int (0 + (i : Nat))) (Pv := fun _ k σ H1 => Keep H H1 ∧ ∃ v1 v2 v3 v4 v5 v6, σ = [some (.ref a), v1, v2, v3, v4, v5, v6])
    (PB := fun j σ H1 => j.2.1 < 4 ∧ Keep H H1 ∧ ∃ v2 v3 v4 v5 v6, σ = [some (.ref a), some (.int (j.2.1 : Nat)), v2, v3, v4, v5, v6]) (fun tb h => ps_for PassesOwn.never rfl (pi_range1 rfl bl.range_ (pa_cons (pe_callB (call_max2 rfl) rfl bl.max_ bt_max (pa_cons pe_int (pa_cons (pe_callB (call_min2 rfl) rfl bl.min_ bt_min (pa_cons pe_int (pa_cons (pe_callB (call_len_seqK (K := K) rfl) rfl bl.len_ PySem.boot_len (pa_cons (pv 0) pa_nil)) pa_nil))) pa_nil))) pa_nil)) (pg_name (i := 1) sc_law.nd rfl (Or.inl rfl)) h) ?_ ?_ ?_ ?_
  · rintro _ σ H1 ⟨rfl, rfl⟩ R hR
    refine ⟨_, rfl, a, _, rfl, .inl hS, _, _, rfl, _, _, rfl, _, rfl, by split <;> (try split) <;> omega, by split <;> (try split) <;> omega, ?_⟩
    refine hR _ _ ⟨.refl _, _, _, _, _, _, _, rfl⟩ fun k σ' H' hk p => ?_
    rw [hl]
    have e := cells_eq 4 ns.length (by decide)
    rw [show ((4 : Nat) : Int) = 4 from rfl] at e
    rw [e]
    exact runs_range
  · rintro _ k x σ H1 M hx ⟨k1, v1, v2, v3, v4, v5, v6, rfl⟩ _ N hN
    obtain ⟨rfl, hi⟩ := range_atN hx
    exact hN _ _ ⟨by show k < 4; omega, k1, v2, v3, v4, v5, v6, rfl⟩
  · -- the bag
    refine HoI.cons (fun j σ H1 => ∃ b, H b = none ∧ Keep H H1 ∧ BagAt H1 b ∧ TbAll tb H1 ∧ ∃ v1 v3 v4 v5 v6, σ = [some (.ref a), v1, some (.ref b), v3, v4, v5, v6]) ⟨_, (ps_set (i := 2) sc_law.nd rfl (Or.inl rfl) (pe_call G__law_bag (hr.mono (by decide)) rfl D__law_bag.mg D__law_bag.fn.kp D__law_bag.bd .nil pass0 (pa_cons (pv 0) (pa_cons (pv 1) pa_nil)))), ?_⟩ ?_
    · rintro ⟨_, k, x, M⟩ N σ H1 ⟨hk, k1, v2, v3, v4, v5, v6, rfl⟩ hN
      have hk' : k < 4 := hk
      refine ⟨_, rfl, _, rfl, a, ns, _, rfl, k1.sqL hS, h63, by omega, by show ((k : Nat) : Int) ≤ 63; omega, fun b H2 hb k2 hB2 => ?_⟩
      exact hN _ _ ⟨b, k1.free hb, k1.trans k2, hB2, TbAll.keep (k1.trans k2) htb, _, v3, v4, v5, v6, rfl⟩
    refine HoI.cons (fun j σ H1 => ∃ b v net n, H b = none ∧ NetOk net n ∧ Ctx b v net n tb H H1 ∧ ∃ v1 v4 v5 v6, σ = [some (.ref a), v1, some (.ref b), some v, v4, v5, v6]) ⟨_, (ps_set (i := 3) sc_law.nd rfl (Or.inl rfl) (pe_call G__law_net (hr.mono (by decide)) rfl D__law_net.mg D__law_net.fn.kp D__law_net.bd .nil pass0 (pa_cons (pv 2) (pa_cons pe_int pa_nil)))), ?_⟩ ?_
    · rintro ⟨_, k, x, M⟩ N σ H1 ⟨b, hb, k1, hB, ht, v1, v3, v4, v5, v6, rfl⟩ hN
      refine ⟨_, rfl, b, _, rfl, hB, by decide, by decide, fun v net n H2 hN2 ok k2 hB2 _ => ?_⟩
      exact hN _ _ ⟨b, v, net, n, hb, ok, ⟨(k1.but b).trans k2, hB2, hN2, tb_but ht hB k2⟩, v1, v4, v5, v6, rfl⟩
    refine hoI_lastS (Mid := fun j σ H1 => Keep H H1 ∧ ∃ v1 v2 v3 v4 v5 v6, σ = [some (.ref a), v1, v2, v3, v4, v5, v6]) ?_ (fun j σ H1 h => h)
    refine HsI.loopX (xs := fun cc : Addr × List V => cc.2) (Pv := fun _ cc _ σ H1 => Keep H H1 ∧ TbAll tb H1 ∧ H1 cc.1 = some (.lst cc.2) ∧ (∀ y ∈ cc.2, Th H1 2 y) ∧ ∃ v1 v2 v3 v4 v5 v6, σ = [some (.ref a), v1, v2, v3, v4, v5, v6])
      (PB := fun j σ H1 => Keep H H1 ∧ TbAll tb H1 ∧ H1 j.1.2.1 = some (.lst j.1.2.2) ∧ (∀ y ∈ j.1.2.2, Th H1 2 y) ∧ ∃ x, Th H1 2 x ∧ ∃ v1 v2 v3 v5 v6, σ = [some (.ref a), v1, v2, v3, some x, v5, v6]) (fun tb h => ps_for PassesOwn.never rfl (pi_listK (K := K) rfl (pe_lst (pa_cons (pv 3) (pa_cons (pe_call G__law_changed (hr.mono (by decide)) rfl D__law_changed.mg D__law_changed.fn.kp D__law_changed.bd .nil pass0 (pa_cons (pv 2) (pa_cons (pv 3) pa_nil))) (pa_cons (pe_call G__law_changed (hr.mono (by decide)) rfl D__law_changed.mg D__law_changed.fn.kp D__law_changed.bd .nil pass0 (pa_cons (pv 2) (pa_cons (pv 3) pa_nil))) pa_nil))))) (pg_name (i := 4) sc_law.nd rfl (Or.inl rfl)) h) ?_ ?_ ?_ ?_
    · rintro j σ H1 ⟨b, v, net, n, hb, ok, c, v1, v4, v5, v6, rfl⟩ R hR
      refine ⟨_, rfl, _, rfl, _, rfl, b, v, net, n, rfl, c.bag, c.net, ok, fun x1 H2 k2 hB2 t1 => ?_⟩
      have c2 := c.but k2 hB2
      refine ⟨_, rfl, _, rfl, b, v, net, n, rfl, c2.bag, c2.net, ok, fun x2 H3 k3 hB3 t2 => ?_⟩
      have c3 := c2.but k3 hB3
      refine ⟨(by show 3 ≤ sizeLine; decide), fun l hl => ?_⟩
      have K4 := Keep.new hl (.lst [v, x1, x2])
      have c4 := c3.keep K4
      refine ⟨l, rfl, ⟨_, SqL.of upd_same⟩, hR (l, [v, x1, x2]) _ _ ⟨c4.kb.keep hb, c4.tabs, upd_same, fun y hy => ?_, _, _, _, _, _, _, rfl⟩ fun _ _ _ _ p => runs_list (SqL.of p.2.2.1)⟩
      simp only [List.mem_cons, List.not_mem_nil, or_false] at hy
      rcases hy with rfl | rfl | rfl
      · exact c4.net.th
      · exact (((t1.but k3).keep K4)).th
      · exact (t2.keep K4).th
    · rintro j ⟨l, xs⟩ k x σ H1 M hx ⟨k1, htb, hl, hall, v1, v2, v3, v4, v5, v6, rfl⟩ _ N hN
      exact hN _ _ ⟨k1, htb, hl, hall, x, hall x (List.mem_of_getElem? hx), v1, v2, v3, v5, v6, rfl⟩
    · refine HoI.cons (fun j σ H1 => Keep H H1 ∧ TbAll tb H1 ∧ H1 j.1.2.1 = some (.lst j.1.2.2) ∧ (∀ y ∈ j.1.2.2, Th H1 2 y) ∧ ∃ x, Th H1 2 x ∧ ∃ v1 v2 v3 v6, σ = [some (.ref a), v1, v2, v3, some x, some (.bl (netB H1 x)), v6]) ⟨_, (ps_set (i := 5) sc_law.nd rfl (Or.inl rfl) (pe_call G__law_is_net (hr.mono (by decide)) rfl D__law_is_net.mg D__law_is_net.fn.kp D__law_is_net.bd .nil pass0 (pa_cons (pv 4) pa_nil))), ?_⟩ ?_
      · rintro ⟨⟨j, l, xs⟩, k, x0, M⟩ N σ H1 ⟨k1, htb, hl, hall, x, tx, v1, v2, v3, v5, v6, rfl⟩ hN
        refine ⟨_, rfl, x, rfl, tx, fun H2 k2 => ?_⟩
        have h2 := hN _ _ ⟨k1.trans k2, htb.keep k2, k2.lst hl, fun y hy => (hall y hy).keep k2, x, tx.keep k2, v1, v2, v3, v6, rfl⟩
        rw [netB_keep k2 ⟨tx.1, fun a ys e1 e2 y hy => (tx.2 a ys e1 e2 y hy).1⟩] at h2
        exact h2
      refine HoI.cons (fun j σ H1 => Keep H H1 ∧ TbAll tb H1 ∧ H1 j.1.2.1 = some (.lst j.1.2.2) ∧ (∀ y ∈ j.1.2.2, Th H1 2 y) ∧ ∃ x, Th H1 2 x ∧ ∃ v1 v2 v3 , σ = [some (.ref a), v1, v2, v3, some x, some (.bl (netB H1 x)), some (.bl (netB H1 x))]) ⟨_, (ps_set (i := 6) sc_law.nd rfl (Or.inl rfl) (pe_call G_is_net (hr.mono (by decide)) rfl D_is_net.mg D_is_net.fn.kp D_is_net.bd .nil pass0 (pa_cons (pv 4) pa_nil))), ?_⟩ ?_
      · rintro ⟨⟨j, l, xs⟩, k, x0, M⟩ N σ H1 ⟨k1, htb, hl, hall, x, tx, v1, v2, v3, v6, rfl⟩ hN
        refine ⟨_, rfl, x, rfl, htb, tx, fun H2 k2 => ?_⟩
        have h2 := hN _ _ ⟨k1.trans k2, htb.keep k2, k2.lst hl, fun y hy => (hall y hy).keep k2, x, tx.keep k2, v1, v2, v3, rfl⟩
        rw [netB_keep k2 ⟨tx.1, fun a ys e1 e2 y hy => (tx.2 a ys e1 e2 y hy).1⟩] at h2
        exact h2
      refine HoI.cons (fun j σ H1 => Keep H H1 ∧ TbAll tb H1 ∧ H1 j.1.2.1 = some (.lst j.1.2.2) ∧ (∀ y ∈ j.1.2.2, Th H1 2 y) ∧ ∃ x, Th H1 2 x ∧ ∃ v1 v2 v3 , σ = [some (.ref a), v1, v2, v3, some x, some (.bl (netB H1 x)), some (.bl (netB H1 x))]) ⟨_, (ps_if (PW.pt (pw_or (pt_not (pt_val (pe_callB (call_isinstK (K := K) rfl) rfl bl.isinstance_ bt_isinstance (pa_cons (pv 6) (pa_cons (pe_bltn (v := .ty "bool") rfl bl.bool_ bt_bool rfl) pa_nil))))) (pw_or1 (pt_cmpR op_ne (pv 6) (pv 5) (nomark _)))))
      (pss_one (ps_ret pe_bl))
      pss_nil), ?_⟩ ?_
      · rintro ⟨⟨j, l, xs⟩, k, x0, M⟩ N σ H1 ⟨k1, htb, hl, hall, x, tx, v1, v2, v3, rfl⟩ hN
        obtain ⟨t2, ty2, e2⟩ := kd_bool (K := K) (H := H1) (.bl (netB H1 x))
        refine ⟨_, rfl, _, "bool", t2, _, rfl, ty2, e2, _, rfl, ?_⟩
        refine iteF ?_
        refine ⟨_, rfl, _, rfl, rfl, _, rfl, ?_⟩
        rw [decide_eq_true rfl]
        exact iteF (hN _ _ ⟨k1, htb, hl, hall, x, tx, v1, v2, v3, rfl⟩)
      refine HoI.last ⟨_, (ps_if (pt_cmpR op_ne (pe_call G__law_signs (hr.mono (by decide)) rfl D__law_signs.mg D__law_signs.fn.kp D__law_signs.bd .nil pass0 (pa_cons (pv 4) pa_nil)) (pe_ifExp (pt_val (pv 5)) (pe_slice sl_str pe_str po_none (po_some (pe_callB (call_len_seqK (K := K) rfl) rfl bl.len_ PySem.boot_len (pa_cons (pe_ix (ix_tupK (K := K) rfl) (pv 4) pe_int (fun _ _ => rfl)) pa_nil)))) pe_str) (nomark _))
      (pss_one (ps_ret pe_bl))
      pss_nil), ?_⟩
      rintro ⟨⟨j, l, xs⟩, k, x0, M⟩ σ H1 ⟨k1, htb, hl, hall, x, tx, v1, v2, v3, rfl⟩
      refine ⟨_, rfl, x, rfl, htb, tx, fun hb H2 k2 => ?_, fun hb => ?_⟩
      · refine ⟨_, rfl, _, rfl, ?_⟩
        rw [hb]
        refine iteF ?_
        refine ⟨rfl, _, rfl, ?_⟩
        exact iteNS rfl ⟨k1.trans k2, htb.keep k2, k2.lst hl, fun y hy => (hall y hy).keep k2, _, _, _, _, _, _, rfl⟩
      · obtain ⟨net, n, hN, ok⟩ := netB_net hb
        refine ⟨net, n, hN, ok, fun H2 k2 => ?_⟩
        refine ⟨_, rfl, _, rfl, ?_⟩
        rw [hb]
        refine iteT ?_
        obtain ⟨av, rs, p0, row, rfl, ha, h0, hp0, hrow, hlen⟩ := net0 (hN.keep k2) ok
        refine ⟨_, rfl, av, rs, 0, _, rfl, rfl, SqT.of ha, h0, p0, row, rfl, .inr (SqT.of hp0), _, rfl, "abc", rfl, by decide +kernel, ?_⟩
        rw [hrow]
        refine ⟨rfl, _, rfl, ?_⟩
        exact iteNS rfl ⟨k1.trans k2, htb.keep k2, k2.lst hl, fun y hy => (hall y hy).keep k2, _, _, _, _, _, _, rfl⟩
    · rintro j ⟨l, xs⟩ σ H1 ⟨k1, _, _, _, h⟩
      exact ⟨k1, h⟩
  · intro _ _ _ _
    trivial
end
end My

set_option Elab.async false
set_option maxRecDepth 100000
set_option maxHeartbeats 4000000
namespace My
open PySem L2 PyProof.Rows
theorem all_mk {l : PySem.W.OpenLaw} {w : World} {K : PySem.W.Frag} {h : Heap} {mg : Str → Option Value} {fa : Addr} {tabs : List Addr} {C_RoadError C_NoNet C_NoPlace C_NoSign C_NoWord C_NoWhole : Addr} (X : K.In h) (G : h.Ns mainGlobals mg) (hfa : mg "law" = some (.ref fa))
    (T : Paired (fun y p => ∃ f o fd c, mg y = some (.ref f) ∧ h.get? f = some o ∧ o.data = .func fd ∧ fd.code = .ref c ∧ PySem.W.CodeHd h c p) ["is_row", "is_net"] tabs)
    (n_RoadError : PySem.W.nsIn K mainGlobals "RoadError" = some (some (.ref C_RoadError)))
    (n_NoNet : PySem.W.nsIn K mainGlobals "NoNet" = some (some (.ref C_NoNet)))
    (n_NoPlace : PySem.W.nsIn K mainGlobals "NoPlace" = some (some (.ref C_NoPlace)))
    (n_NoSign : PySem.W.nsIn K mainGlobals "NoSign" = some (some (.ref C_NoSign)))
    (n_NoWord : PySem.W.nsIn K mainGlobals "NoWord" = some (some (.ref C_NoWord)))
    (n_NoWhole : PySem.W.nsIn K mainGlobals "NoWhole" = some (some (.ref C_NoWhole)))
    (eb : errsB K C_RoadError [C_NoNet, C_NoPlace, C_NoSign, C_NoWord, C_NoWhole] = true) (ndc : [C_NoNet, C_NoPlace, C_NoSign, C_NoWord, C_NoWhole].Nodup)
    (d_is_whole : DefIn K "is_whole" s_is_whole)
    (d_is_whole_below : DefIn K "is_whole_below" s_is_whole_below)
    (d_is_row : DefIn K "is_row" s_is_row)
    (d_is_net : DefIn K "is_net" s_is_net)
    (d_need_net : DefIn K "need_net" s_need_net)
    (d_signs_of : DefIn K "signs_of" s_signs_of)
    (d__law_bag : DefIn K "_law_bag" s__law_bag)
    (d__law_take : DefIn K "_law_take" s__law_take)
    (d__law_order : DefIn K "_law_order" s__law_order)
    (d__law_net : DefIn K "_law_net" s__law_net)
    (d__law_is_whole : DefIn K "_law_is_whole" s__law_is_whole)
    (d__law_is_net : DefIn K "_law_is_net" s__law_is_net)
    (d__law_odd : DefIn K "_law_odd" s__law_odd)
    (d__law_none : DefIn K "_law_none" s__law_none)
    (d__law_changed : DefIn K "_law_changed" s__law_changed)
    (d__law_signs : DefIn K "_law_signs" s__law_signs)
    (d_law : DefIn K "law" s_law)
    (z_len : PySem.W.nsIn K mainGlobals "len" = some none)
    (z_range : PySem.W.nsIn K mainGlobals "range" = some none)
    (z_min : PySem.W.nsIn K mainGlobals "min" = some none)
    (z_max : PySem.W.nsIn K mainGlobals "max" = some none)
    (z_abs : PySem.W.nsIn K mainGlobals "abs" = some none)
    (z_list : PySem.W.nsIn K mainGlobals "list" = some none)
    (z_tuple : PySem.W.nsIn K mainGlobals "tuple" = some none)
    (z_int : PySem.W.nsIn K mainGlobals "int" = some none)
    (z_str : PySem.W.nsIn K mainGlobals "str" = some none)
    (z_bool : PySem.W.nsIn K mainGlobals "bool" = some none)
    (z_isinstance : PySem.W.nsIn K mainGlobals "isinstance" = some none)
    (z_all : PySem.W.nsIn K mainGlobals "all" = some none)
    (z_set : PySem.W.nsIn K mainGlobals "set" = some none)
    (z_sorted : PySem.W.nsIn K mainGlobals "sorted" = some none)
    (z_zip : PySem.W.nsIn K mainGlobals "zip" = some none)
    (z_enumerate : PySem.W.nsIn K mainGlobals "enumerate" = some none)
    (z_sum : PySem.W.nsIn K mainGlobals "sum" = some none)
    (z_reversed : PySem.W.nsIn K mainGlobals "reversed" = some none)
    (z_divmod : PySem.W.nsIn K mainGlobals "divmod" = some none)
    (z_any : PySem.W.nsIn K mainGlobals "any" = some none)
    (z_ValueError : PySem.W.nsIn K mainGlobals "ValueError" = some none)
    (t_SIGNS : ∃ tk, PySem.W.nsIn K mainGlobals "SIGNS" = some (some (.str "abc" tk)))
    (t_MOST_PLACES : ∃ tk, PySem.W.nsIn K mainGlobals "MOST_PLACES" = some (some (.int 9 tk)))
    : ∃ fd : FuncData, (∀ (s : Shared) (v : Value), BindsTo s fd ⟨[v], []⟩ [("_law_script", v)]) ∧ ∀ base : Heap, K.In base → base.Ns mainGlobals mg → (∃ bm ob, BMod base mainGlobals mg bm ob) → (∀ c p, PySem.W.CodeHd h c p → PySem.W.CodeHd base c p) → FnOk l.prog w K mg base CX0 10 fa fd ["_law_script"] (spLaw K tabs) := by
  obtain ⟨f_is_whole, fd_is_whole, D_is_whole⟩ := d_is_whole.df X G ["thing"] fun _ _ _ _ _ _ us hl => match us, hl with | [_], _ => rfl
  obtain ⟨f_is_whole_below, fd_is_whole_below, D_is_whole_below⟩ := d_is_whole_below.df X G ["thing", "many"] fun _ _ _ _ _ _ us hl => match us, hl with | [_, _], _ => rfl
  obtain ⟨f_is_row, fd_is_row, D_is_row⟩ := d_is_row.df X G ["thing", "many", "width"] fun _ _ _ _ _ _ us hl => match us, hl with | [_, _, _], _ => rfl
  obtain ⟨f_is_net, fd_is_net, D_is_net⟩ := d_is_net.df X G ["thing"] fun _ _ _ _ _ _ us hl => match us, hl with | [_], _ => rfl
  obtain ⟨f_need_net, fd_need_net, D_need_net⟩ := d_need_net.df X G ["thing"] fun _ _ _ _ _ _ us hl => match us, hl with | [_], _ => rfl
  obtain ⟨f_signs_of, fd_signs_of, D_signs_of⟩ := d_signs_of.df X G ["net"] fun _ _ _ _ _ _ us hl => match us, hl with | [_], _ => rfl
  obtain ⟨f__law_bag, fd__law_bag, D__law_bag⟩ := d__law_bag.df X G ["_law_script", "_law_at"] fun _ _ _ _ _ _ us hl => match us, hl with | [_, _], _ => rfl
  obtain ⟨f__law_take, fd__law_take, D__law_take⟩ := d__law_take.df X G ["_law_bag_here", "_law_many"] fun _ _ _ _ _ _ us hl => match us, hl with | [_, _], _ => rfl
  obtain ⟨f__law_order, fd__law_order, D__law_order⟩ := d__law_order.df X G ["_law_bag_here", "_law_many"] fun _ _ _ _ _ _ us hl => match us, hl with | [_, _], _ => rfl
  obtain ⟨f__law_net, fd__law_net, D__law_net⟩ := d__law_net.df X G ["_law_bag_here", "_law_most"] fun _ _ _ _ _ _ us hl => match us, hl with | [_, _], _ => rfl
  obtain ⟨f__law_is_whole, fd__law_is_whole, D__law_is_whole⟩ := d__law_is_whole.df X G ["_law_thing"] fun _ _ _ _ _ _ us hl => match us, hl with | [_], _ => rfl
  obtain ⟨f__law_is_net, fd__law_is_net, D__law_is_net⟩ := d__law_is_net.df X G ["_law_thing"] fun _ _ _ _ _ _ us hl => match us, hl with | [_], _ => rfl
  obtain ⟨f__law_odd, fd__law_odd, D__law_odd⟩ := d__law_odd.df X G ["_law_bag_here", "_law_many"] fun _ _ _ _ _ _ us hl => match us, hl with | [_, _], _ => rfl
  obtain ⟨f__law_none, fd__law_none, D__law_none⟩ := d__law_none.df X G ["_law_bag_here", "_law_net_here"] fun _ _ _ _ _ _ us hl => match us, hl with | [_, _], _ => rfl
  obtain ⟨f__law_changed, fd__law_changed, D__law_changed⟩ := d__law_changed.df X G ["_law_bag_here", "_law_net_here"] fun _ _ _ _ _ _ us hl => match us, hl with | [_, _], _ => rfl
  obtain ⟨f__law_signs, fd__law_signs, D__law_signs⟩ := d__law_signs.df X G ["_law_thing"] fun _ _ _ _ _ _ us hl => match us, hl with | [_], _ => rfl
  obtain ⟨f_law, fd_law, D_law⟩ := d_law.df X G ["_law_script"] fun _ _ _ _ _ _ us hl => match us, hl with | [_], _ => rfl
  have g_RoadError := PySem.W.mg_of X G n_RoadError
  have g_NoNet := PySem.W.mg_of X G n_NoNet
  have g_NoPlace := PySem.W.mg_of X G n_NoPlace
  have g_NoSign := PySem.W.mg_of X G n_NoSign
  have g_NoWord := PySem.W.mg_of X G n_NoWord
  have g_NoWhole := PySem.W.mg_of X G n_NoWhole
  have X_ := errs_of eb
  have m_NoNet : C_NoNet ∈ [C_NoNet, C_NoPlace, C_NoSign, C_NoWord, C_NoWhole] := by simp
  have m_NoPlace : C_NoPlace ∈ [C_NoNet, C_NoPlace, C_NoSign, C_NoWord, C_NoWhole] := by simp
  have m_NoSign : C_NoSign ∈ [C_NoNet, C_NoPlace, C_NoSign, C_NoWord, C_NoWhole] := by simp
  have m_NoWord : C_NoWord ∈ [C_NoNet, C_NoPlace, C_NoSign, C_NoWord, C_NoWhole] := by simp
  have m_NoWhole : C_NoWhole ∈ [C_NoNet, C_NoPlace, C_NoSign, C_NoWord, C_NoWhole] := by simp
  have e := hfa.symm.trans D_law.mg
  cases e
  have bl : Bl mg := ⟨PySem.W.mg_none_of X G z_len, PySem.W.mg_none_of X G z_range, PySem.W.mg_none_of X G z_min, PySem.W.mg_none_of X G z_max, PySem.W.mg_none_of X G z_abs, PySem.W.mg_none_of X G z_list, PySem.W.mg_none_of X G z_tuple, PySem.W.mg_none_of X G z_int, PySem.W.mg_none_of X G z_str, PySem.W.mg_none_of X G z_bool, PySem.W.mg_none_of X G z_isinstance, PySem.W.mg_none_of X G z_all, PySem.W.mg_none_of X G z_set, PySem.W.mg_none_of X G z_sorted, PySem.W.mg_none_of X G z_zip, PySem.W.mg_none_of X G z_enumerate, PySem.W.mg_none_of X G z_sum, PySem.W.mg_none_of X G z_reversed, PySem.W.mg_none_of X G z_divmod, PySem.W.mg_none_of X G z_any, PySem.W.mg_none_of X G z_ValueError⟩
  obtain ⟨tk_SIGNS, t_SIGNS⟩ := t_SIGNS
  have tx_SIGNS := PySem.W.mg_of X G t_SIGNS
  obtain ⟨tk_MOST_PLACES, t_MOST_PLACES⟩ := t_MOST_PLACES
  have tx_MOST_PLACES := PySem.W.mg_of X G t_MOST_PLACES
  obtain ⟨p_is_row, tr_is_row, rfl, T_is_row, T⟩ := paired_cons T
  obtain ⟨p_is_net, tr_is_net, rfl, T_is_net, T⟩ := paired_cons T
  cases T
  refine ⟨fd_law, fun s v => D_law.bind1 s v (by intros; rfl), fun base _ _ hbm tr => ?_⟩
  obtain ⟨c_is_row, C_is_row⟩ := dfc_of D_is_row X T_is_row tr
  obtain ⟨c_is_net, C_is_net⟩ := dfc_of D_is_net X T_is_net tr
  have hp_is_row : p_is_row ∈ [p_is_row, p_is_net] := by simp
  have hp_is_net : p_is_net ∈ [p_is_row, p_is_net] := by simp
  have G_is_net := ok_is_net (P := l.prog) (w := w) (tb := [p_is_row, p_is_net]) D_is_net C_is_net hp_is_net hbm D_is_row C_is_row hp_is_row D_is_whole_below D_is_whole bl tx_MOST_PLACES
  have G_need_net := ok_need_net D_need_net D_is_net G_is_net X_ m_NoNet g_NoNet
  have G_signs_of := ok_signs_of D_signs_of D_need_net G_need_net bl tx_SIGNS
  have G_told := ok_law_signs D__law_signs D_signs_of G_signs_of X_ ndc m_NoNet m_NoPlace m_NoSign m_NoWord m_NoWhole g_RoadError g_NoNet g_NoPlace g_NoSign g_NoWord g_NoWhole bl
  exact ok_law D_law D__law_bag (ok_law_bag D__law_bag bl) D__law_net (ok_law_net D__law_net D__law_take D__law_order bl) D_is_net G_is_net D__law_is_net (ok_law_is_net D__law_is_net D__law_is_whole bl) D__law_changed (ok_law_changed D__law_changed D__law_take D__law_odd D__law_none bl) D__law_signs G_told bl
theorem walk {l : PySem.W.OpenLaw} {q : Program} {loose : List Str} {XP : (Str → Option Value) → Heap → Prop} {YP : World → Heap → Prop} {d : DefRec} {K : Params → PySem.W.Frag} (hn : l.most = some 63) (hdf : d.params.defaults = [])
    (hKc : ∀ w : World, PySem.W.kb_classed (K w.params) = true) (hnm : ∀ y ∈ (["is_row", "is_net"] : List Str), ∃ r ∈ recsOf q, r.name = y) (hY : ∀ (w : World) (h : Heap), YP w h → (K w.params).In h)
    (F : ∀ (w : World) (mg : Str → Option Value) (fa : Addr) (h : Heap) (tabs : List Addr), (K w.params).In h → h.Ns mainGlobals mg → mg d.name = some (.ref fa) →
      Paired (fun y p => ∃ f o fd c, mg y = some (.ref f) ∧ h.get? f = some o ∧ o.data = .func fd ∧ fd.code = .ref c ∧ PySem.W.CodeHd h c p) ["is_row", "is_net"] tabs →
      ∃ fd : FuncData, (∀ (s : Shared) (u : Value), BindsTo s fd ⟨[u], []⟩ [("_law_script", u)]) ∧
        ∀ base : Heap, (K w.params).In base → base.Ns mainGlobals mg → (∃ bm ob, BMod base mainGlobals mg bm ob) → (∀ c p, PySem.W.CodeHd h c p → PySem.W.CodeHd base c p) → FnOk l.prog w (K w.params) mg base CX0 10 fa fd ["_law_script"] (spLaw (K w.params) tabs)) :
    PySem.W.WalkO q loose XP YP l.row.toRowW d [] (fun f vs => PySem.call f vs) :=
  L2.walk_ofT (n := 63) (k := 10) (x := "_law_script") (CX := CX0) (sp := fun K tabs => spLaw K tabs) hn (by decide) hdf ⟨rfl, by decide, by decide⟩ hKc hnm hY F (fun _ _ _ a ns hl hT hS => ⟨a, ns, rfl, hS, hl, hT, fun _ => rfl⟩) fun _ _ _ _ z => z
end My

set_option Elab.async false
open PySem PySem.W PyProof.Rows L2
set_option maxRecDepth 100000 in
set_option maxHeartbeats 0 in
theorem PySem.Challenge.cw_roadcall_k01_nets_of_any_thing_holds : PySem.Challenge.rw_roadcall_k01_nets_of_any_thing.Holds := by
  w_on; o_law; k_head; (case hw => w_witness2)
  k_fill
  refine My.walk (l := PySem.Challenge.rw_roadcall_k01_nets_of_any_thing) rfl rfl (fun w => rfl) ?nms (fun w h Y => PySem.W.kIn_of Y) ?F
  (case nms => exact recs_of (by decide +kernel))
  case F =>
    intro w mg fa h tabs KX G hmg T
    refine' My.all_mk KX G hmg T ?n_RoadError ?n_NoNet ?n_NoPlace ?n_NoSign ?n_NoWord ?n_NoWhole ?eb ?ndc ?d_is_whole ?d_is_whole_below ?d_is_row ?d_is_net ?d_need_net ?d_signs_of ?d__law_bag ?d__law_take ?d__law_order ?d__law_net ?d__law_is_whole ?d__law_is_net ?d__law_odd ?d__law_none ?d__law_changed ?d__law_signs ?d_law ?z_len ?z_range ?z_min ?z_max ?z_abs ?z_list ?z_tuple ?z_int ?z_str ?z_bool ?z_isinstance ?z_all ?z_set ?z_sorted ?z_zip ?z_enumerate ?z_sum ?z_reversed ?z_divmod ?z_any ?z_ValueError ?t_SIGNS ?t_MOST_PLACES
    (case n_RoadError => k_is)
    (case n_NoNet => k_is)
    (case n_NoPlace => k_is)
    (case n_NoSign => k_is)
    (case n_NoWord => k_is)
    (case n_NoWhole => k_is)
    (case eb => kernel_rfl)
    (case ndc => decide)
    (case d_is_whole => refine' L2.defIn_mk ?a ?l ?c ?k; (case a => k_is); (case l => k_is); (case c => k_is); (case k => k_is))
    (case d_is_whole_below => refine' L2.defIn_mk ?a ?l ?c ?k; (case a => k_is); (case l => k_is); (case c => k_is); (case k => k_is))
    (case d_is_row => refine' L2.defIn_mk ?a ?l ?c ?k; (case a => k_is); (case l => k_is); (case c => k_is); (case k => k_is))
    (case d_is_net => refine' L2.defIn_mk ?a ?l ?c ?k; (case a => k_is); (case l => k_is); (case c => k_is); (case k => k_is))
    (case d_need_net => refine' L2.defIn_mk ?a ?l ?c ?k; (case a => k_is); (case l => k_is); (case c => k_is); (case k => k_is))
    (case d_signs_of => refine' L2.defIn_mk ?a ?l ?c ?k; (case a => k_is); (case l => k_is); (case c => k_is); (case k => k_is))
    (case d__law_bag => refine' L2.defIn_mk ?a ?l ?c ?k; (case a => k_is); (case l => k_is); (case c => k_is); (case k => k_is))
    (case d__law_take => refine' L2.defIn_mk ?a ?l ?c ?k; (case a => k_is); (case l => k_is); (case c => k_is); (case k => k_is))
    (case d__law_order => refine' L2.defIn_mk ?a ?l ?c ?k; (case a => k_is); (case l => k_is); (case c => k_is); (case k => k_is))
    (case d__law_net => refine' L2.defIn_mk ?a ?l ?c ?k; (case a => k_is); (case l => k_is); (case c => k_is); (case k => k_is))
    (case d__law_is_whole => refine' L2.defIn_mk ?a ?l ?c ?k; (case a => k_is); (case l => k_is); (case c => k_is); (case k => k_is))
    (case d__law_is_net => refine' L2.defIn_mk ?a ?l ?c ?k; (case a => k_is); (case l => k_is); (case c => k_is); (case k => k_is))
    (case d__law_odd => refine' L2.defIn_mk ?a ?l ?c ?k; (case a => k_is); (case l => k_is); (case c => k_is); (case k => k_is))
    (case d__law_none => refine' L2.defIn_mk ?a ?l ?c ?k; (case a => k_is); (case l => k_is); (case c => k_is); (case k => k_is))
    (case d__law_changed => refine' L2.defIn_mk ?a ?l ?c ?k; (case a => k_is); (case l => k_is); (case c => k_is); (case k => k_is))
    (case d__law_signs => refine' L2.defIn_mk ?a ?l ?c ?k; (case a => k_is); (case l => k_is); (case c => k_is); (case k => k_is))
    (case d_law => refine' L2.defIn_mk ?a ?l ?c ?k; (case a => k_is); (case l => k_is); (case c => k_is); (case k => k_is))
    (case z_len => k_is)
    (case z_range => k_is)
    (case z_min => k_is)
    (case z_max => k_is)
    (case z_abs => k_is)
    (case z_list => k_is)
    (case z_tuple => k_is)
    (case z_int => k_is)
    (case z_str => k_is)
    (case z_bool => k_is)
    (case z_isinstance => k_is)
    (case z_all => k_is)
    (case z_set => k_is)
    (case z_sorted => k_is)
    (case z_zip => k_is)
    (case z_enumerate => k_is)
    (case z_sum => k_is)
    (case z_reversed => k_is)
    (case z_divmod => k_is)
    (case z_any => k_is)
    (case z_ValueError => k_is)
    (case t_SIGNS => refine' L2.strIn_mk ?a; (case a => k_is))
    (case t_MOST_PLACES => refine' L2.intIn_mk ?a; (case a => k_is))

