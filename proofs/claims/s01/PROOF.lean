import PyProof.Rows.All
import Wide.All
import OpenK.AllK
import Wide.FinOn
import PyProof.EqAt
import PyProof.EqKinds
import PyProof.TupleCall
import KE.BitLaws
import Open.SpecLaws
import KE.OsHead
import KE.OsGo
import PyFlatLaws
import PySem.Challenge.RW_landreserves_s01_answers
section
set_option Elab.async false
set_option linter.all false
set_option maxRecDepth 100000
theorem PySem.ex5 {a b : Type} {A B C : a → b → Prop} {P : Prop} (h : ∃ x y, A x y ∧ B x y ∧ C x y) (k : ∀ x y, A x y → B x y → C x y → P) : P := by
  obtain ⟨x, y, h1, h2, h3⟩ := h
  exact k x y h1 h2 h3
theorem PySem.ex4 {a b : Type} {A B : a → b → Prop} {P : Prop} (h : ∃ x y, A x y ∧ B x y) (k : ∀ x y, A x y → B x y → P) : P := by
  obtain ⟨x, y, h1, h2⟩ := h
  exact k x y h1 h2
theorem PySem.ex3 {a : Type} {A B : a → Prop} {P : Prop} (h : ∃ x, A x ∧ B x) (k : ∀ x, A x → B x → P) : P := by
  obtain ⟨x, h1, h2⟩ := h
  exact k x h1 h2
namespace L2
open PySem PySem.Spec PyProof.Rows
abbrev Key := Sum Int Str
def keyIs : Key → Value → Bool
  | .inl k, v => Value.isInt k v
  | .inr x, v => Value.isStrOf x v
def keyH (w : World) : Key → Int
  | .inl k => hashInt k
  | .inr x => hashStr w x
theorem keyIs_shape : ∀ {k : Key} {v : Value}, keyIs k v = true → (∃ i t, k = Sum.inl i ∧ v = Value.int i t) ∨ (∃ x t, k = Sum.inr x ∧ v = Value.str x t)
  | .inl i, v, h => by
    obtain ⟨t, e⟩ := Value.isInt_shape (k := i) (v := v) h
    exact .inl ⟨i, t, rfl, e⟩
  | .inr x, v, h => by
    obtain ⟨t, e⟩ := Value.isStrOf_shape (x := x) (v := v) h
    exact .inr ⟨x, t, rfl, e⟩
theorem key_ll (a b : Int) : decide ((Sum.inl a : Key) = Sum.inl b) = (a == b) := by
  by_cases e : a = b
  · subst e; simp
  · have h : ¬ (Sum.inl a : Key) = Sum.inl b := fun q => e (Sum.inl.inj q)
    rw [decide_eq_false h]
    exact (beq_eq_false_iff_ne.mpr e).symm
theorem key_rr (a b : Str) : decide ((Sum.inr a : Key) = Sum.inr b) = decide (a = b) := by
  by_cases e : a = b
  · subst e; simp
  · have h : ¬ (Sum.inr a : Key) = Sum.inr b := fun q => e (Sum.inr.inj q)
    rw [decide_eq_false h, decide_eq_false e]
theorem key_lr (a : Int) (b : Str) : decide ((Sum.inl a : Key) = Sum.inr b) = false := decide_eq_false (fun q => nomatch q)
theorem key_rl (a : Str) (b : Int) : decide ((Sum.inr a : Key) = Sum.inl b) = false := decide_eq_false (fun q => nomatch q)
def mixKind (prog : Program) (w : World) : PySem.KeyKind prog w Key where
  is := keyIs
  hash := keyH w
  inj := fun v a b ha hb => by
    rcases keyIs_shape ha with ⟨i, t, rfl, rfl⟩ | ⟨x, t, rfl, rfl⟩
    · rcases keyIs_shape hb with ⟨j, u, rfl, e⟩ | ⟨y, u, rfl, e⟩
      · injection e with e1 _; rw [e1]
      · exact nomatch e
    · rcases keyIs_shape hb with ⟨j, u, rfl, e⟩ | ⟨y, u, rfl, e⟩
      · exact nomatch e
      · injection e with e1 _; rw [e1]
  byValue := fun k v h => by
    rcases keyIs_shape h with ⟨i, t, rfl, rfl⟩ | ⟨x, t, rfl, rfl⟩ <;> rfl
  pyHash := fun hv h => by
    rcases keyIs_shape hv with ⟨i, t, rfl, rfl⟩ | ⟨x, t, rfl, rfl⟩
    · exact wpAny_pyHash_int h
    · exact wpAny_pyHash_str h
  eqBool := fun hu hv h => by
    rcases keyIs_shape hu with ⟨i, t, rfl, rfl⟩ | ⟨x, t, rfl, rfl⟩
    · rcases keyIs_shape hv with ⟨j, u, rfl, rfl⟩ | ⟨y, u, rfl, rfl⟩
      · rw [key_ll] at h; exact wpAny_eqBool_int h
      · rw [key_lr] at h; exact SeqAt.EqAt.int_str i t y u _ _ _ _ h
    · rcases keyIs_shape hv with ⟨j, u, rfl, rfl⟩ | ⟨y, u, rfl, rfl⟩
      · rw [key_rl] at h; exact SeqAt.EqAt.str_int x t j u _ _ _ _ h
      · rw [key_rr] at h; exact wpAny_eqBool_str h
  «strs» := fun k x t v h => by
    rcases keyIs_shape h with ⟨i, u, rfl, e⟩ | ⟨y, u, rfl, e⟩
    · exact nomatch e
    · injection e with e1 _
      subst e1
      cases v <;> rfl
end L2
namespace L2
open PySem PySem.Spec PyProof.Rows
inductive V where
  | non | bl (b : Bool) | int (i : Int) | str (x : Str) | byt (b : Array UInt8) | flt (b : UInt64) | ref (a : Addr) | ty (n : String)
  deriving DecidableEq
def RelV : V → Value → Prop
  | .non, u => u = Value.none
  | .bl b, u => u = Value.bool b
  | .int i, u => ∃ t, u = Value.int i t
  | .str x, u => ∃ t, u = Value.str x t
  | .byt b, u => ∃ t, u = Value.bytes b t
  | .flt b, u => ∃ t, u = Value.float b t
  | .ref a, u => u = Value.ref a
  | .ty n, u => u = Value.type n
abbrev Vals : List V → List Value → Prop := Paired RelV
theorem Vals.length {xs : List V} {us : List Value} (r : Vals xs us) : xs.length = us.length := Paired.length r
theorem Vals.get : ∀ {xs : List V} {us : List Value} {i : Nat} {x : V}, Vals xs us → xs[i]? = some x → ∃ u, us[i]? = some u ∧ RelV x u
  | _, _, _, _, .nil, e => by simp at e
  | _, _, 0, _, .cons r _, e => by simp at e; subst e; exact ⟨_, rfl, r⟩
  | _, _, i + 1, x, .cons _ t, e => by
    obtain ⟨u, h1, h2⟩ := Vals.get (i := i) (x := x) t (by simpa using e)
    exact ⟨u, by simpa using h1, h2⟩
theorem Vals.set {x : V} {u : Value} (r : RelV x u) : ∀ {xs : List V} {us : List Value} (i : Nat), Vals xs us → Vals (xs.set i x) (us.set i u)
  | _, _, _, .nil => .nil
  | _, _, 0, .cons _ t => .cons r t
  | _, _, i + 1, .cons q t => .cons q (Vals.set r i t)
theorem Vals.append : ∀ {xs ys : List V} {us ws : List Value}, Vals xs us → Vals ys ws → Vals (xs ++ ys) (us ++ ws)
  | _, _, _, _, .nil, s => s
  | _, _, _, _, .cons r t, s => .cons r (Vals.append t s)
theorem Vals.take : ∀ {xs : List V} {us : List Value} (n : Nat), Vals xs us → Vals (xs.take n) (us.take n)
  | _, _, 0, _ => .nil
  | _, _, _ + 1, .nil => .nil
  | _, _, n + 1, .cons r t => .cons r (Vals.take n t)
theorem Vals.drop : ∀ {xs : List V} {us : List Value} (n : Nat), Vals xs us → Vals (xs.drop n) (us.drop n)
  | _, _, 0, r => r
  | _, _, _ + 1, .nil => .nil
  | _, _, n + 1, .cons _ t => Vals.drop n t
def RelO : Option V → Option Value → Prop
  | some v, some u => RelV v u
  | none, none => True
  | _, _ => False
def KV {κ : Type} : List (κ × V) → List (κ × Value) → Prop := Paired fun (p : κ × V) (q : κ × Value) => p.1 = q.1 ∧ RelV p.2 q.2
def kV : Key → V
  | .inl i => .int i
  | .inr x => .str x
inductive HO where
  /-- a list -/
  | lst (xs : List V)
  /-- a tuple (never changes) -/
  | tup (xs : List V)
  /-- a dict whose keys are ints and texts; one whose keys are tuples of ints and texts (the empty one is both) -/
  | dK (kvs : List (Key × V)) | dT (kvs : List (List Key × V))
  /-- a set of ints: its members, its size -/
  | set (S : Int → Bool) (n : Nat)
  /-- an instance of the class at C, its dict at dx, its attributes -/
  | ins (C dx : Addr) (fs : List (Str × V))
  /-- the dict of the instance at x -/
  | own (x : Addr)
  /-- the dict of an exception -/
  | xd (fs : List (Str × V))
  /-- a bound method, f of x -/
  | met (f x : Addr)
  /-- a range object lo, lo + 1, .. below hi -/
  | rng (lo hi : Int)
  /-- a thing that is known to the object (the script; a dict while a loop walks it): read, never written while it is so -/
  | frz (o : Obj) (u : HO)
  /-- a code object's table -/
  | tbl (ps : Array Value)
  /-- any other thing, by what is true of its one object (a def of one's own: SetO a S n := HO.ext fun h => ..) -/
  | ext (φ : Heap → Prop)
abbrev Hp := Addr → Option HO
def upd (H : Hp) (a : Addr) (o : HO) : Hp := fun b => if b = a then some o else H b
theorem upd_same {H : Hp} {a : Addr} {o : HO} : upd H a o a = some o := by unfold upd; rw [if_pos rfl]
theorem upd_ne {H : Hp} {a b : Addr} {o : HO} (h : b ≠ a) : upd H a o b = H b := by unfold upd; rw [if_neg h]
theorem upd_upd {H : Hp} {a : Addr} {o u : HO} : upd (upd H a o) a u = upd H a u := by
  funext b; unfold upd; split <;> rfl
theorem ne_of {H : Hp} {a b : Addr} {o u : HO} (h : H a = some o) (h' : H b = some u) (d : o ≠ u) : a ≠ b := by
  intro e; subst e; rw [h] at h'; exact d (Option.some.inj h')
theorem ne_of_none {H : Hp} {a b : Addr} {o : HO} (h : H a = some o) (h' : H b = none) : a ≠ b := by
  intro e; subst e; rw [h] at h'; cases h'
section
variable (P : Program) (w : World)
def ObjOk (H : Hp) (h : Heap) (a : Addr) : HO → Prop
  | .lst xs => xs.length ≤ sizeLine ∧ ∃ (its : List Value) (n : Nat), Vals xs its ∧ h.get? a = some { cls := .type "list", data := .seq its.toArray n }
  | .tup xs => xs.length ≤ sizeLine ∧ ∃ its : List Value, Vals xs its ∧ IsTup h a its.toArray
  | .dK kvs => kvs.length ≤ sizeLine ∧ (a == sysModules) = false ∧ ∃ vs, KV kvs vs ∧ h.DictOf (mixKind P w) a vs
  | .dT kvs => kvs.length ≤ sizeLine ∧ (a == sysModules) = false ∧ ∃ xs : List (List Key × Addr × Value),
      Paired (fun (p : List Key × V) (q : List Key × Addr × Value) => p.1 = q.1 ∧ H q.2.1 = some (.tup (p.1.map kV)) ∧ RelV p.2 q.2.2) kvs xs ∧
      ∃ o es ep, h.get? a = some o ∧ o.ExactDict ∧ o.data = .dict es ep ∧ es.toList = xs.map (entryOfKey (tupleKind (mixKind P w))) ∧ (xs.map (·.1)).Nodup
  | .set S n => h.SetOf (intKind P w) a S n
  | .ins C dx fs => H dx = some (.own a) ∧ fs.length ≤ 1000 ∧ dx ≠ a ∧ h.get? a = some (PySem.W.instObj C dx) ∧
      ∃ mA, h.Ns1 dx mA ∧ (∀ f, RelO (fs.lookup f) (mA f)) ∧ PySem.Within mA (fs.map (·.1))
  | .own _ => ∃ o, h.get? a = some o
  | .xd fs => ∃ mA, h.Ns1 a mA ∧ ∀ f, RelO (fs.lookup f) (mA f)
  | .rng lo hi => ∃ t u v, h.get? a = some { cls := .type "range", data := .fields #[.int lo t, .int hi u, .int 1 v] }
  | .frz o u => h.get? a = some o ∧ ObjOk H h a u
  | .tbl ps => h.get? a = some { cls := .none, data := .fields ps }
  | .met f x => h.get? a = some (PySem.W.methodObj (.ref f) (.ref x))
  | .ext φ => φ h ∧ (∃ o, h.get? a = some o) ∧ ∀ h1 h2 : Heap, φ h1 → (∀ o, h1.get? a = some o → h2.get? a = some o) → φ h2
def HOk (H : Hp) (h : Heap) : Prop := ∀ a o, H a = some o → ObjOk P w H h a o
end
section
variable {P : Program} {w : World} {H H' : Hp} {h h' : Heap} {a : Addr} {o : HO}
theorem ObjOk.lt (x : ObjOk P w H h a o) : a < h.objs.size := by
  cases o with
  | lst xs => obtain ⟨_, _, _, _, e⟩ := x; exact Heap.lt_size e
  | tup xs => obtain ⟨_, _, _, p⟩ := x; exact p.lt
  | dK kvs => obtain ⟨_, _, _, _, o, _, _, e, _⟩ := x; exact Heap.lt_size e
  | dT kvs => obtain ⟨_, _, _, _, o, _, _, e, _⟩ := x; exact Heap.lt_size e
  | set S n => obtain ⟨o, _, _, _, e, _⟩ := x; exact Heap.lt_size e
  | ins C dx fs => obtain ⟨_, _, _, e, _⟩ := x; exact Heap.lt_size e
  | own y => obtain ⟨_, e⟩ := x; exact Heap.lt_size e
  | xd fs => obtain ⟨_, ⟨_, _, _, e, _⟩, _⟩ := x; exact Heap.lt_size e
  | rng lo hi => obtain ⟨_, _, _, e⟩ := x; exact Heap.lt_size e
  | frz ob u => obtain ⟨e, _⟩ := x; exact Heap.lt_size e
  | tbl ps => exact Heap.lt_size (show h.get? a = some _ from x)
  | met f y => exact Heap.lt_size (show h.get? a = some _ from x)
  | ext φ => obtain ⟨_, ⟨_, e⟩, _⟩ := x; exact Heap.lt_size e
theorem Paired.mapP {α β : Type} {F G : α → β → Prop} : ∀ {l₁ : List α} {l₂ : List β}, Paired F l₁ l₂ → (∀ a b, F a b → G a b) → Paired G l₁ l₂
  | _, _, .nil, _ => .nil
  | _, _, .cons r t, f => .cons (f _ _ r) (Paired.mapP t f)
theorem ObjOk.stay (x : ObjOk P w H h a o) (k : ∀ b u, (b = a ∨ H b = some (.own a)) → h.get? b = some u → h'.get? b = some u)
    (ho : ∀ b, H b = some (.own a) → H' b = some (.own a)) (ht : ∀ b xs, H b = some (.tup xs) → H' b = some (.tup xs)) : ObjOk P w H' h' a o := by
  induction o with
  | lst xs => obtain ⟨z, its, n, r, e⟩ := x; exact ⟨z, its, n, r, k _ _ (.inl rfl) e⟩
  | tup xs => obtain ⟨z, its, r, ob, e, c⟩ := x; exact ⟨z, its, r, ob, k _ _ (.inl rfl) e, c⟩
  | dK kvs => obtain ⟨z, y, vs, r, ob, es, ep, e, c⟩ := x; exact ⟨z, y, vs, r, ob, es, ep, k _ _ (.inl rfl) e, c⟩
  | dT kvs =>
    obtain ⟨z, y, xs, r, ob, es, ep, e, c⟩ := x
    exact ⟨z, y, xs, Paired.mapP r fun p q z => ⟨z.1, ht _ _ z.2.1, z.2.2⟩, ob, es, ep, k _ _ (.inl rfl) e, c⟩
  | set S n => obtain ⟨ob, es, ep, t, e, c⟩ := x; exact ⟨ob, es, ep, t, k _ _ (.inl rfl) e, c⟩
  | ins C dx fs =>
    obtain ⟨d, z, ne, e, mA, ⟨od, es, ep, e2, c⟩, r⟩ := x
    exact ⟨ho _ d, z, ne, k _ _ (.inl rfl) e, mA, ⟨od, es, ep, k _ _ (.inr d) e2, c⟩, r⟩
  | own y => obtain ⟨ob, e⟩ := x; exact ⟨ob, k _ _ (.inl rfl) e⟩
  | xd fs => obtain ⟨mA, ⟨od, es, ep, e, c⟩, r⟩ := x; exact ⟨mA, ⟨od, es, ep, k _ _ (.inl rfl) e, c⟩, r⟩
  | rng lo hi => obtain ⟨t, u, v, e⟩ := x; exact ⟨t, u, v, k _ _ (.inl rfl) e⟩
  | frz ob u ih => obtain ⟨e, q⟩ := x; exact ⟨k _ _ (.inl rfl) e, ih q⟩
  | tbl ps =>
    have e : h.get? a = some { cls := .none, data := .fields ps } := x
    show h'.get? a = some { cls := .none, data := .fields ps }
    exact k a _ (.inl rfl) e
  | met f y =>
    have e : h.get? a = some (PySem.W.methodObj (.ref f) (.ref y)) := x
    show h'.get? a = some (PySem.W.methodObj (.ref f) (.ref y))
    exact k a _ (.inl rfl) e
  | ext φ => obtain ⟨p, ⟨o, e⟩, st⟩ := x; exact ⟨st _ _ p fun o q => k _ _ (.inl rfl) q, ⟨o, k _ _ (.inl rfl) e⟩, st⟩
theorem HOk.lt (x : HOk P w H h) (e : H a = some o) : a < h.objs.size := (x a o e).lt
theorem HOk.fresh (x : HOk P w H h) (e : h.objs.size ≤ a) : H a = none := by
  cases q : H a with
  | none => rfl
  | some u => exact absurd (Nat.lt_of_lt_of_le (x.lt q) e) (Nat.lt_irrefl _)
theorem HOk.kept (x : HOk P w H h) (k : ∀ b u, h.get? b = some u → h'.get? b = some u) : HOk P w H h' := fun a o e =>
  (x a o e).stay (fun b u _ q => k b u q) (fun _ q => q) fun _ _ q => q
theorem HOk.laid (x : HOk P w H h) (k : ∀ b u, h.get? b = some u → h'.get? b = some u) (hp : h.objs.size ≤ a) (new : ObjOk P w (upd H a o) h' a o) : HOk P w (upd H a o) h' := fun b u e => by
  have hn := x.fresh hp
  by_cases hb : b = a
  · subst hb; rw [upd_same] at e; cases e; exact new
  · rw [upd_ne hb] at e
    exact (x b u e).stay (fun c v _ q => k c v q) (fun c q => by rw [upd_ne (ne_of_none q hn)]; exact q) fun c xs q => by rw [upd_ne (ne_of_none q hn)]; exact q
end
def Rd (H : Hp) (a : Addr) (u : HO) : Prop := H a = some u ∨ ∃ o, H a = some (.frz o u)
theorem Rd.ok {P : Program} {w : World} {H : Hp} {h : Heap} {a : Addr} {u : HO} (r : Rd H a u) (x : HOk P w H h) : ObjOk P w H h a u := by
  rcases r with r | ⟨o, r⟩
  · exact x a u r
  · obtain ⟨_, q⟩ := x a _ r
    exact q
def Mut : Option HO → Prop
  | some (.lst _) => True
  | some (.dK _) => True
  | some (.dT _) => True
  | some (.set _ _) => True
  | some (.ins _ _ _) => True
  | some (.ext _) => True
  | _ => False
section
variable {P : Program} {w : World} {H : Hp} {h h' : Heap} {x e : Addr} {o' : HO}
theorem HOk.write (ok : HOk P w H h) (mu : Mut (H x)) (he : e = x ∨ H e = some (.own x)) (k : ∀ b u, b ≠ e → h.get? b = some u → h'.get? b = some u) (heo : ∃ u, h'.get? e = some u)
    (new : ObjOk P w (upd H x o') h' x o') : HOk P w (upd H x o') h' := fun b u q => by
  have nown : ∀ c y, H c = some (.own y) → c ≠ x := fun c y r z => by subst z; rw [r] at mu; exact mu
  have ntup : ∀ c xs, H c = some (.tup xs) → c ≠ x := fun c xs r z => by subst z; rw [r] at mu; exact mu
  by_cases hb : b = x
  · subst hb; rw [upd_same] at q; cases q; exact new
  · rw [upd_ne hb] at q
    by_cases hbe : b = e
    · have q' : H b = some (.own x) := by
        rcases he with z | z
        · exact absurd (hbe.trans z) hb
        · rw [hbe]; exact z
      rw [q] at q'; cases q'
      obtain ⟨v, hv⟩ := heo
      exact ⟨v, by rw [hbe]; exact hv⟩
    · refine (ok b u q).stay (fun c v hc r => k c v ?_ r) (fun c r => by rw [upd_ne (nown c b r)]; exact r) fun c xs r => by rw [upd_ne (ntup c xs r)]; exact r
      rcases hc with rfl | hc
      · exact hbe
      · rintro rfl
        rcases he with z | z
        · exact nown c b hc z
        · rw [hc] at z; cases z; exact hb rfl
end
structure Un (fs ex : List Addr) (H H' : Hp) (h h' : Heap) : Prop where
  keep : ∀ b o, h.get? b = some o → H b = none → b ∉ fs → b ∉ ex → h'.get? b = some o
  slot : ∀ b o, h.get? b = some o → H b = none → b ∈ fs → b ∉ ex → ∃ sl, h'.get? b = some { o with slots := sl }
  free : ∀ b o, h.get? b = some o → H b = none → b ∉ ex → H' b = none
  there : ∀ b o, h.get? b = some o → b ∉ ex → ∃ o', h'.get? b = some o'
  tups : ∀ b xs, H b = some (.tup xs) → H' b = some (.tup xs)
  frzs : ∀ b o u, H b = some (.frz o u) → H' b = some (.frz o u)
  tbls : ∀ b ps, H b = some (.tbl ps) → ∃ more, H' b = some (.tbl (ps ++ more))
section
variable {fs fs' ex ex' : List Addr} {H H1 H2 : Hp} {h h1 h2 h' : Heap} {a x e : Addr} {o : HO}
theorem Un.any (u : Un fs ex H H1 h h1) {b : Addr} {ob : Obj} (q : h.get? b = some ob) (n : H b = none) (hx : b ∉ ex) : ∃ sl, h1.get? b = some { ob with slots := sl } := by
  by_cases hb : b ∈ fs
  · exact u.slot b ob q n hb hx
  · exact ⟨ob.slots, u.keep b ob q n hb hx⟩
theorem Un.kept (k : ∀ b u, h.get? b = some u → h'.get? b = some u) : Un fs ex H H h h' :=
  ⟨fun b ob q _ _ _ => k b ob q, fun b ob q _ _ _ => ⟨ob.slots, k b ob q⟩, fun _ _ _ n _ => n, fun b ob q _ => ⟨ob, k b ob q⟩, fun _ _ q => q, fun _ _ _ q => q, fun _ ps q => ⟨#[], by rw [q]; simp⟩⟩
theorem Un.refl : Un fs ex H H h h := Un.kept fun _ _ q => q
theorem Un.laid (k : ∀ b u, h.get? b = some u → h'.get? b = some u) (hp : h.objs.size ≤ a) (hn : H a = none) : Un fs ex H (upd H a o) h h' where
  keep := fun b u q _ _ _ => k b u q
  slot := fun b u q _ _ _ => ⟨u.slots, k b u q⟩
  free := fun b u q n _ => by rw [upd_ne (Nat.ne_of_lt (Nat.lt_of_lt_of_le (Heap.lt_size q) hp))]; exact n
  there := fun b u q _ => ⟨u, k b u q⟩
  tups := fun b xs q => by rw [upd_ne (ne_of_none q hn)]; exact q
  frzs := fun b u xs q => by rw [upd_ne (ne_of_none q hn)]; exact q
  tbls := fun b ps q => ⟨#[], by rw [upd_ne (ne_of_none q hn), q]; simp⟩
theorem Un.write (mu : Mut (H x)) (he : e = x ∨ H e = some (.own x)) (k : ∀ b u, b ≠ e → h.get? b = some u → h'.get? b = some u) (heo : ∃ u, h'.get? e = some u) : Un fs ex H (upd H x o) h h' := by
  have hx : ∀ b, H b = none → b ≠ x := fun b n z => by subst z; rw [n] at mu; exact mu
  have hb : ∀ b, H b = none → b ≠ e := fun b n z => by
    subst z
    rcases he with r | r
    · exact hx b n r
    · rw [n] at r; cases r
  have hm : ∀ b u, H b = some u → ¬ Mut (some u) → b ≠ x := fun b u q nm z => by subst z; rw [q] at mu; exact nm mu
  refine ⟨fun b u q n _ _ => k b u (hb b n) q, fun b u q n _ _ => ⟨u.slots, k b u (hb b n) q⟩, fun b u q n _ => by rw [upd_ne (hx b n)]; exact n, fun b u q _ => ?_,
    fun b xs q => by rw [upd_ne (hm b _ q fun z => z)]; exact q, fun b u xs q => by rw [upd_ne (hm b _ q fun z => z)]; exact q, fun b ps q => ⟨#[], by rw [upd_ne (hm b _ q fun z => z), q]; simp⟩⟩
  by_cases hbe : b = e
  · subst hbe; exact heo
  · exact ⟨u, k b u hbe q⟩
end
def trk (h : Heap) (H : Hp) : List Addr := (List.range h.objs.size).filter fun a => (H a).isSome
def hidT (h : Heap) (H : Hp) : Heap := PySem.W.hideAll h (trk h H)
theorem hidT_size (h : Heap) (H : Hp) : (hidT h H).objs.size = h.objs.size := PySem.W.hideAll_size _ _
theorem hidT_get {h : Heap} {H : Hp} {b : Addr} {o : Obj} (e : h.get? b = some o) (n : H b = none) : (hidT h H).get? b = some o :=
  PySem.W.hideAll_get _ e fun hm => by
    have q : (H b).isSome = true := (List.mem_filter.mp hm).2
    rw [n] at q; simp at q
theorem of_hidT {h : Heap} {H : Hp} {b : Addr} {o : Obj} (e : (hidT h H).get? b = some o) : h.get? b = some o ∧ H b = none := by
  have e' : h.get? b = some o := PySem.W.of_hideAll (trk h H) e
  refine ⟨e', ?_⟩
  cases q : H b with
  | none => rfl
  | some x =>
    have hm : b ∈ trk h H := List.mem_filter.mpr ⟨List.mem_range.mpr (Heap.lt_size e'), by simp [q]⟩
    have z : (hidT h H).get? b = none := PySem.W.hideAll_none (trk h H) hm
    rw [z] at e; cases e
end L2
namespace L2
open PySem PySem.Spec PyProof.Rows
structure Mod (K : PySem.W.Frag) (mg : Str → Option Value) (base : Heap) : Prop where
  kin : K.In base
  glob : base.Ns mainGlobals mg
  blt : ∃ mb, base.Ns builtinsNs mb ∧ ∀ x : Str, x ≠ "__name__" → mb x = bootBuiltins x
  nolimit : base.NoLimit
structure Cx where
  prog : Program
  w : World
  K : PySem.W.Frag
  mg : Str → Option Value
  base : Heap
  A : Around
  N : List Str
  s_0 : Shared
  H_0 : Hp
  env : Env
  outer : List Env
  stack : List Env
  ex : List Addr
  fn : Str → Bool
  calm : Bool
  pn : List (Addr × Obj)
  xe : Value → Shared → Prop
def frs (l : List Env) : List Addr := l.filterMap (·.frame)
abbrev Cx.fs (X : Cx) : List Addr := frs X.outer
def Vis (sc : Scope) (x : Str) : Prop := sc.names.lookup x = some .local ∨ sc.names.lookup x = some .cell ∨ sc.names.lookup x = some .free
def Loc (sc : Scope) (x : Str) : Prop := sc.names.lookup x = some .local ∨ sc.names.lookup x = some .cell
def Look (env : Env) (h : Heap) (m : Str → Option Value) (x : Str) (u : Value) : Prop :=
  (env.kindOf x = some .local ∧ m x = some u) ∨ ((env.kindOf x = some .cell ∨ env.kindOf x = some .free) ∧ ∃ c, env.cells.lookup x = some c ∧ h.IsCell c (some u))
structure Cx.Ok (X : Cx) : Prop where
  mod : Mod X.K X.mg X.base
  kind : X.env.scope.kind = .function
  glob : X.env.globals = mainGlobals
  blt : X.env.builtins = builtinsNs
  above : X.s_0.heap.objs.size ≤ X.env.locals
  inj : ∀ x y c, X.env.cells.lookup x = some c → X.env.cells.lookup y = some c → x = y
  has : ∀ x, (X.env.kindOf x = some .cell ∨ X.env.kindOf x = some .free) → ∃ c, X.env.cells.lookup x = some c
  cab : ∀ x c, X.fn x = true → X.env.cells.lookup x = some c → X.s_0.heap.objs.size ≤ c
  hd : X.calm = true → X.A.handled = none
  frames : X.A.frames = some X.stack
  stk : X.stack = X.outer ∨ (X.stack = X.env :: X.outer ∧ X.env.frame = some X.env.locals)
  exf : ∀ b ∈ X.ex, b ≠ X.env.locals ∧ ∀ x c, X.env.cells.lookup x = some c → c ≠ b
  bs : ∀ b o, X.base.get? b = some o → X.s_0.heap.get? b = some o ∧ X.H_0 b = none
  bsz : X.base.objs.size ≤ X.s_0.heap.objs.size
  noex : ∀ b o, X.base.get? b = some o → b ∉ X.ex
  exfs : ∀ b ∈ X.ex, b ∉ X.fs
  funs : X.s_0.heap.FunFrames X.base X.outer
  frf : ∀ b ∈ X.fs, X.H_0 b = none
structure Inv (X : Cx) (pins : List (Addr × Obj)) (σ : List (Option V)) (H : Hp) (s : Shared) : Prop where
  ok : X.Ok
  os : s.os = X.s_0.os
  bare : AllBare s.gens
  base : Un X.fs X.ex X.H_0 H X.s_0.heap s.heap
  loc : ∃ m, s.heap.Ns X.env.locals m ∧ ∀ (i : Nat) (x : Str) (v : V), X.N[i]? = some x → σ[i]? = some (some v) → Vis X.env.scope x → ∃ u, RelV v u ∧ Look X.env s.heap m x u
  cell : ∀ x c, X.env.cells.lookup x = some c → ∃ v, s.heap.IsCell c v
  free : H X.env.locals = none
  freeC : ∀ x c, X.env.cells.lookup x = some c → H c = none
  pin : ∀ p ∈ X.pn ++ pins, s.heap.get? p.1 = some p.2 ∧ H p.1 = none ∧ p.1 ≠ X.env.locals ∧ p.1 ∉ X.fs ∧ ∀ v, p.2.data ≠ .cell v
  hok : HOk X.prog X.w H s.heap
  len : σ.length = X.N.length
section
variable {X : Cx} {pins : List (Addr × Obj)} {σ : List (Option V)} {H H' : Hp} {s : Shared} {h' : Heap}
theorem Cx.Ok.nofr (ok : X.Ok) {b : Addr} {o : Obj} (e : X.base.get? b = some o) : b ∉ X.fs := fun hb => by
  have := (ok.funs.mem hb).1
  rw [e] at this; cases this
theorem Inv.bs (I : Inv X pins σ H s) : ∀ b o, X.base.get? b = some o → s.heap.get? b = some o ∧ H b = none := fun b o e =>
  ⟨I.base.keep b o (I.ok.bs b o e).1 (I.ok.bs b o e).2 (I.ok.nofr e) (I.ok.noex b o e), I.base.free b o (I.ok.bs b o e).1 (I.ok.bs b o e).2 (I.ok.noex b o e)⟩
theorem Inv.bk (I : Inv X pins σ H s) : ∀ b o, X.base.get? b = some o → s.heap.get? b = some o := fun b o e => (I.bs b o e).1
theorem Inv.mod (I : Inv X pins σ H s) : Mod X.K X.mg X.base := I.ok.mod
theorem Inv.kIn (I : Inv X pins σ H s) : X.K.In s.heap := I.ok.mod.kin.keeps I.bk
theorem Inv.lt (I : Inv X pins σ H s) : X.env.locals < s.heap.objs.size := let ⟨_, hn, _⟩ := I.loc; hn.lt
theorem Inv.sz (I : Inv X pins σ H s) : X.s_0.heap.objs.size ≤ s.heap.objs.size := Nat.le_trans I.ok.above (Nat.le_of_lt I.lt)
theorem Inv.nofs (I : Inv X pins σ H s) {a : Addr} (h : s.heap.objs.size ≤ a) : a ∉ X.fs := fun hb => by
  obtain ⟨_, o, ho, _⟩ := I.ok.funs.mem hb
  exact absurd (Nat.lt_of_lt_of_le (Heap.lt_size ho) (Nat.le_trans I.sz h)) (Nat.lt_irrefl _)
theorem Inv.cne (I : Inv X pins σ H s) : ∀ x c, X.env.cells.lookup x = some c → c ≠ X.env.locals := fun x c e z => by
  obtain ⟨v, o, ho, hd⟩ := I.cell x c e
  obtain ⟨m, ⟨o', es, ep, ho', hd', _⟩, _⟩ := I.loc
  rw [z, ho'] at ho; cases ho; rw [hd'] at hd; cases hd
theorem Inv.funs (I : Inv X pins σ H s) : s.heap.FunFrames X.base X.outer := by
  have all : ∀ (l : List Env), (∀ b ∈ frs l, b ∈ X.fs) → X.s_0.heap.FunFrames X.base l → s.heap.FunFrames X.base l := by
    intro l
    induction l with
    | nil => intro _ _; trivial
    | cons env r ih =>
      intro hs hl
      obtain ⟨hk, ⟨L, o, hf, hn, ho, hd⟩, hr⟩ := hl
      have hL : L ∈ X.fs := hs L (by unfold frs; rw [List.filterMap_cons, hf]; exact List.mem_cons_self)
      obtain ⟨sl, e⟩ := I.base.slot L o ho (I.ok.frf L hL) hL fun z => I.ok.exfs L z hL
      exact ⟨hk, ⟨L, _, hf, hn, e, hd⟩, ih (fun b hb => hs b (by unfold frs; rw [List.filterMap_cons, hf]; exact List.mem_cons_of_mem _ hb)) hr⟩
  exact all X.outer (fun _ hb => hb) I.ok.funs
theorem Inv.stack (I : Inv X pins σ H s) : s.heap.FunFrames X.base X.stack := by
  rcases I.ok.stk with e | ⟨e, hf⟩
  · rw [e]; exact I.funs
  · rw [e]
    obtain ⟨m, hn, _⟩ := I.loc
    refine .cons (by rw [I.ok.kind]; decide) hf hn ?_ I.funs
    exact Heap.get?_none_of_le (Nat.le_trans I.ok.bsz I.ok.above)
theorem Inv.stkSub (I : Inv X pins σ H s) : ∀ b ∈ frs X.stack, b ∈ X.env.locals :: X.fs := fun b hb => by
  rcases I.ok.stk with e | ⟨e, hf⟩
  · rw [e] at hb; exact List.mem_cons_of_mem _ hb
  · rw [e] at hb
    unfold frs at hb
    rw [List.filterMap_cons, hf] at hb
    exact hb
theorem Inv.stkFree (I : Inv X pins σ H s) : ∀ b ∈ frs X.stack, H b = none := fun b hb => by
  rcases List.mem_cons.mp (I.stkSub b hb) with e | hb
  · rw [e]; exact I.free
  · obtain ⟨_, o, ho, _⟩ := I.ok.funs.mem hb
    exact I.base.free b o ho (I.ok.frf b hb) fun z => I.ok.exfs b z hb
theorem Inv.step {g' : Array GenState} {t' : Nat} {d' : Drawn} {ch : List Addr} (I : Inv X pins σ H s)
    (hch : ∀ b ∈ ch, (b ∈ X.ex ∨ X.s_0.heap.objs.size ≤ b) ∧ b ≠ X.env.locals ∧ (∀ x c, X.env.cells.lookup x = some c → c ≠ b) ∧ ∀ p ∈ X.pn ++ pins, p.1 ≠ b)
    (keep : ∀ b o, b ≠ X.env.locals → b ∉ X.fs → b ∉ ch → s.heap.get? b = some o → H b = none → h'.get? b = some o)
    (slot : ∀ b o, b ≠ X.env.locals → b ∈ X.fs → b ∉ ch → s.heap.get? b = some o → H b = none → ∃ sl, h'.get? b = some { o with slots := sl }) (free : ∀ b o, b ∉ ch → s.heap.get? b = some o → H b = none → H' b = none)
    (there : ∀ b o, b ∉ ch → s.heap.get? b = some o → ∃ o', h'.get? b = some o')
    (tups : ∀ b xs, H b = some (.tup xs) → H' b = some (.tup xs)) (frzs : ∀ b o u, H b = some (.frz o u) → H' b = some (.frz o u)) (tbls : ∀ b ps, H b = some (.tbl ps) → ∃ more, H' b = some (.tbl (ps ++ more)))
    (ns : ∀ m, s.heap.Ns X.env.locals m → h'.Ns X.env.locals m) (hok : HOk X.prog X.w H' h') (hg : AllBare g') :
    Inv X pins σ H' { s with heap := h', gens := g', drawn := d', toks := t' } := by
  have neL : ∀ b o, X.s_0.heap.get? b = some o → b ≠ X.env.locals := fun b o e => Nat.ne_of_lt (Nat.lt_of_lt_of_le (Heap.lt_size e) I.ok.above)
  have neC : ∀ b o, X.s_0.heap.get? b = some o → b ∉ X.ex → b ∉ ch := fun b o e hx hb => by
    rcases (hch b hb).1 with z | z
    · exact hx z
    · exact absurd (Nat.lt_of_lt_of_le (Heap.lt_size e) z) (Nat.lt_irrefl _)
  have cellK : ∀ x c, X.env.cells.lookup x = some c → ∀ v, s.heap.IsCell c v → h'.IsCell c v := fun x c e v zz => PySem.ex3 zz fun o ho hd => by
    have nch : c ∉ ch := fun z => (hch c z).2.2.1 x c e rfl
    by_cases hc : c ∈ X.fs
    · obtain ⟨sl, q⟩ := slot c o (I.cne x c e) hc nch ho (I.freeC x c e)
      exact ⟨_, q, hd⟩
    · exact ⟨o, keep c o (I.cne x c e) hc nch ho (I.freeC x c e), hd⟩
  refine ⟨I.ok, I.os, hg, ⟨fun b o e n hb hx => ?_, fun b o e n hb hx => ?_, fun b o e n hx => ?_, fun b o e hx => ?_, fun b xs e => tups b xs (I.base.tups b xs e), fun b o xs e => frzs b o xs (I.base.frzs b o xs e), fun b ps e => ?_⟩, ?_, fun x c e => ?_, ?_, fun x c e => ?_, fun p hp => ?_, hok, I.len⟩
  · exact keep b o (neL b o e) hb (neC b o e hx) (I.base.keep b o e n hb hx) (I.base.free b o e n hx)
  · obtain ⟨sl, e1⟩ := I.base.slot b o e n hb hx
    obtain ⟨sl', e2⟩ := slot b _ (neL b o e) hb (neC b o e hx) e1 (I.base.free b o e n hx)
    exact ⟨sl', e2⟩
  · obtain ⟨o', e1⟩ := I.base.there b o e hx
    exact free b o' (neC b o e hx) e1 (I.base.free b o e n hx)
  · obtain ⟨o', e1⟩ := I.base.there b o e hx
    exact there b o' (neC b o e hx) e1
  · obtain ⟨m1, e1⟩ := I.base.tbls b ps e
    obtain ⟨m2, e2⟩ := tbls b _ e1
    exact ⟨m1 ++ m2, by rw [e2, Array.append_assoc]⟩
  · obtain ⟨m, hn, hl⟩ := I.loc
    refine ⟨m, ns m hn, fun i x v e1 e2 e3 => ?_⟩
    obtain ⟨u, r, l⟩ := hl i x v e1 e2 e3
    refine ⟨u, r, ?_⟩
    rcases l with l | ⟨k, c, e, z⟩
    · exact .inl l
    · exact .inr ⟨k, c, e, cellK x c e _ z⟩
  · obtain ⟨v, z⟩ := I.cell x c e
    exact ⟨v, cellK x c e v z⟩
  · obtain ⟨m, ⟨o, _, _, ho, _⟩, _⟩ := I.loc
    exact free _ o (fun z => (hch _ z).2.1 rfl) ho I.free
  · obtain ⟨v, o, ho, hd⟩ := I.cell x c e
    exact free c o (fun z => (hch c z).2.2.1 x c e rfl) ho (I.freeC x c e)
  · obtain ⟨e, n, ne, nf, d⟩ := I.pin p hp
    have nch : p.1 ∉ ch := fun z => (hch p.1 z).2.2.2 p hp rfl
    exact ⟨keep p.1 p.2 ne nf nch e n, free p.1 p.2 nch e n, ne, nf, d⟩
theorem Inv.un {t' : Nat} (I : Inv X pins σ H s) (u : Un X.fs [] H H' s.heap h') (hok : HOk X.prog X.w H' h') : Inv X pins σ H' { s with heap := h', toks := t' } := by
  obtain ⟨m, ⟨o, es, ep, ho, r⟩, _⟩ := id I.loc
  obtain ⟨sl, hL⟩ := u.any ho I.free (by simp)
  exact I.step (g' := s.gens) (d' := s.drawn) (ch := []) (fun _ z => nomatch z) (fun b o _ hb _ e n => u.keep b o e n hb (by simp)) (fun b o _ hb _ e n => u.slot b o e n hb (by simp)) (fun b o _ e n => u.free b o e n (by simp)) (fun b o _ e => u.there b o e (by simp)) u.tups u.frzs u.tbls (fun m' hm => by
    obtain ⟨o', es', ep', ho', r'⟩ := hm
    rw [ho] at ho'; cases ho'
    exact ⟨_, es', ep', hL, r'⟩) hok I.bare
theorem Inv.call {g' : Array GenState} {t' : Nat} {d' : Drawn} {ch : List Addr} (I : Inv X pins σ H s) (u : Un (frs X.stack) ch H H' s.heap h') (hok : HOk X.prog X.w H' h') (hg : AllBare g')
    (hch : ∀ b ∈ ch, (b ∈ X.ex ∨ X.s_0.heap.objs.size ≤ b) ∧ b ≠ X.env.locals ∧ (∀ x c, X.env.cells.lookup x = some c → c ≠ b) ∧ ∀ p ∈ X.pn ++ pins, p.1 ≠ b) :
    Inv X pins σ H' { s with heap := h', gens := g', drawn := d', toks := t' } := by
  obtain ⟨m, ⟨o, es, ep, ho, r⟩, _⟩ := id I.loc
  obtain ⟨sl, hL⟩ := u.any ho I.free fun z => (hch _ z).2.1 rfl
  exact I.step (ch := ch) hch (fun b o hL hb hc e n => u.keep b o e n (fun z => (List.mem_cons.mp (I.stkSub b z)).elim hL hb) hc) (fun b o _ _ hc e n => u.any e n hc) (fun b o hc e n => u.free b o e n hc) (fun b o hc e => u.there b o e hc) u.tups u.frzs u.tbls (fun m' hm => by
    obtain ⟨o', es', ep', ho', r'⟩ := hm
    rw [ho] at ho'; cases ho'
    exact ⟨_, es', ep', hL, r'⟩) hok hg
theorem Inv.turned {t' : Nat} {it : Addr} (I : Inv X pins σ H s) (k : ∀ b o, b ≠ it → s.heap.get? b = some o → h'.get? b = some o) (hn : H it = none) (hL : it ≠ X.env.locals)
    (h1 : it ∈ X.ex ∨ X.s_0.heap.objs.size ≤ it) (h2 : ∀ x c, X.env.cells.lookup x = some c → c ≠ it) (h3 : ∀ p ∈ X.pn ++ pins, p.1 ≠ it) : Inv X pins σ H { s with heap := h', toks := t' } := by
  have nit : ∀ b u, H b = some u → b ≠ it := fun b u e z => by rw [z, hn] at e; cases e
  refine I.step (g' := s.gens) (d' := s.drawn) (ch := [it]) (fun b hb => ?_) (fun b o _ _ hc e _ => k b o (fun z => hc (by simp [z])) e) (fun b o _ _ hc e _ => ⟨o.slots, k b o (fun z => hc (by simp [z])) e⟩) (fun _ _ _ _ n => n)
    (fun b o hc e => ⟨o, k b o (fun z => hc (by simp [z])) e⟩) (fun _ _ e => e) (fun _ _ _ e => e) (fun b ps e => ⟨#[], by rw [e]; simp⟩) (fun m hm => ?_) (fun b u e => ?_) I.bare
  · have e : b = it := by simpa using hb
    subst e
    exact ⟨h1, hL, h2, h3⟩
  · obtain ⟨o, es, ep, ho, r⟩ := hm
    exact ⟨o, es, ep, k _ o (Ne.symm hL) ho, r⟩
  · refine (I.hok b u e).stay (fun c v hc q => k c v ?_ q) (fun _ q => q) fun _ _ q => q
    rcases hc with z | z
    · rw [z]; exact nit b u e
    · exact nit c _ z
theorem Inv.tok (I : Inv X pins σ H s) (t : Nat) : Inv X pins σ H { s with toks := t } := I.un (h' := s.heap) (t' := t) Un.refl I.hok
theorem Inv.kept {t' : Nat} (I : Inv X pins σ H s) (k : ∀ b u, s.heap.get? b = some u → h'.get? b = some u) : Inv X pins σ H { s with heap := h', toks := t' } := I.un (Un.kept k) (I.hok.kept k)
theorem Inv.laid {a : Addr} {o : HO} {t' : Nat} (I : Inv X pins σ H s) (k : ∀ b u, s.heap.get? b = some u → h'.get? b = some u) (hp : s.heap.objs.size ≤ a) (new : ObjOk X.prog X.w (upd H a o) h' a o) :
    Inv X pins σ (upd H a o) { s with heap := h', toks := t' } := I.un (Un.laid k hp (I.hok.fresh hp)) (I.hok.laid k hp new)
theorem Inv.write {x e : Addr} {o : HO} {t' : Nat} (I : Inv X pins σ H s) (mu : Mut (H x)) (he : e = x ∨ H e = some (.own x)) (k : ∀ b u, b ≠ e → s.heap.get? b = some u → h'.get? b = some u) (heo : ∃ u, h'.get? e = some u)
    (new : ObjOk X.prog X.w (upd H x o) h' x o) : Inv X pins σ (upd H x o) { s with heap := h', toks := t' } := I.un (Un.write mu he k heo) (I.hok.write mu he k heo new)
theorem Inv.weak {σ' : List (Option V)} (I : Inv X pins σ H s) (hl : σ'.length = σ.length) (w : ∀ (i : Nat) v, σ'[i]? = some (some v) → σ[i]? = some (some v)) : Inv X pins σ' H s :=
  ⟨I.ok, I.os, I.bare, I.base, let ⟨m, hn, hl'⟩ := I.loc; ⟨m, hn, fun i x v e1 e2 e3 => hl' i x v e1 (w i v e2) e3⟩, I.cell, I.free, I.freeC, I.pin, I.hok, hl.trans I.len⟩
theorem Inv.pins_of {pins' : List (Addr × Obj)} (I : Inv X pins σ H s) (h : ∀ p ∈ pins', s.heap.get? p.1 = some p.2 ∧ H p.1 = none ∧ p.1 ≠ X.env.locals ∧ p.1 ∉ X.fs ∧ ∀ v, p.2.data ≠ .cell v) : Inv X pins' σ H s :=
  ⟨I.ok, I.os, I.bare, I.base, I.loc, I.cell, I.free, I.freeC, fun p hp => (List.mem_append.mp hp).elim (fun z => I.pin p (List.mem_append_left _ z)) (h p), I.hok, I.len⟩
theorem nodup_ix {N : List Str} (hN : N.Nodup) {i j : Nat} {x : Str} (a : N[i]? = some x) (b : N[j]? = some x) : i = j := by
  obtain ⟨h1, e1⟩ := List.getElem?_eq_some_iff.mp a
  obtain ⟨h2, e2⟩ := List.getElem?_eq_some_iff.mp b
  exact (List.getElem_inj hN).mp (e1.trans e2.symm)
theorem store_ok2 {M : Model} {A : Around} {E : Value → Shared → Prop} {i : Nat} {x : Str} {v : V} {u : Value} {Q : Unit → Shared → Prop} (I : Inv X pins σ H s) (hN : X.N.Nodup) (hi : X.N[i]? = some x) (hx : Loc X.env.scope x) (r : RelV v u)
    (h : ∀ s', Inv X pins (σ.set i (some v)) H s' → (∃ a, Heap.SameBut a s.heap s'.heap ∧ (a = X.env.locals ∨ X.env.cells.lookup x = some a)) → Q () s') (hf : X.fn x = true ∨ X.env.scope.names.lookup x = some .local := by first | exact .inl rfl | exact .inr rfl | assumption) : wpAny M A (storeName X.env x u) Q E s := by
  obtain ⟨m, hn, hl⟩ := id I.loc
  have hcls : (X.env.scope.kind == .class || (X.env.scope.kind == .module && X.env.locals != X.env.globals)) = false := by rw [I.ok.kind]; rfl
  have hiσ : i < σ.length := by rw [I.len]; exact (List.getElem?_eq_some_iff.mp hi).1
  have cne := I.cne
  have tracked : ∀ {a : Addr} {h' : Heap}, (∃ o, s.heap.get? a = some o ∧ H a = none) → Heap.SameBut a s.heap h' → HOk X.prog X.w H h' := fun {a h'} ha hs b ob e => by
    obtain ⟨_, _, hfree⟩ := ha
    refine (I.hok b ob e).stay (fun c w' hc q => (hs.2 c ?_).trans q) (fun _ q => q) fun _ _ q => q
    rintro rfl
    rcases hc with rfl | hc
    · rw [hfree] at e; cases e
    · rw [hfree] at hc; cases hc
  rcases hx with hk | hk
  · refine wpAny_storeName_local hk hn (fun h' hn' hs => ?_) hcls
    obtain ⟨oL, _, _, hoL, _⟩ := id hn
    refine h _ ⟨I.ok, I.os, I.bare, ⟨fun b o e n hb hx => ?_, fun b o e n hb hx => ?_, I.base.free, fun b o e hx => ?_, I.base.tups, I.base.frzs, I.base.tbls⟩, ⟨_, hn', fun j y v' e1 e2 e3 => ?_⟩, fun y c e => ?_, I.free, I.freeC, fun p hp => ?_, tracked ⟨oL, hoL, I.free⟩ hs, by simpa using I.len⟩ ⟨_, hs, .inl rfl⟩
    · exact (hs.2 b (Nat.ne_of_lt (Nat.lt_of_lt_of_le (Heap.lt_size e) I.ok.above))).trans (I.base.keep b o e n hb hx)
    · obtain ⟨sl, e1⟩ := I.base.slot b o e n hb hx
      exact ⟨sl, (hs.2 b (Nat.ne_of_lt (Nat.lt_of_lt_of_le (Heap.lt_size e) I.ok.above))).trans e1⟩
    · obtain ⟨o', e1⟩ := I.base.there b o e hx
      exact ⟨o', (hs.2 b (Nat.ne_of_lt (Nat.lt_of_lt_of_le (Heap.lt_size e) I.ok.above))).trans e1⟩
    · by_cases hj : j = i
      · subst hj
        rw [hi] at e1; cases e1
        rw [List.getElem?_set_self hiσ] at e2
        cases e2
        exact ⟨u, r, .inl ⟨hk, by simp⟩⟩
      · rw [List.getElem?_set_ne (Ne.symm hj)] at e2
        obtain ⟨u', r', q⟩ := hl j y v' e1 e2 e3
        refine ⟨u', r', ?_⟩
        rcases q with ⟨k, e⟩ | ⟨k, c, e, z⟩
        · refine .inl ⟨k, ?_⟩
          have : y ≠ x := fun e => hj (nodup_ix hN e1 (e ▸ hi))
          simp [this, e]
        · exact .inr ⟨k, c, e, z.sameBut hs (cne y c e)⟩
    · obtain ⟨w', z⟩ := I.cell y c e
      exact ⟨w', z.sameBut hs (cne y c e)⟩
    · obtain ⟨e, n, ne, nf, d⟩ := I.pin p hp
      exact ⟨(hs.2 p.1 ne).trans e, n, ne, nf, d⟩
  · have hfn : X.fn x = true := by
      rcases hf with z | z
      · exact z
      · rw [z] at hk; cases hk
    obtain ⟨c, hc⟩ := I.ok.has x (.inl hk)
    obtain ⟨w', z⟩ := I.cell x c hc
    refine wpAny_storeName_cell I.ok.kind hk hc z (fun h' hc' hs => ?_)
    obtain ⟨oc, hoc, hocd⟩ := id z
    refine h { s with heap := h' } ⟨I.ok, I.os, I.bare, ⟨fun b o e n hb hx => ?_, fun b o e n hb hx => ?_, I.base.free, fun b o e hx => ?_, I.base.tups, I.base.frzs, I.base.tbls⟩, ⟨m, hn.sameBut hs (Ne.symm (cne x c hc)), fun j y v' e1 e2 e3 => ?_⟩, fun y c' e => ?_, I.free, I.freeC, fun p hp => ?_, tracked ⟨oc, hoc, I.freeC x c hc⟩ hs, by simpa using I.len⟩ ⟨c, hs, .inr hc⟩
    · exact (hs.2 b (Nat.ne_of_lt (Nat.lt_of_lt_of_le (Heap.lt_size e) (I.ok.cab x c hfn hc)))).trans (I.base.keep b o e n hb hx)
    · obtain ⟨sl, e1⟩ := I.base.slot b o e n hb hx
      exact ⟨sl, (hs.2 b (Nat.ne_of_lt (Nat.lt_of_lt_of_le (Heap.lt_size e) (I.ok.cab x c hfn hc)))).trans e1⟩
    · obtain ⟨o', e1⟩ := I.base.there b o e hx
      exact ⟨o', (hs.2 b (Nat.ne_of_lt (Nat.lt_of_lt_of_le (Heap.lt_size e) (I.ok.cab x c hfn hc)))).trans e1⟩
    · by_cases hj : j = i
      · subst hj
        rw [hi] at e1; cases e1
        rw [List.getElem?_set_self hiσ] at e2
        cases e2
        exact ⟨u, r, .inr ⟨.inl hk, c, hc, hc'⟩⟩
      · rw [List.getElem?_set_ne (Ne.symm hj)] at e2
        obtain ⟨u', r', q⟩ := hl j y v' e1 e2 e3
        refine ⟨u', r', ?_⟩
        rcases q with q | ⟨k, c', e, z'⟩
        · exact .inl q
        · refine .inr ⟨k, c', e, z'.sameBut hs ?_⟩
          rintro rfl
          exact hj (nodup_ix hN e1 (I.ok.inj _ _ _ e hc ▸ hi))
    · by_cases hcc : c' = c
      · subst hcc; exact ⟨_, hc'⟩
      · obtain ⟨w2, z2⟩ := I.cell y c' e
        exact ⟨w2, z2.sameBut hs hcc⟩
    · obtain ⟨e, n, ne, nf, d⟩ := I.pin p hp
      refine ⟨(hs.2 p.1 ?_).trans e, n, ne, nf, d⟩
      intro q
      rw [q, hoc] at e
      have q' : oc = p.2 := Option.some.inj e
      exact d w' (by rw [← q']; exact hocd)
theorem store_ok {M : Model} {A : Around} {E : Value → Shared → Prop} {i : Nat} {x : Str} {v : V} {u : Value} {Q : Unit → Shared → Prop} (I : Inv X pins σ H s) (hN : X.N.Nodup) (hi : X.N[i]? = some x) (hx : Loc X.env.scope x) (r : RelV v u)
    (h : ∀ s', Inv X pins (σ.set i (some v)) H s' → Q () s') (hf : X.fn x = true ∨ X.env.scope.names.lookup x = some .local := by first | exact .inl rfl | exact .inr rfl | assumption) : wpAny M A (storeName X.env x u) Q E s :=
  store_ok2 I hN hi hx r (fun s' I' _ => h s' I') hf
theorem Inv.call' {s' : Shared} {ch : List Addr} (I : Inv X pins σ H s) (ho : s'.os = s.os) (u : Un (frs X.stack) ch H H' s.heap s'.heap) (hok : HOk X.prog X.w H' s'.heap) (hg : AllBare s'.gens)
    (hch : ∀ b ∈ ch, (b ∈ X.ex ∨ X.s_0.heap.objs.size ≤ b) ∧ b ≠ X.env.locals ∧ (∀ x c, X.env.cells.lookup x = some c → c ≠ b) ∧ ∀ p ∈ X.pn ++ pins, p.1 ≠ b) : Inv X pins σ H' s' := by
  obtain ⟨h', g', d', t', o'⟩ := s'
  have e : o' = s.os := ho
  subst e
  exact I.call (g' := g') (t' := t') (d' := d') u hok hg hch
end
abbrev XK := Value → Option Addr → Hp → Prop
abbrev St := List (Option V)
abbrev VK := V → Hp → Prop
abbrev TE := St → Hp → VK → Prop
abbrev TT := St → Hp → (Bool → Hp → Prop) → Prop
abbrev TA := St → Hp → (List V → Hp → Prop) → Prop
structure Ends where
  nx : St → Hp → Prop
  rt : VK
  bk : St → Hp → Prop := fun _ _ => False
  ct : St → Hp → Prop := fun _ _ => False
abbrev TS := Ends → St → Hp → Prop
def EP (X : Cx) (pins : List (Addr × Obj)) (σ : St) (Q : VK) (u : Value) (s' : Shared) : Prop := ∃ v H', Inv X pins σ H' s' ∧ RelV v u ∧ Q v H'
def TP (X : Cx) (pins : List (Addr × Obj)) (σ : St) (Q : Bool → Hp → Prop) (b : Bool) (s' : Shared) : Prop := ∃ H', Inv X pins σ H' s' ∧ Q b H'
def AP (X : Cx) (pins : List (Addr × Obj)) (σ : St) (Q : List V → Hp → Prop) (us : List Value) (s' : Shared) : Prop := ∃ vs H', Inv X pins σ H' s' ∧ Vals vs us ∧ Q vs H'
def SP (X : Cx) (pins : List (Addr × Obj)) (D : Ends) (f : Flow) (s' : Shared) : Prop :=
  match f with
  | .next => ∃ σ' H', Inv X pins σ' H' s' ∧ D.nx σ' H'
  | .brk => ∃ σ' H', Inv X pins σ' H' s' ∧ D.bk σ' H'
  | .cont => ∃ σ' H', Inv X pins σ' H' s' ∧ D.ct σ' H'
  | .ret u => ∃ v σ' H', Inv X pins σ' H' s' ∧ RelV v u ∧ D.rt v H'
def PE (X : Cx) (e : Expr) (t : TE) : Prop :=
  ∀ (pins : List (Addr × Obj)) (s : Shared) (σ : St) (H : Hp) (Q : VK), Inv X pins σ H s → t σ H Q → wpAny (model X.prog X.w) X.A (eval e X.env) (EP X pins σ Q) X.xe s
def PT (X : Cx) (e : Expr) (t : TT) : Prop :=
  ∀ (pins : List (Addr × Obj)) (s : Shared) (σ : St) (H : Hp) (Q : Bool → Hp → Prop), Inv X pins σ H s → t σ H Q → wpAny (model X.prog X.w) X.A (isTrue e X.env (eval e X.env)) (TP X pins σ Q) X.xe s
def PW (X : Cx) (e : Expr) (t : TT) : Prop :=
  ∀ (whole : Sem Value) (pins : List (Addr × Obj)) (s : Shared) (σ : St) (H : Hp) (Q : Bool → Hp → Prop), Inv X pins σ H s → t σ H Q → wpAny (model X.prog X.w) X.A (isTrue e X.env whole) (TP X pins σ Q) X.xe s
theorem PW.pt {X : Cx} {e : Expr} {t : TT} (h : PW X e t) : PT X e t := h _
def PA (X : Cx) (es : List Expr) (t : TA) : Prop :=
  ∀ (pos : Pos) (pins : List (Addr × Obj)) (s : Shared) (σ : St) (H : Hp) (Q : List V → Hp → Prop), Inv X pins σ H s → t σ H Q → wpAny (model X.prog X.w) X.A (spliced (backTo pos (starEach es X.env))) (AP X pins σ Q) X.xe s
def PS (X : Cx) (st : Stmt) (t : TS) : Prop :=
  ∀ (pins : List (Addr × Obj)) (s : Shared) (σ : St) (H : Hp) (D : Ends), Inv X pins σ H s → t D σ H → wpAny (model X.prog X.w) X.A (exec st X.env) (SP X pins D) X.xe s
def PSs (X : Cx) (st : List Stmt) (t : TS) : Prop :=
  ∀ (pins : List (Addr × Obj)) (s : Shared) (σ : St) (H : Hp) (D : Ends), Inv X pins σ H s → t D σ H → wpAny (model X.prog X.w) X.A (execs st X.env) (SP X pins D) X.xe s
theorem thn {α : Type} {t : Sem α} {Q Q' : α → Shared → Prop} {M : Model} {A : Around} {E : Value → Shared → Prop} {s : Shared} (h : wpAny M A t Q E s) (hQ : ∀ a s, Q a s → Q' a s) : wpAny M A t Q' E s := wpAny_mono h hQ fun _ _ x => x
end L2
namespace L2
open PySem PySem.Spec PyProof.Rows
section
variable {X : Cx}
def tVar (i : Nat) : TE := fun σ H Q => ∃ v, σ[i]? = some (some v) ∧ Q v H
def tC (v : V) : TE := fun _ H Q => Q v H
theorem pe_var {i : Nat} {x : Str} {pos : Pos} (hN : X.N[i]? = some x) (hv : Vis X.env.scope x) (hd : (x == ("__debug__" : Str)) = false := by decide) (hcd : (x == ("__classdict__" : Str)) = false := by decide) : PE X (.Name x pos) (tVar i) := by
  intro pins s σ H Q I h
  obtain ⟨v, e, h⟩ := h
  obtain ⟨m, hn, hl⟩ := I.loc
  obtain ⟨u, r, l⟩ := hl i x v hN e hv
  have fin : EP X pins σ Q u s := ⟨v, H, I, r, h⟩
  rcases l with ⟨hk, hm⟩ | ⟨hk, c, hc, hcell⟩
  · exact wpAny_Name (wpAny_loadName_local I.ok.kind hk hn hm fin) hd
  · rcases hk with hk | hk
    · exact wpAny_Name (wpAny_loadName_cell I.ok.kind hk hc hcell fin) hd
    · exact wpAny_Name (wpAny_loadName_free I.ok.kind hk hc hcell fin hcd) hd
theorem pe_int {i j pos} : PE X (.Constant (.int i) j pos) (tC (.int i)) := fun _ _ _ H _ I h => wpAny_Constant_int ⟨.int i, H, I.tok _, ⟨_, rfl⟩, h⟩
theorem pe_bl {b j pos} : PE X (.Constant (.bool b) j pos) (tC (.bl b)) := fun _ _ _ H _ I h => Constant_bool ⟨.bl b, H, I, rfl, h⟩
def Gl (X : Cx) (x : Str) : Prop := X.env.kindOf x = some .globalImplicit
theorem ld_glob {E : Value → Shared → Prop} {pins : List (Addr × Obj)} {s : Shared} {σ : St} {H : Hp} {x : Str} {u : Value} {pos : Pos} {Q : Value → Shared → Prop} (I : Inv X pins σ H s) (hg : Gl X x) (hm : X.mg x = some u) (h : Q u s)
    (hd : (x == ("__debug__" : Str)) = false := by decide) : wpAny (model X.prog X.w) X.A (eval (.Name x pos) X.env) Q E s :=
  Calls.Name_function_global I.ok.kind hg (Calls.loadGlobal_global (by rw [I.ok.glob]; exact I.mod.glob.keeps I.bk) hm h) hd
theorem ld_blt {E : Value → Shared → Prop} {pins : List (Addr × Obj)} {s : Shared} {σ : St} {H : Hp} {x : Str} {u : Value} {pos : Pos} {Q : Value → Shared → Prop} (I : Inv X pins σ H s) (hg : Gl X x) (hm : X.mg x = none) (hv : bootBuiltins x = some u) (h : Q u s)
    (hn : x ≠ "__name__" := by decide) (hd : (x == ("__debug__" : Str)) = false := by decide) : wpAny (model X.prog X.w) X.A (eval (.Name x pos) X.env) Q E s := by
  obtain ⟨mb, h1, h2⟩ := I.mod.blt
  exact Calls.Name_function_global I.ok.kind hg (Calls.loadGlobal_builtin (by rw [I.ok.glob]; exact I.mod.glob.keeps I.bk) hm (by rw [I.ok.blt]; exact h1.keeps I.bk) ((h2 x hn).trans hv) h) hd
theorem pe_glob {x : Str} {v : V} {u : Value} {pos : Pos} (hg : Gl X x) (hm : X.mg x = some u) (r : RelV v u) (hd : (x == ("__debug__" : Str)) = false := by decide) : PE X (.Name x pos) (tC v) :=
  fun _ _ _ H _ I h => ld_glob I hg hm ⟨v, H, I, r, h⟩ hd
variable {a b : Expr} {ta tb : TE} {pos : Pos}
def tB (t : TE) : TT := fun σ H Q => t σ H fun x H1 => ∃ c, x = .bl c ∧ Q c H1
theorem pt_val {e : Expr} {t : TE} (h : PE X e t) (he : ∀ whole, isTrue e X.env whole = (do let v ← whole; standAt e.pos; holding [v] (truthy v)) := by intro _; rfl) : PT X e (tB t) := by
  intro pins s σ H Q I hw
  refine isTrue_plain (thn (h pins s σ H _ I hw) fun v s1 zz => ?_) (he _)
  obtain ⟨x, H1, I1, r1, q1⟩ := zz
  obtain ⟨d, rfl, q⟩ := q1
  cases r1
  exact wpAny_truthy_bool ⟨H1, I1, q⟩
variable {tA tB' : TT} {rest : List Expr}
def tAnd (t u : TT) : TT := fun σ H Q => t σ H fun c H1 => if c = true then u σ H1 Q else Q false H1
def tOr (t u : TT) : TT := fun σ H Q => t σ H fun c H1 => if c = true then Q true H1 else u σ H1 Q
def tNot (t : TT) : TT := fun σ H Q => t σ H fun c H1 => Q (!c) H1
theorem pw_and1 (ha : PT X a tA) : PW X (.BoolOp .And [a] pos) tA := by
  intro wh pins s σ H Q I h
  refine isTrue_and (thn (ha pins s σ H Q I h) fun c s1 e => ?_)
  cases c with
  | true => exact isTrue_and_nil e
  | false => exact e
theorem pw_or1 (ha : PT X a tA) : PW X (.BoolOp .Or [a] pos) tA := by
  intro wh pins s σ H Q I h
  refine isTrue_or (thn (ha pins s σ H Q I h) fun c s1 e => ?_)
  cases c with
  | false => exact isTrue_or_nil e
  | true => exact e
theorem pw_and (ha : PT X a tA) (hb : PW X (.BoolOp .And (b :: rest) pos) tB') : PW X (.BoolOp .And (a :: b :: rest) pos) (tAnd tA tB') := by
  intro wh pins s σ H Q I h
  refine isTrue_and (thn (ha pins s σ H _ I h) fun c s1 zz => ?_)
  obtain ⟨H1, I1, q1⟩ := zz
  cases c with
  | true => exact hb wh pins s1 σ H1 Q I1 q1
  | false => exact ⟨H1, I1, q1⟩
theorem pw_or (ha : PT X a tA) (hb : PW X (.BoolOp .Or (b :: rest) pos) tB') : PW X (.BoolOp .Or (a :: b :: rest) pos) (tOr tA tB') := by
  intro wh pins s σ H Q I h
  refine isTrue_or (thn (ha pins s σ H _ I h) fun c s1 zz => ?_)
  obtain ⟨H1, I1, q1⟩ := zz
  cases c with
  | true => exact ⟨H1, I1, q1⟩
  | false => exact hb wh pins s1 σ H1 Q I1 q1
theorem pt_not (ha : PT X a tA) : PT X (.UnaryOp .Not a pos) (tNot tA) := by
  intro pins s σ H Q I h
  exact isTrue_not (ha pins s σ H (fun c H1 => Q (!c) H1) I h)
def tAndV (ta tb : TE) : TE := fun σ H Q => ta σ H fun x H1 => ∃ c, x = .bl c ∧ if c = true then tb σ H1 Q else Q (.bl false) H1
theorem pe_one {op} {t : TE} (h : PE X a t) : PE X (.BoolOp op [a] pos) t := fun pins s σ H Q I hw => BoolOp_one (h pins s σ H Q I hw)
theorem pe_and (ha : PE X a ta) (hb : PE X (.BoolOp .And (b :: rest) pos) tb) : PE X (.BoolOp .And (a :: b :: rest) pos) (tAndV ta tb) := by
  intro pins s σ H Q I h
  refine BoolOp_and (thn (ha pins s σ H _ I h) fun v s1 zz => ?_)
  obtain ⟨x, H1, I1, r1, q1⟩ := zz
  obtain ⟨c, rfl, q1⟩ := q1
  cases r1
  refine wpAny_truthy_bool ?_
  cases c with
  | true => exact hb pins s1 σ H1 Q I1 q1
  | false => exact ⟨.bl false, H1, I1, rfl, q1⟩
def tIf (t : TT) (ta tb : TE) : TE := fun σ H Q => t σ H fun c H1 => if c = true then ta σ H1 Q else tb σ H1 Q
theorem pe_ifExp {c : Expr} (hc : PT X c tA) (ha : PE X a ta) (hb : PE X b tb) : PE X (.IfExp c a b pos) (tIf tA ta tb) := by
  intro pins s σ H Q I h
  refine wpAny_IfExp (thn (hc pins s σ H _ I h) fun d s1 zz => ?_)
  obtain ⟨H1, I1, q1⟩ := zz
  cases d with
  | true => exact ha pins s1 σ H1 Q I1 q1
  | false => exact hb pins s1 σ H1 Q I1 q1
end
end L2
namespace L2
open PySem PySem.Spec PyProof.Rows
def SqL (K : PySem.W.Frag) (H : Hp) (a : Addr) (xs : List V) : Prop :=
  Rd H a (.lst xs) ∨
    ∃ (o : Obj) (its : Array Value) (n : Nat), K.lookup a = some o ∧ o.cls = .type "list" ∧ o.dict = none ∧ o.data = .seq its n ∧ its.size ≤ sizeLine ∧ Vals xs its.toList
def SqT (K : PySem.W.Frag) (H : Hp) (a : Addr) (xs : List V) : Prop :=
  Rd H a (.tup xs) ∨
    ∃ (o : Obj) (its : Array Value) (n : Nat), K.lookup a = some o ∧ o.cls = .type "tuple" ∧ o.data = .seq its n ∧ its.size ≤ sizeLine ∧ Vals xs its.toList
def absV : Value → Option V
  | .none => some .non
  | .bool b => some (.bl b)
  | .int i _ => some (.int i)
  | .str x _ => some (.str x)
  | .bytes b _ => some (.byt b)
  | .float b _ => some (.flt b)
  | .ref a => some (.ref a)
  | .type n => some (.ty n)
  | _ => none
theorem RelV.abs {x : V} {u : Value} (r : RelV x u) : absV u = some x := by
  cases x with
  | non => cases r; rfl
  | bl _ => cases r; rfl
  | int _ => obtain ⟨t, rfl⟩ := r; rfl
  | str _ => obtain ⟨t, rfl⟩ := r; rfl
  | byt _ => obtain ⟨t, rfl⟩ := r; rfl
  | flt _ => obtain ⟨t, rfl⟩ := r; rfl
  | ref _ => cases r; rfl
  | ty _ => cases r; rfl
theorem RelV.inj {x y : V} {u : Value} (r : RelV x u) (q : RelV y u) : x = y := Option.some.inj (r.abs.symm.trans q.abs)
theorem Vals.inj : ∀ {xs ys : List V} {us : List Value}, Vals xs us → Vals ys us → xs = ys
  | _, _, _, .nil, .nil => rfl
  | _, _, _, .cons r t, .cons r' t' => by rw [r.inj r', Vals.inj t t']
section
variable {X : Cx} {pins : List (Addr × Obj)} {σ : St} {H : Hp} {s : Shared} {a : Addr} {xs ys : List V}
theorem SqL.of {K : PySem.W.Frag} (h : H a = some (.lst xs)) : SqL K H a xs := .inl (.inl h)
theorem SqT.of {K : PySem.W.Frag} (h : H a = some (.tup xs)) : SqT K H a xs := .inl (.inl h)
theorem Inv.list (I : Inv X pins σ H s) (h : SqL X.K H a xs) : ∃ its : List Value, Vals xs its ∧ PlainL s.heap a its.toArray ∧ xs.length ≤ sizeLine := by
  rcases h with h | ⟨o, its, n, hk, hc, hd, hs, hz, r⟩
  · obtain ⟨z, its, n, r, e⟩ := h.ok I.hok
    exact ⟨its, r, ⟨_, n, e, rfl, rfl, rfl⟩, z⟩
  · refine ⟨its.toList, r, ⟨o, n, I.kIn a o hk, hc, hd, by simpa using hs⟩, ?_⟩
    have e := r.length
    simp only [Array.length_toList] at e
    omega
theorem Inv.tuple (I : Inv X pins σ H s) (h : SqT X.K H a xs) : ∃ its : List Value, Vals xs its ∧ IsTup s.heap a its.toArray ∧ xs.length ≤ sizeLine := by
  rcases h with h | ⟨o, its, n, hk, hc, hs, hz, r⟩
  · obtain ⟨z, its, r, p⟩ := h.ok I.hok
    exact ⟨its, r, p, z⟩
  · refine ⟨its.toList, r, ⟨o, I.kIn a o hk, hc, n, by simpa using hs⟩, ?_⟩
    have e := r.length
    simp only [Array.length_toList] at e
    omega
theorem Inv.list_inj (I : Inv X pins σ H s) (h : SqL X.K H a xs) (h' : SqL X.K H a ys) : xs = ys := by
  obtain ⟨its, r, ⟨o, n, e, _, _, d⟩, _⟩ := I.list h
  obtain ⟨its', r', ⟨o', n', e', _, _, d'⟩, _⟩ := I.list h'
  rw [e] at e'; cases e'
  rw [d] at d'
  injection d' with d1 _
  have : its = its' := by simpa using congrArg Array.toList d1
  subst this
  exact r.inj r'
end
abbrev Cx.wish (X : Cx) (E : Value → Shared → Prop) : Cx := { X with xe := E }
abbrev Cx.nox (X : Cx) : Cx := X.wish fun _ _ => False
theorem Cx.Ok.wish {X : Cx} (ok : X.Ok) (E : Value → Shared → Prop) : (X.wish E).Ok :=
  ⟨ok.mod, ok.kind, ok.glob, ok.blt, ok.above, ok.inj, ok.has, ok.cab, ok.hd, ok.frames, ok.stk, ok.exf, ok.bs, ok.bsz, ok.noex, ok.exfs, ok.funs, ok.frf⟩
theorem Cx.Ok.unwish {X : Cx} {E : Value → Shared → Prop} (ok : (X.wish E).Ok) : X.Ok :=
  ⟨ok.mod, ok.kind, ok.glob, ok.blt, ok.above, ok.inj, ok.has, ok.cab, ok.hd, ok.frames, ok.stk, ok.exf, ok.bs, ok.bsz, ok.noex, ok.exfs, ok.funs, ok.frf⟩
section
variable {X : Cx} {pins : List (Addr × Obj)} {σ : St} {H : Hp} {s : Shared} {E : Value → Shared → Prop}
theorem Inv.wish (I : Inv X pins σ H s) (E : Value → Shared → Prop) : Inv (X.wish E) pins σ H s := ⟨I.ok.wish E, I.os, I.bare, I.base, I.loc, I.cell, I.free, I.freeC, I.pin, I.hok, I.len⟩
theorem Inv.unwish (I : Inv (X.wish E) pins σ H s) : Inv X pins σ H s := ⟨I.ok.unwish, I.os, I.bare, I.base, I.loc, I.cell, I.free, I.freeC, I.pin, I.hok, I.len⟩
theorem SP.unwish {D : Ends} {f : Flow} {s' : Shared} (h : SP (X.wish E) pins D f s') : SP X pins D f s' := by
  cases f with
  | next => obtain ⟨σ', H', I, q⟩ := h; exact ⟨σ', H', I.unwish, q⟩
  | brk => obtain ⟨σ', H', I, q⟩ := h; exact ⟨σ', H', I.unwish, q⟩
  | cont => obtain ⟨σ', H', I, q⟩ := h; exact ⟨σ', H', I.unwish, q⟩
  | ret u => obtain ⟨v, σ', H', I, r, q⟩ := h; exact ⟨v, σ', H', I.unwish, r, q⟩
theorem PSs.nox {st : List Stmt} {t : TS} (h : PSs X.nox st t) : PSs X st t := fun pins s σ H D I hw =>
  wpAny_mono (h pins s σ H D (I.wish _) hw) (fun _ _ q => q.unwish) fun _ _ z => False.elim z
end
section
variable {X : Cx} {st : Stmt} {rest : List Stmt} {t u : TS} {e : Expr} {te : TE} {pos : Pos}
def tNext : TS := fun D σ H => D.nx σ H
def tSeq (t u : TS) : TS := fun D σ H => t { D with nx := u D } σ H
theorem pss_nil : PSs X [] tNext := fun _ _ σ H _ I h => wpAny_execs_nil ⟨σ, H, I, h⟩
theorem pss_cons (h1 : PS X st t) (h2 : PSs X rest u) : PSs X (st :: rest) (tSeq t u) := by
  intro pins s σ H D I h
  refine wpAny_execs_cons (thn (h1 pins s σ H { D with nx := u D } I h) fun f s1 q => ?_)
  cases f with
  | next =>
    obtain ⟨σ', H', I', q⟩ := q
    exact h2 pins s1 σ' H' D I' q
  | ret v => exact q
  | brk => exact q
  | cont => exact q
theorem pss_one (h1 : PS X st t) : PSs X [st] t := by
  intro pins s σ H D I h
  refine wpAny_execs_cons (thn (h1 pins s σ H D I h) fun f s1 q => ?_)
  cases f with
  | next => exact wpAny_execs_nil q
  | ret v => exact q
  | brk => exact q
  | cont => exact q
theorem Inv.quiet {pins : List (Addr × Obj)} {σ : St} {H : Hp} {s : Shared} (I : Inv X pins σ H s) : interactive X.env = false := by simp [interactive, I.ok.kind]
def tDrop (te : TE) : TS := fun D σ H => te σ H fun _ H1 => D.nx σ H1
theorem ps_expr (he : PE X e te) (hs : swapsWith e none pos.line X.env = pure false := by rfl) : PS X (.Expr e pos) (tDrop te) := by
  intro pins s σ H D I h
  exact wpAny_Expr_any (thn (he pins s σ H _ I h) fun v s1 zz => PySem.ex5 zz fun x H1 I1 r1 q1 => ⟨σ, H1, I1, q1⟩) I.quiet hs
def tRet (te : TE) : TS := fun D σ H => te σ H D.rt
theorem ps_ret (he : PE X e te) : PS X (.Return (some e) pos) (tRet te) := by
  intro pins s σ H D I h
  exact wpAny_Return_some (thn (he pins s σ H _ I h) fun v s1 zz => PySem.ex5 zz fun x H1 I1 r1 q1 => ⟨x, σ, H1, I1, r1, q1⟩)
def tIfS (c : TT) (t u : TS) : TS := fun D σ H => c σ H fun b H1 => if b = true then t D σ H1 else u D σ H1
theorem ps_if {c : Expr} {a b : List Stmt} {tc : TT} (hc : PT X c tc) (ha : PSs X a t) (hb : PSs X b u) : PS X (.If c a b pos) (tIfS tc t u) := by
  intro pins s σ H D I h
  refine wpAny_If (thn (hc pins s σ H _ I h) fun d s1 zz => ?_)
  obtain ⟨H1, I1, q1⟩ := zz
  cases d with
  | true => exact ha pins s1 σ H1 D I1 q1
  | false => exact hb pins s1 σ H1 D I1 q1
end
abbrev TG := V → St → Hp → (St → Hp → Prop) → Prop
abbrev TGs := List V → St → Hp → (St → Hp → Prop) → Prop
def PG (X : Cx) (target : Expr) (t : TG) : Prop :=
  ∀ (pins : List (Addr × Obj)) (s : Shared) (σ : St) (H : Hp) (v : V) (u : Value) (Q : St → Hp → Prop), Inv X pins σ H s → RelV v u → t v σ H Q →
    wpAny (model X.prog X.w) X.A (assign target X.env u) (fun _ s' => ∃ σ' H', Inv X pins σ' H' s' ∧ Q σ' H') X.xe s
def PGs (X : Cx) (ts : List Expr) (t : TGs) : Prop :=
  ∀ (pins : List (Addr × Obj)) (s : Shared) (σ : St) (H : Hp) (vs : List V) (us : List Value) (Q : St → Hp → Prop), Inv X pins σ H s → Vals vs us → t vs σ H Q →
    wpAny (model X.prog X.w) X.A (assignInOrder ((assignEach ts X.env).map (·.2)) us) (fun _ s' => ∃ σ' H', Inv X pins σ' H' s' ∧ Q σ' H') X.xe s
abbrev TSet := V → V → V → Hp → (Hp → Prop) → Prop
def PSet (X : Cx) (t : TSet) : Prop :=
  ∀ (pins : List (Addr × Obj)) (s : Shared) (σ : St) (H : Hp) (o i v : V) (ov iv u : Value) (Q : Hp → Prop), Inv X pins σ H s → RelV o ov → RelV i iv → RelV v u → t o i v H Q →
    wpAny (model X.prog X.w) X.A (setItem ov iv u) (fun _ s' => ∃ H', Inv X pins σ H' s' ∧ Q H') X.xe s
section
variable {X : Cx} {pos : Pos}
def gName (i : Nat) : TG := fun v σ H Q => Q (σ.set i (some v)) H
theorem pg_name {i : Nat} {x : Str} (hN : X.N.Nodup) (hi : X.N[i]? = some x) (hx : Loc X.env.scope x) (hf : X.fn x = true ∨ X.env.scope.names.lookup x = some .local := by first | exact .inl rfl | exact .inr rfl | assumption) : PG X (.Name x pos) (gName i) := by
  intro pins s σ H v u Q I r h
  exact wpAny_assign_Name (store_ok I hN hi hx r (fun s' I' => ⟨_, H, I', h⟩) hf)
def gNil : TGs := fun vs σ H Q => vs = [] ∧ Q σ H
def gCons (t : TG) (u : TGs) : TGs := fun vs σ H Q => ∃ v r, vs = v :: r ∧ t v σ H fun σ' H' => u r σ' H' Q
theorem pgs_nil : PGs X [] gNil := by
  intro pins s σ H vs us Q I r h
  obtain ⟨e, h⟩ := h
  subst e
  cases r
  exact assignInOrder_nil ⟨σ, H, I, h⟩
theorem pgs_cons {e : Expr} {es : List Expr} {t : TG} {u : TGs} (h1 : PG X e t) (h2 : PGs X es u)
    (hs : (assignEach (e :: es) X.env).map (·.2) = assign e X.env :: (assignEach es X.env).map (·.2) := by rfl) : PGs X (e :: es) (gCons t u) := by
  intro pins s σ H vs us Q I r h
  obtain ⟨v, vr, e1, h⟩ := h
  subst e1
  cases r with
  | cons r rr =>
    rw [hs]
    refine assignInOrder_cons (thn (h1 pins s σ H _ _ _ I r h) fun _ s1 zz => ?_)
    obtain ⟨σ1, H1, I1, q1⟩ := zz
    exact h2 pins s1 σ1 H1 _ _ Q I1 rr q1
def gTup (K : PySem.W.Frag) (n : Nat) (t : TGs) : TG := fun v σ H Q => ∃ a xs, v = .ref a ∧ SqT K H a xs ∧ xs.length = n ∧ t xs σ H Q
theorem pg_tup {es : List Expr} {k : Nat} {t : TGs} {n : Nat} (hc : X.calm = true) (h : PGs X es t)
    (hn : (assignEach es X.env).length = n := by rfl) (hst : (assignEach es X.env).findIdx? (·.1) = none := by rfl) : PG X (.Tuple es k pos) (gTup X.K n t) := by
  intro pins s σ H v u Q I r hw
  obtain ⟨a, xs, e1, hq, hl, hw⟩ := hw
  subst e1
  cases r
  obtain ⟨its, rv, ht, hz⟩ := I.tuple hq
  refine assign_Tuple_tuple (I.ok.hd hc) ht (by simp [hn, ← hl, rv.length]) hst fun h' hx => ?_
  have I1 : Inv X pins σ H { s with heap := h' } := I.kept (t' := s.toks) fun b o e => hx b o (Nat.ne_of_lt (Heap.lt_size e)) e
  exact h pins _ σ H xs _ Q I1 (by simpa using rv) hw
def gSub (to ti : TE) (t : TSet) : TG := fun v σ H Q => to σ H fun o H1 => ti σ H1 fun i H2 => t o i v H2 fun H3 => Q σ H3
theorem pg_sub {o i : Expr} {to ti : TE} {t : TSet} (ho : PE X o to) (hi : PE X i ti) (hs : PSet X t)
    (ha : ∀ v, assign (.Subscript o i pos) X.env v = (do
      let ov ← holding [v] (eval o X.env)
      let iv ← holding [v, ov] (eval i X.env)
      standAt pos
      holding [v, ov, iv] (setItem ov iv v)
      release [v, ov, iv] []) := by intro _; rfl) : PG X (.Subscript o i pos) (gSub to ti t) := by
  intro pins s σ H v u Q I r h
  rw [ha]
  refine wpAny_bind (wpAny_holding (thn (ho pins s σ H _ I h) fun ov s1 zz => ?_))
  obtain ⟨x, H1, I1, r1, q1⟩ := zz
  refine wpAny_bind (wpAny_holding (thn (hi pins s1 σ H1 _ I1 q1) fun iv s2 zz => ?_))
  obtain ⟨y, H2, I2, r2, q2⟩ := zz
  refine wpAny_bind (wpAny_standAt (wpAny_bind (wpAny_holding (thn (hs pins s2 σ H2 x y v ov iv u _ I2 r1 r2 r q2) fun _ s3 zz => ?_))))
  obtain ⟨H3, I3, q3⟩ := zz
  exact wpAny_release ⟨σ, H3, I3, q3⟩
def tAsg (te : TE) (g : TG) : TS := fun D σ H => te σ H fun x H1 => g x σ H1 D.nx
theorem ps_asg {tg e : Expr} {te : TE} {g : TG} (he : PE X e te) (hg : PG X tg g) (hs : swapsWithSole [tg] e pos.line X.env = pure false := by rfl) (hw : swappedStores [tg] e X.env = pure none := by rfl)
    (h1 : (assignEach [tg] X.env).map (·.2) = [assign tg X.env] := by rfl) : PS X (.Assign [tg] e pos) (tAsg te g) := by
  intro pins s σ H D I h
  refine wpAny_Assign_stores (thn (he pins s σ H _ I h) fun v s1 zz => ?_) hs hw
  obtain ⟨x, H1, I1, r1, q1⟩ := zz
  rw [h1]
  exact thn (hg pins s1 σ H1 x v _ I1 r1 q1) fun _ s2 q => q
theorem ps_set {i : Nat} {x : Str} {e : Expr} {te : TE} {pos' : Pos} (hN : X.N.Nodup) (hi : X.N[i]? = some x) (hx : Loc X.env.scope x) (he : PE X e te) (hs : swapsWith e (some (.Name x pos')) pos.line X.env = pure false := by rfl) (hf : X.fn x = true ∨ X.env.scope.names.lookup x = some .local := by first | exact .inl rfl | exact .inr rfl | assumption) :
    PS X (.Assign [.Name x pos'] e pos) (tAsg te (gName i)) := by
  intro pins s σ H D I h
  refine wpAny_Assign_Name (thn (he pins s σ H _ I h) fun v s1 zz => ?_) hs
  obtain ⟨y, H1, I1, r1, q1⟩ := zz
  exact store_ok I1 hN hi hx r1 (fun s2 I2 => ⟨_, H1, I2, q1⟩) hf
end
section
variable {X : Cx} {pos : Pos}
def tWhile (c : TT) (tb : TS) : TS := fun D σ H => ∃ W : Nat → St → Hp → Prop, (∃ m, W m σ H) ∧ ∀ m σ H, W m σ H →
  c σ H fun b H1 => if b = true then ∃ N : St → Hp → Prop, (∀ σ' H', N σ' H' → ∃ m', m' < m ∧ W m' σ' H') ∧ tb { D with nx := N, ct := N, bk := D.nx } σ H1 else D.nx σ H1
theorem ps_while {c : Expr} {body : List Stmt} {tc : TT} {tb : TS} (hp : PassesOwn (model X.prog X.w) X.A X.env X.xe) (hc : PT X c tc) (hb : PSs X body tb) : PS X (.While c body [] pos) (tWhile tc tb) := by
  intro pins s σ H D I h
  obtain ⟨W, ⟨m0, w0⟩, turn⟩ := h
  refine wpAny_While (codeAny_whileLoop (fun n s' => ∃ σ' H', Inv X pins σ' H' s' ∧ W n σ' H') ?_ m0 ⟨σ, H, I, w0⟩)
  rintro n s1 ⟨σ1, H1, I1, w1⟩
  refine wpAny_passesOwn hp (thn (hc pins s1 σ1 H1 _ I1 (turn n σ1 H1 w1)) fun b s2 zz => ?_)
  obtain ⟨H2, I2, q2⟩ := zz
  cases b with
  | true =>
    obtain ⟨N, hN, q2⟩ := q2
    rw [if_pos rfl]
    refine wpAny_passesOwn hp (thn (hb pins s2 σ1 H2 _ I2 q2) fun f s3 q3 => ?_)
    cases f with
    | next =>
      obtain ⟨σ3, H3, I3, n3⟩ := q3
      obtain ⟨m', hm, w3⟩ := hN σ3 H3 n3
      exact ⟨m', hm, σ3, H3, I3, w3⟩
    | cont =>
      obtain ⟨σ3, H3, I3, n3⟩ := q3
      obtain ⟨m', hm, w3⟩ := hN σ3 H3 n3
      exact ⟨m', hm, σ3, H3, I3, w3⟩
    | brk => exact q3
    | ret v => exact q3
  | false =>
    rw [if_neg Bool.false_ne_true]
    exact wpAny_execs_nil ⟨σ1, H2, I2, q2⟩
end
structure It where
  go : Nat → Hp → Prop
  yld : Nat → Hp → V → Hp → Prop
  stop : Nat → Hp → Prop
def FpOk (X : Cx) (pins : List (Addr × Obj)) (H : Hp) (b : Addr) : Prop :=
  H b = none ∧ b ≠ X.env.locals ∧ b ∉ X.fs ∧ (b ∈ X.ex ∨ X.s_0.heap.objs.size ≤ b) ∧ (∀ x c, X.env.cells.lookup x = some c → c ≠ b) ∧ ∀ p ∈ X.pn ++ pins, p.1 ≠ b
theorem Inv.fpOk {X : Cx} {pins : List (Addr × Obj)} {σ : St} {H H' : Hp} {s : Shared} {b : Addr} (I : Inv X pins σ H s) (hb : s.heap.objs.size ≤ b) (hn : H' b = none) : FpOk X pins H' b := by
  refine ⟨hn, Nat.ne_of_gt (Nat.lt_of_lt_of_le I.lt hb), I.nofs hb, .inr (Nat.le_trans I.sz hb), fun x c e z => ?_, fun p hp z => ?_⟩
  · obtain ⟨v, q⟩ := I.cell x c e
    exact absurd (Nat.lt_of_lt_of_le q.lt (by rw [z]; exact hb)) (Nat.lt_irrefl _)
  · exact absurd (Nat.lt_of_lt_of_le (Heap.lt_size (I.pin p hp).1) (by rw [z]; exact hb)) (Nat.lt_irrefl _)
structure Turn (P : Program) (w : World) (K : PySem.W.Frag) (tg : Expr) (J : It) (fp : List Addr) (it : Addr) (tn : Nat → Heap → Prop) : Prop where
  mem : it ∈ fp
  obj : ∀ i h, tn i h → ∀ b ∈ fp, ∃ o, h.get? b = some o ∧ ∀ v, o.data ≠ .cell v
  keep : ∀ i h h', tn i h → (∀ b ∈ fp, ∀ o, h.get? b = some o → h'.get? b = some o) → tn i h'
  item : ∀ (X : Cx), X.prog = P → X.w = w → X.K = K → X.calm = true → ∀ (i : Nat) (pins : List (Addr × Obj)) (s : Shared) (σ : St) (H : Hp) (E : Value → Shared → Prop), Inv X pins σ H s → (∀ b ∈ fp, FpOk X pins H b) → tn i s.heap → J.go i H →
    wpAny (model P w) X.A (pyNext (.ref it)) (fun r s1 => ∃ u, r = some u ∧
      wpAny (model P w) X.A (letOwnedTupleGo tg (.ref it) u) (fun _ s2 => ∃ x H', Inv X pins σ H' s2 ∧ RelV x u ∧ J.yld i H x H' ∧ tn (i + 1) s2.heap ∧ ∀ b ∈ fp, H' b = none) E s1) E s
  done : ∀ (X : Cx), X.prog = P → X.w = w → X.K = K → X.calm = true → ∀ (i : Nat) (pins : List (Addr × Obj)) (s : Shared) (σ : St) (H : Hp) (E : Value → Shared → Prop), Inv X pins σ H s → (∀ b ∈ fp, FpOk X pins H b) → tn i s.heap → J.stop i H →
    wpAny (model P w) X.A (pyNext (.ref it)) (fun r s1 => r = none ∧ Inv X pins σ H s1) E s
  self : ∀ (A : Around) (i : Nat) (s : Shared) (Q : Value → Shared → Prop) (E : Value → Shared → Prop), tn i s.heap → Q (.ref it) s → wpAny (model P w) A (pyIter (.ref it)) Q E s
abbrev TI := St → Hp → (It → Hp → Prop) → Prop
def PIE (X : Cx) (pins : List (Addr × Obj)) (σ : St) (tg : Expr) (R : It → Hp → Prop) (itv : Value) (s2 : Shared) : Prop :=
  ∃ (it : Addr) (fp : List Addr) (tn : Nat → Heap → Prop) (J : It) (H' : Hp), itv = .ref it ∧ Inv X pins σ H' s2 ∧ Turn X.prog X.w X.K tg J fp it tn ∧ tn 0 s2.heap ∧ (∀ b ∈ fp, FpOk X pins H' b) ∧ R J H'
def PI (X : Cx) (tg iter : Expr) (wi : TI) : Prop :=
  ∀ (pins : List (Addr × Obj)) (s : Shared) (σ : St) (H : Hp) (R : It → Hp → Prop), Inv X pins σ H s → wi σ H R →
    wpAny (model X.prog X.w) X.A (eval iter X.env) (fun v s1 => wpAny (model X.prog X.w) X.A (pyIter v) (PIE X pins σ tg R) X.xe s1) X.xe s
theorem go_of {M : Model} {A : Around} {E : Value → Shared → Prop} {s : Shared} {tg : Expr} {it : Addr} {u : Value} {o : Obj} {n : String} {vs : Array Value} {Q : Unit → Shared → Prop} (ho : s.heap.get? it = some o) (hc : o.cls = .type n) (hd : o.data = .fields vs)
    (hn : ["enumerate", "zip", "dict_itemiterator", "dict_reverseitemiterator", "odict_iterator", "itertools.zip_longest", "itertools.pairwise"].contains n = false) (hQ : Q () s) : wpAny M A (letOwnedTupleGo tg (.ref it) u) Q E s := by
  unfold letOwnedTupleGo
  cases tg <;> first
    | exact wpAny_pure hQ
    | (cases u <;> first
        | exact wpAny_pure hQ
        | (refine wpAny_bind (wpAny_load ho ?_)
           rw [hc, hd]
           show wpAny M A (if (["enumerate", "zip", "dict_itemiterator", "dict_reverseitemiterator", "odict_iterator", "itertools.zip_longest", "itertools.pairwise"].contains n && vs[0]? == some (rawInt _)) = true then _ else _) Q E s
           rw [if_neg (by intro h; rw [hn, Bool.false_and] at h; cases h)]
           exact wpAny_pure hQ))
def Itl (K : PySem.W.Frag) (a : Addr) : It :=
  ⟨fun i H => ∃ xs x, SqL K H a xs ∧ xs[i]? = some x, fun i H x H' => H' = H ∧ ∀ xs, SqL K H a xs → xs[i]? = some x, fun i H => ∃ xs, SqL K H a xs ∧ xs.length ≤ i⟩
def Itr (lo : Int) (n : Nat) : It := ⟨fun i _ => i < n, fun i H x H' => H' = H ∧ x = .int (lo + i), fun i _ => n ≤ i⟩
theorem turn_list {P : Program} {w : World} {K : PySem.W.Frag} {tg : Expr} (a it : Addr) : Turn P w K tg (Itl K a) [it] it (fun i h => h.IsListIter it a i) where
  mem := by simp
  obj := fun i h st b hb => by
    have e : b = it := by simpa using hb
    subst e
    obtain ⟨o, e, c, d⟩ := st
    exact ⟨o, e, fun v z => by rw [d] at z; cases z⟩
  keep := fun i h h' st k => st.at fun o e => k it (by simp) o e
  item := by
    intro X hP hw hK hc i pins s σ H E I hf st hg
    subst hP hw hK
    obtain ⟨xs, x, hq, hx⟩ := hg
    obtain ⟨its, rv, p, hz⟩ := I.list hq
    obtain ⟨u, hu, ru⟩ := rv.get hx
    obtain ⟨f0, f1, f2, f3, f4, f5⟩ := hf it (by simp)
    refine wpAny_pyNext_list_item st p.isList (x := u) (by simpa using hu) fun h' st' sb => ?_
    have I1 : Inv X pins σ H { s with heap := h' } := I.turned (t' := s.toks) (fun b o hb e => (sb.2 b hb).trans e) f0 f1 f3 f4 f5
    obtain ⟨o, e, c, d⟩ := id st'
    exact ⟨u, rfl, go_of (s := { s with heap := h' }) e c d (by decide) ⟨x, H, I1, ru, ⟨rfl, fun ys hy => by rw [I.list_inj hy hq]; exact hx⟩, st', fun b hb => (hf b hb).1⟩⟩
  done := by
    intro X hP hw hK hc i pins s σ H E I hf st hg
    subst hP hw hK
    obtain ⟨xs, hq, hx⟩ := hg
    obtain ⟨its, rv, p, hz⟩ := I.list hq
    obtain ⟨f0, f1, f2, f3, f4, f5⟩ := hf it (by simp)
    have hl := rv.length
    exact wpAny_pyNext_list_end (I.ok.hd hc) st p.isList (by simp; omega) fun h' eb => ⟨rfl, I.turned (t' := s.toks) (fun b o hb e => eb b o hb e) f0 f1 f3 f4 f5⟩
  self := fun _ _ _ _ _ st h => wpAny_pyIter_listiter st h
theorem turn_range {P : Program} {w : World} {K : PySem.W.Frag} {tg : Expr} (it : Addr) (lo : Int) (n : Nat) : Turn P w K tg (Itr lo n) [it] it (fun i h => IsRangeIter h it (lo + (i : Nat) * 1) ((n : Int) - (i : Nat)) 1) where
  mem := by simp
  obj := fun i h st b hb => by
    have e : b = it := by simpa using hb
    subst e
    exact ⟨_, st, fun v z => by
      have z' : Data.fields _ = Data.cell v := z
      cases z'⟩
  keep := fun i h h' st k => k it (by simp) _ st
  item := by
    intro X hP hw hK hc i pins s σ H E I hf st hg
    subst hP hw hK
    obtain ⟨f0, f1, f2, f3, f4, f5⟩ := hf it (by simp)
    have W := Walks.range (prog := X.prog) (w := X.w) (I.ok.hd hc) it lo 1 n
    refine W.item i s _ _ hg st fun v h' tk hv st' kk => ?_
    obtain ⟨t, rfl⟩ := hv
    have I1 : Inv X pins σ H { s with heap := h', toks := tk } := I.turned (fun b o hb e => kk b o (by simpa using hb) e) f0 f1 f3 f4 f5
    refine ⟨_, rfl, go_of (s := { s with heap := h', toks := tk }) (n := "range_iterator") st' rfl rfl (by decide) ⟨.int (lo + i), H, I1, ⟨t, ?_⟩, ⟨rfl, rfl⟩, st', fun b hb => (hf b hb).1⟩⟩
    rw [Int.mul_one]
  done := by
    intro X hP hw hK hc i pins s σ H E I hf st hg
    subst hP hw hK
    obtain ⟨f0, f1, f2, f3, f4, f5⟩ := hf it (by simp)
    exact wpAny_pyNext_range_end (I.ok.hd hc) st (by have : n ≤ i := hg; omega) fun h' eb => ⟨rfl, I.turned (t' := s.toks) (fun b o hb e => eb b o hb e) f0 f1 f3 f4 f5⟩
  self := fun _ _ _ _ _ st h => wpAny_pyIter_rangeiter st h
end L2
namespace L2
open PySem PySem.Spec PyProof.Rows
section
variable {X : Cx} {tg : Expr}
def iList (K : PySem.W.Frag) (tl : TE) : TI := fun σ H R => tl σ H fun x H1 => ∃ a, x = .ref a ∧ (∃ xs, SqL K H1 a xs) ∧ R (Itl K a) H1
theorem pi_list {l : Expr} {tl : TE} (hl : PE X l tl) : PI X tg l (iList X.K tl) := by
  intro pins s σ H R I h
  refine thn (hl pins s σ H _ I h) fun v s1 zz => ?_
  obtain ⟨x, H1, I1, r1, q1⟩ := zz
  obtain ⟨a, e, ⟨xs, hq⟩, q⟩ := q1
  subst e
  cases r1
  obtain ⟨its, rv, p, hz⟩ := I1.list hq
  refine wpAny_pyIter_list p.isList ?_
  refine ⟨s1.heap.objs.size, [s1.heap.objs.size], _, _, H1, rfl, I1.kept (t' := s1.toks) fun b o e => Heap.get?_push_of_some _ e, turn_list a _, ⟨_, Heap.get?_push_size _ rfl, rfl, rfl⟩, fun b hb => ?_, q⟩
  have e : b = s1.heap.objs.size := by simpa using hb
  subst e
  exact I1.fpOk (Nat.le_refl _) (I1.hok.fresh (Nat.le_refl _))
theorem range_it {pins : List (Addr × Obj)} {σ : St} {H : Hp} {s : Shared} {R : It → Hp → Prop} {E : Value → Shared → Prop} {lo hi : Int} {t u v : Tok} {tk : Nat} (I : Inv X pins σ H s) (h1 : -(2 ^ 62) ≤ lo) (h2 : lo < 2 ^ 62) (h3 : -(2 ^ 62) ≤ hi) (h4 : hi < 2 ^ 62)
    (q : R (Itr lo (hi - lo).toNat) H) : wpAny (model X.prog X.w) X.A (pyIter (.ref s.heap.objs.size)) (PIE X pins σ tg R) E { s with heap := s.heap.push { cls := .type "range", data := .fields #[.int lo t, .int hi u, .int 1 v] }, toks := tk } := by
  refine wpAny_pyIter_range (IsRange.new ..) (small_one h1 h2 h3 h4) ?_
  have I1 : Inv X pins σ H { s with heap := s.heap.push { cls := .type "range", data := .fields #[.int lo t, .int hi u, .int 1 v] }, toks := tk } := I.kept fun b o e => Heap.get?_push_of_some _ e
  refine ⟨(s.heap.push { cls := .type "range", data := .fields #[.int lo t, .int hi u, .int 1 v] }).objs.size, [(s.heap.push { cls := .type "range", data := .fields #[.int lo t, .int hi u, .int 1 v] }).objs.size], _, _, H, rfl,
    I1.kept (t' := tk) fun b o e => Heap.get?_push_of_some _ e, turn_range _ lo (hi - lo).toNat, ?_, fun b hb => ?_, q⟩
  · have e1 : lo + ((0 : Nat) : Int) * 1 = lo := by simp
    have e2 : (((hi - lo).toNat : Nat) : Int) - ((0 : Nat) : Int) = Builtin.Range.rangeSize lo hi 1 := by rw [rangeSize_one]; split <;> omega
    show IsRangeIter _ _ (lo + ((0 : Nat) : Int) * 1) ((((hi - lo).toNat : Nat) : Int) - ((0 : Nat) : Int)) 1
    rw [e1, e2]
    exact Heap.get?_push_size _ rfl
  · have e : b = (s.heap.push { cls := .type "range", data := .fields #[.int lo t, .int hi u, .int 1 v] }).objs.size := by simpa using hb
    subst e
    exact I1.fpOk (Nat.le_refl _) (I1.hok.fresh (Nat.le_refl _))
def iRng1 (ta : TA) : TI := fun σ H R => ta σ H fun vs H1 => ∃ j : Int, vs = [.int j] ∧ -(2 ^ 62) ≤ j ∧ j < 2 ^ 62 ∧ R (Itr 0 j.toNat) H1
theorem pi_range1 {a : Expr} {ta : TA} {p pos : Pos} (hg : Gl X "range") (hm : X.mg "range" = none) (ha : PA X [a] ta) (hs : starEach [a] X.env = [(false, eval a X.env)] := by rfl) : PI X tg (.Call (.Name "range" p) [a] [] pos) (iRng1 ta) := by
  intro pins s σ H R I h
  refine Call_ (ld_blt I hg hm boot_range (PyProof.Rows.callWith_type1 (thn (ha pos pins s σ H _ I h) fun us s1 zz => ?_) hs rfl))
  obtain ⟨vs, H1, I1, r1, q1⟩ := zz
  obtain ⟨j, e, q1, q2, q⟩ := q1
  subst e
  cases r1 with
  | cons r rr =>
    cases rr
    obtain ⟨t, rfl⟩ := r
    exact call_range_1 (range_it I1 (by omega) (by omega) q1 q2 (by simpa using q))
def tFor (wi : TI) (g : TG) (tb : TS) : TS := fun D σ H => wi σ H fun J H1 => ∃ W : Nat → Nat → St → Hp → Prop, (∃ m, W 0 m σ H1) ∧ ∀ i m σ H, W i m σ H →
  (J.stop i H ∧ D.nx σ H) ∨ (J.go i H ∧ ∃ N : St → Hp → Prop, (∀ σ' H', N σ' H' → ∃ m', m' < m ∧ W (i + 1) m' σ' H') ∧ ∀ x H', J.yld i H x H' → g x σ H' fun σ2 H2 => tb { D with nx := N, ct := N, bk := D.nx } σ2 H2)
def pinsAt (fp : List Addr) (h : Heap) : List (Addr × Obj) := fp.filterMap fun b => (h.get? b).map fun o => (b, o)
theorem mem_pinsAt {fp : List Addr} {h : Heap} {b : Addr} {o : Obj} (hb : b ∈ fp) (e : h.get? b = some o) : (b, o) ∈ pinsAt fp h := List.mem_filterMap.mpr ⟨b, hb, by rw [e]; rfl⟩
theorem of_pinsAt {fp : List Addr} {h : Heap} {p : Addr × Obj} (hp : p ∈ pinsAt fp h) : p.1 ∈ fp ∧ h.get? p.1 = some p.2 := by
  obtain ⟨b, hb, e⟩ := List.mem_filterMap.mp hp
  cases q : h.get? b with
  | none => rw [q] at e; cases e
  | some o =>
    rw [q] at e
    have e' : (b, o) = p := Option.some.inj e
    subst e'
    exact ⟨hb, q⟩
theorem Inv.pinned {pins : List (Addr × Obj)} {σ : St} {H : Hp} {s : Shared} {fp : List Addr} (I : Inv X pins σ H s) (hf : ∀ b ∈ fp, FpOk X pins H b) (ho : ∀ b ∈ fp, ∃ o, s.heap.get? b = some o ∧ ∀ v, o.data ≠ .cell v) : Inv X (pins ++ pinsAt fp s.heap) σ H s :=
  I.pins_of fun p hp => (List.mem_append.mp hp).elim (fun z => I.pin p (List.mem_append_right _ z)) fun z => by
    obtain ⟨hb, e⟩ := of_pinsAt z
    obtain ⟨f0, f1, f2, _⟩ := hf p.1 hb
    obtain ⟨o, e', d⟩ := ho p.1 hb
    rw [e] at e'; cases e'
    exact ⟨e, f0, f1, f2, d⟩
theorem Inv.unpinned {pins pl : List (Addr × Obj)} {σ : St} {H : Hp} {s : Shared} (I : Inv X (pins ++ pl) σ H s) : Inv X pins σ H s := I.pins_of fun p hp => I.pin p (List.mem_append_right _ (List.mem_append_left _ hp))
theorem ps_for {iter : Expr} {body : List Stmt} {wi : TI} {g : TG} {tb : TS} {pos : Pos} (hp : PassesOwn (model X.prog X.w) X.A X.env X.xe) (hc : X.calm = true) (hi : PI X tg iter wi) (hg : PG X tg g) (hb : PSs X body tb)
    (hs : ∀ x, foldedSetIterable iter X.env x = pure x := by intro _; rfl) : PS X (.For tg iter body [] pos) (tFor wi g tb) := by
  intro pins s σ H D I h
  refine wpAny_For (thn (hi pins s σ H _ I h) fun v s1 h1 => thn h1 fun itv s2 h2 => ?_) hs
  obtain ⟨it, fp, tn, J, H2, e, I2, T, st2, f2, W, ⟨m0, w0⟩, turn⟩ := h2
  subst e
  -- what stays true of the iterator's objects through the loop
  have stat : ∀ {H' : Hp}, (∀ b ∈ fp, H' b = none) → ∀ b ∈ fp, FpOk X pins H' b := fun hn b hb => ⟨hn b hb, (f2 b hb).2⟩
  refine codeAny_forLoop_any (fun n s' => ∃ i σ' H', Inv X pins σ' H' s' ∧ tn i s'.heap ∧ (∀ b ∈ fp, H' b = none) ∧ W i n σ' H') ?_ m0 ⟨0, σ, H2, I2, st2, fun b hb => (f2 b hb).1, w0⟩
  rintro n s3 ⟨i, σ3, H3, I3, st3, fr3, w3⟩
  rcases turn i n σ3 H3 w3 with ⟨stop, qn⟩ | ⟨go, N, hN, step⟩
  · refine wpAny_passesOwn hp (thn (T.done X rfl rfl rfl hc i pins s3 σ3 H3 X.xe I3 (stat fr3) st3 stop) fun r s4 ⟨hr, I4⟩ => ?_)
    subst hr
    exact wpAny_execs_nil ⟨σ3, H3, I4, qn⟩
  · refine wpAny_passesOwn hp (thn (T.item X rfl rfl rfl hc i pins s3 σ3 H3 X.xe I3 (stat fr3) st3 go) fun r s4 zz => PySem.ex3 zz fun u hr h4 => ?_)
    subst hr
    refine wpAny_passesOwn hp (thn h4 fun _ s5 zz => ?_)
    obtain ⟨x, H5, I5, r5, y5, st5, fr5⟩ := zz
    have I5' := I5.pinned (stat fr5) (T.obj _ _ st5)
    refine wpAny_passesOwn hp (thn (hg _ s5 σ3 H5 x u _ I5' r5 (step x H5 y5)) fun _ s6 zz => ?_)
    obtain ⟨σ6, H6, I6, q6⟩ := zz
    refine wpAny_passesOwn hp (thn (hb _ s6 σ6 H6 _ I6 q6) fun f s7 q7 => ?_)
    have again : ∀ {σ7 : St} {H7 : Hp}, Inv X (pins ++ pinsAt fp s5.heap) σ7 H7 s7 → N σ7 H7 → ∃ m, m < n ∧ ∃ i σ' H', Inv X pins σ' H' s7 ∧ tn i s7.heap ∧ (∀ b ∈ fp, H' b = none) ∧ W i m σ' H' := fun {σ7 H7} I7 n7 => by
      obtain ⟨m', hm, w7⟩ := hN σ7 H7 n7
      refine ⟨m', hm, i + 1, σ7, H7, I7.unpinned, T.keep _ _ _ st5 fun b hb o e => (I7.pin (b, o) (List.mem_append_right _ (List.mem_append_right _ (mem_pinsAt hb e)))).1, fun b hb => ?_, w7⟩
      obtain ⟨o, e, d⟩ := T.obj _ _ st5 b hb
      exact (I7.pin (b, o) (List.mem_append_right _ (List.mem_append_right _ (mem_pinsAt hb e)))).2.1
    cases f with
    | next => obtain ⟨σ7, H7, I7, n7⟩ := q7; exact again I7 n7
    | cont => obtain ⟨σ7, H7, I7, n7⟩ := q7; exact again I7 n7
    | brk => obtain ⟨σ7, H7, I7, q7⟩ := q7; exact ⟨σ7, H7, I7.unpinned, q7⟩
    | ret v => obtain ⟨x7, σ7, H7, I7, r7, q7⟩ := q7; exact ⟨x7, σ7, H7, I7.unpinned, r7, q7⟩
end
theorem for_list {K : PySem.W.Frag} {a : Addr} {xs : List V} {g : TG} {tb : TS} {D : Ends} {σ : St} {H : Hp} (Pv : Nat → St → Hp → Prop) (h0 : Pv 0 σ H) (hl : ∀ i σ H, i ≤ xs.length → Pv i σ H → SqL K H a xs)
    (hs : ∀ i x σ H, xs[i]? = some x → Pv i σ H → g x σ H fun σ2 H2 => tb { D with nx := Pv (i + 1), ct := Pv (i + 1), bk := D.nx } σ2 H2) (hd : ∀ σ H, Pv xs.length σ H → D.nx σ H) :
    ∃ W : Nat → Nat → St → Hp → Prop, (∃ m, W 0 m σ H) ∧ ∀ i m σ H, W i m σ H →
      ((Itl K a).stop i H ∧ D.nx σ H) ∨ ((Itl K a).go i H ∧ ∃ N : St → Hp → Prop, (∀ σ' H', N σ' H' → ∃ m', m' < m ∧ W (i + 1) m' σ' H') ∧ ∀ x H', (Itl K a).yld i H x H' → g x σ H' fun σ2 H2 => tb { D with nx := N, ct := N, bk := D.nx } σ2 H2) := by
  refine ⟨fun i m σ H => m = xs.length - i ∧ i ≤ xs.length ∧ Pv i σ H, ⟨xs.length, by simp, Nat.zero_le _, h0⟩, ?_⟩
  rintro i m σ H ⟨rfl, hi, p⟩
  have q := hl i σ H hi p
  by_cases hlt : i < xs.length
  · refine .inr ⟨⟨xs, xs[i], q, by simp [hlt]⟩, Pv (i + 1), fun σ' H' p' => ⟨xs.length - (i + 1), by omega, rfl, hlt, p'⟩, fun x H' y => ?_⟩
    obtain ⟨e, y⟩ := y
    subst e
    exact hs i x σ _ (y xs q) p
  · have e : i = xs.length := by omega
    subst e
    exact .inl ⟨⟨xs, q, Nat.le_refl _⟩, hd σ H p⟩
theorem for_range {lo : Int} {n : Nat} {g : TG} {tb : TS} {D : Ends} {σ : St} {H : Hp} (Pv : Nat → St → Hp → Prop) (h0 : Pv 0 σ H)
    (hs : ∀ i σ H, i < n → Pv i σ H → g (.int (lo + i)) σ H fun σ2 H2 => tb { D with nx := Pv (i + 1), ct := Pv (i + 1), bk := D.nx } σ2 H2) (hd : ∀ σ H, Pv n σ H → D.nx σ H) :
    ∃ W : Nat → Nat → St → Hp → Prop, (∃ m, W 0 m σ H) ∧ ∀ i m σ H, W i m σ H →
      ((Itr lo n).stop i H ∧ D.nx σ H) ∨ ((Itr lo n).go i H ∧ ∃ N : St → Hp → Prop, (∀ σ' H', N σ' H' → ∃ m', m' < m ∧ W (i + 1) m' σ' H') ∧ ∀ x H', (Itr lo n).yld i H x H' → g x σ H' fun σ2 H2 => tb { D with nx := N, ct := N, bk := D.nx } σ2 H2) := by
  refine ⟨fun i m σ H => m = n - i ∧ i ≤ n ∧ Pv i σ H, ⟨n, by simp, Nat.zero_le _, h0⟩, ?_⟩
  rintro i m σ H ⟨rfl, hi, p⟩
  by_cases hlt : i < n
  · refine .inr ⟨hlt, Pv (i + 1), fun σ' H' p' => ⟨n - (i + 1), by omega, rfl, hlt, p'⟩, fun x H' y => ?_⟩
    obtain ⟨e, y⟩ := y
    subst e y
    exact hs i σ _ hlt p
  · have e : i = n := by omega
    subst e
    exact .inl ⟨Nat.le_refl _, hd σ H p⟩
end L2
namespace L2
open PySem PySem.Spec PyProof.Rows
abbrev R2 := V → V → Hp → VK → Prop
def OpR (X : Cx) (f : Value → Value → Sem Value) (r : R2) : Prop :=
  ∀ (pins : List (Addr × Obj)) (s : Shared) (σ : St) (H : Hp) (x y : V) (v u : Value) (Q : VK), Inv X pins σ H s → RelV x v → RelV y u → r x y H Q →
    wpAny (model X.prog X.w) X.A (f v u) (EP X pins σ Q) X.xe s
def CallR (X : Cx) (f : Value) (r : List V → Hp → VK → Prop) : Prop :=
  ∀ (pins : List (Addr × Obj)) (s : Shared) (σ : St) (H : Hp) (xs : List V) (us : List Value) (Q : VK), Inv X pins σ H s → Vals xs us → r xs H Q →
    wpAny (model X.prog X.w) X.A (call f us) (EP X pins σ Q) X.xe s
def tOp (r : R2) (ta tb : TE) : TE := fun σ H Q => ta σ H fun x H1 => tb σ H1 fun y H2 => r x y H2 Q
def rI (C : Int → Int → Prop) (g : Int → Int → V) : R2 := fun x y H Q => ∃ i j, x = .int i ∧ y = .int j ∧ C i j ∧ Q (g i j) H
def rI0 (g : Int → Int → V) : R2 := fun x y H Q => ∃ i j, x = .int i ∧ y = .int j ∧ Q (g i j) H
section
variable {X : Cx} {a b c : Expr} {ta tb tc : TE} {pos : Pos}
theorem binT (ha : PE X a ta) (hb : PE X b tb) {pins : List (Addr × Obj)} {s : Shared} {σ : St} {H : Hp} {R : V → V → Hp → Prop} (I : Inv X pins σ H s)
    (h : ta σ H fun x H1 => tb σ H1 fun y H2 => R x y H2) {Q : Value → Shared → Prop} {f : Value → Value → Sem Value}
    (hf : ∀ v u s2 x y H2, Inv X pins σ H2 s2 → RelV x v → RelV y u → R x y H2 → wpAny (model X.prog X.w) X.A (f v u) Q X.xe s2) :
    wpAny (model X.prog X.w) X.A (eval a X.env) (fun v s₁ => wpAny (model X.prog X.w) X.A (eval b X.env) (fun u s₂ => wpAny (model X.prog X.w) X.A (f v u) Q X.xe s₂) X.xe s₁) X.xe s := by
  refine thn (ha pins s σ H _ I h) fun v s1 zz => ?_
  obtain ⟨x, H1, I1, r1, q1⟩ := zz
  refine thn (hb pins s1 σ H1 _ I1 q1) fun u s2 zz => ?_
  obtain ⟨y, H2, I2, r2, q2⟩ := zz
  exact hf v u s2 x y H2 I2 r1 r2 q2
theorem pe_op {op : Operator} {r : R2} (ho : OpR X (binaryOp op) r) (ha : PE X a ta) (hb : PE X b tb) : PE X (.BinOp a op b pos) (tOp r ta tb) := by
  intro pins s σ H Q I h
  exact wpAny_BinOp (binT ha hb I h fun v u s2 x y H2 I2 rx ry q => ho pins s2 σ H2 x y v u Q I2 rx ry q)
theorem opI {f : Value → Value → Sem Value} {C : Int → Int → Prop} {g : Int → Int → Int}
    (rule : ∀ (i j : Int) (t u : Tok) (s : Shared) (Q : Value → Shared → Prop) (E : Value → Shared → Prop), C i j → Q (.int (g i j) s.toks) { s with toks := s.toks + 1 } → wpAny (model X.prog X.w) X.A (f (.int i t) (.int j u)) Q E s) :
    OpR X f (rI C fun i j => .int (g i j)) := by
  intro pins s σ H x y v u Q I rx ry h
  obtain ⟨i, j, rfl, rfl, hc, q⟩ := h
  obtain ⟨t, rfl⟩ := rx
  obtain ⟨t', rfl⟩ := ry
  exact rule i j t t' s _ _ hc ⟨.int (g i j), H, I.tok _, ⟨_, rfl⟩, q⟩
theorem opI0 {f : Value → Value → Sem Value} {g : Int → Int → Int}
    (rule : ∀ (i j : Int) (t u : Tok) (s : Shared) (Q : Value → Shared → Prop) (E : Value → Shared → Prop), Q (.int (g i j) s.toks) { s with toks := s.toks + 1 } → wpAny (model X.prog X.w) X.A (f (.int i t) (.int j u)) Q E s) :
    OpR X f (rI0 fun i j => .int (g i j)) := by
  intro pins s σ H x y v u Q I rx ry h
  obtain ⟨i, j, rfl, rfl, q⟩ := h
  obtain ⟨t, rfl⟩ := rx
  obtain ⟨t', rfl⟩ := ry
  exact rule i j t t' s _ _ ⟨.int (g i j), H, I.tok _, ⟨_, rfl⟩, q⟩
theorem opB0 {f : Value → Value → Sem Value} {g : Int → Int → Bool}
    (rule : ∀ (i j : Int) (t u : Tok) (s : Shared) (Q : Value → Shared → Prop) (E : Value → Shared → Prop), Q (.bool (g i j)) s → wpAny (model X.prog X.w) X.A (f (.int i t) (.int j u)) Q E s) :
    OpR X f (rI0 fun i j => .bl (g i j)) := by
  intro pins s σ H x y v u Q I rx ry h
  obtain ⟨i, j, rfl, rfl, q⟩ := h
  obtain ⟨t, rfl⟩ := rx
  obtain ⟨t', rfl⟩ := ry
  exact rule i j t t' s _ _ ⟨.bl (g i j), H, I, rfl, q⟩
def CDiv (i j : Int) : Prop := 0 < j ∧ j < 1073741824
def CPow (i j : Int) : Prop := 0 ≤ j ∧ j ≤ 1000000 ∧ i.natAbs < 2 ^ 64
def CMul (i j : Int) : Prop := (-(2 ^ 64) < i ∧ i < 2 ^ 64) ∨ (-(2 ^ 64) < j ∧ j < 2 ^ 64)
theorem CMul.ok {i j : Int} (h : CMul i j) : IntMulOk i j := by
  rcases h with ⟨h1, h2⟩ | ⟨h1, h2⟩
  · exact .of_left (intBits_le_64 h1 h2)
  · exact .of_right (intBits_le_64 h1 h2)
theorem two_pow_nn (k : Nat) : (0 : Int) ≤ 2 ^ k := by
  rw [two_pow_cast]
  exact Int.natCast_nonneg _
theorem op_add : OpR X (binaryOp .Add) (rI0 fun i j => .int (i + j)) := opI0 fun _ _ _ _ _ _ _ q => add_int q
theorem op_sub : OpR X (binaryOp .Sub) (rI0 fun i j => .int (i - j)) := opI0 fun _ _ _ _ _ _ _ q => sub_int q
theorem op_mul : OpR X (binaryOp .Mult) (rI CMul fun i j => .int (i * j)) := opI fun _ _ _ _ _ _ _ hc q => mul_int q hc.ok
theorem op_fdiv : OpR X (binaryOp .FloorDiv) (rI CDiv fun i j => .int (i / j)) := opI fun i j _ _ _ _ _ hc q => by
  have h1 : (0 : Int) < j := hc.1
  have h2 : j < 1073741824 := hc.2
  exact floordiv_int (by omega) (by rw [Int.fdiv_eq_ediv_of_nonneg i (by omega)]; exact q) (.inl (PyProof.noPylong_small (by omega)))
theorem op_mod : OpR X (binaryOp .Mod) (rI (fun _ j => 0 < j) fun i j => .int (i % j)) := opI fun i j _ _ _ _ _ hc q => by
  have h1 : (0 : Int) < j := hc
  exact mod_int' (by omega) (by rw [Int.fmod_eq_emod_of_nonneg i (by omega)]; exact q)
theorem op_shl : OpR X (binaryOp .LShift) (rI CPow fun i j => .int (i * 2 ^ j.toNat)) := opI fun _ _ _ _ _ _ _ hc q => lshift_int_small hc.1 hc.2.1 hc.2.2 q
theorem op_shr : OpR X (binaryOp .RShift) (rI (fun _ j => 0 ≤ j) fun i j => .int (i / 2 ^ j.toNat)) := opI fun i j _ _ _ _ _ hc q =>
  rshift_int hc (by rw [Int.fdiv_eq_ediv_of_nonneg i (two_pow_nn _)]; exact q)
theorem op_and : OpR X (binaryOp .BitAnd) (rI0 fun i j => .int (Builtin.bitAnd i j)) := opI0 fun _ _ _ _ _ _ _ q => and_int q
theorem op_or : OpR X (binaryOp .BitOr) (rI0 fun i j => .int (Builtin.bitOr i j)) := opI0 fun _ _ _ _ _ _ _ q => or_int q
end
def scal : V → V → Bool
  | .non, .non => true | .non, .int _ => true | .int _, .non => true | .non, .bl _ => true | .bl _, .non => true | .non, .str _ => true | .str _, .non => true
  | .int _, .int _ => true | .bl _, .bl _ => true | .str _, .str _ => true | .byt _, .byt _ => true
  | .int _, .str _ => true | .str _, .int _ => true | .bl _, .str _ => true | .str _, .bl _ => true
  | _, _ => false
def rEq : R2 := fun x y H Q => scal x y = true ∧ Q (.bl (decide (x = y))) H
def rNe : R2 := fun x y H Q => scal x y = true ∧ Q (.bl (!decide (x = y))) H
theorem dec_int {i j : Int} : decide (V.int i = V.int j) = (i == j) := by
  rw [Bool.eq_iff_iff]
  simp
theorem dec_bl {i j : Bool} : decide (V.bl i = V.bl j) = (i == j) := by
  rw [Bool.eq_iff_iff]
  simp
theorem dec_str {i j : Str} : decide (V.str i = V.str j) = (i == j) := by
  rw [Bool.eq_iff_iff]
  simp
theorem dec_byt {i j : Array UInt8} : decide (V.byt i = V.byt j) = (i.toList == j.toList) := by
  rw [Bool.eq_iff_iff]
  cases i
  cases j
  simp
section
variable {X : Cx} {a b c : Expr} {ta tb tc : TE} {pos : Pos}
theorem fin_bl {pins : List (Addr × Obj)} {σ : St} {H : Hp} {s : Shared} {Q : VK} {k k' : Bool} (I : Inv X pins σ H s) (q : Q (.bl k) H) (e : k = k') : EP X pins σ Q (.bool k') s := by
  subst e
  exact ⟨.bl k, H, I, rfl, q⟩
theorem op_eq : OpR X (compareOp .Eq) rEq := by
  intro pins s σ H x y v u Q I rx ry h
  obtain ⟨hs, q⟩ := h
  cases x with
  | non =>
    cases rx
    cases y with
    | non => cases ry; exact PySem.EqNone.eq_none_none (fin_bl I q (by simp))
    | bl j => cases ry; exact PySem.EqNone.eq_none_bool (fin_bl I q (by simp))
    | int j => obtain ⟨t', rfl⟩ := ry; exact PySem.EqNone.eq_none_int (fin_bl I q (by simp))
    | str j => obtain ⟨t', rfl⟩ := ry; exact PySem.EqNone.eq_none_str (fin_bl I q (by simp))
    | _ => exact absurd (show false = true from hs) Bool.false_ne_true
  | bl i =>
    cases rx
    cases y with
    | non => cases ry; exact PySem.EqNone.eq_bool_none (fin_bl I q (by simp))
    | bl j => cases ry; exact eq_bool (fin_bl I q dec_bl)
    | str j => obtain ⟨t', rfl⟩ := ry; exact PySem.EqMixed.eq_bool_str (fin_bl I q (by simp))
    | _ => exact absurd (show false = true from hs) Bool.false_ne_true
  | int i =>
    obtain ⟨t, rfl⟩ := rx
    cases y with
    | non => cases ry; exact PySem.EqNone.eq_int_none (fin_bl I q (by simp))
    | int j => obtain ⟨t', rfl⟩ := ry; exact eq_int (fin_bl I q dec_int)
    | str j => obtain ⟨t', rfl⟩ := ry; exact PySem.EqMixed.eq_int_str (fin_bl I q (by simp))
    | _ => exact absurd (show false = true from hs) Bool.false_ne_true
  | str i =>
    obtain ⟨t, rfl⟩ := rx
    cases y with
    | non => cases ry; exact PySem.EqNone.eq_str_none (fin_bl I q (by simp))
    | bl j => cases ry; exact PySem.EqMixed.eq_str_bool (fin_bl I q (by simp))
    | int j => obtain ⟨t', rfl⟩ := ry; exact PySem.EqMixed.eq_str_int (fin_bl I q (by simp))
    | str j => obtain ⟨t', rfl⟩ := ry; exact eq_str (fin_bl I q dec_str)
    | _ => exact absurd (show false = true from hs) Bool.false_ne_true
  | byt i =>
    obtain ⟨t, rfl⟩ := rx
    cases y with
    | byt j => obtain ⟨t', rfl⟩ := ry; exact PySem.W.eq_bytes (fin_bl I q dec_byt)
    | _ => exact absurd (show false = true from hs) Bool.false_ne_true
  | _ => cases y <;> exact absurd (show false = true from hs) Bool.false_ne_true
theorem op_ne : OpR X (compareOp .NotEq) rNe := by
  intro pins s σ H x y v u Q I rx ry h
  obtain ⟨hs, q⟩ := h
  cases x with
  | non =>
    cases rx
    cases y with
    | non => cases ry; exact PySem.EqNone.ne_none_none (fin_bl I q (by simp))
    | bl j => cases ry; exact PySem.EqNone.ne_none_bool (fin_bl I q (by simp))
    | int j => obtain ⟨t', rfl⟩ := ry; exact PySem.EqNone.ne_none_int (fin_bl I q (by simp))
    | str j => obtain ⟨t', rfl⟩ := ry; exact PySem.EqNone.ne_none_str (fin_bl I q (by simp))
    | _ => exact absurd (show false = true from hs) Bool.false_ne_true
  | bl i =>
    cases rx
    cases y with
    | non => cases ry; exact PySem.EqNone.ne_bool_none (fin_bl I q (by simp))
    | bl j => cases ry; exact ne_bool (fin_bl I q (congrArg not dec_bl))
    | str j => obtain ⟨t', rfl⟩ := ry; exact PySem.EqMixed.ne_bool_str (fin_bl I q (by simp))
    | _ => exact absurd (show false = true from hs) Bool.false_ne_true
  | int i =>
    obtain ⟨t, rfl⟩ := rx
    cases y with
    | non => cases ry; exact PySem.EqNone.ne_int_none (fin_bl I q (by simp))
    | int j => obtain ⟨t', rfl⟩ := ry; exact ne_int (fin_bl I q (congrArg not dec_int))
    | str j => obtain ⟨t', rfl⟩ := ry; exact PySem.EqMixed.ne_int_str (fin_bl I q (by simp))
    | _ => exact absurd (show false = true from hs) Bool.false_ne_true
  | str i =>
    obtain ⟨t, rfl⟩ := rx
    cases y with
    | non => cases ry; exact PySem.EqNone.ne_str_none (fin_bl I q (by simp))
    | bl j => cases ry; exact PySem.EqMixed.ne_str_bool (fin_bl I q (by simp))
    | int j => obtain ⟨t', rfl⟩ := ry; exact PySem.EqMixed.ne_str_int (fin_bl I q (by simp))
    | str j => obtain ⟨t', rfl⟩ := ry; exact ne_str (fin_bl I q (congrArg not dec_str))
    | _ => exact absurd (show false = true from hs) Bool.false_ne_true
  | byt i =>
    obtain ⟨t, rfl⟩ := rx
    cases y with
    | byt j => obtain ⟨t', rfl⟩ := ry; exact PySem.W.ne_bytes (fin_bl I q (congrArg not dec_byt))
    | _ => exact absurd (show false = true from hs) Bool.false_ne_true
  | _ => cases y <;> exact absurd (show false = true from hs) Bool.false_ne_true
theorem op_lt : OpR X (compareOp .Lt) (rI0 fun i j => .bl (decide (i < j))) := opB0 fun _ _ _ _ _ _ _ q => lt_int q
theorem op_le : OpR X (compareOp .LtE) (rI0 fun i j => .bl (decide (i ≤ j))) := opB0 fun _ _ _ _ _ _ _ q => le_int q
theorem op_gt : OpR X (compareOp .Gt) (rI0 fun i j => .bl (decide (j < i))) := opB0 fun _ _ _ _ _ _ _ q => gt_int q
theorem op_ge : OpR X (compareOp .GtE) (rI0 fun i j => .bl (decide (j ≤ i))) := opB0 fun _ _ _ _ _ _ _ q => ge_int q
theorem nomark (b : Expr) {op : CmpOp} (h : op ≠ .In := by decide) (h2 : op ≠ .NotIn := by decide) : behindInMarks op b = false := by
  have e1 : (op == CmpOp.In) = false := by cases op <;> first | rfl | exact absurd rfl h
  have e2 : (op == CmpOp.NotIn) = false := by cases op <;> first | rfl | exact absurd rfl h2
  cases b <;> simp [behindInMarks, e1, e2]
theorem pe_cmpR {op : CmpOp} {r : R2} (ho : OpR X (compareOp op) r) (ha : PE X a ta) (hb : PE X b tb) (hm : behindInMarks op b = false) : PE X (.Compare a [op] [b] pos) (tOp r ta tb) := by
  intro pins s σ H Q I h
  exact wpAny_Compare1 (binT ha hb I h fun v u s2 x y H2 I2 rx ry q => ho pins s2 σ H2 x y v u Q I2 rx ry q) hm
def tTest (t : TE) : TT := fun σ H Q => t σ H fun x H' => ∃ k, x = .bl k ∧ Q k H'
theorem pt_cmpR {op : CmpOp} {r : R2} (ho : OpR X (compareOp op) r) (ha : PE X a ta) (hb : PE X b tb) (hm : behindInMarks op b = false) : PT X (.Compare a [op] [b] pos) (tTest (tOp r ta tb)) := by
  intro pins s σ H Q I h
  refine wpAny_isTrue_Compare1 (thn (ha pins s σ H _ I h) fun v s1 zz => PySem.ex5 zz fun x H1 I1 r1 q1 => thn (hb pins s1 σ H1 _ I1 q1) fun u s2 ⟨y, H2, I2, r2, q2⟩ =>
    thn (ho pins s2 σ H2 x y v u _ I2 r1 r2 q2) fun c s3 ⟨z, H3, I3, r3, k, e, q3⟩ => ?_) hm
  subst e
  cases r3
  exact wpAny_truthy_bool ⟨H3, I3, q3⟩
def tChain (r r' : R2) (ta tb tc : TE) : TE := fun σ H Q => ta σ H fun x H1 => tb σ H1 fun y H2 => r x y H2 fun z H3 => ∃ k, z = .bl k ∧
  (if k = true then tc σ H3 fun w' H4 => r' y w' H4 Q else Q (.bl false) H3)
theorem pe_chain {op op' : CmpOp} {r r' : R2} (ho : OpR X (compareOp op) r) (ho' : OpR X (compareOp op') r') (ha : PE X a ta) (hb : PE X b tb) (hc : PE X c tc)
    (hm : lastMarks [op, op'] [b, c] = false := by with_unfolding_all rfl) : PE X (.Compare a [op, op'] [b, c] pos) (tChain r r' ta tb tc) := by
  intro pins s σ H Q I h
  refine Compare_chain (thn (ha pins s σ H _ I h) fun v s1 zz => PySem.ex5 zz fun x H1 I1 r1 q1 => chain_link (thn (hb pins s1 σ H1 _ I1 q1) fun u s2 ⟨y, H2, I2, r2, q2⟩ =>
    thn (ho pins s2 σ H2 x y v u _ I2 r1 r2 q2) fun d s3 ⟨z, H3, I3, r3, k, e, q3⟩ => ?_)) hm
  subst e
  cases r3
  refine wpAny_truthy_bool ?_
  cases k with
  | false => exact ite_ff ⟨.bl false, H3, I3, rfl, q3⟩
  | true => exact ite_tt (chain_last (thn (hc pins s3 σ H3 _ I3 q3) fun w' s4 zz => PySem.ex5 zz fun z' H4 I4 r4 q4 => ho' pins s4 σ H4 y z' u w' Q I4 r2 r4 q4))
theorem line63 : (sizeLine : Nat) < 2 ^ 63 := by rw [sizeLine_eq]; decide
theorem vals1 {x : V} {us : List Value} (r : Vals [x] us) : ∃ u, us = [u] ∧ RelV x u := by
  cases r with
  | cons r1 r2 => cases r2; exact ⟨_, rfl, r1⟩
theorem vals2 {x y : V} {us : List Value} (r : Vals [x, y] us) : ∃ u w', us = [u, w'] ∧ RelV x u ∧ RelV y w' := by
  cases r with
  | cons r1 r2 =>
    cases r2 with
    | cons r3 r4 => cases r4; exact ⟨_, _, rfl, r1, r3⟩
theorem call_max2 (hc : X.calm = true) : CallR X (.builtin "max") (fun xs H Q => ∃ i j, xs = [.int i, .int j] ∧ Q (.int (if j > i then j else i)) H) := by
  intro pins s σ H xs us Q I r h
  obtain ⟨i, j, rfl, q⟩ := h
  obtain ⟨u, w', rfl, ⟨t, rfl⟩, ⟨t', rfl⟩⟩ := vals2 r
  refine max_two_ints (I.ok.hd hc) fun h' tk k => ⟨_, H, I.kept k, ?_, q⟩
  by_cases hj : j > i
  · rw [if_pos hj, if_pos hj]; exact ⟨_, rfl⟩
  · rw [if_neg hj, if_neg hj]; exact ⟨_, rfl⟩
theorem call_min2 (hc : X.calm = true) : CallR X (.builtin "min") (fun xs H Q => ∃ i j, xs = [.int i, .int j] ∧ Q (.int (if j < i then j else i)) H) := by
  intro pins s σ H xs us Q I r h
  obtain ⟨i, j, rfl, q⟩ := h
  obtain ⟨u, w', rfl, ⟨t, rfl⟩, ⟨t', rfl⟩⟩ := vals2 r
  refine min_two_ints (I.ok.hd hc) fun h' tk k => ⟨_, H, I.kept k, ?_, q⟩
  by_cases hj : j < i
  · rw [if_pos hj, if_pos hj]; exact ⟨_, rfl⟩
  · rw [if_neg hj, if_neg hj]; exact ⟨_, rfl⟩
end
end L2
namespace L2
open PySem PySem.Spec PyProof.Rows
structure ObjM (h : Heap) (x dx C : Addr) (mA : Str → Option Value) : Prop where
  obj : h.get? x = some (PySem.W.instObj C dx)
  ns : h.Ns1 dx mA
  ne : dx ≠ x
theorem lookIn_ns {h : Heap} {dx : Addr} {mA : Str → Option Value} (n : h.Ns1 dx mA) : ∃ od, h.get? dx = some od ∧ ∀ name, PySem.W.lookIn name od = some (mA name) := by
  obtain ⟨o, es, ep, ho, hd, hk, _, hm⟩ := n
  refine ⟨o, ho, fun name => ?_⟩
  have e := hm name
  unfold nsFind findBy at e
  rw [← Array.find?_toList] at e
  unfold PySem.W.lookIn
  rw [hd]
  dsimp only
  split
  · rename_i y q
    rw [q] at e
    exact congrArg some e
  · rename_i q
    rw [q] at e
    have a : es.toList.any (·.refKey) = false := by
      rw [List.any_eq_false]
      intro y hy
      obtain ⟨z, t, hkey⟩ := hk y (Array.mem_toList_iff.mp hy)
      simp [DictEntry.refKey, hkey]
    have a' : ¬ es.toList.any (·.refKey) = true := by rw [a]; exact Bool.false_ne_true
    rw [if_neg a']
    exact congrArg some e
theorem ObjM.look {h : Heap} {x dx C : Addr} {mA : Str → Option Value} (I : ObjM h x dx C mA) : ∃ od, PySem.W.InstAt h x (PySem.W.instObj C dx) C (some od) ∧ ∀ name, PySem.W.lookIn name od = some (mA name) :=
  let ⟨od, ho, hl⟩ := lookIn_ns I.ns
  ⟨od, ⟨I.obj, rfl, rfl, ho⟩, hl⟩
section
variable {prog : Program} {w : World} {A : Around} {E : Value → Shared → Prop} {s : Shared} {K : PySem.W.Frag} {x dx C f : Addr} {mA : Str → Option Value} {name : Str} {v : Value}
theorem get_map {expr : Bool} {Q : Value → Shared → Prop} (X : K.In s.heap) (I : ObjM s.heap x dx C mA) (hg : PySem.W.plainGet K C name = true) (hh : PySem.W.hasDictIn K C = true)
    (ha : PySem.W.findIn K (.ref C) name = some none) (hv : mA name = some v) (hv' : PySem.W.handedIn v = true) (h : Q v { s with toks := s.toks + 1 }) :
    wpAny (model prog w) A (getAttr (.ref x) name expr) Q E s := by
  obtain ⟨od, J, hl⟩ := I.look
  exact PySem.W.get_value X J (PySem.W.plainGet_of hg).1 (PySem.W.findObj_own hh ha rfl (by rw [hl, hv])) hv' h
theorem get_meth {pl : Sem Bool} {Q : Value × List Value → Shared → Prop} (X : K.In s.heap) (I : ObjM s.heap x dx C mA) (hg : PySem.W.plainGet K C name = true)
    (hf : PySem.W.findIn K (.ref C) name = some (some (.ref f))) (ht : PySem.W.isFn K (.ref f) = true) (hv : mA name = none) (h : Q (.ref f, [.ref x]) s) :
    wpAny (model prog w) A (getMethod (.ref x) name pl) Q E s := by
  obtain ⟨od, J, hl⟩ := I.look
  exact PySem.W.method_fn X J (PySem.W.plainGet_of hg).1 (PySem.W.plainGet_of hg).2 hf (beq_iff_eq.mp ht) (by show (PySem.W.lookIn name od).map (·.isSome) = some false; rw [hl, hv]; rfl) h
theorem set_map {ns : List Str} {Q : Unit → Shared → Prop} (X : K.In s.heap) (I : ObjM s.heap x dx C mA)
    (hs : PySem.W.findIn K (.ref C) "__setattr__" = some (some (.builtin "object.__setattr__"))) (hp : PySem.W.plainOver K C = true) (ht : PySem.W.takerIn K C name = some none) (hh : PySem.W.hasDictIn K C = true)
    (hw : PySem.Within mA ns) (hsz : ns.length ≤ sizeLine)
    (h : ∀ h', ObjM h' x dx C (fun y => if y = name then some v else mA y) → Heap.SameBut dx s.heap h' → Q () { s with heap := h', toks := s.toks + 2 }) :
    wpAny (model prog w) A (setAttr (.ref x) name v) Q E s := by
  obtain ⟨od, J, hl⟩ := I.look
  refine PySem.W.set_plain X J hs (PySem.W.osa_open (s := { s with toks := s.toks + 1 }) (r := none) X J hp ht fun b => ?_)
  obtain ⟨cd, hc, hd'⟩ := PySem.W.any_some hh
  have hx : s.heap.get? x = some ⟨.ref C, some dx, .plain, #[]⟩ := I.obj
  refine wpAny_bind (wpAny_pure (wpAny_bind (wpAny_bind (wpAny_loadPart hx (wpAny_bind (PySem.W.Looks.here (s := { s with toks := s.toks + 1 }) (PySem.W.looks_clsIn X hc) ?_))))))
  rw [hd']
  refine wpAny_pure (a := some dx) (wpAny_bind (wpAny_pure (wpAny_bind ?_)))
  refine wpAny_nsSet1 (s := { s with toks := s.toks + 1 }) I.ns fun h' hn2 hs2 => ?_
  obtain ⟨oD, esD, epD, hoD, hdD, hcD⟩ := hn2.count (PySem.Within.cons name v hw)
  refine wpAny_bind (wpAny_lookBehind hoD (by rw [hdD]; exact pastItsLine_dict (Nat.le_trans hcD (by rw [List.length_cons]; omega))) ?_)
  exact wpAny_pure (h _ ⟨(hs2.2 _ (Ne.symm I.ne)).trans I.obj, hn2, I.ne⟩ hs2)
theorem make_map {R : Result → Shared → Prop} {vs : List Value} {kw : List (Str × Value)} (X : K.In s.heap) (hm : PySem.W.makesIn K C = true)
    (hi : PySem.W.findIn K (.ref C) "__init__" = some (some (.ref f))) (hf : PySem.W.typeIn K (.ref f) = some (.type "function"))
    (h : codeAny (model prog w) (A.under (.builtin "type.__call__" ⟨.ref C :: vs, kw⟩)) (.call (.ref f) ⟨.ref (s.heap.objs.size + 1) :: vs, kw⟩) (PySem.W.InitBack (s.heap.objs.size + 1) R)
      { s with heap := (s.heap.push PySem.W.emptyDict).push (PySem.W.instObj C s.heap.objs.size) }) :
    codeAny (model prog w) A (.call (.ref C) ⟨vs, kw⟩) R s := by
  obtain ⟨hh, g, d, t, os⟩ := s
  exact PySem.W.make_core (PySem.W.makes_of X hm) (PySem.W.looks_findIn X hi) (fun self => PySem.W.bind_fn X self hf) (.inl rfl) h
end
def putF (f : Str) (v : V) : List (Str × V) → List (Str × V)
  | [] => [(f, v)]
  | (g, x) :: r => if g = f then (g, v) :: r else (g, x) :: putF f v r
theorem lookup_putF (f g : Str) (v : V) : ∀ fs : List (Str × V), (putF f v fs).lookup g = if g = f then some v else fs.lookup g
  | [] => by
    show List.lookup g [(f, v)] = _
    by_cases h : g = f
    · have hb : (g == f) = true := beq_iff_eq.mpr h
      simp only [List.lookup, hb, if_pos h]
    · have hb : (g == f) = false := beq_eq_false_iff_ne.mpr h
      simp only [List.lookup, hb, if_neg h]
  | (k, x) :: r => by
    have ih := lookup_putF f g v r
    rw [show putF f v ((k, x) :: r) = (if k = f then (k, v) :: r else (k, x) :: putF f v r) from rfl]
    by_cases hk : k = f
    · rw [if_pos hk]
      by_cases h : g = k
      · have hb : (g == k) = true := beq_iff_eq.mpr h
        simp only [List.lookup, hb, if_pos (h.trans hk)]
      · have hb : (g == k) = false := beq_eq_false_iff_ne.mpr h
        simp only [List.lookup, hb, if_neg (fun e : g = f => h (e.trans hk.symm))]
    · rw [if_neg hk]
      by_cases h : g = k
      · have hb : (g == k) = true := beq_iff_eq.mpr h
        simp only [List.lookup, hb, if_neg (fun e : g = f => hk (h.symm.trans e))]
      · have hb : (g == k) = false := beq_eq_false_iff_ne.mpr h
        simp only [List.lookup, hb]
        exact ih
theorem keys_putF (f : Str) (v : V) : ∀ fs : List (Str × V), f ∈ (putF f v fs).map (·.1) ∧ ∀ g, g ∈ fs.map (·.1) → g ∈ (putF f v fs).map (·.1)
  | [] => ⟨by simp [putF], fun g h => by simp at h⟩
  | (k, x) :: r => by
    obtain ⟨i1, i2⟩ := keys_putF f v r
    rw [show putF f v ((k, x) :: r) = (if k = f then (k, v) :: r else (k, x) :: putF f v r) from rfl]
    by_cases hk : k = f
    · rw [if_pos hk]
      subst hk
      exact ⟨by simp, fun g h => by simpa using h⟩
    · rw [if_neg hk]
      refine ⟨?_, fun g h => ?_⟩
      · rw [List.map_cons]
        exact List.mem_cons_of_mem _ i1
      · rw [List.map_cons] at h ⊢
        rcases List.mem_cons.mp h with e | e
        · exact List.mem_cons.mpr (.inl e)
        · exact List.mem_cons_of_mem _ (i2 g e)
theorem length_putF (f : Str) (v : V) : ∀ fs : List (Str × V), (putF f v fs).length ≤ fs.length + 1
  | [] => by simp [putF]
  | (k, x) :: r => by
    have ih := length_putF f v r
    rw [show putF f v ((k, x) :: r) = (if k = f then (k, v) :: r else (k, x) :: putF f v r) from rfl]
    by_cases hk : k = f
    · rw [if_pos hk, List.length_cons, List.length_cons]; omega
    · rw [if_neg hk, List.length_cons, List.length_cons]; omega
theorem RelO.some_of {v : V} {o : Option Value} (r : RelO (some v) o) : ∃ u, o = some u ∧ RelV v u := by
  cases o with
  | none => exact (show False from r).elim
  | some u => exact ⟨u, rfl, r⟩
theorem RelO.none_of {o : Option Value} (r : RelO none o) : o = none := by
  cases o with
  | none => rfl
  | some u => exact (show False from r).elim
theorem handed_of {v : V} {u : Value} (r : RelV v u) : PySem.W.handedIn u = true := by
  cases v with
  | non => cases (show u = Value.none from r); rfl
  | bl b => cases (show u = Value.bool b from r); rfl
  | int i => obtain ⟨t, e⟩ := (show ∃ t, u = Value.int i t from r); cases e; rfl
  | str x => obtain ⟨t, e⟩ := (show ∃ t, u = Value.str x t from r); cases e; rfl
  | byt b => obtain ⟨t, e⟩ := (show ∃ t, u = Value.bytes b t from r); cases e; rfl
  | flt b => obtain ⟨t, e⟩ := (show ∃ t, u = Value.float b t from r); cases e; rfl
  | ref a => cases (show u = Value.ref a from r); rfl
  | ty n => cases (show u = Value.type n from r); rfl
section
variable {P : Program} {w : World} {H H' : Hp} {h h' : Heap} {a C dx : Addr} {fs fs' : List (Str × V)}
theorem ins_get (hok : HOk P w H h) (e : H a = some (.ins C dx fs)) : ∃ mA, ObjM h a dx C mA ∧ (∀ f, RelO (fs.lookup f) (mA f)) ∧ PySem.Within mA (fs.map (·.1)) ∧ fs.length ≤ 1000 ∧ H dx = some (.own a) := by
  obtain ⟨d, z, ne, ob, mA, n, r, q⟩ := (show ObjOk P w H h a (.ins C dx fs) from hok a _ e)
  exact ⟨mA, ⟨ob, n, ne⟩, r, q, z, d⟩
end
structure Cls (K : PySem.W.Frag) (C : Addr) : Prop where
  pg : PySem.W.plainGet K C Str.empty = true
  hd : PySem.W.hasDictIn K C = true
  po : PySem.W.plainOver K C = true
  sa : PySem.W.findIn K (.ref C) "__setattr__" = some (some (.builtin "object.__setattr__"))
theorem Cls.get {K : PySem.W.Frag} {C : Addr} (c : Cls K C) (f : Str) : PySem.W.plainGet K C f = true := c.pg
def NoAttr (K : PySem.W.Frag) (C : Addr) (f : Str) : Prop := PySem.W.findIn K (.ref C) f = some none
theorem NoAttr.taker {K : PySem.W.Frag} {C : Addr} {f : Str} (n : NoAttr K C f) : PySem.W.takerIn K C f = some none := by
  unfold PySem.W.takerIn
  rw [show PySem.W.findIn K (.ref C) f = some none from n]
  rfl
structure Meth (K : PySem.W.Frag) (C : Addr) (m : Str) (f : Addr) : Prop where
  at_ : PySem.W.findIn K (.ref C) m = some (some (.ref f))
  fn : PySem.W.isFn K (.ref f) = true
  kp : PySem.W.keepIn K (.ref f) = true
section
variable {X : Cx} {pins : List (Addr × Obj)} {σ : St} {H : Hp} {s : Shared} {a C dx : Addr} {fs : List (Str × V)} {f : Str} {v : V} {A : Around} {E : Value → Shared → Prop}
theorem getattr_ok {b : Bool} {Q : Value → Shared → Prop} (I : Inv X pins σ H s) (e : H a = some (.ins C dx fs)) (c : Cls X.K C) (n : NoAttr X.K C f) (l : fs.lookup f = some v)
    (h : ∀ u s', Inv X pins σ H s' → RelV v u → Q u s') : wpAny (model X.prog X.w) A (getAttr (.ref a) f b) Q E s := by
  obtain ⟨mA, O, r, _, _, _⟩ := ins_get I.hok e
  obtain ⟨u, hu, ru⟩ := RelO.some_of (v := v) (o := mA f) (by rw [← l]; exact r f)
  exact get_map I.kIn O (c.get f) c.hd n hu (handed_of ru) (h u _ (I.tok _) ru)
theorem getmeth_ok {m : Str} {g : Addr} {pl : Sem Bool} {Q : Value × List Value → Shared → Prop} (I : Inv X pins σ H s) (e : H a = some (.ins C dx fs)) (c : Cls X.K C) (k : Meth X.K C m g) (l : fs.lookup m = none)
    (h : Q (.ref g, [.ref a]) s) : wpAny (model X.prog X.w) A (getMethod (.ref a) m pl) Q E s := by
  obtain ⟨mA, O, r, _, _, _⟩ := ins_get I.hok e
  have hn : mA m = none := RelO.none_of (by rw [← l]; exact r m)
  exact get_meth I.kIn O (c.get m) k.at_ k.fn hn h
theorem setattr_ok {y : V} {u : Value} {Q : Unit → Shared → Prop} (I : Inv X pins σ H s) (e : H a = some (.ins C dx fs)) (c : Cls X.K C) (n : NoAttr X.K C f) (hl : fs.length < 1000) (ry : RelV y u)
    (h : ∀ s', Inv X pins σ (upd H a (.ins C dx (putF f y fs))) s' → Q () s') : wpAny (model X.prog X.w) A (setAttr (.ref a) f u) Q E s := by
  obtain ⟨mA, O, r, wi, _, ho⟩ := ins_get I.hok e
  have hz : (fs.map (·.1)).length ≤ sizeLine := by rw [List.length_map, sizeLine_eq]; omega
  refine set_map I.kIn O c.sa c.po n.taker c.hd wi hz fun h' O' sb => h _ ?_
  have hd : ∃ o, h'.get? dx = some o := let ⟨o, _, _, e', _⟩ := O'.ns; ⟨o, e'⟩
  refine I.write (x := a) (e := dx) (by rw [e]; exact True.intro) (.inr ho) (fun b q hb z => (sb.2 b hb).trans z) hd ?_
  refine ⟨by rw [upd_ne O.ne]; exact ho, ?_, O.ne, O'.obj, _, O'.ns, fun g => ?_, fun g hg => ?_⟩
  · have := length_putF f y fs; omega
  · show RelO ((putF f y fs).lookup g) (if g = f then some u else mA g)
    rw [lookup_putF]
    by_cases q : g = f
    · rw [if_pos q, if_pos q]; exact ry
    · rw [if_neg q, if_neg q]; exact r g
  · by_cases q : g = f
    · rw [q]; exact (keys_putF f y fs).1
    · refine (keys_putF f y fs).2 g (wi g fun z => hg ?_)
      show (if g = f then some u else mA g) = none
      rw [if_neg q]; exact z
theorem Inv.made (I : Inv X pins σ H s) : Inv X pins σ (upd (upd H s.heap.objs.size (.own (s.heap.objs.size + 1))) (s.heap.objs.size + 1) (.ins C s.heap.objs.size []))
    { s with heap := (s.heap.push PySem.W.emptyDict).push (PySem.W.instObj C s.heap.objs.size) } := by
  have e1 : (s.heap.push PySem.W.emptyDict).get? s.heap.objs.size = some PySem.W.emptyDict := Heap.get?_push_size s.heap rfl
  have e2 : ((s.heap.push PySem.W.emptyDict).push (PySem.W.instObj C s.heap.objs.size)).get? (s.heap.objs.size + 1) = some (PySem.W.instObj C s.heap.objs.size) := by
    have := Heap.get?_push_size (s.heap.push PySem.W.emptyDict) (o := PySem.W.instObj C s.heap.objs.size) rfl
    rwa [Heap.size_push] at this
  have e3 : (s.heap.push PySem.W.emptyDict).Ns s.heap.objs.size (fun _ => none) := ⟨PySem.W.emptyDict, #[], _, e1, rfl, (fun e he => absurd he (by simp)), fun _ => rfl⟩
  have I1 := I.laid (a := s.heap.objs.size) (o := .own (s.heap.objs.size + 1)) (h' := s.heap.push PySem.W.emptyDict) (t' := s.toks) (fun b u q => Heap.get?_push_of_some _ q) (Nat.le_refl _) ⟨_, e1⟩
  refine I1.laid (a := s.heap.objs.size + 1) (o := .ins C s.heap.objs.size []) (t' := s.toks) (fun b u q => Heap.get?_push_of_some _ q) (Nat.le_of_eq (Heap.size_push _ _)) ?_
  have ne : s.heap.objs.size ≠ s.heap.objs.size + 1 := Nat.ne_of_lt (Nat.lt_succ_self _)
  refine ⟨by rw [upd_ne ne, upd_same], Nat.zero_le _, ne, e2, fun _ => none, (Heap.Ns1.of_empty e3).at fun o q => Heap.get?_push_of_some _ q, fun _ => True.intro, fun y hy => absurd rfl hy⟩
theorem attr_of {prog : Program} {w : World} {env : Env} {e : Expr} {f : Str} {pos : Pos} {s : Shared} {Q : Value → Shared → Prop} (hb : attributeBase e f env (eval e env) = eval e env)
    (h : wpAny (model prog w) A (eval e env) (fun o s₁ => wpAny (model prog w) A (getAttr o f true) Q E s₁) E s) : wpAny (model prog w) A (eval (.Attribute e f pos) env) Q E s :=
  Attribute_any_ h (by rw [arm_eval_Attribute, hb])
end
def tFld (K : PySem.W.Frag) (ta : TE) (f : Str) : TE := fun σ H Q => ta σ H fun x H1 => ∃ a C dx fs v, x = .ref a ∧ H1 a = some (.ins C dx fs) ∧ Cls K C ∧ NoAttr K C f ∧ fs.lookup f = some v ∧ Q v H1
def sFld (K : PySem.W.Frag) (ta tv : TE) (f : Str) : TS := fun D σ H => tv σ H fun y H1 => ta σ H1 fun x H2 => ∃ a C dx fs, x = .ref a ∧ H2 a = some (.ins C dx fs) ∧ Cls K C ∧ NoAttr K C f ∧ fs.length < 1000 ∧
  D.nx σ (upd H2 a (.ins C dx (putF f y fs)))
section
variable {X : Cx} {o e value : Expr} {f : Str} {pos pos' tpos : Pos} {ta tv : TE}
theorem pe_fld (he : PE X e ta) (hb : attributeBase e f X.env (eval e X.env) = eval e X.env) : PE X (.Attribute e f pos) (tFld X.K ta f) := by
  intro pins s σ H Q I h
  refine attr_of hb (thn (he pins s σ H _ I h) fun u s1 zz => ?_)
  obtain ⟨x, H1, I1, rx, a, C, dx, fs, v, ex, ea, c, n, l, q⟩ := zz
  subst ex
  obtain rfl : u = Value.ref a := rx
  exact getattr_ok I1 ea c n l fun u' s2 I2 ru => ⟨v, H1, I2, ru, q⟩
theorem ps_fld (ha : PE X o ta) (hv : PE X value tv) (hs : swapsWith value (some (.Attribute o f pos')) pos.line X.env = pure false) : PS X (.Assign [.Attribute o f pos'] value pos) (sFld X.K ta tv f) := by
  intro pins s σ H D I h
  refine plainObj_wpAny_Assign_Attribute (thn (hv pins s σ H _ I h) fun u s1 zz => PySem.ex5 zz fun y H1 I1 ry q => thn (ha pins s1 σ H1 _ I1 q) fun ov s2 zz => ?_) hs
  obtain ⟨x, H2, I2, rx, a, C, dx, fs, ex, ea, c, n, l, q2⟩ := zz
  subst ex
  obtain rfl : ov = Value.ref a := rx
  exact setattr_ok I2 ea c n l ry fun s3 I3 => ⟨σ, _, I3, q2⟩
end
section
variable {X : Cx} {pins : List (Addr × Obj)} {σ : St} {H : Hp} {s : Shared} {A : Around} {E : Value → Shared → Prop} {Q : Value → Shared → Prop} {c : Value} {b : Bool}
end
end L2
namespace L2
open PySem PySem.Spec PyProof.Rows
structure Room (k : Nat) (A : Around) : Prop where
  hd : A.handled = none
  dp : A.depth + 3 * k + 5 < recursionLimit
  un : A.units + 16 * k + 200 < cLine
theorem Room.mono {j k : Nat} {A : Around} (r : Room k A) (h : j ≤ k) : Room j A := ⟨r.hd, by have := r.dp; omega, by have := r.un; omega⟩
theorem Room.deeper {k : Nat} {A : Around} (r : Room (k + 1) A) (env : Env) : Room k (A.deeper env) :=
  ⟨r.hd, by have := r.dp; show A.depth + 1 + 3 * k + 5 < _; omega, by have := r.un; show A.units + 3 + 16 * k + 200 < _; omega⟩
theorem make_depth {A : Around} {C : Addr} {us : List Value} {kw : List (Str × Value)} : (A.under (.builtin "type.__call__" ⟨.ref C :: us, kw⟩)).depth = A.depth + 1 := by
  first | rfl | simp [Around.under, Code.weight, Code.isCreation, Code.isGuard, Code.isCaller, Code.frames, Code.isFrame, guardIds]
theorem make_units {A : Around} {C : Addr} {us : List Value} {kw : List (Str × Value)} : (A.under (.builtin "type.__call__" ⟨.ref C :: us, kw⟩)).units = A.units + 1 := by
  first | rfl | simp [Around.under, Code.cUnits, Code.frames, Code.isFrame]
theorem Room.make {k : Nat} {A : Around} (r : Room (k + 1) A) (C : Addr) (us : List Value) (kw : List (Str × Value)) : Room k (A.under (.builtin "type.__call__" ⟨.ref C :: us, kw⟩)) :=
  ⟨r.hd, by have := r.dp; rw [make_depth]; omega, by have := r.un; rw [make_units]; omega⟩
theorem Room.depth {k : Nat} {A : Around} (r : Room k A) : A.depth < recursionLimit := by have := r.dp; omega
def tNil : TA := fun _ H Q => Q [] H
def tCons (ta : TE) (tr : TA) : TA := fun σ H Q => ta σ H fun x H1 => tr σ H1 fun xs H2 => Q (x :: xs) H2
section
variable {X : Cx} {e : Expr} {es : List Expr} {te : TE} {t : TA} {pos : Pos}
theorem pa_nil : PA X [] tNil := fun _ _ _ _ H Q I h => Calls.spliced_nil ⟨[], H, I, .nil, h⟩
theorem pa_cons (ha : PE X e te) (hr : PA X es t) (hs : starEach (e :: es) X.env = (false, eval e X.env) :: starEach es X.env := by rfl) : PA X (e :: es) (tCons te t) := by
  intro pos pins s σ H Q I h
  rw [hs]
  show wpAny _ _ (spliced ((false, eval e X.env) :: backTo pos (starEach es X.env))) _ _ s
  refine Calls.spliced_cons (thn (ha pins s σ H _ I h) fun u s1 zz => ?_)
  obtain ⟨x, H1, I1, r1, q1⟩ := zz
  exact thn (hr pos pins s1 σ H1 _ I1 q1) fun us s2 zz => PySem.ex5 zz fun xs H2 I2 r2 q2 => ⟨x :: xs, H2, I2, .cons r1 r2, q2⟩
def tLst (t : TA) : TE := fun σ H Q => t σ H fun xs H1 => xs.length ≤ sizeLine ∧ ∀ p, H1 p = none → Q (.ref p) (upd H1 p (.lst xs))
theorem pe_lst (h : PA X es t) : PE X (.List es pos) (tLst t) := by
  intro pins s σ H Q I hq
  refine wpAny_List_spliced (thn (h pos pins s σ H _ I hq) fun us s1 ⟨xs, H1, I1, r, z, q⟩ => ⟨by rw [← r.length]; exact z, ?_⟩)
  have hf : H1 s1.heap.objs.size = none := I1.hok.fresh (Nat.le_refl _)
  refine ⟨.ref s1.heap.objs.size, upd H1 s1.heap.objs.size (.lst xs), I1.laid (t' := s1.toks) (fun b u e => Heap.get?_push_of_some _ e) (Nat.le_refl _) ?_, rfl, q _ hf⟩
  exact ⟨z, us, 0, r, Heap.get?_push_size _ rfl⟩
end
abbrev Sp := List V → Hp → VK → XK → Prop
abbrev CXT := List Env → Hp → Shared → XK → Value → Shared → Prop
structure Env0 (P : Program) (w : World) (K : PySem.W.Frag) (mg : Str → Option Value) (base : Heap) (A : Around) (outer : List Env) (s : Shared) (H : Hp) : Prop where
  frames : A.frames = some outer
  mod : Mod K mg base
  bs : ∀ b o, base.get? b = some o → s.heap.get? b = some o ∧ H b = none
  bsz : base.objs.size ≤ s.heap.objs.size
  funs : s.heap.FunFrames base outer
  frf : ∀ b ∈ frs outer, H b = none
  hok : HOk P w H s.heap
  bare : AllBare s.gens
def CE (outer : List Env) (P : Program) (w : World) (H : Hp) (s : Shared) (Q : VK) (u : Value) (s' : Shared) : Prop :=
  ∃ v H', s'.os = s.os ∧ AllBare s'.gens ∧ Un (frs outer) [] H H' s.heap s'.heap ∧ HOk P w H' s'.heap ∧ RelV v u ∧ Q v H'
def CR (CX : CXT) (outer : List Env) (P : Program) (w : World) (H : Hp) (s : Shared) (Q : VK) (E : XK) (r : Result) (s' : Shared) : Prop :=
  match r with
  | .ok (.ret u) => CE outer P w H s Q u s'
  | .ok _ => False
  | .error e => CX outer H s E e s'
structure FnOk (P : Program) (w : World) (K : PySem.W.Frag) (mg : Str → Option Value) (base : Heap) (CX : CXT) (k : Nat) (f : Addr) (fd : FuncData) (ps : List Str) (sp : Sp) : Prop where
  len : ∀ vs H Q E, sp vs H Q E → vs.length = ps.length
  run : ∀ (A : Around) (outer : List Env) (s : Shared) (H : Hp) (args : Args) (us : List Value) (vs : List V) (Q : VK) (E : XK), Room k A → Env0 P w K mg base A outer s H → BindsTo s fd args (ps.zip us) → Vals vs us → sp vs H Q E →
    codeAny (model P w) A (.call (.ref f) args) (CR CX outer P w H s Q E) s
theorem FnOk.mono {P : Program} {w : World} {K : PySem.W.Frag} {mg : Str → Option Value} {base : Heap} {CX : CXT} {j k : Nat} {f : Addr} {fd : FuncData} {ps : List Str} {sp : Sp} (F : FnOk P w K mg base CX j f fd ps sp) (h : j ≤ k) :
    FnOk P w K mg base CX k f fd ps sp := ⟨F.len, fun A outer s H args us vs Q E hr => F.run A outer s H args us vs Q E (hr.mono h)⟩
theorem Env0.make {P : Program} {w : World} {K : PySem.W.Frag} {mg : Str → Option Value} {base : Heap} {A : Around} {outer : List Env} {s : Shared} {H : Hp} (e : Env0 P w K mg base A outer s H) (C : Addr) (us : List Value) (kw : List (Str × Value)) :
    Env0 P w K mg base (A.under (.builtin "type.__call__" ⟨.ref C :: us, kw⟩)) outer s H := ⟨by first | exact e.frames | (simpa [Around.under, Code.envs, Code.isFrame, pushEnvs] using e.frames), e.mod, e.bs, e.bsz, e.funs, e.frf, e.hok, e.bare⟩
section
variable {X : Cx} {pins : List (Addr × Obj)} {σ : St} {H : Hp} {s s' : Shared}
theorem Inv.env0 (I : Inv X pins σ H s) : Env0 X.prog X.w X.K X.mg X.base X.A X.stack s H :=
  ⟨I.ok.frames, I.ok.mod, I.bs, Nat.le_trans I.ok.bsz I.sz, I.stack, I.stkFree, I.hok, I.bare⟩
theorem Inv.after {Q : VK} {u : Value} (I : Inv X pins σ H s) (h : CE X.stack X.prog X.w H s Q u s') : EP X pins σ Q u s' := by
  obtain ⟨v, H', os, bare, un, hok, r, q⟩ := h
  obtain ⟨hh, g, d, t, os'⟩ := s'
  obtain rfl : os' = s.os := os
  exact ⟨v, H', I.call (h' := hh) (g' := g) (d' := d) (t' := t) (ch := []) un hok bare (fun b z => absurd z (by simp)), r, q⟩
end
def tCall (sp : Sp) (dvs : List V) (E : XK) (t : TA) : TE := fun σ H Q => t σ H fun vs H1 => sp (vs ++ dvs) H1 Q E
def tMeth (C : Addr) (m : Str) (sp : Sp) (dvs : List V) (E : XK) (ta : TE) (t : TA) : TE := fun σ H Q => ta σ H fun x H1 => ∃ a dx fs, x = .ref a ∧ H1 a = some (.ins C dx fs) ∧ fs.lookup m = none ∧
  t σ H1 fun vs H2 => sp (x :: (vs ++ dvs)) H2 Q E
def tMake (C : Addr) (sp : Sp) (dvs : List V) (E : XK) (t : TA) : TE := fun σ H Q => t σ H fun vs H1 => ∀ x dx, H1 x = none → H1 dx = none → dx ≠ x →
  sp (.ref x :: (vs ++ dvs)) (upd (upd H1 dx (.own x)) x (.ins C dx [])) (fun v H2 => v = .non ∧ Q (.ref x) H2) E
def Binds (K : PySem.W.Frag) (fd : FuncData) (ps : List Str) (ds : List Value) : Prop :=
  ∀ (s : Shared) (us : List Value), K.In s.heap → (us ++ ds).length = ps.length → BindsTo s fd ⟨us, []⟩ (ps.zip (us ++ ds))
theorem Binds.all {K : PySem.W.Frag} {fd : FuncData} {ps : List Str} (h : ∀ us : List Value, us.length = ps.length → bindArgs fd ⟨us, []⟩ = pure (ps.zip us)) : Binds K fd ps [] := fun s us _ hl => by
  rw [List.append_nil] at hl ⊢
  exact .of_eq (h us hl)
def Passes (CX : CXT) (X : Cx) (E : XK) : Prop := ∀ (pins : List (Addr × Obj)) (σ : St) (H : Hp) (s : Shared) (e : Value) (s' : Shared), Inv X pins σ H s → CX X.stack H s E e s' → X.xe e s'
section
variable {X : Cx} {CX : CXT} {k : Nat} {f C : Addr} {fd : FuncData} {ps : List Str} {sp : Sp} {dvs : List V} {ds : List Value} {E : XK} {x m : Str} {p pos apos : Pos} {e o : Expr} {es : List Expr} {ta : TE} {t : TA}
theorem run_fn {pins : List (Addr × Obj)} {σ : St} {H : Hp} {s : Shared} {Q : VK} {us : List Value} {vs : List V} (F : FnOk X.prog X.w X.K X.mg X.base CX k f fd ps sp) (hr : Room k X.A) (hb : Binds X.K fd ps ds) (hd : Vals dvs ds) (hx : Passes CX X E)
    (I : Inv X pins σ H s) (r : Vals vs us) (h : sp (vs ++ dvs) H Q E) : wpAny (model X.prog X.w) X.A (call (.ref f) us) (EP X pins σ Q) X.xe s := by
  have r2 : Vals (vs ++ dvs) (us ++ ds) := r.append hd
  have hl : (us ++ ds).length = ps.length := by rw [← r2.length]; exact F.len _ _ _ _ h
  refine wpAny_call (codeAny_mono (F.run X.A X.stack s H ⟨us, []⟩ (us ++ ds) (vs ++ dvs) Q E hr I.env0 (hb s us I.kIn hl) r2 h) fun r s' hq => ?_)
  cases r with
  | error e => exact hx pins σ H s e s' I hq
  | ok fl =>
    cases fl with
    | ret u => exact I.after hq
    | next => exact False.elim hq
    | brk => exact False.elim hq
    | cont => exact False.elim hq
theorem pe_call (F : FnOk X.prog X.w X.K X.mg X.base CX k f fd ps sp) (hr : Room k X.A) (hg : Gl X x) (hm : X.mg x = some (.ref f)) (hk : PySem.W.keepIn X.K (.ref f) = true) (hb : Binds X.K fd ps ds) (hd : Vals dvs ds) (hx : Passes CX X E)
    (ha : PA X (e :: es) t) (hdb : (x == ("__debug__" : Str)) = false := by decide) (he : starEach (e :: es) X.env = (false, eval e X.env) :: starEach es X.env := by rfl) (hpl : (backTo pos (starEach es X.env)).any (·.1) = false := by rfl) :
    PE X (.Call (.Name x p) (e :: es) [] pos) (tCall sp dvs E t) := by
  intro pins s σ H Q I h
  refine wpAny_Call_Name_kw (ld_glob I hg hm ?_ hdb)
  refine PySem.W.callWith_K (h₀ := X.base) I.ok.mod.kin hk (thn (ha pos pins s σ H _ I h) fun us s1 zz => PySem.ex5 zz fun vs H1 I1 r q => ⟨I1.kIn, ?_⟩) he hpl
  exact run_fn F hr hb hd hx I1 r q
theorem pe_meth {pl : Sem Bool} (he : PE X o ta) (c : Cls X.K C) (hm : Meth X.K C m f) (F : FnOk X.prog X.w X.K X.mg X.base CX k f fd ps sp) (hr : Room k X.A) (hb : Binds X.K fd ps ds) (hd : Vals dvs ds) (hx : Passes CX X E) (ha : PA X (e :: es) t)
    (hst : starEach (e :: es) X.env = (false, eval e X.env) :: starEach es X.env := by rfl) (hpl : (backTo pos (starEach es X.env)).any (·.1) = false := by rfl)
    (ht : eval (.Call (.Attribute o m apos) (e :: es) [] pos) X.env = (do
      let ov ← eval o X.env
      standAt apos.atName
      let (f, first) ← holding [ov] (getMethod ov m pl)
      callWith pos f first (backTo pos (starEach (e :: es) X.env)) (backToKw pos (keywordEach [] X.env))) := by rfl) :
    PE X (.Call (.Attribute o m apos) (e :: es) [] pos) (tMeth C m sp dvs E ta t) := by
  intro pins s σ H Q I h
  refine PySem.W.methodCall_KW (pl := pl) (thn (he pins s σ H _ I h) fun u s1 zz => ?_) ht
  obtain ⟨x, H1, I1, rx, a, dx, fs, ex, ea, l, q⟩ := zz
  subst ex
  obtain rfl : u = Value.ref a := rx
  refine getmeth_ok I1 ea c hm l ?_
  refine PySem.W.callWith_K (first := [.ref a]) (h₀ := X.base) I.ok.mod.kin hm.kp (thn (ha pos pins s1 σ H1 _ I1 q) fun us s2 zz => PySem.ex5 zz fun vs H2 I2 r q2 => ⟨I2.kIn, ?_⟩) hst hpl
  exact run_fn (us := .ref a :: us) (vs := .ref a :: vs) F hr hb hd hx I2 (.cons rfl r) q2
theorem pe_meth0 {pl : Sem Bool} (he : PE X o ta) (c : Cls X.K C) (hm : Meth X.K C m f) (F : FnOk X.prog X.w X.K X.mg X.base CX k f fd ps sp) (hr : Room k X.A) (hb : Binds X.K fd ps ds) (hd : Vals dvs ds) (hx : Passes CX X E)
    (ht : eval (.Call (.Attribute o m apos) [] [] pos) X.env = (do
      let ov ← eval o X.env
      standAt apos.atName
      let (f, first) ← holding [ov] (getMethod ov m pl)
      callWith pos f first (backTo pos (starEach [] X.env)) (backToKw pos (keywordEach [] X.env))) := by rfl) :
    PE X (.Call (.Attribute o m apos) [] [] pos) (tMeth C m sp dvs E ta tNil) := by
  intro pins s σ H Q I h
  refine PySem.W.methodCall_KW (pl := pl) (thn (he pins s σ H _ I h) fun u s1 zz => ?_) ht
  obtain ⟨x, H1, I1, rx, a, dx, fs, ex, ea, l, q⟩ := zz
  subst ex
  obtain rfl : u = Value.ref a := rx
  refine getmeth_ok I1 ea c hm l ?_
  exact PySem.W.callWith_K0 (first := [.ref a]) I1.kIn hm.kp (run_fn (us := [.ref a]) (vs := [.ref a]) F hr hb hd hx I1 (.cons rfl .nil) q)
structure Mk (K : PySem.W.Frag) (C f : Addr) : Prop where
  makes : PySem.W.makesIn K C = true
  init : PySem.W.findIn K (.ref C) "__init__" = some (some (.ref f))
  fn : PySem.W.isFn K (.ref f) = true
  kp : PySem.W.keepIn K (.ref C) = true
theorem run_make {pins : List (Addr × Obj)} {σ : St} {H : Hp} {s : Shared} {Q : VK} {us : List Value} {vs : List V} (M : Mk X.K C f) (F : FnOk X.prog X.w X.K X.mg X.base CX k f fd ps sp) (hr : Room (k + 1) X.A) (hb : Binds X.K fd ps ds) (hd : Vals dvs ds)
    (hx : Passes CX X E) (I : Inv X pins σ H s) (r : Vals vs us)
    (h : ∀ x dx, H x = none → H dx = none → dx ≠ x → sp (.ref x :: (vs ++ dvs)) (upd (upd H dx (.own x)) x (.ins C dx [])) (fun v H2 => v = .non ∧ Q (.ref x) H2) E) :
    wpAny (model X.prog X.w) X.A (call (.ref C) us) (EP X pins σ Q) X.xe s := by
  have hq := h (s.heap.objs.size + 1) s.heap.objs.size (I.hok.fresh (Nat.le_succ _)) (I.hok.fresh (Nat.le_refl _)) (Nat.ne_of_lt (Nat.lt_succ_self _))
  have I2 := Inv.made (C := C) I
  have r2 : Vals (V.ref (s.heap.objs.size + 1) :: (vs ++ dvs)) (Value.ref (s.heap.objs.size + 1) :: (us ++ ds)) := .cons rfl (r.append hd)
  have hl : (Value.ref (s.heap.objs.size + 1) :: us ++ ds).length = ps.length := by
    have e := r2.length
    rw [F.len _ _ _ _ hq] at e
    exact e.symm
  refine wpAny_call (make_map (f := f) I.kIn M.makes M.init (beq_iff_eq.mp M.fn) (codeAny_mono (F.run _ X.stack _ _ ⟨Value.ref (s.heap.objs.size + 1) :: us, []⟩ (Value.ref (s.heap.objs.size + 1) :: (us ++ ds)) _ _ E (hr.make C us [])
    (I2.env0.make C us []) (hb _ (Value.ref (s.heap.objs.size + 1) :: us) I2.kIn hl) r2 hq) fun r s' hq' => ?_))
  cases r with
  | error e => exact hx pins σ _ _ e s' I2 hq'
  | ok fl =>
    cases fl with
    | ret u =>
      obtain ⟨v, H', I3, rv, ev, q3⟩ := I2.after hq'
      subst ev
      exact ⟨rv, ⟨V.ref (s.heap.objs.size + 1), H', I3, rfl, q3⟩⟩
    | next => exact False.elim hq'
    | brk => exact False.elim hq'
    | cont => exact False.elim hq'
theorem pe_make (M : Mk X.K C f) (F : FnOk X.prog X.w X.K X.mg X.base CX k f fd ps sp) (hr : Room (k + 1) X.A) (hg : Gl X x) (hm : X.mg x = some (.ref C)) (hb : Binds X.K fd ps ds) (hd : Vals dvs ds) (hx : Passes CX X E)
    (ha : PA X (e :: es) t) (hdb : (x == ("__debug__" : Str)) = false := by decide) (he : starEach (e :: es) X.env = (false, eval e X.env) :: starEach es X.env := by rfl) (hpl : (backTo pos (starEach es X.env)).any (·.1) = false := by rfl) :
    PE X (.Call (.Name x p) (e :: es) [] pos) (tMake C sp dvs E t) := by
  intro pins s σ H Q I h
  refine wpAny_Call_Name_kw (ld_glob I hg hm ?_ hdb)
  refine PySem.W.callWith_K (h₀ := X.base) I.ok.mod.kin M.kp (thn (ha pos pins s σ H _ I h) fun us s1 zz => PySem.ex5 zz fun vs H1 I1 r q => ⟨I1.kIn, ?_⟩) he hpl
  exact run_make M F hr hb hd hx I1 r q
theorem pe_make0 (M : Mk X.K C f) (F : FnOk X.prog X.w X.K X.mg X.base CX k f fd ps sp) (hr : Room (k + 1) X.A) (hg : Gl X x) (hm : X.mg x = some (.ref C)) (hb : Binds X.K fd ps ds) (hd : Vals dvs ds) (hx : Passes CX X E)
    (hdb : (x == ("__debug__" : Str)) = false := by decide) : PE X (.Call (.Name x p) [] [] pos) (tMake C sp dvs E tNil) := by
  intro pins s σ H Q I h
  refine wpAny_Call_Name_kw (ld_glob I hg hm ?_ hdb)
  exact PySem.W.callWith_K0 I.kIn M.kp (run_make (us := []) M F hr hb hd hx I .nil h)
end
section
variable {X : Cx} {CX : CXT} {k : Nat} {f C : Addr} {fd : FuncData} {ps ks : List Str} {sp : Sp} {E : XK} {x m : Str} {p pos apos kpos : Pos} {e o : Expr} {es : List Expr} {kws : List Keyword} {te ta : TE} {t tk : TA} {nm : Option Str}
variable {g : List Value → List Value → List Value} {gV : List V → List V → List V}
end
structure FnScope (N P : List Str) (sc : Scope) : Prop where
  kind : sc.kind = .function
  co : sc.isCoroutine = false
  gen : sc.isGenerator = false
  nd : N.Nodup
  pre : N.take P.length = P
  par : ∀ x ∈ P, sc.names.lookup x = some .local ∨ sc.names.lookup x = some .cell
  nofree : ∀ y ∈ sc.names, y.2 ≠ .free
theorem bindL_out {kindOf : Str → Option NameKind} {x : Str} : ∀ {binds : List (Str × Value)} {m : Str → Option Value}, (∀ v, (x, v) ∉ binds) → bindL kindOf binds m x = m x
  | [], _, _ => rfl
  | (n, v) :: r, m, h => by
    unfold bindL
    rw [bindL_out fun w hw => h w (List.mem_cons_of_mem _ hw)]
    split
    · have : x ≠ n := by rintro rfl; exact h v List.mem_cons_self
      simp [this]
    · rfl
theorem bindC_out {kindOf : Str → Option NameKind} {x : Str} : ∀ {binds : List (Str × Value)} {m : Str → Option Value}, (∀ v, (x, v) ∉ binds) → bindC kindOf binds m x = m x
  | [], _, _ => rfl
  | (n, v) :: r, m, h => by
    unfold bindC
    rw [bindC_out fun w hw => h w (List.mem_cons_of_mem _ hw)]
    split
    · rfl
    · have : x ≠ n := by rintro rfl; exact h v List.mem_cons_self
      simp [this]
theorem bindL_get {kindOf : Str → Option NameKind} {x : Str} {v : Value} : ∀ {P : List Str} {vs : List Value} {i : Nat} {m : Str → Option Value}, P.Nodup → P[i]? = some x → vs[i]? = some v → kindOf x = some .local →
    bindL kindOf (P.zip vs) m x = some v
  | [], _, _, _, _, h, _, _ => by simp at h
  | _ :: _, [], _, _, _, _, h, _ => by simp at h
  | p :: P, w :: vs, 0, m, nd, h1, h2, hk => by
    simp at h1 h2; subst h1; subst h2
    show bindL kindOf ((p, w) :: P.zip vs) m p = _
    unfold bindL
    rw [bindL_out fun v hv => (List.nodup_cons.mp nd).1 (List.of_mem_zip hv).1, if_pos hk]
    simp
  | p :: P, w :: vs, i + 1, m, nd, h1, h2, hk => by
    show bindL kindOf ((p, w) :: P.zip vs) m x = _
    unfold bindL
    exact bindL_get (i := i) (List.nodup_cons.mp nd).2 (by simpa using h1) (by simpa using h2) hk
theorem bindC_get {kindOf : Str → Option NameKind} {x : Str} {v : Value} : ∀ {P : List Str} {vs : List Value} {i : Nat} {m : Str → Option Value}, P.Nodup → P[i]? = some x → vs[i]? = some v → kindOf x ≠ some .local →
    bindC kindOf (P.zip vs) m x = some v
  | [], _, _, _, _, h, _, _ => by simp at h
  | _ :: _, [], _, _, _, _, h, _ => by simp at h
  | p :: P, w :: vs, 0, m, nd, h1, h2, hk => by
    simp at h1 h2; subst h1; subst h2
    show bindC kindOf ((p, w) :: P.zip vs) m p = _
    unfold bindC
    rw [bindC_out fun v hv => (List.nodup_cons.mp nd).1 (List.of_mem_zip hv).1, if_neg hk]
    simp
  | p :: P, w :: vs, i + 1, m, nd, h1, h2, hk => by
    show bindC kindOf ((p, w) :: P.zip vs) m x = _
    unfold bindC
    exact bindC_get (i := i) (List.nodup_cons.mp nd).2 (by simpa using h1) (by simpa using h2) hk
def start (N : List Str) (vs : List V) : St := vs.map some ++ List.replicate (N.length - vs.length) none
def cxOf (CX : CXT) (P : Program) (w : World) (K : PySem.W.Frag) (mg : Str → Option Value) (base : Heap) (N : List Str) (qual : Str) (scope : Scope) (f : Addr) (cd : Value) (A : Around) (outer : List Env) (s : Shared) (H : Hp) (E : XK) : Cx where
  prog := P
  w := w
  K := K
  mg := mg
  base := base
  A := A.deeper (envOfC qual scope s.heap.objs.size f cd)
  N := N
  s_0 := s
  H_0 := H
  env := envOfC qual scope s.heap.objs.size f cd
  outer := outer
  stack := envOfC qual scope s.heap.objs.size f cd :: outer
  ex := []
  calm := true
  fn := fun _ => true
  pn := []
  xe := fun e s' => wpAny (model P w) (A.deeper (envOfC qual scope s.heap.objs.size f cd)) (leaving (envOfC qual scope s.heap.objs.size f cd) e) (fun _ s'' => CX outer H s E e s'') (fun e' s'' => CX outer H s E e' s'') s'
theorem cell_has {sc : Scope} {n : Nat} {x : Str} (h : sc.names.lookup x = some .cell) : ∃ c, (cellsFrom n sc.names []).lookup x = some c := by
  have q := PySem.W.cellsFrom_some sc.names n [] (.inl h)
  exact Option.isSome_iff_exists.mp q
theorem inv_start {CX : CXT} {P : Program} {w : World} {K : PySem.W.Frag} {mg : Str → Option Value} {base : Heap} {N ps : List Str} {qual : Str} {scope : Scope} {f : Addr} {cd : Value} {A : Around} {outer : List Env} {s s1 : Shared} {H : Hp} {E : XK} {us : List Value} {vs : List V}
    (S : FnScope N ps scope) (hd : A.handled = none) (e0 : Env0 P w K mg base A outer s H) (hl : vs.length = ps.length) (r : Vals vs us)
    (x : InCallC s s.heap.objs.size (bindL (envOfC qual scope s.heap.objs.size f cd).kindOf (ps.zip us) fun _ => none) (cellsFrom (s.heap.objs.size + 1) scope.names []) (bindC (envOfC qual scope s.heap.objs.size f cd).kindOf (ps.zip us) fun _ => none) s1) :
    Inv (cxOf CX P w K mg base N qual scope f cd A outer s H E) [] (start N vs) H s1 := by
  have hpl : ps.length ≤ N.length := by have := congrArg List.length S.pre; rw [List.length_take] at this; omega
  obtain ⟨h1, tk, rfl, hk⟩ := x.done
  have noA : ∀ b : Addr, b ∉ (cxOf CX P w K mg base N qual scope f cd A outer s H E).ex := fun b z => absurd (show b ∈ ([] : List Addr) from z) (by simp)
  refine ⟨⟨e0.mod, S.kind, rfl, rfl, Nat.le_refl _, fun y z c h1 h2 => ?_, fun y hy => ?_, fun y c _ h => ?_, fun _ => hd, Around.frames_deeper e0.frames, .inr ⟨rfl, rfl⟩, fun b z => absurd z (noA b), e0.bs, e0.bsz, fun b _ _ => noA b, fun b z => absurd z (noA b), e0.funs, e0.frf⟩,
    rfl, e0.bare, Un.kept hk, ⟨_, x.toInCall.ns, fun i y v h1 h2 h3 => ?_⟩, fun y c h => ⟨_, x.cell y c h⟩, e0.hok.fresh (Nat.le_refl _), fun y c h => ?_, fun p hp => absurd (show p ∈ ([] : List (Addr × Obj)) from hp) (by simp), e0.hok.kept hk, ?_⟩
  · exact name_of_addr x.apart (PySem.mem_of_lookup h1) (PySem.mem_of_lookup h2)
  · have hy : scope.names.lookup y = some .cell ∨ scope.names.lookup y = some .free := hy
    rcases hy with hy | hy
    · exact cell_has hy
    · exact absurd rfl (S.nofree _ (PySem.mem_of_lookup hy))
  · exact Nat.le_of_lt (x.above y c (PySem.mem_of_lookup h))
  · have hi : i < vs.length := by
      unfold start at h2
      by_cases hi : i < vs.length
      · exact hi
      · rw [List.getElem?_append_right (by simpa using hi)] at h2
        rw [List.getElem?_replicate] at h2
        split at h2 <;> cases h2
    have ha : vs[i]? = some v := by
      unfold start at h2
      rw [List.getElem?_append_left (by simpa using hi), List.getElem?_map] at h2
      cases e : vs[i]? with
      | none => rw [e] at h2; cases h2
      | some a => rw [e] at h2; cases h2; rfl
    obtain ⟨u, hu, rv⟩ := r.get ha
    have hp : ps[i]? = some y := by
      rw [← S.pre, List.getElem?_take_of_lt (by omega)]; exact h1
    have ndP : ps.Nodup := by rw [← S.pre]; exact S.nd.sublist (List.take_sublist _ _)
    refine ⟨u, rv, ?_⟩
    rcases S.par y (List.mem_of_getElem? hp) with k | k
    · exact .inl ⟨k, bindL_get ndP hp hu k⟩
    · obtain ⟨c, e⟩ := cell_has (n := s.heap.objs.size + 1) k
      refine .inr ⟨.inl k, c, e, ?_⟩
      have q := x.cell y c e
      rw [bindC_get ndP hp hu (by show scope.names.lookup y ≠ _; rw [k]; decide)] at q
      exact q
  · exact e0.hok.fresh (Nat.le_of_lt (x.above y c (PySem.mem_of_lookup h)))
  · unfold start
    show _ = N.length
    rw [List.length_append, List.length_map, List.length_replicate]
    omega
theorem fn_of {CX : CXT} {P : Program} {w : World} {K : PySem.W.Frag} {mg : Str → Option Value} {base : Heap} {k : Nat} {f : Addr} {name qual : Str} {params : Arguments} {body : List Stmt} {scope : Scope} {dV kV doc pm cdv ct oc : Value} {an od : Option Addr}
    {osl : Array (Option Value)} {N ps : List Str} {sp : Sp} (lk : K.lookup f = some ⟨oc, od, .func (PySem.W.fnOf name qual params body scope dV kV doc pm an cdv ct), osl⟩) (hcd : PySem.W.codeIn K cdv qual = true) (S : FnScope N ps scope)
    (len : ∀ vs H Q E, sp vs H Q E → vs.length = ps.length)
    (hbody : ∀ (A : Around) (outer : List Env) (s : Shared) (H : Hp) (vs : List V) (Q : VK) (E : XK), Room k (A.deeper (envOfC qual scope s.heap.objs.size f cdv)) → sp vs H Q E →
      ∃ t, PSs (cxOf CX P w K mg base N qual scope f cdv A outer s H E) body t ∧ t { nx := fun _ H' => Q .non H', rt := Q } (start N vs) H) :
    FnOk P w K mg base CX (k + 1) f (PySem.W.fnOf name qual params body scope dV kV doc pm an cdv ct) ps sp := by
  refine ⟨len, fun A outer s H args us vs Q E hr e0 hb r hsp => ?_⟩
  have hl := len _ _ _ _ hsp
  have KX : K.In s.heap := e0.mod.kin.keeps fun b o e => (e0.bs b o e).1
  have lim : s.heap.NoLimit := e0.mod.nolimit.keeps fun b o e => (e0.bs b o e).1
  have hkind : ∀ y ∈ ps.zip us, scope.names.lookup y.1 = some .local ∨ (scope.names.lookup y.1 = some .cell ∧ ((cellsFrom (s.heap.objs.size + 1) scope.names []).lookup y.1).isSome = true) := fun ⟨n, v⟩ hy => by
    rcases S.par n (List.of_mem_zip hy).1 with q | q
    · exact .inl q
    · exact .inr ⟨q, PySem.W.cellsFrom_some _ _ _ (.inl q)⟩
  refine codeAny_call_function hr.depth (KX _ _ lk) rfl S.co S.gen rfl (PySem.W.codeRec_of KX hcd) (hb _ _ _ _ ?_)
  refine wpAny_newFunctionEnv_cells S.kind hkind fun env he s1 x => ?_
  subst he
  refine ⟨lim.keeps x.toInCall.keep, codeAny_func ?_⟩
  obtain ⟨t, ht, hq⟩ := hbody A outer s H vs Q E (hr.deeper _) hsp
  have I : Inv (cxOf CX P w K mg base N qual scope f cdv A outer s H E) [] (start N vs) H s1 := inv_start S hr.hd e0 hl r x
  refine wpAny_mono (ht [] s1 (start N vs) H _ I hq) (fun fl s' hs => ?_) fun e s' hs => hs
  have fin : ∀ {σ' : St} {H' : Hp} {v : V} {u : Value}, Inv (cxOf CX P w K mg base N qual scope f cdv A outer s H E) [] σ' H' s' → RelV v u → Q v H' → CE outer P w H s Q u s' :=
    fun {σ' H' v u} J rv q => ⟨v, H', J.os, J.bare, J.base, J.hok, rv, q⟩
  cases fl with
  | ret u =>
    obtain ⟨v, σ', H', J, rv, q⟩ := hs
    exact fin J rv q
  | next =>
    obtain ⟨σ', H', J, q⟩ := hs
    exact fin (v := V.non) (u := Value.none) J rfl q
  | brk =>
    obtain ⟨_, _, _, q⟩ := hs
    exact False.elim q
  | cont =>
    obtain ⟨_, _, _, q⟩ := hs
    exact False.elim q
end L2
namespace L2
open PySem PySem.Spec PyProof.Rows
section
variable {X : Cx} {x : Str} {p pos : Pos} {e : Expr} {es : List Expr} {t : TA} {id T : String} {r : List V → Hp → VK → Prop}
def tCB (r : List V → Hp → VK → Prop) (t : TA) : TE := fun σ H Q => t σ H fun vs H1 => r vs H1 Q
theorem pe_callB (hc : CallR X (.builtin id) r) (hg : Gl X x) (hm : X.mg x = none) (hv : bootBuiltins x = some (.builtin id)) (ha : PA X (e :: es) t) (hn : x ≠ "__name__" := by decide) (hdb : (x == ("__debug__" : Str)) = false := by decide)
    (he : starEach (e :: es) X.env = (false, eval e X.env) :: starEach es X.env := by rfl) (hpl : (backTo pos (starEach es X.env)).any (·.1) = false := by rfl) : PE X (.Call (.Name x p) (e :: es) [] pos) (tCB r t) := by
  intro pins s σ H Q I h
  refine wpAny_Call_Name_kw (ld_blt I hg hm hv ?_ hn hdb)
  exact PyProof.Rows.callWith_builtin1 (thn (ha pos pins s σ H _ I h) fun us s1 zz => PySem.ex5 zz fun vs H1 I1 r1 q1 => hc pins s1 σ H1 vs us Q I1 r1 q1) he hpl
theorem pe_callTy (hc : CallR X (.type T) r) (hg : Gl X x) (hm : X.mg x = none) (hv : bootBuiltins x = some (.type T)) (ha : PA X (e :: es) t) (hn : x ≠ "__name__" := by decide) (hdb : (x == ("__debug__" : Str)) = false := by decide)
    (he : starEach (e :: es) X.env = (false, eval e X.env) :: starEach es X.env := by rfl) (hpl : (backTo pos (starEach es X.env)).any (·.1) = false := by rfl) : PE X (.Call (.Name x p) (e :: es) [] pos) (tCB r t) := by
  intro pins s σ H Q I h
  refine wpAny_Call_Name_kw (ld_blt I hg hm hv ?_ hn hdb)
  exact PyProof.Rows.callWith_type1 (thn (ha pos pins s σ H _ I h) fun us s1 zz => PySem.ex5 zz fun vs H1 I1 r1 q1 => hc pins s1 σ H1 vs us Q I1 r1 q1) he hpl
end
end L2
namespace HT
open PySem PyProof.Rows
section
open PySem.SeqAt
open PySem.AutoSeq1 (wpAny_loadPart')
open PySem.MeetsSeq PySem.MeetsSeq2 PySem.MeetsSeq3
end
section
variable {prog : Program} {w : World} {A : Around} {E : Value → Shared → Prop} {s : Shared}
def sIx (n d : Nat) : Option Int → Nat
  | none => d
  | some v => if v < 0 then (v + (n : Int)).toNat else min v.toNat n
theorem sIx_none (n d : Nat) : sIx n d none = d := rfl
theorem sIx_nat (n d k : Nat) : sIx n d (some (k : Int)) = min k n := by
  show (if (k : Int) < 0 then ((k : Int) + (n : Int)).toNat else min (k : Int).toNat n) = min k n
  rw [if_neg (by omega), Int.toNat_natCast]
end
end HT
namespace L2
open PySem PySem.Spec PyProof.Rows
abbrev TO := St → Hp → (Option Int → Hp → Prop) → Prop
def PO (X : Cx) (e : Option Expr) (t : TO) : Prop :=
  ∀ (pins : List (Addr × Obj)) (s : Shared) (σ : St) (H : Hp) (Q : Option Int → Hp → Prop), Inv X pins σ H s → t σ H Q →
    wpAny (model X.prog X.w) X.A (evalPart e X.env) (fun u s' => ∃ o H', Inv X pins σ H' s' ∧ IsPart u o ∧ Q o H') X.xe s
def tNoPart : TO := fun _ H Q => Q none H
def tPart (t : TE) : TO := fun σ H Q => t σ H fun x H1 => ∃ i, x = .int i ∧ Q (some i) H1
section
variable {X : Cx} {e : Expr} {te : TE} {lo hi : Option Expr} {tl th : TO} {pos p2 : Pos}
theorem po_none : PO X none tNoPart := by
  intro pins s σ H Q I h
  rw [evalPart_none]
  exact wpAny_pure ⟨none, H, I, .none, h⟩
theorem po_some (h : PE X e te) : PO X (some e) (tPart te) := by
  intro pins s σ H Q I hw
  rw [evalPart_some]
  refine thn (h pins s σ H _ I hw) fun u s1 zz => ?_
  obtain ⟨x, H1, I1, r1, q1⟩ := zz
  obtain ⟨i, rfl, q⟩ := q1
  obtain ⟨t, rfl⟩ := r1
  exact ⟨some i, H1, I1, .int i t, q⟩
def SlR (X : Cx) (r : V → Option Int → Option Int → Hp → VK → Prop) : Prop :=
  ∀ (pins : List (Addr × Obj)) (s : Shared) (σ : St) (H : Hp) (x : V) (v vl vu : Value) (lo hi : Option Int) (sl : Addr) (Q : VK), Inv X pins σ H s → RelV x v → s.heap.IsSliceOf sl vl vu .none → IsPart vl lo → IsPart vu hi → r x lo hi H Q →
    ∃ T id, typeLookup (.type T) "__getitem__" = pure (some (.builtin id)) ∧ s.TypeIs v T ∧ wpAny (model X.prog X.w) X.A (getItem v (.ref sl)) (EP X pins σ Q) X.xe s
def tSl (r : V → Option Int → Option Int → Hp → VK → Prop) (te : TE) (tl th : TO) : TE := fun σ H Q => te σ H fun x H1 => tl σ H1 fun l H2 => th σ H2 fun u H3 => r x l u H3 Q
theorem pe_slice {r : V → Option Int → Option Int → Hp → VK → Prop} (hr : SlR X r) (he : PE X e te) (hl : PO X lo tl) (hu : PO X hi th) : PE X (.Subscript e (.Slice lo hi none p2) pos) (tSl r te tl th) := by
  intro pins s σ H Q I h
  refine Subscript_ (thn (he pins s σ H _ I h) fun v s1 zz => ?_)
  obtain ⟨x, H1, I1, r1, q1⟩ := zz
  refine wpAny_Slice (thn (hl pins s1 σ H1 _ I1 q1) fun vl s2 zz => PySem.ex5 zz fun l H2 I2 pl q2 => thn (hu pins s2 σ H2 _ I2 q2) fun vu s3 zz => ?_)
  obtain ⟨u, H3, I3, pu, q3⟩ := zz
  rw [evalPart_none]
  refine wpAny_pure ?_
  have I4 : Inv X pins σ H3 { s3 with heap := s3.heap.push { cls := .type "slice", data := .fields #[vl, vu, .none] } } := I3.kept (t' := s3.toks) fun b ob q => Heap.get?_push_of_some _ q
  obtain ⟨T, id, hT, ht, hg⟩ := hr pins { s3 with heap := s3.heap.push { cls := .type "slice", data := .fields #[vl, vu, .none] } } σ H3 x v vl vu l u s3.heap.objs.size Q I4 r1 (Heap.IsSliceOf.new ..) pl pu q3
  show wpAny (model X.prog X.w) X.A (subscriptTail e (.Slice lo hi none p2) v (.ref s3.heap.objs.size)) (EP X pins σ Q) X.xe { s3 with heap := s3.heap.push { cls := .type "slice", data := .fields #[vl, vu, .none] } }
  exact tail_any (ops := [.ref s3.heap.objs.size, v]) ht hT hg (by with_unfolding_all rfl)
def cutV (xs : List V) (lo hi : Option Int) : List V := (xs.drop (HT.sIx xs.length 0 lo)).take (HT.sIx xs.length xs.length hi - HT.sIx xs.length 0 lo)
theorem cutV_length (xs : List V) (lo hi : Option Int) : (cutV xs lo hi).length ≤ xs.length := by
  unfold cutV
  rw [List.length_take, List.length_drop]
  omega
end
end L2
namespace L2
open PySem PySem.Spec PyProof.Rows
def ixN (n : Nat) (i : Int) : Option Nat := if 0 ≤ i then (if i < n then some i.toNat else none) else if -(n : Int) ≤ i then some (i + n).toNat else none
def atI {α : Type} (xs : List α) (i : Int) : Option α := (ixN xs.length i).bind fun j => xs[j]?
theorem ixN_seq {n : Nat} {i : Int} {j : Nat} (h : ixN n i = some j) : seqIndex? i n = some j ∧ j < n ∧ -(n : Int) ≤ i ∧ i < n := by
  unfold ixN at h
  by_cases h0 : 0 ≤ i
  · rw [if_pos h0] at h
    by_cases h1 : i < n
    · rw [if_pos h1] at h
      have e : i.toNat = j := Option.some.inj h
      exact ⟨by rw [seqIndex_of h0 h1, e], by omega, by omega, h1⟩
    · rw [if_neg h1] at h; cases h
  · rw [if_neg h0] at h
    by_cases h1 : -(n : Int) ≤ i
    · rw [if_pos h1] at h
      have e : (i + n).toNat = j := Option.some.inj h
      exact ⟨by rw [seqIndex_neg (by omega) h1, e], by omega, h1, by omega⟩
    · rw [if_neg h1] at h; cases h
theorem atI_get {α : Type} {xs : List α} {i : Int} {v : α} (h : atI xs i = some v) : ∃ j, seqIndex? i xs.length = some j ∧ xs[j]? = some v ∧ j < xs.length ∧ -(xs.length : Int) ≤ i ∧ i < xs.length := by
  unfold atI at h
  cases e : ixN xs.length i with
  | none => rw [e] at h; cases h
  | some j =>
    rw [e] at h
    obtain ⟨h1, h2, h3, h4⟩ := ixN_seq e
    exact ⟨j, h1, h, h2, h3, h4⟩
theorem atI_nat {α : Type} {xs : List α} {j : Nat} {v : α} (h : xs[j]? = some v) : atI xs (j : Int) = some v := by
  have hj : j < xs.length := (List.getElem?_eq_some_iff.mp h).1
  have e : ixN xs.length (j : Int) = some j := by
    unfold ixN
    rw [if_pos (by omega), if_pos (by omega)]; simp
  unfold atI; rw [e]; exact h
def PlainIx (b : Expr) : Prop := ∀ o i, subscripted b false o i = operate [o, i] (getItem o i)
def IxR (X : Cx) (r : R2) : Prop :=
  ∀ (value slice : Expr) (pins : List (Addr × Obj)) (s : Shared) (σ : St) (H : Hp) (x y : V) (v u : Value) (Q : VK), Inv X pins σ H s → RelV x v → RelV y u → r x y H Q →
    subscripted slice false v u = operate [v, u] (getItem v u) → wpAny (model X.prog X.w) X.A (subscriptTail value slice v u) (EP X pins σ Q) X.xe s
def MtR (X : Cx) (id : String) (r : V → List V → Hp → VK → Prop) : Prop :=
  ∀ (pins : List (Addr × Obj)) (s : Shared) (σ : St) (H : Hp) (x : V) (xs : List V) (v : Value) (us : List Value) (Q : VK), Inv X pins σ H s → RelV x v → Vals xs us → r x xs H Q →
    wpAny (model X.prog X.w) X.A (call (.builtin id) (v :: us)) (EP X pins σ Q) X.xe s
section
variable {X : Cx} {a b : Expr} {ta tb : TE} {pos : Pos}
theorem pe_ix {r : R2} (hr : IxR X r) (ha : PE X a ta) (hb : PE X b tb) (hs : PlainIx b) : PE X (.Subscript a b pos) (tOp r ta tb) := by
  intro pins s σ H Q I h
  exact Subscript_ (binT ha hb I h fun v u s2 x y H2 I2 rx ry q => hr a b pins s2 σ H2 x y v u Q I2 rx ry q (hs _ _))
def rIxL (K : PySem.W.Frag) : R2 := fun x y H Q => ∃ p xs i v, x = .ref p ∧ y = .int i ∧ SqL K H p xs ∧ atI xs i = some v ∧ Q v H
def rIxT (K : PySem.W.Frag) : R2 := fun x y H Q => ∃ p xs i v, x = .ref p ∧ y = .int i ∧ SqT K H p xs ∧ atI xs i = some v ∧ Q v H
theorem ix_list : IxR X (rIxL X.K) := by
  intro value slice pins s σ H x y v u Q I rx ry h hs
  obtain ⟨p, xs, i, z, rfl, rfl, hq, he, q⟩ := h
  cases rx
  obtain ⟨t, rfl⟩ := ry
  obtain ⟨its, r, pl, hz⟩ := I.list hq
  obtain ⟨j, h1, h2, h3, h4, h5⟩ := atI_get he
  obtain ⟨w, ew, rw'⟩ := r.get h2
  have hl := r.length
  have hn := line63
  have fin : EP X pins σ Q w s := ⟨z, H, I, rw', q⟩
  by_cases h0 : 0 ≤ i
  · have hj : i.toNat = j := by
      rw [seqIndex_of h0 h5] at h1
      exact Option.some.inj h1
    exact item_listR pl.isList h0 (by omega) (by rw [hj]; simpa using ew) fin hs
  · have hj : (i + (its.toArray.size : Int)).toNat = j := by
      rw [seqIndex_neg (by omega) h4] at h1
      rw [List.size_toArray, ← hl]
      exact Option.some.inj h1
    exact subscriptTail_builtinR (x := w) pl.isList.typeIs slot_list_getitem.lookup
      (wpAny_getItem_list_neg (Q := fun r s' => r = w ∧ EP X pins σ Q r s') pl.isList (by omega) (by rw [List.size_toArray] <;> omega) (by omega) (by rw [hj]; simpa using ew) ⟨rfl, fin⟩) hs
theorem ix_tup : IxR X (rIxT X.K) := by
  intro value slice pins s σ H x y v u Q I rx ry h hs
  obtain ⟨p, xs, i, z, rfl, rfl, hq, he, q⟩ := h
  cases rx
  obtain ⟨t, rfl⟩ := ry
  obtain ⟨its, r, pl, hz⟩ := I.tuple hq
  obtain ⟨j, h1, h2, h3, h4, h5⟩ := atI_get he
  obtain ⟨w, ew, rw'⟩ := r.get h2
  have hl := r.length
  have hn := line63
  have fin : EP X pins σ Q w s := ⟨z, H, I, rw', q⟩
  exact subscriptTail_builtinR (x := w) pl.typeIs slot_tuple_getitem.lookup
    (getItem_tuple (j := j) (Q := fun r s' => r = w ∧ EP X pins σ Q r s') pl (by omega) (by omega) (by rw [List.size_toArray, ← hl]; exact h1) (by simpa using ew) ⟨rfl, fin⟩) hs
theorem mapSeq_set (its : List Value) (n j : Nat) (u : Value) : Obj.mapSeq (·.setIfInBounds j u) { cls := .type "list", data := .seq its.toArray n } = { cls := .type "list", data := .seq (its.set j u).toArray n } := by
  simp [Obj.mapSeq]
theorem Inv.lst {pins : List (Addr × Obj)} {σ : St} {H : Hp} {s : Shared} {p : Addr} {xs : List V} (I : Inv X pins σ H s) (h : H p = some (.lst xs)) :
    ∃ (its : List Value) (n : Nat), Vals xs its ∧ s.heap.get? p = some { cls := .type "list", data := .seq its.toArray n } ∧ xs.length ≤ sizeLine := by
  obtain ⟨z, its, n, r, e⟩ := I.hok p _ h
  exact ⟨its, n, r, e, z⟩
theorem Inv.lstUpd {pins : List (Addr × Obj)} {σ : St} {H : Hp} {s : Shared} {p : Addr} {xs ys : List V} {its its' : List Value} {n n' : Nat} {f : Obj → Obj} (I : Inv X pins σ H s) (h : H p = some (.lst xs))
    (ho : s.heap.get? p = some { cls := .type "list", data := .seq its.toArray n }) (hf : f { cls := .type "list", data := .seq its.toArray n } = { cls := .type "list", data := .seq its'.toArray n' }) (r : Vals ys its') (hz : ys.length ≤ sizeLine) (t : Nat) :
    Inv X pins σ (upd H p (.lst ys)) { s with heap := s.heap.update p f, toks := t } := by
  have e : (s.heap.update p f).get? p = some { cls := .type "list", data := .seq its'.toArray n' } := by
    rw [Heap.get?_update_self f ho (by rw [hf] <;> rfl), hf]
  refine I.write (x := p) (e := p) (by rw [h]; trivial) (.inl rfl) (fun b u hb q => (Heap.get?_update_other _ _ (Ne.symm hb)).trans q) ⟨_, e⟩ ?_
  exact ⟨hz, its', n', r, e⟩
def rSetL : V → V → V → Hp → (Hp → Prop) → Prop := fun o i v H Q => ∃ p xs k j, o = .ref p ∧ i = .int k ∧ H p = some (.lst xs) ∧ ixN xs.length k = some j ∧ Q (upd H p (.lst (xs.set j v)))
theorem set_list : PSet X rSetL := by
  intro pins s σ H o i v ov iv u Q I ro ri rv h
  obtain ⟨p, xs, k, j, rfl, rfl, hp, hj, q⟩ := h
  cases ro
  obtain ⟨t, rfl⟩ := ri
  obtain ⟨its, n, r, ho, hz⟩ := I.lst hp
  obtain ⟨h1, h2, h3, h4⟩ := ixN_seq hj
  have hl := r.length
  have hn := line63
  have I' : Inv X pins σ (upd H p (.lst (xs.set j v))) { s with heap := s.heap.update p (Obj.mapSeq (·.setIfInBounds j u)) } :=
    I.lstUpd hp ho (mapSeq_set its n j u) (r.set rv j) (by rw [List.length_set]; exact hz) s.toks
  by_cases h0 : 0 ≤ k
  · have hk : k.toNat = j := by
      rw [seqIndex_of h0 h4] at h1
      exact Option.some.inj h1
    exact PySem.W.ki_setAt ho h0 (by omega) (by rw [List.size_toArray, ← hl]; exact h4) (by rw [hk]; exact ⟨_, I', q⟩)
  · have hk : (k + (its.toArray.size : Int)).toNat = j := by
      rw [seqIndex_neg (by omega) h3] at h1
      rw [List.size_toArray, ← hl]
      exact Option.some.inj h1
    exact PySem.W.ki_setBack ho (by omega) (by rw [List.size_toArray, ← hl]; exact h3) (by omega) (by rw [hk]; exact ⟨_, I', q⟩)
theorem slice_bounds (lo hi : Option Int) (n : Nat) : (sliceBounds lo hi none n).1 = ((HT.sIx n 0 lo : Nat) : Int) ∧ (sliceBounds lo hi none n).2.1 = ((HT.sIx n n hi : Nat) : Int) ∧ (sliceBounds lo hi none n).2.2 = 1 := by
  refine ⟨?_, ?_, rfl⟩
  · cases lo with
    | none => simp [sliceBounds, HT.sIx]
    | some i =>
      simp only [sliceBounds, HT.sIx, Option.getD_none, show (1 : Int) > 0 by decide, if_true]
      by_cases h : i < 0
      · simp only [h, if_true] <;> omega
      · simp only [h, if_false] <;> omega
  · cases hi with
    | none => simp [sliceBounds, HT.sIx]
    | some i =>
      simp only [sliceBounds, HT.sIx, Option.getD_none, show (1 : Int) > 0 by decide, if_true]
      by_cases h : i < 0
      · simp only [h, if_true] <;> omega
      · simp only [h, if_false] <;> omega
theorem slicePick_cut (its : List Value) (lo hi : Option Int) : slicePick its.toArray lo hi none = ((its.drop (HT.sIx its.length 0 lo)).take (HT.sIx its.length its.length hi - HT.sIx its.length 0 lo)).toArray := by
  obtain ⟨h1, h2, h3⟩ := slice_bounds lo hi its.toArray.size
  unfold slicePick
  rw [h1, h2, h3]
  simp only [sliceRange_one, pick_run, List.size_toArray] <;> rfl
def rSlL (K : PySem.W.Frag) : V → Option Int → Option Int → Hp → VK → Prop := fun x lo hi H Q => ∃ a xs, x = .ref a ∧ SqL K H a xs ∧ ∀ p, H p = none → Q (.ref p) (upd H p (.lst (cutV xs lo hi)))
theorem sl_list : SlR X (rSlL X.K) := by
  intro pins s σ H x v vl vu lo hi sl Q I rx hs pl pu h
  obtain ⟨a, xs, rfl, hx, q⟩ := h
  cases rx
  obtain ⟨its, r, ht, hz⟩ := I.list hx
  have hlen := r.length
  refine ⟨"list", _, slot_list_getitem.lookup, ht.isList.typeIs, ?_⟩
  refine wpAny_getItem_list_slice ht.isList hs pl pu .none (by simp) ?_ (by rw [List.size_toArray] <;> omega)
  rw [slicePick_cut, ← hlen]
  refine ⟨.ref s.heap.objs.size, _, I.laid (t' := s.toks) (o := .lst (cutV xs lo hi)) (fun b ob q => Heap.get?_push_of_some _ q) (Nat.le_refl _) ?_, rfl, q _ (I.hok.fresh (Nat.le_refl _))⟩
  exact ⟨Nat.le_trans (cutV_length xs lo hi) hz, _, 0, (r.drop (HT.sIx xs.length 0 lo)).take (HT.sIx xs.length xs.length hi - HT.sIx xs.length 0 lo), Heap.get?_push_size _ rfl⟩
def flatV : V → Bool
  | .non => true
  | .bl _ => true
  | .int _ => true
  | .str _ => true
  | _ => false
def eqV : V → V → Bool
  | .non, .non => true
  | .bl a, .bl b => a == b
  | .bl a, .int b => (if a then 1 else 0) == b
  | .int a, .bl b => a == (if b then 1 else 0)
  | .int a, .int b => a == b
  | .str a, .str b => a == b
  | _, _ => false
theorem eqAt_V {A : Around} {s : Shared} {y x : V} {u v : Value} (ry : RelV y u) (rx : RelV x v) (fy : flatV y = true) (fx : flatV x = true) : SeqAt.EqAt A s u v (eqV y x) := by
  cases y with
  | non =>
    cases ry
    cases x with
    | non => cases rx; exact SeqAt.EqAt.same _
    | bl b => cases rx; exact SeqAt.EqAt.none_bool b
    | int b => obtain ⟨t, rfl⟩ := rx; exact SeqAt.EqAt.none_int b t
    | str b => obtain ⟨t, rfl⟩ := rx; exact SeqAt.EqAt.none_str b t
    | _ => exact absurd (show false = true from fx) Bool.false_ne_true
  | bl a =>
    cases ry
    cases x with
    | non => cases rx; exact SeqAt.EqAt.bool_none a
    | bl b => cases rx; exact SeqAt.EqAt.bool_bool a b
    | int b => obtain ⟨t, rfl⟩ := rx; exact SeqAt.EqAt.bool_int a b t
    | str b => obtain ⟨t, rfl⟩ := rx; exact SeqAt.EqAt.bool_str a b t
    | _ => exact absurd (show false = true from fx) Bool.false_ne_true
  | int a =>
    obtain ⟨t', rfl⟩ := ry
    cases x with
    | non => cases rx; exact SeqAt.EqAt.int_none a t'
    | bl b => cases rx; exact SeqAt.EqAt.int_bool a t' b
    | int b => obtain ⟨t, rfl⟩ := rx; exact SeqAt.EqAt.int_int a t' b t
    | str b => obtain ⟨t, rfl⟩ := rx; exact SeqAt.EqAt.int_str a t' b t
    | _ => exact absurd (show false = true from fx) Bool.false_ne_true
  | str a =>
    obtain ⟨t', rfl⟩ := ry
    cases x with
    | non => cases rx; exact SeqAt.EqAt.str_none a t'
    | bl b => cases rx; exact SeqAt.EqAt.str_bool a t' b
    | int b => obtain ⟨t, rfl⟩ := rx; exact SeqAt.EqAt.str_int a t' b t
    | str b => obtain ⟨t, rfl⟩ := rx; exact SeqAt.EqAt.str_str a t' b t
    | _ => exact absurd (show false = true from fx) Bool.false_ne_true
  | _ => exact absurd (show false = true from fy) Bool.false_ne_true
def eqU (x : V) (u : Value) : Bool := match u with
  | .none => eqV .non x
  | .bool b => eqV (.bl b) x
  | .int i _ => eqV (.int i) x
  | .str z _ => eqV (.str z) x
  | _ => false
theorem eqU_of {x y : V} {u : Value} (r : RelV y u) (f : flatV y = true) : eqU x u = eqV y x := by
  cases y with
  | non => cases r; rfl
  | bl b => cases r; rfl
  | int i => obtain ⟨t, rfl⟩ := r; rfl
  | str z => obtain ⟨t, rfl⟩ := r; rfl
  | _ => exact absurd (show false = true from f) Bool.false_ne_true
theorem mem_eqAt {A : Around} {s : Shared} {x : V} {v : Value} (rx : RelV x v) (fx : flatV x = true) : ∀ {xs : List V} {us : List Value}, Vals xs us → xs.all flatV = true → ∀ u ∈ us, SeqAt.EqAt A s u v (eqU x u)
  | _, _, .nil, _ => fun u hu => by cases hu
  | y :: xs, u :: us, .cons r t, f => fun u' hu => by
    rw [List.all_cons, Bool.and_eq_true] at f
    rcases List.mem_cons.mp hu with rfl | hu
    · rw [eqU_of r f.1]; exact eqAt_V r rx f.1 fx
    · exact mem_eqAt rx fx t f.2 u' hu
theorem call_len_seq : CallR X (.builtin "len") (fun xs H Q => ∃ p ys, xs = [.ref p] ∧ (SqL X.K H p ys ∨ SqT X.K H p ys) ∧ Q (.int ys.length) H) := by
  intro pins s σ H xs us Q I r h
  obtain ⟨p, ys, rfl, hq, q⟩ := h
  obtain ⟨u, rfl, rx⟩ := vals1 r
  cases rx
  have hn := line63
  rcases hq with hq | hq
  · obtain ⟨its, r', pl, hz⟩ := I.list hq
    have hlen := r'.length
    exact Calls.call_len_list pl.isList (by simp only [List.size_toArray] <;> omega) ⟨.int ys.length, H, I.tok _, ⟨s.toks + 1, by rw [List.size_toArray, hlen]⟩, q⟩
  · obtain ⟨its, r', pl, hz⟩ := I.tuple hq
    have hlen := r'.length
    exact len_tuple pl (by simp only [List.size_toArray] <;> omega) ⟨.int ys.length, H, I.tok _, ⟨s.toks + 1, by rw [List.size_toArray, hlen]⟩, q⟩
def tyV (K : PySem.W.Frag) (T : String) (x : V) (H : Hp) : Prop := match x with
  | .str _ => T = "str"
  | .int _ => T = "int"
  | .ref p => (T = "list" ∧ ∃ xs, SqL K H p xs) ∨ (T = "tuple" ∧ ∃ o, K.lookup p = some o ∧ o.cls = .type "tuple" ∧ o.dict = none) ∨
      (T = "dict" ∧ ((∃ kvs, H p = some (.dK kvs)) ∨ ∃ kvs, H p = some (.dT kvs))) ∨ (T = "set" ∧ ∃ S n, H p = some (.set S n))
  | _ => False
theorem tyV_is {pins : List (Addr × Obj)} {σ : St} {H : Hp} {s : Shared} {T : String} {x : V} {v : Value} (I : Inv X pins σ H s) (r : RelV x v) (ty : tyV X.K T x H) :
    s.TypeIs v T ∧ ∀ a, v = .ref a → ∃ ob, s.heap.get? a = some ob ∧ ob.dict = none := by
  cases x with
  | str z =>
    obtain ⟨t, rfl⟩ := r
    cases (show T = "str" from ty)
    exact ⟨typeIs_str s z t, fun _ e => nomatch e⟩
  | int i =>
    obtain ⟨t, rfl⟩ := r
    cases (show T = "int" from ty)
    exact ⟨typeIs_int s i t, fun _ e => nomatch e⟩
  | ref p =>
    cases r
    rcases ty with ⟨rfl, xs, hq⟩ | ⟨rfl, o, hk, hc, hd⟩ | ⟨rfl, hk⟩ | ⟨rfl, S, n, hk⟩
    · obtain ⟨its, _, pl, _⟩ := I.list hq
      refine ⟨pl.isList.typeIs, fun a e => ?_⟩
      cases e
      obtain ⟨o, n, e, c, hd, _⟩ := pl
      exact ⟨o, e, hd⟩
    · refine ⟨⟨o, I.kIn p o hk, hc⟩, fun a e => ?_⟩
      cases e
      exact ⟨o, I.kIn _ o hk, hd⟩
    · have z : ∃ o, s.heap.get? p = some o ∧ o.ExactDict := by
        rcases hk with ⟨kvs, hk⟩ | ⟨kvs, hk⟩
        · obtain ⟨_, _, _, _, o, _, _, e, ex, _⟩ := I.hok p _ hk
          exact ⟨o, e, ex⟩
        · obtain ⟨_, _, _, _, o, _, _, e, ex, _⟩ := I.hok p _ hk
          exact ⟨o, e, ex⟩
      obtain ⟨o, e, ex⟩ := z
      refine ⟨⟨o, e, ex.1⟩, fun a e2 => ?_⟩
      cases e2
      exact ⟨o, e, ex.2.1⟩
    · obtain ⟨o, _, _, _, e, ex, _⟩ := I.hok p _ hk
      refine ⟨⟨o, e, ex.1⟩, fun a e2 => ?_⟩
      cases e2
      exact ⟨o, e, ex.2.1⟩
  | _ => exact False.elim ty
def tBM (K : PySem.W.Frag) (T : String) (r : V → List V → Hp → VK → Prop) (to : TE) (t : TA) : TE := fun σ H Q => to σ H fun x H1 => tyV K T x H1 ∧ t σ H1 fun xs H2 => r x xs H2 Q
variable {o e : Expr} {es : List Expr} {to : TE} {t : TA} {name : Str} {apos cpos : Pos} {T id : String} {r : V → List V → Hp → VK → Prop}
theorem pe_bm (pa : PlainAttrs T) (slot : Slot T name id) (hty : typeOf (.builtin id) = pure (.type "method_descriptor")) (hm : MtR X id r) (ho : PE X o to) (ha : PA X (e :: es) t)
    (hbase : attributeBase o name X.env (eval o X.env) = eval o X.env := by rfl)
    (hfew : ((backTo cpos (starEach (e :: es) X.env)).all (fun x => !x.1) && (backToKw cpos (keywordEach [] X.env)).all (fun x => x.1.isSome)
      && decide ((e :: es).length + ([] : List Keyword).length + (if ([] : List Keyword).isEmpty then 0 else 1) < 30)) = true := by rfl)
    (hline : (apos.endLine == cpos.line) = true := by rfl) (hs : starEach (e :: es) X.env = (false, eval e X.env) :: starEach es X.env := by rfl) (hplain : (backTo cpos (starEach es X.env)).any (·.1) = false := by rfl) :
    PE X (.Call (.Attribute o name apos) (e :: es) [] cpos) (tBM X.K T r to t) := by
  intro pins s σ H Q I h
  refine wpAny_Call_method_late hbase hfew hline rfl (thn (ho pins s σ H _ I h) fun v s1 zz => ?_)
  obtain ⟨x, H1, I1, r1, ty, q1⟩ := zz
  obtain ⟨h1, h2⟩ := tyV_is I1 r1 ty
  refine ⟨T, id, pa, slot, hty, h1, h2, ?_⟩
  have hA := ha cpos pins s1 σ H1 _ I1 q1
  rw [hs] at hA ⊢
  refine Calls.callWith_builtin (by show (false || (backTo cpos (starEach es X.env)).any (·.1)) = false; rw [hplain] <;> rfl) (Calls.evalArgs_plain ?_)
  exact thn hA fun us s2 zz => PySem.ex5 zz fun vs H2 I2 r2 q2 => hm pins s2 σ H2 x vs v us Q I2 r1 r2 q2
end
end L2
namespace L2
open PySem PySem.Spec PyProof.Rows
def MtM (X : Cx) (id : String) (r : V → List V → Hp → VK → Prop) : Prop :=
  ∀ (pins : List (Addr × Obj)) (s : Shared) (σ : St) (H : Hp) (x : V) (xs : List V) (v : Value) (us : List Value) (Q : VK), Inv X pins σ H s → RelV x v → Vals xs us → r x xs H Q →
    wpAny (model X.prog X.w) X.A (call (.builtin id) (v :: us)) (EP X pins σ Q) X.xe s
theorem Vals.one : ∀ {x : V} {us : List Value}, Vals [x] us → ∃ u, us = [u] ∧ RelV x u
  | _, _, .cons r .nil => ⟨_, rfl, r⟩
theorem Vals.rep {xs : List V} {us : List Value} (h : Vals xs us) : ∀ k : Nat, Vals (List.replicate k xs).flatten (List.replicate k us).flatten
  | 0 => .nil
  | k + 1 => by
    rw [List.replicate_succ, List.replicate_succ, List.flatten_cons, List.flatten_cons]
    exact Vals.append h (Vals.rep h k)
theorem foldl_rep (its : List Value) : ∀ (k : Nat) (acc : List Value),
    List.foldl (fun x1 x2 => x1 ++ x2) acc.toArray (List.replicate k its.toArray) = (acc ++ (List.replicate k its).flatten).toArray
  | 0, acc => by simp
  | k + 1, acc => by
    have e : acc.toArray ++ its.toArray = (acc ++ its).toArray := by simp
    have e2 : (acc ++ its) ++ (List.replicate k its).flatten = acc ++ (List.replicate (k + 1) its).flatten := by
      rw [List.replicate_succ, List.flatten_cons, List.append_assoc]
    rw [← e2, ← foldl_rep its k (acc ++ its), ← e, List.replicate_succ, List.foldl_cons]
section
variable {X : Cx} {pins : List (Addr × Obj)} {σ : St} {H : Hp} {s : Shared} {l b : Addr} {xs ys zs : List V}
theorem Inv.lset {its its' : List Value} {n : Nat} {f : Array Value → Array Value} {t' : Nat} (I : Inv X pins σ H s) (hH : H l = some (.lst xs))
    (e : s.heap.get? l = some { cls := .type "list", data := .seq its.toArray n }) (hf : f its.toArray = its'.toArray) (hv : Vals ys its') (hz : ys.length ≤ sizeLine) :
    Inv X pins σ (upd H l (.lst ys)) { s with heap := s.heap.update l (Obj.mapSeq f), toks := t' } := by
  have q := PySem.IsL.update e f
  rw [hf] at q
  refine I.write (x := l) (e := l) (by rw [hH]; exact trivial) (.inl rfl) (fun b' u hb hu => (Heap.get?_update_other s.heap (Obj.mapSeq f) (Ne.symm hb)).trans hu) ⟨_, q⟩ ?_
  exact ⟨hz, its', _, hv, q⟩
theorem Inv.lnew {its : List Value} {t' : Nat} (I : Inv X pins σ H s) (hv : Vals ys its) (hz : ys.length ≤ sizeLine) :
    Inv X pins σ (upd H s.heap.objs.size (.lst ys)) { s with heap := s.heap.push { cls := .type "list", data := .seq its.toArray }, toks := t' } :=
  I.laid (fun _ _ q => Heap.get?_push_of_some _ q) (Nat.le_refl _) ⟨hz, its, 0, hv, Heap.get?_push_size _ rfl⟩
theorem Inv.fresh (I : Inv X pins σ H s) : H s.heap.objs.size = none := I.hok.fresh (Nat.le_refl _)
theorem Inv.lstM (I : Inv X pins σ H s) (hH : H l = some (.lst xs)) : xs.length ≤ sizeLine ∧ ∃ (its : List Value) (n : Nat), Vals xs its ∧ xs.length = its.length ∧ s.heap.get? l = some { cls := .type "list", data := .seq its.toArray n } := by
  obtain ⟨z, its, n, r, e⟩ := I.hok l _ hH
  exact ⟨z, its, n, r, r.length, e⟩
theorem notLongL {n : Nat} (h : n ≤ sizeLine) : Builtin.List.listTooLong n = false := by
  unfold Builtin.List.listTooLong
  exact decide_eq_false (by omega)
end
section
variable {X : Cx}
def rAppend : V → List V → Hp → VK → Prop := fun x vs H Q => ∃ l xs y, x = .ref l ∧ vs = [y] ∧ H l = some (.lst xs) ∧ xs.length < sizeLine ∧ Q .non (upd H l (.lst (xs ++ [y])))
theorem mt_append : MtM X "list.append" rAppend := by
  intro pins s σ H x vs v us Q I rx rv h
  obtain ⟨l, xs, y, rfl, rfl, hH, hz, q⟩ := h
  cases rx
  obtain ⟨u, rfl, ru⟩ := rv.one
  obtain ⟨z, its, n, r, hl, e⟩ := I.lstM hH
  refine call_meets F.slot_list_append ⟨_, e, rfl⟩ F.entry_list_append (F.args_list_append_2 _ _) (PySem.list_append l its.toArray n u (by rw [List.size_toArray]; omega)) ⟨e, ?_⟩
  refine ⟨.non, _, I.lset (its' := its ++ [u]) hH e (by simp) (r.append (.cons ru .nil)) ?_, rfl, q⟩
  rw [List.length_append, List.length_singleton]
  omega
def rExtend : V → List V → Hp → VK → Prop := fun x vs H Q => ∃ l b xs zs, x = .ref l ∧ vs = [.ref b] ∧ H l = some (.lst xs) ∧ H b = some (.lst zs) ∧ xs.length + zs.length ≤ sizeLine ∧ Q .non (upd H l (.lst (xs ++ zs)))
theorem mt_extend : MtM X "list.extend" rExtend := by
  intro pins s σ H x vs v us Q I rx rv h
  obtain ⟨l, b, xs, zs, rfl, rfl, hH, hB, hz, q⟩ := h
  cases rx
  obtain ⟨u, rfl, ru⟩ := rv.one
  cases ru
  obtain ⟨z, its, n, r, hl, e⟩ := I.lstM hH
  obtain ⟨z2, its2, n2, r2, hl2, e2⟩ := I.lstM hB
  have hsz : its.toArray.size + its2.toArray.size ≤ sizeLine := by rw [List.size_toArray, List.size_toArray]; omega
  have hlong : ¬ (!its.toArray.isEmpty && Builtin.List.listTooLong (its.toArray.size + its2.toArray.size)) = true := by
    rw [notLongL hsz, Bool.and_false]
    exact Bool.false_ne_true
  refine call_meets F.slot_list_extend ⟨_, e, rfl⟩ F.entry_list_extend (F.args_list_extend_2 _ _)
    (AutoSeq1.list_extend_list_list_0 l its.toArray n b its2.toArray n2 hlong (by rw [List.size_toArray]; omega) (by omega)) ⟨e, e2, ?_⟩
  refine ⟨.non, _, I.lset (its' := its ++ its2) hH e (by simp) (r.append r2) ?_, rfl, q⟩
  rw [List.length_append]
  omega
def rCat : R2 := fun x y H Q => ∃ l b xs zs, x = .ref l ∧ y = .ref b ∧ H l = some (.lst xs) ∧ H b = some (.lst zs) ∧ xs.length + zs.length ≤ sizeLine ∧ ∀ p, H p = none → Q (.ref p) (upd H p (.lst (xs ++ zs)))
theorem op_cat : OpR X (binaryOp .Add) rCat := by
  intro pins s σ H x y v u Q I rx ry h
  obtain ⟨l, b, xs, zs, rfl, rfl, hH, hB, hz, q⟩ := h
  cases rx
  cases ry
  obtain ⟨z, its, n, r, hl, e⟩ := I.lstM hH
  obtain ⟨z2, its2, n2, r2, hl2, e2⟩ := I.lstM hB
  refine PySem.P.add_list e e2 ?_ (by rw [List.size_toArray, List.size_toArray]; omega)
  have ea : its.toArray ++ its2.toArray = (its ++ its2).toArray := by simp
  rw [ea]
  exact ⟨.ref _, _, I.lnew (t' := s.toks) (r.append r2) (by rw [List.length_append]; omega), rfl, q _ I.fresh⟩
def rRep : R2 := fun x y H Q => ∃ l k xs, x = .ref l ∧ y = .int k ∧ H l = some (.lst xs) ∧ -(2 ^ 63) ≤ k ∧ k < 2 ^ 63 ∧ xs.length * k.toNat ≤ sizeLine ∧
  ∀ p, H p = none → Q (.ref p) (upd H p (.lst (List.replicate k.toNat xs).flatten))
theorem len_rep {α : Type} (xs : List α) (k : Nat) : (List.replicate k xs).flatten.length = k * xs.length := by
  induction k with
  | zero => simp
  | succ k ih => rw [List.replicate_succ, List.flatten_cons, List.length_append, ih, Nat.succ_mul, Nat.add_comm]
theorem op_rep : OpR X (binaryOp .Mult) rRep := by
  intro pins s σ H x y v u Q I rx ry h
  obtain ⟨l, k, xs, rfl, rfl, hH, h1, h2, hz, q⟩ := h
  cases rx
  obtain ⟨t, rfl⟩ := ry
  obtain ⟨z, its, n, r, hl, e⟩ := I.lstM hH
  have hlen : its.toArray.size * k.toNat ≤ sizeLine := by rw [List.size_toArray, ← hl]; exact hz
  have hcap : ¬ its.toArray.size * k.toNat > (2 ^ 63 - 1) / 8 := by
    have : (sizeLine : Nat) ≤ (2 ^ 63 - 1) / 8 := by decide
    omega
  have hfit : ¬ (!Builtin.List.listFitsIndex k) = true := by
    rw [fitsIndex_both h1 h2]
    exact Bool.false_ne_true
  have hlong : ¬ Builtin.List.listTooLong (its.toArray.size * k.toNat) = true := by
    rw [notLongL hlen]
    exact Bool.false_ne_true
  have hnew : List.foldl (fun x1 x2 => x1 ++ x2) #[] (List.replicate (if its.toArray.isEmpty = true then 0 else k.toNat) its.toArray) = (List.replicate k.toNat its).flatten.toArray := by
    have f0 : ∀ m : Nat, List.foldl (fun x1 x2 => x1 ++ x2) #[] (List.replicate m its.toArray) = (List.replicate m its).flatten.toArray := fun m => by
      have := foldl_rep its m []
      rw [List.nil_append] at this
      exact this
    rw [f0]
    cases its with
    | nil => simp
    | cons a r' => rw [if_neg (by simp)]
  refine wpAny_binaryOp_repeat_ref (T := "list") (U := "int") (by decide) ⟨_, e, rfl⟩ (fun s' => typeIs_int s' k t) noFill_list_mul F.fills_int_mul F.slot_int_rmul repeat_list F.slot_int_index.lookup
    (call_meets F.slot_int_rmul (typeIs_int s k t) F.entry_int_rmul (F.args_int_rmul_2 _ _) (int___rmul___int_list k t l its.toArray n)
      ⟨e, rfl, ⟨_, e, rfl⟩, call_meets F.slot_list_mul ⟨_, e, rfl⟩ F.entry_list_mul (F.args_list_mul_2 _ _) (AutoListH.list___mul___list_int_3 l its.toArray n k t hfit hcap hlong) ⟨e, ?_⟩⟩)
  rw [hnew]
  exact ⟨.ref _, _, I.lnew (t' := s.toks) (r.rep k.toNat) (by rw [len_rep, Nat.mul_comm]; exact hz), rfl, q _ I.fresh⟩
end
section
variable {prog : Program} {w : World} {A : Around} {E : Value → Shared → Prop} {s : Shared}
end
section
variable {X : Cx}
end
end L2
namespace L2
open PySem PySem.Spec PyProof.Rows
theorem Vals.ints : ∀ {ns : List Int} {us : List Value}, Vals (ns.map V.int) us → IntsAre us ns
  | [], us, h => by
    rw [List.map_nil] at h
    cases h
    exact IntsAre.nil
  | n :: ns, us, h => by
    rw [List.map_cons] at h
    cases h with
    | cons r t =>
      obtain ⟨k, rfl⟩ := r
      exact IntsAre.cons n k (Vals.ints t)
theorem Vals.bls : ∀ {bs : List Bool} {us : List Value}, Vals (bs.map V.bl) us → us = bs.map Value.bool
  | [], us, h => by
    rw [List.map_nil] at h
    cases h
    rfl
  | b :: bs, us, h => by
    rw [List.map_cons] at h
    cases h with
    | cons r t =>
      cases r
      rw [Vals.bls t, List.map_cons]
theorem Vals.ref1 {a : Addr} {us : List Value} (r : Vals [V.ref a] us) : us = [Value.ref a] := by
  cases r with
  | cons r t =>
    cases t
    cases r
    rfl
section
variable {prog : Program} {w : World} {A : Around} {E : Value → Shared → Prop} {s : Shared} {l : Addr} {its : List Value} {ns : List Int} {Q : Value → Shared → Prop}
theorem sum_raw (hh : A.handled = none) (hl : s.heap.IsList l its.toArray) (hi : IntsAre its ns)
    (h : ∀ h' tk t', (∀ b o, s.heap.get? b = some o → h'.get? b = some o) → Q (.int ns.sum t') { s with heap := h', toks := tk }) : wpAny (model prog w) A (call (.builtin "sum") [.ref l]) Q E s := by
  obtain ⟨xs, e⟩ := hi.allInts.items
  have hn : numsOf (intItems xs).toList = ns := by rw [← e]; exact hi.numsOf
  rw [nums_intItems] at hn
  rw [e] at hl
  refine PySem.sum_intListG hh hl fun h' tk t' hk => ?_
  have := h h' tk t' hk
  rw [preSum_eq, List.take_of_length_le (by simp), hn]; exact this
theorem max_raw (hh : A.handled = none) (hl : s.heap.IsList l its.toArray) (hi : IntsAre its ns) (hne : 0 < ns.length)
    (h : ∀ h' tk M t', (∀ b o, s.heap.get? b = some o → h'.get? b = some o) → M ∈ ns → (∀ a, a ∈ ns → a ≤ M) → Q (.int M t') { s with heap := h', toks := tk }) : wpAny (model prog w) A (call (.builtin "max") [.ref l]) Q E s := by
  obtain ⟨xs, e⟩ := hi.allInts.items
  have hn : numsOf (intItems xs).toList = ns := by rw [← e]; exact hi.numsOf
  rw [nums_intItems] at hn
  subst hn
  rw [e] at hl
  have hsz : 0 < xs.size := by simpa using hne
  refine PySem.max_intList hh hl hsz fun v h' tk hv hk => ?_
  obtain ⟨t, rfl⟩ := intItems_at hv
  obtain ⟨h1, h2⟩ := argBest_gt (numAt xs) (xs.size - 1)
  refine h h' tk _ t hk ?_ fun a ha => ?_
  · rw [numAt_eq]; exact PySem.getD_mem (by rw [List.length_map, Array.length_toList]; omega)
  · obtain ⟨j, hj, rfl⟩ := mem_getD ha
    rw [List.length_map, Array.length_toList] at hj
    rw [← numAt_eq]; exact h2 j (by omega)
end
section
variable {X : Cx}
def rSum (K : PySem.W.Frag) : List V → Hp → VK → Prop := fun vs H Q => ∃ (a : Addr) (ns : List Int), vs = [V.ref a] ∧ SqL K H a (ns.map V.int) ∧ Q (.int ns.sum) H
def rMax (K : PySem.W.Frag) : List V → Hp → VK → Prop := fun vs H Q => ∃ (a : Addr) (ns : List Int), vs = [V.ref a] ∧ SqL K H a (ns.map V.int) ∧ 0 < ns.length ∧ ∀ m, m ∈ ns → (∀ y, y ∈ ns → y ≤ m) → Q (.int m) H
theorem cr_sum (hc : X.calm = true) : CallR X (.builtin "sum") (rSum X.K) := by
  intro pins s σ H vs us Q I r h
  obtain ⟨a, ns, rfl, hs, q⟩ := h
  obtain ⟨its, rv, hl, _⟩ := I.list hs
  rw [Vals.ref1 r]
  exact sum_raw (I.ok.hd hc) hl.isList rv.ints fun h' tk t' hk => ⟨.int _, H, I.kept hk, ⟨_, rfl⟩, q⟩
theorem cr_max (hc : X.calm = true) : CallR X (.builtin "max") (rMax X.K) := by
  intro pins s σ H vs us Q I r h
  obtain ⟨a, ns, rfl, hs, hne, q⟩ := h
  obtain ⟨its, rv, hl, _⟩ := I.list hs
  rw [Vals.ref1 r]
  exact max_raw (I.ok.hd hc) hl.isList rv.ints hne fun h' tk m t' hk h1 h2 => ⟨.int _, H, I.kept hk, ⟨_, rfl⟩, q m h1 h2⟩
end
section
variable {X : Cx}
def rIndex (K : PySem.W.Frag) : V → List V → Hp → VK → Prop := fun x xs H Q => ∃ (a : Addr) (ys : List V) (y : V) (j : Nat) (z : V), x = V.ref a ∧ xs = [y] ∧ SqL K H a ys ∧ flatV y = true ∧ ys.all flatV = true ∧ ys[j]? = some z ∧ eqV z y = true ∧
  (∀ (m : Nat) (z' : V), m < j → ys[m]? = some z' → eqV z' y = false) ∧ Q (.int (j : Nat)) H
theorem flat_at {ys : List V} (f : ys.all flatV = true) {j : Nat} {z : V} (h : ys[j]? = some z) : flatV z = true := List.all_eq_true.mp f z (List.mem_of_getElem? h)
theorem mt_index : MtR X "list.index" (rIndex X.K) := by
  intro pins s σ H x xs v us Q I rx rxs h
  obtain ⟨a, ys, y, j, z, rfl, rfl, hs, fy, fys, hz, hzj, hno, q⟩ := h
  cases rx
  cases rxs with
  | cons ry rt =>
    rename_i uy ut
    cases rt
    obtain ⟨its, rv, ⟨⟨cls, dd, data, sl⟩, n, ho, hc, hdn, hd⟩, hlen⟩ := I.list hs
    simp only at hc hd
    subst hc hd
    obtain ⟨u, hu, ru⟩ := rv.get hz
    obtain ⟨hjl, hje⟩ := List.getElem?_eq_some_iff.mp hu
    have hvl := rv.length
    have hj : j < its.toArray.size := by simpa using hjl
    have hsl := sizeLine_eq
    refine call_meets PySem.F.slot_list_index ⟨_, ho, rfl⟩ PySem.F.entry_list_index (PySem.F.args_list_index_2 _ _)
      (SeqAt.list_indexAt a its.toArray n dd sl uy (eqU y) j hj (by omega) ?_ ?_) ⟨ho, fun u' hu' => mem_eqAt ry fy rv fys u' (by simpa using hu'), ?_⟩
    · have e1 : its.toArray[j] = u := by simpa using hje
      rw [e1, eqU_of ru (flat_at fys hz)]
      exact hzj
    · intro m hm hmj
      have hml : m < its.length := by simpa using hm
      have hmy : m < ys.length := by omega
      have hy' : ys[m]? = some ys[m] := List.getElem?_eq_getElem hmy
      obtain ⟨u2, hu2, ru2⟩ := rv.get hy'
      obtain ⟨_, hme⟩ := List.getElem?_eq_some_iff.mp hu2
      have e1 : its.toArray[m] = u2 := by simpa using hme
      rw [e1, eqU_of ru2 (flat_at fys hy')]
      exact hno m _ hmj hy'
    · exact ⟨.int (j : Nat), H, I.tok _, ⟨_, rfl⟩, q⟩
end
section
variable {X : Cx}
end
theorem iter_any {prog : Program} {w : World} {A : Around} {E : Value → Shared → Prop} {s : Shared} {l : Addr} {items : Array Value} {Q : Value → Shared → Prop} (hl : s.heap.IsList l items)
    (h : ∀ s₂ : Shared, s₂ = { s with heap := s.heap.push { cls := .type "list_iterator", data := .fields #[.ref l, .int 0 0] } } →
      (s₂.heap.IsListIter s.heap.objs.size l 0 ∧ s₂.heap.IsList l items) → l ≠ s.heap.objs.size → Q (.ref s.heap.objs.size) s₂) : wpAny (model prog w) A (pyIter (.ref l)) Q E s := by
  have hlt : l < s.heap.objs.size := by obtain ⟨_, e, _⟩ := hl; exact Heap.lt_size e
  exact wpAny_pyIter_list hl (h _ rfl ⟨⟨_, Heap.get?_push_size _ rfl, rfl, rfl⟩, hl.push _⟩ (Nat.ne_of_lt hlt))
theorem truth_bools {prog : Program} {w : World} {A : Around} {bs : List Bool} {its : List Value} (e : its = bs.map Value.bool) :
    TruthOf prog w A (fun i v => its.toArray[i]? = some v) (fun i => bs.getD i false) := fun i v s Q E hv hq => by
  have hv' : its[i]? = some v := by simpa using hv
  rw [e, List.getElem?_map] at hv'
  obtain ⟨b, hb, rfl⟩ := Option.map_eq_some_iff.mp hv'
  have hg : bs.getD i false = b := by rw [List.getD_eq_getElem?_getD, hb] <;> rfl
  have hq' : Q (bs.getD i false) s := hq
  rw [hg] at hq'
  exact wpAny_truthy_bool hq'
theorem all_range : ∀ bs : List Bool, (List.range bs.length).all (fun i => bs.getD i false) = bs.all id
  | [] => rfl
  | b :: bs => by
    rw [List.length_cons, List.range_succ_eq_map, List.all_cons, List.all_map, List.all_cons, ← all_range bs]
    all_goals rfl
section
variable {X : Cx}
def rAll (K : PySem.W.Frag) : List V → Hp → VK → Prop := fun vs H Q => ∃ (a : Addr) (bs : List Bool), vs = [V.ref a] ∧ SqL K H a (bs.map V.bl) ∧ Q (.bl (bs.all id)) H
theorem cr_all (hc : X.calm = true) : CallR X (.builtin "all") (rAll X.K) := by
  intro pins s σ H vs us Q I r h
  obtain ⟨a, bs, rfl, hs, q⟩ := h
  obtain ⟨its, rv, hl, _⟩ := I.list hs
  rw [Vals.ref1 r]
  have hb := rv.bls
  refine call_all_walk (iter_any hl.isList fun s₂ e2 st hne => ?_)
  subst e2
  refine ⟨_, _, _, _, _, _, _, rfl, Walks.list (A := X.A.in1) (I.ok.hd hc) _ a hne its.toArray, st, truth_bools hb, fun h' tk hk => ?_⟩
  refine ⟨.bl _, H, I.kept fun b o eo => hk b o (fun hmem => ?_) (Heap.get?_push_of_some _ eo), ?_, q⟩
  · rcases List.mem_cons.mp hmem with e1 | hmem
    · exact absurd (e1 ▸ Heap.lt_size eo) (Nat.lt_irrefl _)
    · cases hmem
  · show Value.bool _ = Value.bool _
    rw [← all_range, hb, List.size_toArray, List.length_map]
end
section
variable {X : Cx} {pins : List (Addr × Obj)} {σ : St} {H : Hp} {s : Shared}
end
section
variable {X : Cx}
end
end L2
namespace L2
open PySem PySem.Spec PyProof.Rows
abbrev CellAt (h : Heap) (c : Addr) (v : Option Value) : Prop := h.IsCell c v
def relS (scope sc : Scope) : Scope :=
  { scope with names := scope.names.map fun (n, k) => if (k == .free && sc.kind == .function && sc.names.lookup n == some .cell) then (n, .cell) else (n, k) }
def cloFrom (cells : List (Str × Addr)) : List (Str × NameKind) → List (Str × Addr) → List (Str × Addr)
  | [], acc => acc
  | (n, k) :: r, acc => if k == .free then cloFrom cells r ((n, (cells.lookup n).getD 0) :: acc) else cloFrom cells r acc
theorem closure_loop (env : Env) (f : Str × NameKind → List (Str × Addr) → Sem (ForInStep (List (Str × Addr))))
    (hf : ∀ n k c, f (n, k) c = if k == .free then (do let a ← cellOf env n; pure (.yield ((n, a) :: c))) else pure (.yield c)) :
    ∀ (names : List (Str × NameKind)) (acc : List (Str × Addr)), (∀ y ∈ names, y.2 = .free → ∃ c, env.cells.lookup y.1 = some c) → forIn names acc f = pure (cloFrom env.cells names acc)
  | [], acc, _ => by rw [List.forIn_nil]; rfl
  | (n, k) :: r, acc, h => by
    rw [List.forIn_cons, hf]
    have ih := fun acc => closure_loop env f hf r acc fun y hy => h y (List.mem_cons_of_mem _ hy)
    unfold cloFrom
    by_cases hk : (k == NameKind.free) = true
    · rw [if_pos hk, if_pos hk]
      obtain ⟨c, hc⟩ := h (n, k) List.mem_cons_self (by simpa using hk)
      have e : cellOf env n = pure c := by unfold cellOf; rw [hc]
      rw [e]
      have e2 : (env.cells.lookup n).getD 0 = c := by rw [hc]; rfl
      rw [e2]
      exact ih _
    · rw [if_neg hk, if_neg hk]
      exact ih _
theorem closure_ok {scope : Scope} {env : Env} (h : ∀ y ∈ scope.names, y.2 = .free → ∃ c, env.cells.lookup y.1 = some c) : closureFor scope env = pure (cloFrom env.cells scope.names []) := by
  simp only [closureFor]
  rw [closure_loop env _ (fun n k c => rfl) scope.names [] h]
  rfl
theorem mem_lookup {α : Type} : ∀ {l : List (Str × α)} {n : Str} {c : α}, (n, c) ∈ l → ∃ c', l.lookup n = some c'
  | (k, v) :: r, n, c, h => by
    rw [List.lookup_cons]
    cases hb : n == k with
    | true => exact ⟨_, rfl⟩
    | false =>
      rcases List.mem_cons.mp h with e | h
      · cases e; simp at hb
      · exact mem_lookup h
theorem cloFrom_mem {cells : List (Str × Addr)} : ∀ {names : List (Str × NameKind)} {acc : List (Str × Addr)} {n : Str} {c : Addr}, (n, c) ∈ cloFrom cells names acc → (n, c) ∈ acc ∨ ((n, .free) ∈ names ∧ c = (cells.lookup n).getD 0)
  | [], _, _, _, h => .inl h
  | (m, k) :: r, acc, n, c, h => by
    unfold cloFrom at h
    split at h
    · rename_i hk
      have hk : k = .free := by simpa using hk
      rcases cloFrom_mem h with h | ⟨h1, h2⟩
      · rcases List.mem_cons.mp h with e | h
        · cases e; exact .inr ⟨hk ▸ List.mem_cons_self, rfl⟩
        · exact .inl h
      · exact .inr ⟨List.mem_cons_of_mem _ h1, h2⟩
    · rcases cloFrom_mem h with h | ⟨h1, h2⟩
      · exact .inl h
      · exact .inr ⟨List.mem_cons_of_mem _ h1, h2⟩
theorem cloFrom_acc {cells : List (Str × Addr)} : ∀ {names : List (Str × NameKind)} {acc : List (Str × Addr)} {p : Str × Addr}, p ∈ acc → p ∈ cloFrom cells names acc
  | [], _, _, h => h
  | (m, k) :: r, acc, p, h => by
    unfold cloFrom
    split
    · exact cloFrom_acc (List.mem_cons_of_mem _ h)
    · exact cloFrom_acc h
theorem cloFrom_has {cells : List (Str × Addr)} : ∀ {names : List (Str × NameKind)} {acc : List (Str × Addr)} {n : Str}, (n, .free) ∈ names → (n, (cells.lookup n).getD 0) ∈ cloFrom cells names acc
  | (m, k) :: r, acc, n, h => by
    unfold cloFrom
    rcases List.mem_cons.mp h with e | h
    · cases e
      exact cloFrom_acc List.mem_cons_self
    · split
      · exact cloFrom_has h
      · exact cloFrom_has h
theorem cells_mem : ∀ {names : List (Str × NameKind)} {h : Heap} {acc : List (Str × Addr)} {x : Str} {c : Addr}, (x, c) ∈ cellsFrom h.objs.size names acc →
    (x, c) ∈ acc ∨ ((x, .cell) ∈ names ∧ h.objs.size ≤ c ∧ CellAt (pushCells h names) c none)
  | [], _, _, _, _, h => .inl h
  | (n, k) :: r, h, acc, x, c, hm => by
    unfold cellsFrom at hm
    unfold pushCells
    split at hm
    · rename_i hk
      rw [if_pos hk]
      have hk : k = .cell := by simpa using hk
      rw [← Heap.size_push h { cls := .type "cell", data := .cell none }] at hm
      rcases cells_mem hm with hm | ⟨h1, h2, h3⟩
      · rcases List.mem_cons.mp hm with e | hm
        · cases e
          exact .inr ⟨hk ▸ List.mem_cons_self, Nat.le_refl _, _, pushCells_keeps r _ _ _ (Heap.get?_push_size _ rfl), rfl⟩
        · exact .inl hm
      · rw [Heap.size_push] at h2
        exact .inr ⟨List.mem_cons_of_mem _ h1, Nat.le_of_succ_le h2, h3⟩
    · rename_i hk
      rw [if_neg hk]
      rcases cells_mem hm with hm | ⟨h1, h2, h3⟩
      · exact .inl hm
      · exact .inr ⟨List.mem_cons_of_mem _ h1, h2, h3⟩
theorem cells_acc : ∀ {names : List (Str × NameKind)} {n : Nat} {acc : List (Str × Addr)} {p : Str × Addr}, p ∈ acc → p ∈ cellsFrom n names acc
  | [], _, _, _, h => h
  | (m, k) :: r, n, acc, p, h => by
    unfold cellsFrom
    split
    · exact cells_acc (List.mem_cons_of_mem _ h)
    · exact cells_acc h
theorem cells_has : ∀ {names : List (Str × NameKind)} {n : Nat} {acc : List (Str × Addr)} {x : Str}, (x, .cell) ∈ names → ∃ c, (x, c) ∈ cellsFrom n names acc
  | (m, k) :: r, n, acc, x, h => by
    unfold cellsFrom
    rcases List.mem_cons.mp h with e | h
    · cases e
      exact ⟨n, cells_acc List.mem_cons_self⟩
    · split
      · exact cells_has h
      · exact cells_has h
theorem cells_inj : ∀ {names : List (Str × NameKind)} {h : Heap} {acc : List (Str × Addr)} {x y : Str} {c : Addr}, (∀ p ∈ acc, p.2 < h.objs.size) → (∀ x y c, (x, c) ∈ acc → (y, c) ∈ acc → x = y) →
    (x, c) ∈ cellsFrom h.objs.size names acc → (y, c) ∈ cellsFrom h.objs.size names acc → x = y
  | [], _, _, _, _, _, _, hi, h1, h2 => hi _ _ _ h1 h2
  | (n, k) :: r, h, acc, x, y, c, hl, hi, h1, h2 => by
    unfold cellsFrom at h1 h2
    split at h1
    · rename_i hk
      rw [if_pos hk] at h2
      rw [← Heap.size_push h { cls := .type "cell", data := .cell none }] at h1 h2
      refine cells_inj (h := h.push _) (fun p hp => ?_) (fun x y c a b => ?_) h1 h2
      · rw [Heap.size_push]
        rcases List.mem_cons.mp hp with rfl | hp
        · exact Nat.lt_succ_self _
        · exact Nat.lt_succ_of_lt (hl p hp)
      · rcases List.mem_cons.mp a with e | a <;> rcases List.mem_cons.mp b with e' | b
        · cases e; cases e'; rfl
        · cases e; exact absurd (hl _ b) (Nat.lt_irrefl _)
        · cases e'; exact absurd (hl _ a) (Nat.lt_irrefl _)
        · exact hi _ _ _ a b
    · rename_i hk
      rw [if_neg hk] at h2
      exact cells_inj hl hi h1 h2
theorem newEnv_comp {M : Model} {A : Around} {E : Value → Shared → Prop} {s : Shared} {scope : Scope} {globals : Addr} {closure : List (Str × Addr)} {qual : Str} {func : Option Addr} {code : Value} {around : Env} {builtins : Addr} {Q : Env → Shared → Prop}
    (h : Q (newEnv scope s.heap.objs.size globals (cellsFrom (s.heap.objs.size + 1) scope.names closure) qual func code (some around) builtins)
      { s with heap := pushCells (s.heap.push { cls := .type "dict", data := .dict #[] }) scope.names }) :
    wpAny M A (newFunctionEnv scope globals closure [] qual func code (some around) builtins) Q E s := by
  simp only [newFunctionEnv, Option.isSome_some, if_true]
  refine wpAny_bind (wpAny_alloc ?_)
  refine wpAny_bind (wpAny_layCells _ (fun n k c => rfl) scope.names closure _ _ ?_)
  rw [show ({ s with heap := s.heap.push { cls := .type "dict", data := .dict #[] } } : Shared).heap.objs.size = s.heap.objs.size + 1 from Heap.size_push ..]
  rw [List.forIn_nil]
  exact wpAny_bind (wpAny_pure (wpAny_pure h))
theorem lookup_relS {sc : Scope} : ∀ {names : List (Str × NameKind)} {x : Str} {k : NameKind},
    (names.map fun (n, k) => if (k == NameKind.free && sc.kind == .function && sc.names.lookup n == some .cell) then (n, NameKind.cell) else (n, k)).lookup x = some k →
    ∃ k', names.lookup x = some k' ∧ (k = k' ∨ (k' = .free ∧ k = .cell))
  | [], _, _, h => by simp at h
  | (n, k₀) :: r, x, k, h => by
    have ih := @lookup_relS sc r x k
    have h' : List.lookup x ((if (k₀ == NameKind.free && sc.kind == .function && sc.names.lookup n == some .cell) = true then (n, NameKind.cell) else (n, k₀)) :: (r.map _)) = some k := h
    cases hx : x == n with
    | true =>
      simp only [List.lookup_cons, hx]
      by_cases hc : (k₀ == NameKind.free && sc.kind == .function && sc.names.lookup n == some .cell) = true
      · rw [if_pos hc] at h'
        simp only [List.lookup_cons, hx] at h'
        cases h'
        simp only [Bool.and_eq_true, beq_iff_eq] at hc
        exact ⟨k₀, rfl, .inr ⟨hc.1.1, rfl⟩⟩
      · rw [if_neg hc] at h'
        simp only [List.lookup_cons, hx] at h'
        cases h'
        exact ⟨_, rfl, .inl rfl⟩
    | false =>
      simp only [List.lookup_cons, hx]
      by_cases hc : (k₀ == NameKind.free && sc.kind == .function && sc.names.lookup n == some .cell) = true
      · rw [if_pos hc] at h'
        simp only [List.lookup_cons, hx] at h'
        exact ih h'
      · rw [if_neg hc] at h'
        simp only [List.lookup_cons, hx] at h'
        exact ih h'
structure BlkOk (N : List Str) (sc scope : Scope) (own : List (Str × Nat)) : Prop where
  kind : scope.kind = .function
  uniq : ∀ y ∈ scope.names, scope.names.lookup y.1 = some y.2
  ix : ∀ p ∈ own, N[p.2]? = some p.1
  free : ∀ y ∈ scope.names, y.2 = .free → sc.names.lookup y.1 = some .cell ∨ sc.names.lookup y.1 = some .free
  own : ∀ y ∈ scope.names, y.2 = .local ∨ y.2 = .cell → y.1 ∈ own.map (·.1) ∨ y.1 ∉ N
def wipe (σ : St) : List Nat → St
  | [] => σ
  | v :: vs => (wipe σ vs).set v none
theorem wipe_length (σ : St) : ∀ vs : List Nat, (wipe σ vs).length = σ.length
  | [] => rfl
  | v :: vs => by unfold wipe; rw [List.length_set, wipe_length σ vs]
theorem wipe_some {σ : St} {i : Nat} {x : V} : ∀ {vs : List Nat}, (wipe σ vs)[i]? = some (some x) → σ[i]? = some (some x) ∧ i ∉ vs
  | [], h => ⟨h, by simp⟩
  | v :: vs, h => by
    unfold wipe at h
    by_cases hi : v = i
    · subst hi
      by_cases hv : v < (wipe σ vs).length
      · rw [List.getElem?_set_self hv] at h; cases h
      · rw [List.getElem?_eq_none (by simpa using hv)] at h; cases h
    · rw [List.getElem?_set_ne hi] at h
      obtain ⟨h1, h2⟩ := wipe_some h
      exact ⟨h1, by simp only [List.mem_cons, not_or]; exact ⟨fun e => hi e.symm, h2⟩⟩
abbrev Cx.blk (X : Cx) (s : Shared) (H : Hp) (scope : Scope) (cenv : Env) (fp : List Addr) : Cx := { X with s_0 := s, H_0 := H, env := cenv, outer := X.stack, ex := fp, fn := fun x => scope.names.lookup x == some .cell, pn := [], xe := fun _ _ => False }
section
variable {X : Cx} {pins : List (Addr × Obj)} {σ : St} {H : Hp} {s : Shared}
theorem block_start {scope : Scope} {own : List (Str × Nat)} {fp : List Addr} (I : Inv X pins σ H s) (ok : BlkOk X.N X.env.scope scope own) (hN : X.N.Nodup) (hfp : ∀ b ∈ fp, FpOk X pins H b ∧ b < s.heap.objs.size) :
    Inv (X.blk s H scope (compEnvC scope (cellsFrom (s.heap.objs.size + 1) scope.names (cloFrom X.env.cells scope.names [])) s.heap.objs.size X.env) fp) [] (wipe σ (own.map (·.2))) H { s with heap := pushCells (s.heap.push { cls := .type "dict", data := .dict #[] }) scope.names } := by
  have hfree : ∀ y ∈ scope.names, y.2 = .free → ∃ c, X.env.cells.lookup y.1 = some c := fun y hy e => by
    rcases ok.free y hy e with k | k
    · exact I.ok.has _ (.inl k)
    · exact I.ok.has _ (.inr k)
  generalize hcenv : compEnvC scope (cellsFrom (s.heap.objs.size + 1) scope.names (cloFrom X.env.cells scope.names [])) s.heap.objs.size X.env = cenv
  have kp : ∀ b o, s.heap.get? b = some o → (pushCells (s.heap.push { cls := .type "dict", data := .dict #[] }) scope.names).get? b = some o := fun b o e => pushCells_keeps _ _ _ _ (Heap.get?_push_of_some _ e)
  have hL : cenv.locals = s.heap.objs.size := by rw [← hcenv]; rfl
  have hcl : cenv.cells = cellsFrom (s.heap.objs.size + 1) scope.names (cloFrom X.env.cells scope.names []) := by rw [← hcenv]; rfl
  have hsc : cenv.scope = relS scope X.env.scope := by rw [← hcenv]; rfl
  rw [← Heap.size_push s.heap { cls := .type "dict", data := .dict #[] }] at hcl
  have cm : ∀ {y c}, (y, c) ∈ cloFrom X.env.cells scope.names [] → X.env.cells.lookup y = some c ∧ c < s.heap.objs.size := fun {y c} hm => by
    rcases cloFrom_mem hm with hm | ⟨h1, rfl⟩
    · cases hm
    · obtain ⟨c, hc⟩ := hfree _ h1 rfl
      rw [hc]
      obtain ⟨w, z⟩ := I.cell _ _ hc
      exact ⟨rfl, z.lt⟩
  have mem : ∀ {y c}, cenv.cells.lookup y = some c → (X.env.cells.lookup y = some c ∧ c < s.heap.objs.size) ∨ (s.heap.objs.size + 1 ≤ c ∧ CellAt (pushCells (s.heap.push { cls := .type "dict", data := .dict #[] }) scope.names) c none) := fun {y c} e => by
    rw [hcl] at e
    rcases cells_mem (PySem.mem_of_lookup e) with hm | ⟨_, h2, h3⟩
    · exact .inl (cm hm)
    · rw [Heap.size_push] at h2; exact .inr ⟨h2, h3⟩
  have look : ∀ {y}, scope.names.lookup y = some .free → ∃ c, cenv.cells.lookup y = some c ∧ X.env.cells.lookup y = some c := fun {y} hl => by
    have hy : (y, NameKind.free) ∈ scope.names := PySem.mem_of_lookup hl
    obtain ⟨c', e'⟩ := mem_lookup (cells_acc (names := scope.names) (n := (s.heap.push { cls := .type "dict", data := .dict #[] }).objs.size) (cloFrom_has (cells := X.env.cells) (acc := []) hy))
    rw [← hcl] at e'
    refine ⟨c', e', ?_⟩
    rw [hcl] at e'
    rcases cells_mem (PySem.mem_of_lookup e') with hm | ⟨h1, _, _⟩
    · exact (cm hm).1
    · have := ok.uniq _ h1
      rw [hl] at this; cases this
  have okB : (X.blk s H scope cenv fp).Ok := by
    refine ⟨I.ok.mod, by show cenv.scope.kind = _; rw [hsc]; exact ok.kind, by show cenv.globals = _; rw [← hcenv]; exact I.ok.glob, by show cenv.builtins = _; rw [← hcenv]; exact I.ok.blt, by show s.heap.objs.size ≤ cenv.locals; rw [hL]; exact Nat.le_refl _,
      fun y z c e1 e2 => ?_, fun y hy => ?_, fun y c z e => ?_, I.ok.hd, I.ok.frames, .inl rfl, fun b hb => ⟨?_, fun y c e z => ?_⟩, I.bs, Nat.le_trans I.ok.bsz I.sz, fun b o e hb => ?_, fun b hb z => ?_, I.stack, I.stkFree⟩
    · have e1 : cenv.cells.lookup y = some c := e1
      have e2 : cenv.cells.lookup z = some c := e2
      rw [hcl] at e1 e2
      refine cells_inj (fun p hp => ?_) (fun y z c a b => I.ok.inj y z c (cm a).1 (cm b).1) (PySem.mem_of_lookup e1) (PySem.mem_of_lookup e2)
      rw [Heap.size_push]
      exact Nat.lt_succ_of_lt (cm (y := p.1) (c := p.2) hp).2
    · show ∃ c, cenv.cells.lookup y = some c
      have key : ∀ k, cenv.kindOf y = some k → (k = .cell ∨ k = .free) → ∃ c, cenv.cells.lookup y = some c := fun k hk hk' => by
        unfold Env.kindOf at hk
        rw [hsc] at hk
        obtain ⟨k', e, r⟩ := lookup_relS hk
        have : k' = .cell ∨ k' = .free := by
          rcases r with rfl | ⟨rfl, _⟩
          · exact hk'
          · exact .inr rfl
        rcases this with rfl | rfl
        · obtain ⟨c, hm⟩ := cells_has (n := (s.heap.push { cls := .type "dict", data := .dict #[] }).objs.size) (acc := cloFrom X.env.cells scope.names []) (PySem.mem_of_lookup e)
          obtain ⟨c', e'⟩ := mem_lookup hm
          exact ⟨c', by rw [hcl]; exact e'⟩
        · obtain ⟨c, h1, _⟩ := look e
          exact ⟨c, h1⟩
      rcases hy with hy | hy
      · exact key _ hy (.inl rfl)
      · exact key _ hy (.inr rfl)
    · have z : (scope.names.lookup y == some NameKind.cell) = true := z
      have z : scope.names.lookup y = some .cell := by simpa using z
      have e : cenv.cells.lookup y = some c := e
      rw [hcl] at e
      rcases cells_mem (PySem.mem_of_lookup e) with hm | ⟨_, h2, _⟩
      · rcases cloFrom_mem hm with hm | ⟨h1, _⟩
        · cases hm
        · have q := ok.uniq _ h1
          rw [z] at q; cases q
      · rw [Heap.size_push] at h2
        exact Nat.le_of_succ_le h2
    · show b ≠ cenv.locals
      rw [hL]; exact Nat.ne_of_lt (hfp b hb).2
    · have e : cenv.cells.lookup y = some c := e
      rcases mem e with ⟨h1, _⟩ | ⟨h1, _⟩
      · exact (hfp b hb).1.2.2.2.2.1 y c h1 z
      · have h2 : s.heap.objs.size + 1 ≤ b := by rw [← z]; exact h1
        exact absurd (Nat.lt_of_lt_of_le (hfp b hb).2 (Nat.le_of_succ_le h2)) (Nat.lt_irrefl _)
    · rcases (hfp b hb).1.2.2.2.1 with z | z
      · exact I.ok.noex b o e z
      · exact absurd (Nat.lt_of_lt_of_le (Heap.lt_size e) (Nat.le_trans I.ok.bsz z)) (Nat.lt_irrefl _)
    · rcases List.mem_cons.mp (I.stkSub b z) with z | z
      · exact (hfp b hb).1.2.1 z
      · exact (hfp b hb).1.2.2.1 z
  refine ⟨okB, rfl, I.bare, Un.kept kp, ⟨fun _ => none, ?_, fun i y av e1 e2 e3 => ?_⟩, fun y c e => ?_, ?_, fun y c e => ?_, fun p hp => ?_, I.hok.kept kp, by rw [wipe_length]; exact I.len⟩
  · show Heap.Ns _ cenv.locals _
    rw [hL]
    exact Heap.Ns.keeps (Heap.Ns.new ..) fun b o e => pushCells_keeps _ _ _ _ e
  · obtain ⟨e2, hne⟩ := wipe_some e2
    have hfr : scope.names.lookup y = some .free ∧ (cenv.kindOf y = some .cell ∨ cenv.kindOf y = some .free) := by
      have key : ∀ k, cenv.scope.names.lookup y = some k → k = .local ∨ k = .cell ∨ k = .free → scope.names.lookup y = some .free ∧ (cenv.kindOf y = some .cell ∨ cenv.kindOf y = some .free) := fun k hk hk' => by
        have hk0 := hk
        rw [hsc] at hk
        obtain ⟨k', e, r⟩ := lookup_relS hk
        have no : ¬ (k' = .local ∨ k' = .cell) := fun hh => by
          rcases ok.own _ (PySem.mem_of_lookup e) hh with e' | e'
          · obtain ⟨p, hp, hpy⟩ := List.mem_map.mp e'
            have e3 := ok.ix p hp
            have : p.1 = y := hpy
            rw [this] at e3
            exact hne (List.mem_map.mpr ⟨p, hp, nodup_ix hN e3 e1⟩)
          · exact e' (List.mem_of_getElem? e1)
        rcases r with rfl | ⟨rfl, rfl⟩
        · rcases hk' with rfl | rfl | rfl
          · exact absurd (.inl rfl) no
          · exact absurd (.inr rfl) no
          · exact ⟨e, .inr hk0⟩
        · exact ⟨e, .inl hk0⟩
      have e3 : Vis cenv.scope y := e3
      rcases e3 with e3 | e3 | e3
      · exact key _ e3 (.inl rfl)
      · exact key _ e3 (.inr (.inl rfl))
      · exact key _ e3 (.inr (.inr rfl))
    obtain ⟨m, hn, hl⟩ := I.loc
    have hvis : Vis X.env.scope y := (ok.free _ (PySem.mem_of_lookup hfr.1) rfl).elim (fun k => .inr (.inl k)) (fun k => .inr (.inr k))
    obtain ⟨w, r, q⟩ := hl i y av e1 e2 hvis
    refine ⟨w, r, .inr ⟨hfr.2, ?_⟩⟩
    obtain ⟨c, h1, h2⟩ := look hfr.1
    rcases q with ⟨k, _⟩ | ⟨_, c', e', z⟩
    · have k : X.env.scope.names.lookup y = some .local := k
      rcases ok.free _ (PySem.mem_of_lookup hfr.1) rfl with k' | k' <;> rw [show X.env.scope.names.lookup y = _ from k'] at k <;> cases k
    · rw [h2] at e'; cases e'
      exact ⟨c, h1, z.keeps kp⟩
  · have e : cenv.cells.lookup y = some c := e
    rcases mem e with ⟨h1, _⟩ | ⟨_, z⟩
    · obtain ⟨w, z⟩ := I.cell y c h1
      exact ⟨w, z.keeps kp⟩
    · exact ⟨_, z⟩
  · show H cenv.locals = none
    rw [hL]; exact I.hok.fresh (Nat.le_refl _)
  · have e : cenv.cells.lookup y = some c := e
    rcases mem e with ⟨h1, _⟩ | ⟨h1, _⟩
    · exact I.freeC y c h1
    · exact I.hok.fresh (Nat.le_of_succ_le h1)
  · exact absurd (show p ∈ ([] : List (Addr × Obj)) ++ [] from hp) (by simp)
theorem app_ok {E : Value → Shared → Prop} {D : Addr} {xs : List V} {y : V} {v : Value} {Q : Value → Shared → Prop} (I : Inv X pins σ H s) (hD : H D = some (.lst xs)) (hz : xs.length < sizeLine) (r : RelV y v)
    (h : ∀ s', Inv X pins σ (upd H D (.lst (xs ++ [y]))) s' → Q .none s') : wpAny (model X.prog X.w) X.A (call (.builtin "list.append") [.ref D, v]) Q E s := by
  obtain ⟨hz', its, n, ri, e⟩ := I.hok D _ hD
  have hl := ri.length
  refine append_at (hsz := by rw [List.size_toArray]; omega) e fun h' sb ho' => ?_
  refine h { s with heap := h' } (I.write (t' := s.toks) (by rw [hD]; trivial) (.inl rfl) (fun b u hb q => (sb.2 b hb).trans q) ⟨_, ho'⟩ ⟨by rw [List.length_append]; exact hz, its ++ [v], n + 1, ri.append (.cons r .nil), ?_⟩)
  rw [ho']
  simp
def PTs (X : Cx) (ifs : List Expr) (t : TT) : Prop :=
  ∀ (pins : List (Addr × Obj)) (s : Shared) (σ : St) (H : Hp) (Q : Bool → Hp → Prop), Inv X pins σ H s → t σ H Q →
    wpAny (model X.prog X.w) X.A (forIn ifs true fun c r => if r = true then do let ok ← isTrue c X.env (eval c X.env); pure (ForInStep.yield ok) else pure (ForInStep.yield r)) (TP X pins σ Q) X.xe s
def tYes : TT := fun _ H Q => Q true H
theorem pts_nil : PTs X [] tYes := fun _ _ _ H _ I h => wpAny_tests_nil ⟨H, I, h⟩
theorem pts_one {c : Expr} {t : TT} (h : PT X c t) : PTs X [c] t := fun pins s σ H Q I hw => wpAny_tests_one (h pins s σ H Q I hw)
end
theorem thnF {α : Type} {t : Sem α} {Q Q' : α → Shared → Prop} {M : Model} {A : Around} {E : Value → Shared → Prop} {s : Shared} (h : wpAny M A t Q (fun _ _ => False) s) (hQ : ∀ a s, Q a s → Q' a s) : wpAny M A t Q' E s := wpAny_mono h hQ fun _ _ z => False.elim z
theorem compLoop_any {prog : Program} {w : World} {A : Around} {R : Result → Shared → Prop} {s : Shared} {elt target iter : Expr} {ifs : List Expr} {scope : Scope} {pos : Pos} {it acc : Value} {env : Env} (I : Nat → Shared → Prop)
    (turn : ∀ n s, I n s → wpAny (model prog w) A (pyNext it) (fun r s₁ => match r with
      | none => R (.ok .next) s₁
      | some v => wpAny (model prog w) A (letOwnedTupleGo target it v) (fun _ s₁' => wpAny (model prog w) A (assign target env v) (fun _ s₂ =>
          wpAny (model prog w) A (forIn ifs true fun c r => if r = true then do let ok ← isTrue c env (eval c env); pure (ForInStep.yield ok) else pure (ForInStep.yield r)) (fun ok s₃ =>
            if ok = true then wpAny (model prog w) A (eval elt env) (fun x s₄ =>
              wpAny (model prog w) A (call (.builtin "list.append") [acc, x]) (fun _ s₅ => ∃ m, m < n ∧ I m s₅) (notedBy (model prog w) A env fun e s' => R (.error e) s') s₄) (notedBy (model prog w) A env fun e s' => R (.error e) s') s₃
            else ∃ m, m < n ∧ I m s₃) (notedBy (model prog w) A env fun e s' => R (.error e) s') s₂) (notedBy (model prog w) A env fun e s' => R (.error e) s') s₁') (notedBy (model prog w) A env fun e s' => R (.error e) s') s₁) (notedBy (model prog w) A env fun e s' => R (.error e) s') s)
    (n : Nat) (h : I n s) :
    codeAny (model prog w) A (.compLoop (.ListComp elt [⟨target, iter, ifs, 0⟩] scope pos) 0 it acc env) R s := by
  refine codeAny_loop rfl I (fun n s hI => ?_) n h
  show wpAny _ A ((compTurn (.ListComp elt [⟨target, iter, ifs, 0⟩] scope pos) 0 it acc env).onRaise (fun x => do noteFrame x env; theTreesLotGoes x)) _ _ s
  refine wpAny_noted ?_
  rw [compTurn_list]
  refine wpAny_bind (wpAny_standAt (wpAny_bind (wpAny_mono (turn n s hI) (fun r s₁ h₁ => ?_) fun _ _ h' => h')))
  cases r with
  | none => exact wpAny_pure h₁
  | some v =>
    refine wpAny_bind (wpAny_mono h₁ (fun _ s₁' h₁' => ?_) fun _ _ h' => h')
    refine wpAny_bind (wpAny_mono h₁' (fun _ s₂ h₂ => wpAny_bind (wpAny_mono h₂ (fun ok s₃ h₃ => ?_) fun _ _ h' => h')) fun _ _ h' => h')
    cases ok with
    | false => exact wpAny_pure ⟨rfl, h₃⟩
    | true =>
      exact wpAny_bind (wpAny_bind (wpAny_mono h₃ (fun x s₄ h₄ => wpAny_bind (wpAny_mono h₄ (fun _ s₅ h₅ => wpAny_pure (wpAny_pure ⟨rfl, h₅⟩)) fun _ _ h' => h')) fun _ _ h' => h'))
section
variable {X : Cx}
def tLc (wi : TI) (g : TG) (tt : TT) (te : TE) (vs : List Nat) : TE := fun σ H Q => wi σ H fun J H1 => ∀ D, H1 D = none → ∃ W : Nat → Nat → Hp → Prop, (∃ m, W 0 m (upd H1 D (.lst []))) ∧ ∀ i m H, W i m H →
  (J.stop i H ∧ Q (.ref D) H) ∨ (J.go i H ∧ ∃ Nx : Hp → Prop, (∀ H', Nx H' → ∃ m', m' < m ∧ W (i + 1) m' H') ∧ ∀ x H', J.yld i H x H' → g x (wipe σ vs) H' fun σ2 H2 => wipe σ2 vs = wipe σ vs ∧ tt σ2 H2 fun b H3 =>
    if b = true then te σ2 H3 fun y H4 => ∃ acc, H4 D = some (.lst acc) ∧ acc.length < sizeLine ∧ Nx (upd H4 D (.lst (acc ++ [y]))) else Nx H3)
theorem lc_core {pins : List (Addr × Obj)} {s : Shared} {σ : St} {H : Hp} {Q : VK} {elt tg iter : Expr} {ifs : List Expr} {scope : Scope} {own : List (Str × Nat)} {pos pos' : Pos} {wi : TI} {g : TG} {tt : TT} {te : TE} {use : Option (Value → Sem Unit)} {Qf : Value → Shared → Prop}
    (hc : X.calm = true) (hN : X.N.Nodup) (I : Inv X pins σ H s) (hi : PI X tg iter wi) (ok : BlkOk X.N X.env.scope scope own)
    (hg : ∀ (s : Shared) (H : Hp) (C : Addr) (cl : List (Str × Addr)) (fp : List Addr), PG (X.blk s H scope (compEnvC scope cl C X.env) fp) tg g) (ht : ∀ (s : Shared) (H : Hp) (C : Addr) (cl : List (Str × Addr)) (fp : List Addr), PTs (X.blk s H scope (compEnvC scope cl C X.env) fp) ifs tt)
    (he : ∀ (s : Shared) (H : Hp) (C : Addr) (cl : List (Str × Addr)) (fp : List Addr), PE (X.blk s H scope (compEnvC scope cl C X.env) fp) elt te) (hs : ∀ x, foldedSetIterable iter X.env x = pure x)
    (h : tLc wi g tt te (own.map (·.2)) σ H Q)
    (hRR : ∀ D C s' m H', Inv X pins σ H' s' → Q (.ref D) H' → s'.heap.Ns C m → FpOk X pins H' C → compPost (model X.prog X.w) X.A X.xe use Qf (.ref D) C (.ok .next) s') :
    wpAny (model X.prog X.w) X.A (comprehension (.ListComp elt [⟨tg, iter, ifs, 0⟩] scope pos) scope X.env pos' (newList []) false (eval iter X.env) use) Qf X.xe s := by
  have hfree : ∀ y ∈ scope.names, y.2 = .free → ∃ c, X.env.cells.lookup y.1 = some c := fun y hy e => by
    rcases ok.free y hy e with k | k
    · exact I.ok.has _ (.inl k)
    · exact I.ok.has _ (.inr k)
  refine wpAny_comprehension_free (use := use) rfl hs (closure_ok hfree) ok.kind (fun y hy e => by rw [ok.uniq y hy, e])
    (thn (hi pins s σ H _ I h) fun xv s1 hx => thn hx fun itv s2 h2 => ?_)
  obtain ⟨it, fp, tn, J, H2, e, I2, T, st2, f2, q⟩ := h2
  subst e
  refine wpAny_newObj_type (newEnv_comp ?_) (by show 0 ≤ sizeLine; decide)
  generalize hD : s2.heap.objs.size = D
  have hDn : H2 D = none := I2.hok.fresh (Nat.le_of_eq hD)
  obtain ⟨W, ⟨m0, w0⟩, turn⟩ := q D hDn
  -- the new list
  generalize hs3 : ({ s2 with heap := s2.heap.push { cls := .type "list", data := .seq ([] : List Value).toArray } } : Shared) = s3
  have I3 : Inv X pins σ (upd H2 D (.lst [])) s3 := by
    rw [← hs3]
    refine I2.laid (t' := s2.toks) (fun b o e => Heap.get?_push_of_some _ e) (Nat.le_of_eq hD) ⟨Nat.zero_le _, [], 0, .nil, ?_⟩
    rw [← hD]
    exact Heap.get?_push_size _ rfl
  have h3 : s3.heap = s2.heap.push { cls := .type "list", data := .seq ([] : List Value).toArray } := by rw [← hs3]
  have sz : ∀ b ∈ fp, b < s2.heap.objs.size := fun b hb => by
    obtain ⟨o, e, _⟩ := T.obj _ _ st2 b hb
    exact Heap.lt_size e
  have f3 : ∀ b ∈ fp, FpOk X pins (upd H2 D (.lst [])) b ∧ b < s3.heap.objs.size := fun b hb => by
    have hlt := sz b hb
    refine ⟨⟨?_, (f2 b hb).2⟩, by rw [h3, Heap.size_push]; exact Nat.lt_succ_of_lt hlt⟩
    rw [upd_ne (by rw [← hD]; exact Nat.ne_of_lt hlt)]
    exact (f2 b hb).1
  have st3 : tn 0 s3.heap := T.keep _ _ _ st2 fun b _ o e => by rw [h3]; exact Heap.get?_push_of_some _ e
  have I4 := block_start I3 ok hN f3
  have pg := hg s3 (upd H2 D (.lst [])) s3.heap.objs.size (cellsFrom (s3.heap.objs.size + 1) scope.names (cloFrom X.env.cells scope.names [])) fp
  have pt := ht s3 (upd H2 D (.lst [])) s3.heap.objs.size (cellsFrom (s3.heap.objs.size + 1) scope.names (cloFrom X.env.cells scope.names [])) fp
  have pe := he s3 (upd H2 D (.lst [])) s3.heap.objs.size (cellsFrom (s3.heap.objs.size + 1) scope.names (cloFrom X.env.cells scope.names [])) fp
  show codeAny _ _ (.compStart (.ListComp elt [⟨tg, iter, ifs, 0⟩] scope pos) 0 (.ref it) (.ref D) (compEnvC scope (cellsFrom (s3.heap.objs.size + 1) scope.names (cloFrom X.env.cells scope.names [])) s3.heap.objs.size X.env)) (compPost (model X.prog X.w) X.A X.xe use Qf (.ref D) s3.heap.objs.size) { s3 with heap := pushCells (s3.heap.push { cls := .type "dict", data := .dict #[] }) scope.names }
  have nfp : ∀ b ∈ fp, (upd H2 D (.lst [])) b = none := fun b hb => (f3 b hb).1.1
  generalize hce : compEnvC scope (cellsFrom (s3.heap.objs.size + 1) scope.names (cloFrom X.env.cells scope.names [])) s3.heap.objs.size X.env = ce at I4 pg pt pe ⊢
  have cL : ce.locals = s3.heap.objs.size := by subst hce; rfl
  generalize hH3 : upd H2 D (.lst []) = H3 at I3 I4 pg pt pe w0 nfp f3
  generalize hs4 : ({ s3 with heap := pushCells (s3.heap.push { cls := .type "dict", data := .dict #[] }) scope.names } : Shared) = s4 at I4 ⊢
  have st4 : tn 0 s4.heap := T.keep _ _ _ st3 fun b _ o e => by rw [← hs4]; exact pushCells_keeps _ _ _ _ (Heap.get?_push_of_some _ e)
  have stat : ∀ {σ' : St} {H' : Hp} {s' : Shared}, Inv (X.blk s3 H3 scope ce fp) [] σ' H' s' → (∀ b ∈ fp, H' b = none) → ∀ b ∈ fp, FpOk (X.blk s3 H3 scope ce fp) [] H' b := fun {σ' H' s'} I' hn b hb =>
    ⟨hn b hb, (I'.ok.exf b hb).1, I'.ok.exfs b hb, .inl hb, fun x c e => (I'.ok.exf b hb).2 x c e, fun p hp => absurd (show p ∈ ([] : List (Addr × Obj)) ++ [] from hp) (by simp)⟩
  have loop : codeAny (model X.prog X.w) X.A (.compLoop (.ListComp elt [⟨tg, iter, ifs, 0⟩] scope pos) 0 (.ref it) (.ref D) ce) (compPost (model X.prog X.w) X.A X.xe use Qf (.ref D) s3.heap.objs.size) s4 := by
    refine compLoop_any (fun n s' => ∃ i H', Inv (X.blk s3 H3 scope ce fp) [] (wipe σ (own.map (·.2))) H' s' ∧ tn i s'.heap ∧ (∀ b ∈ fp, H' b = none) ∧ W i n H') ?_ m0 ⟨0, H3, I4, st4, nfp, w0⟩
    rintro n s5 ⟨i, H5, I5, st5, n5, w5⟩
    rcases turn i n H5 w5 with ⟨stop, qq⟩ | ⟨go, Nx, hNx, step⟩
    · have td := T.done (X.blk s3 H3 scope ce fp) rfl rfl rfl hc i [] s5 _ H5 (fun _ _ => False) I5 (stat I5 n5) st5 stop
      refine thnF td fun r s6 zz => ?_
      obtain ⟨hr, I6⟩ := zz
      subst hr
      -- back in the def's context
      have I7 : Inv X pins σ H5 s6 := I3.call' (ch := fp) I6.os I6.base I6.hok I6.bare fun b hb => ⟨(f3 b hb).1.2.2.2.1, (f3 b hb).1.2.1, (f3 b hb).1.2.2.2.2.1, (f3 b hb).1.2.2.2.2.2⟩
      have nC : H5 s3.heap.objs.size = none := by
        have z : H5 ce.locals = none := I6.free
        rw [cL] at z
        exact z
      obtain ⟨m, hn, _⟩ := I6.loc
      have hn : s6.heap.Ns ce.locals m := hn
      rw [cL] at hn
      exact hRR D s3.heap.objs.size s6 m H5 I7 qq hn (I3.fpOk (Nat.le_refl _) nC)
    · have ti := T.item (X.blk s3 H3 scope ce fp) rfl rfl rfl hc i [] s5 _ H5 (fun _ _ => False) I5 (stat I5 n5) st5 go
      refine thnF ti fun r s6 zz => ?_
      obtain ⟨u, hr, h6⟩ := zz
      subst hr
      refine thnF h6 fun _ s7 zz => ?_
      obtain ⟨x, H7, I7, r7, y7, st7, n7⟩ := zz
      have I7' := I7.pinned (stat I7 n7) (T.obj _ _ st7)
      refine thnF (pg _ s7 _ H7 x u _ I7' r7 (step x H7 y7)) fun _ s8 zz => ?_
      obtain ⟨σ8, H8, I8, hw8, q8⟩ := zz
      refine thnF (pt _ s8 σ8 H8 _ I8 q8) fun b s9 zz => ?_
      obtain ⟨H9, I9, q9⟩ := zz
      -- the turn's end
      have fin : ∀ {s' : Shared} {H' : Hp}, Inv (X.blk s3 H3 scope ce fp) ([] ++ pinsAt fp s7.heap) σ8 H' s' → Nx H' → ∃ m, m < n ∧ ∃ i H', Inv (X.blk s3 H3 scope ce fp) [] (wipe σ (own.map (·.2))) H' s' ∧ tn i s'.heap ∧ (∀ b ∈ fp, H' b = none) ∧ W i m H' := fun {s' H'} I' nx => by
        obtain ⟨m', hm, w'⟩ := hNx H' nx
        have pin' : ∀ b ∈ fp, ∀ o, s7.heap.get? b = some o → s'.heap.get? b = some o ∧ H' b = none := fun b hb o e =>
          let z := I'.pin (b, o) (List.mem_append_right _ (List.mem_append_right _ (mem_pinsAt hb e)))
          ⟨z.1, z.2.1⟩
        have hl : (wipe σ (own.map (·.2))).length = σ8.length := by rw [← hw8, wipe_length]
        refine ⟨m', hm, i + 1, H', (I'.unpinned (pins := [])).weak hl (fun j v e => ?_), T.keep _ _ _ st7 fun b hb o e => (pin' b hb o e).1, fun b hb => ?_, w'⟩
        · rw [← hw8] at e
          exact (wipe_some e).1
        · obtain ⟨o, e, _⟩ := T.obj _ _ st7 b hb
          exact (pin' b hb o e).2
      cases b with
      | false =>
        simp only [Bool.false_eq_true, if_false] at q9 ⊢
        exact fin I9 q9
      | true =>
        simp only [if_true] at q9 ⊢
        refine thnF (pe _ s9 σ8 H9 _ I9 q9) fun z s10 zz => ?_
        obtain ⟨yv, H10, I10, r10, acc, hD10, hz10, nx⟩ := zz
        exact app_ok (X := X.blk s3 H3 scope ce fp) I10 hD10 hz10 r10 fun s11 I11 => fin I11 nx
  exact codeAny_compStart_list loop (T.self X.A 0 _ _ _ st4 loop)
theorem pe_lc {elt tg iter : Expr} {ifs : List Expr} {scope : Scope} {own : List (Str × Nat)} {pos : Pos} {wi : TI} {g : TG} {tt : TT} {te : TE} (hc : X.calm = true) (hN : X.N.Nodup) (hi : PI X tg iter wi) (ok : BlkOk X.N X.env.scope scope own)
    (hg : ∀ (s : Shared) (H : Hp) (C : Addr) (cl : List (Str × Addr)) (fp : List Addr), PG (X.blk s H scope (compEnvC scope cl C X.env) fp) tg g) (ht : ∀ (s : Shared) (H : Hp) (C : Addr) (cl : List (Str × Addr)) (fp : List Addr), PTs (X.blk s H scope (compEnvC scope cl C X.env) fp) ifs tt)
    (he : ∀ (s : Shared) (H : Hp) (C : Addr) (cl : List (Str × Addr)) (fp : List Addr), PE (X.blk s H scope (compEnvC scope cl C X.env) fp) elt te) (hs : ∀ x, foldedSetIterable iter X.env x = pure x := by intro _; rfl) :
    PE X (.ListComp elt [⟨tg, iter, ifs, 0⟩] scope pos) (tLc wi g tt te (own.map (·.2))) := by
  intro pins s σ H Q I h
  rw [eval_ListComp]
  refine lc_core hc hN I hi ok hg ht he hs h fun D C s' m H' I' q hn f => ⟨m, hn, fun h'' sb => ?_⟩
  obtain ⟨f0, f1, f2, f3, f4, f5⟩ := f
  exact ⟨.ref D, H', I'.turned (t' := s'.toks) (fun b o hb e => (sb.2 b hb).trans e) f0 f1 f3 f4 f5, rfl, q⟩
theorem ps_setLc {i : Nat} {y : Str} {py : Pos} {elt tg iter : Expr} {ifs : List Expr} {scope : Scope} {own : List (Str × Nat)} {pos spos : Pos} {wi : TI} {g : TG} {tt : TT} {te : TE} (hc : X.calm = true) (hN : X.N.Nodup) (hy : X.N[i]? = some y) (hyl : X.env.scope.names.lookup y = some .local)
    (hsw : swapsWith (.ListComp elt [⟨tg, iter, ifs, 0⟩] scope pos) (some (.Name y py)) spos.line X.env = pure true) (hi : PI X tg iter wi) (ok : BlkOk X.N X.env.scope scope own)
    (hg : ∀ (s : Shared) (H : Hp) (C : Addr) (cl : List (Str × Addr)) (fp : List Addr), PG (X.blk s H scope (compEnvC scope cl C X.env) fp) tg g) (ht : ∀ (s : Shared) (H : Hp) (C : Addr) (cl : List (Str × Addr)) (fp : List Addr), PTs (X.blk s H scope (compEnvC scope cl C X.env) fp) ifs tt)
    (he : ∀ (s : Shared) (H : Hp) (C : Addr) (cl : List (Str × Addr)) (fp : List Addr), PE (X.blk s H scope (compEnvC scope cl C X.env) fp) elt te) (hs : ∀ x, foldedSetIterable iter X.env x = pure x := by intro _; rfl) :
    PS X (.Assign [.Name y py] (.ListComp elt [⟨tg, iter, ifs, 0⟩] scope pos) spos) (tAsg (tLc wi g tt te (own.map (·.2))) (gName i)) := by
  intro pins s σ H D I h
  rw [exec_Assign_Name_used _ _ _ _ hsw]
  refine wpAny_bind (wpAny_standAt (wpAny_bind ?_))
  show wpAny _ X.A (do let _ ← comprehension (.ListComp elt [⟨tg, iter, ifs, 0⟩] scope pos) scope X.env (firstIterPos [⟨tg, iter, ifs, 0⟩] pos) (newList []) false (eval iter X.env) (some (assign (.Name y py) X.env))) _ _ s
  have h : tLc wi g tt te (own.map (·.2)) σ H (fun x H1 => gName i x σ H1 D.nx) := h
  refine wpAny_bind (thn (lc_core (Qf := fun _ s' => SP X pins D .next s') hc hN I hi ok hg ht he hs h fun L C s' m H' I' q hn f => ?_) fun _ s' hq => wpAny_pure (wpAny_pure hq))
  show wpAny _ _ (assign (.Name y py) X.env (.ref L)) _ _ _
  refine wpAny_assign_Name (store_ok2 (v := V.ref L) I' hN hy (.inl hyl) rfl (fun s2 I2 zz => ?_) (.inr hyl))
  obtain ⟨a, sb, ha⟩ := zz
  obtain ⟨f0, f1, f2, f3, f4, f5⟩ := f
  have haC : C ≠ a := by
    rcases ha with z | z
    · rw [z]; exact f1
    · exact fun e => f4 y a z e.symm
  refine ⟨m, hn.sameBut sb haC, fun h3 sb3 => ?_⟩
  exact ⟨_, H', I2.turned (t' := s2.toks) (fun b o hb e => (sb3.2 b hb).trans e) f0 f1 f3 f4 f5, q⟩
theorem sw_true {elt : Expr} {gs : List Comprehension} {scope : Scope} {pos py : Pos} {y : Str} {l : Nat} {env : Env} (hk : env.scope.kind = .function) (hy : env.scope.names.lookup y = some .local) (hl : (py.line == pos.line) = true)
    (ha : (scope.names.any fun (n, k) => n == y && (k == .local || k == .cell)) = false) : swapsWith (.ListComp elt gs scope pos) (some (.Name y py)) l env = pure true := by
  have ky : env.kindOf y = some .local := hy
  have hb : env.blockKind = .function := by unfold Env.blockKind; rw [hk]; rfl
  unfold swapsWith
  have hps : (Expr.Name y py).pos = py := rfl
  have hps2 : (Expr.ListComp elt gs scope pos).pos = pos := rfl
  simp only [hb, ky, ha, hps, hps2, hl]
  rfl
end
theorem lc_range {lo : Int} {n : Nat} {g : TG} {tt : TT} {te : TE} {vs : List Nat} {σ : St} {H1 : Hp} {D : Addr} {Qd : Hp → Prop} (Pv : Nat → Hp → Prop) (h0 : Pv 0 (upd H1 D (.lst [])))
    (hs : ∀ i H, i < n → Pv i H → g (.int (lo + i)) (wipe σ vs) H fun σ2 H2 => wipe σ2 vs = wipe σ vs ∧ tt σ2 H2 fun b H3 =>
      if b = true then te σ2 H3 fun y H4 => ∃ acc, H4 D = some (.lst acc) ∧ acc.length < sizeLine ∧ Pv (i + 1) (upd H4 D (.lst (acc ++ [y]))) else Pv (i + 1) H3) (hd : ∀ H, Pv n H → Qd H) :
    ∃ W : Nat → Nat → Hp → Prop, (∃ m, W 0 m (upd H1 D (.lst []))) ∧ ∀ i m H, W i m H →
      ((Itr lo n).stop i H ∧ Qd H) ∨ ((Itr lo n).go i H ∧ ∃ Nx : Hp → Prop, (∀ H', Nx H' → ∃ m', m' < m ∧ W (i + 1) m' H') ∧ ∀ x H', (Itr lo n).yld i H x H' → g x (wipe σ vs) H' fun σ2 H2 => wipe σ2 vs = wipe σ vs ∧ tt σ2 H2 fun b H3 =>
        if b = true then te σ2 H3 fun y H4 => ∃ acc, H4 D = some (.lst acc) ∧ acc.length < sizeLine ∧ Nx (upd H4 D (.lst (acc ++ [y]))) else Nx H3) := by
  refine ⟨fun i m H => m = n - i ∧ i ≤ n ∧ Pv i H, ⟨n, by simp, Nat.zero_le _, h0⟩, ?_⟩
  rintro i m H ⟨rfl, hi, p⟩
  by_cases hlt : i < n
  · refine .inr ⟨hlt, Pv (i + 1), fun H' p' => ⟨n - (i + 1), by omega, rfl, hlt, p'⟩, fun x H' y => ?_⟩
    obtain ⟨e, y⟩ := y
    subst e y
    exact hs i _ hlt p
  · have e : i = n := by omega
    subst e
    exact .inl ⟨Nat.le_refl _, hd H p⟩
theorem lc_list {K : PySem.W.Frag} {a : Addr} {xs : List V} {g : TG} {tt : TT} {te : TE} {vs : List Nat} {σ : St} {H1 : Hp} {D : Addr} {Qd : Hp → Prop} (Pv : Nat → Hp → Prop) (h0 : Pv 0 (upd H1 D (.lst []))) (hl : ∀ i H, i ≤ xs.length → Pv i H → SqL K H a xs)
    (hs : ∀ i x H, xs[i]? = some x → Pv i H → g x (wipe σ vs) H fun σ2 H2 => wipe σ2 vs = wipe σ vs ∧ tt σ2 H2 fun b H3 =>
      if b = true then te σ2 H3 fun y H4 => ∃ acc, H4 D = some (.lst acc) ∧ acc.length < sizeLine ∧ Pv (i + 1) (upd H4 D (.lst (acc ++ [y]))) else Pv (i + 1) H3) (hd : ∀ H, Pv xs.length H → Qd H) :
    ∃ W : Nat → Nat → Hp → Prop, (∃ m, W 0 m (upd H1 D (.lst []))) ∧ ∀ i m H, W i m H →
      ((Itl K a).stop i H ∧ Qd H) ∨ ((Itl K a).go i H ∧ ∃ Nx : Hp → Prop, (∀ H', Nx H' → ∃ m', m' < m ∧ W (i + 1) m' H') ∧ ∀ x H', (Itl K a).yld i H x H' → g x (wipe σ vs) H' fun σ2 H2 => wipe σ2 vs = wipe σ vs ∧ tt σ2 H2 fun b H3 =>
        if b = true then te σ2 H3 fun y H4 => ∃ acc, H4 D = some (.lst acc) ∧ acc.length < sizeLine ∧ Nx (upd H4 D (.lst (acc ++ [y]))) else Nx H3) := by
  refine ⟨fun i m H => m = xs.length - i ∧ i ≤ xs.length ∧ Pv i H, ⟨xs.length, by simp, Nat.zero_le _, h0⟩, ?_⟩
  rintro i m H ⟨rfl, hi, p⟩
  have q := hl i H hi p
  by_cases hlt : i < xs.length
  · refine .inr ⟨⟨xs, xs[i], q, by simp [hlt]⟩, Pv (i + 1), fun H' p' => ⟨xs.length - (i + 1), by omega, rfl, hlt, p'⟩, fun x H' y => ?_⟩
    obtain ⟨e, y⟩ := y
    subst e
    exact hs i x _ (y xs q) p
  · have e : i = xs.length := by omega
    subst e
    exact .inl ⟨⟨xs, q, Nat.le_refl _⟩, hd H p⟩
def blkC (N : List Str) (sc scope : Scope) (own : List (Str × Nat)) : Bool :=
  (match scope.kind with | .function => true | _ => false) && (scope.names.all fun y => decide (scope.names.lookup y.1 = some y.2)) && (own.all fun p => decide (N[p.2]? = some p.1)) &&
    (scope.names.all fun y => match y.2 with
      | .free => (match sc.names.lookup y.1 with | some .cell => true | some .free => true | _ => false)
      | .local => decide (y.1 ∈ own.map (·.1)) || decide (y.1 ∉ N)
      | .cell => decide (y.1 ∈ own.map (·.1)) || decide (y.1 ∉ N)
      | _ => true)
theorem blkOk_by {N : List Str} {sc scope : Scope} {own : List (Str × Nat)} (h : blkC N sc scope own = true) : BlkOk N sc scope own := by
  unfold blkC at h
  simp only [Bool.and_eq_true, List.all_eq_true, decide_eq_true_eq] at h
  obtain ⟨⟨⟨h1, h2⟩, h3⟩, h4⟩ := h
  refine ⟨?_, h2, h3, fun y hy e => ?_, fun y hy e => ?_⟩
  · split at h1
    · assumption
    · cases h1
  · have q := h4 y hy
    simp only [e] at q
    split at q <;> first | exact .inl (by assumption) | exact .inr (by assumption) | cases q
  · have q := h4 y hy
    rcases e with e | e <;> (simp only [e, Bool.or_eq_true, decide_eq_true_eq] at q; exact q)
end L2
namespace L2
open PySem PySem.Spec PyProof.Rows
section
variable {prog : Program} {w : World} {A : Around} {R : Result → Shared → Prop} {s : Shared} {elt t0 i0 t1 i1 : Expr} {ifs0 ifs1 : List Expr} {scope : Scope} {pos : Pos} {it acc : Value} {env : Env}
end
section
variable {X : Cx}
end
end L2
namespace L2
open PySem PySem.Spec PyProof.Rows
section
variable {κ : Type} [DecidableEq κ]
end
section
variable {P : Program} {w : World} {H : Hp} {h : Heap} {a : Addr}
end
section
variable {X : Cx} {pins : List (Addr × Obj)} {σ : St} {H : Hp} {s : Shared} {a : Addr} {y v : V} {u r : Value} {o : Option V} {A : Around} {E : Value → Shared → Prop}
end
section
variable {X : Cx} {pins : List (Addr × Obj)} {σ : St} {H : Hp} {s : Shared} {a : Addr} {kvs : List (Key × V)} {k : Key} {u : Value} {A : Around} {E : Value → Shared → Prop}
end
def NoSl (i : Expr) : Prop := ∀ ov iv, subscripted i false ov iv = operate [ov, iv] (getItem ov iv)
theorem subD_of {prog : Program} {w : World} {A : Around} {E : Value → Shared → Prop} {s : Shared} {env : Env} {value slice : Expr} {pos : Pos} {T id : String} {Q : Value → Shared → Prop}
    (hl : typeLookup (.type T) "__getitem__" = pure (some (.builtin id))) (hs : NoSl slice)
    (h : wpAny (model prog w) A (eval value env) (fun o s₁ => wpAny (model prog w) A (eval slice env) (fun i s₂ => s₂.TypeIs o T ∧ wpAny (model prog w) A (getItem o i) Q E s₂) E s₁) E s) :
    wpAny (model prog w) A (eval (.Subscript value slice pos) env) Q E s := by
  refine Subscript_ (wpAny_mono h (fun o s₁ h₁ => wpAny_mono h₁ (fun i s₂ h₂ => ?_) fun _ _ x => x) fun _ _ x => x)
  obtain ⟨hT, h₂⟩ := h₂
  unfold subscriptTail
  refine wpAny_bind ?_
  rw [getitemInPython_of_ne hT.not_modules]
  refine wpAny_bind (wpAny_specialOf hT hl ?_)
  have fin : wpAny (model prog w) A (subscripted slice false o i) (fun r s₃ => wpAny (model prog w) A (letTemporaryGo value o r >>= fun _ => pure r) Q E s₃) E s₂ := by
    rw [hs o i]
    exact wpAny_operating (wpAny_mono h₂ (fun r s₃ h₃ => wpAny_bind (wpAny_letTemporaryGo (wpAny_pure h₃))) fun _ _ x => x)
  first
    | exact wpAny_pure (wpAny_bind fin)
    | exact wpAny_bind (wpAny_pure (wpAny_bind fin))
    | exact wpAny_bind fin
section
variable {X : Cx} {o i e value : Expr} {pos pos' tpos : Pos} {td ty tv : TE}
end
section
variable {X : Cx} {pos : Pos}
end
section
variable {X : Cx} {pins : List (Addr × Obj)} {σ : St} {H : Hp} {s : Shared} {a : Addr} {y d : V} {u r : Value} {o : Option V} {A : Around} {E : Value → Shared → Prop}
end
section
variable {X : Cx} {o e f : Expr} {apos cpos : Pos} {td ty tx : TE}
end
section
variable {X : Cx} {pins : List (Addr × Obj)} {σ : St} {H : Hp} {s : Shared} {a : Addr} {kvs : List (Key × V)} {A : Around} {E : Value → Shared → Prop}
end
section
variable {X : Cx} {pins : List (Addr × Obj)} {σ : St} {H : Hp} {s : Shared} {a : Addr} {y : V} {u : Value} {A : Around} {E : Value → Shared → Prop}
end
end L2
namespace L2
open PySem PySem.Spec PyProof.Rows
section
variable {prog : Program} {w : World} {A : Around} {E : Value → Shared → Prop}
end
section
variable {X : Cx}
end
end L2
namespace L2
open PySem PySem.Spec PyProof.Rows
section
variable {X : Cx} {pins : List (Addr × Obj)} {σ : St} {H : Hp} {s : Shared} {h' : Heap}
theorem Inv.turnedL {t' : Nat} {ch : List Addr} (I : Inv X pins σ H s) (k : ∀ b o, b ∉ ch → s.heap.get? b = some o → h'.get? b = some o) (hf : ∀ b ∈ ch, FpOk X pins H b) : Inv X pins σ H { s with heap := h', toks := t' } := by
  have nit : ∀ b u, H b = some u → b ∉ ch := fun b u e z => by
    have q := (hf b z).1
    rw [q] at e; cases e
  refine I.step (g' := s.gens) (d' := s.drawn) (ch := ch) (fun b hb => ⟨(hf b hb).2.2.2.1, (hf b hb).2.1, (hf b hb).2.2.2.2.1, (hf b hb).2.2.2.2.2⟩) (fun b o _ _ hc e _ => k b o hc e) (fun b o _ _ hc e _ => ⟨o.slots, k b o hc e⟩)
    (fun _ _ _ _ n => n) (fun b o hc e => ⟨o, k b o hc e⟩) (fun _ _ e => e) (fun _ _ _ e => e) (fun b ps e => ⟨#[], by rw [e]; simp⟩) (fun m hm => ?_) (fun b u e => ?_) I.bare
  · obtain ⟨o, es, ep, ho, r⟩ := hm
    exact ⟨o, es, ep, k _ o (fun z => (hf _ z).2.1 rfl) ho, r⟩
  · refine (I.hok b u e).stay (fun c v hc q => k c v ?_ q) (fun _ q => q) fun _ _ q => q
    rcases hc with z | z
    · rw [z]; exact nit b u e
    · exact nit c _ z
theorem Inv.turnedNew {t' : Nat} {ch : List Addr} {T : Addr} {ob : HO} (I : Inv X pins σ H s) (k : ∀ b o, b ∉ ch → s.heap.get? b = some o → h'.get? b = some o) (hf : ∀ b ∈ ch, FpOk X pins H b) (hT : s.heap.objs.size ≤ T)
    (new : ObjOk X.prog X.w (upd H T ob) h' T ob) : Inv X pins σ (upd H T ob) { s with heap := h', toks := t' } := by
  have hn : H T = none := I.hok.fresh hT
  have nit : ∀ b u, H b = some u → b ∉ ch := fun b u e z => by
    have q := (hf b z).1
    rw [q] at e; cases e
  refine I.step (g' := s.gens) (d' := s.drawn) (ch := ch) (fun b hb => ⟨(hf b hb).2.2.2.1, (hf b hb).2.1, (hf b hb).2.2.2.2.1, (hf b hb).2.2.2.2.2⟩) (fun b o _ _ hc e _ => k b o hc e) (fun b o _ _ hc e _ => ⟨o.slots, k b o hc e⟩)
    (fun b o _ e n => ?_) (fun b o hc e => ⟨o, k b o hc e⟩) (fun b xs e => ?_) (fun b o u e => ?_) (fun b ps e => ⟨#[], ?_⟩) (fun m hm => ?_) (fun b u e => ?_) I.bare
  · rw [upd_ne (Nat.ne_of_lt (Nat.lt_of_lt_of_le (Heap.lt_size e) hT))]; exact n
  · rw [upd_ne (ne_of_none e hn)]; exact e
  · rw [upd_ne (ne_of_none e hn)]; exact e
  · rw [upd_ne (ne_of_none e hn), e]; simp
  · obtain ⟨o, es, ep, ho, r⟩ := hm
    exact ⟨o, es, ep, k _ o (fun z => (hf _ z).2.1 rfl) ho, r⟩
  · by_cases hb : b = T
    · subst hb
      rw [upd_same] at e
      cases e
      exact new
    · rw [upd_ne hb] at e
      refine (I.hok b u e).stay (fun c v hc q => k c v ?_ q) (fun c q => by rw [upd_ne (ne_of_none q hn)]; exact q) fun c xs q => by rw [upd_ne (ne_of_none q hn)]; exact q
      rcases hc with z | z
      · rw [z]; exact nit b u e
      · exact nit c _ z
end
section
variable {X : Cx}
end
section
variable {X : Cx} {tg : Expr}
end
section
variable {X : Cx} {tg : Expr}
end
section
variable {prog : Program} {w : World} {A : Around} {E : Value → Shared → Prop} {s : Shared}
end
section
variable {X : Cx} {pins : List (Addr × Obj)} {σ : St} {H : Hp} {s : Shared} {d : Addr} {o : Obj}
end
section
variable {P : Program} {w : World} {K : PySem.W.Frag} {tg : Expr} {d : Addr} {o : Obj} {es : Array DictEntry} {ep : Nat}
end
section
variable {X : Cx} {tg e : Expr} {td : TE} {apos cpos : Pos}
end
def Ite (K : PySem.W.Frag) (a : Addr) : It :=
  ⟨fun i H => ∃ (xs : List V) (x : V), SqL K H a xs ∧ xs[i]? = some x, fun i H v H' => ∃ T x, v = .ref T ∧ H T = none ∧ H' = upd H T (.tup [.int (i : Nat), x]) ∧ ∀ xs, SqL K H a xs → xs[i]? = some x, fun i H => ∃ xs : List V, SqL K H a xs ∧ xs.length ≤ i⟩
theorem turn_enum {P : Program} {w : World} {K : PySem.W.Frag} {elts : List Expr} {kk : Nat} {tpos : Pos} (a e it : Addr) :
    Turn P w K (.Tuple elts kk tpos) (Ite K a) [e, it] e (fun i h => (∃ old, IsEnum h e it ((i : Nat) : Int) old) ∧ h.IsListIter it a i ∧ e ≠ it) where
  mem := by simp
  obj := fun i h st b hb => by
    obtain ⟨⟨old, he⟩, ⟨o, ho, hc, hd⟩, _⟩ := st
    have e' : b = e ∨ b = it := by simpa using hb
    rcases e' with z | z
    · rw [z]; exact ⟨_, he, fun v q => nomatch q⟩
    · rw [z]; exact ⟨o, ho, fun v q => by rw [hd] at q; cases q⟩
  keep := fun i h h' st k => let ⟨⟨old, he⟩, hi, hne⟩ := st; ⟨⟨old, k e (by simp) _ he⟩, hi.at fun o q => k it (by simp) o q, hne⟩
  item := by
    intro X hP hw hK hc i pins s σ H E I hf st hg
    subst hP hw hK
    obtain ⟨⟨old, he⟩, hit, hne⟩ := st
    obtain ⟨xs, x, hq, hx⟩ := hg
    obtain ⟨its, rv, p, hz⟩ := I.list hq
    obtain ⟨u, hu, ru⟩ := rv.get hx
    have hel : e < s.heap.objs.size := Heap.lt_size he
    have hil : it < s.heap.objs.size := by obtain ⟨_, q, _⟩ := hit; exact Heap.lt_size q
    refine wpAny_pyNext_enum_item he hit p.isList (x := u) (by simpa using hu) hne fun h' ho hit' hT hsz hk => ?_
    refine ⟨_, rfl, wpAny_letOwnedTupleGo_enum (s := { s with heap := h', toks := s.toks + 1 }) ho fun h'' he' sb => ?_⟩
    have hT2 : h''.get? s.heap.objs.size = some { cls := .type "tuple", data := .seq #[.int i s.toks, u] } := (sb.2 _ (Nat.ne_of_gt hel)).trans hT
    have new : ObjOk X.prog X.w (upd H s.heap.objs.size (.tup [.int (i : Nat), x])) h'' s.heap.objs.size (.tup [.int (i : Nat), x]) :=
      ⟨by show 2 ≤ sizeLine; decide, [.int i s.toks, u], .cons ⟨_, rfl⟩ (.cons ru .nil), ⟨_, hT2, rfl, _, rfl⟩⟩
    have I1 : Inv X pins σ (upd H s.heap.objs.size (.tup [.int (i : Nat), x])) { s with heap := h'', toks := s.toks + 1 } :=
      I.turnedNew (ch := [e, it]) (fun b ob hb q => (sb.2 b (fun z => hb (by simp [z]))).trans (hk b ob (fun z => hb (by simp [z])) (fun z => hb (by simp [z])) q)) hf (Nat.le_refl _) new
    refine ⟨.ref s.heap.objs.size, _, I1, rfl, ⟨_, x, rfl, I.hok.fresh (Nat.le_refl _), rfl, fun ys hy => by rw [I.list_inj hy hq]; exact hx⟩, ⟨⟨u, ?_⟩, hit'.at fun o q => (sb.2 it (Ne.symm hne)).trans q, hne⟩, fun b hb => ?_⟩
    · have e1 : ((i + 1 : Nat) : Int) = (i : Int) + 1 := by omega
      rw [e1]; exact he'
    · have hb' : b < s.heap.objs.size := by
        have e' : b = e ∨ b = it := by simpa using hb
        rcases e' with z | z
        · rw [z]; exact hel
        · rw [z]; exact hil
      rw [upd_ne (Nat.ne_of_lt hb')]
      exact (hf b hb).1
  done := by
    intro X hP hw hK hc i pins s σ H E I hf st hg
    subst hP hw hK
    obtain ⟨⟨old, he⟩, hit, hne⟩ := st
    obtain ⟨xs, hq, hx⟩ := hg
    obtain ⟨its, rv, p, hz⟩ := I.list hq
    obtain ⟨f0, f1, f2, f3, f4, f5⟩ := hf it (by simp)
    have hl := rv.length
    exact wpAny_pyNext_enum_end (I.ok.hd hc) he hit p.isList (by simp; omega) fun h' eb => ⟨rfl, I.turned (t' := s.toks) (fun b o hb q => eb b o hb q) f0 f1 f3 f4 f5⟩
  self := fun A i s Q E st h => let ⟨⟨_, he⟩, _⟩ := st; wpAny_pyIter_enum he h
def iEnum (K : PySem.W.Frag) (ta : TA) : TI := fun σ H R => ta σ H fun vs H1 => ∃ a xs, vs = [.ref a] ∧ SqL K H1 a xs ∧ R (Ite K a) H1
theorem pi_enum {X : Cx} {e : Expr} {ta : TA} {p pos tpos : Pos} {elts : List Expr} {kk : Nat} (hg : Gl X "enumerate") (hm : X.mg "enumerate" = none) (ha : PA X [e] ta) (hs : starEach [e] X.env = [(false, eval e X.env)] := by rfl) :
    PI X (.Tuple elts kk tpos) (.Call (.Name "enumerate" p) [e] [] pos) (iEnum X.K ta) := by
  intro pins s σ H R I h
  refine Call_ (ld_blt I hg hm boot_enumerate (PyProof.Rows.callWith_type1 (thn (ha pos pins s σ H _ I h) fun us s1 zz => ?_) hs rfl))
  obtain ⟨vs, H1, I1, r1, q1⟩ := zz
  obtain ⟨a, xs, ex, hq, q⟩ := q1
  subst ex
  cases r1 with
  | cons r rr =>
    cases rr
    cases r
    obtain ⟨its, rv, p', hz⟩ := I1.list hq
    refine call_enumerate_list p'.isList fun h' he hit hsz hk => wpAny_pyIter_enum he ?_
    have I2 : Inv X pins σ H1 { s1 with heap := h' } := I1.kept (t' := s1.toks) hk
    refine ⟨s1.heap.objs.size + 1, [s1.heap.objs.size + 1, s1.heap.objs.size], _, _, H1, rfl, I2, turn_enum a (s1.heap.objs.size + 1) s1.heap.objs.size, ⟨⟨.none, he⟩, hit, Nat.succ_ne_self _⟩, fun b hb => ?_, q⟩
    have e' : b = s1.heap.objs.size + 1 ∨ b = s1.heap.objs.size := by simpa using hb
    have hle : s1.heap.objs.size ≤ b := by
      rcases e' with z | z
      · rw [z]; exact Nat.le_add_right _ _
      · rw [z]; exact Nat.le_refl _
    exact I1.fpOk hle (I1.hok.fresh hle)
theorem boot_zip5 : bootBuiltins "zip" = some (.type "zip") := by decide +kernel
def Itz (K : PySem.W.Frag) (a b : Addr) : It :=
  ⟨fun i H => ∃ (xs ys : List V) (x y : V), SqL K H a xs ∧ SqL K H b ys ∧ xs[i]? = some x ∧ ys[i]? = some y,
    fun i H v H' => ∃ T x y, v = .ref T ∧ H T = none ∧ H' = upd H T (.tup [x, y]) ∧ (∀ xs, SqL K H a xs → xs[i]? = some x) ∧ ∀ ys, SqL K H b ys → ys[i]? = some y,
    fun i H => ∃ xs ys : List V, SqL K H a xs ∧ SqL K H b ys ∧ (xs.length ≤ i ∨ ys.length ≤ i)⟩
theorem turn_zip {P : Program} {w : World} {K : PySem.W.Frag} {elts : List Expr} {kk : Nat} {tpos : Pos} {a b z TI TO i1 i2 : Addr} (D : ZipApart z TI TO i1 i2 a b) :
    Turn P w K (.Tuple elts kk tpos) (Itz K a b) [z, TI, TO, i1, i2] z (fun i h => IsZip h z TI TO .none ∧ IsPair h TI (.ref i1) (.ref i2) ∧ (∃ x y, IsPair h TO x y) ∧ h.IsListIter i1 a i ∧ h.IsListIter i2 b i) where
  mem := by simp
  obj := fun i h st c hc => by
    obtain ⟨hz, hTI, ⟨x, y, hTO⟩, ⟨o1, e1, _, d1⟩, ⟨o2, e2, _, d2⟩⟩ := st
    have e' : c = z ∨ c = TI ∨ c = TO ∨ c = i1 ∨ c = i2 := by simpa using hc
    rcases e' with q | q | q | q | q
    · rw [q]; exact ⟨_, hz, fun v q => nomatch q⟩
    · rw [q]; exact ⟨_, hTI, fun v q => nomatch q⟩
    · rw [q]; exact ⟨_, hTO, fun v q => nomatch q⟩
    · rw [q]; exact ⟨o1, e1, fun v q => by rw [d1] at q; cases q⟩
    · rw [q]; exact ⟨o2, e2, fun v q => by rw [d2] at q; cases q⟩
  keep := fun i h h' st k => by
    obtain ⟨hz, hTI, ⟨x, y, hTO⟩, h1, h2⟩ := st
    exact ⟨k z (by simp) _ hz, k TI (by simp) _ hTI, ⟨x, y, k TO (by simp) _ hTO⟩, h1.at fun o q => k i1 (by simp) o q, h2.at fun o q => k i2 (by simp) o q⟩
  item := by
    intro X hP hw hK hc i pins s σ H E I hf st hg
    subst hP hw hK
    obtain ⟨hz, hTI, ⟨x0, y0, hTO⟩, h1, h2⟩ := st
    obtain ⟨xs, ys, x, y, hqx, hqy, hx, hy⟩ := hg
    obtain ⟨its, rv, p, _⟩ := I.list hqx
    obtain ⟨its2, rv2, p2, _⟩ := I.list hqy
    obtain ⟨u, hu, ru⟩ := rv.get hx
    obtain ⟨u2, hu2, ru2⟩ := rv2.get hy
    have hzl : z < s.heap.objs.size := Heap.lt_size hz
    refine wpAny_pyNext_zip_item D hz hTI hTO h1 h2 p.isList p2.isList (x := u) (y := u2) (by simpa using hu) (by simpa using hu2) fun h' z' TO' h1' h2' hT hsz hk => ?_
    refine ⟨_, rfl, wpAny_letOwnedTupleGo_zip (s := { s with heap := h' }) z' fun h'' z'' sb => ?_⟩
    have hT2 : h''.get? s.heap.objs.size = some { cls := .type "tuple", data := .seq #[u, u2] } := (sb.2 _ (Nat.ne_of_gt hzl)).trans hT
    have new : ObjOk X.prog X.w (upd H s.heap.objs.size (.tup [x, y])) h'' s.heap.objs.size (.tup [x, y]) :=
      ⟨by show 2 ≤ sizeLine; decide, [u, u2], .cons ru (.cons ru2 .nil), ⟨_, hT2, rfl, _, rfl⟩⟩
    have I1 : Inv X pins σ (upd H s.heap.objs.size (.tup [x, y])) { s with heap := h'' } :=
      I.turnedNew (t' := s.toks) (ch := [z, TI, TO, i1, i2]) (fun c o hb q => (sb.2 c (fun q' => hb (by simp [q']))).trans (hk c o (fun q' => hb (by simp [q'])) (fun q' => hb (by simp [q'])) (fun q' => hb (by simp [q'])) (fun q' => hb (by simp [q'])) q)) hf (Nat.le_refl _) new
    refine ⟨.ref s.heap.objs.size, _, I1, rfl, ⟨_, x, y, rfl, I.hok.fresh (Nat.le_refl _), rfl, fun l hl => by rw [I.list_inj hl hqx]; exact hx, fun l hl => by rw [I.list_inj hl hqy]; exact hy⟩, ⟨z'', ?_, ⟨u, u2, ?_⟩, ?_, ?_⟩, fun c hcm => ?_⟩
    · exact (sb.2 _ D.TIz).trans (hk _ _ D.TIz D.TITO D.TIi1 D.TIi2 hTI)
    · exact (sb.2 _ D.TOz).trans TO'
    · exact h1'.at fun o q => (sb.2 _ D.i1z).trans q
    · exact h2'.at fun o q => (sb.2 _ D.i2z).trans q
    · have hlt : c < s.heap.objs.size := by
        have e' : c = z ∨ c = TI ∨ c = TO ∨ c = i1 ∨ c = i2 := by simpa using hcm
        rcases e' with q | q | q | q | q
        · rw [q]; exact hzl
        · rw [q]; exact Heap.lt_size hTI
        · rw [q]; exact Heap.lt_size hTO
        · rw [q]; obtain ⟨_, e1, _⟩ := h1; exact Heap.lt_size e1
        · rw [q]; obtain ⟨_, e2, _⟩ := h2; exact Heap.lt_size e2
      rw [upd_ne (Nat.ne_of_lt hlt)]
      exact (hf c hcm).1
  done := by
    intro X hP hw hK hc i pins s σ H E I hf st hg
    subst hP hw hK
    obtain ⟨hz, hTI, ⟨x0, y0, hTO⟩, h1, h2⟩ := st
    obtain ⟨xs, ys, hqx, hqy, hend⟩ := hg
    obtain ⟨its, rv, p, _⟩ := I.list hqx
    obtain ⟨its2, rv2, p2, _⟩ := I.list hqy
    have l1 := rv.length
    have l2 := rv2.length
    have he : its.toArray[i]? = none ∨ its2.toArray[i]? = none := by
      rcases hend with q | q
      · exact .inl (by simp; omega)
      · exact .inr (by simp; omega)
    exact wpAny_pyNext_zip_end (I.ok.hd hc) D hz hTI hTO h1 h2 p.isList p2.isList he fun h' hk => ⟨rfl, I.turnedL (t' := s.toks) (ch := [z, TI, TO, i1, i2]) (fun c o hb q =>
      hk c o (fun q' => hb (by simp [q'])) (fun q' => hb (by simp [q'])) (fun q' => hb (by simp [q'])) (fun q' => hb (by simp [q'])) q) hf⟩
  self := fun A i s Q E st h => wpAny_pyIter_zip st.1 h
def iZip (K : PySem.W.Frag) (ta : TA) : TI := fun σ H R => ta σ H fun vs H1 => ∃ a b xs ys, vs = [.ref a, .ref b] ∧ SqL K H1 a xs ∧ SqL K H1 b ys ∧ R (Itz K a b) H1
theorem pi_zip {X : Cx} {e e2 : Expr} {ta : TA} {p pos tpos : Pos} {elts : List Expr} {kk : Nat} (hg : Gl X "zip") (hm : X.mg "zip" = none) (ha : PA X [e, e2] ta)
    (hs : starEach [e, e2] X.env = (false, eval e X.env) :: starEach [e2] X.env := by rfl) (hpl : (backTo pos (starEach [e2] X.env)).any (·.1) = false := by rfl) :
    PI X (.Tuple elts kk tpos) (.Call (.Name "zip" p) [e, e2] [] pos) (iZip X.K ta) := by
  intro pins s σ H R I h
  refine Call_ (ld_blt I hg hm boot_zip5 (PyProof.Rows.callWith_type1 (thn (ha pos pins s σ H _ I h) fun us s1 zz => ?_) hs hpl))
  obtain ⟨vs, H1, I1, r1, q1⟩ := zz
  obtain ⟨a, b, xs, ys, ex, hqx, hqy, q⟩ := q1
  subst ex
  cases r1 with
  | cons r rr =>
    cases rr with
    | cons r' rr =>
      cases rr
      cases r
      cases r'
      obtain ⟨its, rv, p1, _⟩ := I1.list hqx
      obtain ⟨its2, rv2, p2, _⟩ := I1.list hqy
      have la : a < s1.heap.objs.size := p1.lt
      have lb : b < s1.heap.objs.size := p2.lt
      refine call_zip_2 p1.isList p2.isList fun h' hz hTI hTO h1 h2 hsz hk => wpAny_pyIter_zip hz ?_
      have I2 : Inv X pins σ H1 { s1 with heap := h' } := I1.kept (t' := s1.toks) hk
      refine ⟨s1.heap.objs.size + 4, [s1.heap.objs.size + 4, s1.heap.objs.size + 2, s1.heap.objs.size + 3, s1.heap.objs.size, s1.heap.objs.size + 1], _, _, H1, rfl, I2, turn_zip (PySem.W.ktu_apart s1.heap.objs.size a b la lb), ⟨hz, hTI, ⟨_, _, hTO⟩, h1, h2⟩, fun c hcm => ?_, q⟩
      have e' : c = s1.heap.objs.size + 4 ∨ c = s1.heap.objs.size + 2 ∨ c = s1.heap.objs.size + 3 ∨ c = s1.heap.objs.size ∨ c = s1.heap.objs.size + 1 := by simpa using hcm
      have hle : s1.heap.objs.size ≤ c := by
        rcases e' with z | z | z | z | z
        · rw [z]; exact Nat.le_add_right _ _
        · rw [z]; exact Nat.le_add_right _ _
        · rw [z]; exact Nat.le_add_right _ _
        · rw [z]; exact Nat.le_refl _
        · rw [z]; exact Nat.le_add_right _ _
      exact I1.fpOk hle (I1.hok.fresh hle)
end L2
section 
namespace Bits
open PySem PyProof.Rows
theorem natCast_mul_pow (m k : Nat) : (m : Int) * 2 ^ k = ((m * 2 ^ k : Nat) : Int) := by
  rw [two_pow_cast]
  first
    | exact (Int.natCast_mul _ _).symm
    | simp
theorem bitOr_pp {x y : Int} (hx : 0 ≤ x) (hy : 0 ≤ y) : Builtin.bitOr x y = ((x.toNat ||| y.toNat : Nat) : Int) := by
  have e := nat_or_add_and x.toNat y.toNat
  rw [bitOr_and, bitAnd_pp hx hy]
  omega
end Bits
end 
section 
namespace TL
open PySem PySem.Builtin PySem.Builtin.Str PySem.StrLaws
end TL
end 
namespace L2
open PySem PySem.Spec PyProof.Rows
section
variable {X : Cx} {pins : List (Addr × Obj)} {σ : St} {H : Hp} {s : Shared} {Q : VK}
end
section
variable {X : Cx}
end
section
variable {X : Cx} {o e : Expr} {to te : TE}
end
end L2
namespace L2
open PySem PySem.Spec PyProof.Rows
section
variable {X : Cx}
end
end L2
namespace Att
open PySem PySem.W PySem.Calls PyProof.Rows
section
variable {prog : Program} {w : World} {A : Around} {E : Value → Shared → Prop} {s : Shared} {K : Frag}
end
end Att
namespace L2
open PySem PySem.Spec PyProof.Rows
end L2
namespace L2
open PySem PySem.Spec PyProof.Rows
abbrev KOf {K : PySem.W.Frag} {h : Heap} (_ : K.In h) : PySem.W.Frag := K
end L2
namespace L2
open PySem PySem.Spec PyProof.Rows
def inClass (s : Stmt) (j : Nat) : Stmt := match s with
  | .ClassDef _ _ _ body _ _ _ _ _ _ _ => body.getD j (.Pass ⟨0, 0, 0, 0⟩)
  | _ => .Pass ⟨0, 0, 0, 0⟩
def defArgs (s : Stmt) : Arguments := match s with
  | .FunctionDef _ a _ _ _ _ _ _ _ _ => a
  | _ => { posonlyargs := [], args := [], vararg := none, kwonlyargs := [], kw_defaults := [], kwarg := none, defaults := [] }
def defBody (s : Stmt) : List Stmt := match s with
  | .FunctionDef _ _ b _ _ _ _ _ _ _ => b
  | _ => []
def defScope (s : Stmt) : Scope := match s with
  | .FunctionDef _ _ _ _ _ _ sc _ _ _ => sc
  | _ => { kind := .function, names := [], isGenerator := false, isCoroutine := false }
abbrev CX0 : CXT := fun _ _ _ _ _ _ => False
abbrev E0 : XK := fun _ _ _ => False
theorem pass0 {X : Cx} : Passes CX0 X E0 := fun _ _ _ _ _ _ _ h => h.elim
structure Fun (K : PySem.W.Frag) (x qual : Str) (st : Stmt) (f : Addr) (fd : FuncData) : Prop where
  ex : ∃ (oc : Value) (od : Option Addr) (kV doc pm : Value) (an : Option Addr) (cdv ct : Value) (osl : Array (Option Value)),
    fd = PySem.W.fnOf x qual (defArgs st) (defBody st) (defScope st) .none kV doc pm an cdv ct ∧ K.lookup f = some ⟨oc, od, .func fd, osl⟩ ∧ PySem.W.codeIn K cdv qual = true
  kp : PySem.W.keepIn K (.ref f) = true
section
variable {P : Program} {w : World} {K : PySem.W.Frag} {mg : Str → Option Value} {base : Heap}
theorem Fun.ok {x qual : Str} {st : Stmt} {f : Addr} {fd : FuncData} {N ps : List Str} {k : Nat} {sp : Sp} (F : Fun K x qual st f fd) (S : FnScope N ps (defScope st)) (len : ∀ vs H Q E, sp vs H Q E → vs.length = ps.length)
    (hbody : ∀ (cdv : Value) (A : Around) (outer : List Env) (s : Shared) (H : Hp) (vs : List V) (Q : VK) (E : XK), Room k (A.deeper (envOfC qual (defScope st) s.heap.objs.size f cdv)) → sp vs H Q E →
      ∃ t, PSs (cxOf CX0 P w K mg base N qual (defScope st) f cdv A outer s H E).nox (defBody st) t ∧ t { nx := fun _ H' => Q .non H', rt := Q } (start N vs) H) : FnOk P w K mg base CX0 (k + 1) f fd ps sp := by
  obtain ⟨oc, od, kV, doc, pm, an, cdv, ct, osl, rfl, lk, hcd⟩ := F.ex
  refine fn_of lk hcd S len fun A outer s H vs Q E hr hsp => ?_
  obtain ⟨t, h, q⟩ := hbody cdv A outer s H vs Q E hr hsp
  exact ⟨t, h.nox, q⟩
theorem Fun.binds {x qual : Str} {st : Stmt} {f : Addr} {fd : FuncData} {ps : List Str} (F : Fun K x qual st f fd)
    (h : ∀ (kV doc pm : Value) (an : Option Addr) (cdv ct : Value) (us : List Value), us.length = ps.length → bindArgs (PySem.W.fnOf x qual (defArgs st) (defBody st) (defScope st) .none kV doc pm an cdv ct) ⟨us, []⟩ = pure (ps.zip us)) : Binds K fd ps [] := by
  obtain ⟨oc, od, kV, doc, pm, an, cdv, ct, osl, rfl, lk, hcd⟩ := F.ex
  exact .all (h kV doc pm an cdv ct)
theorem fun_mk {x qual : Str} {st : Stmt} {f : Addr} {oc : Value} {od an : Option Addr} {osl : Array (Option Value)} {kV doc pm cdv ct : Value} (l : K.lookup f = some ⟨oc, od, .func (PySem.W.fnOf x qual (defArgs st) (defBody st) (defScope st) .none kV doc pm an cdv ct), osl⟩)
    (c : PySem.W.codeIn K cdv qual = true) (k : PySem.W.keepIn K (.ref f) = true) : Fun K x qual st f (PySem.W.fnOf x qual (defArgs st) (defBody st) (defScope st) .none kV doc pm an cdv ct) := ⟨⟨oc, od, kV, doc, pm, an, cdv, ct, osl, rfl, l, c⟩, k⟩
end
section
variable {X : Cx}
theorem pv (i : Nat) {x : Str} {pos : Pos} (hN : X.N[i]? = some x := by rfl) (hv : Vis X.env.scope x := by first | exact Or.inl rfl | exact Or.inr (Or.inl rfl) | exact Or.inr (Or.inr rfl)) (hd : (x == ("__debug__" : Str)) = false := by decide)
    (hcd : (x == ("__classdict__" : Str)) = false := by decide) : PE X (.Name x pos) (tVar i) := pe_var hN hv hd hcd
end
theorem iteF {A B : Prop} (h : B) : if false = true then A else B := by
  rw [if_neg Bool.false_ne_true]
  exact h
theorem iteT {A B : Prop} (h : A) : if true = true then A else B := by
  rw [if_pos rfl]
  exact h
theorem ite2 {c A B : Prop} [Decidable c] (h1 : c → A) (h2 : ¬ c → B) : if c then A else B := by
  by_cases h : c
  · rw [if_pos h]
    exact h1 h
  · rw [if_neg h]
    exact h2 h
def Same (H H' : Hp) : Prop := ∀ b o, H b = some o → H' b = some o
theorem Same.refl (H : Hp) : Same H H := fun _ _ h => h
theorem Same.trans {H H1 H2 : Hp} (a : Same H H1) (b : Same H1 H2) : Same H H2 := fun c o h => b c o (a c o h)
theorem Same.free {H H' : Hp} (e : Same H H') {l : Addr} (h : H' l = Option.none) : H l = Option.none := by
  cases q : H l with
  | none => rfl
  | some o =>
    rw [e l o q] at h
    cases h
theorem Same.seq {K : PySem.W.Frag} {H H' : Hp} {a : Addr} {xs : List V} (e : Same H H') (h : SqL K H a xs) : SqL K H' a xs := by
  rcases h with (h | ⟨o, h⟩) | h
  · exact .inl (.inl (e _ _ h))
  · exact .inl (.inr ⟨o, e _ _ h⟩)
  · exact .inr h
section
variable {κ : Type} [DecidableEq κ]
end
theorem at_of {xs : List V} {z : Int} {j : Nat} {v : V} (e : z = (j : Int)) (h : xs[j]? = some v) : atI xs z = some v := by
  rw [e]
  exact atI_nat h
theorem Same.made {H H1 : Hp} {x dx C : Addr} (nx : H x = Option.none) (nd : H dx = Option.none) (k : ∀ b o, (upd (upd H dx (.own x)) x (.ins C dx [])) b = some o → b ≠ x → H1 b = some o) : Same H H1 := fun b o e =>
  k b o (by rw [upd_ne (ne_of_none e nx), upd_ne (ne_of_none e nd)]; exact e) (ne_of_none e nx)
end L2
end
section
section
set_option Elab.async false
set_option linter.all false
set_option maxRecDepth 100000
set_option maxHeartbeats 2000000
namespace L2
open PySem PySem.Spec PyProof.Rows
open PySem.W (WData Codec OpenSpec Well WellAll ReadsW ReadsAllW)
mutual
inductive Dw (K : PySem.W.Frag) (H : Hp) : V → WData → Prop
  | non : Dw K H .non .none
  | bl (b : Bool) : Dw K H (.bl b) (.bool b)
  | int (i : Int) : Dw K H (.int i) (.int i)
  | str (x : Str) : Dw K H (.str x) (.str x)
  | byt (b : Array UInt8) : Dw K H (.byt b) (.bytes b.toList)
  | lst {a : Addr} {xs : List V} {ds : List WData} : SqL K H a xs → DwAll K H xs ds → Dw K H (.ref a) (.list ds)
  | tup {a : Addr} {xs : List V} {ds : List WData} : SqT K H a xs → DwAll K H xs ds → Dw K H (.ref a) (.tuple ds)
inductive DwAll (K : PySem.W.Frag) (H : Hp) : List V → List WData → Prop
  | nil : DwAll K H [] []
  | cons {v : V} {vs : List V} {d : WData} {ds : List WData} : Dw K H v d → DwAll K H vs ds → DwAll K H (v :: vs) (d :: ds)
end
theorem dw_ints {K : PySem.W.Frag} {H : Hp} : ∀ ns : List Int, DwAll K H (ns.map V.int) (ns.map WData.int)
  | [] => .nil
  | n :: r => .cons (.int n) (dw_ints r)
theorem ints_dw {K : PySem.W.Frag} {H : Hp} : ∀ (ns : List Int) (xs : List V), DwAll K H xs (ns.map WData.int) → xs = ns.map V.int
  | [], xs, h => by
    cases h
    rfl
  | n :: r, xs, h => by
    cases h with
    | cons h1 h2 =>
      cases h1
      rw [ints_dw r _ h2] <;> rfl
section
variable {P : Program} {w : World} {K : PySem.W.Frag} {H : Hp} {h : Heap} {R : PySem.W.WRecords} {cl : Str → Option Addr}
theorem sqL_at {a : Addr} {xs : List V} (hok : HOk P w H h) (KX : K.In h) (q : SqL K H a xs) : ∃ (its : List Value) (o : Obj) (n : Nat), Vals xs its ∧ h.get? a = some o ∧ o.cls = .type "list" ∧ o.data = .seq its.toArray n := by
  rcases q with q | ⟨o, its, n, e, hc, _, hd, _, hv⟩
  · obtain ⟨_, its, n, hv, e⟩ := (show ObjOk P w H h a (.lst xs) from q.ok hok)
    exact ⟨its, _, n, hv, e, rfl, rfl⟩
  · exact ⟨its.toList, o, n, hv, KX _ _ e, hc, by simp [hd]⟩
theorem sqT_at {a : Addr} {xs : List V} (hok : HOk P w H h) (KX : K.In h) (q : SqT K H a xs) : ∃ (its : List Value) (o : Obj) (n : Nat), Vals xs its ∧ h.get? a = some o ∧ o.cls = .type "tuple" ∧ o.data = .seq its.toArray n := by
  rcases q with q | ⟨o, its, n, e, hc, hd, _, hv⟩
  · obtain ⟨_, its, hv, o, e, hc, n, hd⟩ := (show ObjOk P w H h a (.tup xs) from q.ok hok)
    exact ⟨its, o, n, hv, e, hc, hd⟩
  · exact ⟨its.toList, o, n, hv, KX _ _ e, hc, by simp [hd]⟩
mutual
theorem Dw.reads (hok : HOk P w H h) (KX : K.In h) : ∀ (d : WData) (v : V) (u : Value), Dw K H v d → RelV v u → ∃ as, ReadsW R cl h u d as
  | .none, _, _, x, r => by
    cases x
    cases r
    exact ⟨_, ReadsW.none⟩
  | .bool b, _, _, x, r => by
    cases x
    cases r
    exact ⟨_, ReadsW.bool b⟩
  | .int i, _, _, x, r => by
    cases x
    obtain ⟨t, rfl⟩ := r
    exact ⟨_, ReadsW.int i t⟩
  | .str s, _, _, x, r => by
    cases x
    obtain ⟨t, rfl⟩ := r
    exact ⟨_, ReadsW.str s t⟩
  | .bytes b, _, _, x, r => by
    cases x
    obtain ⟨t, rfl⟩ := r
    exact ⟨_, ReadsW.bytes _ t⟩
  | .list ds, _, _, x, r => by
    cases x with
    | lst hs ha =>
      cases r
      obtain ⟨its, o, n, rv, ho, hc, hd⟩ := sqL_at hok KX hs
      obtain ⟨as, hr⟩ := Dw.readsAll hok KX ds _ its ha rv
      exact ⟨_, ReadsW.list ho hc hd hr⟩
  | .tuple ds, _, _, x, r => by
    cases x with
    | tup hs ha =>
      cases r
      obtain ⟨its, o, n, rv, ho, hc, hd⟩ := sqT_at hok KX hs
      obtain ⟨as, hr⟩ := Dw.readsAll hok KX ds _ its ha rv
      exact ⟨_, ReadsW.tuple ho hc hd hr⟩
  | .float _, _, _, x, _ => by cases x
  | .dict _, _, _, x, _ => by cases x
  | .bytearray _, _, _, x, _ => by cases x
  | .set _, _, _, x, _ => by cases x
  | .frozenset _, _, _, x, _ => by cases x
  | .obj _ _, _, _, x, _ => by cases x
theorem Dw.readsAll (hok : HOk P w H h) (KX : K.In h) : ∀ (ds : List WData) (vs : List V) (us : List Value), DwAll K H vs ds → Vals vs us → ∃ as, ReadsAllW R cl h us ds as
  | [], _, _, x, r => by
    cases x
    cases r
    exact ⟨_, ReadsAllW.nil⟩
  | d :: ds, _, _, x, r => by
    cases x with
    | cons h1 h2 =>
      cases r with
      | cons r1 r2 =>
        obtain ⟨as, q1⟩ := Dw.reads hok KX d _ _ h1 r1
        obtain ⟨bs, q2⟩ := Dw.readsAll hok KX ds _ _ h2 r2
        exact ⟨_, ReadsAllW.cons q1 q2⟩
end
end
mutual
def plW : WData → Bool
  | .none => true
  | .bool _ => true
  | .int _ => true
  | .str _ => true
  | .bytes _ => true
  | .list xs => plWs xs
  | .tuple xs => plWs xs
  | _ => false
def plWs : List WData → Bool
  | [] => true
  | x :: r => plW x && plWs r
end
theorem plWs_map {α : Type} {f : α → WData} (h : ∀ a, plW (f a) = true) : ∀ l : List α, plWs (l.map f) = true
  | [] => rfl
  | x :: r => by
    show (plW (f x) && plWs (r.map f)) = true
    rw [h x, plWs_map h r] <;> rfl
theorem pl_enc : ∀ (c : Codec) (a : c.denote), plW (c.enc a) = true
  | .unit, _ => rfl
  | .bool, _ => rfl
  | .int _ _, _ => rfl
  | .nat _ _, _ => rfl
  | .u8, _ => rfl
  | .bytes _ _, _ => rfl
  | .text _ _ _ _, _ => rfl
  | .list _ _ c, a => plWs_map (fun x => pl_enc c x) a
  | .pair c d, a => by
    show (plW (c.enc a.1) && (plW (d.enc a.2) && true)) = true
    rw [pl_enc c a.1, pl_enc d a.2] <;> rfl
  | .triple c d e, a => by
    show (plW (c.enc a.1) && (plW (d.enc a.2.1) && (plW (e.enc a.2.2) && true))) = true
    rw [pl_enc c a.1, pl_enc d a.2.1, pl_enc e a.2.2] <;> rfl
  | .option c, none => rfl
  | .option c, some x => pl_enc c x
theorem pl_encAll : ∀ (cs : List Codec) (a : Codec.denoteAll cs), plWs (Codec.encAll cs a) = true
  | [], _ => rfl
  | c :: cs, a => by
    show (plW (c.enc a.1) && plWs (Codec.encAll cs a.2)) = true
    rw [pl_enc c a.1, pl_encAll cs a.2] <;> rfl
theorem weight_mem : ∀ {xs : List WData} {d : WData}, d ∈ xs → d.weight ≤ WData.weightAll xs
  | [], d, h => absurd h (by simp)
  | x :: r, d, h => by
    show d.weight ≤ x.weight + 1 + WData.weightAll r
    rcases List.mem_cons.mp h with e | m
    · rw [e]
      omega
    · have z := weight_mem m
      omega
def toV : Value → V
  | .none => .non
  | .bool b => .bl b
  | .int i _ => .int i
  | .str x _ => .str x
  | .bytes b _ => .byt b
  | .ref a => .ref a
  | _ => .non
def OkU (A : List Addr) : Value → Prop
  | .none => True
  | .bool _ => True
  | .int _ _ => True
  | .str _ _ => True
  | .bytes _ _ => True
  | .ref a => a ∈ A
  | _ => False
theorem OkU.mono {A B : List Addr} (h : ∀ a ∈ A, a ∈ B) : ∀ {u : Value}, OkU A u → OkU B u := fun {u} x => by
  cases u with
  | ref a => exact h a x
  | none => trivial
  | bool b => trivial
  | int i t => trivial
  | str s t => trivial
  | bytes b t => trivial
  | _ => exact False.elim x
theorem relV_toV {A : List Addr} {u : Value} (x : OkU A u) : RelV (toV u) u := by
  cases u with
  | ref a => rfl
  | none => rfl
  | bool b => rfl
  | int i t => exact ⟨t, rfl⟩
  | str s t => exact ⟨t, rfl⟩
  | bytes b t => exact ⟨t, rfl⟩
  | _ => exact False.elim x
theorem vals_toV {A : List Addr} : ∀ {vs : List Value}, (∀ u ∈ vs, OkU A u) → Vals (vs.map toV) vs
  | [], _ => .nil
  | u :: r, h => .cons (relV_toV (h u (List.mem_cons_self ..))) (vals_toV fun x hx => h x (List.mem_cons_of_mem _ hx))
def ArgOb (h : Heap) (A : List Addr) (a : Addr) : Prop := ∃ vs : List Value, vs.length ≤ sizeLine ∧ (∀ u ∈ vs, OkU A u) ∧
  (h.get? a = some { cls := .type "list", data := .seq vs.toArray } ∨ h.get? a = some { cls := .type "tuple", data := .seq vs.toArray })
theorem ArgOb.mono {h : Heap} {A B : List Addr} {a : Addr} (k : ∀ a ∈ A, a ∈ B) (x : ArgOb h A a) : ArgOb h B a := by
  obtain ⟨vs, h1, h2, h3⟩ := x
  exact ⟨vs, h1, fun u hu => (h2 u hu).mono k, h3⟩
theorem wellAll_len {P : Params} {h : Heap} : ∀ {vs : List Value} {ds : List WData}, WellAll P h vs ds → vs.length = ds.length
  | _, _, .nil => rfl
  | _, _, .cons _ b => by
    show _ + 1 = _ + 1
    rw [wellAll_len b]
theorem well_list {P : Params} {h : Heap} {v : Value} {ds : List WData} (x : Well P h v (.list ds)) : ∃ (a : Addr) (vs : List Value), v = .ref a ∧ h.get? a = some { cls := .type "list", data := .seq vs.toArray } ∧ WellAll P h vs ds := by
  cases x with
  | list ho hall => exact ⟨_, _, rfl, ho, hall⟩
theorem well_tuple {P : Params} {h : Heap} {v : Value} {ds : List WData} (x : Well P h v (.tuple ds)) : ∃ (a : Addr) (vs : List Value), v = .ref a ∧ h.get? a = some { cls := .type "tuple", data := .seq vs.toArray } ∧ WellAll P h vs ds := by
  cases x with
  | tuple ho hall => exact ⟨_, _, rfl, ho, hall⟩
theorem well_cons {P : Params} {h : Heap} {us : List Value} {d : WData} {ds : List WData} (x : WellAll P h us (d :: ds)) : ∃ (v : Value) (vs : List Value), us = v :: vs ∧ Well P h v d ∧ WellAll P h vs ds := by
  cases x with
  | cons a b => exact ⟨_, _, rfl, a, b⟩
theorem line_of {n : Nat} (h : n ≤ 1048576) : n ≤ sizeLine := Nat.le_trans h (by decide)
section
variable {P : Params} {h : Heap}
mutual
theorem area_one : ∀ (d : WData) (v : Value), Well P h v d → plW d = true → d.weight ≤ 1048576 → ∃ A : List Addr, OkU A v ∧ ∀ a ∈ A, ArgOb h A a
  | .none, _, x, _, _ => by
    cases x
    exact ⟨[], trivial, fun a m => absurd m (by simp)⟩
  | .bool b, _, x, _, _ => by
    cases x
    exact ⟨[], trivial, fun a m => absurd m (by simp)⟩
  | .int i, _, x, _, _ => by
    cases x
    exact ⟨[], trivial, fun a m => absurd m (by simp)⟩
  | .str s, _, x, _, _ => by
    cases x
    exact ⟨[], trivial, fun a m => absurd m (by simp)⟩
  | .bytes b, _, x, _, _ => by
    cases x
    exact ⟨[], trivial, fun a m => absurd m (by simp)⟩
  | .list ds, _, x, p, z => by
    obtain ⟨a, vs, rfl, ho, hall⟩ := well_list x
    have z2 : WData.weightAll ds ≤ 1048576 := z
    obtain ⟨A, h1, h2⟩ := area_all ds _ hall p fun d hd => Nat.le_trans (weight_mem hd) z2
    have k : ∀ b ∈ A, b ∈ a :: A := fun b hb => List.mem_cons_of_mem _ hb
    refine ⟨a :: A, List.mem_cons_self .., fun b hb => ?_⟩
    rcases List.mem_cons.mp hb with e | m
    · rw [e]
      exact ⟨vs, line_of (by rw [wellAll_len hall]; exact Nat.le_trans (PySem.W.length_le_weightAllW ds) z2), fun u hu => (h1 u hu).mono k, .inl ho⟩
    · exact (h2 b m).mono k
  | .tuple ds, _, x, p, z => by
    obtain ⟨a, vs, rfl, ho, hall⟩ := well_tuple x
    have z2 : WData.weightAll ds ≤ 1048576 := z
    obtain ⟨A, h1, h2⟩ := area_all ds _ hall p fun d hd => Nat.le_trans (weight_mem hd) z2
    have k : ∀ b ∈ A, b ∈ a :: A := fun b hb => List.mem_cons_of_mem _ hb
    refine ⟨a :: A, List.mem_cons_self .., fun b hb => ?_⟩
    rcases List.mem_cons.mp hb with e | m
    · rw [e]
      exact ⟨vs, line_of (by rw [wellAll_len hall]; exact Nat.le_trans (PySem.W.length_le_weightAllW ds) z2), fun u hu => (h1 u hu).mono k, .inr ho⟩
    · exact (h2 b m).mono k
  | .float _, _, _, p, _ => Bool.noConfusion (show false = true from p)
  | .dict _, _, _, p, _ => Bool.noConfusion (show false = true from p)
  | .bytearray _, _, _, p, _ => Bool.noConfusion (show false = true from p)
  | .set _, _, _, p, _ => Bool.noConfusion (show false = true from p)
  | .frozenset _, _, _, p, _ => Bool.noConfusion (show false = true from p)
  | .obj _ _, _, _, p, _ => Bool.noConfusion (show false = true from p)
theorem area_all : ∀ (ds : List WData) (vs : List Value), WellAll P h vs ds → plWs ds = true → (∀ d ∈ ds, d.weight ≤ 1048576) → ∃ A : List Addr, (∀ u ∈ vs, OkU A u) ∧ ∀ a ∈ A, ArgOb h A a
  | [], _, x, _, _ => by
    cases x
    exact ⟨[], fun u m => absurd m (by simp), fun a m => absurd m (by simp)⟩
  | d :: ds, _, x, p, z => by
    obtain ⟨v, vs, rfl, x1, x2⟩ := well_cons x
    have q : plW d = true ∧ plWs ds = true := Bool.and_eq_true_iff.mp p
    obtain ⟨A, a1, a2⟩ := area_one d v x1 q.1 (z d (List.mem_cons_self ..))
    obtain ⟨B, b1, b2⟩ := area_all ds vs x2 q.2 fun e he => z e (List.mem_cons_of_mem _ he)
    have kA : ∀ b ∈ A, b ∈ A ++ B := fun b hb => List.mem_append.mpr (.inl hb)
    have kB : ∀ b ∈ B, b ∈ A ++ B := fun b hb => List.mem_append.mpr (.inr hb)
    refine ⟨A ++ B, fun u hu => ?_, fun b hb => ?_⟩
    · rcases List.mem_cons.mp hu with e | m
      · rw [e]
        exact a1.mono kA
      · exact (b1 u m).mono kB
    · rcases List.mem_append.mp hb with m | m
      · exact (a2 b m).mono kA
      · exact (b2 b m).mono kB
end
end
def hoOf (o : Obj) : Option HO := match o.data with
  | .seq vs _ => if (o.cls == Value.type "list") = true then some (.frz o (.lst (vs.toList.map toV))) else some (.frz o (.tup (vs.toList.map toV)))
  | _ => none
def argH (K : PySem.W.Frag) (h : Heap) (A : List Addr) : Hp := fun b => if b ∈ A then (if (K.lookup b).isNone = true then (h.get? b).bind hoOf else none) else none
def OnlyF (H : Hp) : Prop := ∀ b, H b = none ∨ ∃ o u, H b = some (.frz o u)
theorem hoOf_lst (vs : List Value) : hoOf { cls := .type "list", data := .seq vs.toArray } = some (.frz { cls := .type "list", data := .seq vs.toArray } (.lst (vs.map toV))) := by
  show (if (Value.type "list" == Value.type "list") = true then some (HO.frz { cls := .type "list", data := .seq vs.toArray } (.lst (vs.toArray.toList.map toV))) else some (HO.frz { cls := .type "list", data := .seq vs.toArray } (.tup (vs.toArray.toList.map toV)))) = _
  rw [if_pos (beq_self_eq_true _)]
theorem hoOf_tup (vs : List Value) : hoOf { cls := .type "tuple", data := .seq vs.toArray } = some (.frz { cls := .type "tuple", data := .seq vs.toArray } (.tup (vs.map toV))) := by
  show (if (Value.type "tuple" == Value.type "list") = true then some (HO.frz { cls := .type "tuple", data := .seq vs.toArray } (.lst (vs.toArray.toList.map toV))) else some (HO.frz { cls := .type "tuple", data := .seq vs.toArray } (.tup (vs.toArray.toList.map toV)))) = _
  rw [if_neg (by decide)]
section
variable {P : Program} {w : World} {K : PySem.W.Frag} {h : Heap} {A : List Addr}
theorem argH_at {b : Addr} {o : Obj} (hb : b ∈ A) (hk : K.lookup b = none) (e : h.get? b = some o) : argH K h A b = hoOf o := by
  unfold argH
  rw [if_pos hb, hk, if_pos (show (none : Option Obj).isNone = true from rfl), e] <;> rfl
theorem of_argH {b : Addr} {u : HO} (q : argH K h A b = some u) : b ∈ A ∧ K.lookup b = none := by
  unfold argH at q
  by_cases hb : b ∈ A
  · rw [if_pos hb] at q
    cases hk : K.lookup b with
    | none => exact ⟨hb, rfl⟩
    | some o =>
      rw [hk, if_neg (by simp)] at q
      cases q
  · rw [if_neg hb] at q
    cases q
theorem argH_is (ar : ∀ a ∈ A, ArgOb h A a) {b : Addr} {u : HO} (q : argH K h A b = some u) : K.lookup b = none ∧ ∃ vs : List Value, vs.length ≤ sizeLine ∧ (∀ u ∈ vs, OkU A u) ∧
    ((h.get? b = some { cls := .type "list", data := .seq vs.toArray } ∧ u = .frz { cls := .type "list", data := .seq vs.toArray } (.lst (vs.map toV))) ∨
     (h.get? b = some { cls := .type "tuple", data := .seq vs.toArray } ∧ u = .frz { cls := .type "tuple", data := .seq vs.toArray } (.tup (vs.map toV)))) := by
  obtain ⟨hb, hk⟩ := of_argH q
  obtain ⟨vs, h1, h2, h3⟩ := ar b hb
  refine ⟨hk, vs, h1, h2, ?_⟩
  rcases h3 with e | e
  · rw [argH_at hb hk e, hoOf_lst] at q
    exact .inl ⟨e, (Option.some.inj q).symm⟩
  · rw [argH_at hb hk e, hoOf_tup] at q
    exact .inr ⟨e, (Option.some.inj q).symm⟩
theorem argH_only (ar : ∀ a ∈ A, ArgOb h A a) : OnlyF (argH K h A) := fun b => by
  cases q : argH K h A b with
  | none => exact .inl rfl
  | some u =>
    obtain ⟨_, vs, _, _, ⟨_, e⟩ | ⟨_, e⟩⟩ := argH_is ar q
    · exact .inr ⟨_, _, by rw [e]⟩
    · exact .inr ⟨_, _, by rw [e]⟩
theorem argH_ok (ar : ∀ a ∈ A, ArgOb h A a) : HOk P w (argH K h A) h := fun b u q => by
  obtain ⟨_, vs, h1, h2, ⟨e, rfl⟩ | ⟨e, rfl⟩⟩ := argH_is ar q
  · exact ⟨e, by rw [List.length_map]; exact h1, vs, _, vals_toV h2, e⟩
  · exact ⟨e, by rw [List.length_map]; exact h1, vs, vals_toV h2, _, e, rfl, _, rfl⟩
theorem seq_inj {c c' : Value} {vs us : List Value} (e : (some { cls := c, data := .seq vs.toArray } : Option Obj) = some { cls := c', data := .seq us.toArray }) : c = c' ∧ vs = us := by
  have e1 := Option.some.inj e
  have e2 : c = c' := congrArg Obj.cls e1
  have e3 : Data.seq vs.toArray = Data.seq us.toArray := congrArg Obj.data e1
  injection e3 with e4
  refine ⟨e2, ?_⟩
  have e5 := congrArg Array.toList e4
  simpa using e5
theorem argL (KX : K.In h) (ar : ∀ a ∈ A, ArgOb h A a) {a : Addr} {vs : List Value} (ha : a ∈ A) (e : h.get? a = some { cls := .type "list", data := .seq vs.toArray }) : (∀ u ∈ vs, OkU A u) ∧ SqL K (argH K h A) a (vs.map toV) := by
  obtain ⟨us, h1, h2, h3⟩ := ar a ha
  have hu : us = vs := by
    rcases h3 with q | q
    · rw [e] at q
      exact (seq_inj q).2.symm
    · rw [e] at q
      exact absurd (Value.type.inj (seq_inj q).1) (by decide)
  subst hu
  refine ⟨h2, ?_⟩
  cases hk : K.lookup a with
  | none => exact .inl (.inr ⟨_, by rw [argH_at ha hk e, hoOf_lst]⟩)
  | some o =>
    have e2 := KX a o hk
    rw [e] at e2
    obtain rfl := Option.some.inj e2
    exact .inr ⟨_, us.toArray, _, hk, rfl, rfl, rfl, by rw [List.size_toArray]; exact h1, by simpa using vals_toV h2⟩
theorem argT (KX : K.In h) (ar : ∀ a ∈ A, ArgOb h A a) {a : Addr} {vs : List Value} (ha : a ∈ A) (e : h.get? a = some { cls := .type "tuple", data := .seq vs.toArray }) : (∀ u ∈ vs, OkU A u) ∧ SqT K (argH K h A) a (vs.map toV) := by
  obtain ⟨us, h1, h2, h3⟩ := ar a ha
  have hu : us = vs := by
    rcases h3 with q | q
    · rw [e] at q
      exact absurd (Value.type.inj (seq_inj q).1) (by decide)
    · rw [e] at q
      exact (seq_inj q).2.symm
  subst hu
  refine ⟨h2, ?_⟩
  cases hk : K.lookup a with
  | none => exact .inl (.inr ⟨_, by rw [argH_at ha hk e, hoOf_tup]⟩)
  | some o =>
    have e2 := KX a o hk
    rw [e] at e2
    obtain rfl := Option.some.inj e2
    exact .inr ⟨_, us.toArray, _, hk, rfl, rfl, by rw [List.size_toArray]; exact h1, by simpa using vals_toV h2⟩
mutual
theorem dw_one {Pm : Params} (KX : K.In h) (ar : ∀ a ∈ A, ArgOb h A a) : ∀ (d : WData) (v : Value), Well Pm h v d → plW d = true → OkU A v → Dw K (argH K h A) (toV v) d
  | .none, _, x, _, _ => by
    cases x
    exact .non
  | .bool b, _, x, _, _ => by
    cases x
    exact .bl b
  | .int i, _, x, _, _ => by
    cases x
    exact .int i
  | .str s, _, x, _, _ => by
    cases x
    exact .str s
  | .bytes b, _, x, _, _ => by
    cases x
    have z := Dw.byt (K := K) (H := argH K h A) b.toArray
    exact z
  | .list ds, _, x, p, hu => by
    obtain ⟨a, vs, rfl, ho, hall⟩ := well_list x
    obtain ⟨h2, hs⟩ := argL KX ar hu ho
    exact .lst hs (dw_all KX ar ds _ hall p h2)
  | .tuple ds, _, x, p, hu => by
    obtain ⟨a, vs, rfl, ho, hall⟩ := well_tuple x
    obtain ⟨h2, hs⟩ := argT KX ar hu ho
    exact .tup hs (dw_all KX ar ds _ hall p h2)
  | .float _, _, _, p, _ => Bool.noConfusion (show false = true from p)
  | .dict _, _, _, p, _ => Bool.noConfusion (show false = true from p)
  | .bytearray _, _, _, p, _ => Bool.noConfusion (show false = true from p)
  | .set _, _, _, p, _ => Bool.noConfusion (show false = true from p)
  | .frozenset _, _, _, p, _ => Bool.noConfusion (show false = true from p)
  | .obj _ _, _, _, p, _ => Bool.noConfusion (show false = true from p)
theorem dw_all {Pm : Params} (KX : K.In h) (ar : ∀ a ∈ A, ArgOb h A a) : ∀ (ds : List WData) (vs : List Value), WellAll Pm h vs ds → plWs ds = true → (∀ u ∈ vs, OkU A u) → DwAll K (argH K h A) (vs.map toV) ds
  | [], _, x, _, _ => by
    cases x
    exact .nil
  | d :: ds, _, x, p, hu => by
    obtain ⟨v, vs, rfl, x1, x2⟩ := well_cons x
    have q : plW d = true ∧ plWs ds = true := Bool.and_eq_true_iff.mp p
    exact .cons (dw_one KX ar d v x1 q.1 (hu _ (List.mem_cons_self ..))) (dw_all KX ar ds vs x2 q.2 fun u m => hu u (List.mem_cons_of_mem _ m))
end
end
theorem spec_call {P : Program} {w : World} {K : PySem.W.Frag} {mg mb : Str → Option Value} {CX : CXT} {k : Nat} {fa : Addr} {fd : FuncData} {ps : List Str} {sp : Sp} {s₁ : Shared} {vals : List Value} {ds : List WData} {R : PySem.W.WRecords} {cl : Str → Option Addr} {d0 : WData}
    (KX : K.In s₁.heap) (hns : s₁.heap.Ns mainGlobals mg) (hb : s₁.heap.Ns builtinsNs mb) (hbb : ∀ x : Str, x ≠ "__name__" → mb x = bootBuiltins x) (hlim : s₁.heap.NoLimit) (hg : s₁.gens = #[])
    (hwl : WellAll w.params s₁.heap vals ds) (hpl : plWs ds = true) (hwt : ∀ d ∈ ds, d.weight ≤ 1048576) (hr : Room k callerA)
    (F : ∀ base : Heap, K.In base → base.Ns mainGlobals mg → FnOk P w K mg base CX k fa fd ps sp) (hbind : ∀ (s : Shared) (us : List Value), us.length = ps.length → BindsTo s fd ⟨us, []⟩ (ps.zip us)) (hlen : ds.length = ps.length)
    (hsp : ∀ (H : Hp) (xs : List V), OnlyF H → DwAll K H xs ds → sp xs H (fun v H' => Dw K H' v d0) fun _ _ _ => False)
    (hCX : ∀ H e s', CX [] H s₁ (fun _ _ _ => False) e s' → False) :
    codeAny (model P w) callerA (.call (.ref fa) ⟨vals, []⟩) (fun r s' => ∃ u as, r = .ok (.ret u) ∧ ReadsW R cl s'.heap u d0 as ∧ OldK s₁.heap s'.heap ∧ s'.os = s₁.os ∧ AllBare s'.gens) s₁ := by
  obtain ⟨A, ho, ar⟩ := area_all ds vals hwl hpl hwt
  have hO : OnlyF (argH K s₁.heap A) := argH_only ar
  have hok : HOk P w (argH K s₁.heap A) s₁.heap := argH_ok ar
  have hS := dw_all KX ar ds vals hwl hpl ho
  have hV := vals_toV ho
  have hK : ∀ b u, argH K s₁.heap A b = some u → K.lookup b = none := fun b u q => (argH_is ar q).1
  have noA : ∀ {b : Addr} {o : Obj} {es : Array DictEntry} {ep : Nat}, s₁.heap.get? b = some o → o.data = .dict es ep → argH K s₁.heap A b = none := fun {b o es ep} e d => by
    cases q : argH K s₁.heap A b with
    | none => rfl
    | some u =>
      obtain ⟨_, vs, _, _, ⟨e2, _⟩ | ⟨e2, _⟩⟩ := argH_is ar q
      · rw [e2] at e
        cases e
        have d' : Data.seq vs.toArray _ = Data.dict es ep := d
        cases d'
      · rw [e2] at e
        cases e
        have d' : Data.seq vs.toArray _ = Data.dict es ep := d
        cases d'
  generalize argH K s₁.heap A = H at hO hok hS hK noA
  have base_of : ∀ {b : Addr} {o : Obj}, s₁.heap.get? b = some o → H b = none → (hidT s₁.heap H).get? b = some o := fun e n => hidT_get e n
  have nsK : ∀ {b : Addr} {m : Str → Option Value}, s₁.heap.Ns b m → (hidT s₁.heap H).Ns b m := fun {b m} ⟨o, es, ep, e, d, r⟩ => ⟨o, es, ep, base_of e (noA e d), d, r⟩
  have nK : ∀ b o, K.lookup b = some o → H b = none := fun b o e => by
    cases q : H b with
    | none => rfl
    | some u =>
      rw [hK b u q] at e
      cases e
  have hKb : K.In (hidT s₁.heap H) := fun b o e => base_of (KX b o e) (nK b o e)
  have hM : Mod K mg (hidT s₁.heap H) := ⟨hKb, nsK hns, ⟨mb, nsK hb, hbb⟩, let ⟨mc, h1, h2⟩ := hlim; ⟨mc, nsK h1, h2⟩⟩
  have e0 : Env0 P w K mg (hidT s₁.heap H) callerA [] s₁ H := ⟨rfl, hM, fun b o e => of_hidT e, Nat.le_of_eq (hidT_size _ _), trivial, fun b hb => absurd (show b ∈ ([] : List Addr) from hb) (by simp), hok, .of_eq hg⟩
  have hl : vals.length = ps.length := by rw [wellAll_len hwl]; exact hlen
  refine codeAny_mono ((F _ hKb (nsK hns)).run callerA [] s₁ H ⟨vals, []⟩ vals (vals.map toV) _ _ hr e0 (hbind s₁ vals hl) hV (hsp H _ hO hS)) fun r s' x => ?_
  cases r with
  | error e => exact (hCX H e s' x).elim
  | ok fl =>
    cases fl with
    | next => exact False.elim x
    | brk => exact False.elim x
    | cont => exact False.elim x
    | ret u =>
      obtain ⟨v, H', os, bare, un, hok', r', q⟩ := x
      have kept : ∀ b o, s₁.heap.get? b = some o → s'.heap.get? b = some o := fun b o e => by
        cases q2 : H b with
        | none => exact un.keep b o e q2 (by intro z; exact absurd (show b ∈ ([] : List Addr) from z) (by simp)) (by simp)
        | some u2 =>
          rcases hO b with z | ⟨ob, u3, z⟩
          · rw [q2] at z
            cases z
          · have z2 := un.frzs b ob _ z
            obtain ⟨e1, _⟩ := hok b _ z
            obtain ⟨e2, _⟩ := hok' b _ z2
            rw [e] at e1
            cases e1
            exact e2
      have KX' : K.In s'.heap := fun b o e => kept b o (KX b o e)
      obtain ⟨as, hrd⟩ := Dw.reads (R := R) (cl := cl) hok' KX' d0 v u q r'
      exact ⟨u, as, rfl, hrd, OldK.of_keep kept, os, bare⟩
theorem layable_weight {ds : List WData} (h : WData.layableAll ds = true) : ∀ d ∈ ds, d.weight ≤ 1048576 := fun d hd =>
  (PySem.W.layableW_iff.mp (List.all_eq_true.mp h d hd)).2.2
theorem encAll_len : ∀ (cs : List Codec) (a : Codec.denoteAll cs), (Codec.encAll cs a).length = cs.length
  | [], _ => rfl
  | c :: cs, a => by
    show (Codec.encAll cs a.2).length + 1 = cs.length + 1
    rw [encAll_len cs a.2]
theorem walk_spec {r : OpenSpec} {k : Nat} {q : Program} {loose : List Str} {XP : (Str → Option Value) → Heap → Prop} {YP : World → Heap → Prop} {d : DefRec} {K : Params → PySem.W.Frag} {CX : World → CXT} {ps : List Str} {sp : World → Sp}
    (hwell : r.wellSaid = true) (hdf : d.params.defaults = []) (hlen : r.args.length = ps.length) (hr : Room k callerA)
    (hY : ∀ (w : World) (h : Heap), YP w h → (K w.params).In h)
    (F : ∀ (w : World) (mg : Str → Option Value) (fa : Addr) (h : Heap), YP w h → (K w.params).In h → h.Ns mainGlobals mg → mg d.name = some (.ref fa) →
      ∃ fd : FuncData, (∀ (s : Shared) (us : List Value), us.length = ps.length → BindsTo s fd ⟨us, []⟩ (ps.zip us)) ∧
        ∀ base : Heap, (K w.params).In base → base.Ns mainGlobals mg → FnOk r.prog w (K w.params) mg base (CX w) k fa fd ps (sp w))
    (hsp : ∀ (w : World) (H : Hp) (xs : List V) (a : Codec.denoteAll r.args), OnlyF H → Codec.withinAll r.args a = true → Codec.app r.args r.asked a = true → DwAll (K w.params) H xs (Codec.encAll r.args a) →
      sp w xs H (fun v H' => Dw (K w.params) H' v (r.ret.enc (Codec.app r.args r.f a))) fun _ _ _ => False)
    (hCX : ∀ (w : World) (H : Hp) (s : Shared) (e : Value) (s' : Shared), CX w [] H s (fun _ _ _ => False) e s' → False) :
    PySem.W.WalkOS q loose XP YP r d [] (fun f vs => PySem.call f vs) := by
  intro w s_0 s₁ mg mb G Y fa o pm cd doc dV kV ho hd hcd hD hmg hg args vals as hpre hlay hrd hwl hlo
  obtain ⟨a, e1, e2⟩ := PySem.W.os_pre_some hpre
  obtain ⟨e3, hwi⟩ := Codec.encAll_of_decAll r.args args a e1
  subst e3
  have KX := hY w _ Y
  obtain ⟨fd, hb, hF⟩ := F w mg fa _ Y KX G.T.g hmg
  refine PySem.W.enter_call (codeAny_mono (spec_call (R := []) (cl := classAt s_0.heap) (d0 := r.ret.enc (Codec.app r.args r.f a)) KX G.T.g G.T.b G.T.builtins G.T.nolimit hg hwl (pl_encAll _ _) (layable_weight hlay) hr hF hb (by rw [encAll_len]; exact hlen)
    (fun H xs hO hS => hsp w H xs a hO hwi e2 hS) fun H e s' => hCX w H s₁ e s') fun r' s' hq => ?_)
  obtain ⟨u, as', rfl, h1, h2, h3, h4⟩ := hq
  exact ⟨.inl ⟨u, _, as', rfl, fun _ => rfl, h1, (OpenSpec.post_iff hwell hwi _ _).mpr rfl, fun z => Bool.noConfusion (show false = true from z)⟩, h2, h3, h4⟩
theorem walk_specK {r : OpenSpec} {k : Nat} {q : Program} {loose : List Str} {XP : (Str → Option Value) → Heap → Prop} {YP : World → Heap → Prop} {d : DefRec} {K : Params → PySem.W.Frag} {CX : CXT} {ps : List Str} {sp : PySem.W.Frag → Sp}
    (hwell : r.wellSaid = true) (hdf : d.params.defaults = []) (hlen : r.args.length = ps.length) (hr : Room k callerA)
    (hY : ∀ (w : World) (h : Heap), YP w h → (K w.params).In h)
    (F : ∀ (w : World) (mg : Str → Option Value) (fa : Addr) (h : Heap), YP w h → (K w.params).In h → h.Ns mainGlobals mg → mg d.name = some (.ref fa) →
      ∃ fd : FuncData, (∀ (s : Shared) (us : List Value), us.length = ps.length → BindsTo s fd ⟨us, []⟩ (ps.zip us)) ∧
        ∀ base : Heap, (K w.params).In base → base.Ns mainGlobals mg → FnOk r.prog w (K w.params) mg base CX k fa fd ps (sp (K w.params)))
    (hsp : ∀ (K : PySem.W.Frag) (H : Hp) (xs : List V) (a : Codec.denoteAll r.args), OnlyF H → Codec.withinAll r.args a = true → Codec.app r.args r.asked a = true → DwAll K H xs (Codec.encAll r.args a) →
      sp K xs H (fun v H' => Dw K H' v (r.ret.enc (Codec.app r.args r.f a))) fun _ _ _ => False)
    (hCX : ∀ (H : Hp) (s : Shared) (e : Value) (s' : Shared), CX [] H s (fun _ _ _ => False) e s' → False) :
    PySem.W.WalkOS q loose XP YP r d [] (fun f vs => PySem.call f vs) :=
  walk_spec (K := K) (CX := fun _ => CX) (sp := fun w => sp (K w.params)) hwell hdf hlen hr hY F (fun w H xs a h1 h2 h3 h4 => hsp (K w.params) H xs a h1 h2 h3 h4) fun _ H s e s' => hCX H s e s'
end L2
end
end
section
set_option linter.all false
namespace Lr
open Vbecao
theorem numberOf_from (l : List Nat) : ∀ (s a : Nat), (l.foldl (fun s c => s ||| 2 ^ c) s).testBit a = (s.testBit a || l.contains a) := by
  induction l with
  | nil => intro s a; simp
  | cons x r ih =>
    intro s a
    rw [List.foldl_cons, ih, Nat.testBit_or, Nat.testBit_two_pow]
    by_cases h : x = a
    · subst h; simp
    · have h' : ¬ a = x := fun e => h e.symm
      simp [h, h', List.contains_cons]
theorem numberOf_bit (l : List Nat) (a : Nat) : (numberOf l).testBit a = l.contains a := by
  unfold numberOf; rw [numberOf_from]; simp
theorem numberOf_snoc (l : List Nat) (c : Nat) : numberOf (l ++ [c]) = numberOf l ||| 2 ^ c := by
  unfold numberOf; rw [List.foldl_append]; rfl
theorem lt_two_pow_of_bits {s n : Nat} (h : ∀ a, n ≤ a → s.testBit a = false) : s < 2 ^ n := Nat.lt_pow_two_of_testBit s h
theorem numberOf_lt {l : List Nat} {n : Nat} (h : ∀ c ∈ l, c < n) : numberOf l < 2 ^ n := lt_two_pow_of_bits fun a ha => by
  rw [numberOf_bit]
  cases e : l.contains a with
  | false => rfl
  | true =>
    have := h a (by simpa using e)
    omega
theorem bit_lt {s n a : Nat} (h : s < 2 ^ n) (b : s.testBit a = true) : a < n := by
  rcases Nat.lt_or_ge a n with h' | h'
  · exact h'
  · have : s.testBit a = false := Nat.testBit_lt_two_pow (Nat.lt_of_lt_of_le h (Nat.pow_le_pow_right (by decide) h'))
    rw [this] at b; cases b
theorem and_ne {x y : Nat} : x &&& y ≠ 0 ↔ ∃ a, x.testBit a = true ∧ y.testBit a = true := by
  constructor
  · intro h
    apply Classical.byContradiction
    intro hn
    apply h
    apply Nat.eq_of_testBit_eq
    intro i
    rw [Nat.testBit_and, Nat.zero_testBit]
    cases e : x.testBit i with
    | false => rfl
    | true =>
      cases e2 : y.testBit i with
      | false => rfl
      | true => exact absurd ⟨i, e, e2⟩ hn
  · rintro ⟨a, h1, h2⟩ e
    have : (x &&& y).testBit a = true := by rw [Nat.testBit_and, h1, h2]; rfl
    rw [e, Nat.zero_testBit] at this; cases this
theorem mem_members {m : Land} {s c : Nat} : c ∈ members m s ↔ c < m.size ∧ s.testBit c = true := by
  unfold members cells isIn; rw [List.mem_filter, List.mem_range]
theorem members_sorted (m : Land) (s : Nat) : (members m s).Pairwise (· < ·) := by
  unfold members cells; exact List.Pairwise.filter _ List.pairwise_lt_range
theorem length_members_le (m : Land) (s : Nat) : (members m s).length ≤ m.size := by
  unfold members cells
  have := List.length_filter_le (isIn s) (List.range m.size)
  simpa using this
def cellsOf (s : Nat) : List Nat := (List.range 12).filter fun c => s.testBit c
theorem filter_range_le {p : Nat → Bool} {n k : Nat} (h : ∀ a, n ≤ a → p a = false) : (List.range (n + k)).filter p = (List.range n).filter p := by
  induction k with
  | zero => rfl
  | succ k ih =>
    rw [← Nat.add_assoc, List.range_succ, List.filter_append, ih]
    simp [h (n + k) (Nat.le_add_right _ _)]
theorem cellsOf_eq {m : Land} {s : Nat} (hm : m.size ≤ 12) (h : s < 2 ^ m.size) : cellsOf s = members m s := by
  unfold cellsOf members cells
  have e : (12 : Nat) = m.size + (12 - m.size) := by omega
  rw [e, filter_range_le]
  · rfl
  · intro a ha
    cases e : s.testBit a with
    | false => rfl
    | true => have := bit_lt h e; omega
theorem beside_symm {m : Land} {a b : Nat} : beside m a b = beside m b a := by
  unfold beside
  rw [Bool.eq_iff_iff]
  simp only [Bool.or_eq_true, Bool.and_eq_true, beq_iff_eq]
  constructor
  · rintro (⟨h1, h2⟩ | h)
    · exact .inl ⟨h1.symm, h2.symm⟩
    · exact .inr h.symm
  · rintro (⟨h1, h2⟩ | h)
    · exact .inl ⟨h1.symm, h2.symm⟩
    · exact .inr h.symm
def nears (w h c : Nat) : List Nat := (((if w ≤ c then [c - w] else []) ++ (if 0 < c % w then [c - 1] else [])) ++ (if c % w < w - 1 then [c + 1] else [])) ++ (if c + w < w * h then [c + w] else [])
def bes (w a b : Nat) : Bool := (a / w == b / w && (a + 1 == b || b + 1 == a)) || (a + w == b || b + w == a)
def nearLook (w h : Nat) : Bool := !(decide (0 < w) && decide (w * h ≤ 12)) || (List.range (w * h)).all fun c =>
  ((nears w h c).all fun x => decide (x < w * h) && bes w x c) && (List.range (w * h)).all fun a => !bes w a c || (nears w h c).contains a
theorem near_looks : ((List.range 13).all fun w => (List.range 13).all fun h => nearLook w h) = true := by decide +kernel
theorem near_iff {w h c a : Nat} {p k : List Nat} (hw : 0 < w) (hh : 0 < h) (h12 : w * h ≤ 12) (hc : c < w * h) : a ∈ nears w h c ↔ a < w * h ∧ beside ⟨w, h, p, k⟩ a c = true := by
  have w12 : w < 13 := Nat.lt_succ_of_le (Nat.le_trans (Nat.le_mul_of_pos_right w hh) h12)
  have h13 : h < 13 := Nat.lt_succ_of_le (Nat.le_trans (Nat.le_mul_of_pos_left h hw) h12)
  have l := List.all_eq_true.mp (List.all_eq_true.mp near_looks w (List.mem_range.mpr w12)) h (List.mem_range.mpr h13)
  unfold nearLook at l
  rw [decide_eq_true hw, decide_eq_true h12, Bool.and_true, Bool.not_true, Bool.false_or] at l
  have l := List.all_eq_true.mp l c (List.mem_range.mpr hc)
  rw [Bool.and_eq_true] at l
  constructor
  · intro ha
    have := List.all_eq_true.mp l.1 a ha
    rw [Bool.and_eq_true, decide_eq_true_eq] at this
    exact this
  · rintro ⟨ha, hb⟩
    have := List.all_eq_true.mp l.2 a (List.mem_range.mpr ha)
    rw [show bes w a c = true from hb, Bool.not_true, Bool.false_or] at this
    exact List.contains_iff_mem.mp this
structure Sound (m : Land) : Prop where
  w1 : 0 < m.w
  h1 : 0 < m.h
  sz : m.size ≤ 12
  pl : m.prices.length = m.size
  kl : m.kinds.length = m.size
def nearSet (w h c : Nat) : Nat := numberOf (nears w h c)
theorem nearSet_bit {m : Land} {c a : Nat} (hw : Sound m) (hc : c < m.size) : (nearSet m.w m.h c).testBit a = true ↔ a < m.size ∧ beside m a c = true := by
  unfold nearSet
  rw [numberOf_bit, List.contains_iff_mem]
  exact near_iff hw.w1 hw.h1 hw.sz hc
inductive Con (m : Land) (s : Nat) : Nat → Nat → Prop
  | refl {c : Nat} : c < m.size → s.testBit c = true → Con m s c c
  | step {a b c : Nat} : Con m s a b → c < m.size → s.testBit c = true → beside m b c = true → Con m s a c
theorem Con.left {m : Land} {s a b : Nat} (h : Con m s a b) : a < m.size ∧ s.testBit a = true := by
  induction h with
  | refl h1 h2 => exact ⟨h1, h2⟩
  | step _ _ _ _ ih => exact ih
theorem Con.right {m : Land} {s a b : Nat} (h : Con m s a b) : b < m.size ∧ s.testBit b = true := by
  cases h with
  | refl h1 h2 => exact ⟨h1, h2⟩
  | step _ h1 h2 _ => exact ⟨h1, h2⟩
theorem Con.trans {m : Land} {s a b c : Nat} (h : Con m s a b) (h' : Con m s b c) : Con m s a c := by
  induction h' with
  | refl _ _ => exact h
  | step _ h1 h2 h3 ih => exact .step ih h1 h2 h3
theorem Con.symm {m : Land} {s a b : Nat} (h : Con m s a b) : Con m s b a := by
  induction h with
  | refl h1 h2 => exact .refl h1 h2
  | step h0 h1 h2 h3 ih => exact (Con.step (.refl h1 h2) h0.right.1 h0.right.2 (by rw [beside_symm]; exact h3)).trans ih
theorem Con.mono {m : Land} {s t a b : Nat} (st : ∀ c, s.testBit c = true → t.testBit c = true) (h : Con m s a b) : Con m t a b := by
  induction h with
  | refl h1 h2 => exact .refl h1 (st _ h2)
  | step _ h1 h2 h3 ih => exact .step ih h1 (st _ h2) h3
def spr (m : Land) (s : Nat) (l : List Nat) : List Nat := (members m s).filter fun c => l.contains c || l.any fun a => beside m a c
theorem mem_spr {m : Land} {s c : Nat} {l : List Nat} : c ∈ spr m s l ↔ c ∈ members m s ∧ (c ∈ l ∨ ∃ a ∈ l, beside m a c = true) := by
  unfold spr; rw [List.mem_filter]; simp
theorem spread_succ (m : Land) (s f : Nat) (l : List Nat) : spread m s (f + 1) l = spread m s f (spr m s l) := rfl
theorem filter_grow {α : Type} {p q : α → Bool} : ∀ {l : List α}, (∀ x ∈ l, p x = true → q x = true) → (l.filter p = l.filter q) ∨ (l.filter p).length + 1 ≤ (l.filter q).length
  | [], _ => .inl rfl
  | x :: r, h => by
    have ih := filter_grow (l := r) fun y hy => h y (List.mem_cons_of_mem _ hy)
    have le : (r.filter p).length ≤ (r.filter q).length := by
      rcases ih with e | e
      · rw [e]; exact Nat.le_refl _
      · omega
    cases hp : p x with
    | true =>
      have hq := h x (List.mem_cons_self ..) hp
      rw [List.filter_cons_of_pos hp, List.filter_cons_of_pos hq]
      rcases ih with e | e
      · exact .inl (by rw [e])
      · exact .inr (by simp only [List.length_cons]; omega)
    | false =>
      rw [List.filter_cons_of_neg (by simp [hp])]
      cases hq : q x with
      | true =>
        rw [List.filter_cons_of_pos hq]
        exact .inr (by simp only [List.length_cons]; omega)
      | false =>
        rw [List.filter_cons_of_neg (by simp [hq])]
        exact ih
theorem spread_stable {m : Land} {s : Nat} : ∀ (f : Nat) (l : List Nat) (p : Nat → Bool), l = (members m s).filter p → spr m s (spread m s f l) = spread m s f l ∨ l.length + f ≤ (spread m s f l).length
  | 0, l, p, _ => .inr (Nat.le_refl _)
  | f + 1, l, p, hl => by
    have grow : l = spr m s l ∨ l.length + 1 ≤ (spr m s l).length := by
      have := filter_grow (l := members m s) (p := p) (q := fun c => l.contains c || l.any fun a => beside m a c) fun x hx hp => by
        have : x ∈ l := by rw [hl]; exact List.mem_filter.mpr ⟨hx, hp⟩
        simp [this]
      rw [← hl] at this
      exact this
    rw [spread_succ]
    rcases grow with e | e
    · rw [← e]
      rcases spread_stable f l p hl with h | h
      · exact .inl h
      · left
        have fix : ∀ k, spread m s k l = l := by
          intro k
          induction k with
          | zero => rfl
          | succ k ih => rw [spread_succ, ← e, ih]
        rw [fix f]; exact e.symm
    · rcases spread_stable f (spr m s l) _ rfl with h | h
      · exact .inl h
      · exact .inr (by omega)
theorem spread_sub {m : Land} {s a : Nat} : ∀ (f : Nat) (l : List Nat), a ∈ l → (∀ x ∈ l, x ∈ members m s) → a ∈ spread m s f l
  | 0, _, h, _ => h
  | f + 1, l, h, hl => spread_sub f (spr m s l) (mem_spr.mpr ⟨hl a h, .inl h⟩) fun x hx => (mem_spr.mp hx).1
theorem spread_con {m : Land} {s c : Nat} : ∀ (f : Nat) (l : List Nat), (∀ x ∈ l, Con m s c x) → ∀ x ∈ spread m s f l, Con m s c x
  | 0, _, h => h
  | f + 1, l, h => spread_con f (spr m s l) fun x hx => by
    obtain ⟨hm, h1 | ⟨a, ha, hb⟩⟩ := mem_spr.mp hx
    · exact h x h1
    · exact .step (h a ha) (mem_members.mp hm).1 (mem_members.mp hm).2 hb
theorem sing_filter {m : Land} {s c : Nat} (hc : c ∈ members m s) : [c] = (members m s).filter (· == c) := by
  have nd : (members m s).Nodup := (members_sorted m s).imp fun h => Nat.ne_of_lt h
  generalize members m s = l at hc nd
  induction l with
  | nil => cases hc
  | cons x r ih =>
    rw [List.nodup_cons] at nd
    by_cases e : x = c
    · subst e
      rw [List.filter_cons_of_pos (by simp), List.filter_eq_nil_iff.mpr]
      intro a ha; simp; intro e; subst e; exact nd.1 ha
    · rw [List.filter_cons_of_neg (by simpa using e)]
      exact ih (by rcases List.mem_cons.mp hc with h | h; exact absurd h.symm e; exact h) nd.2
theorem mem_piece {m : Land} {s c a : Nat} (hc : c ∈ members m s) : a ∈ piece m s c ↔ Con m s c a := by
  have hcm := mem_members.mp hc
  constructor
  · intro h
    refine spread_con m.size [c] ?_ a h
    intro x hx; simp at hx; subst hx; exact .refl hcm.1 hcm.2
  · intro h
    have st : spr m s (piece m s c) = piece m s c := by
      rcases spread_stable m.size [c] _ (sing_filter hc) with h1 | h1
      · exact h1
      · exfalso
        have : (spread m s m.size [c]).length ≤ m.size := by
          cases hs : m.size with
          | zero => omega
          | succ n =>
            have : ∀ (f : Nat) (l : List Nat), 0 < f → (spread m s f l).length ≤ m.size := by
              intro f
              induction f with
              | zero => intro l h; omega
              | succ f ih =>
                intro l _
                rw [spread_succ]
                cases f with
                | zero => exact Nat.le_trans (List.length_filter_le ..) (length_members_le m s)
                | succ f => exact ih _ (by omega)
            have := this (n + 1) [c] (by omega)
            omega
        simp at h1; omega
    induction h with
    | refl h1 h2 => exact spread_sub _ _ (by simp) (by simpa using hc)
    | step h0 h1 h2 h3 ih =>
      rw [← st]
      exact mem_spr.mpr ⟨mem_members.mpr ⟨h1, h2⟩, .inr ⟨_, ih, h3⟩⟩
end Lr
end
section
set_option linter.all false
namespace Lr
open Vbecao
def Least (m : Land) (s c : Nat) : Prop := c < m.size ∧ s.testBit c = true ∧ ∀ a, Con m s c a → c ≤ a
theorem mem_pieces {m : Land} {s c : Nat} : c ∈ pieces m s ↔ Least m s c := by
  unfold pieces Least
  rw [List.mem_filter, mem_members]
  simp only [List.all_eq_true, decide_eq_true_eq]
  constructor
  · rintro ⟨⟨h1, h2⟩, h3⟩
    exact ⟨h1, h2, fun a ha => h3 a ((mem_piece (mem_members.mpr ⟨h1, h2⟩)).mpr ha)⟩
  · rintro ⟨h1, h2, h3⟩
    exact ⟨⟨h1, h2⟩, fun a ha => h3 a ((mem_piece (mem_members.mpr ⟨h1, h2⟩)).mp ha)⟩
theorem pieces_sorted (m : Land) (s : Nat) : (pieces m s).Pairwise (· < ·) := by
  unfold pieces; exact (members_sorted m s).filter _
theorem sorted_ext {l₁ l₂ : List Nat} (h1 : l₁.Pairwise (· < ·)) (h2 : l₂.Pairwise (· < ·)) (h : ∀ x, x ∈ l₁ ↔ x ∈ l₂) : l₁ = l₂ := by
  induction l₁ generalizing l₂ with
  | nil =>
    cases l₂ with
    | nil => rfl
    | cons y r => exact absurd ((h y).mpr (List.mem_cons_self ..)) (by simp)
  | cons x r ih =>
    cases l₂ with
    | nil => exact absurd ((h x).mp (List.mem_cons_self ..)) (by simp)
    | cons y q =>
      rw [List.pairwise_cons] at h1 h2
      have e : x = y := by
        rcases List.mem_cons.mp ((h x).mp (List.mem_cons_self ..)) with e | e
        · exact e
        · rcases List.mem_cons.mp ((h y).mpr (List.mem_cons_self ..)) with e' | e'
          · exact e'.symm
          · have := h1.1 y e'; have := h2.1 x e; omega
      subst e
      rw [ih h1.2 h2.2]
      intro z
      constructor
      · intro hz
        rcases List.mem_cons.mp ((h z).mp (List.mem_cons_of_mem _ hz)) with e | e
        · subst e; have := h1.1 z hz; omega
        · exact e
      · intro hz
        rcases List.mem_cons.mp ((h z).mpr (List.mem_cons_of_mem _ hz)) with e | e
        · subst e; have := h2.1 z hz; omega
        · exact e
theorem least_of {m : Land} {s : Nat} : ∀ (n a : Nat), a < n → a < m.size → s.testBit a = true → ∃ c, Least m s c ∧ Con m s c a
  | 0, a, h, _, _ => by omega
  | n + 1, a, h, h1, h2 => by
    by_cases q : ∃ b, Con m s a b ∧ b < a
    · obtain ⟨b, hb, hl⟩ := q
      obtain ⟨c, hc, hcb⟩ := least_of n b (by omega) hb.right.1 hb.right.2
      exact ⟨c, hc, hcb.trans hb.symm⟩
    · refine ⟨a, ⟨h1, h2, fun b hb => ?_⟩, .refl h1 h2⟩
      rcases Nat.lt_or_ge b a with h' | h'
      · exact absurd ⟨b, hb, h'⟩ q
      · exact h'
theorem least_unique {m : Land} {s c d : Nat} (hc : Least m s c) (hd : Least m s d) (h : Con m s c d) : c = d := by
  have := hc.2.2 d h
  have := hd.2.2 c h.symm
  omega
theorem joined_iff {m : Land} {s : Nat} : joined m s = true ↔ ∀ a b, a < m.size → s.testBit a = true → b < m.size → s.testBit b = true → Con m s a b := by
  unfold joined
  rw [decide_eq_true_eq]
  constructor
  · intro hl a b ha1 ha2 hb1 hb2
    obtain ⟨c, hc, hca⟩ := least_of (m := m) (s := s) (a + 1) a (by omega) ha1 ha2
    obtain ⟨d, hd, hdb⟩ := least_of (m := m) (s := s) (b + 1) b (by omega) hb1 hb2
    have mc := mem_pieces.mpr hc
    have md := mem_pieces.mpr hd
    have e : c = d := by
      match h : pieces m s, hl with
      | [], _ => rw [h] at mc; cases mc
      | [x], _ => rw [h] at mc md; simp at mc md; omega
      | _ :: _ :: _, hl => simp at hl
    subst e
    exact hca.symm.trans hdb
  · intro h
    match e : pieces m s with
    | [] => simp
    | [x] => simp
    | x :: y :: r =>
      exfalso
      have so := pieces_sorted m s
      rw [e] at so
      have hx : Least m s x := mem_pieces.mp (by rw [e]; simp)
      have hy : Least m s y := mem_pieces.mp (by rw [e]; simp)
      have := least_unique hx hy (h x y hx.1 hx.2.1 hy.1 hy.2.1)
      subst this
      simp at so
structure First (m : Land) (s r : Nat) : Prop where
  lt : r < 2 ^ m.size
  bit : ∀ a, r.testBit a = true ↔ ∃ c rest, members m s = c :: rest ∧ Con m s c a
theorem First.sub {m : Land} {s r a : Nat} (h : First m s r) (ha : r.testBit a = true) : s.testBit a = true := by
  obtain ⟨c, _, _, h2⟩ := (h.bit a).mp ha
  exact h2.right.2
theorem head_least {m : Land} {s c : Nat} {rest : List Nat} (h : members m s = c :: rest) : Least m s c := by
  have hm : c ∈ members m s := by rw [h]; exact List.mem_cons_self ..
  have hm' := mem_members.mp hm
  refine ⟨hm'.1, hm'.2, fun a ha => ?_⟩
  have so := members_sorted m s
  rw [h, List.pairwise_cons] at so
  have : a ∈ members m s := mem_members.mpr ha.right
  rw [h] at this
  rcases List.mem_cons.mp this with e | e
  · omega
  · exact Nat.le_of_lt (so.1 a e)
theorem xor_add {s r : Nat} (h : ∀ a, r.testBit a = true → s.testBit a = true) : (s ^^^ r) + r = s := by
  have hs : s < 2 ^ (s + 1) := Nat.lt_trans (Nat.lt_succ_self s) Nat.lt_two_pow_self
  have hr : r < 2 ^ (s + 1) := Nat.lt_pow_two_of_testBit r fun i hi => by
    cases e : r.testBit i with
    | false => rfl
    | true =>
      have := h i e
      rw [Nat.testBit_lt_two_pow (Nat.lt_of_lt_of_le hs (Nat.pow_le_pow_right (by decide) hi))] at this
      cases this
  have hx : s ^^^ r < 2 ^ (s + 1) := Nat.xor_lt_two_pow hs hr
  have hor : (s ^^^ r) ||| r = s := by
    apply Nat.eq_of_testBit_eq; intro i
    rw [Nat.testBit_or, Nat.testBit_xor]
    cases e : r.testBit i with
    | false => simp
    | true => rw [h i e]; rfl
  have hand : (s ^^^ r) &&& r = 0 := by
    apply Nat.eq_of_testBit_eq; intro i
    rw [Nat.testBit_and, Nat.testBit_xor, Nat.zero_testBit]
    cases e : r.testBit i with
    | false => simp
    | true => rw [h i e]; rfl
  have k := BitVec.add_eq_or_of_and_eq_zero (BitVec.ofNat (s + 2) (s ^^^ r)) (BitVec.ofNat (s + 2) r) (by
    apply BitVec.eq_of_toNat_eq
    rw [BitVec.toNat_and, BitVec.toNat_ofNat, BitVec.toNat_ofNat]
    rw [Nat.mod_eq_of_lt (Nat.lt_trans hx (Nat.pow_lt_pow_right (by decide) (Nat.lt_succ_self _))), Nat.mod_eq_of_lt (Nat.lt_trans hr (Nat.pow_lt_pow_right (by decide) (Nat.lt_succ_self _))), hand]
    simp)
  have k2 := congrArg BitVec.toNat k
  rw [BitVec.toNat_add, BitVec.toNat_or, BitVec.toNat_ofNat, BitVec.toNat_ofNat, Nat.mod_eq_of_lt (Nat.lt_trans hx (Nat.pow_lt_pow_right (by decide) (Nat.lt_succ_self _))), Nat.mod_eq_of_lt (Nat.lt_trans hr (Nat.pow_lt_pow_right (by decide) (Nat.lt_succ_self _))), hor] at k2
  rw [Nat.mod_eq_of_lt] at k2
  · exact k2
  · rw [Nat.pow_succ, Nat.mul_two]; exact Nat.add_lt_add hx hr
theorem sub_bit {s r a : Nat} (hsub : ∀ a, r.testBit a = true → s.testBit a = true) : (s - r).testBit a = (s.testBit a && !r.testBit a) := by
  have e : s - r = s ^^^ r := by
    have := xor_add hsub
    omega
  rw [e, Nat.testBit_xor]
  cases e : r.testBit a with
  | false => simp
  | true => rw [hsub a e]; rfl
theorem First.rest_con {m : Land} {s r : Nat} (h : First m s r) {a b : Nat} : Con m (s - r) a b ↔ Con m s a b ∧ r.testBit a = false := by
  have sb := fun a => sub_bit (s := s) (r := r) (a := a) fun a => h.sub
  constructor
  · intro hc
    refine ⟨hc.mono fun c hc' => ?_, ?_⟩
    · rw [sb] at hc'; simp at hc'; exact hc'.1
    · have := hc.left.2; rw [sb] at this; simp at this; exact this.2
  · rintro ⟨hc, hr⟩
    have key : ∀ c, Con m s a c → r.testBit c = false := fun c hac => by
      cases e : r.testBit c with
      | false => rfl
      | true =>
        obtain ⟨d, rest, e1, h1⟩ := (h.bit c).mp e
        have := (h.bit a).mpr ⟨d, rest, e1, h1.trans hac.symm⟩
        rw [this] at hr; cases hr
    induction hc with
    | refl h1 h2 => exact .refl h1 (by rw [sb, h2, hr]; rfl)
    | step h0 h1 h2 h3 ih => exact .step ih h1 (by rw [sb, h2, key _ (.step h0 h1 h2 h3)]; rfl) h3
theorem First.pieces {m : Land} {s r c : Nat} {rest : List Nat} (h : First m s r) (e : members m s = c :: rest) : pieces m s = c :: pieces m (s - r) := by
  have hc := head_least e
  have sb := fun a => sub_bit (s := s) (r := r) (a := a) fun a => h.sub
  have notin : ∀ d, Least m (s - r) d → Least m s d ∧ c < d := fun d hd => by
    have hb := hd.2.1
    rw [sb] at hb; simp at hb
    refine ⟨⟨hd.1, hb.1, fun a ha => hd.2.2 a (h.rest_con.mpr ⟨ha, hb.2⟩)⟩, ?_⟩
    have hm : d ∈ members m s := mem_members.mpr ⟨hd.1, hb.1⟩
    have so := members_sorted m s
    rw [e, List.pairwise_cons] at so
    rw [e] at hm
    rcases List.mem_cons.mp hm with q | q
    · subst q
      have := (h.bit d).mpr ⟨d, rest, e, .refl hc.1 hc.2.1⟩
      rw [this] at hb; simp at hb
    · exact so.1 d q
  refine sorted_ext (pieces_sorted m s) ?_ ?_
  · rw [List.pairwise_cons]
    exact ⟨fun d hd => (notin d (mem_pieces.mp hd)).2, pieces_sorted _ _⟩
  · intro d
    rw [List.mem_cons, mem_pieces, mem_pieces]
    constructor
    · intro hd
      by_cases q : d = c
      · exact .inl q
      · right
        have hr : r.testBit d = false := by
          cases e2 : r.testBit d with
          | false => rfl
          | true =>
            obtain ⟨c', rest', e1, h1⟩ := (h.bit d).mp e2
            rw [e] at e1
            injection e1 with e1 _
            subst e1
            exact absurd (least_unique hd hc h1.symm) q
        exact ⟨hd.1, by rw [sb, hd.2.1, hr]; rfl, fun a ha => hd.2.2 a (h.rest_con.mp ha).1⟩
    · rintro (q | q)
      · subst q; exact hc
      · exact (notin d q).1
theorem members_zero {m : Land} : members m 0 = [] := by
  unfold members isIn; rw [List.filter_eq_nil_iff]; intro a _; simp
theorem pieces_zero {m : Land} : pieces m 0 = [] := by unfold pieces; rw [members_zero]; rfl
theorem members_ne {m : Land} {s : Nat} (hs : s < 2 ^ m.size) (h0 : s ≠ 0) : ∃ c rest, members m s = c :: rest := by
  cases e : members m s with
  | cons c rest => exact ⟨c, rest, rfl⟩
  | nil =>
    exfalso; apply h0; apply Nat.eq_of_testBit_eq; intro i
    rw [Nat.zero_testBit]
    cases b : s.testBit i with
    | false => rfl
    | true =>
      have : i ∈ members m s := mem_members.mpr ⟨bit_lt hs b, b⟩
      rw [e] at this; cases this
theorem First.lt_of {m : Land} {s r : Nat} (h : First m s r) (hs : s < 2 ^ m.size) (h0 : s ≠ 0) : r ≤ s ∧ s - r < s := by
  obtain ⟨c, rest, e⟩ := members_ne hs h0
  have hc := head_least e
  have hb := (h.bit c).mpr ⟨c, rest, e, .refl hc.1 hc.2.1⟩
  have sb := fun a => sub_bit (s := s) (r := r) (a := a) fun a => h.sub
  have hr : r ≠ 0 := by intro z; subst z; simp at hb
  have : r ≤ s := by
    have h1 : r &&& s = r := by
      apply Nat.eq_of_testBit_eq; intro i
      rw [Nat.testBit_and]
      cases e : r.testBit i with
      | false => rfl
      | true => rw [h.sub e]; rfl
    have := @Nat.and_le_right r s
    omega
  omega
def pass (nb : Nat → Nat) (cells : List Nat) (p : Nat) : Nat := cells.foldl (fun p c => if (nb c &&& p) ≠ 0 then p ||| 2 ^ c else p) p
theorem pass_mono (nb : Nat → Nat) : ∀ (cells : List Nat) (p a : Nat), p.testBit a = true → (pass nb cells p).testBit a = true
  | [], p, a, h => h
  | c :: r, p, a, h => by
    show (pass nb r (if (nb c &&& p) ≠ 0 then p ||| 2 ^ c else p)).testBit a = true
    apply pass_mono
    split
    · rw [Nat.testBit_or, h]; rfl
    · exact h
theorem or_eq_self {p c : Nat} (h : (p ||| 2 ^ c) = p) : p.testBit c = true := by
  have : (p ||| 2 ^ c).testBit c = true := by rw [Nat.testBit_or, Nat.testBit_two_pow_self, Bool.or_true]
  rw [h] at this; exact this
theorem le_of_bits {p q : Nat} (h : ∀ a, p.testBit a = true → q.testBit a = true) : p ≤ q := by
  have h1 : p &&& q = p := by
    apply Nat.eq_of_testBit_eq; intro i
    rw [Nat.testBit_and]
    cases e : p.testBit i with
    | false => rfl
    | true => rw [h i e]; rfl
  have := @Nat.and_le_right p q
  omega
theorem pass_fix (nb : Nat → Nat) : ∀ (cells : List Nat) (p : Nat), pass nb cells p = p → ∀ c ∈ cells, (nb c &&& p) ≠ 0 → p.testBit c = true
  | [], _, _, c, hc, _ => by cases hc
  | c :: r, p, h, d, hd, hn => by
    have step : pass nb (c :: r) p = pass nb r (if (nb c &&& p) ≠ 0 then p ||| 2 ^ c else p) := rfl
    rw [step] at h
    have e : (if (nb c &&& p) ≠ 0 then p ||| 2 ^ c else p) = p := by
      split
      · rename_i hne
        rw [if_pos hne] at h
        apply Nat.eq_of_testBit_eq
        intro i
        rw [Bool.eq_iff_iff]
        constructor
        · intro hi; rw [← h]; exact pass_mono _ _ _ _ hi
        · intro hi; rw [Nat.testBit_or, hi]; rfl
      · rfl
    rw [e] at h
    rcases List.mem_cons.mp hd with q | q
    · subst q
      rw [if_pos hn] at e
      exact or_eq_self e
    · exact pass_fix nb r p h d q hn
end Lr
end
section
set_option linter.all false
namespace Lr
open Vbecao
def Reached (m : Land) (s p : Nat) : Prop := ∀ a, p.testBit a = true → ∃ c rest, members m s = c :: rest ∧ Con m s c a
theorem Reached.pass {m : Land} {s : Nat} (hw : Sound m) : ∀ (cells : List Nat) (p : Nat), (∀ c ∈ cells, c ∈ members m s) → Reached m s p → Reached m s (pass (nearSet m.w m.h) cells p)
  | [], _, _, h => h
  | c :: r, p, hc, h => by
    show Reached m s (Lr.pass (nearSet m.w m.h) r (if (nearSet m.w m.h c &&& p) ≠ 0 then p ||| 2 ^ c else p))
    refine Reached.pass hw r _ (fun x hx => hc x (List.mem_cons_of_mem _ hx)) ?_
    split
    · rename_i hne
      obtain ⟨a, h1, h2⟩ := and_ne.mp hne
      have hcm := mem_members.mp (hc c (List.mem_cons_self ..))
      obtain ⟨d, rest, e, hd⟩ := h a h2
      have hb := ((nearSet_bit hw hcm.1).mp h1).2
      intro x hx
      rw [Nat.testBit_or, Bool.or_eq_true] at hx
      rcases hx with hx | hx
      · exact h x hx
      · rw [Nat.testBit_two_pow, decide_eq_true_eq] at hx
        subst hx
        exact ⟨d, rest, e, .step hd hcm.1 hcm.2 hb⟩
    · exact h
theorem first_start {m : Land} {s : Nat} : Reached m s (numberOf ((members m s).take 1)) := by
  intro a ha
  rw [numberOf_bit, List.contains_iff_mem] at ha
  cases e : members m s with
  | nil => rw [e] at ha; simp at ha
  | cons c rest =>
    rw [e] at ha
    simp at ha
    subst ha
    have hc := head_least e
    exact ⟨a, rest, rfl, .refl hc.1 hc.2.1⟩
theorem first_end {m : Land} {s p : Nat} (hw : Sound m) (h0 : ∀ a ∈ (members m s).take 1, p.testBit a = true) (hr : Reached m s p) (hf : pass (nearSet m.w m.h) (members m s) p = p) : First m s p where
  lt := lt_two_pow_of_bits fun a ha => by
    cases e : p.testBit a with
    | false => rfl
    | true =>
      obtain ⟨_, _, _, h⟩ := hr a e
      have := h.right.1; omega
  bit := fun a => by
    constructor
    · exact hr a
    · rintro ⟨c, rest, e, h⟩
      have hc : p.testBit c = true := h0 c (by rw [e]; simp)
      induction h with
      | refl _ _ => exact hc
      | step h1 h2 h3 h4 ih =>
        refine pass_fix _ _ p hf _ (mem_members.mpr ⟨h2, h3⟩) (and_ne.mpr ⟨_, (nearSet_bit hw h2).mpr ⟨h1.right.1, h4⟩, ih⟩)
theorem Reached.lt {m : Land} {s p : Nat} (h : Reached m s p) : p < 2 ^ m.size := lt_two_pow_of_bits fun a ha => by
  cases e : p.testBit a with
  | false => rfl
  | true => obtain ⟨_, _, _, q⟩ := h a e; have := q.right.1; omega
def sumsAll (ws : List Nat) : List Nat := ws.foldl (fun sums w => sums ++ sums.map (· + w)) [0]
theorem sumsAll_snoc (ws : List Nat) (w : Nat) : sumsAll (ws ++ [w]) = sumsAll ws ++ (sumsAll ws).map (· + w) := by
  unfold sumsAll; rw [List.foldl_append]; rfl
theorem snoc_ind {α : Type} {P : List α → Prop} (h0 : P []) (h1 : ∀ l x, P l → P (l ++ [x])) : ∀ l, P l := by
  intro l
  have : ∀ l : List α, P l.reverse := by
    intro l
    induction l with
    | nil => exact h0
    | cons x r ih => rw [List.reverse_cons]; exact h1 _ _ ih
  have h := this l.reverse
  rw [List.reverse_reverse] at h
  exact h
theorem sumsAll_length (ws : List Nat) : (sumsAll ws).length = 2 ^ ws.length := by
  induction ws using snoc_ind with
  | h0 => rfl
  | h1 l x ih => rw [sumsAll_snoc, List.length_append, List.length_map, ih, List.length_append, List.length_singleton, Nat.pow_succ]; omega
def worth (ws : List Nat) (s : Nat) : Nat := (((List.range ws.length).filter fun c => s.testBit c).map fun c => ws.getD c 0).sum
theorem worth_snoc (ws : List Nat) (w s : Nat) : worth (ws ++ [w]) s = worth ws s + (if s.testBit ws.length then w else 0) := by
  unfold worth
  rw [List.length_append, List.length_singleton, List.range_succ, List.filter_append, List.map_append, List.sum_append]
  congr 1
  · congr 1
    apply List.map_congr_left
    intro a ha
    have := (List.mem_filter.mp ha).1
    rw [List.mem_range] at this
    rw [List.getD_eq_getElem?_getD, List.getD_eq_getElem?_getD, List.getElem?_append_left this]
  · by_cases h : s.testBit ws.length = true
    · simp [h]
    · simp [h]
theorem worth_congr {ws : List Nat} {s t : Nat} (h : ∀ a, a < ws.length → s.testBit a = t.testBit a) : worth ws s = worth ws t := by
  unfold worth
  congr 2
  apply List.filter_congr
  intro a ha
  rw [List.mem_range] at ha
  exact h a ha
theorem sumsAll_get (ws : List Nat) : ∀ s, s < 2 ^ ws.length → (sumsAll ws)[s]? = some (worth ws s) := by
  induction ws using snoc_ind with
  | h0 =>
    intro s hs
    simp at hs
    subst hs; rfl
  | h1 l x ih =>
    intro s hs
    rw [List.length_append, List.length_singleton, Nat.pow_succ] at hs
    rw [sumsAll_snoc, worth_snoc]
    rcases Nat.lt_or_ge s (2 ^ l.length) with h | h
    · rw [List.getElem?_append_left (by rw [sumsAll_length]; exact h), ih s h, Nat.testBit_lt_two_pow h]
      simp
    · rw [List.getElem?_append_right (by rw [sumsAll_length]; exact h), sumsAll_length, List.getElem?_map, ih _ (by omega)]
      have e : s = 2 ^ l.length + (s - 2 ^ l.length) := by omega
      have hb : s.testBit l.length = true := by
        rw [e, Nat.testBit_two_pow_add_eq, Nat.testBit_lt_two_pow (by omega)]; rfl
      rw [hb]
      simp only [Option.map_some, if_true]
      congr 2
      apply worth_congr
      intro a ha
      conv => rhs; rw [e]
      rw [Nat.testBit_two_pow_add_gt ha]
theorem price_worth {m : Land} (hm : Sound m) (s : Nat) : price m s = worth m.prices s := by
  unfold price worth members cells isIn; rw [hm.pl]
def holders (kinds : List Nat) (k : Nat) : List Nat := kinds.map fun x => (x >>> k) &&& 1
theorem bit_and (x k : Nat) : (x >>> k) &&& 1 = if x.testBit k then 1 else 0 := by
  rw [Nat.testBit_eq_decide_div_mod_eq, Nat.and_one_is_mod, Nat.shiftRight_eq_div_pow]
  by_cases h : x / 2 ^ k % 2 = 1
  · simp [h]
  · have : x / 2 ^ k % 2 = 0 := by omega
    simp [this]
theorem times_worth {m : Land} (hm : Sound m) (s k : Nat) : times m s k = worth (holders m.kinds k) s := by
  unfold times worth members cells
  rw [show (holders m.kinds k).length = m.size by unfold holders; rw [List.length_map, hm.kl]]
  have key : ∀ l : List Nat, (∀ c ∈ l, c < m.size) → (l.filter fun c => holds m c k).length = (l.map fun c => (holders m.kinds k).getD c 0).sum := by
    intro l
    induction l with
    | nil => intro _; rfl
    | cons c r ih =>
      intro h
      have hc := h c (List.mem_cons_self ..)
      have e : (holders m.kinds k).getD c 0 = if holds m c k then 1 else 0 := by
        unfold holders holds
        have hl : c < m.kinds.length := by rw [hm.kl]; exact hc
        rw [List.getD_eq_getElem?_getD, List.getElem?_map, List.getElem?_eq_getElem hl, List.getD_eq_getElem?_getD, List.getElem?_eq_getElem hl]
        exact bit_and _ _
      rw [List.map_cons, List.sum_cons, ← ih fun x hx => h x (List.mem_cons_of_mem _ hx), e]
      by_cases hh : holds m c k = true
      · rw [List.filter_cons, if_pos hh, if_pos hh, List.length_cons]; omega
      · rw [List.filter_cons, if_neg hh, if_neg hh]; omega
  exact key _ fun c hc => List.mem_range.mp (List.mem_filter.mp hc).1
theorem times_mono {m : Land} {s t k : Nat} (h : ∀ a, a < m.size → s.testBit a = true → t.testBit a = true) : times m s k ≤ times m t k := by
  unfold times members cells
  rw [List.filter_filter, List.filter_filter]
  have : ∀ l : List Nat, (∀ c ∈ l, c < m.size) → (l.filter fun a => holds m a k && isIn s a).length ≤ (l.filter fun a => holds m a k && isIn t a).length := by
    intro l
    induction l with
    | nil => intro _; exact Nat.le_refl _
    | cons c r ih =>
      intro hl
      have ih := ih fun x hx => hl x (List.mem_cons_of_mem _ hx)
      have hc := h c (hl c (List.mem_cons_self ..))
      by_cases p : (holds m c k && isIn s c) = true
      · have q : (holds m c k && isIn t c) = true := by
          rw [Bool.and_eq_true] at p ⊢; exact ⟨p.1, hc p.2⟩
        rw [List.filter_cons, if_pos p, List.filter_cons, if_pos q, List.length_cons, List.length_cons]; omega
      · rw [List.filter_cons, if_neg p, List.filter_cons]
        by_cases q : (holds m c k && isIn t c) = true
        · rw [if_pos q, List.length_cons]; omega
        · rw [if_neg q]; exact ih
  exact this _ fun c hc => List.mem_range.mp hc
theorem fits_iff {m : Land} {need : List Nat} {s : Nat} : fits m need s = true ↔ ∀ k, k < 8 → need.getD k 0 ≤ times m s k := by
  unfold fits KINDS
  simp only [List.all_eq_true, List.mem_range, decide_eq_true_eq]
theorem fits_mono {m : Land} {need : List Nat} {s t : Nat} (h : ∀ a, a < m.size → s.testBit a = true → t.testBit a = true) (hf : fits m need s = true) : fits m need t = true :=
  fits_iff.mpr fun k hk => Nat.le_trans (fits_iff.mp hf k hk) (times_mono h)
theorem full_bit {n a : Nat} : (2 ^ n - 1).testBit a = decide (a < n) := Nat.testBit_two_pow_sub_one n a
theorem fits_full {m : Land} {need : List Nat} {s : Nat} (hf : fits m need s = true) : fits m need (2 ^ m.size - 1) = true :=
  fits_mono (fun a ha _ => by rw [full_bit]; exact decide_eq_true ha) hf
theorem full_con {m : Land} (hw : 0 < m.w) : ∀ (n c : Nat), c < n → c < m.size → Con m (2 ^ m.size - 1) 0 c
  | 0, c, h, _ => by omega
  | n + 1, c, h, hc => by
    have hb : ∀ a, a < m.size → (2 ^ m.size - 1).testBit a = true := fun a ha => by rw [full_bit]; exact decide_eq_true ha
    by_cases h0 : c = 0
    · subst h0; exact .refl hc (hb _ hc)
    · by_cases hq : m.w ≤ c
      · refine .step (full_con hw n (c - m.w) (by omega) (by omega)) hc (hb _ hc) ?_
        unfold beside
        rw [Bool.or_eq_true]; right
        rw [Bool.or_eq_true]; left
        rw [beq_iff_eq]; omega
      · refine .step (full_con hw n (c - 1) (by omega) (by omega)) hc (hb _ hc) ?_
        unfold beside
        rw [Bool.or_eq_true]; left
        rw [Bool.and_eq_true, beq_iff_eq, Nat.div_eq_of_lt (by omega), Nat.div_eq_of_lt (by omega), Bool.or_eq_true]
        exact ⟨rfl, .inl (by rw [beq_iff_eq]; omega)⟩
theorem full_joined {m : Land} (hw : 0 < m.w) : joined m (2 ^ m.size - 1) = true :=
  joined_iff.mpr fun a b ha _ hb _ => (full_con hw (a + 1) a (by omega) ha).symm.trans (full_con hw (b + 1) b (by omega) hb)
theorem cheapest_none {m : Land} {f : Nat → Bool} (h : ∀ s ∈ sets m, f s = false) : cheapest m f = none := by
  unfold cheapest
  generalize sets m = l at h
  induction l with
  | nil => rfl
  | cons x r ih =>
    rw [List.foldl_cons]
    simp only [h x (List.mem_cons_self ..)]
    exact ih fun s hs => h s (List.mem_cons_of_mem _ hs)
end Lr
end
section
set_option linter.all false
namespace Lr
open Vbecao
theorem sets_iff {m : Land} {s : Nat} : s ∈ sets m ↔ s < 2 ^ m.size := by unfold sets; rw [List.mem_range]
theorem mem_losses : ∀ (r : Nat) (l t : List Nat), t ∈ lossesOf r l ↔ t.Sublist l ∧ t.length ≤ r
  | 0, l, t => by
    cases l <;> (unfold lossesOf; simp only [List.mem_singleton]; constructor)
    · rintro rfl; exact ⟨List.Sublist.refl _, Nat.le_refl _⟩
    · rintro ⟨_, h⟩; exact List.length_eq_zero_iff.mp (by omega)
    · rintro rfl; exact ⟨List.nil_sublist _, Nat.le_refl _⟩
    · rintro ⟨_, h⟩; exact List.length_eq_zero_iff.mp (by omega)
  | r + 1, [], t => by
    unfold lossesOf
    simp only [List.mem_singleton]
    constructor
    · rintro rfl; exact ⟨List.Sublist.refl _, Nat.zero_le _⟩
    · rintro ⟨h, _⟩; exact List.sublist_nil.mp h
  | r + 1, c :: l, t => by
    unfold lossesOf
    rw [List.mem_append, List.mem_map, mem_losses (r + 1) l t]
    constructor
    · rintro (⟨h1, h2⟩ | ⟨u, hu, rfl⟩)
      · exact ⟨h1.cons c, h2⟩
      · obtain ⟨h1, h2⟩ := (mem_losses r l u).mp hu
        exact ⟨h1.cons_cons c, by simp only [List.length_cons]; omega⟩
    · rintro ⟨h1, h2⟩
      cases h1 with
      | cons _ h => exact .inl ⟨h, h2⟩
      | cons_cons _ h =>
        rename_i u
        exact .inr ⟨u, (mem_losses r l u).mpr ⟨h, by simp only [List.length_cons] at h2; omega⟩, rfl⟩
theorem without_bit : ∀ (l : List Nat) (s a : Nat), (without s l).testBit a = (s.testBit a && !l.contains a)
  | [], s, a => by unfold without; simp
  | c :: l, s, a => by
    have step : without s (c :: l) = without (if s.testBit c = true then s - 2 ^ c else s) l := rfl
    rw [step, without_bit l]
    have e : (if s.testBit c = true then s - 2 ^ c else s).testBit a = (s.testBit a && !(a == c)) := by
      split
      · rename_i h
        rw [sub_bit]
        · rw [Nat.testBit_two_pow]
          by_cases q : c = a
          · subst q; simp
          · have : ¬ a = c := fun e => q e.symm
            simp [q, this]
        · intro x hx
          rw [Nat.testBit_two_pow, decide_eq_true_eq] at hx
          subst hx; exact h
      · rename_i h
        by_cases q : a = c
        · subst q; simp at h; simp [h]
        · simp [q]
    rw [e, List.contains_cons]
    cases s.testBit a <;> cases (a == c) <;> cases l.contains a <;> rfl
theorem count_filter_sub {α : Type} [DecidableEq α] (p : α → Bool) : ∀ (l t : List α), t.Sublist l → l.Nodup → (l.filter p).length ≤ (l.filter fun a => p a && !t.contains a).length + t.length
  | _, _, .slnil, _ => by simp
  | _, t, .cons (l₂ := l) a h, nd => by
    rw [List.nodup_cons] at nd
    have ih := count_filter_sub p l t h nd.2
    have hn : t.contains a = false := by
      cases e : t.contains a with
      | false => rfl
      | true => exact absurd (h.subset (by simpa using e)) nd.1
    by_cases hp : p a = true
    · rw [List.filter_cons_of_pos hp, List.filter_cons_of_pos (by simp [hp]; simpa using hn)]
      simp only [List.length_cons]; omega
    · rw [List.filter_cons_of_neg hp, List.filter_cons_of_neg (by simp [hp])]
      exact ih
  | _, _, .cons_cons (l₁ := t) (l₂ := l) a h, nd => by
    rw [List.nodup_cons] at nd
    have ih := count_filter_sub p l t h nd.2
    have e : (l.filter fun b => p b && !(a :: t).contains b) = l.filter fun b => p b && !t.contains b := by
      apply List.filter_congr
      intro b hb
      have : ¬ b = a := fun q => nd.1 (q ▸ hb)
      simp [List.contains_cons, this]
    rw [List.filter_cons (p := fun b => p b && !(a :: t).contains b), if_neg (by simp), e]
    by_cases hp : p a = true
    · rw [List.filter_cons_of_pos hp]; simp only [List.length_cons]; omega
    · rw [List.filter_cons_of_neg hp]; simp only [List.length_cons]; omega
theorem members_nodup (m : Land) (s : Nat) : (members m s).Nodup := (members_sorted m s).imp fun h => Nat.ne_of_lt h
theorem members_without {m : Land} {s : Nat} {l : List Nat} : members m (without s l) = (members m s).filter fun a => !l.contains a := by
  unfold members
  rw [List.filter_filter]
  apply List.filter_congr
  intro a _
  unfold isIn
  rw [without_bit, Bool.and_comm]
theorem times_without {m : Land} {s k : Nat} {l : List Nat} : times m (without s l) k = ((members m s).filter fun a => holds m a k && !l.contains a).length := by
  unfold times
  rw [members_without, List.filter_filter]
theorem hardy_iff {m : Land} {need : List Nat} {r s : Nat} : hardy m need r s = true ↔ ∀ k, k < 8 → need.getD k 0 ≤ times m s k - r := by
  unfold hardy
  rw [List.all_eq_true]
  constructor
  · intro h k hk
    have hf := h (((members m s).filter fun c => holds m c k).take r) ((mem_losses _ _ _).mpr ⟨(List.take_sublist _ _).trans List.filter_sublist, by simp; omega⟩)
    have := fits_iff.mp hf k hk
    refine Nat.le_trans this ?_
    rw [times_without]
    unfold times
    have nd : ((members m s).filter fun c => holds m c k).Nodup := (members_nodup m s).filter _
    have e : ((members m s).filter fun a => holds m a k && !(((members m s).filter fun c => holds m c k).take r).contains a) = ((members m s).filter fun c => holds m c k).filter fun a => !(((members m s).filter fun c => holds m c k).take r).contains a := by
      rw [List.filter_filter]
      apply List.filter_congr
      intro a _
      rw [Bool.and_comm]
    rw [e]
    generalize (members m s).filter (fun c => holds m c k) = q at nd
    have e2 : q.filter (fun a => !(q.take r).contains a) = q.drop r := by
      conv => lhs; rw [← List.take_append_drop r q]
      rw [List.filter_append, List.take_append_drop]
      have h1 : (q.take r).filter (fun a => !(q.take r).contains a) = [] := by
        rw [List.filter_eq_nil_iff]; intro a ha; simp [ha]
      have h2 : (q.drop r).filter (fun a => !(q.take r).contains a) = q.drop r := by
        rw [List.filter_eq_self]
        intro a ha
        have : ¬ a ∈ q.take r := fun hb => by
          have nd' := nd
          rw [← List.take_append_drop r q, List.nodup_append] at nd'
          exact nd'.2.2 a hb a ha rfl
        simp [this]
      rw [h1, h2, List.nil_append]
    rw [e2, List.length_drop]
    exact Nat.le_refl _
  · intro h l hl
    obtain ⟨h1, h2⟩ := (mem_losses _ _ _).mp hl
    refine fits_iff.mpr fun k hk => Nat.le_trans (h k hk) ?_
    rw [times_without]
    have := count_filter_sub (fun c => holds m c k) (members m s) l h1 (members_nodup m s)
    unfold times
    omega
end Lr
end
section
set_option linter.all false
namespace Lr
open Vbecao
inductive Row (m : Land) (a : Nat) : Nat → List Nat → Prop
  | one : a < m.size → Row m a a [a]
  | more {b c : Nat} {l : List Nat} : Row m a b l → c < m.size → beside m b c = true → Row m a c (c :: l)
def cost (m : Land) (l : List Nat) : Nat := (l.map fun c => m.prices.getD c 0).sum
theorem Row.head {m : Land} {a b : Nat} {l : List Nat} (h : Row m a b l) : ∃ r, l = b :: r := by
  cases h with
  | one _ => exact ⟨[], rfl⟩
  | more _ _ _ => exact ⟨_, rfl⟩
theorem Row.lt {m : Land} {a b : Nat} {l : List Nat} (h : Row m a b l) : ∀ x ∈ l, x < m.size := by
  induction h with
  | one h => intro x hx; simp at hx; subst hx; exact h
  | more _ h _ ih =>
    intro x hx
    rcases List.mem_cons.mp hx with q | q
    · subst q; exact h
    · exact ih x q
theorem Row.cut {m : Land} {a b : Nat} {l : List Nat} (h : Row m a b l) : ∀ x ∈ l, ∃ l', Row m a x l' ∧ l'.Sublist l := by
  induction h with
  | one h => intro x hx; simp at hx; subst hx; exact ⟨_, .one h, List.Sublist.refl _⟩
  | more h0 h1 h2 ih =>
    intro x hx
    rcases List.mem_cons.mp hx with q | q
    · subst q; exact ⟨_, .more h0 h1 h2, List.Sublist.refl _⟩
    · obtain ⟨l', r, s⟩ := ih x q
      exact ⟨l', r, s.cons _⟩
theorem cost_sub {m : Land} {l l' : List Nat} (h : l'.Sublist l) : cost m l' ≤ cost m l := by
  unfold cost
  induction h with
  | slnil => exact Nat.le_refl _
  | cons a _ ih => simp only [List.map_cons, List.sum_cons]; omega
  | cons_cons a _ ih => simp only [List.map_cons, List.sum_cons]; omega
theorem Row.nodup {m : Land} {a b : Nat} {l : List Nat} (h : Row m a b l) : ∃ l', Row m a b l' ∧ l'.Nodup ∧ cost m l' ≤ cost m l ∧ ∀ x ∈ l', x ∈ l := by
  induction h with
  | one h => exact ⟨_, .one h, by simp, Nat.le_refl _, fun _ h => h⟩
  | @more b c l h0 h1 h2 ih =>
    obtain ⟨l', r, nd, hc, hs⟩ := ih
    by_cases q : c ∈ l'
    · obtain ⟨l2, r2, s2⟩ := r.cut c q
      refine ⟨l2, r2, nd.sublist s2, ?_, fun x hx => List.mem_cons_of_mem _ (hs x (s2.subset hx))⟩
      have := cost_sub (m := m) s2
      have e : cost m (c :: l) = m.prices.getD c 0 + cost m l := by unfold cost; simp
      omega
    · refine ⟨c :: l', .more r h1 h2, List.nodup_cons.mpr ⟨q, nd⟩, ?_, fun x hx => ?_⟩
      · have e : ∀ l, cost m (c :: l) = m.prices.getD c 0 + cost m l := fun l => by unfold cost; simp
        rw [e, e]; omega
      · rcases List.mem_cons.mp hx with q | q
        · subst q; exact List.mem_cons_self ..
        · exact List.mem_cons_of_mem _ (hs x q)
theorem nodup_le : ∀ (n : Nat) (l : List Nat), l.Nodup → (∀ x ∈ l, x < n) → l.length ≤ n
  | 0, l, _, h => by
    cases l with
    | nil => exact Nat.le_refl _
    | cons x r => have := h x (List.mem_cons_self ..); omega
  | n + 1, l, nd, h => by
    by_cases q : n ∈ l
    · have := nodup_le n (l.erase n) (nd.erase n) fun x hx => by
        obtain ⟨h1, h2⟩ := nd.mem_erase_iff.mp hx
        have := h x h2; omega
      rw [List.length_erase_of_mem q] at this
      omega
    · have := nodup_le n l nd fun x hx => by
        have := h x hx
        have : x ≠ n := fun e => q (e ▸ hx)
        omega
      omega
def relF (v : List (Option Nat)) (p : Nat) (b : Option Nat) (a : Nat) : Option Nat := match v.getD a none, b with
  | some x, some y => some (min y (x + p))
  | some x, none => some (x + p)
  | none, b => b
theorem relF_le {v : List (Option Nat)} {p : Nat} : ∀ (L : List Nat) (b : Option Nat), (∀ y, b = some y → ∃ x, L.foldl (relF v p) b = some x ∧ x ≤ y) ∧ (∀ a ∈ L, ∀ y, v.getD a none = some y → ∃ x, L.foldl (relF v p) b = some x ∧ x ≤ y + p)
  | [], b => ⟨fun y e => ⟨y, e, Nat.le_refl _⟩, fun a ha => by cases ha⟩
  | c :: r, b => by
    obtain ⟨i1, i2⟩ := relF_le r (relF v p b c)
    rw [List.foldl_cons]
    refine ⟨fun y e => ?_, fun a ha y e => ?_⟩
    · subst e
      cases q : v.getD c none with
      | none => exact i1 y (by unfold relF; rw [q])
      | some z =>
        obtain ⟨x, h1, h2⟩ := i1 (min y (z + p)) (by unfold relF; rw [q])
        exact ⟨x, h1, by omega⟩
    · rcases List.mem_cons.mp ha with h | h
      · subst h
        cases b with
        | none => exact i1 (y + p) (by unfold relF; rw [e])
        | some z =>
          obtain ⟨x, h1, h2⟩ := i1 (min z (y + p)) (by unfold relF; rw [e])
          exact ⟨x, h1, by omega⟩
      · exact i2 a h y e
theorem relF_src {v : List (Option Nat)} {p : Nat} : ∀ (L : List Nat) (b : Option Nat) (x : Nat), L.foldl (relF v p) b = some x → b = some x ∨ ∃ a ∈ L, ∃ y, v.getD a none = some y ∧ x = y + p
  | [], b, x, h => .inl h
  | c :: r, b, x, h => by
    rw [List.foldl_cons] at h
    rcases relF_src r _ x h with q | ⟨a, ha, y, h1, h2⟩
    · unfold relF at q
      cases e : v.getD c none with
      | none => rw [e] at q; exact .inl q
      | some z =>
        rw [e] at q
        cases b with
        | none => injection q with q; exact .inr ⟨c, List.mem_cons_self .., z, e, q.symm⟩
        | some y =>
          injection q with q
          rcases Nat.le_total y (z + p) with h' | h'
          · rw [Nat.min_eq_left h'] at q; exact .inl (by rw [q])
          · rw [Nat.min_eq_right h'] at q; exact .inr ⟨c, List.mem_cons_self .., z, e, q.symm⟩
    · exact .inr ⟨a, List.mem_cons_of_mem _ ha, y, h1, h2⟩
theorem getD_map_range {α : Type} {n c : Nat} {f : Nat → α} {d : α} (h : c < n) : ((List.range n).map f).getD c d = f c := by
  rw [List.getD_eq_getElem?_getD, List.getElem?_map, List.getElem?_range h]; rfl
theorem relax_at {m : Land} {v : List (Option Nat)} {c : Nat} (hc : c < m.size) : (relax m v).getD c none = (((cells m).filter fun a => beside m a c).foldl (relF v (m.prices.getD c 0)) (v.getD c none)) := by
  unfold relax cells
  rw [getD_map_range hc]
  rfl
structure Rel (m : Land) (a k : Nat) (v : List (Option Nat)) : Prop where
  src : ∀ c x, c < m.size → v.getD c none = some x → ∃ l, Row m a c l ∧ cost m l = x
  cov : ∀ c l, Row m a c l → l.length ≤ k + 1 → ∃ x, v.getD c none = some x ∧ x ≤ cost m l
theorem Rel.relax {m : Land} {a k : Nat} {v : List (Option Nat)} (h : Rel m a k v) : Rel m a (k + 1) (relax m v) where
  src := fun c x hc e => by
    rw [relax_at hc] at e
    rcases relF_src _ _ _ e with q | ⟨b, hb, y, h1, h2⟩
    · exact h.src c x hc q
    · have hb' := List.mem_filter.mp hb
      have hlt : b < m.size := by have := hb'.1; unfold cells at this; exact List.mem_range.mp this
      obtain ⟨l, r, hl⟩ := h.src b y hlt h1
      exact ⟨c :: l, .more r hc hb'.2, by unfold cost at *; simp only [List.map_cons, List.sum_cons]; omega⟩
  cov := fun c l r hl => by
    have hc : c < m.size := by obtain ⟨r', e⟩ := r.head; exact r.lt c (by rw [e]; simp)
    rw [relax_at hc]
    cases r with
    | one h0 =>
      obtain ⟨x, h1, h2⟩ := h.cov a [a] (.one h0) (by simp)
      obtain ⟨y, h3, h4⟩ := (relF_le (v := v) (p := m.prices.getD a 0) ((cells m).filter fun x => beside m x a) (v.getD a none)).1 x h1
      exact ⟨y, h3, by omega⟩
    | @more b _ l' r0 h1 h2 =>
      have hb : b < m.size := by obtain ⟨r', e⟩ := r0.head; exact r0.lt b (by rw [e]; simp)
      obtain ⟨x, h3, h4⟩ := h.cov b l' r0 (by simp only [List.length_cons] at hl; omega)
      obtain ⟨y, h5, h6⟩ := (relF_le (v := v) (p := m.prices.getD c 0) ((cells m).filter fun a => beside m a c) (v.getD c none)).2 b (List.mem_filter.mpr ⟨by unfold cells; exact List.mem_range.mpr hb, h2⟩) x h3
      refine ⟨y, h5, ?_⟩
      unfold cost at *
      simp only [List.map_cons, List.sum_cons]
      omega
theorem Rel.relaxed {m : Land} {a : Nat} : ∀ (n k : Nat) (v : List (Option Nat)), Rel m a k v → Rel m a (k + n) (relaxed m n v)
  | 0, k, v, h => h
  | n + 1, k, v, h => by
    have := Rel.relaxed n (k + 1) (Vbecao.relax m v) h.relax
    rw [show k + (n + 1) = k + 1 + n by omega]
    exact this
theorem Rel.start {m : Land} {a : Nat} (ha : a < m.size) : Rel m a 0 ((cells m).map fun c => if c = a then some (m.prices.getD a 0) else none) where
  src := fun c x hc e => by
    unfold cells at e
    rw [getD_map_range hc] at e
    by_cases q : c = a
    · subst q
      rw [if_pos rfl] at e
      injection e with e
      exact ⟨[c], .one ha, by unfold cost; rw [List.map_singleton, List.sum_singleton]; exact e⟩
    · rw [if_neg q] at e; cases e
  cov := fun c l r hl => by
    cases r with
    | one _ =>
      refine ⟨m.prices.getD a 0, ?_, by unfold cost; simp⟩
      unfold cells
      rw [getD_map_range ha, if_pos rfl]
    | more r0 _ _ =>
      obtain ⟨r', e⟩ := r0.head
      subst e
      simp at hl
theorem con_row {m : Land} {s a b : Nat} (h : Con m s a b) : ∃ l, Row m a b l ∧ ∀ x ∈ l, s.testBit x = true := by
  induction h with
  | refl h1 h2 => exact ⟨_, .one h1, fun x hx => by simp at hx; subst hx; exact h2⟩
  | step _ h1 h2 h3 ih =>
    obtain ⟨l, r, hl⟩ := ih
    refine ⟨_, .more r h1 h3, fun x hx => ?_⟩
    rcases List.mem_cons.mp hx with q | q
    · subst q; exact h2
    · exact hl x q
theorem way_is {m : Land} (hw : 0 < m.w) {a b : Nat} (ha : a < m.size) (hb : b < m.size) : ∃ p, way m a b = some p ∧ (∃ l, Row m a b l ∧ cost m l = p) ∧ ∀ l, Row m a b l → p ≤ cost m l := by
  have R := Rel.relaxed m.size 0 _ (Rel.start ha)
  rw [Nat.zero_add] at R
  have low : ∀ l, Row m a b l → ∃ x, way m a b = some x ∧ x ≤ cost m l := fun l r => by
    obtain ⟨l', r', nd, hc, _⟩ := r.nodup
    obtain ⟨x, h1, h2⟩ := R.cov b l' r' (by have := nodup_le m.size l' nd r'.lt; omega)
    exact ⟨x, h1, by omega⟩
  have hcon := (full_con hw (a + 1) a (by omega) ha).symm.trans (full_con hw (b + 1) b (by omega) hb)
  obtain ⟨l, r, _⟩ := con_row hcon
  obtain ⟨p, hp, _⟩ := low l r
  refine ⟨p, hp, R.src b p hb hp, fun l r => ?_⟩
  obtain ⟨x, h1, h2⟩ := low l r
  rw [hp] at h1
  injection h1 with h1
  omega
theorem sum_sub {f : Nat → Nat} : ∀ (l' l : List Nat), l'.Nodup → (∀ x ∈ l', x ∈ l) → (l'.map f).sum ≤ (l.map f).sum
  | [], _, _, _ => by simp
  | x :: r, l, nd, h => by
    rw [List.nodup_cons] at nd
    have hx := h x (List.mem_cons_self ..)
    have ih := sum_sub (f := f) r (l.erase x) nd.2 fun y hy => by
      have : y ≠ x := fun e => nd.1 (e ▸ hy)
      exact (List.mem_erase_of_ne this).mpr (h y (List.mem_cons_of_mem _ hy))
    have e : (l.map f).sum = ((x :: l.erase x).map f).sum := ((List.perm_cons_erase hx).map f).sum_nat
    rw [e, List.map_cons, List.map_cons, List.sum_cons, List.sum_cons]
    omega
theorem within_iff {s t : Nat} : within s t = true ↔ ∀ a, s.testBit a = true → t.testBit a = true := by
  unfold within
  rw [beq_iff_eq]
  constructor
  · intro h a ha
    rw [← h, Nat.testBit_and, Bool.and_eq_true] at ha
    exact ha.2
  · intro h
    apply Nat.eq_of_testBit_eq; intro i
    rw [Nat.testBit_and]
    cases e : s.testBit i with
    | false => rfl
    | true => rw [h i e]; rfl
end Lr
end
section
set_option linter.all false
namespace Lr
open Vbecao
theorem cellsOf_n {s n : Nat} (hn : n ≤ 12) (h : s < 2 ^ n) : cellsOf s = (List.range n).filter fun c => s.testBit c := by
  unfold cellsOf
  have e : (12 : Nat) = n + (12 - n) := by omega
  rw [e, filter_range_le]
  intro a ha
  cases e : s.testBit a with
  | false => rfl
  | true => have := bit_lt h e; omega
theorem sum_cast {f : Nat → Nat} : ∀ l : List Nat, (l.map fun c => ((f c : Nat) : Int)).sum = (((l.map f).sum : Nat) : Int)
  | [] => rfl
  | x :: r => by rw [List.map_cons, List.map_cons, List.sum_cons, List.sum_cons, sum_cast r]; omega
theorem sum_cast0 (l : List Nat) : (l.map fun (c : Nat) => (c : Int)).sum = ((l.sum : Nat) : Int) := by
  have := sum_cast (f := fun c => c) l
  simpa using this
theorem pass_snoc (nb : Nat → Nat) (l : List Nat) (c p : Nat) : pass nb (l ++ [c]) p = if (nb c &&& pass nb l p) ≠ 0 then pass nb l p ||| 2 ^ c else pass nb l p := by
  unfold pass; rw [List.foldl_append]; rfl
theorem pass_ge (nb : Nat → Nat) (l : List Nat) (p : Nat) : p ≤ pass nb l p := le_of_bits fun a h => pass_mono nb l p a h
theorem head_in {m : Land} {s : Nat} : ∀ a ∈ (members m s).take 1, (numberOf ((members m s).take 1)).testBit a = true := fun a ha => by
  rw [numberOf_bit, List.contains_iff_mem]; exact ha
theorem sumsAll_take {ws : List Nat} {i x : Nat} (h : ws[i]? = some x) : sumsAll (ws.take (i + 1)) = sumsAll (ws.take i) ++ (sumsAll (ws.take i)).map (· + x) := by
  rw [List.take_add_one, h]; exact sumsAll_snoc _ _
end Lr
end
section
set_option linter.all false
namespace Lr
open Vbecao
theorem bit_or2 {s c a : Nat} : (s ||| 2 ^ c).testBit a = true ↔ s.testBit a = true ∨ a = c := by
  rw [Nat.testBit_or, Bool.or_eq_true, Nat.testBit_two_pow, decide_eq_true_eq]
  exact ⟨fun h => h.imp id Eq.symm, fun h => h.imp id Eq.symm⟩
theorem joined_add {m : Land} {s c a : Nat} (hc : c < m.size) (hj : joined m s = true) (ha : a < m.size) (hs : s.testBit a = true) (hb : beside m a c = true) : joined m (s ||| 2 ^ c) = true := by
  have mono : ∀ x, s.testBit x = true → (s ||| 2 ^ c).testBit x = true := fun x h => bit_or2.mpr (.inl h)
  have toA : ∀ x, x < m.size → (s ||| 2 ^ c).testBit x = true → Con m (s ||| 2 ^ c) a x := fun x hx h => by
    rcases bit_or2.mp h with h | h
    · exact (joined_iff.mp hj a x ha hs hx h).mono mono
    · subst h
      exact .step (.refl ha (mono a hs)) hx (bit_or2.mpr (.inr rfl)) hb
  exact joined_iff.mpr fun x y hx hx' hy hy' => (toA x hx hx').symm.trans (toA y hy hy')
theorem exit_of {m : Land} {s t a b : Nat} (h : Con m s a b) (ha : t.testBit a = true) (hb : t.testBit b = false) : ∃ x c, x < m.size ∧ t.testBit x = true ∧ c < m.size ∧ s.testBit c = true ∧ t.testBit c = false ∧ beside m x c = true := by
  induction h with
  | refl _ _ => rw [ha] at hb; cases hb
  | @step b c h0 h1 h2 h3 ih =>
    cases e : t.testBit b with
    | false => exact ih e
    | true => exact ⟨b, c, h0.right.1, e, h1, h2, hb, h3⟩
theorem single_joined {m : Land} {c : Nat} : joined m (2 ^ c) = true := joined_iff.mpr fun a b ha ha' hb hb' => by
  rw [Nat.testBit_two_pow, decide_eq_true_eq] at ha' hb'
  subst ha'; subst hb'
  exact .refl ha Nat.testBit_two_pow_self
theorem zero_joined {m : Land} : joined m 0 = true := joined_iff.mpr fun a b _ ha _ _ => by rw [Nat.zero_testBit] at ha; cases ha
theorem or_lt_bit {t c : Nat} (h : t.testBit c = false) : t < t ||| 2 ^ c := by
  refine Nat.lt_of_le_of_ne Nat.left_le_or fun e => ?_
  have : (t ||| 2 ^ c).testBit c = true := bit_or2.mpr (.inr rfl)
  rw [← e, h] at this
  cases this
theorem bit_of_ne {t : Nat} (h : t ≠ 0) : ∃ a, t.testBit a = true := by
  apply Classical.byContradiction
  intro hn
  apply h
  apply Nat.eq_of_testBit_eq
  intro i
  rw [Nat.zero_testBit]
  cases e : t.testBit i with
  | false => rfl
  | true => exact absurd ⟨i, e⟩ hn
theorem grow_to {m : Land} {s : Nat} (hs : s < 2 ^ m.size) (hj : joined m s = true) : ∀ (k t : Nat), s - t ≤ k → t ≠ 0 → t ≠ s → (∀ a, t.testBit a = true → s.testBit a = true) → joined m t = true →
    ∃ t' c x, t' < s ∧ joined m t' = true ∧ c < m.size ∧ t'.testBit x = true ∧ x < m.size ∧ beside m x c = true ∧ t' ||| 2 ^ c = s
  | 0, t, hk, h0, hne, sub, ht => by
    have hle := le_of_bits sub
    omega
  | k + 1, t, hk, h0, hne, sub, ht => by
    have hle := le_of_bits sub
    obtain ⟨a, ha⟩ := bit_of_ne h0
    obtain ⟨b, hb1, hb2⟩ : ∃ b, s.testBit b = true ∧ t.testBit b = false := by
      apply Classical.byContradiction
      intro hn
      apply hne
      apply Nat.eq_of_testBit_eq
      intro i
      cases e : t.testBit i with
      | true => exact (sub i e).symm
      | false =>
        cases e2 : s.testBit i with
        | false => rfl
        | true => exact absurd ⟨i, e2, e⟩ hn
    have con := joined_iff.mp hj a b (bit_lt hs (sub a ha)) (sub a ha) (bit_lt hs hb1) hb1
    obtain ⟨x, c, hx, hxt, hc, hcs, hct, hb⟩ := exit_of con ha hb2
    by_cases e : t ||| 2 ^ c = s
    · exact ⟨t, c, x, by omega, ht, hc, hxt, hx, hb, e⟩
    · have lt := or_lt_bit hct
      have sub' : ∀ a, (t ||| 2 ^ c).testBit a = true → s.testBit a = true := fun a ha => by
        rcases bit_or2.mp ha with h | h
        · exact sub a h
        · subst h; exact hcs
      have le' := le_of_bits sub'
      exact grow_to hs hj k (t ||| 2 ^ c) (by omega) (by omega) e sub' (joined_add hc ht hx hxt hb)
theorem joined_del {m : Land} {s : Nat} (hs : s < 2 ^ m.size) (hj : joined m s = true) (h0 : s ≠ 0) (h1 : ∀ c, s ≠ 2 ^ c) :
    ∃ t' c x, t' < s ∧ joined m t' = true ∧ c < m.size ∧ t'.testBit x = true ∧ x < m.size ∧ beside m x c = true ∧ t' ||| 2 ^ c = s := by
  obtain ⟨r, hr⟩ := bit_of_ne h0
  refine grow_to hs hj s (2 ^ r) (Nat.sub_le _ _) (by have := Nat.two_pow_pos r; omega) (fun e => h1 r e.symm) (fun a ha => ?_) single_joined
  rw [Nat.testBit_two_pow, decide_eq_true_eq] at ha
  subst ha; exact hr
def jput (nb : List Nat) (s : Nat) (arr : List Bool) (i : Nat) : List Bool := if (nb.getD i 0 &&& s) ≠ 0 then arr.set (s ||| 2 ^ i) true else arr
def jputs (nb : List Nat) (s : Nat) (arr : List Bool) (k : Nat) : List Bool := (List.range k).foldl (jput nb s) arr
def jturn (nb : List Nat) (arr : List Bool) (s : Nat) : List Bool := if arr.getD s false = true then jputs nb s arr nb.length else arr
def jstart (n k : Nat) : List Bool := (List.range k).foldl (fun arr c => arr.set (2 ^ c) true) ((List.replicate (2 ^ n) false).set 0 true)
def jall (nb : List Nat) (k : Nat) : List Bool := (List.range k).foldl (jturn nb) (jstart nb.length nb.length)
theorem jputs_succ (nb : List Nat) (s : Nat) (arr : List Bool) (k : Nat) : jputs nb s arr (k + 1) = jput nb s (jputs nb s arr k) k := by
  unfold jputs; rw [List.range_succ, List.foldl_append]; rfl
theorem jstart_succ (n k : Nat) : jstart n (k + 1) = (jstart n k).set (2 ^ k) true := by
  unfold jstart; rw [List.range_succ, List.foldl_append]; rfl
theorem jall_succ (nb : List Nat) (k : Nat) : jall nb (k + 1) = jturn nb (jall nb k) k := by
  unfold jall; rw [List.range_succ, List.foldl_append]; rfl
theorem setB {arr : List Bool} {i s : Nat} : (arr.set i true).getD s false = true ↔ arr.getD s false = true ∨ (s = i ∧ i < arr.length) := by
  rw [List.getD_eq_getElem?_getD, List.getD_eq_getElem?_getD, List.getElem?_set]
  by_cases h : i = s
  · subst h
    rw [if_pos rfl]
    by_cases h2 : i < arr.length
    · rw [if_pos h2]; simp [h2]
    · rw [if_neg h2]
      simp only [Option.getD_none]
      constructor
      · intro z; cases z
      · rintro (z | ⟨_, z⟩)
        · rw [List.getElem?_eq_none (by omega)] at z; exact z
        · exact absurd z h2
  · rw [if_neg h]
    constructor
    · exact .inl
    · rintro (z | ⟨z, _⟩)
      · exact z
      · exact absurd z.symm h
structure JP (nb : List Nat) (s k : Nat) (arr arr' : List Bool) : Prop where
  len : arr'.length = arr.length
  bit : ∀ t, arr'.getD t false = true ↔ arr.getD t false = true ∨ ∃ c, c < k ∧ (nb.getD c 0 &&& s) ≠ 0 ∧ t = (s ||| 2 ^ c) ∧ t < arr.length
theorem jputs_spec (nb : List Nat) (s : Nat) (arr : List Bool) : ∀ k, JP nb s k arr (jputs nb s arr k)
  | 0 => ⟨rfl, fun t => ⟨.inl, fun h => h.elim id fun ⟨c, h, _⟩ => absurd h (Nat.not_lt_zero _)⟩⟩
  | k + 1 => by
    obtain ⟨l, b⟩ := jputs_spec nb s arr k
    rw [jputs_succ]
    unfold jput
    split
    · rename_i hne
      refine ⟨by rw [List.length_set]; exact l, fun t => ?_⟩
      rw [setB, b t, l]
      constructor
      · rintro ((h | ⟨c, h1, h2⟩) | ⟨h1, h2⟩)
        · exact .inl h
        · exact .inr ⟨c, by omega, h2⟩
        · exact .inr ⟨k, by omega, hne, h1, by rw [h1]; exact h2⟩
      · rintro (h | ⟨c, h1, h2, h3, h4⟩)
        · exact .inl (.inl h)
        · by_cases e : c = k
          · subst e; exact .inr ⟨h3, by rw [← h3]; exact h4⟩
          · exact .inl (.inr ⟨c, by omega, h2, h3, h4⟩)
    · rename_i hne
      refine ⟨l, fun t => ?_⟩
      rw [b t]
      constructor
      · rintro (h | ⟨c, h1, h2⟩)
        · exact .inl h
        · exact .inr ⟨c, by omega, h2⟩
      · rintro (h | ⟨c, h1, h2, h3⟩)
        · exact .inl h
        · by_cases e : c = k
          · subst e; exact absurd h2 hne
          · exact .inr ⟨c, by omega, h2, h3⟩
theorem jstart_spec (n : Nat) : ∀ k, k ≤ n → (jstart n k).length = 2 ^ n ∧ ∀ t, (jstart n k).getD t false = true ↔ t = 0 ∨ ∃ c, c < k ∧ t = 2 ^ c
  | 0, _ => by
    refine ⟨by unfold jstart; simp, fun t => ?_⟩
    have e : jstart n 0 = (List.replicate (2 ^ n) false).set 0 true := rfl
    rw [e, setB]
    constructor
    · rintro (h | ⟨h, _⟩)
      · exfalso
        rw [List.getD_eq_getElem?_getD, List.getElem?_replicate] at h
        split at h <;> cases h
      · exact .inl h
    · rintro (h | ⟨c, h, _⟩)
      · exact .inr ⟨h, by rw [List.length_replicate]; exact Nat.two_pow_pos n⟩
      · omega
  | k + 1, hk => by
    obtain ⟨l, b⟩ := jstart_spec n k (by omega)
    rw [jstart_succ]
    refine ⟨by rw [List.length_set]; exact l, fun t => ?_⟩
    rw [setB, b t, l]
    constructor
    · rintro ((h | ⟨c, h1, h2⟩) | ⟨h1, h2⟩)
      · exact .inl h
      · exact .inr ⟨c, by omega, h2⟩
      · exact .inr ⟨k, by omega, h1⟩
    · rintro (h | ⟨c, h1, h2⟩)
      · exact .inl (.inl h)
      · by_cases e : c = k
        · subst e; exact .inr ⟨h2, Nat.pow_lt_pow_right (by decide) (by omega)⟩
        · exact .inl (.inr ⟨c, by omega, h2⟩)
def nearL (m : Land) : List Nat := (List.range m.size).map (nearSet m.w m.h)
theorem nearL_len (m : Land) : (nearL m).length = m.size := by unfold nearL; simp
theorem nearL_get {m : Land} {c : Nat} (hc : c < m.size) : (nearL m).getD c 0 = nearSet m.w m.h c := getD_map_range hc
theorem near_meets {m : Land} (hw : Sound m) {c s : Nat} (hc : c < m.size) : ((nearL m).getD c 0 &&& s) ≠ 0 ↔ ∃ x, x < m.size ∧ s.testBit x = true ∧ beside m x c = true := by
  rw [nearL_get hc, and_ne]
  constructor
  · rintro ⟨x, h1, h2⟩
    obtain ⟨h3, h4⟩ := (nearSet_bit hw hc).mp h1
    exact ⟨x, h3, h2, h4⟩
  · rintro ⟨x, h1, h2, h3⟩
    exact ⟨x, (nearSet_bit hw hc).mpr ⟨h1, h3⟩, h2⟩
structure JI (m : Land) (j : Nat) (arr : List Bool) : Prop where
  len : arr.length = 2 ^ m.size
  snd : ∀ s, arr.getD s false = true → joined m s = true
  zero : arr.getD 0 false = true
  one : ∀ c, c < m.size → arr.getD (2 ^ c) false = true
  cov : ∀ t, t < j → joined m t = true → ∀ c x, c < m.size → t.testBit x = true → x < m.size → beside m x c = true → (t ||| 2 ^ c) < 2 ^ m.size → arr.getD (t ||| 2 ^ c) false = true
theorem JI.at {m : Land} {j : Nat} {arr : List Bool} (h : JI m j arr) {s : Nat} (hs : s < 2 ^ m.size) (hj : s ≤ j) : arr.getD s false = joined m s := by
  rw [Bool.eq_iff_iff]
  refine ⟨h.snd s, fun hs' => ?_⟩
  by_cases h0 : s = 0
  · subst h0; exact h.zero
  · by_cases h1 : ∃ c, s = 2 ^ c
    · obtain ⟨c, rfl⟩ := h1
      exact h.one c ((Nat.pow_lt_pow_iff_right (by decide)).mp hs)
    · obtain ⟨t, c, x, h2, h3, h4, h5, h6, h7, h8⟩ := joined_del hs hs' h0 fun c e => h1 ⟨c, e⟩
      have := h.cov t (by omega) h3 c x h4 h5 h6 h7 (by rw [h8]; exact hs)
      rw [h8] at this; exact this
theorem JI.turn {m : Land} (hw : Sound m) {j : Nat} {arr : List Bool} (h : JI m j arr) (hj : j < 2 ^ m.size) : JI m (j + 1) (jturn (nearL m) arr j) := by
  unfold jturn
  rw [h.at hj (Nat.le_refl _), nearL_len]
  split
  · rename_i hjn
    obtain ⟨l, b⟩ := jputs_spec (nearL m) j arr m.size
    refine ⟨by rw [l]; exact h.len, fun s hs => ?_, (b 0).mpr (.inl h.zero), fun c hc => (b _).mpr (.inl (h.one c hc)), fun t ht htj c x hc hx hxs hb hlt => ?_⟩
    · rcases (b s).mp hs with q | ⟨c, h1, h2, h3, _⟩
      · exact h.snd s q
      · subst h3
        obtain ⟨x, hx1, hx2, hx3⟩ := (near_meets hw h1).mp h2
        exact joined_add h1 hjn hx1 hx2 hx3
    · by_cases e : t = j
      · subst e
        exact (b _).mpr (.inr ⟨c, hc, (near_meets hw hc).mpr ⟨x, hxs, hx, hb⟩, rfl, by rw [h.len]; exact hlt⟩)
      · exact (b _).mpr (.inl (h.cov t (by omega) htj c x hc hx hxs hb hlt))
  · rename_i hjn
    refine ⟨h.len, h.snd, h.zero, h.one, fun t ht htj c x hc hx hxs hb hlt => ?_⟩
    by_cases e : t = j
    · subst e; exact absurd htj hjn
    · exact h.cov t (by omega) htj c x hc hx hxs hb hlt
theorem jall_spec {m : Land} (hw : Sound m) : ∀ j, j ≤ 2 ^ m.size → JI m j (jall (nearL m) j)
  | 0, _ => by
    obtain ⟨l, b⟩ := jstart_spec m.size m.size (Nat.le_refl _)
    have e : jall (nearL m) 0 = jstart m.size m.size := by unfold jall; rw [nearL_len]; rfl
    rw [e]
    refine ⟨l, fun s hs => ?_, (b 0).mpr (.inl rfl), fun c hc => (b _).mpr (.inr ⟨c, hc, rfl⟩), fun t ht => by omega⟩
    rcases (b s).mp hs with q | ⟨c, _, q⟩
    · subst q; exact zero_joined
    · subst q; exact single_joined
  | j + 1, hj => by
    rw [jall_succ]
    exact (jall_spec hw j (by omega)).turn hw (by omega)
theorem jall_at {m : Land} (hw : Sound m) {s : Nat} (hs : s < 2 ^ m.size) : (jall (nearL m) (2 ^ m.size))[s]? = some (joined m s) := by
  have J := jall_spec hw (2 ^ m.size) (Nat.le_refl _)
  have e := J.at hs (by omega)
  have hl : s < (jall (nearL m) (2 ^ m.size)).length := by rw [J.len]; exact hs
  rw [List.getD_eq_getElem?_getD, List.getElem?_eq_getElem hl] at e
  rw [List.getElem?_eq_getElem hl, ← e]; rfl
theorem jputs_len (nb : List Nat) (s : Nat) (arr : List Bool) (k : Nat) : (jputs nb s arr k).length = arr.length := (jputs_spec nb s arr k).len
theorem jturn_len (nb : List Nat) (s : Nat) (arr : List Bool) : (jturn nb arr s).length = arr.length := by
  unfold jturn; split
  · exact jputs_len ..
  · rfl
theorem jall_len (nb : List Nat) : ∀ k, (jall nb k).length = 2 ^ nb.length
  | 0 => (jstart_spec nb.length nb.length (Nat.le_refl _)).1
  | k + 1 => by rw [jall_succ, jturn_len]; exact jall_len nb k
theorem or_lt {s c n : Nat} (hs : s < 2 ^ n) (hc : c < n) : (s ||| 2 ^ c) < 2 ^ n := Nat.or_lt_two_pow hs (Nat.pow_lt_pow_right (by decide) hc)
end Lr
end
section
set_option linter.all false
namespace Lr
open Vbecao
def wstep (p : List Nat) (c : Nat) (W : List Nat) (b : Nat) : List Nat := W.set c (min (W.getD c 0) (W.getD b 0 + p.getD c 0))
def wcell (p nb : List Nat) (W : List Nat) (c : Nat) : List Nat := (cellsOf (nb.getD c 0)).foldl (wstep p c) W
def wpart (p nb : List Nat) (W : List Nat) (k : Nat) : List Nat := (List.range k).foldl (wcell p nb) W
def wrounds (p nb W : List Nat) : Nat → List Nat
  | 0 => W
  | k + 1 => wpart p nb (wrounds p nb W k) nb.length
def wstart (p : List Nat) (a : Nat) : List Nat := (List.replicate p.length p.sum).set a (p.getD a 0)
theorem wpart_succ (p nb W : List Nat) (k : Nat) : wpart p nb W (k + 1) = wcell p nb (wpart p nb W k) k := by
  unfold wpart; rw [List.range_succ, List.foldl_append]; rfl
theorem setN {W : List Nat} {c x v : Nat} (h : c < W.length) : (W.set c v).getD x 0 = if x = c then v else W.getD x 0 := by
  rw [List.getD_eq_getElem?_getD, List.getD_eq_getElem?_getD, List.getElem?_set]
  by_cases e : c = x
  · subst e; rw [if_pos rfl, if_pos h, if_pos rfl]; rfl
  · rw [if_neg e, if_neg fun q => e q.symm]
theorem getN {W : List Nat} {c : Nat} (h : c < W.length) : W[c]? = some (W.getD c 0) := by
  rw [List.getD_eq_getElem?_getD, List.getElem?_eq_getElem h]; rfl
theorem wstep_len (p : List Nat) (c b : Nat) (W : List Nat) : (wstep p c W b).length = W.length := List.length_set ..
theorem wsteps_len (p : List Nat) (c : Nat) : ∀ (L W : List Nat), (L.foldl (wstep p c) W).length = W.length
  | [], _ => rfl
  | b :: r, W => by rw [List.foldl_cons, wsteps_len p c r, wstep_len]
theorem wpart_len (p nb W : List Nat) : ∀ k, (wpart p nb W k).length = W.length
  | 0 => rfl
  | k + 1 => by rw [wpart_succ]; unfold wcell; rw [wsteps_len]; exact wpart_len p nb W k
theorem wrounds_len (p nb W : List Nat) : ∀ k, (wrounds p nb W k).length = W.length
  | 0 => rfl
  | k + 1 => by show (wpart _ _ _ _).length = _; rw [wpart_len]; exact wrounds_len p nb W k
theorem wstart_len (p : List Nat) (a : Nat) : (wstart p a).length = p.length := by unfold wstart; rw [List.length_set, List.length_replicate]
structure WI (m : Land) (D : Nat → Nat) (W : List Nat) : Prop where
  len : W.length = m.size
  low : ∀ c, c < m.size → D c ≤ W.getD c 0
def Tri (m : Land) (D : Nat → Nat) : Prop := ∀ b c, b < m.size → c < m.size → beside m b c = true → D c ≤ D b + m.prices.getD c 0
def Cov (m : Land) (a : Nat) (W : List Nat) (k c : Nat) : Prop := ∀ l, Row m a c l → l.length ≤ k → W.getD c 0 ≤ cost m l
theorem wstep_spec {m : Land} {D : Nat → Nat} {W : List Nat} (tri : Tri m D) (h : WI m D W) {b c : Nat} (hb : b < m.size) (hc : c < m.size) (hn : beside m b c = true) :
    WI m D (wstep m.prices c W b) ∧ (∀ x, (wstep m.prices c W b).getD x 0 ≤ W.getD x 0) ∧ (wstep m.prices c W b).getD c 0 ≤ W.getD b 0 + m.prices.getD c 0 := by
  have hl : c < W.length := by rw [h.len]; exact hc
  have key : ∀ x, (wstep m.prices c W b).getD x 0 = if x = c then min (W.getD c 0) (W.getD b 0 + m.prices.getD c 0) else W.getD x 0 := fun x => setN hl
  refine ⟨⟨by rw [wstep_len]; exact h.len, fun x hx => ?_⟩, fun x => ?_, ?_⟩
  · rw [key]
    split
    · rename_i e
      subst e
      have h1 := h.low x hx
      have h2 := h.low b hb
      have h3 := tri b x hb hx hn
      omega
    · exact h.low x hx
  · rw [key]
    split
    · rename_i e; subst e; omega
    · exact Nat.le_refl _
  · rw [key, if_pos rfl]; omega
theorem wsteps_spec {m : Land} {a : Nat} {D : Nat → Nat} (tri : Tri m D) {c : Nat} (hc : c < m.size) : ∀ (L W : List Nat), WI m D W → (∀ b ∈ L, b < m.size ∧ beside m b c = true) →
    WI m D (L.foldl (wstep m.prices c) W) ∧ (∀ x, (L.foldl (wstep m.prices c) W).getD x 0 ≤ W.getD x 0) ∧ ∀ b ∈ L, ∀ k, Cov m a W k b → ∀ l, Row m a b l → l.length ≤ k → (L.foldl (wstep m.prices c) W).getD c 0 ≤ cost m l + m.prices.getD c 0
  | [], W, h, _ => ⟨h, fun _ => Nat.le_refl _, fun b hb => by cases hb⟩
  | b :: r, W, h, hL => by
    obtain ⟨hb1, hb2⟩ := hL b (List.mem_cons_self ..)
    obtain ⟨i1, i2, i3⟩ := wstep_spec tri h hb1 hc hb2
    obtain ⟨j1, j2, j3⟩ := wsteps_spec (a := a) tri hc r _ i1 fun b hb => hL b (List.mem_cons_of_mem _ hb)
    rw [List.foldl_cons]
    refine ⟨j1, fun x => Nat.le_trans (j2 x) (i2 x), fun b' hb' k cov l hr hl => ?_⟩
    rcases List.mem_cons.mp hb' with q | q
    · subst q
      have := cov l hr hl
      have := j2 c
      omega
    · exact j3 b' q k (fun l hr hl => Nat.le_trans (i2 b') (cov l hr hl)) l hr hl
theorem near_cells {m : Land} (hm : Sound m) {c b : Nat} (hc : c < m.size) : b ∈ cellsOf ((nearL m).getD c 0) ↔ b < m.size ∧ beside m b c = true := by
  rw [nearL_get hc]
  unfold cellsOf
  rw [List.mem_filter, List.mem_range, nearSet_bit hm hc]
  have := hm.sz
  exact ⟨fun h => h.2, fun h => ⟨by omega, h⟩⟩
theorem wpart_spec {m : Land} (hm : Sound m) {a : Nat} {D : Nat → Nat} (tri : Tri m D) {W : List Nat} (h : WI m D W) {k : Nat} (hk : 1 ≤ k) (cov : ∀ c, c < m.size → Cov m a W k c) : ∀ q, q ≤ m.size →
    WI m D (wpart m.prices (nearL m) W q) ∧ (∀ x, (wpart m.prices (nearL m) W q).getD x 0 ≤ W.getD x 0) ∧ ∀ c, c < q → Cov m a (wpart m.prices (nearL m) W q) (k + 1) c
  | 0, _ => ⟨h, fun _ => Nat.le_refl _, fun c hc => absurd hc (Nat.not_lt_zero _)⟩
  | q + 1, hq => by
    obtain ⟨i1, i2, i3⟩ := wpart_spec hm tri h hk cov q (by omega)
    rw [wpart_succ]
    unfold wcell
    obtain ⟨j1, j2, j3⟩ := wsteps_spec (a := a) tri (c := q) (by omega) (cellsOf ((nearL m).getD q 0)) _ i1 fun b hb => (near_cells hm (by omega)).mp hb
    refine ⟨j1, fun x => Nat.le_trans (j2 x) (i2 x), fun c hc l hr hl => ?_⟩
    by_cases e : c = q
    · subst e
      have hcs : c < m.size := by omega
      cases hr with
      | one h0 =>
        have := cov a hcs [a] (.one h0) (by simpa using hk)
        have := i2 a
        have := j2 a
        omega
      | @more b _ l' r0 h1 h2 =>
        have hb : b < m.size := by obtain ⟨r', e⟩ := r0.head; exact r0.lt b (by rw [e]; simp)
        have := j3 b ((near_cells hm hcs).mpr ⟨hb, h2⟩) k (fun l hr hl => Nat.le_trans (i2 b) (cov b hb l hr hl)) l' r0 (by simp only [List.length_cons] at hl; omega)
        unfold cost at *
        simp only [List.map_cons, List.sum_cons]
        omega
    · exact Nat.le_trans (j2 c) (i3 c (by omega) l hr hl)
theorem wrounds_spec {m : Land} (hm : Sound m) {a : Nat} {D : Nat → Nat} (tri : Tri m D) {W : List Nat} (h : WI m D W) (cov : ∀ c, c < m.size → Cov m a W 1 c) : ∀ k, WI m D (wrounds m.prices (nearL m) W k) ∧ ∀ c, c < m.size → Cov m a (wrounds m.prices (nearL m) W k) (k + 1) c
  | 0 => ⟨h, cov⟩
  | k + 1 => by
    obtain ⟨i1, i2⟩ := wrounds_spec hm tri h cov k
    have := wpart_spec hm tri i1 (k := k + 1) (by omega) i2 m.size (Nat.le_refl _)
    show WI m D (wpart _ _ _ _) ∧ _
    rw [nearL_len]
    refine ⟨this.1, fun c hc => ?_⟩
    show Cov m a (wpart _ _ _ (nearL m).length) _ c
    rw [nearL_len]
    exact this.2.2 c hc
theorem range_getD (p : List Nat) : (List.range p.length).map (fun c => p.getD c 0) = p := by
  apply List.ext_getElem?
  intro i
  rw [List.getElem?_map]
  rcases Nat.lt_or_ge i p.length with h | h
  · rw [List.getElem?_range h, getN h]; rfl
  · rw [List.getElem?_eq_none (by simpa using h), List.getElem?_eq_none h]; rfl
theorem least_way {m : Land} (hm : Sound m) {a b : Nat} (ha : a < m.size) (hb : b < m.size) : way m a b = some ((wrounds m.prices (nearL m) (wstart m.prices a) m.size).getD b 0) := by
  have hw := fun c hc => way_is hm.w1 ha (b := c) hc
  let D : Nat → Nat := fun c => (way m a c).getD 0
  have hD : ∀ c, c < m.size → (∃ l, Row m a c l ∧ cost m l = D c) ∧ ∀ l, Row m a c l → D c ≤ cost m l := fun c hc => by
    obtain ⟨p, e, h1, h2⟩ := hw c hc
    have : D c = p := by show (way m a c).getD 0 = p; rw [e]; rfl
    rw [this]; exact ⟨h1, h2⟩
  have tri : Tri m D := fun b c hb hc hn => by
    obtain ⟨l, r, e⟩ := (hD b hb).1
    have := (hD c hc).2 (c :: l) (.more r hc hn)
    unfold cost at *
    simp only [List.map_cons, List.sum_cons] at this
    omega
  have hal : a < (List.replicate m.prices.length m.prices.sum).length := by rw [List.length_replicate, hm.pl]; exact ha
  have start : ∀ x, x < m.size → (wstart m.prices a).getD x 0 = if x = a then m.prices.getD a 0 else m.prices.sum := fun x hx => by
    unfold wstart
    rw [setN hal]
    congr 1
    rw [List.getD_eq_getElem?_getD, List.getElem?_replicate, if_pos (by rw [hm.pl]; exact hx)]; rfl
  have w0 : WI m D (wstart m.prices a) := ⟨by rw [wstart_len, hm.pl], fun c hc => by
    rw [start c hc]
    split
    · rename_i e
      subst e
      have := (hD c hc).2 [c] (.one ha)
      unfold cost at this
      simpa using this
    · obtain ⟨l, r, e⟩ := (hD c hc).1
      obtain ⟨l', r', nd, _, _⟩ := r.nodup
      refine Nat.le_trans ((hD c hc).2 l' r') ?_
      have := sum_sub (f := fun c => m.prices.getD c 0) l' (List.range m.prices.length) nd fun x hx => List.mem_range.mpr (by rw [hm.pl]; exact r'.lt x hx)
      rw [range_getD] at this
      exact this⟩
  have c0 : ∀ c, c < m.size → Cov m a (wstart m.prices a) 1 c := fun c hc l r hl => by
    cases r with
    | one _ => rw [start a ha, if_pos rfl]; unfold cost; simp
    | more r0 _ _ =>
      obtain ⟨r', e⟩ := r0.head
      subst e
      simp at hl
  obtain ⟨i1, i2⟩ := wrounds_spec hm tri w0 c0 m.size
  obtain ⟨p, e, ⟨l, r, el⟩, low⟩ := hw b hb
  have eD : D b = p := by show (way m a b).getD 0 = p; rw [e]; rfl
  rw [e]
  congr 1
  apply Nat.le_antisymm
  · have := i1.low b hb; omega
  · obtain ⟨l', r', nd, hc', _⟩ := r.nodup
    have := i2 b hb l' r' (by have := nodup_le m.size l' nd r'.lt; omega)
    omega
def cheapL (m : Land) (x : Nat) (l : List Nat) : Nat := l.foldl (fun b s => if price m s < price m b then s else b) x
theorem cheapL_snoc (m : Land) (x : Nat) (l : List Nat) (z : Nat) : cheapL m x (l ++ [z]) = if price m z < price m (cheapL m x l) then z else cheapL m x l := by
  unfold cheapL; rw [List.foldl_append]; rfl
theorem cheapL_mem {m : Land} {x : Nat} (l : List Nat) : cheapL m x l = x ∨ cheapL m x l ∈ l := by
  induction l using snoc_ind with
  | h0 => exact .inl rfl
  | h1 l z ih =>
    rw [cheapL_snoc]
    split
    · exact .inr (by simp)
    · rcases ih with h | h
      · exact .inl h
      · exact .inr (List.mem_append_left _ h)
theorem cheapest_filter {m : Land} {f : Nat → Bool} {x : Nat} {r : List Nat} (h : (sets m).filter f = x :: r) : cheapest m f = some (cheapL m x (x :: r)) := by
  unfold cheapest
  have k1 : ∀ (l : List Nat) (t : Nat), l.foldl (fun (b : Option Nat) s => match b with
        | none => if f s = true then some s else none
        | some t => if price m s < price m t ∧ f s = true then some s else some t) (some t) = some (cheapL m t (l.filter f)) := by
    intro l
    induction l with
    | nil => intro t; rfl
    | cons y q ih =>
      intro t
      rw [List.foldl_cons]
      dsimp only
      by_cases hy : f y = true
      · rw [List.filter_cons_of_pos hy]
        have e : cheapL m t (y :: q.filter f) = cheapL m (if price m y < price m t then y else t) (q.filter f) := rfl
        rw [e]
        by_cases hp : price m y < price m t
        · rw [if_pos ⟨hp, hy⟩, if_pos hp]; exact ih y
        · rw [if_neg fun z => hp z.1, if_neg hp]; exact ih t
      · rw [List.filter_cons_of_neg hy, if_neg fun z => hy z.2]
        exact ih t
  have k2 : ∀ (l : List Nat), l.filter f = x :: r → l.foldl (fun (b : Option Nat) s => match b with
        | none => if f s = true then some s else none
        | some t => if price m s < price m t ∧ f s = true then some s else some t) none = some (cheapL m x r) := by
    intro l
    induction l with
    | nil => intro e; cases e
    | cons y q ih =>
      intro e
      rw [List.foldl_cons]
      dsimp only
      by_cases hy : f y = true
      · rw [List.filter_cons_of_pos hy] at e
        injection e with e1 e2
        subst e1
        rw [if_pos hy, k1, e2]
      · rw [List.filter_cons_of_neg hy] at e
        rw [if_neg hy]
        exact ih e
  refine (k2 _ h).trans ?_
  congr 1
  have : cheapL m x (x :: r) = cheapL m (if price m x < price m x then x else x) r := rfl
  rw [this]
  congr 1
  split <;> rfl
def askedL (m : Land) (one : Bool) : List Nat := (sets m).filter fun s => !one || joined m s
theorem askedL_fits (m : Land) (need : List Nat) (one : Bool) : (askedL m one).filter (fits m need) = (sets m).filter (passes m need one) := by
  unfold askedL
  rw [List.filter_filter]
  rfl
theorem asked_lt {m : Land} {one : Bool} {s : Nat} (h : s ∈ askedL m one) : s < 2 ^ m.size := sets_iff.mp (List.mem_filter.mp h).1
theorem asked_len (m : Land) (one : Bool) : (askedL m one).length ≤ 2 ^ m.size := by
  have := List.length_filter_le (fun s => !one || joined m s) (sets m)
  unfold sets at this
  rw [List.length_range] at this
  exact this
def andAll (x : Nat) (l : List Nat) : Nat := l.foldl (fun a s => a &&& s) x
theorem andAll_snoc (x : Nat) (l : List Nat) (z : Nat) : andAll x (l ++ [z]) = andAll x l &&& z := by
  unfold andAll; rw [List.foldl_append]; rfl
theorem andAll_bit (x c : Nat) (l : List Nat) : (andAll x l).testBit c = (x.testBit c && l.all fun t => t.testBit c) := by
  induction l using snoc_ind with
  | h0 => simp [andAll]
  | h1 l z ih => rw [andAll_snoc, Nat.testBit_and, ih, List.all_append, Bool.and_assoc]; simp
theorem must_cells {m : Land} (hm : Sound m) {f : Nat → Bool} {x : Nat} {r : List Nat} (h : (sets m).filter f = x :: r) : cellsOf (andAll x (x :: r)) = (cells m).filter fun c => ((sets m).filter f).all fun t => isIn t c := by
  have hx : x < 2 ^ m.size := sets_iff.mp (List.mem_filter.mp (by rw [h]; exact List.mem_cons_self ..)).1
  have hlt : andAll x (x :: r) < 2 ^ m.size := Nat.lt_of_le_of_lt (le_of_bits fun a ha => by rw [andAll_bit, Bool.and_eq_true] at ha; exact ha.1) hx
  rw [cellsOf_eq hm.sz hlt, h]
  unfold members isIn
  apply List.filter_congr
  intro c _
  rw [andAll_bit, List.all_cons]
  cases x.testBit c <;> rfl
theorem none_fits {m : Land} {need : List Nat} : (sets m).filter (fits m need) = [] ↔ fits m need (2 ^ m.size - 1) = false := by
  rw [List.filter_eq_nil_iff]
  constructor
  · intro h
    have := h (2 ^ m.size - 1) (sets_iff.mpr (by have := Nat.two_pow_pos m.size; omega))
    simpa using this
  · intro h s hs hf
    rw [fits_full hf] at h; cases h
def fitsW (m : Land) (need : List Nat) (r s : Nat) : Bool := (List.range 8).all fun k => decide (need.getD k 0 ≤ times m s k - r)
theorem fitsW_iff {m : Land} {need : List Nat} {r s : Nat} : fitsW m need r s = true ↔ ∀ k, k < 8 → need.getD k 0 ≤ times m s k - r := by
  unfold fitsW
  simp only [List.all_eq_true, List.mem_range, decide_eq_true_eq]
theorem fitsW_zero (m : Land) (need : List Nat) (s : Nat) : fitsW m need 0 s = fits m need s := rfl
theorem fitsW_hardy (m : Land) (need : List Nat) (r s : Nat) : fitsW m need r s = hardy m need r s := by
  rw [Bool.eq_iff_iff, fitsW_iff, hardy_iff]
theorem first_max (Kf : Nat → Nat) : ∀ (l : List Nat) (x : Nat), (l.foldl (fun b s => if Kf b < Kf s then s else b) x = x ∧ ∀ y ∈ l, Kf y ≤ Kf x) ∨
    ∃ (j t : Nat), l.foldl (fun b s => if Kf b < Kf s then s else b) x = t ∧ l[j]? = some t ∧ Kf x < Kf t ∧ (∀ y ∈ l, Kf y ≤ Kf t) ∧ ∀ i, i < j → ∀ y, l[i]? = some y → Kf y < Kf t
  | [], x => .inl ⟨rfl, fun y h => by cases h⟩
  | y :: l, x => by
    rw [List.foldl_cons]
    by_cases h : Kf x < Kf y
    · rw [if_pos h]
      rcases first_max Kf l y with ⟨e, a⟩ | ⟨j, t, e, g, h1, h2, h3⟩
      · refine .inr ⟨0, y, e, rfl, h, fun z hz => ?_, fun i hi => by omega⟩
        rcases List.mem_cons.mp hz with q | q
        · subst q; exact Nat.le_refl _
        · exact a z q
      · refine .inr ⟨j + 1, t, e, g, by omega, fun z hz => ?_, fun i hi z hz => ?_⟩
        · rcases List.mem_cons.mp hz with q | q
          · subst q; omega
          · exact h2 z q
        · cases i with
          | zero => cases hz; exact h1
          | succ i => exact h3 i (by omega) z hz
    · rw [if_neg h]
      rcases first_max Kf l x with ⟨e, a⟩ | ⟨j, t, e, g, h1, h2, h3⟩
      · refine .inl ⟨e, fun z hz => ?_⟩
        rcases List.mem_cons.mp hz with q | q
        · subst q; omega
        · exact a z q
      · refine .inr ⟨j + 1, t, e, g, h1, fun z hz => ?_, fun i hi z hz => ?_⟩
        · rcases List.mem_cons.mp hz with q | q
          · subst q; omega
          · exact h2 z q
        · cases i with
          | zero => cases hz; omega
          | succ i => exact h3 i (by omega) z hz
def paidL (m : Land) (one : Bool) (p : Nat) : List Nat := (askedL m one).filter fun s => decide (price m s ≤ p)
theorem price_zero (m : Land) : price m 0 = 0 := by unfold price; rw [members_zero]; rfl
theorem paid_cons (m : Land) (one : Bool) (p : Nat) : ∃ r, paidL m one p = 0 :: r := by
  have e : ∃ q, sets m = 0 :: q := by
    unfold sets
    obtain ⟨k, hk⟩ : ∃ k, 2 ^ m.size = k + 1 := ⟨2 ^ m.size - 1, by have := Nat.two_pow_pos m.size; omega⟩
    rw [hk, List.range_succ_eq_map]
    exact ⟨_, rfl⟩
  obtain ⟨q, e⟩ := e
  unfold paidL askedL
  rw [e, List.filter_cons_of_pos (by simp [zero_joined]), List.filter_cons_of_pos (by simp [price_zero])]
  exact ⟨_, rfl⟩
theorem most_fold (m : Land) (need : List Nat) (one : Bool) (p : Nat) : most m need one p = (paidL m one p).foldl (fun b s => if kept m need b < kept m need s then s else b) 0 := by
  unfold most paidL askedL
  rw [List.filter_filter]
  have key : ∀ (l : List Nat) (b : Nat), l.foldl (fun b s => if price m s ≤ p ∧ kept m need b < kept m need s ∧ (!one || joined m s) = true then s else b) b = (l.filter fun s => decide (price m s ≤ p) && (!one || joined m s)).foldl (fun b s => if kept m need b < kept m need s then s else b) b := by
    intro l
    induction l with
    | nil => intro b; rfl
    | cons y r ih =>
      intro b
      rw [List.foldl_cons]
      by_cases h : (decide (price m y ≤ p) && (!one || joined m y)) = true
      · rw [List.filter_cons, if_pos h, List.foldl_cons, ← ih]
        rw [Bool.and_eq_true, decide_eq_true_eq] at h
        congr 1
        by_cases h2 : kept m need b < kept m need y
        · rw [if_pos ⟨h.1, h2, h.2⟩, if_pos h2]
        · rw [if_neg fun z => h2 z.2.1, if_neg h2]
      · rw [List.filter_cons, if_neg h, ← ih]
        congr 1
        rw [if_neg]
        rintro ⟨h1, _, h2⟩
        apply h
        rw [Bool.and_eq_true, decide_eq_true_eq]
        exact ⟨h1, h2⟩
  exact key _ _
theorem most_at (m : Land) (need : List Nat) (one : Bool) (p : Nat) : ∃ j : Nat, (paidL m one p)[j]? = some (most m need one p) ∧ (∀ y ∈ paidL m one p, kept m need y ≤ kept m need (most m need one p)) ∧ ∀ i, i < j → ∀ y, (paidL m one p)[i]? = some y → kept m need y < kept m need (most m need one p) := by
  rw [most_fold]
  obtain ⟨r, e⟩ := paid_cons m one p
  rw [e]
  have e0 : (0 :: r).foldl (fun b s => if kept m need b < kept m need s then s else b) 0 = r.foldl (fun b s => if kept m need b < kept m need s then s else b) 0 := by
    rw [List.foldl_cons, if_neg (Nat.lt_irrefl _)]
  rw [e0]
  rcases first_max (kept m need) r 0 with ⟨e1, a⟩ | ⟨j, t, e1, g, h1, h2, h3⟩
  · rw [e1]
    refine ⟨0, rfl, fun y hy => ?_, fun i hi => by omega⟩
    rcases List.mem_cons.mp hy with q | q
    · subst q; exact Nat.le_refl _
    · exact a y q
  · rw [e1]
    refine ⟨j + 1, g, fun y hy => ?_, fun i hi y hy => ?_⟩
    · rcases List.mem_cons.mp hy with q | q
      · subst q; omega
      · exact h2 y q
    · cases i with
      | zero => cases hy; exact h1
      | succ i => exact h3 i (by omega) y hy
def keptK (m : Land) (need : List Nat) (k s : Nat) : Nat := ((List.range k).filter fun k => decide (need.getD k 0 ≤ times m s k)).length
theorem keptK_succ (m : Land) (need : List Nat) (k s : Nat) : keptK m need (k + 1) s = if need.getD k 0 ≤ times m s k then keptK m need k s + 1 else keptK m need k s := by
  unfold keptK
  rw [List.range_succ, List.filter_append, List.length_append]
  by_cases h : need.getD k 0 ≤ times m s k
  · rw [if_pos h, List.filter_cons_of_pos (by simpa using h)]; rfl
  · rw [if_neg h, List.filter_cons_of_neg (by simpa using h)]; rfl
theorem shown_iff {m : Land} {d : Nat} {ws rb : List Nat} (hl : ws.length = 8) : shown m d ws rb = true ↔ ∀ c, c < m.size → worth ws (m.kinds.getD c 0) ≤ rb.getD c 0 + d * m.prices.getD c 0 := by
  unfold shown worth cells
  rw [hl]
  simp only [List.all_eq_true, List.mem_range, decide_eq_true_eq]
  constructor
  · intro h c hc
    have := h c hc
    rw [Nat.mul_comm] at this
    show (((List.range 8).filter _).map _).sum ≤ _
    unfold KINDS holds at this
    omega
  · intro h c hc
    have := h c hc
    rw [Nat.mul_comm (m.prices.getD c 0)]
    unfold KINDS holds
    omega
theorem zip_sum : ∀ (a b : List Nat), a.length = b.length → ((List.range a.length).map fun k => a.getD k 0 * b.getD k 0).sum = (List.zipWith (· * ·) a b).sum
  | [], [], _ => rfl
  | x :: a, y :: b, h => by
    have ih := zip_sum a b (by simpa using h)
    rw [List.length_cons, List.range_succ_eq_map, List.map_cons, List.map_map, List.sum_cons, List.zipWith_cons_cons, List.sum_cons, ← ih]
    rfl
  | [], _ :: _, h => by cases h
  | _ :: _, [], h => by cases h
theorem bound_is {m : Land} {need ws rb : List Nat} {d : Nat} (hn : need.length = 8) (hw : ws.length = 8) (hr : rb.length = m.size) : bound m need d ws rb = ((List.zipWith (· * ·) ws need).sum - rb.sum + (d - 1)) / d := by
  unfold bound cells KINDS
  have e1 := zip_sum ws need (by rw [hw, hn])
  rw [hw] at e1
  have e2 := range_getD rb
  rw [hr] at e2
  simp only [e1, e2]
end Lr
end
section
set_option linter.all false
namespace Lr
open Vbecao
theorem shape_cases {c : Int} {a b : Nat} (h : PyVbecao.shape c = some (a, b)) :
    (c = 0 ∧ a = 2 ∧ b = 2) ∨ (c = 1 ∧ a = 0 ∧ b = 0) ∨ (c = 2 ∧ a = 0 ∧ b = 1) ∨ (c = 3 ∧ a = 0 ∧ b = 1) ∨ (c = 4 ∧ a = 0 ∧ b = 1) ∨ (c = 5 ∧ a = 0 ∧ b = 1) ∨ (c = 6 ∧ a = 1 ∧ b = 0) ∨
    (c = 7 ∧ a = 1 ∧ b = 0) ∨ (c = 8 ∧ a = 0 ∧ b = 0) ∨ (c = 9 ∧ a = 0 ∧ b = 1) ∨ (c = 10 ∧ a = 2 ∧ b = 0) ∨ (c = 11 ∧ a = 1 ∧ b = 2) ∨ (c = 12 ∧ a = 1 ∧ b = 1) ∨ (c = 13 ∧ a = 2 ∧ b = 0) := by
  unfold PyVbecao.shape at h
  by_cases h0 : c = 0
  · rw [if_pos h0] at h; simp only [Option.some.injEq, Prod.mk.injEq] at h; exact .inl ⟨h0, h.1.symm, h.2.symm⟩
  rw [if_neg h0] at h
  by_cases h1 : c = 1
  · rw [if_pos h1] at h; simp only [Option.some.injEq, Prod.mk.injEq] at h; exact .inr (.inl ⟨h1, h.1.symm, h.2.symm⟩)
  rw [if_neg h1] at h
  by_cases h2 : c = 2
  · rw [if_pos h2] at h; simp only [Option.some.injEq, Prod.mk.injEq] at h; exact .inr (.inr (.inl ⟨h2, h.1.symm, h.2.symm⟩))
  rw [if_neg h2] at h
  by_cases h3 : c = 3
  · rw [if_pos h3] at h; simp only [Option.some.injEq, Prod.mk.injEq] at h; exact .inr (.inr (.inr (.inl ⟨h3, h.1.symm, h.2.symm⟩)))
  rw [if_neg h3] at h
  by_cases h4 : c = 4
  · rw [if_pos h4] at h; simp only [Option.some.injEq, Prod.mk.injEq] at h; exact .inr (.inr (.inr (.inr (.inl ⟨h4, h.1.symm, h.2.symm⟩))))
  rw [if_neg h4] at h
  by_cases h5 : c = 5
  · rw [if_pos h5] at h; simp only [Option.some.injEq, Prod.mk.injEq] at h; exact .inr (.inr (.inr (.inr (.inr (.inl ⟨h5, h.1.symm, h.2.symm⟩)))))
  rw [if_neg h5] at h
  by_cases h6 : c = 6
  · rw [if_pos h6] at h; simp only [Option.some.injEq, Prod.mk.injEq] at h; exact .inr (.inr (.inr (.inr (.inr (.inr (.inl ⟨h6, h.1.symm, h.2.symm⟩))))))
  rw [if_neg h6] at h
  by_cases h7 : c = 7
  · rw [if_pos h7] at h; simp only [Option.some.injEq, Prod.mk.injEq] at h; exact .inr (.inr (.inr (.inr (.inr (.inr (.inr (.inl ⟨h7, h.1.symm, h.2.symm⟩)))))))
  rw [if_neg h7] at h
  by_cases h8 : c = 8
  · rw [if_pos h8] at h; simp only [Option.some.injEq, Prod.mk.injEq] at h; exact .inr (.inr (.inr (.inr (.inr (.inr (.inr (.inr (.inl ⟨h8, h.1.symm, h.2.symm⟩))))))))
  rw [if_neg h8] at h
  by_cases h9 : c = 9
  · rw [if_pos h9] at h; simp only [Option.some.injEq, Prod.mk.injEq] at h; exact .inr (.inr (.inr (.inr (.inr (.inr (.inr (.inr (.inr (.inl ⟨h9, h.1.symm, h.2.symm⟩)))))))))
  rw [if_neg h9] at h
  by_cases h10 : c = 10
  · rw [if_pos h10] at h; simp only [Option.some.injEq, Prod.mk.injEq] at h; exact .inr (.inr (.inr (.inr (.inr (.inr (.inr (.inr (.inr (.inr (.inl ⟨h10, h.1.symm, h.2.symm⟩))))))))))
  rw [if_neg h10] at h
  by_cases h11 : c = 11
  · rw [if_pos h11] at h; simp only [Option.some.injEq, Prod.mk.injEq] at h; exact .inr (.inr (.inr (.inr (.inr (.inr (.inr (.inr (.inr (.inr (.inr (.inl ⟨h11, h.1.symm, h.2.symm⟩)))))))))))
  rw [if_neg h11] at h
  by_cases h12 : c = 12
  · rw [if_pos h12] at h; simp only [Option.some.injEq, Prod.mk.injEq] at h; exact .inr (.inr (.inr (.inr (.inr (.inr (.inr (.inr (.inr (.inr (.inr (.inr (.inl ⟨h12, h.1.symm, h.2.symm⟩))))))))))))
  rw [if_neg h12] at h
  by_cases h13 : c = 13
  · rw [if_pos h13] at h; simp only [Option.some.injEq, Prod.mk.injEq] at h; exact .inr (.inr (.inr (.inr (.inr (.inr (.inr (.inr (.inr (.inr (.inr (.inr (.inr (⟨h13, h.1.symm, h.2.symm⟩)))))))))))))
  rw [if_neg h13] at h
  cases h
theorem len0 {α : Type} {l : List α} (h : l.length = 0) : l = [] := List.length_eq_zero_iff.mp h
theorem len1 {α : Type} {l : List α} (h : l.length = 1) : ∃ x, l = [x] := by
  match l, h with
  | [x], _ => exact ⟨x, rfl⟩
theorem len2 {α : Type} {l : List α} (h : l.length = 2) : ∃ x y, l = [x, y] := by
  match l, h with
  | [x, y], _ => exact ⟨x, y, rfl⟩
theorem withLand_none {st : State} {k : Land → Out} (e : st.land = none) : withLand st k = (st, [-1]) := by unfold withLand; rw [e]; rfl
theorem told_call {c : Int} {nums : List Int} {ls : List (List Int)} (h : PyVbecao.shape c = some (nums.length, ls.length)) : ∃ call, decode ((c :: nums) :: ls) = some call ∧ (c = 0 ∨ ∀ st : State, st.land = none → act st call = (st, [-1])) := by
  rcases shape_cases h with ⟨rfl, ha, hb⟩ | ⟨rfl, ha, hb⟩ | ⟨rfl, ha, hb⟩ | ⟨rfl, ha, hb⟩ | ⟨rfl, ha, hb⟩ | ⟨rfl, ha, hb⟩ | ⟨rfl, ha, hb⟩ | ⟨rfl, ha, hb⟩ | ⟨rfl, ha, hb⟩ | ⟨rfl, ha, hb⟩ | ⟨rfl, ha, hb⟩ | ⟨rfl, ha, hb⟩ | ⟨rfl, ha, hb⟩ | ⟨rfl, ha, hb⟩
  · obtain ⟨x, y, rfl⟩ := len2 ha
    obtain ⟨p, k, rfl⟩ := len2 hb
    exact ⟨_, rfl, .inl rfl⟩
  · obtain rfl := len0 ha
    obtain rfl := len0 hb
    exact ⟨_, rfl, .inr fun st e => withLand_none e⟩
  · obtain rfl := len0 ha
    obtain ⟨p, rfl⟩ := len1 hb
    exact ⟨_, rfl, .inr fun st e => withLand_none e⟩
  · obtain rfl := len0 ha
    obtain ⟨p, rfl⟩ := len1 hb
    exact ⟨_, rfl, .inr fun st e => withLand_none e⟩
  · obtain rfl := len0 ha
    obtain ⟨p, rfl⟩ := len1 hb
    exact ⟨_, rfl, .inr fun st e => withLand_none e⟩
  · obtain rfl := len0 ha
    obtain ⟨p, rfl⟩ := len1 hb
    exact ⟨_, rfl, .inr fun st e => withLand_none e⟩
  · obtain ⟨x, rfl⟩ := len1 ha
    obtain rfl := len0 hb
    exact ⟨_, rfl, .inr fun st e => withLand_none e⟩
  · obtain ⟨x, rfl⟩ := len1 ha
    obtain rfl := len0 hb
    exact ⟨_, rfl, .inr fun st e => withLand_none e⟩
  · obtain rfl := len0 ha
    obtain rfl := len0 hb
    exact ⟨_, rfl, .inr fun st e => withLand_none e⟩
  · obtain rfl := len0 ha
    obtain ⟨p, rfl⟩ := len1 hb
    exact ⟨_, rfl, .inr fun st e => withLand_none e⟩
  · obtain ⟨x, y, rfl⟩ := len2 ha
    obtain rfl := len0 hb
    exact ⟨_, rfl, .inr fun st e => withLand_none e⟩
  · obtain ⟨x, rfl⟩ := len1 ha
    obtain ⟨p, k, rfl⟩ := len2 hb
    exact ⟨_, rfl, .inr fun st e => withLand_none e⟩
  · obtain ⟨x, rfl⟩ := len1 ha
    obtain ⟨p, rfl⟩ := len1 hb
    exact ⟨_, rfl, .inr fun st e => withLand_none e⟩
  · obtain ⟨x, y, rfl⟩ := len2 ha
    obtain rfl := len0 hb
    exact ⟨_, rfl, .inr fun st e => withLand_none e⟩
theorem whole_told {c : Int} {nums : List Int} {ls : List (List Int)} (h : PyVbecao.shape c = some (nums.length, ls.length)) : PyVbecao.whole ((c :: nums) :: ls) = (c :: nums) :: ls := by
  rcases shape_cases h with ⟨rfl, ha, hb⟩ | ⟨rfl, ha, hb⟩ | ⟨rfl, ha, hb⟩ | ⟨rfl, ha, hb⟩ | ⟨rfl, ha, hb⟩ | ⟨rfl, ha, hb⟩ | ⟨rfl, ha, hb⟩ | ⟨rfl, ha, hb⟩ | ⟨rfl, ha, hb⟩ | ⟨rfl, ha, hb⟩ | ⟨rfl, ha, hb⟩ | ⟨rfl, ha, hb⟩ | ⟨rfl, ha, hb⟩ | ⟨rfl, ha, hb⟩
  · obtain ⟨x, y, rfl⟩ := len2 ha
    obtain ⟨p, k, rfl⟩ := len2 hb
    rfl
  · obtain rfl := len0 ha
    obtain rfl := len0 hb
    rfl
  · obtain rfl := len0 ha
    obtain ⟨p, rfl⟩ := len1 hb
    rfl
  · obtain rfl := len0 ha
    obtain ⟨p, rfl⟩ := len1 hb
    rfl
  · obtain rfl := len0 ha
    obtain ⟨p, rfl⟩ := len1 hb
    rfl
  · obtain rfl := len0 ha
    obtain ⟨p, rfl⟩ := len1 hb
    rfl
  · obtain ⟨x, rfl⟩ := len1 ha
    obtain rfl := len0 hb
    rfl
  · obtain ⟨x, rfl⟩ := len1 ha
    obtain rfl := len0 hb
    rfl
  · obtain rfl := len0 ha
    obtain rfl := len0 hb
    rfl
  · obtain rfl := len0 ha
    obtain ⟨p, rfl⟩ := len1 hb
    rfl
  · obtain ⟨x, y, rfl⟩ := len2 ha
    obtain rfl := len0 hb
    rfl
  · obtain ⟨x, rfl⟩ := len1 ha
    obtain ⟨p, k, rfl⟩ := len2 hb
    rfl
  · obtain ⟨x, rfl⟩ := len1 ha
    obtain ⟨p, rfl⟩ := len1 hb
    rfl
  · obtain ⟨x, y, rfl⟩ := len2 ha
    obtain rfl := len0 hb
    rfl
theorem shape_short {c : Int} {a b : Nat} (h : PyVbecao.shape c = some (a, b)) : b ≤ 2 := by
  rcases shape_cases h with ⟨_, _, rfl⟩ | ⟨_, _, rfl⟩ | ⟨_, _, rfl⟩ | ⟨_, _, rfl⟩ | ⟨_, _, rfl⟩ | ⟨_, _, rfl⟩ | ⟨_, _, rfl⟩ | ⟨_, _, rfl⟩ | ⟨_, _, rfl⟩ | ⟨_, _, rfl⟩ | ⟨_, _, rfl⟩ | ⟨_, _, rfl⟩ | ⟨_, _, rfl⟩ | ⟨_, _, rfl⟩ <;> exact by decide
theorem step_noland {c : Int} {nums : List Int} {ls : List (List Int)} (h : PyVbecao.shape c = some (nums.length, ls.length)) (h0 : c ≠ 0) {st : State} (e : st.land = none) : step st ((c :: nums) :: ls) = (st, [-1]) := by
  obtain ⟨call, h1, h2⟩ := told_call h
  unfold step
  rw [h1]
  rcases h2 with h2 | h2
  · exact absurd h2 h0
  · exact h2 st e
theorem bad_len (s : State) (e : Int) : (bad s e).2.length ≤ 40 := by show 1 ≤ 40; decide
theorem withNum_len {s : State} {n lo hi : Int} {k : Nat → Out} (h : ∀ n, (k n).2.length ≤ 40) : (withNum s n lo hi k).2.length ≤ 40 := by
  unfold withNum; split
  · exact h _
  · exact bad_len _ _
theorem withList_len {s : State} {lo hi : Nat} {most : Int} {l : List Int} {k : List Nat → Out} (h : ∀ n, (k n).2.length ≤ 40) : (withList s lo hi most l k).2.length ≤ 40 := by
  unfold withList; split
  · exact h _
  · exact bad_len _ _
theorem withSet_len {s : State} {m : Land} {l : List Int} {k : Nat → Out} (h : ∀ n, (k n).2.length ≤ 40) : (withSet s m l k).2.length ≤ 40 := withList_len fun _ => h _
theorem withLand_len {s : State} {k : Land → Out} (h : ∀ m, s.land = some m → (k m).2.length ≤ 40) : (withLand s k).2.length ≤ 40 := by
  unfold withLand; split
  · exact bad_len _ _
  · exact h _ (by assumption)
theorem tell_len {s : State} {m : Land} {b : Option Nat} (hm : m.size ≤ 12) : (tell s m b).2.length ≤ 40 := by
  unfold tell; split
  · exact bad_len _ _
  · show ((_ : Int) :: Vbecao.ints _).length ≤ 40
    unfold Vbecao.ints
    rw [List.length_cons, List.length_map]
    have := length_members_le m (by assumption)
    omega
structure Small (s : State) : Prop where
  land : ∀ m, s.land = some m → m.size ≤ 12 ∧ m.prices.length = m.size ∧ m.kinds.length = m.size
  need : s.need.length = 8
theorem act_len {s : State} (hs : Small s) (c : Call) : (act s c).2.length ≤ 40 := by
  cases c with
  | land w h p k =>
    refine withNum_len fun w => withNum_len fun h => ?_
    split
    · exact bad_len _ _
    · exact withList_len fun p => withList_len fun k => by show 1 ≤ 40; decide
  | told =>
    refine withLand_len fun m hm => ?_
    obtain ⟨h1, h2, h3⟩ := hs.land m hm
    have := hs.need
    show ([0, (m.w : Int), (m.h : Int)] ++ Vbecao.ints (m.prices ++ (m.kinds ++ s.need))).length ≤ 40
    unfold Vbecao.ints
    rw [List.length_append, List.length_map, List.length_append, List.length_append]
    show 3 + _ ≤ 40
    omega
  | need l => exact withLand_len fun m hm => withList_len fun l => by show 1 ≤ 40; decide
  | fits l => exact withLand_len fun m hm => withSet_len fun l => by show 1 ≤ 40; decide
  | price l => exact withLand_len fun m hm => withSet_len fun l => by show 1 ≤ 40; decide
  | pieces l => exact withLand_len fun m hm => withSet_len fun l => by show 1 ≤ 40; decide
  | best o => exact withLand_len fun m hm => withNum_len fun o => tell_len (hs.land m hm).1
  | number o => exact withLand_len fun m hm => withNum_len fun o => by show 1 ≤ 40; decide
  | must =>
    refine withLand_len fun m hm => ?_
    split
    · exact bad_len _ _
    · show ((0 : Int) :: Vbecao.ints _).length ≤ 40
      unfold Vbecao.ints cells
      rw [List.length_cons, List.length_map]
      refine Nat.le_trans (Nat.succ_le_succ (List.length_filter_le _ _)) ?_
      rw [List.length_range]
      have := (hs.land m hm).1
      omega
  | corridor l => exact withLand_len fun m hm => withSet_len fun l => tell_len (hs.land m hm).1
  | way a b =>
    refine withLand_len fun m hm => withNum_len fun a => withNum_len fun b => ?_
    split
    · exact bad_len _ _
    · show 1 ≤ 40; decide
  | bound d y z =>
    refine withLand_len fun m hm => withNum_len fun d => withList_len fun y => withList_len fun z => ?_
    split
    · show 2 ≤ 40; decide
    · show 1 ≤ 40; decide
  | hardy r l => exact withLand_len fun m hm => withNum_len fun r => withSet_len fun l => by show 1 ≤ 40; decide
  | most o p =>
    refine withLand_len fun m hm => withNum_len fun o => withNum_len fun p => ?_
    show ((_ : Int) :: Vbecao.ints (members m _)).length ≤ 40
    unfold Vbecao.ints
    rw [List.length_cons, List.length_map]
    have := length_members_le m (most m s.need (o == 1) p)
    have := (hs.land m hm).1
    omega
theorem step_len {s : State} (hs : Small s) (c : List (List Int)) : (step s c).2.length ≤ 40 := by
  unfold step
  split
  · show 1 ≤ 40; decide
  · exact act_len hs _
theorem row_short {l : List Int} (h : VbecaoNeutral.row l = true) : l.length ≤ 30 := by
  unfold VbecaoNeutral.row at h
  rw [Bool.and_eq_true, decide_eq_true_eq] at h
  exact h.1
theorem asked_short {c : Int} {nums : List Int} {ls : List (List Int)} (hs : PyVbecao.shape c = some (nums.length, ls.length)) (h : VbecaoNeutral.asked1 ((c :: nums) :: ls) = true) : ∀ x ∈ ls, x.length ≤ 30 := by
  intro x hx
  apply row_short
  rcases shape_cases hs with ⟨rfl, ha, hb⟩ | ⟨rfl, ha, hb⟩ | ⟨rfl, ha, hb⟩ | ⟨rfl, ha, hb⟩ | ⟨rfl, ha, hb⟩ | ⟨rfl, ha, hb⟩ | ⟨rfl, ha, hb⟩ | ⟨rfl, ha, hb⟩ | ⟨rfl, ha, hb⟩ | ⟨rfl, ha, hb⟩ | ⟨rfl, ha, hb⟩ | ⟨rfl, ha, hb⟩ | ⟨rfl, ha, hb⟩ | ⟨rfl, ha, hb⟩
  · obtain ⟨a, b, rfl⟩ := len2 ha
    obtain ⟨p, k, rfl⟩ := len2 hb
    have h' : (VbecaoNeutral.whole a && VbecaoNeutral.whole b && VbecaoNeutral.row p && VbecaoNeutral.row k) = true := h
    simp only [Bool.and_eq_true] at h'
    simp only [List.mem_cons, List.not_mem_nil, or_false] at hx
    rcases hx with rfl | rfl
    · exact h'.1.2
    · exact h'.2
  · obtain rfl := len0 hb; cases hx
  · obtain rfl := len0 ha
    obtain ⟨p, rfl⟩ := len1 hb
    simp only [List.mem_cons, List.not_mem_nil, or_false] at hx
    subst hx; exact h
  · obtain rfl := len0 ha
    obtain ⟨p, rfl⟩ := len1 hb
    simp only [List.mem_cons, List.not_mem_nil, or_false] at hx
    subst hx; exact h
  · obtain rfl := len0 ha
    obtain ⟨p, rfl⟩ := len1 hb
    simp only [List.mem_cons, List.not_mem_nil, or_false] at hx
    subst hx; exact h
  · obtain rfl := len0 ha
    obtain ⟨p, rfl⟩ := len1 hb
    simp only [List.mem_cons, List.not_mem_nil, or_false] at hx
    subst hx; exact h
  · obtain rfl := len0 hb; cases hx
  · obtain rfl := len0 hb; cases hx
  · obtain rfl := len0 hb; cases hx
  · obtain rfl := len0 ha
    obtain ⟨p, rfl⟩ := len1 hb
    simp only [List.mem_cons, List.not_mem_nil, or_false] at hx
    subst hx; exact h
  · obtain rfl := len0 hb; cases hx
  · obtain ⟨a, rfl⟩ := len1 ha
    obtain ⟨p, k, rfl⟩ := len2 hb
    have h' : (VbecaoNeutral.whole a && VbecaoNeutral.row p && VbecaoNeutral.row k) = true := h
    simp only [Bool.and_eq_true] at h'
    simp only [List.mem_cons, List.not_mem_nil, or_false] at hx
    rcases hx with rfl | rfl
    · exact h'.1.2
    · exact h'.2
  · obtain ⟨a, rfl⟩ := len1 ha
    obtain ⟨p, rfl⟩ := len1 hb
    have h' : (VbecaoNeutral.whole a && VbecaoNeutral.row p) = true := h
    simp only [Bool.and_eq_true] at h'
    simp only [List.mem_cons, List.not_mem_nil, or_false] at hx
    subst hx; exact h'.2
  · obtain rfl := len0 hb; cases hx
theorem asked_open {ns : List Int} (h : PyVbecao.answers_asked ns = true) : ∃ cs : List (List (List Int)), ns = PyFlat.put cs ∧ (∀ c ∈ cs, ∃ p a xs, c = (p :: a) :: xs ∧ PyVbecao.shape p = some (a.length, xs.length) ∧ ∀ x ∈ xs, x.length ≤ 30) ∧ cs.length ≤ 400 ∧
    PyVbecao.answers ns = PyFlat.told (PyFlat.played Vbecao.step Vbecao.start cs) := by
  unfold PyVbecao.answers_asked PyVbecao.answers PyVbecao.calls at *
  cases e : PyFlat.calls PyVbecao.shape ns.length ns with
  | none => rw [e] at h; cases h
  | some cs =>
    rw [e] at h
    dsimp only at h ⊢
    obtain ⟨h1, h2⟩ := PyFlat.put_calls _ _ _ e
    have ew : cs.map PyVbecao.whole = cs := by
      conv => rhs; rw [← List.map_id cs]
      apply List.map_congr_left
      intro c hc
      obtain ⟨p, a, xs, rfl, hs⟩ := h2 c hc
      exact whole_told hs
    rw [ew] at h ⊢
    rw [Bool.and_eq_true] at h
    refine ⟨cs, h1, fun c hc => ?_, of_decide_eq_true h.1, rfl⟩
    obtain ⟨p, a, xs, ec, hs⟩ := h2 c hc
    refine ⟨p, a, xs, ec, hs, asked_short hs ?_⟩
    have h3 := h.2
    unfold VbecaoNeutral.asked at h3
    simp only [Bool.and_eq_true, List.all_eq_true] at h3
    rw [← ec]
    exact h3.2.2 c hc
end Lr
end
section
set_option Elab.async false
set_option linter.all false
set_option maxRecDepth 100000
namespace Lr
open PySem PySem.Spec PyProof.Rows L2
section
variable {X : Cx}
def tRng (ta : TA) : TE := fun σ H Q => ta σ H fun vs H1 => ∃ j : Int, vs = [.int j] ∧ ∀ r, H1 r = none → Q (.ref r) (upd H1 r (.rng 0 j))
theorem pe_range1 {a : Expr} {ta : TA} {p pos : Pos} (hg : Gl X "range") (hm : X.mg "range" = none) (ha : PA X [a] ta) (hs : starEach [a] X.env = [(false, eval a X.env)] := by rfl) : PE X (.Call (.Name "range" p) [a] [] pos) (tRng ta) := by
  intro pins s σ H Q I h
  refine Call_ (ld_blt I hg hm boot_range (PyProof.Rows.callWith_type1 (thn (ha pos pins s σ H _ I h) fun us s1 zz => ?_) hs rfl))
  obtain ⟨vs, H1, I1, r1, q1⟩ := zz
  obtain ⟨j, e, q⟩ := q1
  subst e
  obtain ⟨u, rfl, ru⟩ := vals1 r1
  obtain ⟨t, rfl⟩ := ru
  refine call_range_1 ⟨.ref s1.heap.objs.size, upd H1 s1.heap.objs.size (.rng 0 j), ?_, rfl, q _ (I1.hok.fresh (Nat.le_refl _))⟩
  exact I1.laid (fun b o e => Heap.get?_push_of_some _ e) (Nat.le_refl _) (show ObjOk X.prog X.w _ _ _ (.rng 0 j) from ⟨_, _, _, Heap.get?_push_size _ rfl⟩)
theorem vals_range : ∀ (us : List Value) (a : Nat), (∀ (j : Nat) (v : Value), us[j]? = some v → ∃ t, v = .int ((a + j : Nat) : Int) t) → Vals ((List.range us.length).map fun k => V.int ((a + k : Nat) : Int)) us
  | [], _, _ => .nil
  | u :: us, a, h => by
    rw [List.length_cons, List.range_succ_eq_map, List.map_cons, List.map_map]
    refine .cons (h 0 u rfl) ?_
    have ih := vals_range us (a + 1) fun j v hj => by
      obtain ⟨t, e⟩ := h (j + 1) v hj
      exact ⟨t, by rw [e]; congr 2; omega⟩
    have e : (List.range us.length).map (fun k => V.int ((a + 1 + k : Nat) : Int)) = (List.range us.length).map ((fun k => V.int ((a + k : Nat) : Int)) ∘ Nat.succ) := by
      apply List.map_congr_left
      intro k _
      show V.int _ = V.int _
      congr 2
      omega
    rw [← e]
    exact ih
theorem call_list_rng (hc : X.calm = true) : CallR X (.type "list") (fun xs H Q => ∃ (p : Addr) (n : Nat), xs = [.ref p] ∧ H p = some (.rng 0 n) ∧ n ≤ 2 ^ 20 ∧ ∀ l, H l = none → Q (.ref l) (upd H l (.lst ((List.range n).map fun (k : Nat) => V.int (k : Int))))) := by
  intro pins s σ H xs us Q I r h
  obtain ⟨p, n, rfl, hp, hn, q⟩ := h
  obtain ⟨u, rfl, rx⟩ := vals1 r
  cases rx
  obtain ⟨t, u, v, e⟩ : ∃ t u v, s.heap.get? p = some { cls := .type "range", data := .fields #[.int 0 t, .int (n : Int) u, .int 1 v] } := I.hok p _ hp
  refine call_list_range (I.ok.hd hc) (a := 0) (b := (n : Int)) (c := 1) (n := n) e (small_one (by omega) (by omega) (by omega) (by omega)) (by rw [rangeSize_one]; split <;> omega) (by omega) fun h' tk acc c' hk hD hI => ?_
  have hlen : acc.toList.length = n := by rw [Array.length_toList]; exact hI.1
  have hv : Vals ((List.range n).map fun (k : Nat) => V.int (k : Int)) acc.toList := by
    have := vals_range acc.toList 0 fun j v hj => by
      obtain ⟨t, e⟩ := hI.2 j v (by rw [← hj, Array.getElem?_toList])
      exact ⟨t, by rw [e]; congr 1; omega⟩
    rw [hlen] at this
    simpa using this
  refine ⟨.ref s.heap.objs.size, _, I.laid (t' := tk) hk (Nat.le_refl _) (show ObjOk X.prog X.w _ h' _ (.lst ((List.range n).map fun (k : Nat) => V.int (k : Int))) from ⟨?_, acc.toList, c', hv, by rw [Array.toArray_toList]; exact hD⟩), rfl, q _ (I.hok.fresh (Nat.le_refl _))⟩
  rw [List.length_map, List.length_range]
  exact Nat.le_trans hn (by rw [sizeLine_eq]; decide)
def tCallV (X : Cx) (i : Nat) (t : TA) : TE := fun σ H Q => ∃ f, σ[i]? = some (some (.ref f)) ∧ PySem.W.keepIn X.K (.ref f) = true ∧ t σ H fun vs H1 => ∃ (k : Nat) (fd : FuncData) (ps : List Str) (sp : Sp),
  FnOk X.prog X.w X.K X.mg X.base CX0 k f fd ps sp ∧ Room k X.A ∧ Binds X.K fd ps [] ∧ sp vs H1 Q E0
theorem pe_callV (i : Nat) {x : Str} {p pos : Pos} {e : Expr} {es : List Expr} {t : TA} (ha : PA X (e :: es) t) (hN : X.N[i]? = some x := by rfl) (hv : Vis X.env.scope x := by first | exact Or.inl rfl | exact Or.inr (Or.inl rfl) | exact Or.inr (Or.inr rfl))
    (hd : (x == ("__debug__" : Str)) = false := by decide) (hcd : (x == ("__classdict__" : Str)) = false := by decide)
    (he : starEach (e :: es) X.env = (false, eval e X.env) :: starEach es X.env := by rfl) (hpl : (backTo pos (starEach es X.env)).any (·.1) = false := by rfl) : PE X (.Call (.Name x p) (e :: es) [] pos) (tCallV X i t) := by
  intro pins s σ H Q I h
  obtain ⟨f, e0, hk, h⟩ := h
  refine wpAny_Call_Name_kw (thn (pe_var (pos := p) hN hv hd hcd pins s σ H (fun v H' => v = .ref f ∧ H' = H) I ⟨_, e0, rfl, rfl⟩) fun u s1 zz => ?_)
  obtain ⟨v, H1, I1, r1, ev, eH⟩ := zz
  subst ev eH
  obtain rfl : u = Value.ref f := r1
  refine PySem.W.callWith_K (h₀ := X.base) I.ok.mod.kin hk (thn (ha pos pins s1 σ _ _ I1 h) fun us s2 zz => PySem.ex5 zz fun vs H2 I2 r q => ⟨I2.kIn, ?_⟩) he hpl
  obtain ⟨k, fd, ps, sp, F, hr, hb, q⟩ := q
  exact run_fn (dvs := []) F hr hb .nil pass0 I2 r (by rw [List.append_nil]; exact q)
def DictK (K : PySem.W.Frag) (d : Addr) (es : Array DictEntry) : Prop := ∃ ep, K.lookup d = some ⟨.type "dict", none, .dict es ep, #[]⟩ ∧ ∀ e ∈ es.toList, ∃ (i : Int) (t : Tok), e.key = .int i t ∧ e.hash = hashInt i
def tDGetK (d : Addr) (es : Array DictEntry) (td ty : TE) : TE := fun σ H Q => td σ H fun x H1 => ty σ H1 fun y H2 => ∃ (k : Int) (v : V) (u : Value), x = .ref d ∧ y = .int k ∧ findBy Value.isInt es k = some u ∧ RelV v u ∧ Q v H2
theorem pe_dgetK {d : Addr} {es : Array DictEntry} {o i : Expr} {td ty : TE} {pos : Pos} (hk : DictK X.K d es) (ho : PE X o td) (hi : PE X i ty) (hs : NoSl i := by intro _ _; rfl) : PE X (.Subscript o i pos) (tDGetK d es td ty) := by
  intro pins s σ H Q I h
  refine subD_of PySem.F.slot_dict_getitem.lookup hs (thn (ho pins s σ H _ I h) fun u s1 zz => PySem.ex5 zz fun x H1 I1 rx q1 => thn (hi pins s1 σ H1 _ I1 q1) fun iv s2 zz => ?_)
  obtain ⟨y, H2, I2, ry, k, v, u2, ex, ey, g, rv, q2⟩ := zz
  subst ex ey
  obtain rfl : u = Value.ref d := rx
  obtain ⟨t, rfl⟩ := ry
  obtain ⟨ep, lk, hes⟩ := hk
  have mo : s2.heap.MapOf (intKind X.prog X.w) d (findBy Value.isInt es) := ⟨_, es, ep, I2.kIn _ _ lk, ⟨rfl, rfl, rfl⟩, rfl, fun e he => by
    obtain ⟨i, t, h1, h2⟩ := hes e (by simpa using he)
    exact ⟨i, by rw [h1]; show Value.isInt i (.int i t) = true; simp [Value.isInt], h2⟩, fun _ => rfl⟩
  exact ⟨mo.typeIs, wpAny_getItem_of (knd := intKind X.prog X.w) (k := k) (by show Value.isInt k (.int k t) = true; simp [Value.isInt]) mo g ⟨v, H2, I2.tok _, rv, q2⟩⟩
end
theorem bor_nat (a b : Nat) : Builtin.bitOr (a : Int) (b : Int) = ((a ||| b : Nat) : Int) := by
  rw [Bits.bitOr_pp (by omega) (by omega)]; simp
theorem band_nat (a b : Nat) : Builtin.bitAnd (a : Int) (b : Int) = ((a &&& b : Nat) : Int) := by
  rw [bitAnd_pp (by omega) (by omega)]; simp
theorem shl_nat (a b : Nat) : (a : Int) * 2 ^ ((b : Int).toNat) = ((a * 2 ^ b : Nat) : Int) := by
  rw [Int.toNat_natCast, Bits.natCast_mul_pow]
theorem shr_nat (a b : Nat) : (a : Int) / 2 ^ ((b : Int).toNat) = ((a >>> b : Nat) : Int) := by
  rw [Int.toNat_natCast, Nat.shiftRight_eq_div_pow]
  have : ((2 : Int) ^ b) = ((2 ^ b : Nat) : Int) := by simp
  rw [this]; omega
end Lr
end
section
set_option Elab.async false
set_option linter.all false
set_option maxRecDepth 100000
set_option maxHeartbeats 4000000
set_option genInjectivity false
set_option genSizeOf false
namespace Lr
theorem us_nil {P : List PySem.Value → Prop} (h : P []) (us : List PySem.Value) (hl : us.length = 0) : P us := by
  cases us with
  | nil => exact h
  | cons a r => cases hl
theorem us_cons {n : Nat} {P : List PySem.Value → Prop} (h : ∀ a r, r.length = n → P (a :: r)) (us : List PySem.Value) (hl : us.length = n + 1) : P us := by
  cases us with
  | nil => cases hl
  | cons a r => exact h a r (Nat.succ.inj hl)
theorem us_len1 {P : List PySem.Value → Prop} (h : ∀ a, P [a]) : ∀ us : List PySem.Value, us.length = 1 → P us := us_cons fun a => us_nil (P := fun r => P (a :: r)) (h a)
theorem us_len2 {P : List PySem.Value → Prop} (h : ∀ a b, P [a, b]) : ∀ us : List PySem.Value, us.length = 2 → P us := us_cons fun a => us_len1 (P := fun r => P (a :: r)) (h a)
theorem us_len3 {P : List PySem.Value → Prop} (h : ∀ a b c, P [a, b, c]) : ∀ us : List PySem.Value, us.length = 3 → P us := us_cons fun a => us_len2 (P := fun r => P (a :: r)) (h a)
theorem us_len4 {P : List PySem.Value → Prop} (h : ∀ a b c d, P [a, b, c, d]) : ∀ us : List PySem.Value, us.length = 4 → P us := us_cons fun a => us_len3 (P := fun r => P (a :: r)) (h a)
theorem us_len5 {P : List PySem.Value → Prop} (h : ∀ a b c d e, P [a, b, c, d, e]) : ∀ us : List PySem.Value, us.length = 5 → P us := us_cons fun a => us_len4 (P := fun r => P (a :: r)) (h a)
end Lr
namespace Lr
open PySem PySem.Spec PyProof.Rows L2
def top (i : Nat) : Stmt := PySem.Challenge.pw_landreserves_s01_answers.main.body.getD i (.Pass ⟨0, 0, 0, 0⟩)
abbrev s_Reader_init : Stmt := inClass (top 18) 0
abbrev s_Reader_has_more : Stmt := inClass (top 18) 1
abbrev s_Reader_take_number : Stmt := inClass (top 18) 2
abbrev s_Reader_take_numbers : Stmt := inClass (top 18) 3
abbrev s_Reader_take_list : Stmt := inClass (top 18) 4
abbrev s_Reserve_init : Stmt := inClass (top 19) 0
abbrev s_Reserve_has_land : Stmt := inClass (top 19) 1
abbrev s_Reserve_hold_land : Stmt := inClass (top 19) 2
abbrev s_set_of : Stmt := top 20
abbrev s_cells_of : Stmt := top 21
abbrev s_neighbours : Stmt := top 22
abbrev s_first_piece : Stmt := top 23
abbrev s_count_pieces : Stmt := top 24
abbrev s_sets_in_one_piece : Stmt := top 25
abbrev s_asked_sets : Stmt := top 26
abbrev s_holders : Stmt := top 27
abbrev s_sum_over : Stmt := top 28
abbrev s_sums_over_all : Stmt := top 29
abbrev s_fits_without : Stmt := top 30
abbrev s_fitting_sets : Stmt := top 31
abbrev s_first_cheapest : Stmt := top 32
abbrev s_price_and_cells : Stmt := top 33
abbrev s_least_way : Stmt := top 34
abbrev s_is_proof : Stmt := top 35
abbrev s_bound_of : Stmt := top 36
abbrev s_kept_kinds : Stmt := top 37
abbrev s_all_within : Stmt := top 38
abbrev s_is_list_of : Stmt := top 39
abbrev s_is_told_set : Stmt := top 40
abbrev s_call_land : Stmt := top 41
abbrev s_call_told : Stmt := top 42
abbrev s_call_need : Stmt := top 43
abbrev s_call_fits : Stmt := top 44
abbrev s_call_price : Stmt := top 45
abbrev s_call_pieces : Stmt := top 46
abbrev s_call_best : Stmt := top 47
abbrev s_call_number : Stmt := top 48
abbrev s_call_must : Stmt := top 49
abbrev s_call_corridor : Stmt := top 50
abbrev s_call_way : Stmt := top 51
abbrev s_call_bound : Stmt := top 52
abbrev s_call_hardy : Stmt := top 53
abbrev s_call_most : Stmt := top 54
abbrev s_answer_next : Stmt := top 56
abbrev s_answers : Stmt := top 57
structure Ad where
  f_Reader_init : Addr
  fd_Reader_init : FuncData
  f_Reader_has_more : Addr
  fd_Reader_has_more : FuncData
  f_Reader_take_number : Addr
  fd_Reader_take_number : FuncData
  f_Reader_take_numbers : Addr
  fd_Reader_take_numbers : FuncData
  f_Reader_take_list : Addr
  fd_Reader_take_list : FuncData
  f_Reserve_init : Addr
  fd_Reserve_init : FuncData
  f_Reserve_has_land : Addr
  fd_Reserve_has_land : FuncData
  f_Reserve_hold_land : Addr
  fd_Reserve_hold_land : FuncData
  f_set_of : Addr
  fd_set_of : FuncData
  f_cells_of : Addr
  fd_cells_of : FuncData
  f_neighbours : Addr
  fd_neighbours : FuncData
  f_first_piece : Addr
  fd_first_piece : FuncData
  f_count_pieces : Addr
  fd_count_pieces : FuncData
  f_sets_in_one_piece : Addr
  fd_sets_in_one_piece : FuncData
  f_asked_sets : Addr
  fd_asked_sets : FuncData
  f_holders : Addr
  fd_holders : FuncData
  f_sum_over : Addr
  fd_sum_over : FuncData
  f_sums_over_all : Addr
  fd_sums_over_all : FuncData
  f_fits_without : Addr
  fd_fits_without : FuncData
  f_fitting_sets : Addr
  fd_fitting_sets : FuncData
  f_first_cheapest : Addr
  fd_first_cheapest : FuncData
  f_price_and_cells : Addr
  fd_price_and_cells : FuncData
  f_least_way : Addr
  fd_least_way : FuncData
  f_is_proof : Addr
  fd_is_proof : FuncData
  f_bound_of : Addr
  fd_bound_of : FuncData
  f_kept_kinds : Addr
  fd_kept_kinds : FuncData
  f_all_within : Addr
  fd_all_within : FuncData
  f_is_list_of : Addr
  fd_is_list_of : FuncData
  f_is_told_set : Addr
  fd_is_told_set : FuncData
  f_call_land : Addr
  fd_call_land : FuncData
  f_call_told : Addr
  fd_call_told : FuncData
  f_call_need : Addr
  fd_call_need : FuncData
  f_call_fits : Addr
  fd_call_fits : FuncData
  f_call_price : Addr
  fd_call_price : FuncData
  f_call_pieces : Addr
  fd_call_pieces : FuncData
  f_call_best : Addr
  fd_call_best : FuncData
  f_call_number : Addr
  fd_call_number : FuncData
  f_call_must : Addr
  fd_call_must : FuncData
  f_call_corridor : Addr
  fd_call_corridor : FuncData
  f_call_way : Addr
  fd_call_way : FuncData
  f_call_bound : Addr
  fd_call_bound : FuncData
  f_call_hardy : Addr
  fd_call_hardy : FuncData
  f_call_most : Addr
  fd_call_most : FuncData
  f_answer_next : Addr
  fd_answer_next : FuncData
  f_answers : Addr
  fd_answers : FuncData
  c_Reader : Addr
  c_Reserve : Addr
  t_KINDS : Tok
  t_MOST_SIDE : Tok
  t_MOST_CELLS : Tok
  t_MOST_PRICE : Tok
  t_MOST_HELD : Tok
  t_MOST_NEED : Tok
  t_MOST_TOLD : Tok
  t_MOST_DIVISOR : Tok
  t_MOST_WORTH : Tok
  t_MOST_REBATE : Tok
  t_MOST_LOST : Tok
  t_MOST_SPENT : Tok
  t_LAND : Tok
  t_NO_LAND : Tok
  t_NUMBER_OUT : Tok
  t_LIST_OUT : Tok
  t_NONE_FITS : Tok
  d_CALLS : Addr
  e_CALLS : Array DictEntry
  tt_CALLS_0 : Addr
  tt_CALLS_1 : Addr
  tt_CALLS_2 : Addr
  tt_CALLS_3 : Addr
  tt_CALLS_4 : Addr
  tt_CALLS_5 : Addr
  tt_CALLS_6 : Addr
  tt_CALLS_7 : Addr
  tt_CALLS_8 : Addr
  tt_CALLS_9 : Addr
  tt_CALLS_10 : Addr
  tt_CALLS_11 : Addr
  tt_CALLS_12 : Addr
  tt_CALLS_13 : Addr
structure Txt (K : PySem.W.Frag) (mg : Str → Option Value) (A : Ad) : Prop where
  fn_Reader_init : Fun K "__init__" "Reader.__init__" s_Reader_init A.f_Reader_init A.fd_Reader_init
  bd_Reader_init : Binds K A.fd_Reader_init ["self", "line"] []
  fn_Reader_has_more : Fun K "has_more" "Reader.has_more" s_Reader_has_more A.f_Reader_has_more A.fd_Reader_has_more
  bd_Reader_has_more : Binds K A.fd_Reader_has_more ["self"] []
  me_Reader_has_more : Meth K A.c_Reader "has_more" A.f_Reader_has_more
  fn_Reader_take_number : Fun K "take_number" "Reader.take_number" s_Reader_take_number A.f_Reader_take_number A.fd_Reader_take_number
  bd_Reader_take_number : Binds K A.fd_Reader_take_number ["self"] []
  me_Reader_take_number : Meth K A.c_Reader "take_number" A.f_Reader_take_number
  fn_Reader_take_numbers : Fun K "take_numbers" "Reader.take_numbers" s_Reader_take_numbers A.f_Reader_take_numbers A.fd_Reader_take_numbers
  bd_Reader_take_numbers : Binds K A.fd_Reader_take_numbers ["self", "many"] []
  me_Reader_take_numbers : Meth K A.c_Reader "take_numbers" A.f_Reader_take_numbers
  fn_Reader_take_list : Fun K "take_list" "Reader.take_list" s_Reader_take_list A.f_Reader_take_list A.fd_Reader_take_list
  bd_Reader_take_list : Binds K A.fd_Reader_take_list ["self"] []
  me_Reader_take_list : Meth K A.c_Reader "take_list" A.f_Reader_take_list
  fn_Reserve_init : Fun K "__init__" "Reserve.__init__" s_Reserve_init A.f_Reserve_init A.fd_Reserve_init
  bd_Reserve_init : Binds K A.fd_Reserve_init ["self"] []
  fn_Reserve_has_land : Fun K "has_land" "Reserve.has_land" s_Reserve_has_land A.f_Reserve_has_land A.fd_Reserve_has_land
  bd_Reserve_has_land : Binds K A.fd_Reserve_has_land ["self"] []
  me_Reserve_has_land : Meth K A.c_Reserve "has_land" A.f_Reserve_has_land
  fn_Reserve_hold_land : Fun K "hold_land" "Reserve.hold_land" s_Reserve_hold_land A.f_Reserve_hold_land A.fd_Reserve_hold_land
  bd_Reserve_hold_land : Binds K A.fd_Reserve_hold_land ["self", "width", "height", "prices", "kinds"] []
  me_Reserve_hold_land : Meth K A.c_Reserve "hold_land" A.f_Reserve_hold_land
  fn_set_of : Fun K "set_of" "set_of" s_set_of A.f_set_of A.fd_set_of
  bd_set_of : Binds K A.fd_set_of ["cells"] []
  kp_set_of : PySem.W.keepIn K (.ref A.f_set_of) = true
  m_set_of : mg "set_of" = some (.ref A.f_set_of)
  fn_cells_of : Fun K "cells_of" "cells_of" s_cells_of A.f_cells_of A.fd_cells_of
  bd_cells_of : Binds K A.fd_cells_of ["members"] []
  kp_cells_of : PySem.W.keepIn K (.ref A.f_cells_of) = true
  m_cells_of : mg "cells_of" = some (.ref A.f_cells_of)
  fn_neighbours : Fun K "neighbours" "neighbours" s_neighbours A.f_neighbours A.fd_neighbours
  bd_neighbours : Binds K A.fd_neighbours ["width", "height", "cell"] []
  kp_neighbours : PySem.W.keepIn K (.ref A.f_neighbours) = true
  m_neighbours : mg "neighbours" = some (.ref A.f_neighbours)
  fn_first_piece : Fun K "first_piece" "first_piece" s_first_piece A.f_first_piece A.fd_first_piece
  bd_first_piece : Binds K A.fd_first_piece ["beside", "members"] []
  kp_first_piece : PySem.W.keepIn K (.ref A.f_first_piece) = true
  m_first_piece : mg "first_piece" = some (.ref A.f_first_piece)
  fn_count_pieces : Fun K "count_pieces" "count_pieces" s_count_pieces A.f_count_pieces A.fd_count_pieces
  bd_count_pieces : Binds K A.fd_count_pieces ["beside", "members"] []
  kp_count_pieces : PySem.W.keepIn K (.ref A.f_count_pieces) = true
  m_count_pieces : mg "count_pieces" = some (.ref A.f_count_pieces)
  fn_sets_in_one_piece : Fun K "sets_in_one_piece" "sets_in_one_piece" s_sets_in_one_piece A.f_sets_in_one_piece A.fd_sets_in_one_piece
  bd_sets_in_one_piece : Binds K A.fd_sets_in_one_piece ["beside"] []
  kp_sets_in_one_piece : PySem.W.keepIn K (.ref A.f_sets_in_one_piece) = true
  m_sets_in_one_piece : mg "sets_in_one_piece" = some (.ref A.f_sets_in_one_piece)
  fn_asked_sets : Fun K "asked_sets" "asked_sets" s_asked_sets A.f_asked_sets A.fd_asked_sets
  bd_asked_sets : Binds K A.fd_asked_sets ["reserve", "one"] []
  kp_asked_sets : PySem.W.keepIn K (.ref A.f_asked_sets) = true
  m_asked_sets : mg "asked_sets" = some (.ref A.f_asked_sets)
  fn_holders : Fun K "holders" "holders" s_holders A.f_holders A.fd_holders
  bd_holders : Binds K A.fd_holders ["kinds", "kind"] []
  kp_holders : PySem.W.keepIn K (.ref A.f_holders) = true
  m_holders : mg "holders" = some (.ref A.f_holders)
  fn_sum_over : Fun K "sum_over" "sum_over" s_sum_over A.f_sum_over A.fd_sum_over
  bd_sum_over : Binds K A.fd_sum_over ["worths", "members"] []
  kp_sum_over : PySem.W.keepIn K (.ref A.f_sum_over) = true
  m_sum_over : mg "sum_over" = some (.ref A.f_sum_over)
  fn_sums_over_all : Fun K "sums_over_all" "sums_over_all" s_sums_over_all A.f_sums_over_all A.fd_sums_over_all
  bd_sums_over_all : Binds K A.fd_sums_over_all ["worths"] []
  kp_sums_over_all : PySem.W.keepIn K (.ref A.f_sums_over_all) = true
  m_sums_over_all : mg "sums_over_all" = some (.ref A.f_sums_over_all)
  fn_fits_without : Fun K "fits_without" "fits_without" s_fits_without A.f_fits_without A.fd_fits_without
  bd_fits_without : Binds K A.fd_fits_without ["reserve", "lost", "members"] []
  kp_fits_without : PySem.W.keepIn K (.ref A.f_fits_without) = true
  m_fits_without : mg "fits_without" = some (.ref A.f_fits_without)
  fn_fitting_sets : Fun K "fitting_sets" "fitting_sets" s_fitting_sets A.f_fitting_sets A.fd_fitting_sets
  bd_fitting_sets : Binds K A.fd_fitting_sets ["reserve", "one"] []
  kp_fitting_sets : PySem.W.keepIn K (.ref A.f_fitting_sets) = true
  m_fitting_sets : mg "fitting_sets" = some (.ref A.f_fitting_sets)
  fn_first_cheapest : Fun K "first_cheapest" "first_cheapest" s_first_cheapest A.f_first_cheapest A.fd_first_cheapest
  bd_first_cheapest : Binds K A.fd_first_cheapest ["reserve", "sets"] []
  kp_first_cheapest : PySem.W.keepIn K (.ref A.f_first_cheapest) = true
  m_first_cheapest : mg "first_cheapest" = some (.ref A.f_first_cheapest)
  fn_price_and_cells : Fun K "price_and_cells" "price_and_cells" s_price_and_cells A.f_price_and_cells A.fd_price_and_cells
  bd_price_and_cells : Binds K A.fd_price_and_cells ["reserve", "members"] []
  kp_price_and_cells : PySem.W.keepIn K (.ref A.f_price_and_cells) = true
  m_price_and_cells : mg "price_and_cells" = some (.ref A.f_price_and_cells)
  fn_least_way : Fun K "least_way" "least_way" s_least_way A.f_least_way A.fd_least_way
  bd_least_way : Binds K A.fd_least_way ["reserve", "begin", "end"] []
  kp_least_way : PySem.W.keepIn K (.ref A.f_least_way) = true
  m_least_way : mg "least_way" = some (.ref A.f_least_way)
  fn_is_proof : Fun K "is_proof" "is_proof" s_is_proof A.f_is_proof A.fd_is_proof
  bd_is_proof : Binds K A.fd_is_proof ["reserve", "divisor", "worths", "rebates"] []
  kp_is_proof : PySem.W.keepIn K (.ref A.f_is_proof) = true
  m_is_proof : mg "is_proof" = some (.ref A.f_is_proof)
  fn_bound_of : Fun K "bound_of" "bound_of" s_bound_of A.f_bound_of A.fd_bound_of
  bd_bound_of : Binds K A.fd_bound_of ["reserve", "divisor", "worths", "rebates"] []
  kp_bound_of : PySem.W.keepIn K (.ref A.f_bound_of) = true
  m_bound_of : mg "bound_of" = some (.ref A.f_bound_of)
  fn_kept_kinds : Fun K "kept_kinds" "kept_kinds" s_kept_kinds A.f_kept_kinds A.fd_kept_kinds
  bd_kept_kinds : Binds K A.fd_kept_kinds ["reserve", "sets"] []
  kp_kept_kinds : PySem.W.keepIn K (.ref A.f_kept_kinds) = true
  m_kept_kinds : mg "kept_kinds" = some (.ref A.f_kept_kinds)
  fn_all_within : Fun K "all_within" "all_within" s_all_within A.f_all_within A.fd_all_within
  bd_all_within : Binds K A.fd_all_within ["numbers", "least", "most"] []
  kp_all_within : PySem.W.keepIn K (.ref A.f_all_within) = true
  m_all_within : mg "all_within" = some (.ref A.f_all_within)
  fn_is_list_of : Fun K "is_list_of" "is_list_of" s_is_list_of A.f_is_list_of A.fd_is_list_of
  bd_is_list_of : Binds K A.fd_is_list_of ["numbers", "length", "most"] []
  kp_is_list_of : PySem.W.keepIn K (.ref A.f_is_list_of) = true
  m_is_list_of : mg "is_list_of" = some (.ref A.f_is_list_of)
  fn_is_told_set : Fun K "is_told_set" "is_told_set" s_is_told_set A.f_is_told_set A.fd_is_told_set
  bd_is_told_set : Binds K A.fd_is_told_set ["reserve", "cells"] []
  kp_is_told_set : PySem.W.keepIn K (.ref A.f_is_told_set) = true
  m_is_told_set : mg "is_told_set" = some (.ref A.f_is_told_set)
  fn_call_land : Fun K "call_land" "call_land" s_call_land A.f_call_land A.fd_call_land
  bd_call_land : Binds K A.fd_call_land ["reserve", "numbers", "lists"] []
  kp_call_land : PySem.W.keepIn K (.ref A.f_call_land) = true
  fn_call_told : Fun K "call_told" "call_told" s_call_told A.f_call_told A.fd_call_told
  bd_call_told : Binds K A.fd_call_told ["reserve", "numbers", "lists"] []
  kp_call_told : PySem.W.keepIn K (.ref A.f_call_told) = true
  fn_call_need : Fun K "call_need" "call_need" s_call_need A.f_call_need A.fd_call_need
  bd_call_need : Binds K A.fd_call_need ["reserve", "numbers", "lists"] []
  kp_call_need : PySem.W.keepIn K (.ref A.f_call_need) = true
  fn_call_fits : Fun K "call_fits" "call_fits" s_call_fits A.f_call_fits A.fd_call_fits
  bd_call_fits : Binds K A.fd_call_fits ["reserve", "numbers", "lists"] []
  kp_call_fits : PySem.W.keepIn K (.ref A.f_call_fits) = true
  fn_call_price : Fun K "call_price" "call_price" s_call_price A.f_call_price A.fd_call_price
  bd_call_price : Binds K A.fd_call_price ["reserve", "numbers", "lists"] []
  kp_call_price : PySem.W.keepIn K (.ref A.f_call_price) = true
  fn_call_pieces : Fun K "call_pieces" "call_pieces" s_call_pieces A.f_call_pieces A.fd_call_pieces
  bd_call_pieces : Binds K A.fd_call_pieces ["reserve", "numbers", "lists"] []
  kp_call_pieces : PySem.W.keepIn K (.ref A.f_call_pieces) = true
  fn_call_best : Fun K "call_best" "call_best" s_call_best A.f_call_best A.fd_call_best
  bd_call_best : Binds K A.fd_call_best ["reserve", "numbers", "lists"] []
  kp_call_best : PySem.W.keepIn K (.ref A.f_call_best) = true
  fn_call_number : Fun K "call_number" "call_number" s_call_number A.f_call_number A.fd_call_number
  bd_call_number : Binds K A.fd_call_number ["reserve", "numbers", "lists"] []
  kp_call_number : PySem.W.keepIn K (.ref A.f_call_number) = true
  fn_call_must : Fun K "call_must" "call_must" s_call_must A.f_call_must A.fd_call_must
  bd_call_must : Binds K A.fd_call_must ["reserve", "numbers", "lists"] []
  kp_call_must : PySem.W.keepIn K (.ref A.f_call_must) = true
  fn_call_corridor : Fun K "call_corridor" "call_corridor" s_call_corridor A.f_call_corridor A.fd_call_corridor
  bd_call_corridor : Binds K A.fd_call_corridor ["reserve", "numbers", "lists"] []
  kp_call_corridor : PySem.W.keepIn K (.ref A.f_call_corridor) = true
  fn_call_way : Fun K "call_way" "call_way" s_call_way A.f_call_way A.fd_call_way
  bd_call_way : Binds K A.fd_call_way ["reserve", "numbers", "lists"] []
  kp_call_way : PySem.W.keepIn K (.ref A.f_call_way) = true
  fn_call_bound : Fun K "call_bound" "call_bound" s_call_bound A.f_call_bound A.fd_call_bound
  bd_call_bound : Binds K A.fd_call_bound ["reserve", "numbers", "lists"] []
  kp_call_bound : PySem.W.keepIn K (.ref A.f_call_bound) = true
  fn_call_hardy : Fun K "call_hardy" "call_hardy" s_call_hardy A.f_call_hardy A.fd_call_hardy
  bd_call_hardy : Binds K A.fd_call_hardy ["reserve", "numbers", "lists"] []
  kp_call_hardy : PySem.W.keepIn K (.ref A.f_call_hardy) = true
  fn_call_most : Fun K "call_most" "call_most" s_call_most A.f_call_most A.fd_call_most
  bd_call_most : Binds K A.fd_call_most ["reserve", "numbers", "lists"] []
  kp_call_most : PySem.W.keepIn K (.ref A.f_call_most) = true
  fn_answer_next : Fun K "answer_next" "answer_next" s_answer_next A.f_answer_next A.fd_answer_next
  bd_answer_next : Binds K A.fd_answer_next ["reserve", "reader"] []
  kp_answer_next : PySem.W.keepIn K (.ref A.f_answer_next) = true
  m_answer_next : mg "answer_next" = some (.ref A.f_answer_next)
  fn_answers : Fun K "answers" "answers" s_answers A.f_answers A.fd_answers
  m_answers : mg "answers" = some (.ref A.f_answers)
  ba_answers : ∀ (s : Shared) (us : List Value), us.length = (["calls"] : List Str).length → BindsTo s A.fd_answers ⟨us, []⟩ ((["calls"] : List Str).zip us)
  m_Reader : mg "Reader" = some (.ref A.c_Reader)
  cl_Reader : Cls K A.c_Reader
  mk_Reader : Mk K A.c_Reader A.f_Reader_init
  na_Reader_line : NoAttr K A.c_Reader "line"
  na_Reader_place : NoAttr K A.c_Reader "place"
  m_Reserve : mg "Reserve" = some (.ref A.c_Reserve)
  cl_Reserve : Cls K A.c_Reserve
  mk_Reserve : Mk K A.c_Reserve A.f_Reserve_init
  na_Reserve_width : NoAttr K A.c_Reserve "width"
  na_Reserve_height : NoAttr K A.c_Reserve "height"
  na_Reserve_prices : NoAttr K A.c_Reserve "prices"
  na_Reserve_kinds : NoAttr K A.c_Reserve "kinds"
  na_Reserve_beside : NoAttr K A.c_Reserve "beside"
  na_Reserve_needs : NoAttr K A.c_Reserve "needs"
  g_KINDS : mg "KINDS" = some (.int (8) A.t_KINDS)
  g_MOST_SIDE : mg "MOST_SIDE" = some (.int (12) A.t_MOST_SIDE)
  g_MOST_CELLS : mg "MOST_CELLS" = some (.int (12) A.t_MOST_CELLS)
  g_MOST_PRICE : mg "MOST_PRICE" = some (.int (1000) A.t_MOST_PRICE)
  g_MOST_HELD : mg "MOST_HELD" = some (.int (255) A.t_MOST_HELD)
  g_MOST_NEED : mg "MOST_NEED" = some (.int (12) A.t_MOST_NEED)
  g_MOST_TOLD : mg "MOST_TOLD" = some (.int (24) A.t_MOST_TOLD)
  g_MOST_DIVISOR : mg "MOST_DIVISOR" = some (.int (1000) A.t_MOST_DIVISOR)
  g_MOST_WORTH : mg "MOST_WORTH" = some (.int (1000000) A.t_MOST_WORTH)
  g_MOST_REBATE : mg "MOST_REBATE" = some (.int (10000000) A.t_MOST_REBATE)
  g_MOST_LOST : mg "MOST_LOST" = some (.int (12) A.t_MOST_LOST)
  g_MOST_SPENT : mg "MOST_SPENT" = some (.int (12000) A.t_MOST_SPENT)
  g_LAND : mg "LAND" = some (.int (0) A.t_LAND)
  g_NO_LAND : mg "NO_LAND" = some (.int (-1) A.t_NO_LAND)
  g_NUMBER_OUT : mg "NUMBER_OUT" = some (.int (-3) A.t_NUMBER_OUT)
  g_LIST_OUT : mg "LIST_OUT" = some (.int (-4) A.t_LIST_OUT)
  g_NONE_FITS : mg "NONE_FITS" = some (.int (-6) A.t_NONE_FITS)
  b_all : mg "all" = none
  b_enumerate : mg "enumerate" = none
  b_len : mg "len" = none
  b_list : mg "list" = none
  b_max : mg "max" = none
  b_min : mg "min" = none
  b_range : mg "range" = none
  b_sum : mg "sum" = none
  b_zip : mg "zip" = none
  d_CALLS : mg "CALLS" = some (.ref A.d_CALLS)
  k_CALLS : DictK K A.d_CALLS A.e_CALLS
  v_CALLS_0 : findBy Value.isInt A.e_CALLS 0 = some (.ref A.tt_CALLS_0)
  u_CALLS_0 : ∀ H : Hp, SqT K H A.tt_CALLS_0 [.int 2, .int 2, .ref A.f_call_land]
  v_CALLS_1 : findBy Value.isInt A.e_CALLS 1 = some (.ref A.tt_CALLS_1)
  u_CALLS_1 : ∀ H : Hp, SqT K H A.tt_CALLS_1 [.int 0, .int 0, .ref A.f_call_told]
  v_CALLS_2 : findBy Value.isInt A.e_CALLS 2 = some (.ref A.tt_CALLS_2)
  u_CALLS_2 : ∀ H : Hp, SqT K H A.tt_CALLS_2 [.int 0, .int 1, .ref A.f_call_need]
  v_CALLS_3 : findBy Value.isInt A.e_CALLS 3 = some (.ref A.tt_CALLS_3)
  u_CALLS_3 : ∀ H : Hp, SqT K H A.tt_CALLS_3 [.int 0, .int 1, .ref A.f_call_fits]
  v_CALLS_4 : findBy Value.isInt A.e_CALLS 4 = some (.ref A.tt_CALLS_4)
  u_CALLS_4 : ∀ H : Hp, SqT K H A.tt_CALLS_4 [.int 0, .int 1, .ref A.f_call_price]
  v_CALLS_5 : findBy Value.isInt A.e_CALLS 5 = some (.ref A.tt_CALLS_5)
  u_CALLS_5 : ∀ H : Hp, SqT K H A.tt_CALLS_5 [.int 0, .int 1, .ref A.f_call_pieces]
  v_CALLS_6 : findBy Value.isInt A.e_CALLS 6 = some (.ref A.tt_CALLS_6)
  u_CALLS_6 : ∀ H : Hp, SqT K H A.tt_CALLS_6 [.int 1, .int 0, .ref A.f_call_best]
  v_CALLS_7 : findBy Value.isInt A.e_CALLS 7 = some (.ref A.tt_CALLS_7)
  u_CALLS_7 : ∀ H : Hp, SqT K H A.tt_CALLS_7 [.int 1, .int 0, .ref A.f_call_number]
  v_CALLS_8 : findBy Value.isInt A.e_CALLS 8 = some (.ref A.tt_CALLS_8)
  u_CALLS_8 : ∀ H : Hp, SqT K H A.tt_CALLS_8 [.int 0, .int 0, .ref A.f_call_must]
  v_CALLS_9 : findBy Value.isInt A.e_CALLS 9 = some (.ref A.tt_CALLS_9)
  u_CALLS_9 : ∀ H : Hp, SqT K H A.tt_CALLS_9 [.int 0, .int 1, .ref A.f_call_corridor]
  v_CALLS_10 : findBy Value.isInt A.e_CALLS 10 = some (.ref A.tt_CALLS_10)
  u_CALLS_10 : ∀ H : Hp, SqT K H A.tt_CALLS_10 [.int 2, .int 0, .ref A.f_call_way]
  v_CALLS_11 : findBy Value.isInt A.e_CALLS 11 = some (.ref A.tt_CALLS_11)
  u_CALLS_11 : ∀ H : Hp, SqT K H A.tt_CALLS_11 [.int 1, .int 2, .ref A.f_call_bound]
  v_CALLS_12 : findBy Value.isInt A.e_CALLS 12 = some (.ref A.tt_CALLS_12)
  u_CALLS_12 : ∀ H : Hp, SqT K H A.tt_CALLS_12 [.int 1, .int 1, .ref A.f_call_hardy]
  v_CALLS_13 : findBy Value.isInt A.e_CALLS 13 = some (.ref A.tt_CALLS_13)
  u_CALLS_13 : ∀ H : Hp, SqT K H A.tt_CALLS_13 [.int 2, .int 0, .ref A.f_call_most]
theorem sc_Reader_init : FnScope ["self", "line"] ["self", "line"] (defScope s_Reader_init) := ⟨rfl, rfl, rfl, by decide +kernel, rfl, by decide +kernel, by decide +kernel⟩
theorem sc_Reader_has_more : FnScope ["self"] ["self"] (defScope s_Reader_has_more) := ⟨rfl, rfl, rfl, by decide +kernel, rfl, by decide +kernel, by decide +kernel⟩
theorem sc_Reader_take_number : FnScope ["self", "number"] ["self"] (defScope s_Reader_take_number) := ⟨rfl, rfl, rfl, by decide +kernel, rfl, by decide +kernel, by decide +kernel⟩
theorem sc_Reader_take_numbers : FnScope ["self", "many", "begin"] ["self", "many"] (defScope s_Reader_take_numbers) := ⟨rfl, rfl, rfl, by decide +kernel, rfl, by decide +kernel, by decide +kernel⟩
theorem sc_Reader_take_list : FnScope ["self"] ["self"] (defScope s_Reader_take_list) := ⟨rfl, rfl, rfl, by decide +kernel, rfl, by decide +kernel, by decide +kernel⟩
theorem sc_Reserve_init : FnScope ["self"] ["self"] (defScope s_Reserve_init) := ⟨rfl, rfl, rfl, by decide +kernel, rfl, by decide +kernel, by decide +kernel⟩
theorem sc_Reserve_has_land : FnScope ["self"] ["self"] (defScope s_Reserve_has_land) := ⟨rfl, rfl, rfl, by decide +kernel, rfl, by decide +kernel, by decide +kernel⟩
theorem sc_Reserve_hold_land : FnScope ["self", "width", "height", "prices", "kinds", "cell"] ["self", "width", "height", "prices", "kinds"] (defScope s_Reserve_hold_land) := ⟨rfl, rfl, rfl, by decide +kernel, rfl, by decide +kernel, by decide +kernel⟩
theorem sc_set_of : FnScope ["cells", "members", "cell"] ["cells"] (defScope s_set_of) := ⟨rfl, rfl, rfl, by decide +kernel, rfl, by decide +kernel, by decide +kernel⟩
theorem sc_cells_of : FnScope ["members", "cell"] ["members"] (defScope s_cells_of) := ⟨rfl, rfl, rfl, by decide +kernel, rfl, by decide +kernel, by decide +kernel⟩
theorem sc_neighbours : FnScope ["width", "height", "cell", "near"] ["width", "height", "cell"] (defScope s_neighbours) := ⟨rfl, rfl, rfl, by decide +kernel, rfl, by decide +kernel, by decide +kernel⟩
theorem sc_first_piece : FnScope ["beside", "members", "cells", "piece", "grows", "before", "cell"] ["beside", "members"] (defScope s_first_piece) := ⟨rfl, rfl, rfl, by decide +kernel, rfl, by decide +kernel, by decide +kernel⟩
theorem sc_count_pieces : FnScope ["beside", "members", "many", "left"] ["beside", "members"] (defScope s_count_pieces) := ⟨rfl, rfl, rfl, by decide +kernel, rfl, by decide +kernel, by decide +kernel⟩
theorem sc_sets_in_one_piece : FnScope ["beside", "many", "joined", "cell", "members", "near"] ["beside"] (defScope s_sets_in_one_piece) := ⟨rfl, rfl, rfl, by decide +kernel, rfl, by decide +kernel, by decide +kernel⟩
theorem sc_asked_sets : FnScope ["reserve", "one"] ["reserve", "one"] (defScope s_asked_sets) := ⟨rfl, rfl, rfl, by decide +kernel, rfl, by decide +kernel, by decide +kernel⟩
theorem sc_holders : FnScope ["kinds", "kind", "held"] ["kinds", "kind"] (defScope s_holders) := ⟨rfl, rfl, rfl, by decide +kernel, rfl, by decide +kernel, by decide +kernel⟩
theorem sc_sum_over : FnScope ["worths", "members", "cell"] ["worths", "members"] (defScope s_sum_over) := ⟨rfl, rfl, rfl, by decide +kernel, rfl, by decide +kernel, by decide +kernel⟩
theorem sc_sums_over_all : FnScope ["worths", "sums", "worth", "before"] ["worths"] (defScope s_sums_over_all) := ⟨rfl, rfl, rfl, by decide +kernel, rfl, by decide +kernel, by decide +kernel⟩
theorem sc_fits_without : FnScope ["reserve", "lost", "members", "kind", "need", "often"] ["reserve", "lost", "members"] (defScope s_fits_without) := ⟨rfl, rfl, rfl, by decide +kernel, rfl, by decide +kernel, by decide +kernel⟩
theorem sc_fitting_sets : FnScope ["reserve", "one", "fitting", "kind", "need", "often", "members"] ["reserve", "one"] (defScope s_fitting_sets) := ⟨rfl, rfl, rfl, by decide +kernel, rfl, by decide +kernel, by decide +kernel⟩
theorem sc_first_cheapest : FnScope ["reserve", "sets", "prices", "best", "members"] ["reserve", "sets"] (defScope s_first_cheapest) := ⟨rfl, rfl, rfl, by decide +kernel, rfl, by decide +kernel, by decide +kernel⟩
theorem sc_price_and_cells : FnScope ["reserve", "members"] ["reserve", "members"] (defScope s_price_and_cells) := ⟨rfl, rfl, rfl, by decide +kernel, rfl, by decide +kernel, by decide +kernel⟩
theorem sc_least_way : FnScope ["reserve", "begin", "end", "prices", "costs", "each", "cell", "near", "other"] ["reserve", "begin", "end"] (defScope s_least_way) := ⟨rfl, rfl, rfl, by decide +kernel, rfl, by decide +kernel, by decide +kernel⟩
theorem sc_is_proof : FnScope ["reserve", "divisor", "worths", "rebates", "cell", "held"] ["reserve", "divisor", "worths", "rebates"] (defScope s_is_proof) := ⟨rfl, rfl, rfl, by decide +kernel, rfl, by decide +kernel, by decide +kernel⟩
theorem sc_bound_of : FnScope ["reserve", "divisor", "worths", "rebates", "needed", "over", "worth", "need"] ["reserve", "divisor", "worths", "rebates"] (defScope s_bound_of) := ⟨rfl, rfl, rfl, by decide +kernel, rfl, by decide +kernel, by decide +kernel⟩
theorem sc_kept_kinds : FnScope ["reserve", "sets", "kept", "kind", "need", "often", "many", "members"] ["reserve", "sets"] (defScope s_kept_kinds) := ⟨rfl, rfl, rfl, by decide +kernel, rfl, by decide +kernel, by decide +kernel⟩
theorem sc_all_within : FnScope ["numbers", "least", "most", "number"] ["numbers", "least", "most"] (defScope s_all_within) := ⟨rfl, rfl, rfl, by decide +kernel, rfl, by decide +kernel, by decide +kernel⟩
theorem sc_is_list_of : FnScope ["numbers", "length", "most"] ["numbers", "length", "most"] (defScope s_is_list_of) := ⟨rfl, rfl, rfl, by decide +kernel, rfl, by decide +kernel, by decide +kernel⟩
theorem sc_is_told_set : FnScope ["reserve", "cells"] ["reserve", "cells"] (defScope s_is_told_set) := ⟨rfl, rfl, rfl, by decide +kernel, rfl, by decide +kernel, by decide +kernel⟩
theorem sc_call_land : FnScope ["reserve", "numbers", "lists", "width", "height"] ["reserve", "numbers", "lists"] (defScope s_call_land) := ⟨rfl, rfl, rfl, by decide +kernel, rfl, by decide +kernel, by decide +kernel⟩
theorem sc_call_told : FnScope ["reserve", "numbers", "lists"] ["reserve", "numbers", "lists"] (defScope s_call_told) := ⟨rfl, rfl, rfl, by decide +kernel, rfl, by decide +kernel, by decide +kernel⟩
theorem sc_call_need : FnScope ["reserve", "numbers", "lists"] ["reserve", "numbers", "lists"] (defScope s_call_need) := ⟨rfl, rfl, rfl, by decide +kernel, rfl, by decide +kernel, by decide +kernel⟩
theorem sc_call_fits : FnScope ["reserve", "numbers", "lists"] ["reserve", "numbers", "lists"] (defScope s_call_fits) := ⟨rfl, rfl, rfl, by decide +kernel, rfl, by decide +kernel, by decide +kernel⟩
theorem sc_call_price : FnScope ["reserve", "numbers", "lists"] ["reserve", "numbers", "lists"] (defScope s_call_price) := ⟨rfl, rfl, rfl, by decide +kernel, rfl, by decide +kernel, by decide +kernel⟩
theorem sc_call_pieces : FnScope ["reserve", "numbers", "lists"] ["reserve", "numbers", "lists"] (defScope s_call_pieces) := ⟨rfl, rfl, rfl, by decide +kernel, rfl, by decide +kernel, by decide +kernel⟩
theorem sc_call_best : FnScope ["reserve", "numbers", "lists", "fitting"] ["reserve", "numbers", "lists"] (defScope s_call_best) := ⟨rfl, rfl, rfl, by decide +kernel, rfl, by decide +kernel, by decide +kernel⟩
theorem sc_call_number : FnScope ["reserve", "numbers", "lists"] ["reserve", "numbers", "lists"] (defScope s_call_number) := ⟨rfl, rfl, rfl, by decide +kernel, rfl, by decide +kernel, by decide +kernel⟩
theorem sc_call_must : FnScope ["reserve", "numbers", "lists", "fitting", "common", "members"] ["reserve", "numbers", "lists"] (defScope s_call_must) := ⟨rfl, rfl, rfl, by decide +kernel, rfl, by decide +kernel, by decide +kernel⟩
theorem sc_call_corridor : FnScope ["reserve", "numbers", "lists", "ends", "corridors", "members"] ["reserve", "numbers", "lists"] (defScope s_call_corridor) := ⟨rfl, rfl, rfl, by decide +kernel, rfl, by decide +kernel, by decide +kernel⟩
theorem sc_call_way : FnScope ["reserve", "numbers", "lists"] ["reserve", "numbers", "lists"] (defScope s_call_way) := ⟨rfl, rfl, rfl, by decide +kernel, rfl, by decide +kernel, by decide +kernel⟩
theorem sc_call_bound : FnScope ["reserve", "numbers", "lists", "divisor", "worths", "rebates"] ["reserve", "numbers", "lists"] (defScope s_call_bound) := ⟨rfl, rfl, rfl, by decide +kernel, rfl, by decide +kernel, by decide +kernel⟩
theorem sc_call_hardy : FnScope ["reserve", "numbers", "lists"] ["reserve", "numbers", "lists"] (defScope s_call_hardy) := ⟨rfl, rfl, rfl, by decide +kernel, rfl, by decide +kernel, by decide +kernel⟩
theorem sc_call_most : FnScope ["reserve", "numbers", "lists", "prices", "paid", "kept", "most", "members"] ["reserve", "numbers", "lists"] (defScope s_call_most) := ⟨rfl, rfl, rfl, by decide +kernel, rfl, by decide +kernel, by decide +kernel⟩
theorem sc_answer_next : FnScope ["reserve", "reader", "call", "form", "numbers", "lists", "act", "each"] ["reserve", "reader"] (defScope s_answer_next) := ⟨rfl, rfl, rfl, by decide +kernel, rfl, by decide +kernel, by decide +kernel⟩
theorem sc_answers : FnScope ["calls", "reader", "reserve", "answered", "answer"] ["calls"] (defScope s_answers) := ⟨rfl, rfl, rfl, by decide +kernel, rfl, by decide +kernel, by decide +kernel⟩
theorem txt_mk {K : PySem.W.Frag} {h : Heap} {mg : Str → Option Value} {c_Reader c_Reserve f_Reader_init f_Reader_has_more f_Reader_take_number f_Reader_take_numbers f_Reader_take_list f_Reserve_init f_Reserve_has_land f_Reserve_hold_land f_set_of f_cells_of f_neighbours f_first_piece f_count_pieces f_sets_in_one_piece f_asked_sets f_holders f_sum_over f_sums_over_all f_fits_without f_fitting_sets f_first_cheapest f_price_and_cells f_least_way f_is_proof f_bound_of f_kept_kinds f_all_within f_is_list_of f_is_told_set f_call_land f_call_told f_call_need f_call_fits f_call_price f_call_pieces f_call_best f_call_number f_call_must f_call_corridor f_call_way f_call_bound f_call_hardy f_call_most f_answer_next f_answers d_CALLS tt_CALLS_0 tt_CALLS_1 tt_CALLS_2 tt_CALLS_3 tt_CALLS_4 tt_CALLS_5 tt_CALLS_6 tt_CALLS_7 tt_CALLS_8 tt_CALLS_9 tt_CALLS_10 tt_CALLS_11 tt_CALLS_12 tt_CALLS_13 : Addr}
    {t_KINDS t_MOST_SIDE t_MOST_CELLS t_MOST_PRICE t_MOST_HELD t_MOST_NEED t_MOST_TOLD t_MOST_DIVISOR t_MOST_WORTH t_MOST_REBATE t_MOST_LOST t_MOST_SPENT t_LAND t_NO_LAND t_NUMBER_OUT t_LIST_OUT t_NONE_FITS kt_CALLS_0 ti_CALLS_0_0 ti_CALLS_0_1 kt_CALLS_1 ti_CALLS_1_0 ti_CALLS_1_1 kt_CALLS_2 ti_CALLS_2_0 ti_CALLS_2_1 kt_CALLS_3 ti_CALLS_3_0 ti_CALLS_3_1 kt_CALLS_4 ti_CALLS_4_0 ti_CALLS_4_1 kt_CALLS_5 ti_CALLS_5_0 ti_CALLS_5_1 kt_CALLS_6 ti_CALLS_6_0 ti_CALLS_6_1 kt_CALLS_7 ti_CALLS_7_0 ti_CALLS_7_1 kt_CALLS_8 ti_CALLS_8_0 ti_CALLS_8_1 kt_CALLS_9 ti_CALLS_9_0 ti_CALLS_9_1 kt_CALLS_10 ti_CALLS_10_0 ti_CALLS_10_1 kt_CALLS_11 ti_CALLS_11_0 ti_CALLS_11_1 kt_CALLS_12 ti_CALLS_12_0 ti_CALLS_12_1 kt_CALLS_13 ti_CALLS_13_0 ti_CALLS_13_1 : Tok} {ep_CALLS n_CALLS_0 n_CALLS_1 n_CALLS_2 n_CALLS_3 n_CALLS_4 n_CALLS_5 n_CALLS_6 n_CALLS_7 n_CALLS_8 n_CALLS_9 n_CALLS_10 n_CALLS_11 n_CALLS_12 n_CALLS_13 : Nat}
    {od_Reader_init an_Reader_init od_Reader_has_more an_Reader_has_more od_Reader_take_number an_Reader_take_number od_Reader_take_numbers an_Reader_take_numbers od_Reader_take_list an_Reader_take_list od_Reserve_init an_Reserve_init od_Reserve_has_land an_Reserve_has_land od_Reserve_hold_land an_Reserve_hold_land od_set_of an_set_of od_cells_of an_cells_of od_neighbours an_neighbours od_first_piece an_first_piece od_count_pieces an_count_pieces od_sets_in_one_piece an_sets_in_one_piece od_asked_sets an_asked_sets od_holders an_holders od_sum_over an_sum_over od_sums_over_all an_sums_over_all od_fits_without an_fits_without od_fitting_sets an_fitting_sets od_first_cheapest an_first_cheapest od_price_and_cells an_price_and_cells od_least_way an_least_way od_is_proof an_is_proof od_bound_of an_bound_of od_kept_kinds an_kept_kinds od_all_within an_all_within od_is_list_of an_is_list_of od_is_told_set an_is_told_set od_call_land an_call_land od_call_told an_call_told od_call_need an_call_need od_call_fits an_call_fits od_call_price an_call_price od_call_pieces an_call_pieces od_call_best an_call_best od_call_number an_call_number od_call_must an_call_must od_call_corridor an_call_corridor od_call_way an_call_way od_call_bound an_call_bound od_call_hardy an_call_hardy od_call_most an_call_most od_answer_next an_answer_next od_answers an_answers od_CALLS_0 od_CALLS_1 od_CALLS_2 od_CALLS_3 od_CALLS_4 od_CALLS_5 od_CALLS_6 od_CALLS_7 od_CALLS_8 od_CALLS_9 od_CALLS_10 od_CALLS_11 od_CALLS_12 od_CALLS_13 : Option Addr} {sl_Reader_init sl_Reader_has_more sl_Reader_take_number sl_Reader_take_numbers sl_Reader_take_list sl_Reserve_init sl_Reserve_has_land sl_Reserve_hold_land sl_set_of sl_cells_of sl_neighbours sl_first_piece sl_count_pieces sl_sets_in_one_piece sl_asked_sets sl_holders sl_sum_over sl_sums_over_all sl_fits_without sl_fitting_sets sl_first_cheapest sl_price_and_cells sl_least_way sl_is_proof sl_bound_of sl_kept_kinds sl_all_within sl_is_list_of sl_is_told_set sl_call_land sl_call_told sl_call_need sl_call_fits sl_call_price sl_call_pieces sl_call_best sl_call_number sl_call_must sl_call_corridor sl_call_way sl_call_bound sl_call_hardy sl_call_most sl_answer_next sl_answers sl_CALLS_0 sl_CALLS_1 sl_CALLS_2 sl_CALLS_3 sl_CALLS_4 sl_CALLS_5 sl_CALLS_6 sl_CALLS_7 sl_CALLS_8 sl_CALLS_9 sl_CALLS_10 sl_CALLS_11 sl_CALLS_12 sl_CALLS_13 : Array (Option Value)}
    {oc_Reader_init kV_Reader_init dc_Reader_init pm_Reader_init cd_Reader_init ct_Reader_init oc_Reader_has_more kV_Reader_has_more dc_Reader_has_more pm_Reader_has_more cd_Reader_has_more ct_Reader_has_more oc_Reader_take_number kV_Reader_take_number dc_Reader_take_number pm_Reader_take_number cd_Reader_take_number ct_Reader_take_number oc_Reader_take_numbers kV_Reader_take_numbers dc_Reader_take_numbers pm_Reader_take_numbers cd_Reader_take_numbers ct_Reader_take_numbers oc_Reader_take_list kV_Reader_take_list dc_Reader_take_list pm_Reader_take_list cd_Reader_take_list ct_Reader_take_list oc_Reserve_init kV_Reserve_init dc_Reserve_init pm_Reserve_init cd_Reserve_init ct_Reserve_init oc_Reserve_has_land kV_Reserve_has_land dc_Reserve_has_land pm_Reserve_has_land cd_Reserve_has_land ct_Reserve_has_land oc_Reserve_hold_land kV_Reserve_hold_land dc_Reserve_hold_land pm_Reserve_hold_land cd_Reserve_hold_land ct_Reserve_hold_land oc_set_of kV_set_of dc_set_of pm_set_of cd_set_of ct_set_of oc_cells_of kV_cells_of dc_cells_of pm_cells_of cd_cells_of ct_cells_of oc_neighbours kV_neighbours dc_neighbours pm_neighbours cd_neighbours ct_neighbours oc_first_piece kV_first_piece dc_first_piece pm_first_piece cd_first_piece ct_first_piece oc_count_pieces kV_count_pieces dc_count_pieces pm_count_pieces cd_count_pieces ct_count_pieces oc_sets_in_one_piece kV_sets_in_one_piece dc_sets_in_one_piece pm_sets_in_one_piece cd_sets_in_one_piece ct_sets_in_one_piece oc_asked_sets kV_asked_sets dc_asked_sets pm_asked_sets cd_asked_sets ct_asked_sets oc_holders kV_holders dc_holders pm_holders cd_holders ct_holders oc_sum_over kV_sum_over dc_sum_over pm_sum_over cd_sum_over ct_sum_over oc_sums_over_all kV_sums_over_all dc_sums_over_all pm_sums_over_all cd_sums_over_all ct_sums_over_all oc_fits_without kV_fits_without dc_fits_without pm_fits_without cd_fits_without ct_fits_without oc_fitting_sets kV_fitting_sets dc_fitting_sets pm_fitting_sets cd_fitting_sets ct_fitting_sets oc_first_cheapest kV_first_cheapest dc_first_cheapest pm_first_cheapest cd_first_cheapest ct_first_cheapest oc_price_and_cells kV_price_and_cells dc_price_and_cells pm_price_and_cells cd_price_and_cells ct_price_and_cells oc_least_way kV_least_way dc_least_way pm_least_way cd_least_way ct_least_way oc_is_proof kV_is_proof dc_is_proof pm_is_proof cd_is_proof ct_is_proof oc_bound_of kV_bound_of dc_bound_of pm_bound_of cd_bound_of ct_bound_of oc_kept_kinds kV_kept_kinds dc_kept_kinds pm_kept_kinds cd_kept_kinds ct_kept_kinds oc_all_within kV_all_within dc_all_within pm_all_within cd_all_within ct_all_within oc_is_list_of kV_is_list_of dc_is_list_of pm_is_list_of cd_is_list_of ct_is_list_of oc_is_told_set kV_is_told_set dc_is_told_set pm_is_told_set cd_is_told_set ct_is_told_set oc_call_land kV_call_land dc_call_land pm_call_land cd_call_land ct_call_land oc_call_told kV_call_told dc_call_told pm_call_told cd_call_told ct_call_told oc_call_need kV_call_need dc_call_need pm_call_need cd_call_need ct_call_need oc_call_fits kV_call_fits dc_call_fits pm_call_fits cd_call_fits ct_call_fits oc_call_price kV_call_price dc_call_price pm_call_price cd_call_price ct_call_price oc_call_pieces kV_call_pieces dc_call_pieces pm_call_pieces cd_call_pieces ct_call_pieces oc_call_best kV_call_best dc_call_best pm_call_best cd_call_best ct_call_best oc_call_number kV_call_number dc_call_number pm_call_number cd_call_number ct_call_number oc_call_must kV_call_must dc_call_must pm_call_must cd_call_must ct_call_must oc_call_corridor kV_call_corridor dc_call_corridor pm_call_corridor cd_call_corridor ct_call_corridor oc_call_way kV_call_way dc_call_way pm_call_way cd_call_way ct_call_way oc_call_bound kV_call_bound dc_call_bound pm_call_bound cd_call_bound ct_call_bound oc_call_hardy kV_call_hardy dc_call_hardy pm_call_hardy cd_call_hardy ct_call_hardy oc_call_most kV_call_most dc_call_most pm_call_most cd_call_most ct_call_most oc_answer_next kV_answer_next dc_answer_next pm_answer_next cd_answer_next ct_answer_next oc_answers kV_answers dc_answers pm_answers cd_answers ct_answers : Value}
    (X : K.In h) (G : h.Ns mainGlobals mg)
    (aC_Reader : PySem.W.nsIn K mainGlobals "Reader" = some (some (.ref c_Reader)))
    (aC_Reserve : PySem.W.nsIn K mainGlobals "Reserve" = some (some (.ref c_Reserve)))
    (a_Reader_init : PySem.W.findIn K (.ref c_Reader) "__init__" = some (some (.ref f_Reader_init)))
    (i_Reader_init : PySem.W.isFn K (.ref f_Reader_init) = true)
    (l_Reader_init : K.lookup f_Reader_init = some ⟨oc_Reader_init, od_Reader_init, .func (PySem.W.fnOf "__init__" "Reader.__init__" (defArgs s_Reader_init) (defBody s_Reader_init) (defScope s_Reader_init) .none kV_Reader_init dc_Reader_init pm_Reader_init an_Reader_init cd_Reader_init ct_Reader_init), sl_Reader_init⟩)
    (c_Reader_init : PySem.W.codeIn K cd_Reader_init "Reader.__init__" = true)
    (k_Reader_init : PySem.W.keepIn K (.ref f_Reader_init) = true)
    (a_Reader_has_more : PySem.W.findIn K (.ref c_Reader) "has_more" = some (some (.ref f_Reader_has_more)))
    (i_Reader_has_more : PySem.W.isFn K (.ref f_Reader_has_more) = true)
    (l_Reader_has_more : K.lookup f_Reader_has_more = some ⟨oc_Reader_has_more, od_Reader_has_more, .func (PySem.W.fnOf "has_more" "Reader.has_more" (defArgs s_Reader_has_more) (defBody s_Reader_has_more) (defScope s_Reader_has_more) .none kV_Reader_has_more dc_Reader_has_more pm_Reader_has_more an_Reader_has_more cd_Reader_has_more ct_Reader_has_more), sl_Reader_has_more⟩)
    (c_Reader_has_more : PySem.W.codeIn K cd_Reader_has_more "Reader.has_more" = true)
    (k_Reader_has_more : PySem.W.keepIn K (.ref f_Reader_has_more) = true)
    (a_Reader_take_number : PySem.W.findIn K (.ref c_Reader) "take_number" = some (some (.ref f_Reader_take_number)))
    (i_Reader_take_number : PySem.W.isFn K (.ref f_Reader_take_number) = true)
    (l_Reader_take_number : K.lookup f_Reader_take_number = some ⟨oc_Reader_take_number, od_Reader_take_number, .func (PySem.W.fnOf "take_number" "Reader.take_number" (defArgs s_Reader_take_number) (defBody s_Reader_take_number) (defScope s_Reader_take_number) .none kV_Reader_take_number dc_Reader_take_number pm_Reader_take_number an_Reader_take_number cd_Reader_take_number ct_Reader_take_number), sl_Reader_take_number⟩)
    (c_Reader_take_number : PySem.W.codeIn K cd_Reader_take_number "Reader.take_number" = true)
    (k_Reader_take_number : PySem.W.keepIn K (.ref f_Reader_take_number) = true)
    (a_Reader_take_numbers : PySem.W.findIn K (.ref c_Reader) "take_numbers" = some (some (.ref f_Reader_take_numbers)))
    (i_Reader_take_numbers : PySem.W.isFn K (.ref f_Reader_take_numbers) = true)
    (l_Reader_take_numbers : K.lookup f_Reader_take_numbers = some ⟨oc_Reader_take_numbers, od_Reader_take_numbers, .func (PySem.W.fnOf "take_numbers" "Reader.take_numbers" (defArgs s_Reader_take_numbers) (defBody s_Reader_take_numbers) (defScope s_Reader_take_numbers) .none kV_Reader_take_numbers dc_Reader_take_numbers pm_Reader_take_numbers an_Reader_take_numbers cd_Reader_take_numbers ct_Reader_take_numbers), sl_Reader_take_numbers⟩)
    (c_Reader_take_numbers : PySem.W.codeIn K cd_Reader_take_numbers "Reader.take_numbers" = true)
    (k_Reader_take_numbers : PySem.W.keepIn K (.ref f_Reader_take_numbers) = true)
    (a_Reader_take_list : PySem.W.findIn K (.ref c_Reader) "take_list" = some (some (.ref f_Reader_take_list)))
    (i_Reader_take_list : PySem.W.isFn K (.ref f_Reader_take_list) = true)
    (l_Reader_take_list : K.lookup f_Reader_take_list = some ⟨oc_Reader_take_list, od_Reader_take_list, .func (PySem.W.fnOf "take_list" "Reader.take_list" (defArgs s_Reader_take_list) (defBody s_Reader_take_list) (defScope s_Reader_take_list) .none kV_Reader_take_list dc_Reader_take_list pm_Reader_take_list an_Reader_take_list cd_Reader_take_list ct_Reader_take_list), sl_Reader_take_list⟩)
    (c_Reader_take_list : PySem.W.codeIn K cd_Reader_take_list "Reader.take_list" = true)
    (k_Reader_take_list : PySem.W.keepIn K (.ref f_Reader_take_list) = true)
    (a_Reserve_init : PySem.W.findIn K (.ref c_Reserve) "__init__" = some (some (.ref f_Reserve_init)))
    (i_Reserve_init : PySem.W.isFn K (.ref f_Reserve_init) = true)
    (l_Reserve_init : K.lookup f_Reserve_init = some ⟨oc_Reserve_init, od_Reserve_init, .func (PySem.W.fnOf "__init__" "Reserve.__init__" (defArgs s_Reserve_init) (defBody s_Reserve_init) (defScope s_Reserve_init) .none kV_Reserve_init dc_Reserve_init pm_Reserve_init an_Reserve_init cd_Reserve_init ct_Reserve_init), sl_Reserve_init⟩)
    (c_Reserve_init : PySem.W.codeIn K cd_Reserve_init "Reserve.__init__" = true)
    (k_Reserve_init : PySem.W.keepIn K (.ref f_Reserve_init) = true)
    (a_Reserve_has_land : PySem.W.findIn K (.ref c_Reserve) "has_land" = some (some (.ref f_Reserve_has_land)))
    (i_Reserve_has_land : PySem.W.isFn K (.ref f_Reserve_has_land) = true)
    (l_Reserve_has_land : K.lookup f_Reserve_has_land = some ⟨oc_Reserve_has_land, od_Reserve_has_land, .func (PySem.W.fnOf "has_land" "Reserve.has_land" (defArgs s_Reserve_has_land) (defBody s_Reserve_has_land) (defScope s_Reserve_has_land) .none kV_Reserve_has_land dc_Reserve_has_land pm_Reserve_has_land an_Reserve_has_land cd_Reserve_has_land ct_Reserve_has_land), sl_Reserve_has_land⟩)
    (c_Reserve_has_land : PySem.W.codeIn K cd_Reserve_has_land "Reserve.has_land" = true)
    (k_Reserve_has_land : PySem.W.keepIn K (.ref f_Reserve_has_land) = true)
    (a_Reserve_hold_land : PySem.W.findIn K (.ref c_Reserve) "hold_land" = some (some (.ref f_Reserve_hold_land)))
    (i_Reserve_hold_land : PySem.W.isFn K (.ref f_Reserve_hold_land) = true)
    (l_Reserve_hold_land : K.lookup f_Reserve_hold_land = some ⟨oc_Reserve_hold_land, od_Reserve_hold_land, .func (PySem.W.fnOf "hold_land" "Reserve.hold_land" (defArgs s_Reserve_hold_land) (defBody s_Reserve_hold_land) (defScope s_Reserve_hold_land) .none kV_Reserve_hold_land dc_Reserve_hold_land pm_Reserve_hold_land an_Reserve_hold_land cd_Reserve_hold_land ct_Reserve_hold_land), sl_Reserve_hold_land⟩)
    (c_Reserve_hold_land : PySem.W.codeIn K cd_Reserve_hold_land "Reserve.hold_land" = true)
    (k_Reserve_hold_land : PySem.W.keepIn K (.ref f_Reserve_hold_land) = true)
    (a_set_of : PySem.W.nsIn K mainGlobals "set_of" = some (some (.ref f_set_of)))
    (l_set_of : K.lookup f_set_of = some ⟨oc_set_of, od_set_of, .func (PySem.W.fnOf "set_of" "set_of" (defArgs s_set_of) (defBody s_set_of) (defScope s_set_of) .none kV_set_of dc_set_of pm_set_of an_set_of cd_set_of ct_set_of), sl_set_of⟩)
    (c_set_of : PySem.W.codeIn K cd_set_of "set_of" = true)
    (k_set_of : PySem.W.keepIn K (.ref f_set_of) = true)
    (a_cells_of : PySem.W.nsIn K mainGlobals "cells_of" = some (some (.ref f_cells_of)))
    (l_cells_of : K.lookup f_cells_of = some ⟨oc_cells_of, od_cells_of, .func (PySem.W.fnOf "cells_of" "cells_of" (defArgs s_cells_of) (defBody s_cells_of) (defScope s_cells_of) .none kV_cells_of dc_cells_of pm_cells_of an_cells_of cd_cells_of ct_cells_of), sl_cells_of⟩)
    (c_cells_of : PySem.W.codeIn K cd_cells_of "cells_of" = true)
    (k_cells_of : PySem.W.keepIn K (.ref f_cells_of) = true)
    (a_neighbours : PySem.W.nsIn K mainGlobals "neighbours" = some (some (.ref f_neighbours)))
    (l_neighbours : K.lookup f_neighbours = some ⟨oc_neighbours, od_neighbours, .func (PySem.W.fnOf "neighbours" "neighbours" (defArgs s_neighbours) (defBody s_neighbours) (defScope s_neighbours) .none kV_neighbours dc_neighbours pm_neighbours an_neighbours cd_neighbours ct_neighbours), sl_neighbours⟩)
    (c_neighbours : PySem.W.codeIn K cd_neighbours "neighbours" = true)
    (k_neighbours : PySem.W.keepIn K (.ref f_neighbours) = true)
    (a_first_piece : PySem.W.nsIn K mainGlobals "first_piece" = some (some (.ref f_first_piece)))
    (l_first_piece : K.lookup f_first_piece = some ⟨oc_first_piece, od_first_piece, .func (PySem.W.fnOf "first_piece" "first_piece" (defArgs s_first_piece) (defBody s_first_piece) (defScope s_first_piece) .none kV_first_piece dc_first_piece pm_first_piece an_first_piece cd_first_piece ct_first_piece), sl_first_piece⟩)
    (c_first_piece : PySem.W.codeIn K cd_first_piece "first_piece" = true)
    (k_first_piece : PySem.W.keepIn K (.ref f_first_piece) = true)
    (a_count_pieces : PySem.W.nsIn K mainGlobals "count_pieces" = some (some (.ref f_count_pieces)))
    (l_count_pieces : K.lookup f_count_pieces = some ⟨oc_count_pieces, od_count_pieces, .func (PySem.W.fnOf "count_pieces" "count_pieces" (defArgs s_count_pieces) (defBody s_count_pieces) (defScope s_count_pieces) .none kV_count_pieces dc_count_pieces pm_count_pieces an_count_pieces cd_count_pieces ct_count_pieces), sl_count_pieces⟩)
    (c_count_pieces : PySem.W.codeIn K cd_count_pieces "count_pieces" = true)
    (k_count_pieces : PySem.W.keepIn K (.ref f_count_pieces) = true)
    (a_sets_in_one_piece : PySem.W.nsIn K mainGlobals "sets_in_one_piece" = some (some (.ref f_sets_in_one_piece)))
    (l_sets_in_one_piece : K.lookup f_sets_in_one_piece = some ⟨oc_sets_in_one_piece, od_sets_in_one_piece, .func (PySem.W.fnOf "sets_in_one_piece" "sets_in_one_piece" (defArgs s_sets_in_one_piece) (defBody s_sets_in_one_piece) (defScope s_sets_in_one_piece) .none kV_sets_in_one_piece dc_sets_in_one_piece pm_sets_in_one_piece an_sets_in_one_piece cd_sets_in_one_piece ct_sets_in_one_piece), sl_sets_in_one_piece⟩)
    (c_sets_in_one_piece : PySem.W.codeIn K cd_sets_in_one_piece "sets_in_one_piece" = true)
    (k_sets_in_one_piece : PySem.W.keepIn K (.ref f_sets_in_one_piece) = true)
    (a_asked_sets : PySem.W.nsIn K mainGlobals "asked_sets" = some (some (.ref f_asked_sets)))
    (l_asked_sets : K.lookup f_asked_sets = some ⟨oc_asked_sets, od_asked_sets, .func (PySem.W.fnOf "asked_sets" "asked_sets" (defArgs s_asked_sets) (defBody s_asked_sets) (defScope s_asked_sets) .none kV_asked_sets dc_asked_sets pm_asked_sets an_asked_sets cd_asked_sets ct_asked_sets), sl_asked_sets⟩)
    (c_asked_sets : PySem.W.codeIn K cd_asked_sets "asked_sets" = true)
    (k_asked_sets : PySem.W.keepIn K (.ref f_asked_sets) = true)
    (a_holders : PySem.W.nsIn K mainGlobals "holders" = some (some (.ref f_holders)))
    (l_holders : K.lookup f_holders = some ⟨oc_holders, od_holders, .func (PySem.W.fnOf "holders" "holders" (defArgs s_holders) (defBody s_holders) (defScope s_holders) .none kV_holders dc_holders pm_holders an_holders cd_holders ct_holders), sl_holders⟩)
    (c_holders : PySem.W.codeIn K cd_holders "holders" = true)
    (k_holders : PySem.W.keepIn K (.ref f_holders) = true)
    (a_sum_over : PySem.W.nsIn K mainGlobals "sum_over" = some (some (.ref f_sum_over)))
    (l_sum_over : K.lookup f_sum_over = some ⟨oc_sum_over, od_sum_over, .func (PySem.W.fnOf "sum_over" "sum_over" (defArgs s_sum_over) (defBody s_sum_over) (defScope s_sum_over) .none kV_sum_over dc_sum_over pm_sum_over an_sum_over cd_sum_over ct_sum_over), sl_sum_over⟩)
    (c_sum_over : PySem.W.codeIn K cd_sum_over "sum_over" = true)
    (k_sum_over : PySem.W.keepIn K (.ref f_sum_over) = true)
    (a_sums_over_all : PySem.W.nsIn K mainGlobals "sums_over_all" = some (some (.ref f_sums_over_all)))
    (l_sums_over_all : K.lookup f_sums_over_all = some ⟨oc_sums_over_all, od_sums_over_all, .func (PySem.W.fnOf "sums_over_all" "sums_over_all" (defArgs s_sums_over_all) (defBody s_sums_over_all) (defScope s_sums_over_all) .none kV_sums_over_all dc_sums_over_all pm_sums_over_all an_sums_over_all cd_sums_over_all ct_sums_over_all), sl_sums_over_all⟩)
    (c_sums_over_all : PySem.W.codeIn K cd_sums_over_all "sums_over_all" = true)
    (k_sums_over_all : PySem.W.keepIn K (.ref f_sums_over_all) = true)
    (a_fits_without : PySem.W.nsIn K mainGlobals "fits_without" = some (some (.ref f_fits_without)))
    (l_fits_without : K.lookup f_fits_without = some ⟨oc_fits_without, od_fits_without, .func (PySem.W.fnOf "fits_without" "fits_without" (defArgs s_fits_without) (defBody s_fits_without) (defScope s_fits_without) .none kV_fits_without dc_fits_without pm_fits_without an_fits_without cd_fits_without ct_fits_without), sl_fits_without⟩)
    (c_fits_without : PySem.W.codeIn K cd_fits_without "fits_without" = true)
    (k_fits_without : PySem.W.keepIn K (.ref f_fits_without) = true)
    (a_fitting_sets : PySem.W.nsIn K mainGlobals "fitting_sets" = some (some (.ref f_fitting_sets)))
    (l_fitting_sets : K.lookup f_fitting_sets = some ⟨oc_fitting_sets, od_fitting_sets, .func (PySem.W.fnOf "fitting_sets" "fitting_sets" (defArgs s_fitting_sets) (defBody s_fitting_sets) (defScope s_fitting_sets) .none kV_fitting_sets dc_fitting_sets pm_fitting_sets an_fitting_sets cd_fitting_sets ct_fitting_sets), sl_fitting_sets⟩)
    (c_fitting_sets : PySem.W.codeIn K cd_fitting_sets "fitting_sets" = true)
    (k_fitting_sets : PySem.W.keepIn K (.ref f_fitting_sets) = true)
    (a_first_cheapest : PySem.W.nsIn K mainGlobals "first_cheapest" = some (some (.ref f_first_cheapest)))
    (l_first_cheapest : K.lookup f_first_cheapest = some ⟨oc_first_cheapest, od_first_cheapest, .func (PySem.W.fnOf "first_cheapest" "first_cheapest" (defArgs s_first_cheapest) (defBody s_first_cheapest) (defScope s_first_cheapest) .none kV_first_cheapest dc_first_cheapest pm_first_cheapest an_first_cheapest cd_first_cheapest ct_first_cheapest), sl_first_cheapest⟩)
    (c_first_cheapest : PySem.W.codeIn K cd_first_cheapest "first_cheapest" = true)
    (k_first_cheapest : PySem.W.keepIn K (.ref f_first_cheapest) = true)
    (a_price_and_cells : PySem.W.nsIn K mainGlobals "price_and_cells" = some (some (.ref f_price_and_cells)))
    (l_price_and_cells : K.lookup f_price_and_cells = some ⟨oc_price_and_cells, od_price_and_cells, .func (PySem.W.fnOf "price_and_cells" "price_and_cells" (defArgs s_price_and_cells) (defBody s_price_and_cells) (defScope s_price_and_cells) .none kV_price_and_cells dc_price_and_cells pm_price_and_cells an_price_and_cells cd_price_and_cells ct_price_and_cells), sl_price_and_cells⟩)
    (c_price_and_cells : PySem.W.codeIn K cd_price_and_cells "price_and_cells" = true)
    (k_price_and_cells : PySem.W.keepIn K (.ref f_price_and_cells) = true)
    (a_least_way : PySem.W.nsIn K mainGlobals "least_way" = some (some (.ref f_least_way)))
    (l_least_way : K.lookup f_least_way = some ⟨oc_least_way, od_least_way, .func (PySem.W.fnOf "least_way" "least_way" (defArgs s_least_way) (defBody s_least_way) (defScope s_least_way) .none kV_least_way dc_least_way pm_least_way an_least_way cd_least_way ct_least_way), sl_least_way⟩)
    (c_least_way : PySem.W.codeIn K cd_least_way "least_way" = true)
    (k_least_way : PySem.W.keepIn K (.ref f_least_way) = true)
    (a_is_proof : PySem.W.nsIn K mainGlobals "is_proof" = some (some (.ref f_is_proof)))
    (l_is_proof : K.lookup f_is_proof = some ⟨oc_is_proof, od_is_proof, .func (PySem.W.fnOf "is_proof" "is_proof" (defArgs s_is_proof) (defBody s_is_proof) (defScope s_is_proof) .none kV_is_proof dc_is_proof pm_is_proof an_is_proof cd_is_proof ct_is_proof), sl_is_proof⟩)
    (c_is_proof : PySem.W.codeIn K cd_is_proof "is_proof" = true)
    (k_is_proof : PySem.W.keepIn K (.ref f_is_proof) = true)
    (a_bound_of : PySem.W.nsIn K mainGlobals "bound_of" = some (some (.ref f_bound_of)))
    (l_bound_of : K.lookup f_bound_of = some ⟨oc_bound_of, od_bound_of, .func (PySem.W.fnOf "bound_of" "bound_of" (defArgs s_bound_of) (defBody s_bound_of) (defScope s_bound_of) .none kV_bound_of dc_bound_of pm_bound_of an_bound_of cd_bound_of ct_bound_of), sl_bound_of⟩)
    (c_bound_of : PySem.W.codeIn K cd_bound_of "bound_of" = true)
    (k_bound_of : PySem.W.keepIn K (.ref f_bound_of) = true)
    (a_kept_kinds : PySem.W.nsIn K mainGlobals "kept_kinds" = some (some (.ref f_kept_kinds)))
    (l_kept_kinds : K.lookup f_kept_kinds = some ⟨oc_kept_kinds, od_kept_kinds, .func (PySem.W.fnOf "kept_kinds" "kept_kinds" (defArgs s_kept_kinds) (defBody s_kept_kinds) (defScope s_kept_kinds) .none kV_kept_kinds dc_kept_kinds pm_kept_kinds an_kept_kinds cd_kept_kinds ct_kept_kinds), sl_kept_kinds⟩)
    (c_kept_kinds : PySem.W.codeIn K cd_kept_kinds "kept_kinds" = true)
    (k_kept_kinds : PySem.W.keepIn K (.ref f_kept_kinds) = true)
    (a_all_within : PySem.W.nsIn K mainGlobals "all_within" = some (some (.ref f_all_within)))
    (l_all_within : K.lookup f_all_within = some ⟨oc_all_within, od_all_within, .func (PySem.W.fnOf "all_within" "all_within" (defArgs s_all_within) (defBody s_all_within) (defScope s_all_within) .none kV_all_within dc_all_within pm_all_within an_all_within cd_all_within ct_all_within), sl_all_within⟩)
    (c_all_within : PySem.W.codeIn K cd_all_within "all_within" = true)
    (k_all_within : PySem.W.keepIn K (.ref f_all_within) = true)
    (a_is_list_of : PySem.W.nsIn K mainGlobals "is_list_of" = some (some (.ref f_is_list_of)))
    (l_is_list_of : K.lookup f_is_list_of = some ⟨oc_is_list_of, od_is_list_of, .func (PySem.W.fnOf "is_list_of" "is_list_of" (defArgs s_is_list_of) (defBody s_is_list_of) (defScope s_is_list_of) .none kV_is_list_of dc_is_list_of pm_is_list_of an_is_list_of cd_is_list_of ct_is_list_of), sl_is_list_of⟩)
    (c_is_list_of : PySem.W.codeIn K cd_is_list_of "is_list_of" = true)
    (k_is_list_of : PySem.W.keepIn K (.ref f_is_list_of) = true)
    (a_is_told_set : PySem.W.nsIn K mainGlobals "is_told_set" = some (some (.ref f_is_told_set)))
    (l_is_told_set : K.lookup f_is_told_set = some ⟨oc_is_told_set, od_is_told_set, .func (PySem.W.fnOf "is_told_set" "is_told_set" (defArgs s_is_told_set) (defBody s_is_told_set) (defScope s_is_told_set) .none kV_is_told_set dc_is_told_set pm_is_told_set an_is_told_set cd_is_told_set ct_is_told_set), sl_is_told_set⟩)
    (c_is_told_set : PySem.W.codeIn K cd_is_told_set "is_told_set" = true)
    (k_is_told_set : PySem.W.keepIn K (.ref f_is_told_set) = true)
    (a_call_land : PySem.W.nsIn K mainGlobals "call_land" = some (some (.ref f_call_land)))
    (l_call_land : K.lookup f_call_land = some ⟨oc_call_land, od_call_land, .func (PySem.W.fnOf "call_land" "call_land" (defArgs s_call_land) (defBody s_call_land) (defScope s_call_land) .none kV_call_land dc_call_land pm_call_land an_call_land cd_call_land ct_call_land), sl_call_land⟩)
    (c_call_land : PySem.W.codeIn K cd_call_land "call_land" = true)
    (k_call_land : PySem.W.keepIn K (.ref f_call_land) = true)
    (a_call_told : PySem.W.nsIn K mainGlobals "call_told" = some (some (.ref f_call_told)))
    (l_call_told : K.lookup f_call_told = some ⟨oc_call_told, od_call_told, .func (PySem.W.fnOf "call_told" "call_told" (defArgs s_call_told) (defBody s_call_told) (defScope s_call_told) .none kV_call_told dc_call_told pm_call_told an_call_told cd_call_told ct_call_told), sl_call_told⟩)
    (c_call_told : PySem.W.codeIn K cd_call_told "call_told" = true)
    (k_call_told : PySem.W.keepIn K (.ref f_call_told) = true)
    (a_call_need : PySem.W.nsIn K mainGlobals "call_need" = some (some (.ref f_call_need)))
    (l_call_need : K.lookup f_call_need = some ⟨oc_call_need, od_call_need, .func (PySem.W.fnOf "call_need" "call_need" (defArgs s_call_need) (defBody s_call_need) (defScope s_call_need) .none kV_call_need dc_call_need pm_call_need an_call_need cd_call_need ct_call_need), sl_call_need⟩)
    (c_call_need : PySem.W.codeIn K cd_call_need "call_need" = true)
    (k_call_need : PySem.W.keepIn K (.ref f_call_need) = true)
    (a_call_fits : PySem.W.nsIn K mainGlobals "call_fits" = some (some (.ref f_call_fits)))
    (l_call_fits : K.lookup f_call_fits = some ⟨oc_call_fits, od_call_fits, .func (PySem.W.fnOf "call_fits" "call_fits" (defArgs s_call_fits) (defBody s_call_fits) (defScope s_call_fits) .none kV_call_fits dc_call_fits pm_call_fits an_call_fits cd_call_fits ct_call_fits), sl_call_fits⟩)
    (c_call_fits : PySem.W.codeIn K cd_call_fits "call_fits" = true)
    (k_call_fits : PySem.W.keepIn K (.ref f_call_fits) = true)
    (a_call_price : PySem.W.nsIn K mainGlobals "call_price" = some (some (.ref f_call_price)))
    (l_call_price : K.lookup f_call_price = some ⟨oc_call_price, od_call_price, .func (PySem.W.fnOf "call_price" "call_price" (defArgs s_call_price) (defBody s_call_price) (defScope s_call_price) .none kV_call_price dc_call_price pm_call_price an_call_price cd_call_price ct_call_price), sl_call_price⟩)
    (c_call_price : PySem.W.codeIn K cd_call_price "call_price" = true)
    (k_call_price : PySem.W.keepIn K (.ref f_call_price) = true)
    (a_call_pieces : PySem.W.nsIn K mainGlobals "call_pieces" = some (some (.ref f_call_pieces)))
    (l_call_pieces : K.lookup f_call_pieces = some ⟨oc_call_pieces, od_call_pieces, .func (PySem.W.fnOf "call_pieces" "call_pieces" (defArgs s_call_pieces) (defBody s_call_pieces) (defScope s_call_pieces) .none kV_call_pieces dc_call_pieces pm_call_pieces an_call_pieces cd_call_pieces ct_call_pieces), sl_call_pieces⟩)
    (c_call_pieces : PySem.W.codeIn K cd_call_pieces "call_pieces" = true)
    (k_call_pieces : PySem.W.keepIn K (.ref f_call_pieces) = true)
    (a_call_best : PySem.W.nsIn K mainGlobals "call_best" = some (some (.ref f_call_best)))
    (l_call_best : K.lookup f_call_best = some ⟨oc_call_best, od_call_best, .func (PySem.W.fnOf "call_best" "call_best" (defArgs s_call_best) (defBody s_call_best) (defScope s_call_best) .none kV_call_best dc_call_best pm_call_best an_call_best cd_call_best ct_call_best), sl_call_best⟩)
    (c_call_best : PySem.W.codeIn K cd_call_best "call_best" = true)
    (k_call_best : PySem.W.keepIn K (.ref f_call_best) = true)
    (a_call_number : PySem.W.nsIn K mainGlobals "call_number" = some (some (.ref f_call_number)))
    (l_call_number : K.lookup f_call_number = some ⟨oc_call_number, od_call_number, .func (PySem.W.fnOf "call_number" "call_number" (defArgs s_call_number) (defBody s_call_number) (defScope s_call_number) .none kV_call_number dc_call_number pm_call_number an_call_number cd_call_number ct_call_number), sl_call_number⟩)
    (c_call_number : PySem.W.codeIn K cd_call_number "call_number" = true)
    (k_call_number : PySem.W.keepIn K (.ref f_call_number) = true)
    (a_call_must : PySem.W.nsIn K mainGlobals "call_must" = some (some (.ref f_call_must)))
    (l_call_must : K.lookup f_call_must = some ⟨oc_call_must, od_call_must, .func (PySem.W.fnOf "call_must" "call_must" (defArgs s_call_must) (defBody s_call_must) (defScope s_call_must) .none kV_call_must dc_call_must pm_call_must an_call_must cd_call_must ct_call_must), sl_call_must⟩)
    (c_call_must : PySem.W.codeIn K cd_call_must "call_must" = true)
    (k_call_must : PySem.W.keepIn K (.ref f_call_must) = true)
    (a_call_corridor : PySem.W.nsIn K mainGlobals "call_corridor" = some (some (.ref f_call_corridor)))
    (l_call_corridor : K.lookup f_call_corridor = some ⟨oc_call_corridor, od_call_corridor, .func (PySem.W.fnOf "call_corridor" "call_corridor" (defArgs s_call_corridor) (defBody s_call_corridor) (defScope s_call_corridor) .none kV_call_corridor dc_call_corridor pm_call_corridor an_call_corridor cd_call_corridor ct_call_corridor), sl_call_corridor⟩)
    (c_call_corridor : PySem.W.codeIn K cd_call_corridor "call_corridor" = true)
    (k_call_corridor : PySem.W.keepIn K (.ref f_call_corridor) = true)
    (a_call_way : PySem.W.nsIn K mainGlobals "call_way" = some (some (.ref f_call_way)))
    (l_call_way : K.lookup f_call_way = some ⟨oc_call_way, od_call_way, .func (PySem.W.fnOf "call_way" "call_way" (defArgs s_call_way) (defBody s_call_way) (defScope s_call_way) .none kV_call_way dc_call_way pm_call_way an_call_way cd_call_way ct_call_way), sl_call_way⟩)
    (c_call_way : PySem.W.codeIn K cd_call_way "call_way" = true)
    (k_call_way : PySem.W.keepIn K (.ref f_call_way) = true)
    (a_call_bound : PySem.W.nsIn K mainGlobals "call_bound" = some (some (.ref f_call_bound)))
    (l_call_bound : K.lookup f_call_bound = some ⟨oc_call_bound, od_call_bound, .func (PySem.W.fnOf "call_bound" "call_bound" (defArgs s_call_bound) (defBody s_call_bound) (defScope s_call_bound) .none kV_call_bound dc_call_bound pm_call_bound an_call_bound cd_call_bound ct_call_bound), sl_call_bound⟩)
    (c_call_bound : PySem.W.codeIn K cd_call_bound "call_bound" = true)
    (k_call_bound : PySem.W.keepIn K (.ref f_call_bound) = true)
    (a_call_hardy : PySem.W.nsIn K mainGlobals "call_hardy" = some (some (.ref f_call_hardy)))
    (l_call_hardy : K.lookup f_call_hardy = some ⟨oc_call_hardy, od_call_hardy, .func (PySem.W.fnOf "call_hardy" "call_hardy" (defArgs s_call_hardy) (defBody s_call_hardy) (defScope s_call_hardy) .none kV_call_hardy dc_call_hardy pm_call_hardy an_call_hardy cd_call_hardy ct_call_hardy), sl_call_hardy⟩)
    (c_call_hardy : PySem.W.codeIn K cd_call_hardy "call_hardy" = true)
    (k_call_hardy : PySem.W.keepIn K (.ref f_call_hardy) = true)
    (a_call_most : PySem.W.nsIn K mainGlobals "call_most" = some (some (.ref f_call_most)))
    (l_call_most : K.lookup f_call_most = some ⟨oc_call_most, od_call_most, .func (PySem.W.fnOf "call_most" "call_most" (defArgs s_call_most) (defBody s_call_most) (defScope s_call_most) .none kV_call_most dc_call_most pm_call_most an_call_most cd_call_most ct_call_most), sl_call_most⟩)
    (c_call_most : PySem.W.codeIn K cd_call_most "call_most" = true)
    (k_call_most : PySem.W.keepIn K (.ref f_call_most) = true)
    (a_answer_next : PySem.W.nsIn K mainGlobals "answer_next" = some (some (.ref f_answer_next)))
    (l_answer_next : K.lookup f_answer_next = some ⟨oc_answer_next, od_answer_next, .func (PySem.W.fnOf "answer_next" "answer_next" (defArgs s_answer_next) (defBody s_answer_next) (defScope s_answer_next) .none kV_answer_next dc_answer_next pm_answer_next an_answer_next cd_answer_next ct_answer_next), sl_answer_next⟩)
    (c_answer_next : PySem.W.codeIn K cd_answer_next "answer_next" = true)
    (k_answer_next : PySem.W.keepIn K (.ref f_answer_next) = true)
    (a_answers : PySem.W.nsIn K mainGlobals "answers" = some (some (.ref f_answers)))
    (l_answers : K.lookup f_answers = some ⟨oc_answers, od_answers, .func (PySem.W.fnOf "answers" "answers" (defArgs s_answers) (defBody s_answers) (defScope s_answers) .none kV_answers dc_answers pm_answers an_answers cd_answers ct_answers), sl_answers⟩)
    (c_answers : PySem.W.codeIn K cd_answers "answers" = true)
    (k_answers : PySem.W.keepIn K (.ref f_answers) = true)
    (pg_Reader : PySem.W.plainGet K c_Reader Str.empty = true)
    (hd_Reader : PySem.W.hasDictIn K c_Reader = true)
    (po_Reader : PySem.W.plainOver K c_Reader = true)
    (sa_Reader : PySem.W.findIn K (.ref c_Reader) "__setattr__" = some (some (.builtin "object.__setattr__")))
    (mk_Reader : PySem.W.makesIn K c_Reader = true)
    (kc_Reader : PySem.W.keepIn K (.ref c_Reader) = true)
    (n_Reader_line : PySem.W.findIn K (.ref c_Reader) "line" = some none)
    (n_Reader_place : PySem.W.findIn K (.ref c_Reader) "place" = some none)
    (pg_Reserve : PySem.W.plainGet K c_Reserve Str.empty = true)
    (hd_Reserve : PySem.W.hasDictIn K c_Reserve = true)
    (po_Reserve : PySem.W.plainOver K c_Reserve = true)
    (sa_Reserve : PySem.W.findIn K (.ref c_Reserve) "__setattr__" = some (some (.builtin "object.__setattr__")))
    (mk_Reserve : PySem.W.makesIn K c_Reserve = true)
    (kc_Reserve : PySem.W.keepIn K (.ref c_Reserve) = true)
    (n_Reserve_width : PySem.W.findIn K (.ref c_Reserve) "width" = some none)
    (n_Reserve_height : PySem.W.findIn K (.ref c_Reserve) "height" = some none)
    (n_Reserve_prices : PySem.W.findIn K (.ref c_Reserve) "prices" = some none)
    (n_Reserve_kinds : PySem.W.findIn K (.ref c_Reserve) "kinds" = some none)
    (n_Reserve_beside : PySem.W.findIn K (.ref c_Reserve) "beside" = some none)
    (n_Reserve_needs : PySem.W.findIn K (.ref c_Reserve) "needs" = some none)
    (g_KINDS : PySem.W.nsIn K mainGlobals "KINDS" = some (some (.int (8) t_KINDS)))
    (g_MOST_SIDE : PySem.W.nsIn K mainGlobals "MOST_SIDE" = some (some (.int (12) t_MOST_SIDE)))
    (g_MOST_CELLS : PySem.W.nsIn K mainGlobals "MOST_CELLS" = some (some (.int (12) t_MOST_CELLS)))
    (g_MOST_PRICE : PySem.W.nsIn K mainGlobals "MOST_PRICE" = some (some (.int (1000) t_MOST_PRICE)))
    (g_MOST_HELD : PySem.W.nsIn K mainGlobals "MOST_HELD" = some (some (.int (255) t_MOST_HELD)))
    (g_MOST_NEED : PySem.W.nsIn K mainGlobals "MOST_NEED" = some (some (.int (12) t_MOST_NEED)))
    (g_MOST_TOLD : PySem.W.nsIn K mainGlobals "MOST_TOLD" = some (some (.int (24) t_MOST_TOLD)))
    (g_MOST_DIVISOR : PySem.W.nsIn K mainGlobals "MOST_DIVISOR" = some (some (.int (1000) t_MOST_DIVISOR)))
    (g_MOST_WORTH : PySem.W.nsIn K mainGlobals "MOST_WORTH" = some (some (.int (1000000) t_MOST_WORTH)))
    (g_MOST_REBATE : PySem.W.nsIn K mainGlobals "MOST_REBATE" = some (some (.int (10000000) t_MOST_REBATE)))
    (g_MOST_LOST : PySem.W.nsIn K mainGlobals "MOST_LOST" = some (some (.int (12) t_MOST_LOST)))
    (g_MOST_SPENT : PySem.W.nsIn K mainGlobals "MOST_SPENT" = some (some (.int (12000) t_MOST_SPENT)))
    (g_LAND : PySem.W.nsIn K mainGlobals "LAND" = some (some (.int (0) t_LAND)))
    (g_NO_LAND : PySem.W.nsIn K mainGlobals "NO_LAND" = some (some (.int (-1) t_NO_LAND)))
    (g_NUMBER_OUT : PySem.W.nsIn K mainGlobals "NUMBER_OUT" = some (some (.int (-3) t_NUMBER_OUT)))
    (g_LIST_OUT : PySem.W.nsIn K mainGlobals "LIST_OUT" = some (some (.int (-4) t_LIST_OUT)))
    (g_NONE_FITS : PySem.W.nsIn K mainGlobals "NONE_FITS" = some (some (.int (-6) t_NONE_FITS)))
    (b_all : PySem.W.nsIn K mainGlobals "all" = some none)
    (b_enumerate : PySem.W.nsIn K mainGlobals "enumerate" = some none)
    (b_len : PySem.W.nsIn K mainGlobals "len" = some none)
    (b_list : PySem.W.nsIn K mainGlobals "list" = some none)
    (b_max : PySem.W.nsIn K mainGlobals "max" = some none)
    (b_min : PySem.W.nsIn K mainGlobals "min" = some none)
    (b_range : PySem.W.nsIn K mainGlobals "range" = some none)
    (b_sum : PySem.W.nsIn K mainGlobals "sum" = some none)
    (b_zip : PySem.W.nsIn K mainGlobals "zip" = some none)
    (aD_CALLS : PySem.W.nsIn K mainGlobals "CALLS" = some (some (.ref d_CALLS)))
    (k_CALLS : K.lookup d_CALLS = some ⟨.type "dict", none, .dict #[⟨hashInt 0, .int 0 kt_CALLS_0, .ref tt_CALLS_0⟩, ⟨hashInt 1, .int 1 kt_CALLS_1, .ref tt_CALLS_1⟩, ⟨hashInt 2, .int 2 kt_CALLS_2, .ref tt_CALLS_2⟩, ⟨hashInt 3, .int 3 kt_CALLS_3, .ref tt_CALLS_3⟩, ⟨hashInt 4, .int 4 kt_CALLS_4, .ref tt_CALLS_4⟩, ⟨hashInt 5, .int 5 kt_CALLS_5, .ref tt_CALLS_5⟩, ⟨hashInt 6, .int 6 kt_CALLS_6, .ref tt_CALLS_6⟩, ⟨hashInt 7, .int 7 kt_CALLS_7, .ref tt_CALLS_7⟩, ⟨hashInt 8, .int 8 kt_CALLS_8, .ref tt_CALLS_8⟩, ⟨hashInt 9, .int 9 kt_CALLS_9, .ref tt_CALLS_9⟩, ⟨hashInt 10, .int 10 kt_CALLS_10, .ref tt_CALLS_10⟩, ⟨hashInt 11, .int 11 kt_CALLS_11, .ref tt_CALLS_11⟩, ⟨hashInt 12, .int 12 kt_CALLS_12, .ref tt_CALLS_12⟩, ⟨hashInt 13, .int 13 kt_CALLS_13, .ref tt_CALLS_13⟩] ep_CALLS, #[]⟩)
    (u_CALLS_0 : K.lookup tt_CALLS_0 = some ⟨.type "tuple", od_CALLS_0, .seq #[.int 2 ti_CALLS_0_0, .int 2 ti_CALLS_0_1, .ref f_call_land] n_CALLS_0, sl_CALLS_0⟩)
    (u_CALLS_1 : K.lookup tt_CALLS_1 = some ⟨.type "tuple", od_CALLS_1, .seq #[.int 0 ti_CALLS_1_0, .int 0 ti_CALLS_1_1, .ref f_call_told] n_CALLS_1, sl_CALLS_1⟩)
    (u_CALLS_2 : K.lookup tt_CALLS_2 = some ⟨.type "tuple", od_CALLS_2, .seq #[.int 0 ti_CALLS_2_0, .int 1 ti_CALLS_2_1, .ref f_call_need] n_CALLS_2, sl_CALLS_2⟩)
    (u_CALLS_3 : K.lookup tt_CALLS_3 = some ⟨.type "tuple", od_CALLS_3, .seq #[.int 0 ti_CALLS_3_0, .int 1 ti_CALLS_3_1, .ref f_call_fits] n_CALLS_3, sl_CALLS_3⟩)
    (u_CALLS_4 : K.lookup tt_CALLS_4 = some ⟨.type "tuple", od_CALLS_4, .seq #[.int 0 ti_CALLS_4_0, .int 1 ti_CALLS_4_1, .ref f_call_price] n_CALLS_4, sl_CALLS_4⟩)
    (u_CALLS_5 : K.lookup tt_CALLS_5 = some ⟨.type "tuple", od_CALLS_5, .seq #[.int 0 ti_CALLS_5_0, .int 1 ti_CALLS_5_1, .ref f_call_pieces] n_CALLS_5, sl_CALLS_5⟩)
    (u_CALLS_6 : K.lookup tt_CALLS_6 = some ⟨.type "tuple", od_CALLS_6, .seq #[.int 1 ti_CALLS_6_0, .int 0 ti_CALLS_6_1, .ref f_call_best] n_CALLS_6, sl_CALLS_6⟩)
    (u_CALLS_7 : K.lookup tt_CALLS_7 = some ⟨.type "tuple", od_CALLS_7, .seq #[.int 1 ti_CALLS_7_0, .int 0 ti_CALLS_7_1, .ref f_call_number] n_CALLS_7, sl_CALLS_7⟩)
    (u_CALLS_8 : K.lookup tt_CALLS_8 = some ⟨.type "tuple", od_CALLS_8, .seq #[.int 0 ti_CALLS_8_0, .int 0 ti_CALLS_8_1, .ref f_call_must] n_CALLS_8, sl_CALLS_8⟩)
    (u_CALLS_9 : K.lookup tt_CALLS_9 = some ⟨.type "tuple", od_CALLS_9, .seq #[.int 0 ti_CALLS_9_0, .int 1 ti_CALLS_9_1, .ref f_call_corridor] n_CALLS_9, sl_CALLS_9⟩)
    (u_CALLS_10 : K.lookup tt_CALLS_10 = some ⟨.type "tuple", od_CALLS_10, .seq #[.int 2 ti_CALLS_10_0, .int 0 ti_CALLS_10_1, .ref f_call_way] n_CALLS_10, sl_CALLS_10⟩)
    (u_CALLS_11 : K.lookup tt_CALLS_11 = some ⟨.type "tuple", od_CALLS_11, .seq #[.int 1 ti_CALLS_11_0, .int 2 ti_CALLS_11_1, .ref f_call_bound] n_CALLS_11, sl_CALLS_11⟩)
    (u_CALLS_12 : K.lookup tt_CALLS_12 = some ⟨.type "tuple", od_CALLS_12, .seq #[.int 1 ti_CALLS_12_0, .int 1 ti_CALLS_12_1, .ref f_call_hardy] n_CALLS_12, sl_CALLS_12⟩)
    (u_CALLS_13 : K.lookup tt_CALLS_13 = some ⟨.type "tuple", od_CALLS_13, .seq #[.int 2 ti_CALLS_13_0, .int 0 ti_CALLS_13_1, .ref f_call_most] n_CALLS_13, sl_CALLS_13⟩)
    : ∃ A : Ad, Txt K mg A ∧ True := by
  have F_Reader_init := fun_mk (st := s_Reader_init) l_Reader_init c_Reader_init k_Reader_init
  have F_Reader_has_more := fun_mk (st := s_Reader_has_more) l_Reader_has_more c_Reader_has_more k_Reader_has_more
  have F_Reader_take_number := fun_mk (st := s_Reader_take_number) l_Reader_take_number c_Reader_take_number k_Reader_take_number
  have F_Reader_take_numbers := fun_mk (st := s_Reader_take_numbers) l_Reader_take_numbers c_Reader_take_numbers k_Reader_take_numbers
  have F_Reader_take_list := fun_mk (st := s_Reader_take_list) l_Reader_take_list c_Reader_take_list k_Reader_take_list
  have F_Reserve_init := fun_mk (st := s_Reserve_init) l_Reserve_init c_Reserve_init k_Reserve_init
  have F_Reserve_has_land := fun_mk (st := s_Reserve_has_land) l_Reserve_has_land c_Reserve_has_land k_Reserve_has_land
  have F_Reserve_hold_land := fun_mk (st := s_Reserve_hold_land) l_Reserve_hold_land c_Reserve_hold_land k_Reserve_hold_land
  have F_set_of := fun_mk (st := s_set_of) l_set_of c_set_of k_set_of
  have F_cells_of := fun_mk (st := s_cells_of) l_cells_of c_cells_of k_cells_of
  have F_neighbours := fun_mk (st := s_neighbours) l_neighbours c_neighbours k_neighbours
  have F_first_piece := fun_mk (st := s_first_piece) l_first_piece c_first_piece k_first_piece
  have F_count_pieces := fun_mk (st := s_count_pieces) l_count_pieces c_count_pieces k_count_pieces
  have F_sets_in_one_piece := fun_mk (st := s_sets_in_one_piece) l_sets_in_one_piece c_sets_in_one_piece k_sets_in_one_piece
  have F_asked_sets := fun_mk (st := s_asked_sets) l_asked_sets c_asked_sets k_asked_sets
  have F_holders := fun_mk (st := s_holders) l_holders c_holders k_holders
  have F_sum_over := fun_mk (st := s_sum_over) l_sum_over c_sum_over k_sum_over
  have F_sums_over_all := fun_mk (st := s_sums_over_all) l_sums_over_all c_sums_over_all k_sums_over_all
  have F_fits_without := fun_mk (st := s_fits_without) l_fits_without c_fits_without k_fits_without
  have F_fitting_sets := fun_mk (st := s_fitting_sets) l_fitting_sets c_fitting_sets k_fitting_sets
  have F_first_cheapest := fun_mk (st := s_first_cheapest) l_first_cheapest c_first_cheapest k_first_cheapest
  have F_price_and_cells := fun_mk (st := s_price_and_cells) l_price_and_cells c_price_and_cells k_price_and_cells
  have F_least_way := fun_mk (st := s_least_way) l_least_way c_least_way k_least_way
  have F_is_proof := fun_mk (st := s_is_proof) l_is_proof c_is_proof k_is_proof
  have F_bound_of := fun_mk (st := s_bound_of) l_bound_of c_bound_of k_bound_of
  have F_kept_kinds := fun_mk (st := s_kept_kinds) l_kept_kinds c_kept_kinds k_kept_kinds
  have F_all_within := fun_mk (st := s_all_within) l_all_within c_all_within k_all_within
  have F_is_list_of := fun_mk (st := s_is_list_of) l_is_list_of c_is_list_of k_is_list_of
  have F_is_told_set := fun_mk (st := s_is_told_set) l_is_told_set c_is_told_set k_is_told_set
  have F_call_land := fun_mk (st := s_call_land) l_call_land c_call_land k_call_land
  have F_call_told := fun_mk (st := s_call_told) l_call_told c_call_told k_call_told
  have F_call_need := fun_mk (st := s_call_need) l_call_need c_call_need k_call_need
  have F_call_fits := fun_mk (st := s_call_fits) l_call_fits c_call_fits k_call_fits
  have F_call_price := fun_mk (st := s_call_price) l_call_price c_call_price k_call_price
  have F_call_pieces := fun_mk (st := s_call_pieces) l_call_pieces c_call_pieces k_call_pieces
  have F_call_best := fun_mk (st := s_call_best) l_call_best c_call_best k_call_best
  have F_call_number := fun_mk (st := s_call_number) l_call_number c_call_number k_call_number
  have F_call_must := fun_mk (st := s_call_must) l_call_must c_call_must k_call_must
  have F_call_corridor := fun_mk (st := s_call_corridor) l_call_corridor c_call_corridor k_call_corridor
  have F_call_way := fun_mk (st := s_call_way) l_call_way c_call_way k_call_way
  have F_call_bound := fun_mk (st := s_call_bound) l_call_bound c_call_bound k_call_bound
  have F_call_hardy := fun_mk (st := s_call_hardy) l_call_hardy c_call_hardy k_call_hardy
  have F_call_most := fun_mk (st := s_call_most) l_call_most c_call_most k_call_most
  have F_answer_next := fun_mk (st := s_answer_next) l_answer_next c_answer_next k_answer_next
  have F_answers := fun_mk (st := s_answers) l_answers c_answers k_answers
  refine ⟨{
    f_Reader_init := f_Reader_init, fd_Reader_init := _,
    f_Reader_has_more := f_Reader_has_more, fd_Reader_has_more := _,
    f_Reader_take_number := f_Reader_take_number, fd_Reader_take_number := _,
    f_Reader_take_numbers := f_Reader_take_numbers, fd_Reader_take_numbers := _,
    f_Reader_take_list := f_Reader_take_list, fd_Reader_take_list := _,
    f_Reserve_init := f_Reserve_init, fd_Reserve_init := _,
    f_Reserve_has_land := f_Reserve_has_land, fd_Reserve_has_land := _,
    f_Reserve_hold_land := f_Reserve_hold_land, fd_Reserve_hold_land := _,
    f_set_of := f_set_of, fd_set_of := _,
    f_cells_of := f_cells_of, fd_cells_of := _,
    f_neighbours := f_neighbours, fd_neighbours := _,
    f_first_piece := f_first_piece, fd_first_piece := _,
    f_count_pieces := f_count_pieces, fd_count_pieces := _,
    f_sets_in_one_piece := f_sets_in_one_piece, fd_sets_in_one_piece := _,
    f_asked_sets := f_asked_sets, fd_asked_sets := _,
    f_holders := f_holders, fd_holders := _,
    f_sum_over := f_sum_over, fd_sum_over := _,
    f_sums_over_all := f_sums_over_all, fd_sums_over_all := _,
    f_fits_without := f_fits_without, fd_fits_without := _,
    f_fitting_sets := f_fitting_sets, fd_fitting_sets := _,
    f_first_cheapest := f_first_cheapest, fd_first_cheapest := _,
    f_price_and_cells := f_price_and_cells, fd_price_and_cells := _,
    f_least_way := f_least_way, fd_least_way := _,
    f_is_proof := f_is_proof, fd_is_proof := _,
    f_bound_of := f_bound_of, fd_bound_of := _,
    f_kept_kinds := f_kept_kinds, fd_kept_kinds := _,
    f_all_within := f_all_within, fd_all_within := _,
    f_is_list_of := f_is_list_of, fd_is_list_of := _,
    f_is_told_set := f_is_told_set, fd_is_told_set := _,
    f_call_land := f_call_land, fd_call_land := _,
    f_call_told := f_call_told, fd_call_told := _,
    f_call_need := f_call_need, fd_call_need := _,
    f_call_fits := f_call_fits, fd_call_fits := _,
    f_call_price := f_call_price, fd_call_price := _,
    f_call_pieces := f_call_pieces, fd_call_pieces := _,
    f_call_best := f_call_best, fd_call_best := _,
    f_call_number := f_call_number, fd_call_number := _,
    f_call_must := f_call_must, fd_call_must := _,
    f_call_corridor := f_call_corridor, fd_call_corridor := _,
    f_call_way := f_call_way, fd_call_way := _,
    f_call_bound := f_call_bound, fd_call_bound := _,
    f_call_hardy := f_call_hardy, fd_call_hardy := _,
    f_call_most := f_call_most, fd_call_most := _,
    f_answer_next := f_answer_next, fd_answer_next := _,
    f_answers := f_answers, fd_answers := _,
    c_Reader := c_Reader,
    c_Reserve := c_Reserve,
    t_KINDS := t_KINDS,
    t_MOST_SIDE := t_MOST_SIDE,
    t_MOST_CELLS := t_MOST_CELLS,
    t_MOST_PRICE := t_MOST_PRICE,
    t_MOST_HELD := t_MOST_HELD,
    t_MOST_NEED := t_MOST_NEED,
    t_MOST_TOLD := t_MOST_TOLD,
    t_MOST_DIVISOR := t_MOST_DIVISOR,
    t_MOST_WORTH := t_MOST_WORTH,
    t_MOST_REBATE := t_MOST_REBATE,
    t_MOST_LOST := t_MOST_LOST,
    t_MOST_SPENT := t_MOST_SPENT,
    t_LAND := t_LAND,
    t_NO_LAND := t_NO_LAND,
    t_NUMBER_OUT := t_NUMBER_OUT,
    t_LIST_OUT := t_LIST_OUT,
    t_NONE_FITS := t_NONE_FITS,
    d_CALLS := d_CALLS, e_CALLS := _,
    tt_CALLS_0 := tt_CALLS_0,
    tt_CALLS_1 := tt_CALLS_1,
    tt_CALLS_2 := tt_CALLS_2,
    tt_CALLS_3 := tt_CALLS_3,
    tt_CALLS_4 := tt_CALLS_4,
    tt_CALLS_5 := tt_CALLS_5,
    tt_CALLS_6 := tt_CALLS_6,
    tt_CALLS_7 := tt_CALLS_7,
    tt_CALLS_8 := tt_CALLS_8,
    tt_CALLS_9 := tt_CALLS_9,
    tt_CALLS_10 := tt_CALLS_10,
    tt_CALLS_11 := tt_CALLS_11,
    tt_CALLS_12 := tt_CALLS_12,
    tt_CALLS_13 := tt_CALLS_13 }, {
    fn_Reader_init := F_Reader_init,
    bd_Reader_init := F_Reader_init.binds (ps := ["self", "line"]) fun _ _ _ _ _ _ us hl => us_len2 (P := fun us => bindArgs _ { pos := us } = pure (List.zip _ us)) (fun _ _ => rfl) us hl,
    fn_Reader_has_more := F_Reader_has_more,
    bd_Reader_has_more := F_Reader_has_more.binds (ps := ["self"]) fun _ _ _ _ _ _ us hl => us_len1 (P := fun us => bindArgs _ { pos := us } = pure (List.zip _ us)) (fun _ => rfl) us hl,
    me_Reader_has_more := ⟨a_Reader_has_more, i_Reader_has_more, k_Reader_has_more⟩,
    fn_Reader_take_number := F_Reader_take_number,
    bd_Reader_take_number := F_Reader_take_number.binds (ps := ["self"]) fun _ _ _ _ _ _ us hl => us_len1 (P := fun us => bindArgs _ { pos := us } = pure (List.zip _ us)) (fun _ => rfl) us hl,
    me_Reader_take_number := ⟨a_Reader_take_number, i_Reader_take_number, k_Reader_take_number⟩,
    fn_Reader_take_numbers := F_Reader_take_numbers,
    bd_Reader_take_numbers := F_Reader_take_numbers.binds (ps := ["self", "many"]) fun _ _ _ _ _ _ us hl => us_len2 (P := fun us => bindArgs _ { pos := us } = pure (List.zip _ us)) (fun _ _ => rfl) us hl,
    me_Reader_take_numbers := ⟨a_Reader_take_numbers, i_Reader_take_numbers, k_Reader_take_numbers⟩,
    fn_Reader_take_list := F_Reader_take_list,
    bd_Reader_take_list := F_Reader_take_list.binds (ps := ["self"]) fun _ _ _ _ _ _ us hl => us_len1 (P := fun us => bindArgs _ { pos := us } = pure (List.zip _ us)) (fun _ => rfl) us hl,
    me_Reader_take_list := ⟨a_Reader_take_list, i_Reader_take_list, k_Reader_take_list⟩,
    fn_Reserve_init := F_Reserve_init,
    bd_Reserve_init := F_Reserve_init.binds (ps := ["self"]) fun _ _ _ _ _ _ us hl => us_len1 (P := fun us => bindArgs _ { pos := us } = pure (List.zip _ us)) (fun _ => rfl) us hl,
    fn_Reserve_has_land := F_Reserve_has_land,
    bd_Reserve_has_land := F_Reserve_has_land.binds (ps := ["self"]) fun _ _ _ _ _ _ us hl => us_len1 (P := fun us => bindArgs _ { pos := us } = pure (List.zip _ us)) (fun _ => rfl) us hl,
    me_Reserve_has_land := ⟨a_Reserve_has_land, i_Reserve_has_land, k_Reserve_has_land⟩,
    fn_Reserve_hold_land := F_Reserve_hold_land,
    bd_Reserve_hold_land := F_Reserve_hold_land.binds (ps := ["self", "width", "height", "prices", "kinds"]) fun _ _ _ _ _ _ us hl => us_len5 (P := fun us => bindArgs _ { pos := us } = pure (List.zip _ us)) (fun _ _ _ _ _ => rfl) us hl,
    me_Reserve_hold_land := ⟨a_Reserve_hold_land, i_Reserve_hold_land, k_Reserve_hold_land⟩,
    fn_set_of := F_set_of,
    bd_set_of := F_set_of.binds (ps := ["cells"]) fun _ _ _ _ _ _ us hl => us_len1 (P := fun us => bindArgs _ { pos := us } = pure (List.zip _ us)) (fun _ => rfl) us hl,
    kp_set_of := k_set_of,
    m_set_of := PySem.W.mg_of X G a_set_of,
    fn_cells_of := F_cells_of,
    bd_cells_of := F_cells_of.binds (ps := ["members"]) fun _ _ _ _ _ _ us hl => us_len1 (P := fun us => bindArgs _ { pos := us } = pure (List.zip _ us)) (fun _ => rfl) us hl,
    kp_cells_of := k_cells_of,
    m_cells_of := PySem.W.mg_of X G a_cells_of,
    fn_neighbours := F_neighbours,
    bd_neighbours := F_neighbours.binds (ps := ["width", "height", "cell"]) fun _ _ _ _ _ _ us hl => us_len3 (P := fun us => bindArgs _ { pos := us } = pure (List.zip _ us)) (fun _ _ _ => rfl) us hl,
    kp_neighbours := k_neighbours,
    m_neighbours := PySem.W.mg_of X G a_neighbours,
    fn_first_piece := F_first_piece,
    bd_first_piece := F_first_piece.binds (ps := ["beside", "members"]) fun _ _ _ _ _ _ us hl => us_len2 (P := fun us => bindArgs _ { pos := us } = pure (List.zip _ us)) (fun _ _ => rfl) us hl,
    kp_first_piece := k_first_piece,
    m_first_piece := PySem.W.mg_of X G a_first_piece,
    fn_count_pieces := F_count_pieces,
    bd_count_pieces := F_count_pieces.binds (ps := ["beside", "members"]) fun _ _ _ _ _ _ us hl => us_len2 (P := fun us => bindArgs _ { pos := us } = pure (List.zip _ us)) (fun _ _ => rfl) us hl,
    kp_count_pieces := k_count_pieces,
    m_count_pieces := PySem.W.mg_of X G a_count_pieces,
    fn_sets_in_one_piece := F_sets_in_one_piece,
    bd_sets_in_one_piece := F_sets_in_one_piece.binds (ps := ["beside"]) fun _ _ _ _ _ _ us hl => us_len1 (P := fun us => bindArgs _ { pos := us } = pure (List.zip _ us)) (fun _ => rfl) us hl,
    kp_sets_in_one_piece := k_sets_in_one_piece,
    m_sets_in_one_piece := PySem.W.mg_of X G a_sets_in_one_piece,
    fn_asked_sets := F_asked_sets,
    bd_asked_sets := F_asked_sets.binds (ps := ["reserve", "one"]) fun _ _ _ _ _ _ us hl => us_len2 (P := fun us => bindArgs _ { pos := us } = pure (List.zip _ us)) (fun _ _ => rfl) us hl,
    kp_asked_sets := k_asked_sets,
    m_asked_sets := PySem.W.mg_of X G a_asked_sets,
    fn_holders := F_holders,
    bd_holders := F_holders.binds (ps := ["kinds", "kind"]) fun _ _ _ _ _ _ us hl => us_len2 (P := fun us => bindArgs _ { pos := us } = pure (List.zip _ us)) (fun _ _ => rfl) us hl,
    kp_holders := k_holders,
    m_holders := PySem.W.mg_of X G a_holders,
    fn_sum_over := F_sum_over,
    bd_sum_over := F_sum_over.binds (ps := ["worths", "members"]) fun _ _ _ _ _ _ us hl => us_len2 (P := fun us => bindArgs _ { pos := us } = pure (List.zip _ us)) (fun _ _ => rfl) us hl,
    kp_sum_over := k_sum_over,
    m_sum_over := PySem.W.mg_of X G a_sum_over,
    fn_sums_over_all := F_sums_over_all,
    bd_sums_over_all := F_sums_over_all.binds (ps := ["worths"]) fun _ _ _ _ _ _ us hl => us_len1 (P := fun us => bindArgs _ { pos := us } = pure (List.zip _ us)) (fun _ => rfl) us hl,
    kp_sums_over_all := k_sums_over_all,
    m_sums_over_all := PySem.W.mg_of X G a_sums_over_all,
    fn_fits_without := F_fits_without,
    bd_fits_without := F_fits_without.binds (ps := ["reserve", "lost", "members"]) fun _ _ _ _ _ _ us hl => us_len3 (P := fun us => bindArgs _ { pos := us } = pure (List.zip _ us)) (fun _ _ _ => rfl) us hl,
    kp_fits_without := k_fits_without,
    m_fits_without := PySem.W.mg_of X G a_fits_without,
    fn_fitting_sets := F_fitting_sets,
    bd_fitting_sets := F_fitting_sets.binds (ps := ["reserve", "one"]) fun _ _ _ _ _ _ us hl => us_len2 (P := fun us => bindArgs _ { pos := us } = pure (List.zip _ us)) (fun _ _ => rfl) us hl,
    kp_fitting_sets := k_fitting_sets,
    m_fitting_sets := PySem.W.mg_of X G a_fitting_sets,
    fn_first_cheapest := F_first_cheapest,
    bd_first_cheapest := F_first_cheapest.binds (ps := ["reserve", "sets"]) fun _ _ _ _ _ _ us hl => us_len2 (P := fun us => bindArgs _ { pos := us } = pure (List.zip _ us)) (fun _ _ => rfl) us hl,
    kp_first_cheapest := k_first_cheapest,
    m_first_cheapest := PySem.W.mg_of X G a_first_cheapest,
    fn_price_and_cells := F_price_and_cells,
    bd_price_and_cells := F_price_and_cells.binds (ps := ["reserve", "members"]) fun _ _ _ _ _ _ us hl => us_len2 (P := fun us => bindArgs _ { pos := us } = pure (List.zip _ us)) (fun _ _ => rfl) us hl,
    kp_price_and_cells := k_price_and_cells,
    m_price_and_cells := PySem.W.mg_of X G a_price_and_cells,
    fn_least_way := F_least_way,
    bd_least_way := F_least_way.binds (ps := ["reserve", "begin", "end"]) fun _ _ _ _ _ _ us hl => us_len3 (P := fun us => bindArgs _ { pos := us } = pure (List.zip _ us)) (fun _ _ _ => rfl) us hl,
    kp_least_way := k_least_way,
    m_least_way := PySem.W.mg_of X G a_least_way,
    fn_is_proof := F_is_proof,
    bd_is_proof := F_is_proof.binds (ps := ["reserve", "divisor", "worths", "rebates"]) fun _ _ _ _ _ _ us hl => us_len4 (P := fun us => bindArgs _ { pos := us } = pure (List.zip _ us)) (fun _ _ _ _ => rfl) us hl,
    kp_is_proof := k_is_proof,
    m_is_proof := PySem.W.mg_of X G a_is_proof,
    fn_bound_of := F_bound_of,
    bd_bound_of := F_bound_of.binds (ps := ["reserve", "divisor", "worths", "rebates"]) fun _ _ _ _ _ _ us hl => us_len4 (P := fun us => bindArgs _ { pos := us } = pure (List.zip _ us)) (fun _ _ _ _ => rfl) us hl,
    kp_bound_of := k_bound_of,
    m_bound_of := PySem.W.mg_of X G a_bound_of,
    fn_kept_kinds := F_kept_kinds,
    bd_kept_kinds := F_kept_kinds.binds (ps := ["reserve", "sets"]) fun _ _ _ _ _ _ us hl => us_len2 (P := fun us => bindArgs _ { pos := us } = pure (List.zip _ us)) (fun _ _ => rfl) us hl,
    kp_kept_kinds := k_kept_kinds,
    m_kept_kinds := PySem.W.mg_of X G a_kept_kinds,
    fn_all_within := F_all_within,
    bd_all_within := F_all_within.binds (ps := ["numbers", "least", "most"]) fun _ _ _ _ _ _ us hl => us_len3 (P := fun us => bindArgs _ { pos := us } = pure (List.zip _ us)) (fun _ _ _ => rfl) us hl,
    kp_all_within := k_all_within,
    m_all_within := PySem.W.mg_of X G a_all_within,
    fn_is_list_of := F_is_list_of,
    bd_is_list_of := F_is_list_of.binds (ps := ["numbers", "length", "most"]) fun _ _ _ _ _ _ us hl => us_len3 (P := fun us => bindArgs _ { pos := us } = pure (List.zip _ us)) (fun _ _ _ => rfl) us hl,
    kp_is_list_of := k_is_list_of,
    m_is_list_of := PySem.W.mg_of X G a_is_list_of,
    fn_is_told_set := F_is_told_set,
    bd_is_told_set := F_is_told_set.binds (ps := ["reserve", "cells"]) fun _ _ _ _ _ _ us hl => us_len2 (P := fun us => bindArgs _ { pos := us } = pure (List.zip _ us)) (fun _ _ => rfl) us hl,
    kp_is_told_set := k_is_told_set,
    m_is_told_set := PySem.W.mg_of X G a_is_told_set,
    fn_call_land := F_call_land,
    bd_call_land := F_call_land.binds (ps := ["reserve", "numbers", "lists"]) fun _ _ _ _ _ _ us hl => us_len3 (P := fun us => bindArgs _ { pos := us } = pure (List.zip _ us)) (fun _ _ _ => rfl) us hl,
    kp_call_land := k_call_land,
    fn_call_told := F_call_told,
    bd_call_told := F_call_told.binds (ps := ["reserve", "numbers", "lists"]) fun _ _ _ _ _ _ us hl => us_len3 (P := fun us => bindArgs _ { pos := us } = pure (List.zip _ us)) (fun _ _ _ => rfl) us hl,
    kp_call_told := k_call_told,
    fn_call_need := F_call_need,
    bd_call_need := F_call_need.binds (ps := ["reserve", "numbers", "lists"]) fun _ _ _ _ _ _ us hl => us_len3 (P := fun us => bindArgs _ { pos := us } = pure (List.zip _ us)) (fun _ _ _ => rfl) us hl,
    kp_call_need := k_call_need,
    fn_call_fits := F_call_fits,
    bd_call_fits := F_call_fits.binds (ps := ["reserve", "numbers", "lists"]) fun _ _ _ _ _ _ us hl => us_len3 (P := fun us => bindArgs _ { pos := us } = pure (List.zip _ us)) (fun _ _ _ => rfl) us hl,
    kp_call_fits := k_call_fits,
    fn_call_price := F_call_price,
    bd_call_price := F_call_price.binds (ps := ["reserve", "numbers", "lists"]) fun _ _ _ _ _ _ us hl => us_len3 (P := fun us => bindArgs _ { pos := us } = pure (List.zip _ us)) (fun _ _ _ => rfl) us hl,
    kp_call_price := k_call_price,
    fn_call_pieces := F_call_pieces,
    bd_call_pieces := F_call_pieces.binds (ps := ["reserve", "numbers", "lists"]) fun _ _ _ _ _ _ us hl => us_len3 (P := fun us => bindArgs _ { pos := us } = pure (List.zip _ us)) (fun _ _ _ => rfl) us hl,
    kp_call_pieces := k_call_pieces,
    fn_call_best := F_call_best,
    bd_call_best := F_call_best.binds (ps := ["reserve", "numbers", "lists"]) fun _ _ _ _ _ _ us hl => us_len3 (P := fun us => bindArgs _ { pos := us } = pure (List.zip _ us)) (fun _ _ _ => rfl) us hl,
    kp_call_best := k_call_best,
    fn_call_number := F_call_number,
    bd_call_number := F_call_number.binds (ps := ["reserve", "numbers", "lists"]) fun _ _ _ _ _ _ us hl => us_len3 (P := fun us => bindArgs _ { pos := us } = pure (List.zip _ us)) (fun _ _ _ => rfl) us hl,
    kp_call_number := k_call_number,
    fn_call_must := F_call_must,
    bd_call_must := F_call_must.binds (ps := ["reserve", "numbers", "lists"]) fun _ _ _ _ _ _ us hl => us_len3 (P := fun us => bindArgs _ { pos := us } = pure (List.zip _ us)) (fun _ _ _ => rfl) us hl,
    kp_call_must := k_call_must,
    fn_call_corridor := F_call_corridor,
    bd_call_corridor := F_call_corridor.binds (ps := ["reserve", "numbers", "lists"]) fun _ _ _ _ _ _ us hl => us_len3 (P := fun us => bindArgs _ { pos := us } = pure (List.zip _ us)) (fun _ _ _ => rfl) us hl,
    kp_call_corridor := k_call_corridor,
    fn_call_way := F_call_way,
    bd_call_way := F_call_way.binds (ps := ["reserve", "numbers", "lists"]) fun _ _ _ _ _ _ us hl => us_len3 (P := fun us => bindArgs _ { pos := us } = pure (List.zip _ us)) (fun _ _ _ => rfl) us hl,
    kp_call_way := k_call_way,
    fn_call_bound := F_call_bound,
    bd_call_bound := F_call_bound.binds (ps := ["reserve", "numbers", "lists"]) fun _ _ _ _ _ _ us hl => us_len3 (P := fun us => bindArgs _ { pos := us } = pure (List.zip _ us)) (fun _ _ _ => rfl) us hl,
    kp_call_bound := k_call_bound,
    fn_call_hardy := F_call_hardy,
    bd_call_hardy := F_call_hardy.binds (ps := ["reserve", "numbers", "lists"]) fun _ _ _ _ _ _ us hl => us_len3 (P := fun us => bindArgs _ { pos := us } = pure (List.zip _ us)) (fun _ _ _ => rfl) us hl,
    kp_call_hardy := k_call_hardy,
    fn_call_most := F_call_most,
    bd_call_most := F_call_most.binds (ps := ["reserve", "numbers", "lists"]) fun _ _ _ _ _ _ us hl => us_len3 (P := fun us => bindArgs _ { pos := us } = pure (List.zip _ us)) (fun _ _ _ => rfl) us hl,
    kp_call_most := k_call_most,
    fn_answer_next := F_answer_next,
    bd_answer_next := F_answer_next.binds (ps := ["reserve", "reader"]) fun _ _ _ _ _ _ us hl => us_len2 (P := fun us => bindArgs _ { pos := us } = pure (List.zip _ us)) (fun _ _ => rfl) us hl,
    kp_answer_next := k_answer_next,
    m_answer_next := PySem.W.mg_of X G a_answer_next,
    fn_answers := F_answers,
    m_answers := PySem.W.mg_of X G a_answers,
    ba_answers := fun s us hu => us_len1 (P := fun us => BindsTo s _ ⟨us, []⟩ ((["calls"] : List Str).zip us)) (fun _ => .of_eq rfl) us hu,
    m_Reader := PySem.W.mg_of X G aC_Reader,
    cl_Reader := ⟨pg_Reader, hd_Reader, po_Reader, sa_Reader⟩,
    mk_Reader := ⟨mk_Reader, a_Reader_init, i_Reader_init, kc_Reader⟩,
    na_Reader_line := n_Reader_line,
    na_Reader_place := n_Reader_place,
    m_Reserve := PySem.W.mg_of X G aC_Reserve,
    cl_Reserve := ⟨pg_Reserve, hd_Reserve, po_Reserve, sa_Reserve⟩,
    mk_Reserve := ⟨mk_Reserve, a_Reserve_init, i_Reserve_init, kc_Reserve⟩,
    na_Reserve_width := n_Reserve_width,
    na_Reserve_height := n_Reserve_height,
    na_Reserve_prices := n_Reserve_prices,
    na_Reserve_kinds := n_Reserve_kinds,
    na_Reserve_beside := n_Reserve_beside,
    na_Reserve_needs := n_Reserve_needs,
    g_KINDS := PySem.W.mg_of X G g_KINDS,
    g_MOST_SIDE := PySem.W.mg_of X G g_MOST_SIDE,
    g_MOST_CELLS := PySem.W.mg_of X G g_MOST_CELLS,
    g_MOST_PRICE := PySem.W.mg_of X G g_MOST_PRICE,
    g_MOST_HELD := PySem.W.mg_of X G g_MOST_HELD,
    g_MOST_NEED := PySem.W.mg_of X G g_MOST_NEED,
    g_MOST_TOLD := PySem.W.mg_of X G g_MOST_TOLD,
    g_MOST_DIVISOR := PySem.W.mg_of X G g_MOST_DIVISOR,
    g_MOST_WORTH := PySem.W.mg_of X G g_MOST_WORTH,
    g_MOST_REBATE := PySem.W.mg_of X G g_MOST_REBATE,
    g_MOST_LOST := PySem.W.mg_of X G g_MOST_LOST,
    g_MOST_SPENT := PySem.W.mg_of X G g_MOST_SPENT,
    g_LAND := PySem.W.mg_of X G g_LAND,
    g_NO_LAND := PySem.W.mg_of X G g_NO_LAND,
    g_NUMBER_OUT := PySem.W.mg_of X G g_NUMBER_OUT,
    g_LIST_OUT := PySem.W.mg_of X G g_LIST_OUT,
    g_NONE_FITS := PySem.W.mg_of X G g_NONE_FITS,
    b_all := PySem.W.mg_none_of X G b_all,
    b_enumerate := PySem.W.mg_none_of X G b_enumerate,
    b_len := PySem.W.mg_none_of X G b_len,
    b_list := PySem.W.mg_none_of X G b_list,
    b_max := PySem.W.mg_none_of X G b_max,
    b_min := PySem.W.mg_none_of X G b_min,
    b_range := PySem.W.mg_none_of X G b_range,
    b_sum := PySem.W.mg_none_of X G b_sum,
    b_zip := PySem.W.mg_none_of X G b_zip,
    d_CALLS := PySem.W.mg_of X G aD_CALLS,
    k_CALLS := ⟨_, k_CALLS, fun e he => by simp only [List.mem_cons, List.not_mem_nil, or_false] at he; rcases he with rfl | rfl | rfl | rfl | rfl | rfl | rfl | rfl | rfl | rfl | rfl | rfl | rfl | rfl <;> exact ⟨_, _, rfl, rfl⟩⟩,
    v_CALLS_0 := rfl,
    u_CALLS_0 := fun H => .inr ⟨_, _, _, u_CALLS_0, rfl, rfl, (by show 3 ≤ sizeLine; decide), .cons ⟨_, rfl⟩ (.cons ⟨_, rfl⟩ (.cons rfl .nil))⟩,
    v_CALLS_1 := rfl,
    u_CALLS_1 := fun H => .inr ⟨_, _, _, u_CALLS_1, rfl, rfl, (by show 3 ≤ sizeLine; decide), .cons ⟨_, rfl⟩ (.cons ⟨_, rfl⟩ (.cons rfl .nil))⟩,
    v_CALLS_2 := rfl,
    u_CALLS_2 := fun H => .inr ⟨_, _, _, u_CALLS_2, rfl, rfl, (by show 3 ≤ sizeLine; decide), .cons ⟨_, rfl⟩ (.cons ⟨_, rfl⟩ (.cons rfl .nil))⟩,
    v_CALLS_3 := rfl,
    u_CALLS_3 := fun H => .inr ⟨_, _, _, u_CALLS_3, rfl, rfl, (by show 3 ≤ sizeLine; decide), .cons ⟨_, rfl⟩ (.cons ⟨_, rfl⟩ (.cons rfl .nil))⟩,
    v_CALLS_4 := rfl,
    u_CALLS_4 := fun H => .inr ⟨_, _, _, u_CALLS_4, rfl, rfl, (by show 3 ≤ sizeLine; decide), .cons ⟨_, rfl⟩ (.cons ⟨_, rfl⟩ (.cons rfl .nil))⟩,
    v_CALLS_5 := rfl,
    u_CALLS_5 := fun H => .inr ⟨_, _, _, u_CALLS_5, rfl, rfl, (by show 3 ≤ sizeLine; decide), .cons ⟨_, rfl⟩ (.cons ⟨_, rfl⟩ (.cons rfl .nil))⟩,
    v_CALLS_6 := rfl,
    u_CALLS_6 := fun H => .inr ⟨_, _, _, u_CALLS_6, rfl, rfl, (by show 3 ≤ sizeLine; decide), .cons ⟨_, rfl⟩ (.cons ⟨_, rfl⟩ (.cons rfl .nil))⟩,
    v_CALLS_7 := rfl,
    u_CALLS_7 := fun H => .inr ⟨_, _, _, u_CALLS_7, rfl, rfl, (by show 3 ≤ sizeLine; decide), .cons ⟨_, rfl⟩ (.cons ⟨_, rfl⟩ (.cons rfl .nil))⟩,
    v_CALLS_8 := rfl,
    u_CALLS_8 := fun H => .inr ⟨_, _, _, u_CALLS_8, rfl, rfl, (by show 3 ≤ sizeLine; decide), .cons ⟨_, rfl⟩ (.cons ⟨_, rfl⟩ (.cons rfl .nil))⟩,
    v_CALLS_9 := rfl,
    u_CALLS_9 := fun H => .inr ⟨_, _, _, u_CALLS_9, rfl, rfl, (by show 3 ≤ sizeLine; decide), .cons ⟨_, rfl⟩ (.cons ⟨_, rfl⟩ (.cons rfl .nil))⟩,
    v_CALLS_10 := rfl,
    u_CALLS_10 := fun H => .inr ⟨_, _, _, u_CALLS_10, rfl, rfl, (by show 3 ≤ sizeLine; decide), .cons ⟨_, rfl⟩ (.cons ⟨_, rfl⟩ (.cons rfl .nil))⟩,
    v_CALLS_11 := rfl,
    u_CALLS_11 := fun H => .inr ⟨_, _, _, u_CALLS_11, rfl, rfl, (by show 3 ≤ sizeLine; decide), .cons ⟨_, rfl⟩ (.cons ⟨_, rfl⟩ (.cons rfl .nil))⟩,
    v_CALLS_12 := rfl,
    u_CALLS_12 := fun H => .inr ⟨_, _, _, u_CALLS_12, rfl, rfl, (by show 3 ≤ sizeLine; decide), .cons ⟨_, rfl⟩ (.cons ⟨_, rfl⟩ (.cons rfl .nil))⟩,
    v_CALLS_13 := rfl,
    u_CALLS_13 := fun H => .inr ⟨_, _, _, u_CALLS_13, rfl, rfl, (by show 3 ≤ sizeLine; decide), .cons ⟨_, rfl⟩ (.cons ⟨_, rfl⟩ (.cons rfl .nil))⟩ }, trivial⟩
end Lr
end
section
set_option Elab.async false
set_option linter.all false
set_option maxRecDepth 100000
namespace Lr
open PySem PySem.Spec PyProof.Rows L2
open Vbecao (Land numberOf members)
abbrev nv (ns : List Nat) : List V := ns.map fun (n : Nat) => V.int (n : Int)
abbrev iv (ns : List Int) : List V := ns.map V.int
theorem nv_get {ns : List Nat} {i : Nat} {y : V} (h : (nv ns)[i]? = some y) : ∃ n, ns[i]? = some n ∧ y = V.int (n : Int) := by
  rw [List.getElem?_map] at h
  cases e : ns[i]? with
  | none => rw [e] at h; cases h
  | some n => rw [e] at h; exact ⟨n, rfl, (Option.some.inj h).symm⟩
theorem nv_at {ns : List Nat} {i n : Nat} (h : ns[i]? = some n) : (nv ns)[i]? = some (V.int (n : Int)) := by rw [List.getElem?_map, h]; rfl
theorem iv_at {ns : List Int} {i : Nat} {n : Int} (h : ns[i]? = some n) : (iv ns)[i]? = some (V.int n) := by rw [List.getElem?_map, h]; rfl
theorem nv_iv (ns : List Nat) : nv ns = iv (Vbecao.ints ns) := by unfold Vbecao.ints nv iv; rw [List.map_map]; rfl
theorem take_snoc {α : Type} {l : List α} {i : Nat} {x : α} (h : l[i]? = some x) : l.take (i + 1) = l.take i ++ [x] := by
  rw [List.take_add_one, h]; rfl
theorem itb {b : Bool} {A B : Prop} (c : Bool) (e : b = c) (h1 : c = true → A) (h2 : c = false → B) : if b = true then A else B := by
  subst e
  cases b with
  | true => exact iteT (h1 rfl)
  | false => exact iteF (h2 rfl)
theorem nv_take (ns : List Nat) (k : Nat) : (nv ns).take k = nv (ns.take k) := (List.map_take ..).symm
theorem same_new {H : Hp} {p : Addr} {o : HO} (h : H p = none) : Same H (upd H p o) := fun b u e => by rw [upd_ne (ne_of_none e h)]; exact e
theorem same_newer {H H' : Hp} {p : Addr} {o : HO} (s : Same H H') (h : H p = none) : Same H (upd H' p o) := fun b u e => by rw [upd_ne (ne_of_none e h)]; exact s b u e
def Chg (H H' : Hp) (p : Addr) : Prop := ∀ b o, H b = some o → b ≠ p → H' b = some o
theorem Chg.upd {H : Hp} {p : Addr} {o : HO} : Chg H (upd H p o) p := fun b u e hb => by rw [upd_ne hb]; exact e
theorem Same.chg {H H' : Hp} {p : Addr} (s : Same H H') : Chg H H' p := fun b o e _ => s b o e
theorem Chg.trans {H H1 H2 : Hp} {p : Addr} (a : Chg H H1 p) (b : Chg H1 H2 p) : Chg H H2 p := fun c o e hc => b c o (a c o e hc) hc
theorem Chg.seq {K : PySem.W.Frag} {H H' : Hp} {p a : Addr} {xs : List V} {o : HO} (c : Chg H H' p) (hp : H p = some o) (ho : ∀ ys, o ≠ .lst ys) (ho2 : ∀ ob u, o ≠ .frz ob u) (h : SqL K H a xs) : SqL K H' a xs := by
  rcases h with (h | ⟨ob, h⟩) | h
  · exact .inl (.inl (c _ _ h fun e => by subst e; rw [hp] at h; exact ho _ (Option.some.inj h)))
  · exact .inl (.inr ⟨ob, c _ _ h fun e => by subst e; rw [hp] at h; exact ho2 _ _ (Option.some.inj h)⟩)
  · exact .inr h
def RI (H : Hp) (Q : VK) (v : V) : Prop := ∀ H', Same H H' → Q v H'
def RL (H : Hp) (Q : VK) (xs : List V) : Prop := ∀ p H', H p = none → Same H H' → H' p = some (.lst xs) → Q (.ref p) H'
theorem lc_list_same {K : PySem.W.Frag} {a : Addr} {xs : List V} {i : Nat} {tt : TT} {te : TE} {σ : L2.St} {H1 : Hp} {D : Addr} {Qd : Hp → Prop} (b : V → Bool) (f : V → V) (hq : SqL K H1 a xs) (hD : H1 D = none) (hz : xs.length ≤ sizeLine)
    (ht : ∀ x ∈ xs, ∀ H', Same H1 H' → ∀ R : Bool → Hp → Prop, (∀ H3, Same H' H3 → R (b x) H3) → tt ((σ.set i none).set i (some x)) H' R)
    (he : ∀ x ∈ xs, b x = true → ∀ H', Same H1 H' → ∀ R : V → Hp → Prop, (∀ H3, Same H' H3 → R (f x) H3) → te ((σ.set i none).set i (some x)) H' R)
    (hd : ∀ H', Same H1 H' → H' D = some (.lst ((xs.filter b).map f)) → Qd H') :
    ∃ W : Nat → Nat → Hp → Prop, (∃ m, W 0 m (upd H1 D (.lst []))) ∧ ∀ j m H, W j m H →
      ((Itl K a).stop j H ∧ Qd H) ∨ ((Itl K a).go j H ∧ ∃ Nx : Hp → Prop, (∀ H', Nx H' → ∃ m', m' < m ∧ W (j + 1) m' H') ∧ ∀ x H', (Itl K a).yld j H x H' → gName i x (wipe σ [i]) H' fun σ2 H2 => wipe σ2 [i] = wipe σ [i] ∧ tt σ2 H2 fun b H3 =>
        if b = true then te σ2 H3 fun y H4 => ∃ acc, H4 D = some (.lst acc) ∧ acc.length < sizeLine ∧ Nx (upd H4 D (.lst (acc ++ [y]))) else Nx H3) := by
  refine lc_list (fun j H' => Same H1 H' ∧ H' D = some (.lst (((xs.take j).filter b).map f))) ⟨same_new hD, upd_same⟩ (fun j H' _ p => p.1.seq hq) ?_ ?_
  · rintro j x H' hx ⟨s, hd'⟩
    refine ⟨by show ((σ.set i none).set i (some x)).set i none = σ.set i none; rw [List.set_set, List.set_set], ?_⟩
    have hm : x ∈ xs := List.mem_of_getElem? hx
    have hl : j < xs.length := (List.getElem?_eq_some_iff.mp hx).1
    refine ht x hm H' s _ fun H3 s3 => ?_
    rw [take_snoc hx, List.filter_append]
    cases hb : b x with
    | false =>
      refine iteF ⟨s.trans s3, ?_⟩
      rw [List.filter_cons_of_neg (by simp [hb]), List.filter_nil, List.append_nil]
      exact s3 _ _ hd'
    | true =>
      refine iteT (he x hm hb H3 (s.trans s3) _ fun H4 s4 => ?_)
      refine ⟨_, s4 _ _ (s3 _ _ hd'), ?_, same_newer ((s.trans s3).trans s4) hD, ?_⟩
      · rw [List.length_map]
        have := List.length_filter_le b (xs.take j)
        rw [List.length_take] at this
        omega
      · rw [upd_same, List.filter_cons_of_pos hb, List.filter_nil, List.map_append]; rfl
  · rintro H' ⟨s, hd'⟩
    rw [List.take_length] at hd'
    exact hd H' s hd'
theorem lc_range_same {n : Nat} {i : Nat} {tt : TT} {te : TE} {σ : L2.St} {H1 : Hp} {D : Addr} {Qd : Hp → Prop} (b : Nat → Bool) (f : Nat → V) (hD : H1 D = none) (hz : n ≤ sizeLine)
    (ht : ∀ j, j < n → ∀ H', Same H1 H' → ∀ R : Bool → Hp → Prop, (∀ H3, Same H' H3 → R (b j) H3) → tt ((σ.set i none).set i (some (.int (j : Int)))) H' R)
    (he : ∀ j, j < n → b j = true → ∀ H', Same H1 H' → ∀ R : V → Hp → Prop, (∀ H3, Same H' H3 → R (f j) H3) → te ((σ.set i none).set i (some (.int (j : Int)))) H' R)
    (hd : ∀ H', Same H1 H' → H' D = some (.lst (((List.range n).filter b).map f)) → Qd H') :
    ∃ W : Nat → Nat → Hp → Prop, (∃ m, W 0 m (upd H1 D (.lst []))) ∧ ∀ j m H, W j m H →
      ((Itr 0 n).stop j H ∧ Qd H) ∨ ((Itr 0 n).go j H ∧ ∃ Nx : Hp → Prop, (∀ H', Nx H' → ∃ m', m' < m ∧ W (j + 1) m' H') ∧ ∀ x H', (Itr 0 n).yld j H x H' → gName i x (wipe σ [i]) H' fun σ2 H2 => wipe σ2 [i] = wipe σ [i] ∧ tt σ2 H2 fun b H3 =>
        if b = true then te σ2 H3 fun y H4 => ∃ acc, H4 D = some (.lst acc) ∧ acc.length < sizeLine ∧ Nx (upd H4 D (.lst (acc ++ [y]))) else Nx H3) := by
  refine lc_range (fun j H' => Same H1 H' ∧ H' D = some (.lst (((List.range j).filter b).map f))) ⟨same_new hD, upd_same⟩ ?_ ?_
  · rintro j H' hj ⟨s, hd'⟩
    rw [Int.zero_add]
    refine ⟨by show ((σ.set i none).set i (some (.int (j : Int)))).set i none = σ.set i none; rw [List.set_set, List.set_set], ?_⟩
    refine ht j hj H' s _ fun H3 s3 => ?_
    rw [List.range_succ, List.filter_append]
    cases hb : b j with
    | false =>
      refine iteF ⟨s.trans s3, ?_⟩
      rw [List.filter_cons_of_neg (by simp [hb]), List.filter_nil, List.append_nil]
      exact s3 _ _ hd'
    | true =>
      refine iteT (he j hj hb H3 (s.trans s3) _ fun H4 s4 => ?_)
      refine ⟨_, s4 _ _ (s3 _ _ hd'), ?_, same_newer ((s.trans s3).trans s4) hD, ?_⟩
      · rw [List.length_map]
        have := List.length_filter_le b (List.range j)
        rw [List.length_range] at this
        omega
      · rw [upd_same, List.filter_cons_of_pos hb, List.filter_nil, List.map_append]; rfl
  · rintro H' ⟨s, hd'⟩
    exact hd H' s hd'
theorem seq_gen {t u : TS} {D : Ends} {σ : L2.St} {H : Hp} (I : L2.St → Hp → Prop) (h1 : ∀ R : L2.St → Hp → Prop, (∀ σ' H', I σ' H' → R σ' H') → t { D with nx := R } σ H) (h2 : ∀ σ' H', I σ' H' → u D σ' H') : tSeq t u D σ H := h1 (u D) h2
theorem for_listR {K : PySem.W.Frag} {a : Addr} {xs : List V} {g : TG} {tb : TS} {D : Ends} {σ : L2.St} {H : Hp} (Pv : Nat → L2.St → Hp → Prop) (h0 : Pv 0 σ H) (hl : ∀ i σ H, i ≤ xs.length → Pv i σ H → SqL K H a xs)
    (hs : ∀ i x σ H, xs[i]? = some x → Pv i σ H → ∀ R B : L2.St → Hp → Prop, (∀ σ' H', Pv (i + 1) σ' H' → R σ' H') → g x σ H fun σ2 H2 => tb { D with nx := R, ct := R, bk := B } σ2 H2) (hd : ∀ σ H, Pv xs.length σ H → D.nx σ H) :
    ∃ W : Nat → Nat → L2.St → Hp → Prop, (∃ m, W 0 m σ H) ∧ ∀ i m σ H, W i m σ H →
      ((Itl K a).stop i H ∧ D.nx σ H) ∨ ((Itl K a).go i H ∧ ∃ N : L2.St → Hp → Prop, (∀ σ' H', N σ' H' → ∃ m', m' < m ∧ W (i + 1) m' σ' H') ∧ ∀ x H', (Itl K a).yld i H x H' → g x σ H' fun σ2 H2 => tb { D with nx := N, ct := N, bk := D.nx } σ2 H2) :=
  for_list Pv h0 hl (fun i x σ H hx p => hs i x σ H hx p _ _ fun _ _ h => h) hd
theorem for_rangeR {n : Nat} {g : TG} {tb : TS} {D : Ends} {σ : L2.St} {H : Hp} (Pv : Nat → L2.St → Hp → Prop) (h0 : Pv 0 σ H)
    (hs : ∀ (i : Nat) σ H, i < n → Pv i σ H → ∀ R B : L2.St → Hp → Prop, (∀ σ' H', Pv (i + 1) σ' H' → R σ' H') → g (.int (i : Int)) σ H fun σ2 H2 => tb { D with nx := R, ct := R, bk := B } σ2 H2) (hd : ∀ σ H, Pv n σ H → D.nx σ H) :
    ∃ W : Nat → Nat → L2.St → Hp → Prop, (∃ m, W 0 m σ H) ∧ ∀ i m σ H, W i m σ H →
      ((Itr 0 n).stop i H ∧ D.nx σ H) ∨ ((Itr 0 n).go i H ∧ ∃ N : L2.St → Hp → Prop, (∀ σ' H', N σ' H' → ∃ m', m' < m ∧ W (i + 1) m' σ' H') ∧ ∀ x H', (Itr 0 n).yld i H x H' → g x σ H' fun σ2 H2 => tb { D with nx := N, ct := N, bk := D.nx } σ2 H2) :=
  for_range Pv h0 (fun i σ H hi p => by rw [Int.zero_add]; exact hs i σ H hi p _ _ fun _ _ h => h) hd
theorem for_enumR {K : PySem.W.Frag} {a : Addr} {xs : List V} {g : TG} {tb : TS} {D : Ends} {σ : L2.St} {H : Hp} (Pv : Nat → L2.St → Hp → Prop) (h0 : Pv 0 σ H) (hl : ∀ i σ H, i ≤ xs.length → Pv i σ H → SqL K H a xs)
    (hs : ∀ i x σ H T, xs[i]? = some x → Pv i σ H → H T = none → ∀ R B : L2.St → Hp → Prop, (∀ σ' H', Pv (i + 1) σ' H' → R σ' H') → g (.ref T) σ (upd H T (.tup [.int (i : Nat), x])) fun σ2 H2 => tb { D with nx := R, ct := R, bk := B } σ2 H2) (hd : ∀ σ H, Pv xs.length σ H → D.nx σ H) :
    ∃ W : Nat → Nat → L2.St → Hp → Prop, (∃ m, W 0 m σ H) ∧ ∀ i m σ H, W i m σ H →
      ((Ite K a).stop i H ∧ D.nx σ H) ∨ ((Ite K a).go i H ∧ ∃ N : L2.St → Hp → Prop, (∀ σ' H', N σ' H' → ∃ m', m' < m ∧ W (i + 1) m' σ' H') ∧ ∀ x H', (Ite K a).yld i H x H' → g x σ H' fun σ2 H2 => tb { D with nx := N, ct := N, bk := D.nx } σ2 H2) := by
  refine ⟨fun i m σ H => m = xs.length - i ∧ i ≤ xs.length ∧ Pv i σ H, ⟨xs.length, by simp, Nat.zero_le _, h0⟩, ?_⟩
  rintro i m σ H ⟨rfl, hi, p⟩
  have q := hl i σ H hi p
  by_cases hlt : i < xs.length
  · refine .inr ⟨⟨xs, xs[i], q, by simp [hlt]⟩, Pv (i + 1), fun σ' H' p' => ⟨xs.length - (i + 1), by omega, rfl, hlt, p'⟩, fun x H' y => ?_⟩
    obtain ⟨T, z, rfl, hT, rfl, y⟩ := y
    exact hs i z σ H T (y xs q) p hT _ _ fun _ _ h => h
  · have e : i = xs.length := by omega
    subst e
    exact .inl ⟨⟨xs, q, Nat.le_refl _⟩, hd σ H p⟩
theorem cpow1 {c : Nat} (h : c ≤ 1000) : CPow 1 (c : Int) := ⟨by omega, by omega, by decide⟩
theorem small_of {c n : Nat} (h : c < n) (s : n ≤ 12) : c ≤ 1000 := by omega
theorem rlo (n : Nat) : -(2 ^ 62 : Int) ≤ (n : Int) := by omega
theorem rhi {n : Nat} (h : n ≤ 4096) : (n : Int) < (2 ^ 62 : Int) := by omega
def rdF (a : Addr) (i : Int) : List (Str × V) := [("line", .ref a), ("place", .int i)]
def rsF (w h : Int) (pa ka ba na : Addr) : List (Str × V) := [("width", .int w), ("height", .int h), ("prices", .ref pa), ("kinds", .ref ka), ("beside", .ref ba), ("needs", .ref na)]
def nearsAll (m : Land) : List Nat := nearL m
structure LandOk (m : Land) : Prop where
  snd : Sound m
  w12 : m.w ≤ 12
  h12 : m.h ≤ 12
  p : ∀ x ∈ m.prices, x ≤ 1000
  k : ∀ x ∈ m.kinds, x ≤ 255
structure LAt (C : Addr) (H : Hp) (p : Addr) (m : Land) (need : List Nat) (L : List Addr) : Prop where
  ex : ∃ dx pa ka ba na, L = [pa, ka, ba, na] ∧ H p = some (.ins C dx (rsF m.w m.h pa ka ba na)) ∧ H pa = some (.lst (nv m.prices)) ∧ H ka = some (.lst (nv m.kinds)) ∧ H ba = some (.lst (nv (nearsAll m))) ∧ H na = some (.lst (nv need))
  ok : LandOk m
  nl : need.length = 8
  nb : ∀ n ∈ need, n ≤ 12
theorem LAt.same {C : Addr} {H H' : Hp} {p : Addr} {m : Land} {need : List Nat} {L : List Addr} (h : LAt C H p m need L) (s : Same H H') : LAt C H' p m need L := by
  obtain ⟨⟨dx, pa, ka, ba, na, e, h1, h2, h3, h4, h5⟩, h6, h7, h8⟩ := h
  exact ⟨⟨dx, pa, ka, ba, na, e, s _ _ h1, s _ _ h2, s _ _ h3, s _ _ h4, s _ _ h5⟩, h6, h7, h8⟩
def RsAt (C : Addr) (H : Hp) (p : Addr) (st : Vbecao.State) (L : List Addr) : Prop :=
  match st.land with
  | some m => LAt C H p m st.need L
  | none => L = [] ∧ st.need = List.replicate 8 0 ∧ ∃ dx h pa ka ba na, H p = some (.ins C dx (rsF 0 h pa ka ba na))
def sp_Reader_init (C : Addr) : Sp := fun vs H Q _ => ∃ p dx a, vs = [.ref p, .ref a] ∧ H p = some (.ins C dx []) ∧ ∀ H', H' p = some (.ins C dx (rdF a 0)) → Chg H H' p → Q .non H'
def sp_Reader_has_more (C : Addr) (K : PySem.W.Frag) : Sp := fun vs H Q _ => ∃ p dx a i, ∃ ns : List Int, vs = [.ref p] ∧ H p = some (.ins C dx (rdF a i)) ∧ SqL K H a (iv ns) ∧ Q (.bl (decide (i < ns.length))) H
def sp_Reader_take_number (C : Addr) (K : PySem.W.Frag) : Sp := fun vs H Q _ => ∃ p dx a, ∃ i : Nat, ∃ ns : List Int, ∃ z, vs = [.ref p] ∧ H p = some (.ins C dx (rdF a i)) ∧ SqL K H a (iv ns) ∧ ns[i]? = some z ∧
  ∀ H', H' p = some (.ins C dx (rdF a ((i + 1 : Nat) : Int))) → Chg H H' p → Q (.int z) H'
def sp_Reader_take_numbers (C : Addr) (K : PySem.W.Frag) : Sp := fun vs H Q _ => ∃ p dx a, ∃ i n : Nat, ∃ ns : List Int, vs = [.ref p, .int n] ∧ H p = some (.ins C dx (rdF a i)) ∧ SqL K H a (iv ns) ∧ i + n ≤ ns.length ∧
  ∀ l H', H l = none → H' p = some (.ins C dx (rdF a ((i + n : Nat) : Int))) → H' l = some (.lst (iv ((ns.drop i).take n))) → Chg H H' p → Q (.ref l) H'
def sp_Reader_take_list (C : Addr) (K : PySem.W.Frag) : Sp := fun vs H Q _ => ∃ p dx a, ∃ i n : Nat, ∃ ns : List Int, vs = [.ref p] ∧ H p = some (.ins C dx (rdF a i)) ∧ SqL K H a (iv ns) ∧ ns[i]? = some (n : Int) ∧ i + 1 + n ≤ ns.length ∧
  ∀ l H', H l = none → H' p = some (.ins C dx (rdF a ((i + 1 + n : Nat) : Int))) → H' l = some (.lst (iv ((ns.drop (i + 1)).take n))) → Chg H H' p → Q (.ref l) H'
def sp_Reserve_init (C : Addr) : Sp := fun vs H Q _ => ∃ p dx, vs = [.ref p] ∧ H p = some (.ins C dx []) ∧ ∀ H' L, RsAt C H' p Vbecao.start L → (∀ q ∈ L, H q = none) → Chg H H' p → Q .non H'
def sp_Reserve_has_land (C : Addr) : Sp := fun vs H Q _ => ∃ p st L, vs = [.ref p] ∧ RsAt C H p st L ∧ Q (.bl st.land.isSome) H
def sp_Reserve_hold_land (C : Addr) : Sp := fun vs H Q _ => ∃ p st L, ∃ m : Land, ∃ pa ka, vs = [.ref p, .int m.w, .int m.h, .ref pa, .ref ka] ∧ RsAt C H p st L ∧ LandOk m ∧ H pa = some (.lst (nv m.prices)) ∧ H ka = some (.lst (nv m.kinds)) ∧
  ∀ H' L', LAt C H' p m (List.replicate 8 0) L' → (∀ q ∈ L', q = pa ∨ q = ka ∨ H q = none) → Chg H H' p → Q .non H'
def sp_set_of (K : PySem.W.Frag) : Sp := fun vs H Q _ => ∃ a ns, vs = [.ref a] ∧ SqL K H a (nv ns) ∧ (∀ n ∈ ns, n ≤ 1000) ∧ RI H Q (.int (numberOf ns : Nat))
def sp_cells_of : Sp := fun vs H Q _ => ∃ s : Nat, vs = [.int s] ∧ RL H Q (nv (cellsOf s))
def sp_neighbours : Sp := fun vs H Q _ => ∃ w h c : Nat, vs = [.int w, .int h, .int c] ∧ 0 < w ∧ w ≤ 12 ∧ RL H Q (nv (nears w h c))
def sp_first_piece (K : PySem.W.Frag) : Sp := fun vs H Q _ => ∃ b, ∃ m : Land, ∃ s : Nat, vs = [.ref b, .int s] ∧ SqL K H b (nv (nearsAll m)) ∧ LandOk m ∧ s < 2 ^ m.size ∧ ∀ r : Nat, First m s r → RI H Q (.int r)
def sp_count_pieces (K : PySem.W.Frag) : Sp := fun vs H Q _ => ∃ b, ∃ m : Land, ∃ s : Nat, vs = [.ref b, .int s] ∧ SqL K H b (nv (nearsAll m)) ∧ LandOk m ∧ s < 2 ^ m.size ∧ RI H Q (.int ((Vbecao.pieces m s).length : Nat))
def sp_holders (K : PySem.W.Frag) : Sp := fun vs H Q _ => ∃ a ks, ∃ k : Nat, vs = [.ref a, .int k] ∧ SqL K H a (nv ks) ∧ ks.length ≤ 12 ∧ RL H Q (nv (holders ks k))
def sp_sum_over (K : PySem.W.Frag) : Sp := fun vs H Q _ => ∃ a ws, ∃ s : Nat, vs = [.ref a, .int s] ∧ SqL K H a (nv ws) ∧ ws.length ≤ 12 ∧ s < 2 ^ ws.length ∧ RI H Q (.int (worth ws s : Nat))
def sp_sums_over_all (K : PySem.W.Frag) : Sp := fun vs H Q _ => ∃ a ws, vs = [.ref a] ∧ SqL K H a (nv ws) ∧ ws.length ≤ 12 ∧ RL H Q (nv (sumsAll ws))
def sp_sets_in_one_piece (K : PySem.W.Frag) : Sp := fun vs H Q _ => ∃ b, ∃ m : Land, vs = [.ref b] ∧ SqL K H b (nv (nearsAll m)) ∧ LandOk m ∧ RL H Q (nv (askedL m true))
def sp_asked_sets (C : Addr) : Sp := fun vs H Q _ => ∃ p m need L, ∃ one : Nat, vs = [.ref p, .int one] ∧ LAt C H p m need L ∧ RL H Q (nv (askedL m (one == 1)))
def sp_fits_without (C : Addr) : Sp := fun vs H Q _ => ∃ p m need L, ∃ r s : Nat, vs = [.ref p, .int r, .int s] ∧ LAt C H p m need L ∧ s < 2 ^ m.size ∧ RI H Q (.bl (fitsW m need r s))
def sp_fitting_sets (C : Addr) : Sp := fun vs H Q _ => ∃ p m need L, ∃ one : Nat, vs = [.ref p, .int one] ∧ LAt C H p m need L ∧ RL H Q (nv ((askedL m (one == 1)).filter (Vbecao.fits m need)))
def sp_first_cheapest (C : Addr) (K : PySem.W.Frag) : Sp := fun vs H Q _ => ∃ p m need L l x, ∃ r : List Nat, vs = [.ref p, .ref l] ∧ LAt C H p m need L ∧ SqL K H l (nv (x :: r)) ∧ (∀ s ∈ x :: r, s < 2 ^ m.size) ∧ RI H Q (.int (cheapL m x (x :: r) : Nat))
def sp_price_and_cells (C : Addr) : Sp := fun vs H Q _ => ∃ p m need L, ∃ s : Nat, vs = [.ref p, .int s] ∧ LAt C H p m need L ∧ s < 2 ^ m.size ∧ RL H Q (iv ((Vbecao.price m s : Int) :: Vbecao.ints (members m s)))
def sp_least_way (C : Addr) : Sp := fun vs H Q _ => ∃ p m need L, ∃ a b : Nat, vs = [.ref p, .int a, .int b] ∧ LAt C H p m need L ∧ a < m.size ∧ b < m.size ∧ ∀ x : Nat, Vbecao.way m a b = some x → RI H Q (.int x)
def sp_is_proof (C : Addr) (K : PySem.W.Frag) : Sp := fun vs H Q _ => ∃ p m need L, ∃ d : Nat, ∃ wa ra, ∃ ws rb : List Nat, vs = [.ref p, .int d, .ref wa, .ref ra] ∧ LAt C H p m need L ∧ d ≤ 1000 ∧ SqL K H wa (nv ws) ∧ SqL K H ra (nv rb) ∧ ws.length = 8 ∧ rb.length = m.size ∧ RI H Q (.bl (Vbecao.shown m d ws rb))
def sp_bound_of (C : Addr) (K : PySem.W.Frag) : Sp := fun vs H Q _ => ∃ p m need L, ∃ d : Nat, ∃ wa ra, ∃ ws rb : List Nat, vs = [.ref p, .int d, .ref wa, .ref ra] ∧ LAt C H p m need L ∧ 1 ≤ d ∧ d ≤ 1000 ∧ SqL K H wa (nv ws) ∧ SqL K H ra (nv rb) ∧ ws.length = 8 ∧ rb.length = m.size ∧ RI H Q (.int (Vbecao.bound m need d ws rb : Nat))
def sp_kept_kinds (C : Addr) (K : PySem.W.Frag) : Sp := fun vs H Q _ => ∃ p m need L l, ∃ fs : List Nat, vs = [.ref p, .ref l] ∧ LAt C H p m need L ∧ SqL K H l (nv fs) ∧ fs.length ≤ 4096 ∧ (∀ s ∈ fs, s < 2 ^ m.size) ∧ RL H Q (nv (fs.map (Vbecao.kept m need)))
def sp_all_within (K : PySem.W.Frag) : Sp := fun vs H Q _ => ∃ a ns lo hi, vs = [.ref a, .int lo, .int hi] ∧ SqL K H a (iv ns) ∧ ns.length ≤ 100 ∧ RI H Q (.bl (ns.all fun n => decide (lo ≤ n ∧ n ≤ hi)))
def sp_is_list_of (K : PySem.W.Frag) : Sp := fun vs H Q _ => ∃ a ns hi, ∃ n : Nat, vs = [.ref a, .int n, .int hi] ∧ SqL K H a (iv ns) ∧ ns.length ≤ 100 ∧ RI H Q (.bl (decide (ns.length = n) && ns.all fun x => decide (0 ≤ x ∧ x ≤ hi)))
def sp_is_told_set (C : Addr) (K : PySem.W.Frag) : Sp := fun vs H Q _ => ∃ p m need L a ns, vs = [.ref p, .ref a] ∧ LAt C H p m need L ∧ SqL K H a (iv ns) ∧ ns.length ≤ 100 ∧
  RI H Q (.bl (decide (ns.length ≤ 24) && ns.all fun x => decide (0 ≤ x ∧ x ≤ (m.size : Int) - 1)))
end Lr
end
section
set_option Elab.async false
set_option linter.all false
set_option maxRecDepth 100000
set_option maxHeartbeats 2000000
namespace Lr
open PySem PySem.Spec PyProof.Rows L2
open Vbecao (Land numberOf members)
theorem putF_nil (f : Str) (v : V) : putF f v [] = [(f, v)] := rfl
theorem putF_hit (f : Str) (v x : V) (r : List (Str × V)) : putF f v ((f, x) :: r) = (f, v) :: r := by unfold putF; rw [if_pos rfl]
theorem putF_miss {f g : Str} (v x : V) (r : List (Str × V)) (h : ¬ g = f) : putF f v ((g, x) :: r) = (g, x) :: putF f v r := by
  show (if g = f then (g, v) :: r else (g, x) :: putF f v r) = _
  rw [if_neg h]
theorem look_hit {f : Str} {x : V} {r : List (Str × V)} : ((f, x) :: r).lookup f = some x := by simp [List.lookup]
theorem look_miss {f g : Str} {x : V} {r : List (Str × V)} (h : ¬ f = g) : ((g, x) :: r).lookup f = r.lookup f := by
  have : (f == g) = false := by simpa using h
  simp [List.lookup, this]
theorem rd_line {a : Addr} {i : Int} : (rdF a i).lookup ("line" : Str) = some (.ref a) := look_hit
theorem rd_place {a : Addr} {i : Int} : (rdF a i).lookup ("place" : Str) = some (.int i) := (look_miss (by decide +kernel)).trans look_hit
theorem rd_no {a : Addr} {i : Int} {m : Str} (h1 : ¬ m = "line") (h2 : ¬ m = "place") : (rdF a i).lookup m = none := (look_miss h1).trans ((look_miss h2).trans rfl)
theorem rd_put {a : Addr} {i j : Int} : putF "place" (.int j) (rdF a i) = rdF a j := by
  unfold rdF
  rw [putF_miss _ _ _ (by decide +kernel), putF_hit]
section
variable {P : Program} {w : World} {K : PySem.W.Frag} {mg : Str → Option Value} {base : Heap} {A : Ad}
theorem ok_Reader_init (T : Txt K mg A) : FnOk P w K mg base CX0 1 A.f_Reader_init A.fd_Reader_init ["self", "line"] (sp_Reader_init A.c_Reader) := by
  refine T.fn_Reader_init.ok sc_Reader_init (fun vs H Q E h => ?_) (fun cdv Ar outer s H vs Q E hr h => ?_)
  · obtain ⟨p, dx, a, rfl, _⟩ := h
    rfl
  · obtain ⟨p, dx, a, rfl, hp, k⟩ := h
    refine ⟨_, (pss_cons (ps_fld (pv 0) (pv 1) rfl)
      (pss_one (ps_fld (pv 0) pe_int rfl))), ?_⟩
    refine ⟨_, rfl, _, rfl, p, _, dx, [], rfl, hp, T.cl_Reader, T.na_Reader_line, (by show 0 < 1000; decide), ?_⟩
    refine ⟨_, rfl, p, _, dx, _, rfl, upd_same, T.cl_Reader, T.na_Reader_place, (by show 1 < 1000; decide), ?_⟩
    refine k _ ?_ (Chg.upd.trans Chg.upd)
    rw [upd_same, putF_nil, putF_miss _ _ _ (by decide +kernel), putF_nil]
    rfl
theorem ok_Reader_has_more (T : Txt K mg A) : FnOk P w K mg base CX0 1 A.f_Reader_has_more A.fd_Reader_has_more ["self"] (sp_Reader_has_more A.c_Reader K) := by
  refine T.fn_Reader_has_more.ok sc_Reader_has_more (fun vs H Q E h => ?_) (fun cdv Ar outer s H vs Q E hr h => ?_)
  · obtain ⟨p, dx, a, i, ns, rfl, _⟩ := h
    rfl
  · obtain ⟨p, dx, a, i, ns, rfl, hp, hq, k⟩ := h
    refine ⟨_, (pss_one (ps_ret (pe_cmpR op_lt (pe_fld (pv 0) rfl) (pe_callB call_len_seq (by rfl) T.b_len PySem.boot_len (pa_cons (pe_fld (pv 0) rfl) pa_nil)) (nomark _)))), ?_⟩
    refine ⟨_, rfl, p, _, dx, _, _, rfl, hp, T.cl_Reader, T.na_Reader_place, rd_place, ?_⟩
    refine ⟨_, rfl, p, _, dx, _, _, rfl, hp, T.cl_Reader, T.na_Reader_line, rd_line, a, _, rfl, .inl hq, _, _, rfl, rfl, ?_⟩
    rw [List.length_map]
    exact k
theorem ok_Reader_take_number (T : Txt K mg A) : FnOk P w K mg base CX0 1 A.f_Reader_take_number A.fd_Reader_take_number ["self"] (sp_Reader_take_number A.c_Reader K) := by
  refine T.fn_Reader_take_number.ok sc_Reader_take_number (fun vs H Q E h => ?_) (fun cdv Ar outer s H vs Q E hr h => ?_)
  · obtain ⟨p, dx, a, i, ns, z, rfl, _⟩ := h
    rfl
  · obtain ⟨p, dx, a, i, ns, z, rfl, hp, hq, hz, k⟩ := h
    refine ⟨_, (pss_cons (ps_set (i := 1) sc_Reader_take_number.nd rfl (Or.inl rfl) (pe_ix ix_list (pe_fld (pv 0) rfl) (pe_fld (pv 0) rfl) (fun _ _ => rfl)))
      (pss_cons (ps_fld (pv 0) (pe_op op_add (pe_fld (pv 0) rfl) pe_int) rfl)
      (pss_one (ps_ret (pv 1))))), ?_⟩
    refine ⟨_, rfl, p, _, dx, _, _, rfl, hp, T.cl_Reader, T.na_Reader_line, rd_line, _, rfl, p, _, dx, _, _, rfl, hp, T.cl_Reader, T.na_Reader_place, rd_place, a, _, _, _, rfl, rfl, hq, atI_nat (iv_at hz), ?_⟩
    refine ⟨_, rfl, p, _, dx, _, _, rfl, hp, T.cl_Reader, T.na_Reader_place, rd_place, _, _, rfl, rfl, _, rfl, p, _, dx, _, rfl, hp, T.cl_Reader, T.na_Reader_place, (by show 2 < 1000; decide), ?_⟩
    refine ⟨_, rfl, ?_⟩
    refine k _ ?_ Chg.upd
    rw [upd_same, rd_put]
    rfl
theorem cut_nat {ns : List Int} {i n : Nat} (h : i + n ≤ ns.length) : cutV (iv ns) (some (i : Int)) (some ((i : Int) + (n : Int))) = iv ((ns.drop i).take n) := by
  unfold cutV
  rw [show (i : Int) + (n : Int) = ((i + n : Nat) : Int) by omega, HT.sIx_nat, HT.sIx_nat, List.length_map, Nat.min_eq_left h, Nat.min_eq_left (show i ≤ ns.length by omega), ← List.map_drop, ← List.map_take]
  congr 2
  omega
theorem ok_Reader_take_numbers (T : Txt K mg A) : FnOk P w K mg base CX0 1 A.f_Reader_take_numbers A.fd_Reader_take_numbers ["self", "many"] (sp_Reader_take_numbers A.c_Reader K) := by
  refine T.fn_Reader_take_numbers.ok sc_Reader_take_numbers (fun vs H Q E h => ?_) (fun cdv Ar outer s H vs Q E hr h => ?_)
  · obtain ⟨p, dx, a, i, n, ns, rfl, _⟩ := h
    rfl
  · obtain ⟨p, dx, a, i, n, ns, rfl, hp, hq, hz, k⟩ := h
    refine ⟨_, (pss_cons (ps_set (i := 2) sc_Reader_take_numbers.nd rfl (Or.inl rfl) (pe_fld (pv 0) rfl))
      (pss_cons (ps_fld (pv 0) (pe_op op_add (pv 2) (pv 1)) rfl)
      (pss_one (ps_ret (pe_slice sl_list (pe_fld (pv 0) rfl) (po_some (pv 2)) (po_some (pe_fld (pv 0) rfl))))))), ?_⟩
    refine ⟨_, rfl, p, _, dx, _, _, rfl, hp, T.cl_Reader, T.na_Reader_place, rd_place, ?_⟩
    refine ⟨_, rfl, _, rfl, _, _, rfl, rfl, _, rfl, p, _, dx, _, rfl, hp, T.cl_Reader, T.na_Reader_place, (by show 2 < 1000; decide), ?_⟩
    rw [rd_put]
    have hp' : (upd H p (.ins A.c_Reader dx (rdF a ((i : Int) + (n : Int))))) p = some (.ins A.c_Reader dx (rdF a ((i : Int) + (n : Int)))) := upd_same
    have hq' : SqL K (upd H p (.ins A.c_Reader dx (rdF a ((i : Int) + (n : Int))))) a (iv ns) := Chg.seq Chg.upd hp (fun _ z => by cases z) (fun _ _ z => by cases z) hq
    refine ⟨_, rfl, p, _, dx, _, _, rfl, hp', T.cl_Reader, T.na_Reader_line, rd_line, _, rfl, _, rfl, _, rfl, p, _, dx, _, _, rfl, hp', T.cl_Reader, T.na_Reader_place, rd_place, _, rfl, a, _, rfl, hq', fun l hl => ?_⟩
    have nlp : l ≠ p := fun e => by subst e; rw [upd_same] at hl; cases hl
    rw [upd_ne nlp] at hl
    refine k l _ hl ?_ ?_ ?_
    · rw [upd_ne nlp.symm, upd_same]; rfl
    · rw [upd_same, cut_nat hz]
    · intro b o e hb
      rw [upd_ne (ne_of_none e hl), upd_ne hb]
      exact e
theorem ok_Reader_take_list (T : Txt K mg A) : FnOk P w K mg base CX0 2 A.f_Reader_take_list A.fd_Reader_take_list ["self"] (sp_Reader_take_list A.c_Reader K) := by
  have G_Reader_take_number := ok_Reader_take_number (P := P) (w := w) (base := base) T
  have G_Reader_take_numbers := ok_Reader_take_numbers (P := P) (w := w) (base := base) T
  refine T.fn_Reader_take_list.ok sc_Reader_take_list (fun vs H Q E h => ?_) (fun cdv Ar outer s H vs Q E hr h => ?_)
  · obtain ⟨p, dx, a, i, n, ns, rfl, _⟩ := h
    rfl
  · obtain ⟨p, dx, a, i, n, ns, rfl, hp, hq, hn, hz, k⟩ := h
    refine ⟨_, (pss_one (ps_ret (pe_meth (pv 0) T.cl_Reader T.me_Reader_take_numbers G_Reader_take_numbers (hr.mono (by decide)) T.bd_Reader_take_numbers .nil pass0 (pa_cons (pe_meth0 (pv 0) T.cl_Reader T.me_Reader_take_number G_Reader_take_number (hr.mono (by decide)) T.bd_Reader_take_number .nil pass0) pa_nil)))), ?_⟩
    refine ⟨_, rfl, p, dx, _, rfl, hp, rd_no (by decide +kernel) (by decide +kernel), _, rfl, p, dx, _, rfl, hp, rd_no (by decide +kernel) (by decide +kernel), ?_⟩
    refine ⟨p, dx, a, i, ns, _, rfl, hp, hq, hn, fun H1 h1 c1 => ?_⟩
    have hq1 : SqL K H1 a (iv ns) := c1.seq hp (fun _ z => by cases z) (fun _ _ z => by cases z) hq
    refine ⟨p, dx, a, i + 1, n, ns, rfl, h1, hq1, hz, fun l H2 hl h2 h3 c2 => ?_⟩
    refine k l H2 ?_ h2 h3 (c1.trans c2)
    cases e : H l with
    | none => rfl
    | some o =>
      by_cases q : l = p
      · subst q; rw [h1] at hl; cases hl
      · rw [c1 l o e q] at hl; cases hl
end
end Lr
end
section
set_option Elab.async false
set_option linter.all false
set_option maxRecDepth 100000
set_option maxHeartbeats 2000000
namespace Lr
open PySem PySem.Spec PyProof.Rows L2
open Vbecao (Land numberOf members)
theorem filter_tt {α : Type} (l : List α) : l.filter (fun _ => true) = l := by simp
section
variable {P : Program} {w : World} {K : PySem.W.Frag} {mg : Str → Option Value} {base : Heap} {A : Ad}
theorem ok_set_of (T : Txt K mg A) : FnOk P w K mg base CX0 1 A.f_set_of A.fd_set_of ["cells"] (sp_set_of K) := by
  refine T.fn_set_of.ok sc_set_of (fun vs H Q E h => ?_) (fun cdv Ar outer s H vs Q E hr h => ?_)
  · obtain ⟨a, ns, rfl, _⟩ := h
    rfl
  · obtain ⟨a, ns, rfl, hq, hb, k⟩ := h
    refine ⟨_, (pss_cons (ps_set (i := 1) sc_set_of.nd rfl (Or.inl rfl) pe_int)
      (pss_cons (ps_for PassesOwn.never rfl (pi_list (pv 0)) (pg_name (i := 2) sc_set_of.nd rfl (Or.inl rfl))
        (pss_one (ps_set (i := 1) sc_set_of.nd rfl (Or.inl rfl) (pe_op op_or (pv 1) (pe_op op_shl pe_int (pv 2))))))
      (pss_one (ps_ret (pv 1))))), ?_⟩
    refine ⟨_, rfl, a, rfl, ⟨_, hq⟩, for_list (K := K) (a := a) (xs := nv ns) (fun i σ H' => ∃ v : Option V, σ = [some (.ref a), some (.int ((numberOf (ns.take i) : Nat) : Int)), v] ∧ H' = H) ⟨none, rfl, rfl⟩ (fun i σ H' _ zz => by obtain ⟨_, _, e⟩ := zz; subst e; exact hq) ?_ ?_⟩
    · rintro i y σ H' hi ⟨v, rfl, rfl⟩
      obtain ⟨n, hn, rfl⟩ := nv_get hi
      have hn2 := hb n (List.mem_of_getElem? hn)
      refine ⟨_, rfl, _, rfl, _, _, rfl, rfl, ⟨by omega, by omega, by decide⟩, _, _, rfl, rfl, ?_⟩
      refine ⟨some (.int (n : Int)), ?_, rfl⟩
      rw [take_snoc hn, numberOf_snoc, ← bor_nat]
      rw [← show (1 : Int) * 2 ^ ((n : Int).toNat) = ((2 ^ n : Nat) : Int) by rw [show (1 : Int) = ((1 : Nat) : Int) from rfl, shl_nat, Nat.one_mul]]
      rfl
    · rintro σ H' ⟨v, rfl, rfl⟩
      refine ⟨_, rfl, ?_⟩
      have hl : (nv ns).length = ns.length := List.length_map ..
      rw [hl, List.take_length]
      exact k _ (Same.refl _)
theorem ok_cells_of (T : Txt K mg A) : FnOk P w K mg base CX0 1 A.f_cells_of A.fd_cells_of ["members"] (sp_cells_of) := by
  refine T.fn_cells_of.ok sc_cells_of (fun vs H Q E h => ?_) (fun cdv Ar outer s H vs Q E hr h => ?_)
  · obtain ⟨s', rfl, _⟩ := h
    rfl
  · obtain ⟨m, rfl, k⟩ := h
    refine ⟨_, (pss_one (ps_ret (pe_lc rfl sc_cells_of.nd (pi_range1 rfl T.b_range (pa_cons (pe_glob (v := .int (12)) rfl T.g_MOST_CELLS ⟨_, rfl⟩) pa_nil)) (blkOk_by (own := [("cell", 1)]) (by show blkC ["members", "cell"] (defScope s_cells_of) _ _ = true; decide +kernel))
        (fun _ _ _ _ _ => (pg_name (i := 1) sc_cells_of.nd rfl (Or.inl rfl))) (fun _ _ _ _ _ => (pts_one (pt_cmpR op_eq (pe_op op_and (pe_op op_shr (pv 0) (pv 1)) pe_int) pe_int (nomark _)))) (fun _ _ _ _ _ => (pv 1))))), ?_⟩
    refine ⟨12, rfl, by decide, by decide, fun D hD => lc_range_same (n := 12) (i := 1) (fun c => m.testBit c) (fun c => .int (c : Int)) hD (by decide) ?_ ?_ ?_⟩
    · intro j hj H' s' R kR
      refine ⟨_, rfl, _, rfl, _, _, rfl, rfl, (by omega), _, _, rfl, rfl, rfl, _, rfl, ?_⟩
      have e : decide (V.int (Builtin.bitAnd ((m : Int) / 2 ^ ((j : Int).toNat)) 1) = V.int 1) = m.testBit j := by
        rw [dec_int, shr_nat, show (1 : Int) = ((1 : Nat) : Int) from rfl, band_nat, bit_and]
        cases m.testBit j <;> rfl
      have kk := kR H' (Same.refl _)
      rw [← e] at kk
      exact kk
    · intro j hj hb H' s' R kR
      exact ⟨_, rfl, kR _ (Same.refl _)⟩
    · intro H' s' hD'
      exact k D H' hD s' hD'
theorem ok_holders (T : Txt K mg A) : FnOk P w K mg base CX0 1 A.f_holders A.fd_holders ["kinds", "kind"] (sp_holders K) := by
  refine T.fn_holders.ok sc_holders (fun vs H Q E h => ?_) (fun cdv Ar outer s H vs Q E hr h => ?_)
  · obtain ⟨a, ks, kk, rfl, _⟩ := h
    rfl
  · obtain ⟨a, ks, kk, rfl, hq, hl, k⟩ := h
    refine ⟨_, (pss_one (ps_ret (pe_lc rfl sc_holders.nd (pi_list (pv 0)) (blkOk_by (own := [("held", 2)]) (by show blkC ["kinds", "kind", "held"] (defScope s_holders) _ _ = true; decide +kernel))
        (fun _ _ _ _ _ => (pg_name (i := 2) sc_holders.nd rfl (Or.inl rfl))) (fun _ _ _ _ _ => pts_nil) (fun _ _ _ _ _ => (pe_op op_and (pe_op op_shr (pv 2) (pv 1)) pe_int))))), ?_⟩
    refine ⟨_, rfl, a, rfl, ⟨_, hq⟩, fun D hD => lc_list_same (K := K) (a := a) (xs := nv ks) (i := 2) (fun _ => true) (fun v => match v with | .int x => .int (((x.toNat >>> kk) &&& 1 : Nat) : Int) | v => v) hq hD (by rw [List.length_map, sizeLine_eq]; omega) ?_ ?_ ?_⟩
    · intro x hx H' s' R kR
      exact kR _ (Same.refl _)
    · intro x hx hb H' s' R kR
      obtain ⟨n, hn, rfl⟩ := List.mem_map.mp hx
      refine ⟨_, rfl, _, rfl, _, _, rfl, rfl, (by omega), _, _, rfl, rfl, ?_⟩
      dsimp only
      rw [shr_nat, show (1 : Int) = ((1 : Nat) : Int) from rfl, band_nat]
      exact kR _ (Same.refl _)
    · intro H' s' hD'
      refine k D H' hD s' ?_
      rw [hD']
      congr 2
      rw [filter_tt, List.map_map]
      unfold holders nv
      rw [List.map_map]
      rfl
theorem ok_all_within (T : Txt K mg A) : FnOk P w K mg base CX0 1 A.f_all_within A.fd_all_within ["numbers", "least", "most"] (sp_all_within K) := by
  refine T.fn_all_within.ok sc_all_within (fun vs H Q E h => ?_) (fun cdv Ar outer s H vs Q E hr h => ?_)
  · obtain ⟨a, ns, lo, hi, rfl, _⟩ := h
    rfl
  · obtain ⟨a, ns, lo, hi, rfl, hq, hl, k⟩ := h
    refine ⟨_, (pss_one (ps_ret (pe_callB (cr_all rfl) (by rfl) T.b_all boot_all (pa_cons (pe_lc rfl sc_all_within.nd (pi_list (pv 0)) (blkOk_by (own := [("number", 3)]) (by show blkC ["numbers", "least", "most", "number"] (defScope s_all_within) _ _ = true; decide +kernel))
        (fun _ _ _ _ _ => (pg_name (i := 3) sc_all_within.nd rfl (Or.inl rfl))) (fun _ _ _ _ _ => pts_nil) (fun _ _ _ _ _ => (pe_chain op_le op_le (pv 1) (pv 3) (pv 2)))) pa_nil)))), ?_⟩
    refine ⟨_, rfl, a, rfl, ⟨_, hq⟩, fun D hD => lc_list_same (K := K) (a := a) (xs := iv ns) (i := 3) (fun _ => true) (fun v => match v with | .int x => .bl (decide (lo ≤ x ∧ x ≤ hi)) | v => v) hq hD (by rw [List.length_map, sizeLine_eq]; omega) ?_ ?_ ?_⟩
    · intro x hx H' s' R kR
      exact kR _ (Same.refl _)
    · intro x hx hb H' s' R kR
      obtain ⟨n, hn, rfl⟩ := List.mem_map.mp hx
      refine ⟨_, rfl, _, rfl, _, _, rfl, rfl, _, rfl, ?_⟩
      refine ite2 (fun c => ?_) (fun c => ?_)
      · refine ⟨_, rfl, _, _, rfl, rfl, ?_⟩
        dsimp only
        have e : decide (n ≤ hi) = decide (lo ≤ n ∧ n ≤ hi) := by simp at c; simp [c]
        rw [e]
        exact kR _ (Same.refl _)
      · have e : false = decide (lo ≤ n ∧ n ≤ hi) := by simp at c; simp; omega
        rw [e]
        exact kR _ (Same.refl _)
    · intro H' s' hD'
      refine ⟨D, ns.map fun x => decide (lo ≤ x ∧ x ≤ hi), rfl, SqL.of ?_, ?_⟩
      · rw [hD', filter_tt, List.map_map, List.map_map]
        rfl
      · rw [List.all_map]
        exact k H' s'
end
end Lr
end
section
set_option Elab.async false
set_option linter.all false
set_option maxRecDepth 100000
set_option maxHeartbeats 2000000
namespace Lr
open PySem PySem.Spec PyProof.Rows L2
open Vbecao (Land numberOf members)
theorem nv_snoc (L : List Nat) (n : Nat) : nv (L ++ [n]) = nv L ++ [V.int (n : Int)] := List.map_append ..
section
variable {P : Program} {w : World} {K : PySem.W.Frag} {mg : Str → Option Value} {base : Heap} {A : Ad}
theorem ok_sum_over (T : Txt K mg A) : FnOk P w K mg base CX0 2 A.f_sum_over A.fd_sum_over ["worths", "members"] (sp_sum_over K) := by
  have G_cells_of := ok_cells_of (P := P) (w := w) (base := base) T
  refine T.fn_sum_over.ok sc_sum_over (fun vs H Q E h => ?_) (fun cdv Ar outer s H vs Q E hr h => ?_)
  · obtain ⟨a, ws, s', rfl, _⟩ := h
    rfl
  · obtain ⟨a, ws, m, rfl, hq, hl, hm, k⟩ := h
    refine ⟨_, (pss_one (ps_ret (pe_callB (cr_sum rfl) (by rfl) T.b_sum boot_sum (pa_cons (pe_lc rfl sc_sum_over.nd (pi_list (pe_call G_cells_of (hr.mono (by decide)) rfl T.m_cells_of T.kp_cells_of T.bd_cells_of .nil pass0 (pa_cons (pv 1) pa_nil))) (blkOk_by (own := [("cell", 2)]) (by show blkC ["worths", "members", "cell"] (defScope s_sum_over) _ _ = true; decide +kernel))
        (fun _ _ _ _ _ => (pg_name (i := 2) sc_sum_over.nd rfl (Or.inl rfl))) (fun _ _ _ _ _ => pts_nil) (fun _ _ _ _ _ => (pe_ix (show IxR _ (rIxL K) from ix_list) (pv 0) (pv 2) (fun _ _ => rfl)))) pa_nil)))), ?_⟩
    refine ⟨_, rfl, m, rfl, fun p H1 hp s1 h1 => ⟨p, rfl, ⟨_, SqL.of h1⟩, fun D hD => lc_list_same (K := K) (a := p) (xs := nv (cellsOf m)) (i := 2) (fun _ => true) (fun v => match v with | .int x => .int ((ws.getD x.toNat 0 : Nat) : Int) | v => v) (SqL.of h1) hD ?_ ?_ ?_ ?_⟩⟩
    · rw [List.length_map, sizeLine_eq]
      have := List.length_filter_le (fun c => m.testBit c) (List.range 12)
      rw [List.length_range] at this
      unfold cellsOf
      omega
    · intro x hx H' s' R kR
      exact kR _ (Same.refl _)
    · intro x hx hb H' s' R kR
      obtain ⟨n, hn, rfl⟩ := List.mem_map.mp hx
      rw [cellsOf_n hl hm, List.mem_filter, List.mem_range] at hn
      have e : ws[n]? = some (ws.getD n 0) := by rw [List.getD_eq_getElem?_getD, List.getElem?_eq_getElem hn.1]; rfl
      exact ⟨_, rfl, _, rfl, a, _, _, _, rfl, rfl, (s1.trans s').seq hq, atI_nat (nv_at e), kR _ (Same.refl _)⟩
    · intro H' s' hD'
      refine ⟨D, (cellsOf m).map fun c => ((ws.getD c 0 : Nat) : Int), rfl, SqL.of ?_, ?_⟩
      · rw [hD', filter_tt, List.map_map, List.map_map]
        rfl
      · have e : (List.map (fun c => ((ws.getD c 0 : Nat) : Int)) (cellsOf m)).sum = ((worth ws m : Nat) : Int) := by
          rw [sum_cast, cellsOf_n hl hm]; rfl
        rw [e]
        exact k H' (s1.trans s')
theorem ok_sums_over_all (T : Txt K mg A) : FnOk P w K mg base CX0 1 A.f_sums_over_all A.fd_sums_over_all ["worths"] (sp_sums_over_all K) := by
  refine T.fn_sums_over_all.ok sc_sums_over_all (fun vs H Q E h => ?_) (fun cdv Ar outer s H vs Q E hr h => ?_)
  · obtain ⟨a, ws, rfl, _⟩ := h
    rfl
  · obtain ⟨a, ws, rfl, hq, hl, k⟩ := h
    refine ⟨_, (pss_cons (ps_set (i := 1) sc_sums_over_all.nd rfl (Or.inl rfl) (pe_lst (pa_cons pe_int pa_nil)))
      (pss_cons (ps_for PassesOwn.never rfl (pi_list (pv 0)) (pg_name (i := 2) sc_sums_over_all.nd rfl (Or.inr rfl))
        (pss_one (ps_set (i := 1) sc_sums_over_all.nd rfl (Or.inl rfl) (pe_op op_cat (pv 1) (pe_lc rfl sc_sums_over_all.nd (pi_list (pv 1)) (blkOk_by (own := [("before", 3)]) (by show blkC ["worths", "sums", "worth", "before"] (defScope s_sums_over_all) _ _ = true; decide +kernel))
        (fun _ _ _ _ _ => (pg_name (i := 3) sc_sums_over_all.nd rfl (Or.inl rfl))) (fun _ _ _ _ _ => pts_nil) (fun _ _ _ _ _ => (pe_op op_add (pv 3) (pv 2))))))))
      (pss_one (ps_ret (pv 1))))), ?_⟩
    refine ⟨(by show 1 ≤ sizeLine; decide), fun l0 hl0 => ?_⟩
    have s0 : Same H (upd H l0 (.lst [.int 0])) := same_new hl0
    refine ⟨_, rfl, a, rfl, ⟨_, s0.seq hq⟩, for_list (K := K) (a := a) (xs := nv ws) (fun i σ H' => ∃ (l : Addr) (v : Option V), σ = [some (.ref a), some (.ref l), v, none] ∧ Same H H' ∧ H l = none ∧ H' l = some (.lst (nv (sumsAll (ws.take i))))) ⟨l0, none, rfl, s0, hl0, upd_same⟩ (fun i σ H' _ zz => by obtain ⟨_, _, _, s1, _⟩ := zz; exact s1.seq hq) ?_ ?_⟩
    · rintro i y σ H' hi ⟨l, v, rfl, s1, hl1, hl2⟩
      obtain ⟨n, hn, rfl⟩ := nv_get hi
      have hi2 : i < ws.length := (List.getElem?_eq_some_iff.mp hn).1
      have len : (sumsAll (ws.take i)).length ≤ 4096 := by
        rw [sumsAll_length, List.length_take]
        exact Nat.pow_le_pow_right (n := 2) (by decide) (show min i ws.length ≤ 12 by omega)
      refine ⟨_, rfl, _, rfl, l, rfl, ⟨_, SqL.of hl2⟩, fun D hD => lc_list_same (K := K) (a := l) (xs := nv (sumsAll (ws.take i))) (i := 3) (fun _ => true) (fun v => match v with | .int x => .int (x + (n : Int)) | v => v) (SqL.of hl2) hD ?_ ?_ ?_ ?_⟩
      · rw [List.length_map, sizeLine_eq]; omega
      · intro x hx H3 s3 R kR
        exact kR _ (Same.refl _)
      · intro x hx hb H3 s3 R kR
        obtain ⟨z, hz, rfl⟩ := List.mem_map.mp hx
        exact ⟨_, rfl, _, rfl, _, _, rfl, rfl, kR _ (Same.refl _)⟩
      · intro H3 s3 hD3
        refine ⟨l, D, _, _, rfl, rfl, s3 _ _ hl2, hD3, ?_, fun q hq' => ?_⟩
        · rw [List.length_map, List.length_map, filter_tt, List.length_map, sizeLine_eq]; omega
        · have hq0 : H q = none := (s1.trans s3).free hq'
          refine ⟨q, _, rfl, same_newer (s1.trans s3) hq0, hq0, ?_⟩
          rw [upd_same, sumsAll_take hn, filter_tt]
          show some (HO.lst (nv (sumsAll (ws.take i)) ++ _)) = some (HO.lst (List.map _ (sumsAll (ws.take i) ++ _)))
          rw [List.map_append, List.map_map, List.map_map]
          congr 3
    · rintro σ H' ⟨l, v, rfl, s1, hl1, hl2⟩
      have e : (nv ws).length = ws.length := List.length_map ..
      rw [e, List.take_length] at hl2
      exact ⟨_, rfl, k l H' hl1 s1 hl2⟩
theorem ok_neighbours (T : Txt K mg A) : FnOk P w K mg base CX0 1 A.f_neighbours A.fd_neighbours ["width", "height", "cell"] (sp_neighbours) := by
  refine T.fn_neighbours.ok sc_neighbours (fun vs H Q E h => ?_) (fun cdv Ar outer s H vs Q E hr h => ?_)
  · obtain ⟨x, y, z, rfl, _⟩ := h
    rfl
  · obtain ⟨wd, ht, c, rfl, hw, hw2, k⟩ := h
    refine ⟨_, (pss_cons (ps_set (i := 3) sc_neighbours.nd rfl (Or.inl rfl) (pe_lst pa_nil))
      (pss_cons (ps_if (pt_cmpR op_ge (pv 2) (pv 0) (nomark _))
        (pss_one (ps_expr (pe_bm PySem.F.plainAttrs_list PySem.F.slot_list_append PySem.F.type_list_append mt_append (pv 3) (pa_cons (pe_op op_sub (pv 2) (pv 0)) pa_nil))))
        pss_nil)
      (pss_cons (ps_if (pt_cmpR op_gt (pe_op op_mod (pv 2) (pv 0)) pe_int (nomark _))
        (pss_one (ps_expr (pe_bm PySem.F.plainAttrs_list PySem.F.slot_list_append PySem.F.type_list_append mt_append (pv 3) (pa_cons (pe_op op_sub (pv 2) pe_int) pa_nil))))
        pss_nil)
      (pss_cons (ps_if (pt_cmpR op_lt (pe_op op_mod (pv 2) (pv 0)) (pe_op op_sub (pv 0) pe_int) (nomark _))
        (pss_one (ps_expr (pe_bm PySem.F.plainAttrs_list PySem.F.slot_list_append PySem.F.type_list_append mt_append (pv 3) (pa_cons (pe_op op_add (pv 2) pe_int) pa_nil))))
        pss_nil)
      (pss_cons (ps_if (pt_cmpR op_lt (pe_op op_add (pv 2) (pv 0)) (pe_op op_mul (pv 0) (pv 1)) (nomark _))
        (pss_one (ps_expr (pe_bm PySem.F.plainAttrs_list PySem.F.slot_list_append PySem.F.type_list_append mt_append (pv 3) (pa_cons (pe_op op_add (pv 2) (pv 0)) pa_nil))))
        pss_nil)
      (pss_one (ps_ret (pv 3)))))))), ?_⟩
    have e1 : (decide ((wd : Int) ≤ (c : Int))) = decide (wd ≤ c) := by simp
    have e2 : (decide ((0 : Int) < (c : Int) % (wd : Int))) = decide (0 < c % wd) := by
      rw [← Int.natCast_emod]; simp; omega
    have e3 : (decide ((c : Int) % (wd : Int) < (wd : Int) - 1)) = decide (c % wd < wd - 1) := by
      rw [← Int.natCast_emod]; simp; omega
    have e4 : (decide ((c : Int) + (wd : Int) < (wd : Int) * (ht : Int))) = decide (c + wd < wd * ht) := by
      rw [decide_eq_decide]; norm_cast
    have hwi : (0 : Int) < (wd : Int) := by omega
    have hml := Nat.mod_le c wd
    have one : ∀ (xs : List Nat) (b : Prop) [Decidable b] (n : Nat), xs.length ≤ 9 → (nv xs).length < sizeLine := fun xs b _ n h => by rw [List.length_map, sizeLine_eq]; omega
    have cl : ∀ (b : Prop) [Decidable b] (n : Nat), (if b then [n] else ([] : List Nat)).length ≤ 1 := fun b _ n => by split <;> simp
    generalize hA : (if wd ≤ c then [c - wd] else []) = LA
    generalize hB : (if 0 < c % wd then [c - 1] else []) = LB
    generalize hC : (if c % wd < wd - 1 then [c + 1] else []) = LC
    have lA : LA.length ≤ 1 := hA ▸ cl _ _
    have lB : LB.length ≤ 1 := hB ▸ cl _ _
    have lC : LC.length ≤ 1 := hC ▸ cl _ _
    refine seq_gen (fun σ H' => ∃ l, σ = [some (.int (wd : Int)), some (.int (ht : Int)), some (.int (c : Int)), some (.ref l)] ∧ H l = none ∧ H' = upd H l (.lst [])) (fun R hR => ⟨Nat.zero_le _, fun l hl => hR _ _ ⟨l, rfl, hl, rfl⟩⟩) ?_
    rintro σ H' ⟨l, rfl, hl, rfl⟩
    refine seq_gen (fun σ H' => σ = [some (.int (wd : Int)), some (.int (ht : Int)), some (.int (c : Int)), some (.ref l)] ∧ H' = upd H l (.lst (nv LA))) (fun R hR => ?_) ?_
    · refine ⟨_, rfl, _, rfl, _, _, rfl, rfl, _, rfl, ?_⟩
      rw [e1]
      refine ite2 (fun c1 => ⟨_, rfl, .inl ⟨rfl, _, SqL.of upd_same⟩, _, rfl, _, rfl, _, _, rfl, rfl, l, _, _, rfl, rfl, upd_same, by decide, hR _ _ ⟨rfl, ?_⟩⟩) (fun c1 => hR _ _ ⟨rfl, ?_⟩)
      · have c1' := of_decide_eq_true c1
        rw [upd_upd, ← hA, if_pos c1', List.nil_append]
        show _ = upd H l (.lst [V.int ((c - wd : Nat) : Int)])
        rw [show ((c - wd : Nat) : Int) = (c : Int) - (wd : Int) by omega]
      · rw [← hA, if_neg (of_decide_eq_false (by simpa using c1))]; rfl
    rintro σ H' ⟨rfl, rfl⟩
    refine seq_gen (fun σ H' => σ = [some (.int (wd : Int)), some (.int (ht : Int)), some (.int (c : Int)), some (.ref l)] ∧ H' = upd H l (.lst (nv (LA ++ LB)))) (fun R hR => ?_) ?_
    · refine ⟨_, rfl, _, rfl, _, _, rfl, rfl, hwi, _, _, rfl, rfl, _, rfl, ?_⟩
      rw [e2]
      refine ite2 (fun c1 => ⟨_, rfl, .inl ⟨rfl, _, SqL.of upd_same⟩, _, rfl, _, _, rfl, rfl, l, _, _, rfl, rfl, upd_same, one LA True 0 (by omega), hR _ _ ⟨rfl, ?_⟩⟩) (fun c1 => hR _ _ ⟨rfl, ?_⟩)
      · have c1' := of_decide_eq_true c1
        rw [upd_upd, ← hB, if_pos c1']
        rw [nv_snoc, show ((c - 1 : Nat) : Int) = (c : Int) - 1 by omega]
      · rw [← hB, if_neg (of_decide_eq_false (by simpa using c1)), List.append_nil]
    rintro σ H' ⟨rfl, rfl⟩
    refine seq_gen (fun σ H' => σ = [some (.int (wd : Int)), some (.int (ht : Int)), some (.int (c : Int)), some (.ref l)] ∧ H' = upd H l (.lst (nv (LA ++ LB ++ LC)))) (fun R hR => ?_) ?_
    · refine ⟨_, rfl, _, rfl, _, _, rfl, rfl, hwi, _, rfl, _, _, rfl, rfl, _, _, rfl, rfl, _, rfl, ?_⟩
      rw [e3]
      refine ite2 (fun c1 => ⟨_, rfl, .inl ⟨rfl, _, SqL.of upd_same⟩, _, rfl, _, _, rfl, rfl, l, _, _, rfl, rfl, upd_same, one (LA ++ LB) True 0 (by rw [List.length_append]; omega), hR _ _ ⟨rfl, ?_⟩⟩) (fun c1 => hR _ _ ⟨rfl, ?_⟩)
      · have c1' := of_decide_eq_true c1
        rw [upd_upd, ← hC, if_pos c1']
        rw [nv_snoc, Int.natCast_add]
        rfl
      · rw [← hC, if_neg (of_decide_eq_false (by simpa using c1)), List.append_nil]
    rintro σ H' ⟨rfl, rfl⟩
    refine seq_gen (fun σ H' => σ = [some (.int (wd : Int)), some (.int (ht : Int)), some (.int (c : Int)), some (.ref l)] ∧ H' = upd H l (.lst (nv (nears wd ht c)))) (fun R hR => ?_) ?_
    · have en : nears wd ht c = LA ++ LB ++ LC ++ (if c + wd < wd * ht then [c + wd] else []) := by unfold nears; rw [hA, hB, hC]
      refine ⟨_, rfl, _, rfl, _, _, rfl, rfl, _, rfl, _, rfl, _, _, rfl, rfl, .inl ⟨by omega, by omega⟩, _, _, rfl, rfl, _, rfl, ?_⟩
      rw [e4]
      refine ite2 (fun c1 => ⟨_, rfl, .inl ⟨rfl, _, SqL.of upd_same⟩, _, rfl, _, rfl, _, _, rfl, rfl, l, _, _, rfl, rfl, upd_same, one (LA ++ LB ++ LC) True 0 (by rw [List.length_append, List.length_append]; omega), hR _ _ ⟨rfl, ?_⟩⟩) (fun c1 => hR _ _ ⟨rfl, ?_⟩)
      · have c1' := of_decide_eq_true c1
        rw [upd_upd, en, if_pos c1']
        rw [nv_snoc, Int.natCast_add]
      · rw [en, if_neg (of_decide_eq_false (by simpa using c1)), List.append_nil]
    rintro σ H' ⟨rfl, rfl⟩
    exact ⟨_, rfl, k l _ hl (same_new hl) upd_same⟩
end
end Lr
end
section
set_option Elab.async false
set_option linter.all false
set_option maxRecDepth 100000
set_option maxHeartbeats 2000000
namespace Lr
open PySem PySem.Spec PyProof.Rows L2
open Vbecao (Land numberOf members)
theorem near_small {m : Land} (ok : LandOk m) {c : Nat} (hc : c < m.size) : ∀ n ∈ nears m.w m.h c, n ≤ 1000 := fun n hn => by
  have := ((near_iff (p := m.prices) (k := m.kinds) ok.snd.w1 ok.snd.h1 ok.snd.sz hc).mp hn).1
  have h2 : m.w * m.h ≤ 12 := ok.snd.sz
  omega
theorem nearsAll_at {m : Land} {c : Nat} (hc : c < m.size) : (nearsAll m)[c]? = some (nearSet m.w m.h c) := by
  unfold nearsAll nearL; rw [List.getElem?_map, List.getElem?_range hc]; rfl
theorem size_cast (m : Land) : (m.w : Int) * (m.h : Int) = ((m.size : Nat) : Int) := by unfold Vbecao.Land.size; simp
theorem cut_one (xs : List V) : cutV xs none (some 1) = xs.take 1 := by
  unfold cutV
  rw [show (1 : Int) = ((1 : Nat) : Int) from rfl, HT.sIx_nat, HT.sIx_none, List.drop_zero, Nat.sub_zero]
  cases xs with
  | nil => rfl
  | cons x r => rw [List.length_cons, Nat.min_eq_left (by omega)]
section
variable {P : Program} {w : World} {K : PySem.W.Frag} {mg : Str → Option Value} {base : Heap} {A : Ad}
def fpW (m : Land) (s : Nat) (b p1 : Addr) (H : Hp) (n : Nat) (σ : L2.St) (H' : Hp) : Prop := ∃ (pc : Nat) (g : Bool) (bf cl : Option V), n = 2 * (2 ^ m.size - pc) + (if g = true then 1 else 0) ∧ σ = [some (.ref b), some (.int (s : Int)), some (.ref p1), some (.int (pc : Int)), some (.bl g), bf, cl] ∧ Same H H' ∧
  H' p1 = some (.lst (nv (members m s))) ∧ Reached m s pc ∧ (∀ a ∈ (members m s).take 1, pc.testBit a = true) ∧ (g = false → pass (nearSet m.w m.h) (members m s) pc = pc)
theorem ok_first_piece (T : Txt K mg A) : FnOk P w K mg base CX0 2 A.f_first_piece A.fd_first_piece ["beside", "members"] (sp_first_piece K) := by
  have G_cells_of := ok_cells_of (P := P) (w := w) (base := base) T
  have G_set_of := ok_set_of (P := P) (w := w) (base := base) T
  refine T.fn_first_piece.ok sc_first_piece (fun vs H Q E h => ?_) (fun cdv Ar outer s H vs Q E hr h => ?_)
  · obtain ⟨b, m, s', rfl, _⟩ := h
    rfl
  · obtain ⟨b, m, z, rfl, hq, ok, hz, k⟩ := h
    have sz := ok.snd.sz
    refine ⟨_, (pss_cons (ps_set (i := 2) sc_first_piece.nd rfl (Or.inl rfl) (pe_call G_cells_of (hr.mono (by decide)) rfl T.m_cells_of T.kp_cells_of T.bd_cells_of .nil pass0 (pa_cons (pv 1) pa_nil)))
      (pss_cons (ps_set (i := 3) sc_first_piece.nd rfl (Or.inl rfl) (pe_call G_set_of (hr.mono (by decide)) rfl T.m_set_of T.kp_set_of T.bd_set_of .nil pass0 (pa_cons (pe_slice sl_list (pv 2) po_none (po_some pe_int)) pa_nil)))
      (pss_cons (ps_set (i := 4) sc_first_piece.nd rfl (Or.inl rfl) pe_bl)
      (pss_cons (ps_while PassesOwn.never (pt_val (pv 4))
        (pss_cons (ps_set (i := 5) sc_first_piece.nd rfl (Or.inl rfl) (pv 3))
      (pss_cons (ps_for PassesOwn.never rfl (pi_list (pv 2)) (pg_name (i := 6) sc_first_piece.nd rfl (Or.inl rfl))
        (pss_one (ps_if (pt_cmpR op_ne (pe_op op_and (pe_ix ix_list (pv 0) (pv 6) (fun _ _ => rfl)) (pv 3)) pe_int (nomark _))
        (pss_one (ps_set (i := 3) sc_first_piece.nd rfl (Or.inl rfl) (pe_op op_or (pv 3) (pe_op op_shl pe_int (pv 6)))))
        pss_nil)))
      (pss_one (ps_set (i := 4) sc_first_piece.nd rfl (Or.inl rfl) (pe_cmpR op_ne (pv 3) (pv 5) (nomark _)))))))
      (pss_one (ps_ret (pv 3))))))), ?_⟩
    refine ⟨_, rfl, z, rfl, fun p1 H1 hp1 s1 h1 => ?_⟩
    rw [cellsOf_eq sz hz] at h1
    refine ⟨_, rfl, 1, rfl, p1, _, rfl, SqL.of h1, fun p2 hp2 => ?_⟩
    rw [cut_one]
    refine ⟨p2, (members m z).take 1, rfl, SqL.of (by rw [upd_same, nv_take]), fun n hn => ?_, fun H2 s2 => ?_⟩
    · have := (mem_members.mp (List.mem_of_mem_take hn)).1; omega
    have s02 : Same H H2 := (s1.trans (same_new hp2)).trans s2
    have h12 : H2 p1 = some (.lst (nv (members m z))) := s2 _ _ (same_new hp2 _ _ h1)
    refine ⟨fpW m z b p1 H, ⟨_, _, true, none, none, rfl, rfl, s02, h12, first_start, head_in, fun e => by cases e⟩, ?_⟩
    rintro n σ H3 ⟨pc, g, bf, cl, rfl, rfl, s3, h3, hre, hhd, hfx⟩
    refine ⟨_, rfl, _, rfl, ?_⟩
    cases g with
    | false =>
      refine iteF ⟨_, rfl, ?_⟩
      exact k pc (first_end ok.snd hhd hre (hfx rfl)) H3 s3
    | true =>
      refine iteT ⟨fun σ' H' => ∃ m', m' < 2 * (2 ^ m.size - pc) + (if true = true then 1 else 0) ∧ fpW m z b p1 H m' σ' H', fun _ _ q => q, ?_⟩
      refine ⟨_, rfl, _, rfl, p1, rfl, ⟨_, SqL.of h3⟩, for_list (K := K) (a := p1) (xs := nv (members m z)) (fun i σ H' => ∃ cl : Option V, σ = [some (.ref b), some (.int (z : Int)), some (.ref p1), some (.int ((pass (nearSet m.w m.h) ((members m z).take i) pc : Nat) : Int)), some (.bl true), some (.int (pc : Int)), cl] ∧ H' = H3) ⟨cl, rfl, rfl⟩ (fun i σ H' _ zz => by obtain ⟨_, _, e⟩ := zz; subst e; exact SqL.of h3) ?_ ?_⟩
      · rintro i y σ H' hi ⟨cl', rfl, rfl⟩
        obtain ⟨c, hc, rfl⟩ := nv_get hi
        have hcm := mem_members.mp (List.mem_of_getElem? hc)
        refine ⟨_, rfl, _, rfl, b, _, _, _, rfl, rfl, s3.seq hq, atI_nat (nv_at (nearsAll_at hcm.1)), _, rfl, _, _, rfl, rfl, rfl, _, rfl, ?_⟩
        refine itb (decide ((nearSet m.w m.h c &&& pass (nearSet m.w m.h) ((members m z).take i) pc) ≠ 0)) ?_ (fun c1 => ?_) (fun c1 => ?_)
        · show (!decide (V.int (Builtin.bitAnd _ _) = V.int 0)) = _
          rw [band_nat, dec_int, Bool.eq_iff_iff]; simp
        · refine ⟨_, rfl, _, rfl, _, _, rfl, rfl, ⟨by omega, by omega, by decide⟩, _, _, rfl, rfl, ?_⟩
          refine ⟨some (.int (c : Int)), ?_, rfl⟩
          rw [take_snoc hc, pass_snoc, if_pos (of_decide_eq_true c1), ← bor_nat, ← show (1 : Int) * 2 ^ ((c : Int).toNat) = ((2 ^ c : Nat) : Int) by rw [show (1 : Int) = ((1 : Nat) : Int) from rfl, shl_nat, Nat.one_mul]]
          rfl
        · refine ⟨some (.int (c : Int)), ?_, rfl⟩
          rw [take_snoc hc, pass_snoc, if_neg (of_decide_eq_false c1)]
          rfl
      · rintro σ H' ⟨cl', rfl, rfl⟩
        have e : (nv (members m z)).length = (members m z).length := List.length_map ..
        rw [e, List.take_length]
        refine ⟨_, rfl, _, rfl, rfl, ?_⟩
        have hre' := Reached.pass ok.snd (members m z) pc (fun c hc => hc) hre
        have ge := pass_ge (nearSet m.w m.h) (members m z) pc
        have lt := hre'.lt
        refine ⟨_, ?_, _, _, _, _, rfl, rfl, s3, h3, hre', fun a ha => pass_mono _ _ _ _ (hhd a ha), fun hg => ?_⟩
        · by_cases q : pass (nearSet m.w m.h) (members m z) pc = pc
          · rw [q]; simp
          · have : (!decide (V.int ((pass (nearSet m.w m.h) (members m z) pc : Nat) : Int) = V.int (pc : Int))) = true := by
              simp; omega
            rw [this]
            generalize 2 ^ m.size = N at *
            simp
            omega
        · have q : pass (nearSet m.w m.h) (members m z) pc = pc := by simp at hg; omega
          rw [q]; exact q
def cpW (m : Land) (s : Nat) (b : Addr) (H : Hp) (n : Nat) (σ : L2.St) (H' : Hp) : Prop := ∃ many : Nat, n < 2 ^ m.size ∧ σ = [some (.ref b), some (.int (s : Int)), some (.int (many : Int)), some (.int (n : Int))] ∧ Same H H' ∧ many + (Vbecao.pieces m n).length = (Vbecao.pieces m s).length
theorem ok_count_pieces (T : Txt K mg A) : FnOk P w K mg base CX0 3 A.f_count_pieces A.fd_count_pieces ["beside", "members"] (sp_count_pieces K) := by
  have G_first_piece := ok_first_piece (P := P) (w := w) (base := base) T
  refine T.fn_count_pieces.ok sc_count_pieces (fun vs H Q E h => ?_) (fun cdv Ar outer s H vs Q E hr h => ?_)
  · obtain ⟨b, m, s', rfl, _⟩ := h
    rfl
  · obtain ⟨b, m, z, rfl, hq, ok, hz, k⟩ := h
    refine ⟨_, (pss_cons (ps_set (i := 2) sc_count_pieces.nd rfl (Or.inl rfl) pe_int)
      (pss_cons (ps_set (i := 3) sc_count_pieces.nd rfl (Or.inl rfl) (pv 1))
      (pss_cons (ps_while PassesOwn.never (pt_cmpR op_ne (pv 3) pe_int (nomark _))
        (pss_cons (ps_set (i := 3) sc_count_pieces.nd rfl (Or.inl rfl) (pe_op op_sub (pv 3) (pe_call G_first_piece (hr.mono (by decide)) rfl T.m_first_piece T.kp_first_piece T.bd_first_piece .nil pass0 (pa_cons (pv 0) (pa_cons (pv 3) pa_nil)))))
      (pss_one (ps_set (i := 2) sc_count_pieces.nd rfl (Or.inl rfl) (pe_op op_add (pv 2) pe_int)))))
      (pss_one (ps_ret (pv 2)))))), ?_⟩
    refine ⟨_, rfl, cpW m z b H, ⟨z, 0, hz, rfl, Same.refl _, Nat.zero_add _⟩, ?_⟩
    rintro n σ H1 ⟨many, hn, rfl, s1, hp⟩
    refine ⟨_, rfl, rfl, _, rfl, ?_⟩
    refine itb (decide (n ≠ 0)) (by rw [dec_int, Bool.eq_iff_iff]; simp) (fun c => ?_) (fun c => ?_)
    · have hn0 : n ≠ 0 := of_decide_eq_true c
      refine ⟨fun σ' H' => ∃ m', m' < n ∧ cpW m z b H m' σ' H', fun _ _ q => q, ?_⟩
      refine ⟨_, rfl, _, rfl, _, rfl, b, m, n, rfl, s1.seq hq, ok, hn, fun r hr H2 s2 => ?_⟩
      have hlt := hr.lt_of hn hn0
      obtain ⟨c0, rest, e0⟩ := members_ne hn hn0
      refine ⟨_, _, rfl, rfl, _, rfl, _, _, rfl, rfl, ?_⟩
      refine ⟨n - r, hlt.2, many + 1, by omega, ?_, s1.trans s2, ?_⟩
      · rw [← show (n : Int) - (r : Int) = ((n - r : Nat) : Int) by omega]
        rfl
      · rw [hr.pieces e0, List.length_cons] at hp
        omega
    · have hn0 : n = 0 := by simpa using c
      subst hn0
      rw [pieces_zero, List.length_nil, Nat.add_zero] at hp
      subst hp
      exact ⟨_, rfl, k H1 s1⟩
end
end Lr
end
section
set_option Elab.async false
set_option linter.all false
set_option maxRecDepth 100000
set_option maxHeartbeats 2000000
namespace Lr
open PySem PySem.Spec PyProof.Rows L2
open Vbecao (Land numberOf members)
section
variable {wd ht : Int} {pa ka ba na : Addr}
theorem rs_width : (rsF wd ht pa ka ba na).lookup ("width" : Str) = some (.int wd) := look_hit
theorem rs_height : (rsF wd ht pa ka ba na).lookup ("height" : Str) = some (.int ht) := (look_miss (by decide +kernel)).trans look_hit
theorem rs_prices : (rsF wd ht pa ka ba na).lookup ("prices" : Str) = some (.ref pa) := (look_miss (by decide +kernel)).trans ((look_miss (by decide +kernel)).trans look_hit)
theorem rs_kinds : (rsF wd ht pa ka ba na).lookup ("kinds" : Str) = some (.ref ka) := (look_miss (by decide +kernel)).trans ((look_miss (by decide +kernel)).trans ((look_miss (by decide +kernel)).trans look_hit))
theorem rs_beside : (rsF wd ht pa ka ba na).lookup ("beside" : Str) = some (.ref ba) := (look_miss (by decide +kernel)).trans ((look_miss (by decide +kernel)).trans ((look_miss (by decide +kernel)).trans ((look_miss (by decide +kernel)).trans look_hit)))
theorem rs_needs : (rsF wd ht pa ka ba na).lookup ("needs" : Str) = some (.ref na) := (look_miss (by decide +kernel)).trans ((look_miss (by decide +kernel)).trans ((look_miss (by decide +kernel)).trans ((look_miss (by decide +kernel)).trans ((look_miss (by decide +kernel)).trans look_hit))))
theorem rs_no {m : Str} (h1 : ¬ m = "width") (h2 : ¬ m = "height") (h3 : ¬ m = "prices") (h4 : ¬ m = "kinds") (h5 : ¬ m = "beside") (h6 : ¬ m = "needs") : (rsF wd ht pa ka ba na).lookup m = none :=
  (look_miss h1).trans ((look_miss h2).trans ((look_miss h3).trans ((look_miss h4).trans ((look_miss h5).trans ((look_miss h6).trans rfl)))))
end
theorem needs_at {need : List Nat} {i n : Nat} (h : need[i]? = some n) : need.getD i 0 = n := by rw [List.getD_eq_getElem?_getD, h]; rfl
abbrev bv (bs : List Bool) : List V := bs.map V.bl
theorem bv_set (bs : List Bool) (j : Nat) : (bv bs).set j (.bl true) = bv (bs.set j true) := List.map_set.symm
theorem bv_at {bs : List Bool} {j : Nat} (h : j < bs.length) : (bv bs)[j]? = some (.bl (bs.getD j false)) := by
  rw [List.getElem?_map, List.getD_eq_getElem?_getD, List.getElem?_eq_getElem h]; rfl
theorem ixN_nat {n k : Nat} (h : k < n) : ixN n (k : Int) = some k := by
  unfold ixN; rw [if_pos (by omega), if_pos (by omega)]; simp
theorem rep_one {α : Type} (x : α) (k : Nat) : (List.replicate k [x]).flatten = List.replicate k x := by
  induction k with
  | zero => rfl
  | succ k ih => rw [List.replicate_succ, List.flatten_cons, ih]; rfl
theorem one_shl (c : Nat) : (1 : Int) * 2 ^ ((c : Int).toNat) = ((2 ^ c : Nat) : Int) := by rw [show (1 : Int) = ((1 : Nat) : Int) from rfl, shl_nat, Nat.one_mul]
section
variable {P : Program} {w : World} {K : PySem.W.Frag} {mg : Str → Option Value} {base : Heap} {A : Ad}
theorem ok_sets_in_one_piece (T : Txt K mg A) : FnOk P w K mg base CX0 1 A.f_sets_in_one_piece A.fd_sets_in_one_piece ["beside"] (sp_sets_in_one_piece K) := by
  refine T.fn_sets_in_one_piece.ok sc_sets_in_one_piece (fun vs H Q E h => ?_) (fun cdv Ar outer s H vs Q E hr h => ?_)
  · obtain ⟨b, m, rfl, _⟩ := h
    rfl
  · obtain ⟨b, m, rfl, hq, ok, k⟩ := h
    have sz := ok.snd.sz
    have p2 : 2 ^ m.size ≤ 4096 := Nat.pow_le_pow_right (n := 2) (by decide) sz
    have p1 := Nat.two_pow_pos m.size
    have nl : (nearsAll m).length = m.size := nearL_len m
    refine ⟨_, (pss_cons (ps_set (i := 1) sc_sets_in_one_piece.nd rfl (Or.inl rfl) (pe_op op_shl pe_int (pe_callB call_len_seq (by rfl) T.b_len PySem.boot_len (pa_cons (pv 0) pa_nil))))
      (pss_cons (ps_set (i := 2) sc_sets_in_one_piece.nd rfl (Or.inr rfl) (pe_op op_rep (pe_lst (pa_cons pe_bl pa_nil)) (pv 1)))
      (pss_cons (ps_asg pe_bl (pg_sub (pv 2) pe_int set_list))
      (pss_cons (ps_for PassesOwn.never rfl (pi_range1 rfl T.b_range (pa_cons (pe_callB call_len_seq (by rfl) T.b_len PySem.boot_len (pa_cons (pv 0) pa_nil)) pa_nil)) (pg_name (i := 3) sc_sets_in_one_piece.nd rfl (Or.inl rfl))
        (pss_one (ps_asg pe_bl (pg_sub (pv 2) (pe_op op_shl pe_int (pv 3)) set_list))))
      (pss_cons (ps_for PassesOwn.never rfl (pi_range1 rfl T.b_range (pa_cons (pv 1) pa_nil)) (pg_name (i := 4) sc_sets_in_one_piece.nd rfl (Or.inl rfl))
        (pss_one (ps_if (pt_val (pe_ix ix_list (pv 2) (pv 4) (fun _ _ => rfl)))
        (pss_one (ps_for PassesOwn.never rfl (pi_enum rfl T.b_enumerate (pa_cons (pv 0) pa_nil)) (pg_tup rfl (pgs_cons (pg_name (i := 3) sc_sets_in_one_piece.nd rfl (Or.inl rfl)) (pgs_cons (pg_name (i := 5) sc_sets_in_one_piece.nd rfl (Or.inl rfl)) pgs_nil)))
        (pss_one (ps_if (pt_cmpR op_ne (pe_op op_and (pv 5) (pv 4)) pe_int (nomark _))
        (pss_one (ps_asg pe_bl (pg_sub (pv 2) (pe_op op_or (pv 4) (pe_op op_shl pe_int (pv 3))) set_list)))
        pss_nil))))
        pss_nil)))
      (pss_one (ps_ret (pe_lc rfl sc_sets_in_one_piece.nd (pi_range1 rfl T.b_range (pa_cons (pv 1) pa_nil)) (blkOk_by (own := [("members", 4)]) (by show blkC ["beside", "many", "joined", "cell", "members", "near"] (defScope s_sets_in_one_piece) _ _ = true; decide +kernel))
        (fun _ _ _ _ _ => (pg_name (i := 4) sc_sets_in_one_piece.nd rfl (Or.inl rfl))) (fun _ _ _ _ _ => (pts_one (pt_val (pe_ix (show IxR _ (rIxL K) from ix_list) (pv 2) (pv 4) (fun _ _ => rfl))))) (fun _ _ _ _ _ => (pv 4)))))))))), ?_⟩
    have er : (1 : Int) * 2 ^ (((nv (nearsAll m)).length : Nat) : Int).toNat = ((2 ^ m.size : Nat) : Int) := by
      rw [one_shl, List.length_map, nl]
    have le12 : (nv (nearsAll m)).length ≤ 1000 := by rw [List.length_map, nl]; omega
    refine seq_gen (fun σ H' => σ = [some (.ref b), some (.int ((2 ^ m.size : Nat) : Int)), none, none, none, none] ∧ H' = H) (fun R hR => ?_) ?_
    · refine ⟨_, rfl, b, _, rfl, .inl hq, _, _, rfl, rfl, cpow1 le12, hR _ _ ⟨?_, rfl⟩⟩
      rw [← er]; rfl
    rintro σ H' ⟨rfl, rfl⟩
    refine seq_gen (fun σ H1 => ∃ jl, σ = [some (.ref b), some (.int ((2 ^ m.size : Nat) : Int)), some (.ref jl), none, none, none] ∧ Same H' H1 ∧ H' jl = none ∧ H1 jl = some (.lst (List.replicate (2 ^ m.size) (V.bl false)))) (fun R hR => ?_) ?_
    · refine ⟨(by show 1 ≤ sizeLine; decide), fun t0 ht0 => ⟨_, rfl, t0, _, _, rfl, rfl, upd_same, by omega, by omega, (by rw [Int.toNat_natCast, sizeLine_eq]; show 1 * _ ≤ _; omega), fun jl hjl => ?_⟩⟩
      have s0 := same_new (o := .lst [.bl false]) ht0
      rw [Int.toNat_natCast, rep_one]
      exact hR _ _ ⟨jl, rfl, same_newer s0 (s0.free hjl), s0.free hjl, upd_same⟩
    rintro σ H1 ⟨jl, rfl, s1, hj0, hj1⟩
    refine seq_gen (fun σ H2 => σ = [some (.ref b), some (.int ((2 ^ m.size : Nat) : Int)), some (.ref jl), none, none, none] ∧ Same H' H2 ∧ H2 jl = some (.lst (bv (jstart m.size 0)))) (fun R hR => ?_) ?_
    · refine ⟨_, rfl, jl, _, _, 0, rfl, rfl, hj1, ixN_nat (k := 0) (by rw [List.length_replicate]; exact p1), hR _ _ ⟨rfl, same_newer s1 hj0, ?_⟩⟩
      rw [upd_same]
      congr 2
      show _ = bv ((List.replicate (2 ^ m.size) false).set 0 true)
      rw [← bv_set]
      congr 1
      unfold bv
      rw [List.map_replicate]
    rintro σ H2 ⟨rfl, s2, h2⟩
    -- for cell in range(len(beside))
    refine seq_gen (fun σ H3 => ∃ v3 : Option V, σ = [some (.ref b), some (.int ((2 ^ m.size : Nat) : Int)), some (.ref jl), v3, none, none] ∧ Same H' H3 ∧ H3 jl = some (.lst (bv (jstart m.size m.size)))) (fun R0 hR0 => ?_) ?_
    · refine ⟨_, rfl, b, _, rfl, .inl (s2.seq hq), ((m.size : Nat) : Int), (by show [V.int (((nv (nearsAll m)).length : Nat) : Int)] = _; rw [List.length_map, nl]), rlo _, rhi (Nat.le_trans sz (by decide)), ?_⟩
      rw [Int.toNat_natCast]
      refine for_rangeR (n := m.size) (fun i σ H3 => ∃ v3 : Option V, σ = [some (.ref b), some (.int ((2 ^ m.size : Nat) : Int)), some (.ref jl), v3, none, none] ∧ Same H' H3 ∧ H3 jl = some (.lst (bv (jstart m.size i))))
        ⟨none, rfl, s2, h2⟩ ?_ (fun σ H3 h => hR0 σ H3 h)
      rintro i σ H3 hi ⟨v3, rfl, s3, h3⟩ R B hR
      have hlt : 2 ^ i < (bv (jstart m.size i)).length := by rw [List.length_map, (jstart_spec m.size i (by omega)).1]; exact Nat.pow_lt_pow_right (by decide) hi
      refine ⟨_, rfl, _, rfl, _, _, rfl, rfl, cpow1 (small_of hi sz), jl, _, _, 2 ^ i, rfl, rfl, h3, by rw [one_shl]; exact ixN_nat hlt, hR _ _ ⟨_, rfl, same_newer s3 hj0, ?_⟩⟩
      rw [upd_same, bv_set, jstart_succ]
    -- for members in range(many)
    rintro σ H2 ⟨v3, rfl, s2, h2⟩
    refine seq_gen (fun σ H3 => ∃ v3 v4 v5 : Option V, σ = [some (.ref b), some (.int ((2 ^ m.size : Nat) : Int)), some (.ref jl), v3, v4, v5] ∧ Same H' H3 ∧ H3 jl = some (.lst (bv (jall (nearsAll m) (2 ^ m.size))))) (fun R0 hR0 => ?_) ?_
    · refine ⟨_, rfl, ((2 ^ m.size : Nat) : Int), rfl, rlo _, rhi p2, ?_⟩
      rw [Int.toNat_natCast]
      refine for_rangeR (n := 2 ^ m.size) (fun i σ H3 => ∃ v3 v4 v5 : Option V, σ = [some (.ref b), some (.int ((2 ^ m.size : Nat) : Int)), some (.ref jl), v3, v4, v5] ∧ Same H' H3 ∧ H3 jl = some (.lst (bv (jall (nearsAll m) i))))
        ⟨v3, none, none, rfl, s2, ?_⟩ ?_ (fun σ H3 h => hR0 σ H3 h)
      · rw [h2]
        have e : jall (nearsAll m) 0 = jstart m.size m.size := by unfold jall; rw [nl]; rfl
        rw [e]
      rintro i σ H3 hi ⟨v3, v4, v5, rfl, s3, h3⟩ R B hR
      have jl3 : (jall (nearsAll m) i).length = 2 ^ m.size := by rw [jall_len, nl]
      rw [jall_succ] at hR
      generalize jall (nearsAll m) i = arr at *
      refine ⟨_, rfl, _, rfl, jl, _, _, _, rfl, rfl, SqL.of h3, atI_nat (bv_at (by rw [jl3]; exact hi)), _, rfl, ?_⟩
      refine itb (arr.getD i false) rfl (fun c => ?_) (fun c => ?_)
      · have ej : jturn (nearsAll m) arr i = jputs (nearsAll m) i arr (nearsAll m).length := by unfold jturn; rw [if_pos c]
        rw [ej] at hR
        refine ⟨_, rfl, b, _, rfl, s3.seq hq, for_enumR (K := K) (a := b) (xs := nv (nearsAll m)) (fun q σ H4 => ∃ v3 v5 : Option V, σ = [some (.ref b), some (.int ((2 ^ m.size : Nat) : Int)), some (.ref jl), v3, some (.int (i : Int)), v5] ∧ Same H' H4 ∧ H4 jl = some (.lst (bv (jputs (nearsAll m) i arr q))))
          ⟨v3, v5, rfl, s3, h3⟩ (fun q σ H4 _ zz => by obtain ⟨_, _, _, s4, _⟩ := zz; exact s4.seq hq) ?_ ?_⟩
        · rintro q y σ H4 Tp hy ⟨v3, v5, rfl, s4, h4⟩ hT R1 B1 hR1
          obtain ⟨n, hn, rfl⟩ := nv_get hy
          have hqm : q < m.size := by rw [← nl]; exact (List.getElem?_eq_some_iff.mp hn).1
          have s5 : Same H' (upd H4 Tp (.tup [.int (q : Nat), .int (n : Int)])) := s4.trans (same_new hT)
          have h5 := same_new (o := .tup [.int (q : Nat), .int (n : Int)]) hT _ _ h4
          have en : (nearsAll m).getD q 0 = n := by rw [List.getD_eq_getElem?_getD, hn]; rfl
          refine ⟨Tp, _, rfl, SqT.of upd_same, rfl, _, _, rfl, _, _, rfl, rfl, ?_⟩
          refine ⟨_, rfl, _, rfl, _, _, rfl, rfl, rfl, _, rfl, ?_⟩
          have lt : (i ||| 2 ^ q) < 2 ^ m.size := or_lt hi hqm
          refine itb (decide (((nearsAll m).getD q 0 &&& i) ≠ 0)) ?_ (fun c1 => ?_) (fun c1 => ?_)
          · show (!decide (V.int (Builtin.bitAnd _ _) = V.int 0)) = _
            rw [band_nat, dec_int, Bool.eq_iff_iff, en]; simp
          · refine ⟨_, rfl, _, rfl, _, rfl, _, _, rfl, rfl, cpow1 (small_of hqm sz), _, _, rfl, rfl, jl, _, _, i ||| 2 ^ q, rfl, rfl, h5, ?_, ?_⟩
            · rw [one_shl, bor_nat]
              exact ixN_nat (by rw [List.length_map, jputs_len, jl3]; exact lt)
            · refine hR1 _ _ ⟨_, _, rfl, same_newer s5 hj0, ?_⟩
              rw [upd_same, bv_set, jputs_succ]
              unfold jput
              rw [if_pos (of_decide_eq_true c1)]
          · refine hR1 _ _ ⟨_, _, rfl, s5, ?_⟩
            rw [h5, jputs_succ]
            unfold jput
            rw [if_neg (of_decide_eq_false c1)]
        · rintro σ H4 ⟨v3, v5, rfl, s4, h4⟩
          rw [List.length_map] at h4
          exact hR _ _ ⟨_, _, _, rfl, s4, h4⟩
      · refine hR _ _ ⟨_, _, _, rfl, s3, ?_⟩
        rw [h3]
        unfold jturn
        rw [if_neg (by rw [c]; decide)]
    -- the sets
    rintro σ H3 ⟨v3, v4, v5, rfl, s3, h3⟩
    refine ⟨_, rfl, ((2 ^ m.size : Nat) : Int), rfl, rlo _, rhi p2, fun D hD => ?_⟩
    rw [Int.toNat_natCast]
    refine lc_range_same (n := 2 ^ m.size) (i := 4) (fun s => !true || Vbecao.joined m s) (fun c => .int (c : Int)) hD (by rw [sizeLine_eq]; omega) ?_ ?_ ?_
    · intro j hj H' s' R kR
      have e : (bv (jall (nearsAll m) (2 ^ m.size)))[j]? = some (.bl (Vbecao.joined m j)) := by
        rw [List.getElem?_map, show nearsAll m = nearL m from rfl, jall_at ok.snd hj]; rfl
      refine ⟨_, rfl, _, rfl, jl, _, _, _, rfl, rfl, SqL.of (s' _ _ h3), atI_nat e, _, rfl, ?_⟩
      exact kR _ (Same.refl _)
    · intro j hj hb H' s' R kR
      exact ⟨_, rfl, kR _ (Same.refl _)⟩
    · intro H4 s' hD'
      exact k D H4 (s3.free hD) (s3.trans s') hD'
theorem ok_asked_sets (T : Txt K mg A) : FnOk P w K mg base CX0 2 A.f_asked_sets A.fd_asked_sets ["reserve", "one"] (sp_asked_sets A.c_Reserve) := by
  have G_sets_in_one_piece := ok_sets_in_one_piece (P := P) (w := w) (base := base) T
  refine T.fn_asked_sets.ok sc_asked_sets (fun vs H Q E h => ?_) (fun cdv Ar outer s H vs Q E hr h => ?_)
  · obtain ⟨p, m, need, L, one, rfl, _⟩ := h
    rfl
  · obtain ⟨p, m, need, L, one, rfl, hp, k⟩ := h
    obtain ⟨⟨dx, pa, ka, ba, na, rfl, h1, h2, h3, h4, h5⟩, ok, nl, nb⟩ := hp
    have pl := ok.snd.pl
    have sz := ok.snd.sz
    have p2 : 2 ^ m.size ≤ 4096 := Nat.pow_le_pow_right (n := 2) (by decide) sz
    refine ⟨_, (pss_cons (ps_if (pt_cmpR op_eq (pv 1) pe_int (nomark _))
        (pss_one (ps_ret (pe_call G_sets_in_one_piece (hr.mono (by decide)) rfl T.m_sets_in_one_piece T.kp_sets_in_one_piece T.bd_sets_in_one_piece .nil pass0 (pa_cons (pe_fld (pv 0) rfl) pa_nil))))
        pss_nil)
      (pss_one (ps_ret (pe_callTy (call_list_rng rfl) (by rfl) T.b_list boot_list (pa_cons (pe_range1 rfl T.b_range (pa_cons (pe_op op_shl pe_int (pe_callB call_len_seq (by rfl) T.b_len PySem.boot_len (pa_cons (pe_fld (pv 0) rfl) pa_nil))) pa_nil)) pa_nil))))), ?_⟩
    refine ⟨_, rfl, rfl, _, rfl, ?_⟩
    refine itb (one == 1) (by rw [dec_int, Bool.eq_iff_iff]; simp; omega) (fun c => ?_) (fun c => ?_)
    · rw [c] at k
      exact ⟨_, rfl, p, _, dx, _, _, rfl, h1, T.cl_Reserve, T.na_Reserve_beside, rs_beside, ba, m, rfl, SqL.of h4, ok, k⟩
    · rw [c] at k
      refine ⟨_, rfl, p, _, dx, _, _, rfl, h1, T.cl_Reserve, T.na_Reserve_prices, rs_prices, pa, _, rfl, .inl (SqL.of h2), _, _, rfl, rfl, ⟨by omega, by rw [List.length_map, pl]; omega, by decide⟩, _, rfl, fun r hr => ?_⟩
      have er : (1 : Int) * 2 ^ (((nv m.prices).length : Nat) : Int).toNat = ((2 ^ m.size : Nat) : Int) := by
        rw [one_shl, List.length_map, pl]
      rw [er]
      refine ⟨r, 2 ^ m.size, rfl, upd_same, by omega, fun l0 hl0 => ?_⟩
      refine k l0 _ ((same_new hr).free hl0) ((same_new hr).trans (same_new hl0)) ?_
      rw [upd_same]
      congr 2
      show nv (Vbecao.sets m) = nv (askedL m false)
      congr 1
      exact (List.filter_eq_self.mpr fun a _ => rfl).symm
end
end Lr
end
section
set_option Elab.async false
set_option linter.all false
set_option maxRecDepth 100000
set_option maxHeartbeats 2000000
namespace Lr
open PySem PySem.Spec PyProof.Rows L2
open Vbecao (Land numberOf members)
theorem holders_len {ks : List Nat} {k : Nat} : (holders ks k).length = ks.length := List.length_map ..
section
variable {P : Program} {w : World} {K : PySem.W.Frag} {mg : Str → Option Value} {base : Heap} {A : Ad}
theorem ok_fits_without (T : Txt K mg A) : FnOk P w K mg base CX0 3 A.f_fits_without A.fd_fits_without ["reserve", "lost", "members"] (sp_fits_without A.c_Reserve) := by
  have G_holders := ok_holders (P := P) (w := w) (base := base) T
  have G_sum_over := ok_sum_over (P := P) (w := w) (base := base) T
  refine T.fn_fits_without.ok sc_fits_without (fun vs H Q E h => ?_) (fun cdv Ar outer s H vs Q E hr h => ?_)
  · obtain ⟨p, m, need, L, lo, z, rfl, _⟩ := h
    rfl
  · obtain ⟨p, m, need, L, lo, z, rfl, hp, hz, k⟩ := h
    have hp0 := hp
    obtain ⟨⟨dx, pa, ka, ba, na, rfl, h1, h2, h3, h4, h5⟩, ok, nl, nb⟩ := hp
    have kl := ok.snd.kl
    have sz := ok.snd.sz
    refine ⟨_, (pss_cons (ps_for PassesOwn.never rfl (pi_enum rfl T.b_enumerate (pa_cons (pe_fld (pv 0) rfl) pa_nil)) (pg_tup rfl (pgs_cons (pg_name (i := 3) sc_fits_without.nd rfl (Or.inl rfl)) (pgs_cons (pg_name (i := 4) sc_fits_without.nd rfl (Or.inl rfl)) pgs_nil)))
        (pss_cons (ps_set (i := 5) sc_fits_without.nd rfl (Or.inl rfl) (pe_call G_sum_over (hr.mono (by decide)) rfl T.m_sum_over T.kp_sum_over T.bd_sum_over .nil pass0 (pa_cons (pe_call G_holders (hr.mono (by decide)) rfl T.m_holders T.kp_holders T.bd_holders .nil pass0 (pa_cons (pe_fld (pv 0) rfl) (pa_cons (pv 3) pa_nil))) (pa_cons (pv 2) pa_nil))))
      (pss_one (ps_if (pt_cmpR op_lt (pe_callB (call_max2 rfl) (by rfl) T.b_max boot_max (pa_cons (pe_op op_sub (pv 5) (pv 1)) (pa_cons pe_int pa_nil))) (pv 4) (nomark _))
        (pss_one (ps_ret pe_bl))
        pss_nil))))
      (pss_one (ps_ret pe_bl))), ?_⟩
    refine ⟨_, rfl, p, _, dx, _, _, rfl, h1, T.cl_Reserve, T.na_Reserve_needs, rs_needs, na, _, rfl, SqL.of h5, for_enumR (K := K) (a := na) (xs := nv need) (fun i σ H' => ∃ v3 v4 v5 : Option V, σ = [some (.ref p), some (.int (lo : Int)), some (.int (z : Int)), v3, v4, v5] ∧ Same H H' ∧ ∀ kk, kk < i → need.getD kk 0 ≤ Vbecao.times m z kk - lo)
      ⟨none, none, none, rfl, Same.refl _, fun _ q => by omega⟩ (fun i σ H' _ zz => by obtain ⟨_, _, _, _, s1, _⟩ := zz; exact SqL.of (s1 _ _ h5)) ?_ ?_⟩
    · rintro i y σ H' Tp hi ⟨v3, v4, v5, rfl, s1, hk⟩ hT R B hR
      obtain ⟨n, hn, rfl⟩ := nv_get hi
      have s2 : Same H (upd H' Tp (.tup [.int (i : Nat), .int (n : Int)])) := s1.trans (same_new hT)
      refine ⟨Tp, _, rfl, SqT.of upd_same, rfl, _, _, rfl, _, _, rfl, rfl, ?_⟩
      refine ⟨_, rfl, p, _, dx, _, _, rfl, s2 _ _ h1, T.cl_Reserve, T.na_Reserve_kinds, rs_kinds, _, rfl, ka, m.kinds, i, rfl, SqL.of (s2 _ _ h3), by omega, fun q H3 hq3 s3 h33 => ?_⟩
      refine ⟨_, rfl, q, holders m.kinds i, z, rfl, SqL.of h33, by rw [holders_len]; omega, by rw [holders_len, kl]; exact hz, fun H4 s4 => ?_⟩
      have s5 : Same H H4 := (s2.trans s3).trans s4
      refine ⟨_, rfl, _, rfl, _, _, rfl, rfl, _, _, rfl, _, rfl, _, _, rfl, rfl, _, rfl, ?_⟩
      rw [← times_worth ok.snd]
      have hi8 : i < 8 := by rw [← nl]; exact (List.getElem?_eq_some_iff.mp hn).1
      refine itb (decide (Vbecao.times m z i - lo < n)) ?_ (fun c => ?_) (fun c => ?_)
      · rw [decide_eq_decide]
        split <;> omega
      · have c' := of_decide_eq_true c
        have e : fitsW m need lo z = false := by
          cases e : fitsW m need lo z with
          | false => rfl
          | true =>
            have := fitsW_iff.mp e i hi8
            rw [needs_at hn] at this
            omega
        have := k H4 s5
        rw [e] at this
        exact this
      · have c' := of_decide_eq_false c
        refine hR _ _ ⟨_, _, _, rfl, s5, fun kk hkk => ?_⟩
        by_cases q : kk < i
        · exact hk kk q
        · have e : kk = i := by omega
          subst e
          rw [needs_at hn]
          omega
    · rintro σ H' ⟨v3, v4, v5, rfl, s1, hk⟩
      have e : fitsW m need lo z = true := fitsW_iff.mpr fun kk hkk => hk kk (by rw [List.length_map, nl]; exact hkk)
      have := k H' s1
      rw [e] at this
      exact this
theorem ok_fitting_sets (T : Txt K mg A) : FnOk P w K mg base CX0 3 A.f_fitting_sets A.fd_fitting_sets ["reserve", "one"] (sp_fitting_sets A.c_Reserve) := by
  have G_asked_sets := ok_asked_sets (P := P) (w := w) (base := base) T
  have G_holders := ok_holders (P := P) (w := w) (base := base) T
  have G_sums_over_all := ok_sums_over_all (P := P) (w := w) (base := base) T
  refine T.fn_fitting_sets.ok sc_fitting_sets (fun vs H Q E h => ?_) (fun cdv Ar outer s H vs Q E hr h => ?_)
  · obtain ⟨p, m, need, L, one, rfl, _⟩ := h
    rfl
  · obtain ⟨p, m, need, L, one, rfl, hp, k⟩ := h
    have hp0 := hp
    obtain ⟨⟨dx, pa, ka, ba, na, rfl, h1, h2, h3, h4, h5⟩, ok, nl, nb⟩ := hp
    have kl := ok.snd.kl
    have sz := ok.snd.sz
    have p2 : 2 ^ m.size ≤ 4096 := Nat.pow_le_pow_right (n := 2) (by decide) sz
    have flen : ∀ q : Nat → Bool, ((askedL m (one == 1)).filter q).length ≤ 4096 := fun q => by
      have := List.length_filter_le q (askedL m (one == 1))
      have := asked_len m (one == 1)
      omega
    refine ⟨_, (pss_cons (ps_set (i := 2) sc_fitting_sets.nd rfl (Or.inl rfl) (pe_call G_asked_sets (hr.mono (by decide)) rfl T.m_asked_sets T.kp_asked_sets T.bd_asked_sets .nil pass0 (pa_cons (pv 0) (pa_cons (pv 1) pa_nil))))
      (pss_cons (ps_for PassesOwn.never rfl (pi_enum rfl T.b_enumerate (pa_cons (pe_fld (pv 0) rfl) pa_nil)) (pg_tup rfl (pgs_cons (pg_name (i := 3) sc_fitting_sets.nd rfl (Or.inl rfl)) (pgs_cons (pg_name (i := 4) sc_fitting_sets.nd rfl (Or.inr rfl)) pgs_nil)))
        (pss_cons (ps_set (i := 5) sc_fitting_sets.nd rfl (Or.inr rfl) (pe_call G_sums_over_all (hr.mono (by decide)) rfl T.m_sums_over_all T.kp_sums_over_all T.bd_sums_over_all .nil pass0 (pa_cons (pe_call G_holders (hr.mono (by decide)) rfl T.m_holders T.kp_holders T.bd_holders .nil pass0 (pa_cons (pe_fld (pv 0) rfl) (pa_cons (pv 3) pa_nil))) pa_nil)))
      (pss_one (ps_setLc (i := 2) rfl sc_fitting_sets.nd rfl rfl (sw_true rfl rfl rfl rfl) (pi_list (pv 2)) (blkOk_by (own := [("members", 6)]) (by show blkC ["reserve", "one", "fitting", "kind", "need", "often", "members"] (defScope s_fitting_sets) _ _ = true; decide +kernel))
        (fun _ _ _ _ _ => (pg_name (i := 6) sc_fitting_sets.nd rfl (Or.inl rfl))) (fun _ _ _ _ _ => (pts_one (pt_cmpR op_ge (pe_ix (show IxR _ (rIxL K) from ix_list) (pv 5) (pv 6) (fun _ _ => rfl)) (pv 4) (nomark _)))) (fun _ _ _ _ _ => (pv 6))))))
      (pss_one (ps_ret (pv 2))))), ?_⟩
    refine ⟨_, rfl, _, rfl, p, m, need, _, one, rfl, hp0, fun l0 H0 hl00 s0 h00 => ?_⟩
    refine ⟨_, rfl, p, _, dx, _, _, rfl, s0 _ _ h1, T.cl_Reserve, T.na_Reserve_needs, rs_needs, na, _, rfl, SqL.of (s0 _ _ h5), for_enumR (K := K) (a := na) (xs := nv need) (fun i σ H' => ∃ (l : Addr) (v3 v4 v5 : Option V), σ = [some (.ref p), some (.int (one : Int)), some (.ref l), v3, v4, v5, none] ∧ Same H H' ∧ H l = none ∧ H' l = some (.lst (nv ((askedL m (one == 1)).filter fun z => (List.range i).all fun kk => decide (need.getD kk 0 ≤ Vbecao.times m z kk)))))
      ⟨l0, none, none, none, rfl, s0, hl00, ?_⟩ (fun i σ H' _ zz => by obtain ⟨_, _, _, _, _, s1, _⟩ := zz; exact SqL.of (s1 _ _ h5)) ?_ ?_⟩
    · rw [h00]
      congr 3
      symm
      rw [List.filter_eq_self]
      intro a _
      rfl
    · rintro i y σ H' Tp hi ⟨l, v3, v4, v5, rfl, s1, hl, hl1⟩ hT R B hR
      obtain ⟨n, hn, rfl⟩ := nv_get hi
      have s2 : Same H (upd H' Tp (.tup [.int (i : Nat), .int (n : Int)])) := s1.trans (same_new hT)
      have hl2 := same_new (o := .tup [.int (i : Nat), .int (n : Int)]) hT _ _ hl1
      refine ⟨Tp, _, rfl, SqT.of upd_same, rfl, _, _, rfl, _, _, rfl, rfl, ?_⟩
      refine ⟨_, rfl, p, _, dx, _, _, rfl, s2 _ _ h1, T.cl_Reserve, T.na_Reserve_kinds, rs_kinds, _, rfl, ka, m.kinds, i, rfl, SqL.of (s2 _ _ h3), by omega, fun q H3 hq3 s3 h33 => ?_⟩
      refine ⟨q, holders m.kinds i, rfl, SqL.of h33, by rw [holders_len]; omega, fun o H4 ho4 s4 h44 => ?_⟩
      have s5 : Same H H4 := (s2.trans s3).trans s4
      have hl5 := s4 _ _ (s3 _ _ hl2)
      refine ⟨_, rfl, l, rfl, ⟨_, SqL.of hl5⟩, fun D hD => lc_list_same (K := K) (a := l) (xs := nv ((askedL m (one == 1)).filter fun z => (List.range i).all fun kk => decide (need.getD kk 0 ≤ Vbecao.times m z kk))) (i := 6) (fun v => match v with | .int x => decide (n ≤ Vbecao.times m x.toNat i) | _ => false) (fun v => v) (SqL.of hl5) hD ?_ ?_ ?_ ?_⟩
      · rw [List.length_map, sizeLine_eq]
        have := flen fun z => (List.range i).all fun kk => decide (need.getD kk 0 ≤ Vbecao.times m z kk)
        omega
      · intro x hx H6 s6 R' kR
        obtain ⟨z, hz, rfl⟩ := List.mem_map.mp hx
        have hz2 : z < 2 ^ m.size := asked_lt (List.mem_filter.mp hz).1
        have e : (sumsAll (holders m.kinds i))[z]? = some (worth (holders m.kinds i) z) := sumsAll_get _ z (by rw [holders_len, kl]; exact hz2)
        refine ⟨_, rfl, _, rfl, o, _, _, _, rfl, rfl, SqL.of (s6 _ _ h44), atI_nat (nv_at e), _, rfl, _, _, rfl, rfl, _, rfl, ?_⟩
        rw [← times_worth ok.snd]
        have e2 : decide ((n : Int) ≤ ((Vbecao.times m z i : Nat) : Int)) = decide (n ≤ Vbecao.times m z i) := by simp
        rw [e2]
        exact kR _ (Same.refl _)
      · intro x hx hb H6 s6 R kR
        exact ⟨_, rfl, kR _ (Same.refl _)⟩
      · intro H6 s6 hD6
        refine hR _ _ ⟨D, _, _, _, rfl, s5.trans s6, s5.free hD, ?_⟩
        rw [hD6, List.map_id', List.filter_map, List.filter_filter]
        congr 3
        apply List.filter_congr
        intro z _
        rw [List.range_succ, List.all_append]
        simp only [Function.comp, Int.toNat_natCast, List.all_cons, List.all_nil, Bool.and_true, needs_at hn]
        exact Bool.and_comm _ _
    · rintro σ H' ⟨l, v3, v4, v5, rfl, s1, hl, hl1⟩
      rw [show (nv need).length = 8 by rw [List.length_map, nl]] at hl1
      exact ⟨_, rfl, k l H' hl s1 hl1⟩
end
end Lr
end
section
set_option Elab.async false
set_option linter.all false
set_option maxRecDepth 100000
set_option maxHeartbeats 2000000
namespace Lr
open PySem PySem.Spec PyProof.Rows L2
open Vbecao (Land numberOf members)
section
variable {P : Program} {w : World} {K : PySem.W.Frag} {mg : Str → Option Value} {base : Heap} {A : Ad}
theorem ok_first_cheapest (T : Txt K mg A) : FnOk P w K mg base CX0 2 A.f_first_cheapest A.fd_first_cheapest ["reserve", "sets"] (sp_first_cheapest A.c_Reserve K) := by
  have G_sums_over_all := ok_sums_over_all (P := P) (w := w) (base := base) T
  refine T.fn_first_cheapest.ok sc_first_cheapest (fun vs H Q E h => ?_) (fun cdv Ar outer s H vs Q E hr h => ?_)
  · obtain ⟨p, m, need, L, l, x, r, rfl, _⟩ := h
    rfl
  · obtain ⟨p, m, need, L, l, x, r, rfl, hp, hq, hfs, k⟩ := h
    obtain ⟨⟨dx, pa, ka, ba, na, rfl, h1, h2, h3, h4, h5⟩, ok, nl, nb⟩ := hp
    have pl := ok.snd.pl
    have sz := ok.snd.sz
    refine ⟨_, (pss_cons (ps_set (i := 2) sc_first_cheapest.nd rfl (Or.inl rfl) (pe_call G_sums_over_all (hr.mono (by decide)) rfl T.m_sums_over_all T.kp_sums_over_all T.bd_sums_over_all .nil pass0 (pa_cons (pe_fld (pv 0) rfl) pa_nil)))
      (pss_cons (ps_set (i := 3) sc_first_cheapest.nd rfl (Or.inl rfl) (pe_ix ix_list (pv 1) pe_int (fun _ _ => rfl)))
      (pss_cons (ps_for PassesOwn.never rfl (pi_list (pv 1)) (pg_name (i := 4) sc_first_cheapest.nd rfl (Or.inl rfl))
        (pss_one (ps_if (pt_cmpR op_lt (pe_ix ix_list (pv 2) (pv 4) (fun _ _ => rfl)) (pe_ix ix_list (pv 2) (pv 3) (fun _ _ => rfl)) (nomark _))
        (pss_one (ps_set (i := 3) sc_first_cheapest.nd rfl (Or.inl rfl) (pv 4)))
        pss_nil)))
      (pss_one (ps_ret (pv 3)))))), ?_⟩
    refine ⟨_, rfl, p, _, dx, _, _, rfl, h1, T.cl_Reserve, T.na_Reserve_prices, rs_prices, pa, m.prices, rfl, SqL.of h2, by omega, fun pr H1 hpr s1 h11 => ?_⟩
    refine ⟨_, rfl, l, _, _, _, rfl, rfl, s1.seq hq, atI_nat (j := 0) (nv_at (ns := x :: r) (i := 0) (n := x) rfl), ?_⟩
    refine ⟨_, rfl, l, rfl, ⟨_, s1.seq hq⟩, for_list (K := K) (a := l) (xs := nv (x :: r)) (fun i σ H' => ∃ v4 : Option V, σ = [some (.ref p), some (.ref l), some (.ref pr), some (.int ((cheapL m x ((x :: r).take i) : Nat) : Int)), v4] ∧ H' = H1)
      ⟨none, rfl, rfl⟩ (fun i σ H' _ zz => by obtain ⟨_, _, e⟩ := zz; subst e; exact s1.seq hq) ?_ ?_⟩
    · rintro i y σ H' hi ⟨v4, rfl, rfl⟩
      obtain ⟨z, hz, rfl⟩ := nv_get hi
      have hz2 := hfs z (List.mem_of_getElem? hz)
      have ht2 : cheapL m x ((x :: r).take i) < 2 ^ m.size := by
        rcases cheapL_mem (m := m) (x := x) ((x :: r).take i) with e | e
        · rw [e]; exact hfs x (by simp)
        · exact hfs _ (List.mem_of_mem_take e)
      have pp : ∀ s, s < 2 ^ m.size → (sumsAll m.prices)[s]? = some (Vbecao.price m s) := fun s hs => by rw [price_worth ok.snd]; exact sumsAll_get _ s (by rw [pl]; exact hs)
      refine ⟨_, rfl, _, rfl, pr, _, _, _, rfl, rfl, SqL.of h11, atI_nat (nv_at (pp z hz2)), _, rfl, _, rfl, pr, _, _, _, rfl, rfl, SqL.of h11, atI_nat (nv_at (pp _ ht2)), _, _, rfl, rfl, _, rfl, ?_⟩
      refine itb (decide (Vbecao.price m z < Vbecao.price m (cheapL m x ((x :: r).take i)))) (by simp) (fun c => ?_) (fun c => ?_)
      · refine ⟨_, rfl, some (.int (z : Int)), ?_, rfl⟩
        rw [take_snoc hz, cheapL_snoc, if_pos (of_decide_eq_true c)]
        rfl
      · refine ⟨some (.int (z : Int)), ?_, rfl⟩
        rw [take_snoc hz, cheapL_snoc, if_neg (of_decide_eq_false c)]
        rfl
    · rintro σ H' ⟨v4, rfl, rfl⟩
      have e : (nv (x :: r)).length = (x :: r).length := List.length_map ..
      rw [e, List.take_length]
      exact ⟨_, rfl, k _ s1⟩
theorem ok_price_and_cells (T : Txt K mg A) : FnOk P w K mg base CX0 3 A.f_price_and_cells A.fd_price_and_cells ["reserve", "members"] (sp_price_and_cells A.c_Reserve) := by
  have G_sum_over := ok_sum_over (P := P) (w := w) (base := base) T
  have G_cells_of := ok_cells_of (P := P) (w := w) (base := base) T
  refine T.fn_price_and_cells.ok sc_price_and_cells (fun vs H Q E h => ?_) (fun cdv Ar outer s H vs Q E hr h => ?_)
  · obtain ⟨p, m, need, L, t, rfl, _⟩ := h
    rfl
  · obtain ⟨p, m, need, L, t, rfl, hp, ht, k⟩ := h
    obtain ⟨⟨dx, pa, ka, ba, na, rfl, h1, h2, h3, h4, h5⟩, ok, nl, nb⟩ := hp
    have pl := ok.snd.pl
    have sz := ok.snd.sz
    refine ⟨_, (pss_one (ps_ret (pe_op op_cat (pe_lst (pa_cons (pe_call G_sum_over (hr.mono (by decide)) rfl T.m_sum_over T.kp_sum_over T.bd_sum_over .nil pass0 (pa_cons (pe_fld (pv 0) rfl) (pa_cons (pv 1) pa_nil))) pa_nil)) (pe_call G_cells_of (hr.mono (by decide)) rfl T.m_cells_of T.kp_cells_of T.bd_cells_of .nil pass0 (pa_cons (pv 1) pa_nil))))), ?_⟩
    refine ⟨_, rfl, p, _, dx, _, _, rfl, h1, T.cl_Reserve, T.na_Reserve_prices, rs_prices, _, rfl, pa, m.prices, t, rfl, SqL.of h2, by omega, by rw [pl]; exact ht, fun H4 s4 => ?_⟩
    refine ⟨(by show 1 ≤ sizeLine; decide), fun x hx => ?_⟩
    refine ⟨_, rfl, t, rfl, fun y H5 hy s5 h5' => ?_⟩
    refine ⟨x, y, _, _, rfl, rfl, s5 _ _ upd_same, h5', ?_, fun z hz => ?_⟩
    · rw [List.length_map, sizeLine_eq]
      have := List.length_filter_le (fun c => t.testBit c) (List.range 12)
      rw [List.length_range] at this
      unfold cellsOf
      show 1 + _ ≤ _
      omega
    · have s05 : Same H H5 := (s4.trans (same_new hx)).trans s5
      refine k z _ (s05.free hz) (s05.trans (same_new hz)) ?_
      rw [upd_same, cellsOf_eq sz ht, nv_iv, ← price_worth ok.snd]
      rfl
theorem ok_is_list_of (T : Txt K mg A) : FnOk P w K mg base CX0 2 A.f_is_list_of A.fd_is_list_of ["numbers", "length", "most"] (sp_is_list_of K) := by
  have G_all_within := ok_all_within (P := P) (w := w) (base := base) T
  refine T.fn_is_list_of.ok sc_is_list_of (fun vs H Q E h => ?_) (fun cdv Ar outer s H vs Q E hr h => ?_)
  · obtain ⟨a, ns, hi, n, rfl, _⟩ := h
    rfl
  · obtain ⟨a, ns, hi, n, rfl, hq, hl, k⟩ := h
    refine ⟨_, (pss_one (ps_ret (pe_and (pe_cmpR op_eq (pe_callB call_len_seq (by rfl) T.b_len PySem.boot_len (pa_cons (pv 0) pa_nil)) (pv 1) (nomark _)) (pe_one (pe_call G_all_within (hr.mono (by decide)) rfl T.m_all_within T.kp_all_within T.bd_all_within .nil pass0 (pa_cons (pv 0) (pa_cons pe_int (pa_cons (pv 2) pa_nil)))))))), ?_⟩
    refine ⟨_, rfl, a, _, rfl, .inl hq, _, rfl, rfl, _, rfl, ?_⟩
    have e : decide (V.int (((iv ns).length : Nat) : Int) = V.int (n : Int)) = decide (ns.length = n) := by
      rw [List.length_map, dec_int, Bool.eq_iff_iff]; simp; omega
    rw [e]
    refine ite2 (fun c => ?_) (fun c => ?_)
    · refine ⟨_, rfl, _, rfl, a, ns, 0, hi, rfl, hq, hl, ?_⟩
      rw [c, Bool.true_and] at k
      exact k
    · have c' : decide (ns.length = n) = false := by simpa using c
      rw [c', Bool.false_and] at k
      exact k H (Same.refl _)
theorem ok_is_told_set (T : Txt K mg A) : FnOk P w K mg base CX0 2 A.f_is_told_set A.fd_is_told_set ["reserve", "cells"] (sp_is_told_set A.c_Reserve K) := by
  have G_all_within := ok_all_within (P := P) (w := w) (base := base) T
  refine T.fn_is_told_set.ok sc_is_told_set (fun vs H Q E h => ?_) (fun cdv Ar outer s H vs Q E hr h => ?_)
  · obtain ⟨p, m, need, L, a, ns, rfl, _⟩ := h
    rfl
  · obtain ⟨p, m, need, L, a, ns, rfl, hp, hq, hl, k⟩ := h
    obtain ⟨⟨dx, pa, ka, ba, na, rfl, h1, h2, h3, h4, h5⟩, ok, nl, nb⟩ := hp
    refine ⟨_, (pss_one (ps_ret (pe_and (pe_cmpR op_le (pe_callB call_len_seq (by rfl) T.b_len PySem.boot_len (pa_cons (pv 1) pa_nil)) (pe_glob (v := .int (24)) rfl T.g_MOST_TOLD ⟨_, rfl⟩) (nomark _)) (pe_one (pe_call G_all_within (hr.mono (by decide)) rfl T.m_all_within T.kp_all_within T.bd_all_within .nil pass0 (pa_cons (pv 1) (pa_cons pe_int (pa_cons (pe_op op_sub (pe_callB call_len_seq (by rfl) T.b_len PySem.boot_len (pa_cons (pe_fld (pv 0) rfl) pa_nil)) pe_int) pa_nil)))))))), ?_⟩
    refine ⟨_, rfl, a, _, rfl, .inl hq, _, _, rfl, rfl, _, rfl, ?_⟩
    have e : decide ((((iv ns).length : Nat) : Int) ≤ 24) = decide (ns.length ≤ 24) := by
      rw [List.length_map, Bool.eq_iff_iff]; simp; omega
    rw [e]
    refine ite2 (fun c => ?_) (fun c => ?_)
    · refine ⟨_, rfl, _, rfl, p, _, dx, _, _, rfl, h1, T.cl_Reserve, T.na_Reserve_prices, rs_prices, pa, _, rfl, .inl (SqL.of h2), _, _, rfl, rfl, a, ns, 0, _, rfl, hq, hl, ?_⟩
      rw [List.length_map, ok.snd.pl]
      rw [c, Bool.true_and] at k
      exact k
    · have c' : decide (ns.length ≤ 24) = false := by simpa using c
      rw [c', Bool.false_and] at k
      exact k H (Same.refl _)
end
end Lr
end
section
set_option Elab.async false
set_option linter.all false
set_option maxRecDepth 100000
set_option maxHeartbeats 2000000
namespace Lr
open PySem PySem.Spec PyProof.Rows L2
open Vbecao (Land numberOf members)
theorem nv_set (W : List Nat) (j v : Nat) : (nv W).set j (.int (v : Int)) = nv (W.set j v) := List.map_set.symm
theorem nv_getD {W : List Nat} {j : Nat} (h : j < W.length) : (nv W)[j]? = some (.int ((W.getD j 0 : Nat) : Int)) := nv_at (getN h)
theorem min_nat (x y : Nat) : (if (y : Int) < (x : Int) then (y : Int) else (x : Int)) = ((min x y : Nat) : Int) := by
  split <;> omega
theorem ints_sum (l : List Nat) : (Vbecao.ints l).sum = ((l.sum : Nat) : Int) := by
  unfold Vbecao.ints; exact sum_cast0 l
section
variable {P : Program} {w : World} {K : PySem.W.Frag} {mg : Str → Option Value} {base : Heap} {A : Ad}
theorem ok_least_way (T : Txt K mg A) : FnOk P w K mg base CX0 2 A.f_least_way A.fd_least_way ["reserve", "begin", "end"] (sp_least_way A.c_Reserve) := by
  have G_cells_of := ok_cells_of (P := P) (w := w) (base := base) T
  refine T.fn_least_way.ok sc_least_way (fun vs H Q E h => ?_) (fun cdv Ar outer s H vs Q E hr h => ?_)
  · obtain ⟨p, m, need, L, a, b, rfl, _⟩ := h
    rfl
  · obtain ⟨p, m, need, L, a, b, rfl, hp, ha, hb, k⟩ := h
    obtain ⟨⟨dx, pa, ka, ba, na, rfl, h1, h2, h3, h4, h5⟩, ok, nl, nb⟩ := hp
    have pl := ok.snd.pl
    have sz := ok.snd.sz
    have ll : (nearsAll m).length = m.size := nearL_len m
    refine ⟨_, (pss_cons (ps_set (i := 3) sc_least_way.nd rfl (Or.inl rfl) (pe_fld (pv 0) rfl))
      (pss_cons (ps_set (i := 4) sc_least_way.nd rfl (Or.inl rfl) (pe_op op_rep (pe_lst (pa_cons (pe_callB (cr_sum rfl) (by rfl) T.b_sum boot_sum (pa_cons (pv 3) pa_nil)) pa_nil)) (pe_callB call_len_seq (by rfl) T.b_len PySem.boot_len (pa_cons (pv 3) pa_nil))))
      (pss_cons (ps_asg (pe_ix ix_list (pv 3) (pv 1) (fun _ _ => rfl)) (pg_sub (pv 4) (pv 1) set_list))
      (pss_cons (ps_for PassesOwn.never rfl (pi_range1 rfl T.b_range (pa_cons (pe_callB call_len_seq (by rfl) T.b_len PySem.boot_len (pa_cons (pv 3) pa_nil)) pa_nil)) (pg_name (i := 5) sc_least_way.nd rfl (Or.inl rfl))
        (pss_one (ps_for PassesOwn.never rfl (pi_enum rfl T.b_enumerate (pa_cons (pe_fld (pv 0) rfl) pa_nil)) (pg_tup rfl (pgs_cons (pg_name (i := 6) sc_least_way.nd rfl (Or.inl rfl)) (pgs_cons (pg_name (i := 7) sc_least_way.nd rfl (Or.inl rfl)) pgs_nil)))
        (pss_one (ps_for PassesOwn.never rfl (pi_list (pe_call G_cells_of (hr.mono (by decide)) rfl T.m_cells_of T.kp_cells_of T.bd_cells_of .nil pass0 (pa_cons (pv 7) pa_nil))) (pg_name (i := 8) sc_least_way.nd rfl (Or.inl rfl))
        (pss_one (ps_asg (pe_callB (call_min2 rfl) (by rfl) T.b_min boot_min (pa_cons (pe_ix ix_list (pv 4) (pv 6) (fun _ _ => rfl)) (pa_cons (pe_op op_add (pe_ix ix_list (pv 4) (pv 8) (fun _ _ => rfl)) (pe_ix ix_list (pv 3) (pv 6) (fun _ _ => rfl))) pa_nil))) (pg_sub (pv 4) (pv 6) set_list))))))))
      (pss_one (ps_ret (pe_ix ix_list (pv 4) (pv 2) (fun _ _ => rfl)))))))), ?_⟩
    refine seq_gen (fun σ H' => σ = [some (.ref p), some (.int (a : Int)), some (.int (b : Int)), some (.ref pa), none, none, none, none, none] ∧ H' = H) (fun R hR => ?_) ?_
    · exact ⟨_, rfl, p, _, dx, _, _, rfl, h1, T.cl_Reserve, T.na_Reserve_prices, rs_prices, hR _ _ ⟨rfl, rfl⟩⟩
    rintro σ H' ⟨rfl, rfl⟩
    refine seq_gen (fun σ H1 => ∃ cl, σ = [some (.ref p), some (.int (a : Int)), some (.int (b : Int)), some (.ref pa), some (.ref cl), none, none, none, none] ∧ Same H' H1 ∧ H' cl = none ∧ H1 cl = some (.lst (List.replicate m.prices.length (V.int ((m.prices.sum : Nat) : Int))))) (fun R hR => ?_) ?_
    · refine ⟨_, rfl, pa, Vbecao.ints m.prices, rfl, SqL.of (by rw [h2, nv_iv]), (by show 1 ≤ sizeLine; decide), fun t0 ht0 => ?_⟩
      rw [ints_sum]
      have s0 := same_new (o := .lst [.int ((m.prices.sum : Nat) : Int)]) ht0
      refine ⟨_, rfl, pa, _, rfl, .inl (SqL.of (s0 _ _ h2)), t0, _, _, rfl, rfl, upd_same, by omega, by rw [List.length_map]; omega, (by rw [Int.toNat_natCast, List.length_map, sizeLine_eq]; show 1 * _ ≤ _; omega), fun cl hcl => ?_⟩
      rw [Int.toNat_natCast, rep_one, List.length_map]
      exact hR _ _ ⟨cl, rfl, same_newer s0 (s0.free hcl), s0.free hcl, upd_same⟩
    rintro σ H1 ⟨cl, rfl, s1, hc0, hcl⟩
    refine seq_gen (fun σ H2 => σ = [some (.ref p), some (.int (a : Int)), some (.int (b : Int)), some (.ref pa), some (.ref cl), none, none, none, none] ∧ Same H' H2 ∧ H2 cl = some (.lst (nv (wstart m.prices a)))) (fun R hR => ?_) ?_
    · refine ⟨_, rfl, _, rfl, pa, _, _, _, rfl, rfl, SqL.of (s1 _ _ h2), atI_nat (nv_getD (by rw [pl]; exact ha)), _, rfl, _, rfl, cl, _, _, a, rfl, rfl, hcl, ixN_nat (by rw [List.length_replicate, pl]; exact ha), ?_⟩
      refine hR _ _ ⟨rfl, same_newer s1 hc0, ?_⟩
      rw [upd_same]
      congr 2
      show _ = nv ((List.replicate m.prices.length m.prices.sum).set a (m.prices.getD a 0))
      rw [← nv_set]
      congr 1
      unfold nv
      rw [List.map_replicate]
    rintro σ H2 ⟨rfl, s2, hc2⟩
    refine seq_gen (fun σ H3 => ∃ v5 v6 v7 v8 : Option V, σ = [some (.ref p), some (.int (a : Int)), some (.int (b : Int)), some (.ref pa), some (.ref cl), v5, v6, v7, v8] ∧ Same H' H3 ∧ H3 cl = some (.lst (nv (wrounds m.prices (nearsAll m) (wstart m.prices a) m.size)))) (fun R0 hR0 => ?_) ?_
    · refine ⟨_, rfl, pa, _, rfl, .inl (SqL.of (s2 _ _ h2)), ((m.size : Nat) : Int), (by show [V.int (((nv m.prices).length : Nat) : Int)] = _; rw [List.length_map, pl]), rlo _, rhi (Nat.le_trans sz (by decide)), ?_⟩
      rw [Int.toNat_natCast]
      refine for_rangeR (n := m.size) (fun j σ H3 => ∃ v5 v6 v7 v8 : Option V, σ = [some (.ref p), some (.int (a : Int)), some (.int (b : Int)), some (.ref pa), some (.ref cl), v5, v6, v7, v8] ∧ Same H' H3 ∧ H3 cl = some (.lst (nv (wrounds m.prices (nearsAll m) (wstart m.prices a) j))))
        ⟨none, none, none, none, rfl, s2, hc2⟩ ?_ (fun σ H3 h => hR0 σ H3 h)
      rintro j σ H2 hj ⟨v5, v6, v7, v8, rfl, s2, hc2⟩ R B hR
      have l2 : (wrounds m.prices (nearsAll m) (wstart m.prices a) j).length = m.size := by rw [wrounds_len, wstart_len, pl]
      generalize hW : wrounds m.prices (nearsAll m) (wstart m.prices a) j = W at *
      refine ⟨_, rfl, p, _, dx, _, _, rfl, s2 _ _ h1, T.cl_Reserve, T.na_Reserve_beside, rs_beside, ba, _, rfl, SqL.of (s2 _ _ h4), for_enumR (K := K) (a := ba) (xs := nv (nearsAll m)) (fun i σ H3 => ∃ v6 v7 v8 : Option V, σ = [some (.ref p), some (.int (a : Int)), some (.int (b : Int)), some (.ref pa), some (.ref cl), some (.int (j : Int)), v6, v7, v8] ∧ Same H' H3 ∧ H3 cl = some (.lst (nv (wpart m.prices (nearsAll m) W i))))
        ⟨v6, v7, v8, rfl, s2, hc2⟩ (fun i σ H3 _ zz => by obtain ⟨_, _, _, _, s3, _⟩ := zz; exact SqL.of (s3 _ _ h4)) ?_ ?_⟩
      · rintro i y σ H3 Tp hi ⟨v6, v7, v8, rfl, s3, hc3⟩ hT R1 B1 hR1
        obtain ⟨n, hn, rfl⟩ := nv_get hi
        have him : i < m.size := by rw [← ll]; exact (List.getElem?_eq_some_iff.mp hn).1
        have en : (nearsAll m).getD i 0 = n := by rw [List.getD_eq_getElem?_getD, hn]; rfl
        have hc3' := same_new (o := .tup [.int (i : Nat), .int (n : Int)]) hT _ _ hc3
        have s3' : Same H' (upd H3 Tp (.tup [.int (i : Nat), .int (n : Int)])) := s3.trans (same_new hT)
        have l3 : (wpart m.prices (nearsAll m) W i).length = m.size := by rw [wpart_len, l2]
        have w3 : wpart m.prices (nearsAll m) W (i + 1) = (cellsOf n).foldl (wstep m.prices i) (wpart m.prices (nearsAll m) W i) := by rw [wpart_succ]; unfold wcell; rw [en]
        have near : ∀ c ∈ cellsOf n, c < m.size := fun c hc => by rw [← en] at hc; exact ((near_cells ok.snd him).mp hc).1
        rw [w3] at hR1
        generalize wpart m.prices (nearsAll m) W i = W3 at *
        refine ⟨Tp, _, rfl, SqT.of upd_same, rfl, _, _, rfl, _, _, rfl, rfl, ?_⟩
        refine ⟨_, rfl, n, rfl, fun lc H4 hlc s4 h44 => ?_⟩
        have ncl : cl ≠ lc := ne_of_none hc3' hlc
        refine ⟨lc, rfl, ⟨_, SqL.of h44⟩, for_listR (K := K) (a := lc) (xs := nv (cellsOf n)) (fun q σ H5 => ∃ v8 : Option V, σ = [some (.ref p), some (.int (a : Int)), some (.int (b : Int)), some (.ref pa), some (.ref cl), some (.int (j : Int)), some (.int (i : Int)), some (.int (n : Int)), v8] ∧ Same H' H5 ∧ H5 lc = some (.lst (nv (cellsOf n))) ∧ H5 cl = some (.lst (nv (((cellsOf n).take q).foldl (wstep m.prices i) W3))))
          ⟨v8, rfl, s3'.trans s4, h44, s4 _ _ hc3'⟩ (fun q σ H5 _ zz => by obtain ⟨_, _, _, z, _⟩ := zz; exact SqL.of z) ?_ ?_⟩
        · rintro q y σ H5 hy ⟨v8, rfl, s5, h55, hc5⟩ R2 B2 hR2
          obtain ⟨c, hc, rfl⟩ := nv_get hy
          have hcm : c < m.size := near c (List.mem_of_getElem? hc)
          have l5 : (((cellsOf n).take q).foldl (wstep m.prices i) W3).length = m.size := by rw [wsteps_len, l3]
          refine ⟨_, rfl, _, rfl, cl, _, _, _, rfl, rfl, SqL.of hc5, atI_nat (nv_getD (by rw [l5]; exact him)), _, rfl, _, rfl, cl, _, _, _, rfl, rfl, SqL.of hc5, atI_nat (nv_getD (by rw [l5]; exact hcm)), _, rfl, _, rfl, pa, _, _, _, rfl, rfl, SqL.of (s5 _ _ h2), atI_nat (nv_getD (by rw [pl]; exact him)), _, _, rfl, rfl, _, _, rfl, _, rfl, _, rfl, cl, _, _, i, rfl, rfl, hc5, ixN_nat (by rw [List.length_map, l5]; exact him), ?_⟩
          refine hR2 _ _ ⟨_, rfl, same_newer s5 hc0, by rw [upd_ne ncl.symm]; exact h55, ?_⟩
          rw [upd_same, take_snoc hc, List.foldl_append, ← Int.natCast_add, min_nat, nv_set]
          rfl
        · rintro σ H5 ⟨v8, rfl, s5, h55, hc5⟩
          rw [List.length_map, List.take_length] at hc5
          exact hR1 _ _ ⟨_, _, _, rfl, s5, hc5⟩
      · rintro σ H3 ⟨v6, v7, v8, rfl, s3, hc3⟩
        refine hR _ _ ⟨_, _, _, _, rfl, s3, ?_⟩
        rw [hc3, List.length_map, ← hW]
        rfl
    · rintro σ H2 ⟨v5, v6, v7, v8, rfl, s2, hc2⟩
      have l2 : (wrounds m.prices (nearsAll m) (wstart m.prices a) m.size).length = m.size := by rw [wrounds_len, wstart_len, pl]
      refine ⟨_, rfl, _, rfl, cl, _, _, _, rfl, rfl, SqL.of hc2, atI_nat (nv_getD (by rw [l2]; exact hb)), ?_⟩
      exact k _ (Lr.least_way ok.snd ha hb) H2 s2
theorem ok_is_proof (T : Txt K mg A) : FnOk P w K mg base CX0 3 A.f_is_proof A.fd_is_proof ["reserve", "divisor", "worths", "rebates"] (sp_is_proof A.c_Reserve K) := by
  have G_sum_over := ok_sum_over (P := P) (w := w) (base := base) T
  refine T.fn_is_proof.ok sc_is_proof (fun vs H Q E h => ?_) (fun cdv Ar outer s H vs Q E hr h => ?_)
  · obtain ⟨p, m, need, L, d, wa, ra, ws, rb, rfl, _⟩ := h
    rfl
  · obtain ⟨p, m, need, L, d, wa, ra, ws, rb, rfl, hp, hd, hw, hr0, wl, rl, k⟩ := h
    obtain ⟨⟨dx, pa, ka, ba, na, rfl, h1, h2, h3, h4, h5⟩, ok, nl, nb⟩ := hp
    have pl := ok.snd.pl
    have kl := ok.snd.kl
    have sz := ok.snd.sz
    refine ⟨_, (pss_cons (ps_for PassesOwn.never rfl (pi_enum rfl T.b_enumerate (pa_cons (pe_fld (pv 0) rfl) pa_nil)) (pg_tup rfl (pgs_cons (pg_name (i := 4) sc_is_proof.nd rfl (Or.inl rfl)) (pgs_cons (pg_name (i := 5) sc_is_proof.nd rfl (Or.inl rfl)) pgs_nil)))
        (pss_one (ps_if (pt_cmpR op_gt (pe_call G_sum_over (hr.mono (by decide)) rfl T.m_sum_over T.kp_sum_over T.bd_sum_over .nil pass0 (pa_cons (pv 2) (pa_cons (pv 5) pa_nil))) (pe_op op_add (pe_ix ix_list (pv 3) (pv 4) (fun _ _ => rfl)) (pe_op op_mul (pv 1) (pe_ix ix_list (pe_fld (pv 0) rfl) (pv 4) (fun _ _ => rfl)))) (nomark _))
        (pss_one (ps_ret pe_bl))
        pss_nil)))
      (pss_one (ps_ret pe_bl))), ?_⟩
    refine ⟨_, rfl, p, _, dx, _, _, rfl, h1, T.cl_Reserve, T.na_Reserve_kinds, rs_kinds, ka, _, rfl, SqL.of h3, for_enumR (K := K) (a := ka) (xs := nv m.kinds) (fun i σ H' => ∃ v4 v5 : Option V, σ = [some (.ref p), some (.int (d : Int)), some (.ref wa), some (.ref ra), v4, v5] ∧ Same H H' ∧ ∀ c, c < i → worth ws (m.kinds.getD c 0) ≤ rb.getD c 0 + d * m.prices.getD c 0)
      ⟨none, none, rfl, Same.refl _, fun _ q => by omega⟩ (fun i σ H' _ zz => by obtain ⟨_, _, _, s1, _⟩ := zz; exact SqL.of (s1 _ _ h3)) ?_ ?_⟩
    · rintro i y σ H' Tp hi ⟨v4, v5, rfl, s1, hk⟩ hT R B hR
      obtain ⟨n, hn, rfl⟩ := nv_get hi
      have s2 : Same H (upd H' Tp (.tup [.int (i : Nat), .int (n : Int)])) := s1.trans (same_new hT)
      have him : i < m.size := by rw [← kl]; exact (List.getElem?_eq_some_iff.mp hn).1
      have hn255 := ok.k n (List.mem_of_getElem? hn)
      have en : m.kinds.getD i 0 = n := needs_at hn
      refine ⟨Tp, _, rfl, SqT.of upd_same, rfl, _, _, rfl, _, _, rfl, rfl, ?_⟩
      refine ⟨_, rfl, _, rfl, wa, ws, n, rfl, s2.seq hw, by omega, by rw [wl]; omega, fun H3 s3 => ?_⟩
      have s23 := s2.trans s3
      refine ⟨_, rfl, _, rfl, ra, _, _, _, rfl, rfl, s23.seq hr0, atI_nat (nv_getD (by rw [rl]; exact him)), _, rfl, _, rfl, p, _, dx, _, _, rfl, s23 _ _ h1, T.cl_Reserve, T.na_Reserve_prices, rs_prices, _, rfl, pa, _, _, _, rfl, rfl, SqL.of (s23 _ _ h2), atI_nat (nv_getD (by rw [pl]; exact him)), _, _, rfl, rfl, .inl ⟨by omega, by omega⟩, _, _, rfl, rfl, _, _, rfl, rfl, _, rfl, ?_⟩
      refine itb (decide (rb.getD i 0 + d * m.prices.getD i 0 < worth ws n)) ?_ (fun c => ?_) (fun c => ?_)
      · rw [decide_eq_decide, ← Int.natCast_mul]
        omega
      · have c' := of_decide_eq_true c
        have e : Vbecao.shown m d ws rb = false := by
          cases e : Vbecao.shown m d ws rb with
          | false => rfl
          | true =>
            have := (shown_iff wl).mp e i him
            rw [en] at this
            omega
        have := k H3 s23
        rw [e] at this
        exact this
      · have c' := of_decide_eq_false c
        refine hR _ _ ⟨_, _, rfl, s23, fun kk hkk => ?_⟩
        by_cases q : kk < i
        · exact hk kk q
        · have e : kk = i := by omega
          subst e
          rw [en]
          omega
    · rintro σ H' ⟨v4, v5, rfl, s1, hk⟩
      have e : Vbecao.shown m d ws rb = true := (shown_iff wl).mpr fun c hc => hk c (by rw [List.length_map, kl]; exact hc)
      have := k H' s1
      rw [e] at this
      exact this
end
end Lr
end
section
set_option Elab.async false
set_option linter.all false
set_option maxRecDepth 100000
set_option maxHeartbeats 2000000
namespace Lr
open PySem PySem.Spec PyProof.Rows L2
open Vbecao (Land numberOf members)
theorem zip_snoc {α β γ : Type} (f : α → β → γ) {xs : List α} {ys : List β} {i : Nat} {x : α} {y : β} (hx : xs[i]? = some x) (hy : ys[i]? = some y) : List.zipWith f (xs.take (i + 1)) (ys.take (i + 1)) = List.zipWith f (xs.take i) (ys.take i) ++ [f x y] := by
  rw [take_snoc hx, take_snoc hy, List.zipWith_append]
  · rfl
  · have h1 := (List.getElem?_eq_some_iff.mp hx).1
    have h2 := (List.getElem?_eq_some_iff.mp hy).1
    rw [List.length_take, List.length_take]; omega
theorem lc_zip_same {K : PySem.W.Frag} {a b : Addr} {xs ys : List V} {g : TG} {te : TE} {vs : List Nat} {σ : L2.St} {H1 : Hp} {D : Addr} {Qd : Hp → Prop} (f : V → V → V) (hqa : SqL K H1 a xs) (hqb : SqL K H1 b ys) (hl : xs.length = ys.length) (hD : H1 D = none) (hz : xs.length ≤ sizeLine)
    (he : ∀ (j : Nat) (x y : V), xs[j]? = some x → ys[j]? = some y → ∀ H', Same H1 H' → ∀ T, H' T = none → ∀ R : V → Hp → Prop, (∀ H3, Same (upd H' T (.tup [x, y])) H3 → R (f x y) H3) → g (.ref T) (wipe σ vs) (upd H' T (.tup [x, y])) fun σ2 H2 => wipe σ2 vs = wipe σ vs ∧ te σ2 H2 R)
    (hd : ∀ H', Same H1 H' → H' D = some (.lst (List.zipWith f xs ys)) → Qd H') :
    ∃ W : Nat → Nat → Hp → Prop, (∃ m, W 0 m (upd H1 D (.lst []))) ∧ ∀ j m H, W j m H →
      ((Itz K a b).stop j H ∧ Qd H) ∨ ((Itz K a b).go j H ∧ ∃ Nx : Hp → Prop, (∀ H', Nx H' → ∃ m', m' < m ∧ W (j + 1) m' H') ∧ ∀ x H', (Itz K a b).yld j H x H' → g x (wipe σ vs) H' fun σ2 H2 => wipe σ2 vs = wipe σ vs ∧ tYes σ2 H2 fun b H3 =>
        if b = true then te σ2 H3 fun y H4 => ∃ acc, H4 D = some (.lst acc) ∧ acc.length < sizeLine ∧ Nx (upd H4 D (.lst (acc ++ [y]))) else Nx H3) := by
  refine ⟨fun i m H' => m = xs.length - i ∧ i ≤ xs.length ∧ Same H1 H' ∧ H' D = some (.lst (List.zipWith f (xs.take i) (ys.take i))), ⟨xs.length, by simp, Nat.zero_le _, same_new hD, upd_same⟩, ?_⟩
  rintro i m H ⟨rfl, hi, s, hD'⟩
  by_cases hlt : i < xs.length
  · have hx : xs[i]? = some xs[i] := List.getElem?_eq_getElem hlt
    have hlt2 : i < ys.length := by omega
    have hy : ys[i]? = some ys[i] := List.getElem?_eq_getElem hlt2
    refine .inr ⟨⟨xs, ys, _, _, s.seq hqa, s.seq hqb, hx, hy⟩, fun H' => Same H1 H' ∧ H' D = some (.lst (List.zipWith f (xs.take (i + 1)) (ys.take (i + 1)))), fun H' p' => ⟨xs.length - (i + 1), by omega, rfl, hlt, p'⟩, fun v H' y => ?_⟩
    obtain ⟨T, x0, y0, rfl, hT, rfl, e1, e2⟩ := y
    have e1 := e1 xs (s.seq hqa)
    have e2 := e2 ys (s.seq hqb)
    refine he i x0 y0 e1 e2 H s T hT (fun y H4 => ∃ acc, H4 D = some (.lst acc) ∧ acc.length < sizeLine ∧ Same H1 (upd H4 D (.lst (acc ++ [y]))) ∧ (upd H4 D (.lst (acc ++ [y]))) D = some (.lst (List.zipWith f (xs.take (i + 1)) (ys.take (i + 1))))) fun H3 s3 => ?_
    refine ⟨_, s3 _ _ (same_new hT _ _ hD'), ?_, same_newer ((s.trans (same_new hT)).trans s3) hD, ?_⟩
    · rw [List.length_zipWith, List.length_take, List.length_take]
      omega
    · rw [upd_same, zip_snoc f e1 e2]
  · have e : i = xs.length := by omega
    subst e
    refine .inl ⟨⟨xs, ys, s.seq hqa, s.seq hqb, .inl (Nat.le_refl _)⟩, hd H s ?_⟩
    rw [hD', List.take_length, hl, List.take_length]
theorem zip_iv (f : V → V → V) (g : Nat → Nat → Nat) (h : ∀ a b : Nat, f (.int (a : Int)) (.int (b : Int)) = .int ((g a b : Nat) : Int)) : ∀ xs ys : List Nat, List.zipWith f (nv xs) (nv ys) = nv (List.zipWith g xs ys)
  | [], _ => rfl
  | _ :: _, [] => rfl
  | x :: xs, y :: ys => by
    show f _ _ :: List.zipWith f (nv xs) (nv ys) = V.int _ :: nv (List.zipWith g xs ys)
    rw [zip_iv f g h xs ys, h]
section
variable {P : Program} {w : World} {K : PySem.W.Frag} {mg : Str → Option Value} {base : Heap} {A : Ad}
theorem ok_bound_of (T : Txt K mg A) : FnOk P w K mg base CX0 1 A.f_bound_of A.fd_bound_of ["reserve", "divisor", "worths", "rebates"] (sp_bound_of A.c_Reserve K) := by
  refine T.fn_bound_of.ok sc_bound_of (fun vs H Q E h => ?_) (fun cdv Ar outer s H vs Q E hr h => ?_)
  · obtain ⟨p, m, need, L, d, wa, ra, ws, rb, rfl, _⟩ := h
    rfl
  · obtain ⟨p, m, need, L, d, wa, ra, ws, rb, rfl, hp, hd1, hd, hw, hr0, wl, rl, k⟩ := h
    obtain ⟨⟨dx, pa, ka, ba, na, rfl, h1, h2, h3, h4, h5⟩, ok, nl, nb⟩ := hp
    refine ⟨_, (pss_cons (ps_set (i := 4) sc_bound_of.nd rfl (Or.inl rfl) (pe_callB (cr_sum rfl) (by rfl) T.b_sum boot_sum (pa_cons (pe_lc rfl sc_bound_of.nd (pi_zip rfl T.b_zip (pa_cons (pv 2) (pa_cons (pe_fld (pv 0) rfl) pa_nil))) (blkOk_by (own := [("worth", 6), ("need", 7)]) (by show blkC ["reserve", "divisor", "worths", "rebates", "needed", "over", "worth", "need"] (defScope s_bound_of) _ _ = true; decide +kernel))
        (fun _ _ _ _ _ => (show PG _ _ (gTup K 2 _) from pg_tup rfl (pgs_cons (pg_name (i := 6) sc_bound_of.nd rfl (Or.inl rfl)) (pgs_cons (pg_name (i := 7) sc_bound_of.nd rfl (Or.inl rfl)) pgs_nil)))) (fun _ _ _ _ _ => pts_nil) (fun _ _ _ _ _ => (pe_op op_mul (pv 6) (pv 7)))) pa_nil)))
      (pss_cons (ps_set (i := 5) sc_bound_of.nd rfl (Or.inl rfl) (pe_callB (call_max2 rfl) (by rfl) T.b_max boot_max (pa_cons (pe_op op_sub (pv 4) (pe_callB (cr_sum rfl) (by rfl) T.b_sum boot_sum (pa_cons (pv 3) pa_nil))) (pa_cons pe_int pa_nil))))
      (pss_one (ps_ret (pe_op op_fdiv (pe_op op_sub (pe_op op_add (pv 5) (pv 1)) pe_int) (pv 1)))))), ?_⟩
    refine ⟨_, rfl, _, rfl, p, _, dx, _, _, rfl, h1, T.cl_Reserve, T.na_Reserve_needs, rs_needs, wa, na, _, _, rfl, hw, SqL.of h5, fun D hD => lc_zip_same (K := K) (a := wa) (b := na) (xs := nv ws) (ys := nv need) (fun x y => match x, y with | .int a, .int b => .int (a * b) | _, _ => .non) hw (SqL.of h5) (by rw [List.length_map, List.length_map, wl, nl]) hD (by rw [List.length_map, wl]; decide) ?_ ?_⟩
    · intro j x y hx hy H' s' Tp hT R kR
      obtain ⟨x, hx', rfl⟩ := nv_get hx
      obtain ⟨y, hy', rfl⟩ := nv_get hy
      have := nb y (List.mem_of_getElem? hy')
      refine ⟨Tp, _, rfl, SqT.of upd_same, rfl, _, _, rfl, _, _, rfl, rfl, rfl, ?_⟩
      exact ⟨_, rfl, _, rfl, _, _, rfl, rfl, .inr ⟨by omega, by omega⟩, kR _ (Same.refl _)⟩
    · intro H1 s1 hD1
      rw [zip_iv _ (· * ·) (fun a b => by show V.int _ = V.int _; rw [Int.natCast_mul])] at hD1
      refine ⟨D, Vbecao.ints (List.zipWith (· * ·) ws need), rfl, SqL.of (by rw [hD1, nv_iv]), ?_⟩
      rw [ints_sum]
      refine ⟨_, rfl, _, rfl, ra, Vbecao.ints rb, rfl, (by rw [← show nv rb = (Vbecao.ints rb).map V.int from nv_iv rb]; exact s1.seq hr0), _, _, rfl, rfl, _, _, rfl, ?_⟩
      rw [ints_sum]
      refine ⟨_, rfl, _, rfl, _, _, rfl, rfl, _, _, rfl, rfl, _, rfl, _, _, rfl, rfl, ⟨by omega, by omega⟩, ?_⟩
      have e := bound_is (m := m) (d := d) nl wl rl
      generalize (List.zipWith (fun x1 x2 => x1 * x2) ws need).sum = a at *
      generalize rb.sum = b at *
      have e2 : ((if (0 : Int) > (a : Int) - (b : Int) then (0 : Int) else (a : Int) - (b : Int)) + (d : Int) - 1) / (d : Int) = ((Vbecao.bound m need d ws rb : Nat) : Int) := by
        rw [e, Int.natCast_ediv]
        congr 1
        split <;> omega
      dsimp only
      rw [e2]
      exact k H1 s1
theorem ok_kept_kinds (T : Txt K mg A) : FnOk P w K mg base CX0 2 A.f_kept_kinds A.fd_kept_kinds ["reserve", "sets"] (sp_kept_kinds A.c_Reserve K) := by
  have G_holders := ok_holders (P := P) (w := w) (base := base) T
  have G_sums_over_all := ok_sums_over_all (P := P) (w := w) (base := base) T
  refine T.fn_kept_kinds.ok sc_kept_kinds (fun vs H Q E h => ?_) (fun cdv Ar outer s H vs Q E hr h => ?_)
  · obtain ⟨p, m, need, L, l, fs, rfl, _⟩ := h
    rfl
  · obtain ⟨p, m, need, L, l, fs, rfl, hp, hq, fl, hfs, k⟩ := h
    obtain ⟨⟨dx, pa, ka, ba, na, rfl, h1, h2, h3, h4, h5⟩, ok, nl, nb⟩ := hp
    have kl := ok.snd.kl
    have sz := ok.snd.sz
    refine ⟨_, (pss_cons (ps_set (i := 2) sc_kept_kinds.nd rfl (Or.inl rfl) (pe_op op_rep (pe_lst (pa_cons pe_int pa_nil)) (pe_callB call_len_seq (by rfl) T.b_len PySem.boot_len (pa_cons (pv 1) pa_nil))))
      (pss_cons (ps_for PassesOwn.never rfl (pi_enum rfl T.b_enumerate (pa_cons (pe_fld (pv 0) rfl) pa_nil)) (pg_tup rfl (pgs_cons (pg_name (i := 3) sc_kept_kinds.nd rfl (Or.inl rfl)) (pgs_cons (pg_name (i := 4) sc_kept_kinds.nd rfl (Or.inr rfl)) pgs_nil)))
        (pss_cons (ps_set (i := 5) sc_kept_kinds.nd rfl (Or.inr rfl) (pe_call G_sums_over_all (hr.mono (by decide)) rfl T.m_sums_over_all T.kp_sums_over_all T.bd_sums_over_all .nil pass0 (pa_cons (pe_call G_holders (hr.mono (by decide)) rfl T.m_holders T.kp_holders T.bd_holders .nil pass0 (pa_cons (pe_fld (pv 0) rfl) (pa_cons (pv 3) pa_nil))) pa_nil)))
      (pss_one (ps_setLc (i := 2) rfl sc_kept_kinds.nd rfl rfl (sw_true rfl rfl rfl rfl) (pi_zip rfl T.b_zip (pa_cons (pv 2) (pa_cons (pv 1) pa_nil))) (blkOk_by (own := [("many", 6), ("members", 7)]) (by show blkC ["reserve", "sets", "kept", "kind", "need", "often", "many", "members"] (defScope s_kept_kinds) _ _ = true; decide +kernel))
        (fun _ _ _ _ _ => (show PG _ _ (gTup K 2 _) from pg_tup rfl (pgs_cons (pg_name (i := 6) sc_kept_kinds.nd rfl (Or.inl rfl)) (pgs_cons (pg_name (i := 7) sc_kept_kinds.nd rfl (Or.inl rfl)) pgs_nil)))) (fun _ _ _ _ _ => pts_nil) (fun _ _ _ _ _ => (pe_ifExp (pt_cmpR op_ge (pe_ix (show IxR _ (rIxL K) from ix_list) (pv 5) (pv 7) (fun _ _ => rfl)) (pv 4) (nomark _)) (pe_op op_add (pv 6) pe_int) (pv 6)))))))
      (pss_one (ps_ret (pv 2))))), ?_⟩
    refine seq_gen (fun σ H1 => ∃ k0, σ = [some (.ref p), some (.ref l), some (.ref k0), none, none, none, none, none] ∧ Same H H1 ∧ H k0 = none ∧ H1 k0 = some (.lst (List.replicate fs.length (V.int 0)))) (fun R hR => ?_) ?_
    · refine ⟨(by show 1 ≤ sizeLine; decide), fun t0 ht0 => ?_⟩
      have s0 := same_new (o := .lst [.int 0]) ht0
      refine ⟨_, rfl, l, _, rfl, .inl (s0.seq hq), t0, _, _, rfl, rfl, upd_same, by omega, by rw [List.length_map]; omega, (by rw [Int.toNat_natCast, List.length_map, sizeLine_eq]; show 1 * _ ≤ _; omega), fun k0 hk0 => ?_⟩
      rw [Int.toNat_natCast, rep_one, List.length_map]
      exact hR _ _ ⟨k0, rfl, same_newer s0 (s0.free hk0), s0.free hk0, upd_same⟩
    rintro σ H1 ⟨k0, rfl, s1, hk00, hk1⟩
    refine ⟨_, rfl, p, _, dx, _, _, rfl, s1 _ _ h1, T.cl_Reserve, T.na_Reserve_needs, rs_needs, na, _, rfl, SqL.of (s1 _ _ h5), for_enumR (K := K) (a := na) (xs := nv need) (fun i σ H' => ∃ (kp : Addr) (v3 v4 v5 : Option V), σ = [some (.ref p), some (.ref l), some (.ref kp), v3, v4, v5, none, none] ∧ Same H H' ∧ H kp = none ∧ H' kp = some (.lst (nv (fs.map (keptK m need i)))))
      ⟨k0, none, none, none, rfl, s1, hk00, ?_⟩ (fun i σ H' _ zz => by obtain ⟨_, _, _, _, _, s2, _⟩ := zz; exact SqL.of (s2 _ _ h5)) ?_ ?_⟩
    · rw [hk1]
      congr 2
      have e : fs.map (keptK m need 0) = List.replicate fs.length 0 := by
        rw [← List.map_const']
        rfl
      rw [e]
      unfold nv
      rw [List.map_replicate]
      rfl
    · rintro i y σ H' Tp hi ⟨kp, v3, v4, v5, rfl, s2, hkp, hkp1⟩ hT R B hR
      obtain ⟨n, hn, rfl⟩ := nv_get hi
      have s3 : Same H (upd H' Tp (.tup [.int (i : Nat), .int (n : Int)])) := s2.trans (same_new hT)
      have hkp2 := same_new (o := .tup [.int (i : Nat), .int (n : Int)]) hT _ _ hkp1
      refine ⟨Tp, _, rfl, SqT.of upd_same, rfl, _, _, rfl, _, _, rfl, rfl, ?_⟩
      refine ⟨_, rfl, p, _, dx, _, _, rfl, s3 _ _ h1, T.cl_Reserve, T.na_Reserve_kinds, rs_kinds, _, rfl, ka, m.kinds, i, rfl, SqL.of (s3 _ _ h3), by omega, fun q H3 hq3 s4 h33 => ?_⟩
      refine ⟨q, holders m.kinds i, rfl, SqL.of h33, by rw [holders_len]; omega, fun o H4 ho4 s5 h44 => ?_⟩
      have s6 : Same H H4 := (s3.trans s4).trans s5
      have hkp5 := s5 _ _ (s4 _ _ hkp2)
      refine ⟨_, rfl, _, rfl, kp, l, _, _, rfl, SqL.of hkp5, s6.seq hq, fun D hD => lc_zip_same (K := K) (a := kp) (b := l) (xs := nv (fs.map (keptK m need i))) (ys := nv fs) (fun x y => match x, y with | .int a, .int b => .int (if n ≤ Vbecao.times m b.toNat i then a + 1 else a) | _, _ => .non) (SqL.of hkp5) (s6.seq hq) (by rw [List.length_map, List.length_map, List.length_map]) hD (by rw [List.length_map, List.length_map, sizeLine_eq]; omega) ?_ ?_⟩
      · intro j x y hx hy H7 s7 T7 hT7 R' kR
        obtain ⟨x, hx', rfl⟩ := nv_get hx
        obtain ⟨y, hy', rfl⟩ := nv_get hy
        have hy2 := hfs y (List.mem_of_getElem? hy')
        have e : (sumsAll (holders m.kinds i))[y]? = some (worth (holders m.kinds i) y) := sumsAll_get _ y (by rw [holders_len, kl]; exact hy2)
        refine ⟨T7, _, rfl, SqT.of upd_same, rfl, _, _, rfl, _, _, rfl, rfl, rfl, ?_⟩
        refine ⟨_, rfl, _, rfl, o, _, _, _, rfl, rfl, SqL.of (same_new hT7 _ _ (s7 _ _ h44)), atI_nat (nv_at e), _, rfl, _, _, rfl, rfl, _, rfl, ?_⟩
        rw [← times_worth ok.snd]
        have kk := kR _ (Same.refl _)
        dsimp only at kk
        rw [Int.toNat_natCast] at kk
        refine itb (decide (n ≤ Vbecao.times m y i)) (by simp) (fun c => ?_) (fun c => ?_)
        · rw [if_pos (of_decide_eq_true c)] at kk
          exact ⟨_, rfl, _, _, rfl, rfl, kk⟩
        · rw [if_neg (of_decide_eq_false c)] at kk
          exact ⟨_, rfl, kk⟩
      · intro H7 s7 hD7
        refine hR _ _ ⟨D, _, _, _, rfl, s6.trans s7, s6.free hD, ?_⟩
        rw [hD7, zip_iv _ (fun a b => if n ≤ Vbecao.times m b i then a + 1 else a) (fun a b => by
          show V.int (if n ≤ Vbecao.times m ((b : Int).toNat) i then (a : Int) + 1 else (a : Int)) = _
          rw [Int.toNat_natCast]
          split <;> rfl)]
        congr 3
        have z : ∀ fs : List Nat, List.zipWith (fun a b => if n ≤ Vbecao.times m b i then a + 1 else a) (fs.map (keptK m need i)) fs = fs.map (keptK m need (i + 1)) := by
          intro fs
          induction fs with
          | nil => rfl
          | cons x r ih =>
            rw [List.map_cons, List.zipWith_cons_cons, ih, List.map_cons, keptK_succ, needs_at hn]
        exact z fs
    · rintro σ H' ⟨kp, v3, v4, v5, rfl, s2, hkp, hkp1⟩
      rw [show (nv need).length = 8 by rw [List.length_map, nl]] at hkp1
      exact ⟨_, rfl, k kp H' hkp s2 hkp1⟩
end
end Lr
end
section
set_option Elab.async false
set_option linter.all false
set_option maxRecDepth 100000
set_option maxHeartbeats 2000000
namespace Lr
open PySem PySem.Spec PyProof.Rows L2
open Vbecao (Land numberOf members)
theorem upd_none {H : Hp} {a b : Addr} {o : HO} (h : (upd H a o) b = none) : b ≠ a ∧ H b = none := by
  by_cases e : b = a
  · subst e; rw [upd_same] at h; cases h
  · rw [upd_ne e] at h; exact ⟨e, h⟩
section
variable {wd ht : Int} {pa ka ba na : Addr}
theorem ne_wh : ¬ (("width" : Str) = "height") := by decide +kernel
theorem ne_wp : ¬ (("width" : Str) = "prices") := by decide +kernel
theorem ne_wk : ¬ (("width" : Str) = "kinds") := by decide +kernel
theorem ne_wb : ¬ (("width" : Str) = "beside") := by decide +kernel
theorem ne_wn : ¬ (("width" : Str) = "needs") := by decide +kernel
theorem ne_hp : ¬ (("height" : Str) = "prices") := by decide +kernel
theorem ne_hk : ¬ (("height" : Str) = "kinds") := by decide +kernel
theorem ne_hb : ¬ (("height" : Str) = "beside") := by decide +kernel
theorem ne_hn : ¬ (("height" : Str) = "needs") := by decide +kernel
theorem ne_pk : ¬ (("prices" : Str) = "kinds") := by decide +kernel
theorem ne_pb : ¬ (("prices" : Str) = "beside") := by decide +kernel
theorem ne_pn : ¬ (("prices" : Str) = "needs") := by decide +kernel
theorem ne_kb : ¬ (("kinds" : Str) = "beside") := by decide +kernel
theorem ne_kn : ¬ (("kinds" : Str) = "needs") := by decide +kernel
theorem ne_bn : ¬ (("beside" : Str) = "needs") := by decide +kernel
theorem rs_build : putF "needs" (.ref na) (putF "beside" (.ref ba) (putF "kinds" (.ref ka) (putF "prices" (.ref pa) (putF "height" (.int ht) (putF "width" (.int wd) []))))) = rsF wd ht pa ka ba na := by
  rw [putF_nil, putF_miss _ _ _ ne_wh, putF_nil, putF_miss _ _ _ ne_wp, putF_miss _ _ _ ne_hp, putF_nil, putF_miss _ _ _ ne_wk, putF_miss _ _ _ ne_hk, putF_miss _ _ _ ne_pk, putF_nil,
    putF_miss _ _ _ ne_wb, putF_miss _ _ _ ne_hb, putF_miss _ _ _ ne_pb, putF_miss _ _ _ ne_kb, putF_nil, putF_miss _ _ _ ne_wn, putF_miss _ _ _ ne_hn, putF_miss _ _ _ ne_pn, putF_miss _ _ _ ne_kn, putF_miss _ _ _ ne_bn, putF_nil]
  rfl
theorem rs_put_w {x : Int} : putF "width" (.int x) (rsF wd ht pa ka ba na) = rsF x ht pa ka ba na := by unfold rsF; rw [putF_hit]
theorem rs_put_h {x : Int} : putF "height" (.int x) (rsF wd ht pa ka ba na) = rsF wd x pa ka ba na := by unfold rsF; rw [putF_miss _ _ _ ne_wh, putF_hit]
theorem rs_put_p {x : Addr} : putF "prices" (.ref x) (rsF wd ht pa ka ba na) = rsF wd ht x ka ba na := by unfold rsF; rw [putF_miss _ _ _ ne_wp, putF_miss _ _ _ ne_hp, putF_hit]
theorem rs_put_k {x : Addr} : putF "kinds" (.ref x) (rsF wd ht pa ka ba na) = rsF wd ht pa x ba na := by unfold rsF; rw [putF_miss _ _ _ ne_wk, putF_miss _ _ _ ne_hk, putF_miss _ _ _ ne_pk, putF_hit]
theorem rs_put_b {x : Addr} : putF "beside" (.ref x) (rsF wd ht pa ka ba na) = rsF wd ht pa ka x na := by unfold rsF; rw [putF_miss _ _ _ ne_wb, putF_miss _ _ _ ne_hb, putF_miss _ _ _ ne_pb, putF_miss _ _ _ ne_kb, putF_hit]
theorem rs_put_n {x : Addr} : putF "needs" (.ref x) (rsF wd ht pa ka ba na) = rsF wd ht pa ka ba x := by unfold rsF; rw [putF_miss _ _ _ ne_wn, putF_miss _ _ _ ne_hn, putF_miss _ _ _ ne_pn, putF_miss _ _ _ ne_kn, putF_miss _ _ _ ne_bn, putF_hit]
theorem rs_len : (rsF wd ht pa ka ba na).length < 1000 := by show 6 < 1000; decide
end
theorem rsAt_obj {C : Addr} {H : Hp} {p : Addr} {st : Vbecao.State} {L : List Addr} (h : RsAt C H p st L) : ∃ dx wd ht pa ka ba na, H p = some (.ins C dx (rsF wd ht pa ka ba na)) ∧ (0 < wd ↔ st.land.isSome = true) := by
  unfold RsAt at h
  cases e : st.land with
  | none =>
    rw [e] at h
    obtain ⟨_, _, dx, ht, pa, ka, ba, na, h2⟩ := h
    exact ⟨dx, 0, ht, pa, ka, ba, na, h2, by simp⟩
  | some m =>
    rw [e] at h
    obtain ⟨⟨dx, pa, ka, ba, na, h1, h2, _⟩, ok, _⟩ := h
    have := ok.snd.w1
    exact ⟨dx, _, _, pa, ka, ba, na, h2, by simp; omega⟩
section
variable {P : Program} {w : World} {K : PySem.W.Frag} {mg : Str → Option Value} {base : Heap} {A : Ad}
theorem ok_Reserve_init (T : Txt K mg A) : FnOk P w K mg base CX0 1 A.f_Reserve_init A.fd_Reserve_init ["self"] (sp_Reserve_init A.c_Reserve) := by
  refine T.fn_Reserve_init.ok sc_Reserve_init (fun vs H Q E h => ?_) (fun cdv Ar outer s H vs Q E hr h => ?_)
  · obtain ⟨p, dx, rfl, _⟩ := h
    rfl
  · obtain ⟨p, dx, rfl, hp, k⟩ := h
    refine ⟨_, (pss_cons (ps_fld (pv 0) pe_int rfl)
      (pss_cons (ps_fld (pv 0) pe_int rfl)
      (pss_cons (ps_fld (pv 0) (pe_lst pa_nil) rfl)
      (pss_cons (ps_fld (pv 0) (pe_lst pa_nil) rfl)
      (pss_cons (ps_fld (pv 0) (pe_lst pa_nil) rfl)
      (pss_one (ps_fld (pv 0) (pe_op op_rep (pe_lst (pa_cons pe_int pa_nil)) (pe_glob (v := .int (8)) rfl T.g_KINDS ⟨_, rfl⟩)) rfl))))))), ?_⟩
    refine ⟨_, rfl, p, _, dx, [], rfl, hp, T.cl_Reserve, T.na_Reserve_width, (by show 0 < 1000; decide), ?_⟩
    refine ⟨_, rfl, p, _, dx, _, rfl, upd_same, T.cl_Reserve, T.na_Reserve_height, (by show 1 < 1000; decide), ?_⟩
    refine ⟨Nat.zero_le _, fun pa hpa => ⟨_, rfl, p, _, dx, _, rfl, (by rw [upd_ne (upd_none hpa).1.symm]; exact upd_same), T.cl_Reserve, T.na_Reserve_prices, (by show _ < 1000; exact Nat.lt_of_le_of_lt (length_putF _ _ _) (Nat.lt_of_le_of_lt (Nat.succ_le_succ (length_putF _ _ _)) (by decide))), ?_⟩⟩
    refine ⟨Nat.zero_le _, fun ka hka => ⟨_, rfl, p, _, dx, _, rfl, (by rw [upd_ne (upd_none hka).1.symm]; exact upd_same), T.cl_Reserve, T.na_Reserve_kinds, ?_, ?_⟩⟩
    · exact Nat.lt_of_le_of_lt (length_putF _ _ _) (Nat.lt_of_le_of_lt (Nat.succ_le_succ (length_putF _ _ _)) (Nat.lt_of_le_of_lt (Nat.succ_le_succ (Nat.succ_le_succ (length_putF _ _ _))) (by decide)))
    refine ⟨Nat.zero_le _, fun ba hba => ⟨_, rfl, p, _, dx, _, rfl, (by rw [upd_ne (upd_none hba).1.symm]; exact upd_same), T.cl_Reserve, T.na_Reserve_beside, ?_, ?_⟩⟩
    · exact Nat.lt_of_le_of_lt (length_putF _ _ _) (Nat.lt_of_le_of_lt (Nat.succ_le_succ (length_putF _ _ _)) (Nat.lt_of_le_of_lt (Nat.succ_le_succ (Nat.succ_le_succ (length_putF _ _ _))) (Nat.lt_of_le_of_lt (Nat.succ_le_succ (Nat.succ_le_succ (Nat.succ_le_succ (length_putF _ _ _)))) (by decide))))
    refine ⟨(by show 1 ≤ sizeLine; decide), fun ta hta => ⟨ta, 8, _, rfl, rfl, upd_same, by decide, by decide, (by show 1 * 8 ≤ sizeLine; decide), fun na hna => ?_⟩⟩
    have hpt : p ≠ ta := (upd_none hta).1.symm
    have hpn : p ≠ na := fun e => by subst e; rw [upd_ne hpt, upd_same] at hna; cases hna
    refine ⟨_, rfl, p, _, dx, _, rfl, (by rw [upd_ne hpn, upd_ne hpt]; exact upd_same), T.cl_Reserve, T.na_Reserve_needs, ?_, ?_⟩
    · exact Nat.lt_of_le_of_lt (length_putF _ _ _) (Nat.lt_of_le_of_lt (Nat.succ_le_succ (length_putF _ _ _)) (Nat.lt_of_le_of_lt (Nat.succ_le_succ (Nat.succ_le_succ (length_putF _ _ _))) (Nat.lt_of_le_of_lt (Nat.succ_le_succ (Nat.succ_le_succ (Nat.succ_le_succ (length_putF _ _ _)))) (Nat.lt_of_le_of_lt (Nat.succ_le_succ (Nat.succ_le_succ (Nat.succ_le_succ (Nat.succ_le_succ (length_putF _ _ _))))) (by decide)))))
    refine k _ [] ⟨rfl, rfl, dx, 0, pa, ka, ba, na, by rw [upd_same, rs_build]⟩ (fun q hq => by cases hq) ?_
    · exact Chg.upd.trans (Chg.upd.trans ((Lr.Same.chg (same_new hpa)).trans (Chg.upd.trans ((Lr.Same.chg (same_new hka)).trans (Chg.upd.trans ((Lr.Same.chg (same_new hba)).trans (Chg.upd.trans ((Lr.Same.chg (same_new hta)).trans ((Lr.Same.chg (same_new hna)).trans Chg.upd)))))))))
theorem ok_Reserve_has_land (T : Txt K mg A) : FnOk P w K mg base CX0 1 A.f_Reserve_has_land A.fd_Reserve_has_land ["self"] (sp_Reserve_has_land A.c_Reserve) := by
  refine T.fn_Reserve_has_land.ok sc_Reserve_has_land (fun vs H Q E h => ?_) (fun cdv Ar outer s H vs Q E hr h => ?_)
  · obtain ⟨p, st, L, rfl, _⟩ := h
    rfl
  · obtain ⟨p, st, L, rfl, hp, k⟩ := h
    obtain ⟨dx, wd, ht, pa, ka, ba, na, h1, h2⟩ := rsAt_obj hp
    refine ⟨_, (pss_one (ps_ret (pe_cmpR op_gt (pe_fld (pv 0) rfl) pe_int (nomark _)))), ?_⟩
    refine ⟨_, rfl, p, _, dx, _, _, rfl, h1, T.cl_Reserve, T.na_Reserve_width, rs_width, _, _, rfl, rfl, ?_⟩
    have e : decide ((0 : Int) < wd) = st.land.isSome := by rw [Bool.eq_iff_iff, decide_eq_true_eq]; exact h2
    rw [← e] at k
    exact k
theorem ok_Reserve_hold_land (T : Txt K mg A) : FnOk P w K mg base CX0 2 A.f_Reserve_hold_land A.fd_Reserve_hold_land ["self", "width", "height", "prices", "kinds"] (sp_Reserve_hold_land A.c_Reserve) := by
  have G_neighbours := ok_neighbours (P := P) (w := w) (base := base) T
  have G_set_of := ok_set_of (P := P) (w := w) (base := base) T
  refine T.fn_Reserve_hold_land.ok sc_Reserve_hold_land (fun vs H Q E h => ?_) (fun cdv Ar outer s H vs Q E hr h => ?_)
  · obtain ⟨p, st, L, m, pa, ka, rfl, _⟩ := h
    rfl
  · obtain ⟨p, st, L, m, xa, ya, rfl, hp, ok, hx, hy, k⟩ := h
    obtain ⟨dx, wd, ht, pa, ka, ba, na, h1, h2⟩ := rsAt_obj hp
    refine ⟨_, (pss_cons (ps_fld (pv 0) (pv 1) rfl)
      (pss_cons (ps_fld (pv 0) (pv 2) rfl)
      (pss_cons (ps_fld (pv 0) (pv 3) rfl)
      (pss_cons (ps_fld (pv 0) (pv 4) rfl)
      (pss_cons (ps_fld (pv 0) (pe_lc rfl sc_Reserve_hold_land.nd (pi_range1 rfl T.b_range (pa_cons (pe_op op_mul (pv 1) (pv 2)) pa_nil)) (blkOk_by (own := [("cell", 5)]) (by show blkC ["self", "width", "height", "prices", "kinds", "cell"] (defScope s_Reserve_hold_land) _ _ = true; decide +kernel))
        (fun _ _ _ _ _ => (pg_name (i := 5) sc_Reserve_hold_land.nd rfl (Or.inl rfl))) (fun _ _ _ _ _ => pts_nil) (fun _ _ _ _ _ => (pe_call G_set_of (hr.mono (by decide)) rfl T.m_set_of T.kp_set_of T.bd_set_of .nil pass0 (pa_cons (pe_call G_neighbours (hr.mono (by decide)) rfl T.m_neighbours T.kp_neighbours T.bd_neighbours .nil pass0 (pa_cons (pv 1) (pa_cons (pv 2) (pa_cons (pv 5) pa_nil)))) pa_nil)))) rfl)
      (pss_one (ps_fld (pv 0) (pe_op op_rep (pe_lst (pa_cons pe_int pa_nil)) (pe_glob (v := .int (8)) rfl T.g_KINDS ⟨_, rfl⟩)) rfl))))))), ?_⟩
    refine ⟨_, rfl, _, rfl, p, _, dx, _, rfl, h1, T.cl_Reserve, T.na_Reserve_width, rs_len, ?_⟩
    rw [rs_put_w]
    refine ⟨_, rfl, _, rfl, p, _, dx, _, rfl, upd_same, T.cl_Reserve, T.na_Reserve_height, rs_len, ?_⟩
    rw [rs_put_h]
    refine ⟨_, rfl, _, rfl, p, _, dx, _, rfl, upd_same, T.cl_Reserve, T.na_Reserve_prices, rs_len, ?_⟩
    rw [rs_put_p]
    refine ⟨_, rfl, _, rfl, p, _, dx, _, rfl, upd_same, T.cl_Reserve, T.na_Reserve_kinds, rs_len, ?_⟩
    rw [rs_put_k, upd_upd, upd_upd, upd_upd]
    have sz := ok.snd.sz
    have w12 := ok.w12
    refine ⟨_, rfl, _, rfl, _, _, rfl, rfl, .inl ⟨by omega, by omega⟩, ((m.size : Nat) : Int), (by show [V.int ((m.w : Int) * (m.h : Int))] = _; rw [size_cast]), by omega, by omega, fun b1 hb1 => ?_⟩
    rw [Int.toNat_natCast]
    refine lc_range_same (n := m.size) (i := 5) (fun _ => true) (fun c => .int ((nearSet m.w m.h c : Nat) : Int)) hb1 (by rw [sizeLine_eq]; omega) ?_ ?_ ?_
    · intro j hj H' s' R kR
      exact kR _ (Same.refl _)
    · intro j hj hb H' s' R kR
      refine ⟨_, rfl, _, rfl, _, rfl, m.w, m.h, j, rfl, ok.snd.w1, w12, fun p H2 hp s2 h2 => ?_⟩
      exact ⟨p, _, rfl, SqL.of h2, near_small ok hj, fun H3 s3 => kR H3 (s2.trans s3)⟩
    intro H1 s1 hD1
    have h11 : H1 b1 = some (.lst (nv (nearsAll m))) := by
      rw [hD1, filter_tt]
      unfold nearsAll nearL nv
      rw [List.map_map]
      rfl
    refine ⟨_, rfl, p, _, dx, _, rfl, s1 _ _ upd_same, T.cl_Reserve, T.na_Reserve_beside, rs_len, ?_⟩
    rw [rs_put_b]
    refine ⟨(by show 1 ≤ sizeLine; decide), fun ta hta => ⟨ta, 8, _, rfl, rfl, upd_same, by decide, by decide, (by show 1 * 8 ≤ sizeLine; decide), fun n1 hn1 => ?_⟩⟩
    have hpt : p ≠ ta := (upd_none hta).1.symm
    have hpn : p ≠ n1 := fun e => by subst e; rw [upd_ne hpt, upd_same] at hn1; cases hn1
    refine ⟨_, rfl, p, _, dx, _, rfl, (by rw [upd_ne hpn, upd_ne hpt]; exact upd_same), T.cl_Reserve, T.na_Reserve_needs, rs_len, ?_⟩
    rw [rs_put_n]
    have hxp : xa ≠ p := ne_of hx h1 (by intro z; cases z)
    have hyp : ya ≠ p := ne_of hy h1 (by intro z; cases z)
    have hbp : b1 ≠ p := (upd_none hb1).1
    have c1 : Chg H H1 p := Chg.upd.trans (Lr.Same.chg s1)
    have c2 := c1.trans (Chg.upd.trans ((Lr.Same.chg (same_new (o := .lst [V.int 0]) hta)).trans ((Lr.Same.chg (same_new (o := .lst (List.replicate (8 : Int).toNat [V.int 0]).flatten) hn1)).trans (Chg.upd (o := .ins A.c_Reserve dx (rsF m.w m.h xa ya b1 n1))))))
    have c3 : ∀ o, H1 b1 = some o → _ := fun o e => (Chg.upd.trans ((Lr.Same.chg (same_new (o := .lst [V.int 0]) hta)).trans ((Lr.Same.chg (same_new (o := .lst (List.replicate (8 : Int).toNat [V.int 0]).flatten) hn1)).trans (Chg.upd (o := .ins A.c_Reserve dx (rsF m.w m.h xa ya b1 n1)))))) b1 o e hbp
    have hn0 : H n1 = none := by
      cases e : H n1 with
      | none => rfl
      | some o =>
        have := c1 n1 o e hpn.symm
        rw [(upd_none (upd_none hn1).2).2] at this
        cases this
    refine k _ [xa, ya, b1, n1] ⟨⟨dx, xa, ya, b1, n1, rfl, upd_same, c2 _ _ hx hxp, c2 _ _ hy hyp, c3 _ h11, ?_⟩, ok, rfl, ?_⟩ ?_ c2
    · rw [upd_ne hpn.symm, upd_same]
      rfl
    · intro n hn
      rw [List.eq_of_mem_replicate hn]; decide
    · intro q hq
      simp only [List.mem_cons, List.not_mem_nil, or_false] at hq
      rcases hq with rfl | rfl | rfl | rfl
      · exact .inl rfl
      · exact .inr (.inl rfl)
      · exact .inr (.inr (upd_none hb1).2)
      · exact .inr (.inr hn0)
end
end Lr
end
section
set_option Elab.async false
set_option linter.all false
set_option maxRecDepth 100000
set_option maxHeartbeats 2000000
namespace Lr
open PySem PySem.Spec PyProof.Rows L2
open Vbecao (Land numberOf members)
structure CallIn (C : Addr) (H : Hp) (p : Addr) (st : Vbecao.State) (L : List Addr) (na la : Addr) (nums : List Int) (ls : List (List Int)) (las : List Addr) : Prop where
  rs : RsAt C H p st L
  num : H na = some (.lst (iv nums))
  lst : H la = some (.lst (las.map V.ref))
  len : las.length = ls.length
  its : ∀ (j : Nat) (x : List Int), ls[j]? = some x → ∃ q, las[j]? = some q ∧ H q = some (.lst (iv x))
  short : ∀ x ∈ ls, x.length ≤ 30
def CallOut (C : Addr) (H : Hp) (p : Addr) (L las : List Addr) (Q : VK) (r : Vbecao.Out) : Prop := ∀ H' q L', H q = none → H' q = some (.lst (iv r.2)) → RsAt C H' p r.1 L' → (∀ x ∈ L', x ∈ L ∨ x ∈ las ∨ H x = none) → Chg H H' p → Q (.ref q) H'
def sp_call (C : Addr) (n : Int) (a b : Nat) : Sp := fun vs H Q _ => ∃ p na la st L nums ls las, vs = [.ref p, .ref na, .ref la] ∧ CallIn C H p st L na la nums ls las ∧ (n ≠ 0 → st.land.isSome = true) ∧ nums.length = a ∧ ls.length = b ∧
  CallOut C H p L las Q (Vbecao.step st ((n :: nums) :: ls))
theorem RsAt.same {C : Addr} {H H' : Hp} {p : Addr} {st : Vbecao.State} {L : List Addr} (h : RsAt C H p st L) (s : Same H H') : RsAt C H' p st L := by
  unfold RsAt at h ⊢
  cases e : st.land with
  | none =>
    rw [e] at h
    obtain ⟨hL, h0, dx, ht, pa, ka, ba, na, h2⟩ := h
    exact ⟨hL, h0, dx, ht, pa, ka, ba, na, s _ _ h2⟩
  | some m =>
    rw [e] at h
    exact LAt.same h s
theorem RsAt.land {C : Addr} {H : Hp} {p : Addr} {st : Vbecao.State} {L : List Addr} {m : Land} (h : RsAt C H p st L) (e : st.land = some m) : LAt C H p m st.need L := by
  unfold RsAt at h
  rw [e] at h
  exact h
theorem CallOut.stay {C : Addr} {H H' : Hp} {p q : Addr} {L las : List Addr} {Q : VK} {st : Vbecao.State} {out : List Int} (k : CallOut C H p L las Q (st, out)) (rs : RsAt C H p st L) (s : Same H H') (hq : H q = none) (h : H' q = some (.lst (iv out))) : Q (.ref q) H' :=
  k H' q L hq h (rs.same s) (fun x hx => .inl hx) (Same.chg s)
theorem CallOut.list {C : Addr} {H H' : Hp} {p q : Addr} {L las : List Addr} {Q : VK} {st : Vbecao.State} {out : List Int} (k : CallOut C H p L las Q (st, out)) (rs : RsAt C H p st L) (s : Same H H') (hq : H' q = none) : Q (.ref q) (upd H' q (.lst (iv out))) :=
  k.stay rs (s.trans (same_new hq)) (s.free hq) upd_same
theorem told_nv {l : List Int} {n : Nat} (h : (l.all fun x => decide (0 ≤ x ∧ x ≤ (n : Int) - 1)) = true) : iv l = nv (l.map Int.toNat) ∧ ∀ c ∈ l.map Int.toNat, c < n := by
  rw [List.all_eq_true] at h
  constructor
  · unfold nv iv
    rw [List.map_map]
    apply List.map_congr_left
    intro x hx
    have := of_decide_eq_true (h x hx)
    show V.int x = V.int ((x.toNat : Nat) : Int)
    rw [Int.toNat_of_nonneg this.1]
  · intro c hc
    obtain ⟨x, hx, rfl⟩ := List.mem_map.mp hc
    have := of_decide_eq_true (h x hx)
    omega
theorem list_nv {l : List Int} {n : Nat} (h : (l.all fun x => decide (0 ≤ x ∧ x ≤ (n : Int))) = true) : iv l = nv (l.map Int.toNat) ∧ ∀ c ∈ l.map Int.toNat, c ≤ n := by
  have h' : (l.all fun x => decide (0 ≤ x ∧ x ≤ ((n + 1 : Nat) : Int) - 1)) = true := by
    rw [← h]; congr 1; funext x; rw [decide_eq_decide]; omega
  obtain ⟨h1, h2⟩ := told_nv h'
  exact ⟨h1, fun c hc => by have := h2 c hc; omega⟩
theorem withSet_yes {st : Vbecao.State} {m : Land} {l : List Int} {k : Nat → Vbecao.Out} (h : (decide (l.length ≤ 24) && l.all fun x => decide (0 ≤ x ∧ x ≤ (m.size : Int) - 1)) = true) : Vbecao.withSet st m l k = k (numberOf (l.map Int.toNat)) := by
  rw [Bool.and_eq_true, decide_eq_true_eq] at h
  unfold Vbecao.withSet Vbecao.withList
  rw [if_pos ⟨⟨Nat.zero_le _, h.1⟩, h.2⟩]
theorem withSet_no {st : Vbecao.State} {m : Land} {l : List Int} {k : Nat → Vbecao.Out} (h : (decide (l.length ≤ 24) && l.all fun x => decide (0 ≤ x ∧ x ≤ (m.size : Int) - 1)) = false) : Vbecao.withSet st m l k = (st, [-4]) := by
  unfold Vbecao.withSet Vbecao.withList
  rw [if_neg]
  · rfl
  · rintro ⟨⟨_, h1⟩, h2⟩
    rw [decide_eq_true h1, h2] at h
    cases h
theorem withLand_eq {st : Vbecao.State} {m : Land} {k : Land → Vbecao.Out} (h : st.land = some m) : Vbecao.withLand st k = k m := by unfold Vbecao.withLand; rw [h]
theorem withNum_yes {st : Vbecao.State} {n lo hi : Int} {k : Nat → Vbecao.Out} (h : lo ≤ n ∧ n ≤ hi) : Vbecao.withNum st n lo hi k = k n.toNat := by unfold Vbecao.withNum; rw [if_pos h]
theorem withNum_no {st : Vbecao.State} {n lo hi : Int} {k : Nat → Vbecao.Out} (h : ¬ (lo ≤ n ∧ n ≤ hi)) : Vbecao.withNum st n lo hi k = (st, [-3]) := by unfold Vbecao.withNum; rw [if_neg h]; rfl
theorem withList_yes {st : Vbecao.State} {n : Nat} {most : Int} {l : List Int} {k : List Nat → Vbecao.Out} (h : (decide (l.length = n) && l.all fun x => decide (0 ≤ x ∧ x ≤ most)) = true) : Vbecao.withList st n n most l k = k (l.map Int.toNat) := by
  rw [Bool.and_eq_true, decide_eq_true_eq] at h
  unfold Vbecao.withList
  rw [if_pos ⟨⟨Nat.le_of_eq h.1.symm, Nat.le_of_eq h.1⟩, h.2⟩]
theorem withList_no {st : Vbecao.State} {n : Nat} {most : Int} {l : List Int} {k : List Nat → Vbecao.Out} (h : (decide (l.length = n) && l.all fun x => decide (0 ≤ x ∧ x ≤ most)) = false) : Vbecao.withList st n n most l k = (st, [-4]) := by
  unfold Vbecao.withList
  rw [if_neg]
  · rfl
  · rintro ⟨⟨h0, h1⟩, h2⟩
    rw [decide_eq_true (Nat.le_antisymm h1 h0), h2] at h
    cases h
theorem not_t {b : Bool} (h : (!b) = true) : b = false := by cases b <;> simp_all
theorem not_f {b : Bool} (h : (!b) = false) : b = true := by cases b <;> simp_all
theorem one_of {α : Type} {l : List α} (h : l.length = 1) : ∃ x, l = [x] := by
  match l, h with
  | [x], _ => exact ⟨x, rfl⟩
theorem two_of {α : Type} {l : List α} (h : l.length = 2) : ∃ x y, l = [x, y] := by
  match l, h with
  | [x, y], _ => exact ⟨x, y, rfl⟩
theorem told_lt {l : List Int} {m : Land} (h : (decide (l.length ≤ 24) && l.all fun x => decide (0 ≤ x ∧ x ≤ (m.size : Int) - 1)) = true) : numberOf (l.map Int.toNat) < 2 ^ m.size := by
  rw [Bool.and_eq_true] at h
  exact numberOf_lt (told_nv h.2).2
section
variable {P : Program} {w : World} {K : PySem.W.Frag} {mg : Str → Option Value} {base : Heap} {A : Ad}
theorem ok_call_fits (T : Txt K mg A) : FnOk P w K mg base CX0 4 A.f_call_fits A.fd_call_fits ["reserve", "numbers", "lists"] (sp_call A.c_Reserve 3 0 1) := by
  have G_is_told_set := ok_is_told_set (P := P) (w := w) (base := base) T
  have G_set_of := ok_set_of (P := P) (w := w) (base := base) T
  have G_fits_without := ok_fits_without (P := P) (w := w) (base := base) T
  refine T.fn_call_fits.ok sc_call_fits (fun vs H Q E h => ?_) (fun cdv Ar outer s H vs Q E hr h => ?_)
  · obtain ⟨p, na, la, st, L, nums, ls, las, rfl, _⟩ := h
    rfl
  · obtain ⟨p, na, la, st, L, nums, ls, las, rfl, I, hland, hn, hl, k⟩ := h
    obtain ⟨l, rfl⟩ := one_of hl
    obtain rfl : nums = [] := List.length_eq_zero_iff.mp hn
    obtain ⟨q0, rfl⟩ := one_of I.len
    obtain ⟨q, hq, hq0⟩ := I.its 0 l rfl
    obtain rfl : q0 = q := by simpa using hq
    obtain ⟨m, hm⟩ := Option.isSome_iff_exists.mp (hland (by decide))
    have Lm := I.rs.land hm
    have hs := I.short l (by simp)
    have sz := Lm.ok.snd.sz
    have e0 : Vbecao.step st ((3 :: []) :: [l]) = Vbecao.withSet st m l fun t => (st, [if Vbecao.fits m st.need t = true then 1 else 0]) := withLand_eq hm
    rw [e0] at k
    refine ⟨_, (pss_cons (ps_if (pt_not (pt_val (pe_call G_is_told_set (hr.mono (by decide)) rfl T.m_is_told_set T.kp_is_told_set T.bd_is_told_set .nil pass0 (pa_cons (pv 0) (pa_cons (pe_ix ix_list (pv 2) pe_int (fun _ _ => rfl)) pa_nil)))))
        (pss_one (ps_ret (pe_lst (pa_cons (pe_glob (v := .int (-4)) rfl T.g_LIST_OUT ⟨_, rfl⟩) pa_nil))))
        pss_nil)
      (pss_one (ps_ret (pe_lst (pa_cons (pe_ifExp (pt_val (pe_call G_fits_without (hr.mono (by decide)) rfl T.m_fits_without T.kp_fits_without T.bd_fits_without .nil pass0 (pa_cons (pv 0) (pa_cons pe_int (pa_cons (pe_call G_set_of (hr.mono (by decide)) rfl T.m_set_of T.kp_set_of T.bd_set_of .nil pass0 (pa_cons (pe_ix ix_list (pv 2) pe_int (fun _ _ => rfl)) pa_nil)) pa_nil))))) pe_int pe_int) pa_nil))))), ?_⟩
    refine ⟨_, rfl, _, rfl, la, _, _, _, rfl, rfl, SqL.of I.lst, at_of (j := 0) rfl rfl, p, m, st.need, L, q0, l, rfl, Lm, SqL.of hq0, by omega, fun H1 s1 => ⟨_, rfl, ?_⟩⟩
    refine itb (!(decide (l.length ≤ 24) && l.all fun x => decide (0 ≤ x ∧ x ≤ (m.size : Int) - 1))) rfl (fun c => ?_) (fun c => ?_)
    · rw [withSet_no (not_t c)] at k
      exact ⟨(by show 1 ≤ sizeLine; decide), fun x hx => k.list I.rs s1 hx⟩
    · have c' : (decide (l.length ≤ 24) && l.all fun x => decide (0 ≤ x ∧ x ≤ (m.size : Int) - 1)) = true := not_f c
      rw [withSet_yes c'] at k
      have c2 := c'
      rw [Bool.and_eq_true] at c2
      have tn := told_nv c2.2
      refine ⟨_, rfl, _, rfl, la, _, _, _, rfl, rfl, SqL.of (s1 _ _ I.lst), at_of (j := 0) rfl rfl, q0, _, rfl, SqL.of (by rw [← tn.1]; exact s1 _ _ hq0), fun n hn => (by have := tn.2 n hn; omega), fun H2 s2 => ?_⟩
      refine ⟨p, m, st.need, L, 0, numberOf (l.map Int.toNat), rfl, Lm.same (s1.trans s2), told_lt c', fun H3 s3 => ⟨_, rfl, ?_⟩⟩
      rw [fitsW_zero]
      have s4 : Same H H3 := (s1.trans s2).trans s3
      refine itb _ rfl (fun c3 => ?_) (fun c3 => ?_)
      · rw [if_pos c3] at k
        exact ⟨(by show 1 ≤ sizeLine; decide), fun x hx => k.list I.rs s4 hx⟩
      · rw [if_neg (by rw [c3]; decide)] at k
        exact ⟨(by show 1 ≤ sizeLine; decide), fun x hx => k.list I.rs s4 hx⟩
theorem ok_call_price (T : Txt K mg A) : FnOk P w K mg base CX0 3 A.f_call_price A.fd_call_price ["reserve", "numbers", "lists"] (sp_call A.c_Reserve 4 0 1) := by
  have G_is_told_set := ok_is_told_set (P := P) (w := w) (base := base) T
  have G_set_of := ok_set_of (P := P) (w := w) (base := base) T
  have G_sum_over := ok_sum_over (P := P) (w := w) (base := base) T
  refine T.fn_call_price.ok sc_call_price (fun vs H Q E h => ?_) (fun cdv Ar outer s H vs Q E hr h => ?_)
  · obtain ⟨p, na, la, st, L, nums, ls, las, rfl, _⟩ := h
    rfl
  · obtain ⟨p, na, la, st, L, nums, ls, las, rfl, I, hland, hn, hl, k⟩ := h
    obtain ⟨l, rfl⟩ := one_of hl
    obtain rfl : nums = [] := List.length_eq_zero_iff.mp hn
    obtain ⟨q0, rfl⟩ := one_of I.len
    obtain ⟨q, hq, hq0⟩ := I.its 0 l rfl
    obtain rfl : q0 = q := by simpa using hq
    obtain ⟨m, hm⟩ := Option.isSome_iff_exists.mp (hland (by decide))
    have Lm := I.rs.land hm
    have hs := I.short l (by simp)
    have sz := Lm.ok.snd.sz
    have pl := Lm.ok.snd.pl
    have e0 : Vbecao.step st ((4 :: []) :: [l]) = Vbecao.withSet st m l fun t => (st, [(Vbecao.price m t : Int)]) := withLand_eq hm
    rw [e0] at k
    refine ⟨_, (pss_cons (ps_if (pt_not (pt_val (pe_call G_is_told_set (hr.mono (by decide)) rfl T.m_is_told_set T.kp_is_told_set T.bd_is_told_set .nil pass0 (pa_cons (pv 0) (pa_cons (pe_ix ix_list (pv 2) pe_int (fun _ _ => rfl)) pa_nil)))))
        (pss_one (ps_ret (pe_lst (pa_cons (pe_glob (v := .int (-4)) rfl T.g_LIST_OUT ⟨_, rfl⟩) pa_nil))))
        pss_nil)
      (pss_one (ps_ret (pe_lst (pa_cons (pe_call G_sum_over (hr.mono (by decide)) rfl T.m_sum_over T.kp_sum_over T.bd_sum_over .nil pass0 (pa_cons (pe_fld (pv 0) rfl) (pa_cons (pe_call G_set_of (hr.mono (by decide)) rfl T.m_set_of T.kp_set_of T.bd_set_of .nil pass0 (pa_cons (pe_ix ix_list (pv 2) pe_int (fun _ _ => rfl)) pa_nil)) pa_nil))) pa_nil))))), ?_⟩
    refine ⟨_, rfl, _, rfl, la, _, _, _, rfl, rfl, SqL.of I.lst, at_of (j := 0) rfl rfl, p, m, st.need, L, q0, l, rfl, Lm, SqL.of hq0, by omega, fun H1 s1 => ⟨_, rfl, ?_⟩⟩
    refine itb (!(decide (l.length ≤ 24) && l.all fun x => decide (0 ≤ x ∧ x ≤ (m.size : Int) - 1))) rfl (fun c => ?_) (fun c => ?_)
    · rw [withSet_no (not_t c)] at k
      exact ⟨(by show 1 ≤ sizeLine; decide), fun x hx => k.list I.rs s1 hx⟩
    · have c' : (decide (l.length ≤ 24) && l.all fun x => decide (0 ≤ x ∧ x ≤ (m.size : Int) - 1)) = true := not_f c
      rw [withSet_yes c', price_worth Lm.ok.snd] at k
      have c2 := c'
      rw [Bool.and_eq_true] at c2
      have tn := told_nv c2.2
      obtain ⟨dx, pa, ka, ba, na', eL, h1, h2, h3, h4, h5⟩ := Lm.ex
      refine ⟨_, rfl, p, _, dx, _, _, rfl, s1 _ _ h1, T.cl_Reserve, T.na_Reserve_prices, rs_prices, _, rfl, la, _, _, _, rfl, rfl, SqL.of (s1 _ _ I.lst), at_of (j := 0) rfl rfl, q0, _, rfl, SqL.of (by rw [← tn.1]; exact s1 _ _ hq0), fun n hn => (by have := tn.2 n hn; omega), fun H2 s2 => ?_⟩
      refine ⟨pa, m.prices, numberOf (l.map Int.toNat), rfl, SqL.of (s2 _ _ (s1 _ _ h2)), by omega, by rw [pl]; exact told_lt c', fun H3 s3 => ?_⟩
      exact ⟨(by show 1 ≤ sizeLine; decide), fun x hx => k.list I.rs ((s1.trans s2).trans s3) hx⟩
theorem ok_call_pieces (T : Txt K mg A) : FnOk P w K mg base CX0 4 A.f_call_pieces A.fd_call_pieces ["reserve", "numbers", "lists"] (sp_call A.c_Reserve 5 0 1) := by
  have G_is_told_set := ok_is_told_set (P := P) (w := w) (base := base) T
  have G_set_of := ok_set_of (P := P) (w := w) (base := base) T
  have G_count_pieces := ok_count_pieces (P := P) (w := w) (base := base) T
  refine T.fn_call_pieces.ok sc_call_pieces (fun vs H Q E h => ?_) (fun cdv Ar outer s H vs Q E hr h => ?_)
  · obtain ⟨p, na, la, st, L, nums, ls, las, rfl, _⟩ := h
    rfl
  · obtain ⟨p, na, la, st, L, nums, ls, las, rfl, I, hland, hn, hl, k⟩ := h
    obtain ⟨l, rfl⟩ := one_of hl
    obtain rfl : nums = [] := List.length_eq_zero_iff.mp hn
    obtain ⟨q0, rfl⟩ := one_of I.len
    obtain ⟨q, hq, hq0⟩ := I.its 0 l rfl
    obtain rfl : q0 = q := by simpa using hq
    obtain ⟨m, hm⟩ := Option.isSome_iff_exists.mp (hland (by decide))
    have Lm := I.rs.land hm
    have hs := I.short l (by simp)
    have sz := Lm.ok.snd.sz
    have e0 : Vbecao.step st ((5 :: []) :: [l]) = Vbecao.withSet st m l fun t => (st, [((Vbecao.pieces m t).length : Int)]) := withLand_eq hm
    rw [e0] at k
    refine ⟨_, (pss_cons (ps_if (pt_not (pt_val (pe_call G_is_told_set (hr.mono (by decide)) rfl T.m_is_told_set T.kp_is_told_set T.bd_is_told_set .nil pass0 (pa_cons (pv 0) (pa_cons (pe_ix ix_list (pv 2) pe_int (fun _ _ => rfl)) pa_nil)))))
        (pss_one (ps_ret (pe_lst (pa_cons (pe_glob (v := .int (-4)) rfl T.g_LIST_OUT ⟨_, rfl⟩) pa_nil))))
        pss_nil)
      (pss_one (ps_ret (pe_lst (pa_cons (pe_call G_count_pieces (hr.mono (by decide)) rfl T.m_count_pieces T.kp_count_pieces T.bd_count_pieces .nil pass0 (pa_cons (pe_fld (pv 0) rfl) (pa_cons (pe_call G_set_of (hr.mono (by decide)) rfl T.m_set_of T.kp_set_of T.bd_set_of .nil pass0 (pa_cons (pe_ix ix_list (pv 2) pe_int (fun _ _ => rfl)) pa_nil)) pa_nil))) pa_nil))))), ?_⟩
    refine ⟨_, rfl, _, rfl, la, _, _, _, rfl, rfl, SqL.of I.lst, at_of (j := 0) rfl rfl, p, m, st.need, L, q0, l, rfl, Lm, SqL.of hq0, by omega, fun H1 s1 => ⟨_, rfl, ?_⟩⟩
    refine itb (!(decide (l.length ≤ 24) && l.all fun x => decide (0 ≤ x ∧ x ≤ (m.size : Int) - 1))) rfl (fun c => ?_) (fun c => ?_)
    · rw [withSet_no (not_t c)] at k
      exact ⟨(by show 1 ≤ sizeLine; decide), fun x hx => k.list I.rs s1 hx⟩
    · have c' : (decide (l.length ≤ 24) && l.all fun x => decide (0 ≤ x ∧ x ≤ (m.size : Int) - 1)) = true := not_f c
      rw [withSet_yes c'] at k
      have c2 := c'
      rw [Bool.and_eq_true] at c2
      have tn := told_nv c2.2
      obtain ⟨dx, pa, ka, ba, na', eL, h1, h2, h3, h4, h5⟩ := Lm.ex
      refine ⟨_, rfl, p, _, dx, _, _, rfl, s1 _ _ h1, T.cl_Reserve, T.na_Reserve_beside, rs_beside, _, rfl, la, _, _, _, rfl, rfl, SqL.of (s1 _ _ I.lst), at_of (j := 0) rfl rfl, q0, _, rfl, SqL.of (by rw [← tn.1]; exact s1 _ _ hq0), fun n hn => (by have := tn.2 n hn; omega), fun H2 s2 => ?_⟩
      refine ⟨ba, m, numberOf (l.map Int.toNat), rfl, SqL.of (s2 _ _ (s1 _ _ h4)), Lm.ok, told_lt c', fun H3 s3 => ?_⟩
      exact ⟨(by show 1 ≤ sizeLine; decide), fun x hx => k.list I.rs ((s1.trans s2).trans s3) hx⟩
end
end Lr
end
section
set_option Elab.async false
set_option linter.all false
set_option maxRecDepth 100000
set_option maxHeartbeats 2000000
namespace Lr
open PySem PySem.Spec PyProof.Rows L2
open Vbecao (Land numberOf members)
theorem asked_all {m : Land} {need : List Nat} : (askedL m false).filter (Vbecao.fits m need) = (Vbecao.sets m).filter (Vbecao.fits m need) := by
  congr 1
  exact List.filter_eq_self.mpr fun a _ => rfl
theorem len_nil {ns : List Nat} : decide (V.int (((nv ns).length : Nat) : Int) = V.int 0) = ns.isEmpty := by
  rw [List.length_map, dec_int, Bool.eq_iff_iff, List.isEmpty_iff]; simp
section
variable {P : Program} {w : World} {K : PySem.W.Frag} {mg : Str → Option Value} {base : Heap} {A : Ad}
theorem ok_call_told (T : Txt K mg A) : FnOk P w K mg base CX0 1 A.f_call_told A.fd_call_told ["reserve", "numbers", "lists"] (sp_call A.c_Reserve 1 0 0) := by
  refine T.fn_call_told.ok sc_call_told (fun vs H Q E h => ?_) (fun cdv Ar outer s H vs Q E hr h => ?_)
  · obtain ⟨p, na, la, st, L, nums, ls, las, rfl, _⟩ := h
    rfl
  · obtain ⟨p, na, la, st, L, nums, ls, las, rfl, I, hland, hn, hl, k⟩ := h
    obtain rfl : ls = [] := List.length_eq_zero_iff.mp hl
    obtain rfl : nums = [] := List.length_eq_zero_iff.mp hn
    obtain ⟨m, hm⟩ := Option.isSome_iff_exists.mp (hland (by decide))
    have Lm := I.rs.land hm
    have sz := Lm.ok.snd.sz
    have pl := Lm.ok.snd.pl
    have kl := Lm.ok.snd.kl
    have nl := Lm.nl
    have e0 : Vbecao.step st ((1 :: []) :: []) = (st, [0, (m.w : Int), (m.h : Int)] ++ Vbecao.ints (m.prices ++ (m.kinds ++ st.need))) := withLand_eq hm
    rw [e0] at k
    obtain ⟨dx, pa, ka, ba, na', eL, h1, h2, h3, h4, h5⟩ := Lm.ex
    refine ⟨_, (pss_one (ps_ret (pe_op op_cat (pe_op op_cat (pe_op op_cat (pe_lst (pa_cons pe_int (pa_cons (pe_fld (pv 0) rfl) (pa_cons (pe_fld (pv 0) rfl) pa_nil)))) (pe_fld (pv 0) rfl)) (pe_fld (pv 0) rfl)) (pe_fld (pv 0) rfl)))), ?_⟩
    refine ⟨_, rfl, p, _, dx, _, _, rfl, h1, T.cl_Reserve, T.na_Reserve_width, rs_width, _, rfl, p, _, dx, _, _, rfl, h1, T.cl_Reserve, T.na_Reserve_height, rs_height, (by show 3 ≤ sizeLine; decide), fun x0 hx0 => ?_⟩
    have s0 := same_new (o := .lst [.int 0, .int (m.w : Int), .int (m.h : Int)]) hx0
    refine ⟨_, rfl, p, _, dx, _, _, rfl, s0 _ _ h1, T.cl_Reserve, T.na_Reserve_prices, rs_prices, x0, pa, _, _, rfl, rfl, upd_same, s0 _ _ h2, (by rw [List.length_map, sizeLine_eq]; show 3 + _ ≤ _; omega), fun x1 hx1 => ?_⟩
    have s1 := s0.trans (same_new (o := .lst ([.int 0, .int (m.w : Int), .int (m.h : Int)] ++ nv m.prices)) hx1)
    refine ⟨_, rfl, p, _, dx, _, _, rfl, s1 _ _ h1, T.cl_Reserve, T.na_Reserve_kinds, rs_kinds, x1, ka, _, _, rfl, rfl, upd_same, s1 _ _ h3, (by rw [List.length_append, List.length_map, List.length_map, sizeLine_eq]; show 3 + _ + _ ≤ _; omega), fun x2 hx2 => ?_⟩
    have s2 := s1.trans (same_new (o := .lst ([.int 0, .int (m.w : Int), .int (m.h : Int)] ++ nv m.prices ++ nv m.kinds)) hx2)
    refine ⟨_, rfl, p, _, dx, _, _, rfl, s2 _ _ h1, T.cl_Reserve, T.na_Reserve_needs, rs_needs, x2, na', _, _, rfl, rfl, upd_same, s2 _ _ h5, (by rw [List.length_append, List.length_append, List.length_map, List.length_map, List.length_map, sizeLine_eq]; show 3 + _ + _ + _ ≤ _; omega), fun x3 hx3 => ?_⟩
    have e : iv ([0, (m.w : Int), (m.h : Int)] ++ Vbecao.ints (m.prices ++ (m.kinds ++ st.need))) = [.int 0, .int (m.w : Int), .int (m.h : Int)] ++ nv m.prices ++ nv m.kinds ++ nv st.need := by
      rw [nv_iv, nv_iv, nv_iv]
      unfold iv Vbecao.ints
      simp only [List.map_append, List.map_cons, List.map_nil, List.append_assoc]
    have := k.list I.rs s2 hx3
    rw [e] at this
    exact this
theorem ok_call_need (T : Txt K mg A) : FnOk P w K mg base CX0 3 A.f_call_need A.fd_call_need ["reserve", "numbers", "lists"] (sp_call A.c_Reserve 2 0 1) := by
  have G_is_list_of := ok_is_list_of (P := P) (w := w) (base := base) T
  refine T.fn_call_need.ok sc_call_need (fun vs H Q E h => ?_) (fun cdv Ar outer s H vs Q E hr h => ?_)
  · obtain ⟨p, na, la, st, L, nums, ls, las, rfl, _⟩ := h
    rfl
  · obtain ⟨p, na, la, st, L, nums, ls, las, rfl, I, hland, hn, hl, k⟩ := h
    obtain ⟨l, rfl⟩ := one_of hl
    obtain rfl : nums = [] := List.length_eq_zero_iff.mp hn
    obtain ⟨q0, rfl⟩ := one_of I.len
    obtain ⟨q, hq, hq0⟩ := I.its 0 l rfl
    obtain rfl : q0 = q := by simpa using hq
    obtain ⟨m, hm⟩ := Option.isSome_iff_exists.mp (hland (by decide))
    have Lm := I.rs.land hm
    have hs := I.short l (by simp)
    have e0 : Vbecao.step st ((2 :: []) :: [l]) = Vbecao.withList st 8 8 12 l fun l => ({ st with need := l }, [0]) := withLand_eq hm
    rw [e0] at k
    refine ⟨_, (pss_cons (ps_if (pt_not (pt_val (pe_call G_is_list_of (hr.mono (by decide)) rfl T.m_is_list_of T.kp_is_list_of T.bd_is_list_of .nil pass0 (pa_cons (pe_ix ix_list (pv 2) pe_int (fun _ _ => rfl)) (pa_cons (pe_glob (v := .int (8)) rfl T.g_KINDS ⟨_, rfl⟩) (pa_cons (pe_glob (v := .int (12)) rfl T.g_MOST_NEED ⟨_, rfl⟩) pa_nil))))))
        (pss_one (ps_ret (pe_lst (pa_cons (pe_glob (v := .int (-4)) rfl T.g_LIST_OUT ⟨_, rfl⟩) pa_nil))))
        pss_nil)
      (pss_cons (ps_fld (pv 0) (pe_ix ix_list (pv 2) pe_int (fun _ _ => rfl)) rfl)
      (pss_one (ps_ret (pe_lst (pa_cons pe_int pa_nil)))))), ?_⟩
    refine ⟨_, rfl, la, _, _, _, rfl, rfl, SqL.of I.lst, at_of (j := 0) rfl rfl, q0, l, 12, 8, rfl, SqL.of hq0, by omega, fun H1 s1 => ⟨_, rfl, ?_⟩⟩
    refine itb (!(decide (l.length = 8) && l.all fun x => decide (0 ≤ x ∧ x ≤ 12))) rfl (fun c => ?_) (fun c => ?_)
    · rw [withList_no (not_t c)] at k
      exact ⟨(by show 1 ≤ sizeLine; decide), fun x hx => k.list I.rs s1 hx⟩
    · have c' := not_f c
      rw [withList_yes c'] at k
      rw [Bool.and_eq_true, decide_eq_true_eq] at c'
      have tn := list_nv (n := 12) c'.2
      have L1 := Lm.same s1
      obtain ⟨dx, pa, ka, ba, na', eL, h1, h2, h3, h4, h5⟩ := L1.ex
      refine ⟨_, rfl, la, _, _, _, rfl, rfl, SqL.of (s1 _ _ I.lst), at_of (j := 0) rfl rfl, _, rfl, p, _, dx, _, rfl, h1, T.cl_Reserve, T.na_Reserve_needs, rs_len, ?_⟩
      rw [rs_put_n]
      have ne : ∀ {q : Addr} {xs : List V}, H1 q = some (.lst xs) → q ≠ p := fun e => ne_of e h1 (by intro z; cases z)
      have hq1 := s1 _ _ hq0
      have L2 : LAt A.c_Reserve (upd H1 p (.ins A.c_Reserve dx (rsF m.w m.h pa ka ba q0))) p m (l.map Int.toNat) [pa, ka, ba, q0] :=
        ⟨⟨dx, pa, ka, ba, q0, rfl, upd_same, by rw [upd_ne (ne h2)]; exact h2, by rw [upd_ne (ne h3)]; exact h3, by rw [upd_ne (ne h4)]; exact h4, by rw [upd_ne (ne hq1), ← tn.1]; exact hq1⟩, Lm.ok, by rw [List.length_map]; exact c'.1, tn.2⟩
      refine ⟨(by show 1 ≤ sizeLine; decide), fun x hx => ?_⟩
      have cc : Chg H (upd H1 p (.ins A.c_Reserve dx (rsF m.w m.h pa ka ba q0))) p := (Lr.Same.chg s1).trans Chg.upd
      have hx0 : H x = none := by
        cases e : H x with
        | none => rfl
        | some o =>
          by_cases q : x = p
          · subst q
            rw [upd_same] at hx; cases hx
          · rw [cc x o e q] at hx; cases hx
      refine k _ x [pa, ka, ba, q0] hx0 (by rw [upd_same]; rfl) ?_ ?_ (cc.trans (Lr.Same.chg (same_new hx)))
      · unfold RsAt
        simp only [hm]
        exact L2.same (same_new hx)
      · intro y hy
        rw [eL]
        simp only [List.mem_cons, List.not_mem_nil, or_false] at hy ⊢
        rcases hy with rfl | rfl | rfl | rfl
        · exact .inl (.inl rfl)
        · exact .inl (.inr (.inl rfl))
        · exact .inl (.inr (.inr (.inl rfl)))
        · exact .inr (.inl rfl)
theorem ok_call_best (T : Txt K mg A) : FnOk P w K mg base CX0 4 A.f_call_best A.fd_call_best ["reserve", "numbers", "lists"] (sp_call A.c_Reserve 6 1 0) := by
  have G_all_within := ok_all_within (P := P) (w := w) (base := base) T
  have G_fitting_sets := ok_fitting_sets (P := P) (w := w) (base := base) T
  have G_first_cheapest := ok_first_cheapest (P := P) (w := w) (base := base) T
  have G_price_and_cells := ok_price_and_cells (P := P) (w := w) (base := base) T
  refine T.fn_call_best.ok sc_call_best (fun vs H Q E h => ?_) (fun cdv Ar outer s H vs Q E hr h => ?_)
  · obtain ⟨p, na, la, st, L, nums, ls, las, rfl, _⟩ := h
    rfl
  · obtain ⟨p, na, la, st, L, nums, ls, las, rfl, I, hland, hn, hl, k⟩ := h
    obtain rfl : ls = [] := List.length_eq_zero_iff.mp hl
    obtain ⟨o, rfl⟩ := one_of hn
    obtain ⟨m, hm⟩ := Option.isSome_iff_exists.mp (hland (by decide))
    have Lm := I.rs.land hm
    have e0 : Vbecao.step st ((6 :: [o]) :: []) = Vbecao.withNum st o 0 1 fun o => Vbecao.tell st m (Vbecao.best m st.need (o == 1)) := withLand_eq hm
    rw [e0] at k
    refine ⟨_, (pss_cons (ps_if (pt_not (pt_val (pe_call G_all_within (hr.mono (by decide)) rfl T.m_all_within T.kp_all_within T.bd_all_within .nil pass0 (pa_cons (pv 1) (pa_cons pe_int (pa_cons pe_int pa_nil))))))
        (pss_one (ps_ret (pe_lst (pa_cons (pe_glob (v := .int (-3)) rfl T.g_NUMBER_OUT ⟨_, rfl⟩) pa_nil))))
        pss_nil)
      (pss_cons (ps_set (i := 3) sc_call_best.nd rfl (Or.inl rfl) (pe_call G_fitting_sets (hr.mono (by decide)) rfl T.m_fitting_sets T.kp_fitting_sets T.bd_fitting_sets .nil pass0 (pa_cons (pv 0) (pa_cons (pe_ix ix_list (pv 1) pe_int (fun _ _ => rfl)) pa_nil))))
      (pss_cons (ps_if (pt_cmpR op_eq (pe_callB call_len_seq (by rfl) T.b_len PySem.boot_len (pa_cons (pv 3) pa_nil)) pe_int (nomark _))
        (pss_one (ps_ret (pe_lst (pa_cons (pe_glob (v := .int (-6)) rfl T.g_NONE_FITS ⟨_, rfl⟩) pa_nil))))
        pss_nil)
      (pss_one (ps_ret (pe_call G_price_and_cells (hr.mono (by decide)) rfl T.m_price_and_cells T.kp_price_and_cells T.bd_price_and_cells .nil pass0 (pa_cons (pv 0) (pa_cons (pe_call G_first_cheapest (hr.mono (by decide)) rfl T.m_first_cheapest T.kp_first_cheapest T.bd_first_cheapest .nil pass0 (pa_cons (pv 0) (pa_cons (pv 3) pa_nil))) pa_nil)))))))), ?_⟩
    refine ⟨_, rfl, na, [o], 0, 1, rfl, SqL.of I.num, (by show 1 ≤ 100; decide), fun H1 s1 => ⟨_, rfl, ?_⟩⟩
    refine itb (!decide (0 ≤ o ∧ o ≤ 1)) (by simp) (fun c => ?_) (fun c => ?_)
    · rw [withNum_no (of_decide_eq_false (not_t c))] at k
      exact ⟨(by show 1 ≤ sizeLine; decide), fun x hx => k.list I.rs s1 hx⟩
    · have c' := of_decide_eq_true (not_f c)
      rw [withNum_yes c'] at k
      obtain ⟨one, rfl⟩ : ∃ n : Nat, o = (n : Int) := ⟨o.toNat, by omega⟩
      rw [Int.toNat_natCast] at k
      refine ⟨_, rfl, _, rfl, na, _, _, _, rfl, rfl, SqL.of (s1 _ _ I.num), at_of (j := 0) rfl rfl, p, m, st.need, L, one, rfl, Lm.same s1, fun lf H2 hlf s2 h2 => ?_⟩
      rw [askedL_fits] at h2
      refine ⟨_, rfl, lf, _, rfl, .inl (SqL.of h2), rfl, _, rfl, ?_⟩
      rw [len_nil]
      have s12 := s1.trans s2
      cases hF : (Vbecao.sets m).filter (Vbecao.passes m st.need (one == 1)) with
      | nil =>
        have e : Vbecao.best m st.need (one == 1) = none := cheapest_none fun s hs => by
          have := List.filter_eq_nil_iff.mp hF s hs
          simpa using this
        rw [e] at k
        exact iteT ⟨(by show 1 ≤ sizeLine; decide), fun x hx => k.list I.rs s12 hx⟩
      | cons x r =>
        have e : Vbecao.best m st.need (one == 1) = some (cheapL m x (x :: r)) := cheapest_filter hF
        rw [e] at k
        rw [hF] at h2
        have hlt : ∀ s ∈ x :: r, s < 2 ^ m.size := fun s hs => sets_iff.mp (List.mem_filter.mp (by rw [hF]; exact hs)).1
        have tlt : cheapL m x (x :: r) < 2 ^ m.size := by
          rcases cheapL_mem (m := m) (x := x) (x :: r) with z | z
          · rw [z]; exact hlt x (by simp)
          · exact hlt _ z
        refine iteF ⟨_, rfl, _, rfl, _, rfl, p, m, st.need, L, lf, x, r, rfl, Lm.same s12, SqL.of h2, hlt, fun H3 s3 => ?_⟩
        refine ⟨p, m, st.need, L, _, rfl, Lm.same (s12.trans s3), tlt, fun y H4 hy s4 h4 => ?_⟩
        exact CallOut.stay (out := (Vbecao.price m (cheapL m x (x :: r)) : Int) :: Vbecao.ints (members m (cheapL m x (x :: r)))) k I.rs ((s12.trans s3).trans s4) ((s12.trans s3).free hy) h4
theorem ok_call_number (T : Txt K mg A) : FnOk P w K mg base CX0 4 A.f_call_number A.fd_call_number ["reserve", "numbers", "lists"] (sp_call A.c_Reserve 7 1 0) := by
  have G_all_within := ok_all_within (P := P) (w := w) (base := base) T
  have G_fitting_sets := ok_fitting_sets (P := P) (w := w) (base := base) T
  refine T.fn_call_number.ok sc_call_number (fun vs H Q E h => ?_) (fun cdv Ar outer s H vs Q E hr h => ?_)
  · obtain ⟨p, na, la, st, L, nums, ls, las, rfl, _⟩ := h
    rfl
  · obtain ⟨p, na, la, st, L, nums, ls, las, rfl, I, hland, hn, hl, k⟩ := h
    obtain rfl : ls = [] := List.length_eq_zero_iff.mp hl
    obtain ⟨o, rfl⟩ := one_of hn
    obtain ⟨m, hm⟩ := Option.isSome_iff_exists.mp (hland (by decide))
    have Lm := I.rs.land hm
    have e0 : Vbecao.step st ((7 :: [o]) :: []) = Vbecao.withNum st o 0 1 fun o => (st, [(((Vbecao.sets m).filter (Vbecao.passes m st.need (o == 1))).length : Int)]) := withLand_eq hm
    rw [e0] at k
    refine ⟨_, (pss_cons (ps_if (pt_not (pt_val (pe_call G_all_within (hr.mono (by decide)) rfl T.m_all_within T.kp_all_within T.bd_all_within .nil pass0 (pa_cons (pv 1) (pa_cons pe_int (pa_cons pe_int pa_nil))))))
        (pss_one (ps_ret (pe_lst (pa_cons (pe_glob (v := .int (-3)) rfl T.g_NUMBER_OUT ⟨_, rfl⟩) pa_nil))))
        pss_nil)
      (pss_one (ps_ret (pe_lst (pa_cons (pe_callB call_len_seq (by rfl) T.b_len PySem.boot_len (pa_cons (pe_call G_fitting_sets (hr.mono (by decide)) rfl T.m_fitting_sets T.kp_fitting_sets T.bd_fitting_sets .nil pass0 (pa_cons (pv 0) (pa_cons (pe_ix ix_list (pv 1) pe_int (fun _ _ => rfl)) pa_nil))) pa_nil)) pa_nil))))), ?_⟩
    refine ⟨_, rfl, na, [o], 0, 1, rfl, SqL.of I.num, (by show 1 ≤ 100; decide), fun H1 s1 => ⟨_, rfl, ?_⟩⟩
    refine itb (!decide (0 ≤ o ∧ o ≤ 1)) (by simp) (fun c => ?_) (fun c => ?_)
    · rw [withNum_no (of_decide_eq_false (not_t c))] at k
      exact ⟨(by show 1 ≤ sizeLine; decide), fun x hx => k.list I.rs s1 hx⟩
    · have c' := of_decide_eq_true (not_f c)
      rw [withNum_yes c'] at k
      obtain ⟨one, rfl⟩ : ∃ n : Nat, o = (n : Int) := ⟨o.toNat, by omega⟩
      rw [Int.toNat_natCast] at k
      refine ⟨_, rfl, _, rfl, na, _, _, _, rfl, rfl, SqL.of (s1 _ _ I.num), at_of (j := 0) rfl rfl, p, m, st.need, L, one, rfl, Lm.same s1, fun lf H2 hlf s2 h2 => ?_⟩
      rw [askedL_fits] at h2
      refine ⟨lf, _, rfl, .inl (SqL.of h2), (by show 1 ≤ sizeLine; decide), fun x hx => ?_⟩
      rw [List.length_map]
      exact k.list I.rs (s1.trans s2) hx
theorem ok_call_must (T : Txt K mg A) : FnOk P w K mg base CX0 4 A.f_call_must A.fd_call_must ["reserve", "numbers", "lists"] (sp_call A.c_Reserve 8 0 0) := by
  have G_fitting_sets := ok_fitting_sets (P := P) (w := w) (base := base) T
  have G_cells_of := ok_cells_of (P := P) (w := w) (base := base) T
  refine T.fn_call_must.ok sc_call_must (fun vs H Q E h => ?_) (fun cdv Ar outer s H vs Q E hr h => ?_)
  · obtain ⟨p, na, la, st, L, nums, ls, las, rfl, _⟩ := h
    rfl
  · obtain ⟨p, na, la, st, L, nums, ls, las, rfl, I, hland, hn, hl, k⟩ := h
    obtain rfl : ls = [] := List.length_eq_zero_iff.mp hl
    obtain rfl : nums = [] := List.length_eq_zero_iff.mp hn
    obtain ⟨m, hm⟩ := Option.isSome_iff_exists.mp (hland (by decide))
    have Lm := I.rs.land hm
    have e0 : Vbecao.step st ((8 :: []) :: []) = if Vbecao.fits m st.need (2 ^ m.size - 1) = false then Vbecao.bad st (-6) else (st, 0 :: Vbecao.ints ((Vbecao.cells m).filter fun c => ((Vbecao.sets m).filter (Vbecao.fits m st.need)).all fun t => Vbecao.isIn t c)) := withLand_eq hm
    rw [e0] at k
    refine ⟨_, (pss_cons (ps_set (i := 3) sc_call_must.nd rfl (Or.inl rfl) (pe_call G_fitting_sets (hr.mono (by decide)) rfl T.m_fitting_sets T.kp_fitting_sets T.bd_fitting_sets .nil pass0 (pa_cons (pv 0) (pa_cons pe_int pa_nil))))
      (pss_cons (ps_if (pt_cmpR op_eq (pe_callB call_len_seq (by rfl) T.b_len PySem.boot_len (pa_cons (pv 3) pa_nil)) pe_int (nomark _))
        (pss_one (ps_ret (pe_lst (pa_cons (pe_glob (v := .int (-6)) rfl T.g_NONE_FITS ⟨_, rfl⟩) pa_nil))))
        pss_nil)
      (pss_cons (ps_set (i := 4) sc_call_must.nd rfl (Or.inl rfl) (pe_ix ix_list (pv 3) pe_int (fun _ _ => rfl)))
      (pss_cons (ps_for PassesOwn.never rfl (pi_list (pv 3)) (pg_name (i := 5) sc_call_must.nd rfl (Or.inl rfl))
        (pss_one (ps_set (i := 4) sc_call_must.nd rfl (Or.inl rfl) (pe_op op_and (pv 4) (pv 5)))))
      (pss_one (ps_ret (pe_op op_cat (pe_lst (pa_cons pe_int pa_nil)) (pe_call G_cells_of (hr.mono (by decide)) rfl T.m_cells_of T.kp_cells_of T.bd_cells_of .nil pass0 (pa_cons (pv 4) pa_nil))))))))), ?_⟩
    refine ⟨_, rfl, p, m, st.need, L, 0, rfl, Lm, fun lf H2 hlf s2 h2 => ?_⟩
    rw [show (0 == 1) = false from rfl, asked_all] at h2
    refine ⟨_, rfl, lf, _, rfl, .inl (SqL.of h2), rfl, _, rfl, ?_⟩
    rw [len_nil]
    cases hF : (Vbecao.sets m).filter (Vbecao.fits m st.need) with
    | nil =>
      rw [if_pos (none_fits.mp hF)] at k
      exact iteT ⟨(by show 1 ≤ sizeLine; decide), fun x hx => CallOut.list (out := [-6]) k I.rs s2 hx⟩
    | cons x r =>
      rw [if_neg (fun z => by rw [none_fits.mpr z] at hF; cases hF), ← must_cells Lm.ok.snd hF] at k
      rw [hF] at h2
      refine iteF ?_
      refine ⟨_, rfl, lf, _, _, _, rfl, rfl, SqL.of h2, atI_nat (j := 0) (nv_at (ns := x :: r) (i := 0) (n := x) rfl), ?_⟩
      refine ⟨_, rfl, lf, rfl, ⟨_, SqL.of h2⟩, for_list (K := K) (a := lf) (xs := nv (x :: r)) (fun i σ H' => ∃ v5 : Option V, σ = [some (.ref p), some (.ref na), some (.ref la), some (.ref lf), some (.int ((andAll x ((x :: r).take i) : Nat) : Int)), v5] ∧ H' = H2)
        ⟨none, rfl, rfl⟩ (fun i σ H' _ zz => by obtain ⟨_, _, e⟩ := zz; subst e; exact SqL.of h2) ?_ ?_⟩
      · rintro i y σ H' hi ⟨v5, rfl, rfl⟩
        obtain ⟨z, hz, rfl⟩ := nv_get hi
        refine ⟨_, rfl, _, rfl, _, _, rfl, rfl, some (.int (z : Int)), ?_, rfl⟩
        rw [take_snoc hz, andAll_snoc, ← band_nat]
        rfl
      · rintro σ H' ⟨v5, rfl, rfl⟩
        have e : (nv (x :: r)).length = (x :: r).length := List.length_map ..
        rw [e, List.take_length]
        refine ⟨(by show 1 ≤ sizeLine; decide), fun x1 hx1 => ?_⟩
        refine ⟨_, rfl, _, rfl, fun y H5 hy s5 h5' => ?_⟩
        refine ⟨x1, y, _, _, rfl, rfl, s5 _ _ upd_same, h5', ?_, fun z hz => ?_⟩
        · rw [List.length_map, sizeLine_eq]
          have := List.length_filter_le (fun c => (andAll x (x :: r)).testBit c) (List.range 12)
          rw [List.length_range] at this
          unfold cellsOf
          show 1 + _ ≤ _
          omega
        · rw [nv_iv]
          exact CallOut.list (out := 0 :: Vbecao.ints (cellsOf (andAll x (x :: r)))) k I.rs ((s2.trans (same_new hx1)).trans s5) hz
end
end Lr
end
section
set_option Elab.async false
set_option linter.all false
set_option maxRecDepth 100000
set_option maxHeartbeats 2000000
namespace Lr
open PySem PySem.Spec PyProof.Rows L2
open Vbecao (Land numberOf members)
theorem corr_ne {m : Land} (hw : 0 < m.w) {e : Nat} (he : e < 2 ^ m.size) : (Vbecao.sets m).filter (fun t => Vbecao.within e t && Vbecao.joined m t) ≠ [] := by
  refine List.ne_nil_of_mem (a := 2 ^ m.size - 1) (List.mem_filter.mpr ⟨sets_iff.mpr (by have := Nat.two_pow_pos m.size; omega), ?_⟩)
  rw [full_joined hw, Bool.and_true]
  exact within_iff.mpr fun a ha => by rw [full_bit]; exact decide_eq_true (bit_lt he ha)
section
variable {P : Program} {w : World} {K : PySem.W.Frag} {mg : Str → Option Value} {base : Heap} {A : Ad}
theorem ok_call_corridor (T : Txt K mg A) : FnOk P w K mg base CX0 4 A.f_call_corridor A.fd_call_corridor ["reserve", "numbers", "lists"] (sp_call A.c_Reserve 9 0 1) := by
  have G_is_told_set := ok_is_told_set (P := P) (w := w) (base := base) T
  have G_set_of := ok_set_of (P := P) (w := w) (base := base) T
  have G_sets_in_one_piece := ok_sets_in_one_piece (P := P) (w := w) (base := base) T
  have G_first_cheapest := ok_first_cheapest (P := P) (w := w) (base := base) T
  have G_price_and_cells := ok_price_and_cells (P := P) (w := w) (base := base) T
  refine T.fn_call_corridor.ok sc_call_corridor (fun vs H Q E h => ?_) (fun cdv Ar outer s H vs Q E hr h => ?_)
  · obtain ⟨p, na, la, st, L, nums, ls, las, rfl, _⟩ := h
    rfl
  · obtain ⟨p, na, la, st, L, nums, ls, las, rfl, I, hland, hn, hl, k⟩ := h
    obtain ⟨l, rfl⟩ := one_of hl
    obtain rfl : nums = [] := List.length_eq_zero_iff.mp hn
    obtain ⟨q0, rfl⟩ := one_of I.len
    obtain ⟨q, hq, hq0⟩ := I.its 0 l rfl
    obtain rfl : q0 = q := by simpa using hq
    obtain ⟨m, hm⟩ := Option.isSome_iff_exists.mp (hland (by decide))
    have Lm := I.rs.land hm
    have hs := I.short l (by simp)
    have sz := Lm.ok.snd.sz
    have p2 : 2 ^ m.size ≤ 4096 := Nat.pow_le_pow_right (n := 2) (by decide) sz
    have e0 : Vbecao.step st ((9 :: []) :: [l]) = Vbecao.withSet st m l fun t => Vbecao.tell st m (Vbecao.corridor m t) := withLand_eq hm
    rw [e0] at k
    refine ⟨_, (pss_cons (ps_if (pt_not (pt_val (pe_call G_is_told_set (hr.mono (by decide)) rfl T.m_is_told_set T.kp_is_told_set T.bd_is_told_set .nil pass0 (pa_cons (pv 0) (pa_cons (pe_ix ix_list (pv 2) pe_int (fun _ _ => rfl)) pa_nil)))))
        (pss_one (ps_ret (pe_lst (pa_cons (pe_glob (v := .int (-4)) rfl T.g_LIST_OUT ⟨_, rfl⟩) pa_nil))))
        pss_nil)
      (pss_cons (ps_set (i := 3) sc_call_corridor.nd rfl (Or.inr rfl) (pe_call G_set_of (hr.mono (by decide)) rfl T.m_set_of T.kp_set_of T.bd_set_of .nil pass0 (pa_cons (pe_ix ix_list (pv 2) pe_int (fun _ _ => rfl)) pa_nil)))
      (pss_cons (ps_setLc (i := 4) rfl sc_call_corridor.nd rfl rfl (sw_true rfl rfl rfl rfl) (pi_list (pe_call G_sets_in_one_piece (hr.mono (by decide)) rfl T.m_sets_in_one_piece T.kp_sets_in_one_piece T.bd_sets_in_one_piece .nil pass0 (pa_cons (pe_fld (pv 0) rfl) pa_nil))) (blkOk_by (own := [("members", 5)]) (by show blkC ["reserve", "numbers", "lists", "ends", "corridors", "members"] (defScope s_call_corridor) _ _ = true; decide +kernel))
        (fun _ _ _ _ _ => (pg_name (i := 5) sc_call_corridor.nd rfl (Or.inl rfl))) (fun _ _ _ _ _ => (pts_one (pt_cmpR op_eq (pe_op op_and (pv 5) (pv 3)) (pv 3) (nomark _)))) (fun _ _ _ _ _ => (pv 5)))
      (pss_one (ps_ret (pe_call G_price_and_cells (hr.mono (by decide)) rfl T.m_price_and_cells T.kp_price_and_cells T.bd_price_and_cells .nil pass0 (pa_cons (pv 0) (pa_cons (pe_call G_first_cheapest (hr.mono (by decide)) rfl T.m_first_cheapest T.kp_first_cheapest T.bd_first_cheapest .nil pass0 (pa_cons (pv 0) (pa_cons (pv 4) pa_nil))) pa_nil)))))))), ?_⟩
    refine ⟨_, rfl, _, rfl, la, _, _, _, rfl, rfl, SqL.of I.lst, at_of (j := 0) rfl rfl, p, m, st.need, L, q0, l, rfl, Lm, SqL.of hq0, by omega, fun H1 s1 => ⟨_, rfl, ?_⟩⟩
    refine itb (!(decide (l.length ≤ 24) && l.all fun x => decide (0 ≤ x ∧ x ≤ (m.size : Int) - 1))) rfl (fun c => ?_) (fun c => ?_)
    · rw [withSet_no (not_t c)] at k
      exact ⟨(by show 1 ≤ sizeLine; decide), fun x hx => k.list I.rs s1 hx⟩
    · have c' : (decide (l.length ≤ 24) && l.all fun x => decide (0 ≤ x ∧ x ≤ (m.size : Int) - 1)) = true := not_f c
      rw [withSet_yes c'] at k
      have c2 := c'
      rw [Bool.and_eq_true] at c2
      have tn := told_nv c2.2
      have elt := told_lt c'
      refine ⟨_, rfl, la, _, _, _, rfl, rfl, SqL.of (s1 _ _ I.lst), at_of (j := 0) rfl rfl, q0, _, rfl, SqL.of (by rw [← tn.1]; exact s1 _ _ hq0), fun n hn => (by have := tn.2 n hn; omega), fun H2 s2 => ?_⟩
      generalize numberOf (l.map Int.toNat) = e at *
      have s12 := s1.trans s2
      obtain ⟨dx, pa, ka, ba, na', eL, h1, h2, h3, h4, h5⟩ := (Lm.same s12).ex
      refine ⟨_, rfl, p, _, dx, _, _, rfl, h1, T.cl_Reserve, T.na_Reserve_beside, rs_beside, ba, m, rfl, SqL.of h4, Lm.ok, fun lj H3 hlj s3 h33 => ?_⟩
      have s13 := s12.trans s3
      refine ⟨lj, rfl, ⟨_, SqL.of h33⟩, fun D hD => lc_list_same (K := K) (a := lj) (xs := nv (askedL m true)) (i := 5) (fun v => match v with | .int x => Vbecao.within e x.toNat | _ => false) (fun v => v) (SqL.of h33) hD ?_ ?_ ?_ ?_⟩
      · rw [List.length_map, sizeLine_eq]
        have := asked_len m true
        omega
      · intro x hx H6 s6 R kR
        obtain ⟨z, hz, rfl⟩ := List.mem_map.mp hx
        refine ⟨_, rfl, _, rfl, _, _, rfl, rfl, _, rfl, rfl, _, rfl, ?_⟩
        have e2 : decide (V.int (Builtin.bitAnd (z : Int) (e : Int)) = V.int (e : Int)) = Vbecao.within e z := by
          unfold Vbecao.within
          rw [band_nat, dec_int, Bool.eq_iff_iff, Nat.and_comm]
          simp
          omega
        have kk := kR _ (Same.refl _)
        dsimp only at kk
        rw [Int.toNat_natCast, ← e2] at kk
        exact kk
      · intro x hx hb H6 s6 R kR
        exact ⟨_, rfl, kR _ (Same.refl _)⟩
      · intro H4 s4 hD4
        have s14 := s13.trans s4
        have hF0 : H4 D = some (.lst (nv ((Vbecao.sets m).filter fun t => Vbecao.within e t && Vbecao.joined m t))) := by
          rw [hD4, List.map_id', List.filter_map]
          congr 3
          unfold askedL
          rw [List.filter_filter]
          rfl
        cases hF : (Vbecao.sets m).filter (fun t => Vbecao.within e t && Vbecao.joined m t) with
        | nil => exact absurd hF (corr_ne Lm.ok.snd.w1 elt)
        | cons x r =>
          have ec : Vbecao.corridor m e = some (cheapL m x (x :: r)) := cheapest_filter hF
          rw [ec] at k
          rw [hF] at hF0
          have hlt : ∀ s ∈ x :: r, s < 2 ^ m.size := fun s hs => sets_iff.mp (List.mem_filter.mp (by rw [hF]; exact hs)).1
          have tlt : cheapL m x (x :: r) < 2 ^ m.size := by
            rcases cheapL_mem (m := m) (x := x) (x :: r) with z | z
            · rw [z]; exact hlt x (by simp)
            · exact hlt _ z
          refine ⟨_, rfl, _, rfl, _, rfl, p, m, st.need, L, D, x, r, rfl, Lm.same s14, SqL.of hF0, hlt, fun H5 s5 => ?_⟩
          refine ⟨p, m, st.need, L, _, rfl, Lm.same (s14.trans s5), tlt, fun y H6 hy s6 h6 => ?_⟩
          exact CallOut.stay (out := (Vbecao.price m (cheapL m x (x :: r)) : Int) :: Vbecao.ints (members m (cheapL m x (x :: r)))) k I.rs ((s14.trans s5).trans s6) ((s14.trans s5).free hy) h6
theorem ok_call_way (T : Txt K mg A) : FnOk P w K mg base CX0 3 A.f_call_way A.fd_call_way ["reserve", "numbers", "lists"] (sp_call A.c_Reserve 10 2 0) := by
  have G_all_within := ok_all_within (P := P) (w := w) (base := base) T
  have G_least_way := ok_least_way (P := P) (w := w) (base := base) T
  refine T.fn_call_way.ok sc_call_way (fun vs H Q E h => ?_) (fun cdv Ar outer s H vs Q E hr h => ?_)
  · obtain ⟨p, na, la, st, L, nums, ls, las, rfl, _⟩ := h
    rfl
  · obtain ⟨p, na, la, st, L, nums, ls, las, rfl, I, hland, hn, hl, k⟩ := h
    obtain rfl : ls = [] := List.length_eq_zero_iff.mp hl
    obtain ⟨a, b, rfl⟩ := two_of hn
    obtain ⟨m, hm⟩ := Option.isSome_iff_exists.mp (hland (by decide))
    have Lm := I.rs.land hm
    have pl := Lm.ok.snd.pl
    have e0 : Vbecao.step st ((10 :: [a, b]) :: []) = Vbecao.withNum st a 0 ((m.size : Int) - 1) fun a => Vbecao.withNum st b 0 ((m.size : Int) - 1) fun b => match Vbecao.way m a b with
      | none => Vbecao.bad st (-6)
      | some p => (st, [(p : Int)]) := withLand_eq hm
    rw [e0] at k
    obtain ⟨dx, pa, ka, ba, na', eL, h1, h2, h3, h4, h5⟩ := Lm.ex
    refine ⟨_, (pss_cons (ps_if (pt_not (pt_val (pe_call G_all_within (hr.mono (by decide)) rfl T.m_all_within T.kp_all_within T.bd_all_within .nil pass0 (pa_cons (pv 1) (pa_cons pe_int (pa_cons (pe_op op_sub (pe_callB call_len_seq (by rfl) T.b_len PySem.boot_len (pa_cons (pe_fld (pv 0) rfl) pa_nil)) pe_int) pa_nil))))))
        (pss_one (ps_ret (pe_lst (pa_cons (pe_glob (v := .int (-3)) rfl T.g_NUMBER_OUT ⟨_, rfl⟩) pa_nil))))
        pss_nil)
      (pss_one (ps_ret (pe_lst (pa_cons (pe_call G_least_way (hr.mono (by decide)) rfl T.m_least_way T.kp_least_way T.bd_least_way .nil pass0 (pa_cons (pv 0) (pa_cons (pe_ix ix_list (pv 1) pe_int (fun _ _ => rfl)) (pa_cons (pe_ix ix_list (pv 1) pe_int (fun _ _ => rfl)) pa_nil)))) pa_nil))))), ?_⟩
    refine ⟨_, rfl, _, rfl, p, _, dx, _, _, rfl, h1, T.cl_Reserve, T.na_Reserve_prices, rs_prices, pa, _, rfl, .inl (SqL.of h2), _, _, rfl, rfl, na, [a, b], 0, _, rfl, SqL.of I.num, (by show 2 ≤ 100; decide), fun H1 s1 => ⟨_, rfl, ?_⟩⟩
    rw [List.length_map, pl]
    refine itb (!(decide (0 ≤ a ∧ a ≤ (m.size : Int) - 1) && decide (0 ≤ b ∧ b ≤ (m.size : Int) - 1))) (by simp) (fun c => ?_) (fun c => ?_)
    · have kk : CallOut A.c_Reserve H p L las Q (st, [-3]) := by
        have c' := not_t c
        by_cases d1 : 0 ≤ a ∧ a ≤ (m.size : Int) - 1
        · rw [withNum_yes d1] at k
          rw [decide_eq_true d1, Bool.true_and] at c'
          rw [withNum_no (of_decide_eq_false c')] at k
          exact k
        · rw [withNum_no d1] at k
          exact k
      exact ⟨(by show 1 ≤ sizeLine; decide), fun x hx => kk.list I.rs s1 hx⟩
    · have c' := not_f c
      rw [Bool.and_eq_true, decide_eq_true_eq, decide_eq_true_eq] at c'
      obtain ⟨d1, d2⟩ := c'
      rw [withNum_yes d1, withNum_yes d2] at k
      obtain ⟨a, rfl⟩ : ∃ n : Nat, a = (n : Int) := ⟨a.toNat, by omega⟩
      obtain ⟨b, rfl⟩ : ∃ n : Nat, b = (n : Int) := ⟨b.toNat, by omega⟩
      rw [Int.toNat_natCast, Int.toNat_natCast] at k
      refine ⟨_, rfl, _, rfl, na, _, _, _, rfl, rfl, SqL.of (s1 _ _ I.num), at_of (j := 0) rfl rfl, _, rfl, na, _, _, _, rfl, rfl, SqL.of (s1 _ _ I.num), at_of (j := 1) rfl rfl, p, m, st.need, L, a, b, rfl, Lm.same s1, by omega, by omega, fun x hx H2 s2 => ?_⟩
      rw [hx] at k
      exact ⟨(by show 1 ≤ sizeLine; decide), fun y hy => CallOut.list (out := [(x : Int)]) k I.rs (s1.trans s2) hy⟩
theorem ok_call_hardy (T : Txt K mg A) : FnOk P w K mg base CX0 4 A.f_call_hardy A.fd_call_hardy ["reserve", "numbers", "lists"] (sp_call A.c_Reserve 12 1 1) := by
  have G_all_within := ok_all_within (P := P) (w := w) (base := base) T
  have G_is_told_set := ok_is_told_set (P := P) (w := w) (base := base) T
  have G_set_of := ok_set_of (P := P) (w := w) (base := base) T
  have G_fits_without := ok_fits_without (P := P) (w := w) (base := base) T
  refine T.fn_call_hardy.ok sc_call_hardy (fun vs H Q E h => ?_) (fun cdv Ar outer s H vs Q E hr h => ?_)
  · obtain ⟨p, na, la, st, L, nums, ls, las, rfl, _⟩ := h
    rfl
  · obtain ⟨p, na, la, st, L, nums, ls, las, rfl, I, hland, hn, hl, k⟩ := h
    obtain ⟨l, rfl⟩ := one_of hl
    obtain ⟨lo, rfl⟩ := one_of hn
    obtain ⟨q0, rfl⟩ := one_of I.len
    obtain ⟨q, hq, hq0⟩ := I.its 0 l rfl
    obtain rfl : q0 = q := by simpa using hq
    obtain ⟨m, hm⟩ := Option.isSome_iff_exists.mp (hland (by decide))
    have Lm := I.rs.land hm
    have hs := I.short l (by simp)
    have sz := Lm.ok.snd.sz
    have e0 : Vbecao.step st ((12 :: [lo]) :: [l]) = Vbecao.withNum st lo 0 12 fun r => Vbecao.withSet st m l fun t => (st, [if Vbecao.hardy m st.need r t = true then 1 else 0]) := withLand_eq hm
    rw [e0] at k
    refine ⟨_, (pss_cons (ps_if (pt_not (pt_val (pe_call G_all_within (hr.mono (by decide)) rfl T.m_all_within T.kp_all_within T.bd_all_within .nil pass0 (pa_cons (pv 1) (pa_cons pe_int (pa_cons (pe_glob (v := .int (12)) rfl T.g_MOST_LOST ⟨_, rfl⟩) pa_nil))))))
        (pss_one (ps_ret (pe_lst (pa_cons (pe_glob (v := .int (-3)) rfl T.g_NUMBER_OUT ⟨_, rfl⟩) pa_nil))))
        pss_nil)
      (pss_cons (ps_if (pt_not (pt_val (pe_call G_is_told_set (hr.mono (by decide)) rfl T.m_is_told_set T.kp_is_told_set T.bd_is_told_set .nil pass0 (pa_cons (pv 0) (pa_cons (pe_ix ix_list (pv 2) pe_int (fun _ _ => rfl)) pa_nil)))))
        (pss_one (ps_ret (pe_lst (pa_cons (pe_glob (v := .int (-4)) rfl T.g_LIST_OUT ⟨_, rfl⟩) pa_nil))))
        pss_nil)
      (pss_one (ps_ret (pe_lst (pa_cons (pe_ifExp (pt_val (pe_call G_fits_without (hr.mono (by decide)) rfl T.m_fits_without T.kp_fits_without T.bd_fits_without .nil pass0 (pa_cons (pv 0) (pa_cons (pe_ix ix_list (pv 1) pe_int (fun _ _ => rfl)) (pa_cons (pe_call G_set_of (hr.mono (by decide)) rfl T.m_set_of T.kp_set_of T.bd_set_of .nil pass0 (pa_cons (pe_ix ix_list (pv 2) pe_int (fun _ _ => rfl)) pa_nil)) pa_nil))))) pe_int pe_int) pa_nil)))))), ?_⟩
    refine ⟨_, rfl, na, [lo], 0, 12, rfl, SqL.of I.num, (by show 1 ≤ 100; decide), fun H0 s0 => ⟨_, rfl, ?_⟩⟩
    refine itb (!decide (0 ≤ lo ∧ lo ≤ 12)) (by simp) (fun c => ?_) (fun c => ?_)
    · rw [withNum_no (of_decide_eq_false (not_t c))] at k
      exact ⟨(by show 1 ≤ sizeLine; decide), fun x hx => k.list I.rs s0 hx⟩
    have c0 := of_decide_eq_true (not_f c)
    rw [withNum_yes c0] at k
    obtain ⟨lo, rfl⟩ : ∃ n : Nat, lo = (n : Int) := ⟨lo.toNat, by omega⟩
    rw [Int.toNat_natCast] at k
    refine ⟨_, rfl, _, rfl, la, _, _, _, rfl, rfl, SqL.of (s0 _ _ I.lst), at_of (j := 0) rfl rfl, p, m, st.need, L, q0, l, rfl, Lm.same s0, SqL.of (s0 _ _ hq0), by omega, fun H1 s01 => ⟨_, rfl, ?_⟩⟩
    have s1 := s0.trans s01
    refine itb (!(decide (l.length ≤ 24) && l.all fun x => decide (0 ≤ x ∧ x ≤ (m.size : Int) - 1))) rfl (fun c => ?_) (fun c => ?_)
    · rw [withSet_no (not_t c)] at k
      exact ⟨(by show 1 ≤ sizeLine; decide), fun x hx => k.list I.rs s1 hx⟩
    · have c' : (decide (l.length ≤ 24) && l.all fun x => decide (0 ≤ x ∧ x ≤ (m.size : Int) - 1)) = true := not_f c
      rw [withSet_yes c'] at k
      have c2 := c'
      rw [Bool.and_eq_true] at c2
      have tn := told_nv c2.2
      refine ⟨_, rfl, _, rfl, na, _, _, _, rfl, rfl, SqL.of (s1 _ _ I.num), at_of (j := 0) rfl rfl, _, rfl, la, _, _, _, rfl, rfl, SqL.of (s1 _ _ I.lst), at_of (j := 0) rfl rfl, q0, _, rfl, SqL.of (by rw [← tn.1]; exact s1 _ _ hq0), fun n hn => (by have := tn.2 n hn; omega), fun H2 s2 => ?_⟩
      refine ⟨p, m, st.need, L, lo, numberOf (l.map Int.toNat), rfl, Lm.same (s1.trans s2), told_lt c', fun H3 s3 => ⟨_, rfl, ?_⟩⟩
      rw [fitsW_hardy]
      have s4 : Same H H3 := (s1.trans s2).trans s3
      refine itb _ rfl (fun c3 => ?_) (fun c3 => ?_)
      · rw [if_pos c3] at k
        exact ⟨(by show 1 ≤ sizeLine; decide), fun x hx => k.list I.rs s4 hx⟩
      · rw [if_neg (by rw [c3]; decide)] at k
        exact ⟨(by show 1 ≤ sizeLine; decide), fun x hx => k.list I.rs s4 hx⟩
end
end Lr
end
section
set_option Elab.async false
set_option linter.all false
set_option maxRecDepth 100000
set_option maxHeartbeats 2000000
namespace Lr
open PySem PySem.Spec PyProof.Rows L2
open Vbecao (Land numberOf members)
section
variable {P : Program} {w : World} {K : PySem.W.Frag} {mg : Str → Option Value} {base : Heap} {A : Ad}
theorem ok_call_bound (T : Txt K mg A) : FnOk P w K mg base CX0 4 A.f_call_bound A.fd_call_bound ["reserve", "numbers", "lists"] (sp_call A.c_Reserve 11 1 2) := by
  have G_all_within := ok_all_within (P := P) (w := w) (base := base) T
  have G_is_list_of := ok_is_list_of (P := P) (w := w) (base := base) T
  have G_is_proof := ok_is_proof (P := P) (w := w) (base := base) T
  have G_bound_of := ok_bound_of (P := P) (w := w) (base := base) T
  refine T.fn_call_bound.ok sc_call_bound (fun vs H Q E h => ?_) (fun cdv Ar outer s H vs Q E hr h => ?_)
  · obtain ⟨p, na, la, st, L, nums, ls, las, rfl, _⟩ := h
    rfl
  · obtain ⟨p, na, la, st, L, nums, ls, las, rfl, I, hland, hn, hl, k⟩ := h
    obtain ⟨d, rfl⟩ := one_of hn
    obtain ⟨ly, lz, rfl⟩ := two_of hl
    obtain ⟨q0, q1, rfl⟩ := two_of I.len
    obtain ⟨q, hq, hq0⟩ := I.its 0 ly rfl
    obtain rfl : q0 = q := by simpa using hq
    obtain ⟨q, hq, hq1⟩ := I.its 1 lz rfl
    obtain rfl : q1 = q := by simpa using hq
    have hsy := I.short ly (by simp)
    have hsz := I.short lz (by simp)
    obtain ⟨m, hm⟩ := Option.isSome_iff_exists.mp (hland (by decide))
    have Lm := I.rs.land hm
    have pl := Lm.ok.snd.pl
    have e0 : Vbecao.step st ((11 :: [d]) :: [ly, lz]) = Vbecao.withNum st d 1 1000 fun d => Vbecao.withList st 8 8 1000000 ly fun y => Vbecao.withList st m.size m.size 10000000 lz fun z =>
      if Vbecao.shown m d y z = true then (st, [1, (Vbecao.bound m st.need d y z : Int)]) else (st, [0]) := withLand_eq hm
    rw [e0] at k
    refine ⟨_, (pss_cons (ps_set (i := 3) sc_call_bound.nd rfl (Or.inl rfl) (pe_ix ix_list (pv 1) pe_int (fun _ _ => rfl)))
      (pss_cons (ps_set (i := 4) sc_call_bound.nd rfl (Or.inl rfl) (pe_ix ix_list (pv 2) pe_int (fun _ _ => rfl)))
      (pss_cons (ps_set (i := 5) sc_call_bound.nd rfl (Or.inl rfl) (pe_ix ix_list (pv 2) pe_int (fun _ _ => rfl)))
      (pss_cons (ps_if (pt_not (pt_val (pe_call G_all_within (hr.mono (by decide)) rfl T.m_all_within T.kp_all_within T.bd_all_within .nil pass0 (pa_cons (pv 1) (pa_cons pe_int (pa_cons (pe_glob (v := .int (1000)) rfl T.g_MOST_DIVISOR ⟨_, rfl⟩) pa_nil))))))
        (pss_one (ps_ret (pe_lst (pa_cons (pe_glob (v := .int (-3)) rfl T.g_NUMBER_OUT ⟨_, rfl⟩) pa_nil))))
        pss_nil)
      (pss_cons (ps_if (PW.pt (pw_or (pt_not (pt_val (pe_call G_is_list_of (hr.mono (by decide)) rfl T.m_is_list_of T.kp_is_list_of T.bd_is_list_of .nil pass0 (pa_cons (pv 4) (pa_cons (pe_glob (v := .int (8)) rfl T.g_KINDS ⟨_, rfl⟩) (pa_cons (pe_glob (v := .int (1000000)) rfl T.g_MOST_WORTH ⟨_, rfl⟩) pa_nil)))))) (pw_or1 (pt_not (pt_val (pe_call G_is_list_of (hr.mono (by decide)) rfl T.m_is_list_of T.kp_is_list_of T.bd_is_list_of .nil pass0 (pa_cons (pv 5) (pa_cons (pe_callB call_len_seq (by rfl) T.b_len PySem.boot_len (pa_cons (pe_fld (pv 0) rfl) pa_nil)) (pa_cons (pe_glob (v := .int (10000000)) rfl T.g_MOST_REBATE ⟨_, rfl⟩) pa_nil)))))))))
        (pss_one (ps_ret (pe_lst (pa_cons (pe_glob (v := .int (-4)) rfl T.g_LIST_OUT ⟨_, rfl⟩) pa_nil))))
        pss_nil)
      (pss_cons (ps_if (pt_not (pt_val (pe_call G_is_proof (hr.mono (by decide)) rfl T.m_is_proof T.kp_is_proof T.bd_is_proof .nil pass0 (pa_cons (pv 0) (pa_cons (pv 3) (pa_cons (pv 4) (pa_cons (pv 5) pa_nil)))))))
        (pss_one (ps_ret (pe_lst (pa_cons pe_int pa_nil))))
        pss_nil)
      (pss_one (ps_ret (pe_lst (pa_cons pe_int (pa_cons (pe_call G_bound_of (hr.mono (by decide)) rfl T.m_bound_of T.kp_bound_of T.bd_bound_of .nil pass0 (pa_cons (pv 0) (pa_cons (pv 3) (pa_cons (pv 4) (pa_cons (pv 5) pa_nil))))) pa_nil))))))))))), ?_⟩
    refine seq_gen (fun σ H' => σ = [some (.ref p), some (.ref na), some (.ref la), some (.int d), none, none] ∧ H' = H) (fun R hR => ⟨_, rfl, na, _, _, _, rfl, rfl, SqL.of I.num, at_of (j := 0) rfl rfl, hR _ _ ⟨rfl, rfl⟩⟩) ?_
    rintro σ H' ⟨rfl, rfl⟩
    refine seq_gen (fun σ H1 => σ = [some (.ref p), some (.ref na), some (.ref la), some (.int d), some (.ref q0), none] ∧ H1 = H') (fun R hR => ⟨_, rfl, la, _, _, _, rfl, rfl, SqL.of I.lst, at_of (j := 0) rfl rfl, hR _ _ ⟨rfl, rfl⟩⟩) ?_
    rintro σ H1 ⟨rfl, rfl⟩
    refine seq_gen (fun σ H2 => σ = [some (.ref p), some (.ref na), some (.ref la), some (.int d), some (.ref q0), some (.ref q1)] ∧ H2 = H1) (fun R hR => ⟨_, rfl, la, _, _, _, rfl, rfl, SqL.of I.lst, at_of (j := 1) rfl rfl, hR _ _ ⟨rfl, rfl⟩⟩) ?_
    rintro σ H2 ⟨rfl, rfl⟩
    refine seq_gen (fun σ H1 => σ = [some (.ref p), some (.ref na), some (.ref la), some (.int d), some (.ref q0), some (.ref q1)] ∧ Same H2 H1 ∧ 1 ≤ d ∧ d ≤ 1000) (fun R hR => ?_) ?_
    · refine ⟨_, rfl, na, [d], 1, 1000, rfl, SqL.of I.num, (by show 1 ≤ 100; decide), fun H1 s1 => ⟨_, rfl, ?_⟩⟩
      refine itb (!decide (1 ≤ d ∧ d ≤ 1000)) (by simp) (fun c => ?_) (fun c => ?_)
      · rw [withNum_no (of_decide_eq_false (not_t c))] at k
        exact ⟨(by show 1 ≤ sizeLine; decide), fun x hx => k.list I.rs s1 hx⟩
      · exact hR _ _ ⟨rfl, s1, of_decide_eq_true (not_f c)⟩
    rintro σ H1 ⟨rfl, s1, c0⟩
    rw [withNum_yes c0] at k
    obtain ⟨d, rfl⟩ : ∃ n : Nat, d = (n : Int) := ⟨d.toNat, by omega⟩
    rw [Int.toNat_natCast] at k
    refine seq_gen (fun σ H3 => σ = [some (.ref p), some (.ref na), some (.ref la), some (.int (d : Int)), some (.ref q0), some (.ref q1)] ∧ Same H2 H3 ∧ (decide (ly.length = 8) && ly.all fun x => decide (0 ≤ x ∧ x ≤ 1000000)) = true ∧ (decide (lz.length = m.size) && lz.all fun x => decide (0 ≤ x ∧ x ≤ 10000000)) = true) (fun R hR => ?_) ?_
    · refine ⟨_, rfl, q0, ly, 1000000, 8, rfl, SqL.of (s1 _ _ hq0), by omega, fun H3 s2 => ⟨_, rfl, ?_⟩⟩
      have s12 := s1.trans s2
      refine itb (!(decide (ly.length = 8) && ly.all fun x => decide (0 ≤ x ∧ x ≤ 1000000))) rfl (fun c1 => ?_) (fun c1 => ?_)
      · rw [withList_no (not_t c1)] at k
        exact iteT ⟨(by show 1 ≤ sizeLine; decide), fun x hx => k.list I.rs s12 hx⟩
      have c1' := not_f c1
      rw [withList_yes c1'] at k
      obtain ⟨dx, pa, ka, ba, na', eL, h1, h2, h3, h4, h5⟩ := (Lm.same s12).ex
      refine ⟨_, rfl, _, rfl, p, _, dx, _, _, rfl, h1, T.cl_Reserve, T.na_Reserve_prices, rs_prices, pa, _, rfl, .inl (SqL.of h2), q1, lz, 10000000, m.size, ?_, SqL.of (s12 _ _ hq1), by omega, fun H4 s3 => ⟨_, rfl, ?_⟩⟩
      · show [V.ref q1, V.int (((nv m.prices).length : Nat) : Int), V.int 10000000] = _
        rw [List.length_map, pl]
      have s13 := s12.trans s3
      refine itb (!(decide (lz.length = m.size) && lz.all fun x => decide (0 ≤ x ∧ x ≤ 10000000))) rfl (fun c2 => ?_) (fun c2 => ?_)
      · rw [withList_no (not_t c2)] at k
        exact ⟨(by show 1 ≤ sizeLine; decide), fun x hx => k.list I.rs s13 hx⟩
      · exact hR _ _ ⟨rfl, s13, c1', not_f c2⟩
    rintro σ H3 ⟨rfl, s13, c1', c2'⟩
    rw [withList_yes c1', withList_yes c2'] at k
    rw [Bool.and_eq_true, decide_eq_true_eq] at c1' c2'
    have ty := list_nv (n := 1000000) c1'.2
    have tz := list_nv (n := 10000000) c2'.2
    have wl : (ly.map Int.toNat).length = 8 := by rw [List.length_map]; exact c1'.1
    have rl : (lz.map Int.toNat).length = m.size := by rw [List.length_map]; exact c2'.1
    have sy : ∀ {H' : Hp}, Same H2 H' → SqL K H' q0 (nv (ly.map Int.toNat)) := fun s => SqL.of (by rw [← ty.1]; exact s _ _ hq0)
    have sz : ∀ {H' : Hp}, Same H2 H' → SqL K H' q1 (nv (lz.map Int.toNat)) := fun s => SqL.of (by rw [← tz.1]; exact s _ _ hq1)
    generalize ly.map Int.toNat = ws at *
    generalize lz.map Int.toNat = rb at *
    refine seq_gen (fun σ H4 => σ = [some (.ref p), some (.ref na), some (.ref la), some (.int (d : Int)), some (.ref q0), some (.ref q1)] ∧ Same H2 H4 ∧ Vbecao.shown m d ws rb = true) (fun R hR => ?_) ?_
    · refine ⟨_, rfl, _, rfl, _, rfl, _, rfl, p, m, st.need, L, d, q0, q1, ws, rb, rfl, Lm.same s13, by omega, sy s13, sz s13, wl, rl, fun H4 s4 => ⟨_, rfl, ?_⟩⟩
      have s14 := s13.trans s4
      refine itb (!Vbecao.shown m d ws rb) rfl (fun c3 => ?_) (fun c3 => ?_)
      · rw [if_neg (by rw [not_t c3]; decide)] at k
        exact ⟨(by show 1 ≤ sizeLine; decide), fun x hx => k.list I.rs s14 hx⟩
      · exact hR _ _ ⟨rfl, s14, not_f c3⟩
    rintro σ H4 ⟨rfl, s14, c3⟩
    rw [if_pos c3] at k
    refine ⟨_, rfl, _, rfl, _, rfl, _, rfl, p, m, st.need, L, d, q0, q1, ws, rb, rfl, Lm.same s14, by omega, by omega, sy s14, sz s14, wl, rl, fun H5 s5 => ?_⟩
    exact ⟨(by show 2 ≤ sizeLine; decide), fun x hx => CallOut.list (out := [1, (Vbecao.bound m st.need d ws rb : Int)]) k I.rs (s14.trans s5) hx⟩
theorem ok_call_most (T : Txt K mg A) : FnOk P w K mg base CX0 3 A.f_call_most A.fd_call_most ["reserve", "numbers", "lists"] (sp_call A.c_Reserve 13 2 0) := by
  have G_all_within := ok_all_within (P := P) (w := w) (base := base) T
  have G_sums_over_all := ok_sums_over_all (P := P) (w := w) (base := base) T
  have G_asked_sets := ok_asked_sets (P := P) (w := w) (base := base) T
  have G_kept_kinds := ok_kept_kinds (P := P) (w := w) (base := base) T
  have G_cells_of := ok_cells_of (P := P) (w := w) (base := base) T
  refine T.fn_call_most.ok sc_call_most (fun vs H Q E h => ?_) (fun cdv Ar outer s H vs Q E hr h => ?_)
  · obtain ⟨p, na, la, st, L, nums, ls, las, rfl, _⟩ := h
    rfl
  · obtain ⟨p, na, la, st, L, nums, ls, las, rfl, I, hland, hn, hl, k⟩ := h
    obtain rfl : ls = [] := List.length_eq_zero_iff.mp hl
    obtain ⟨o, pp, rfl⟩ := two_of hn
    obtain ⟨m, hm⟩ := Option.isSome_iff_exists.mp (hland (by decide))
    have Lm := I.rs.land hm
    have pl := Lm.ok.snd.pl
    have sz := Lm.ok.snd.sz
    have p2 : 2 ^ m.size ≤ 4096 := Nat.pow_le_pow_right (n := 2) (by decide) sz
    have e0 : Vbecao.step st ((13 :: [o, pp]) :: []) = Vbecao.withNum st o 0 1 fun o => Vbecao.withNum st pp 0 12000 fun p =>
      (st, (Vbecao.kept m st.need (Vbecao.most m st.need (o == 1) p) : Int) :: Vbecao.ints (members m (Vbecao.most m st.need (o == 1) p))) := withLand_eq hm
    rw [e0] at k
    refine ⟨_, (pss_cons (ps_if (PW.pt (pw_or (pt_not (pt_val (pe_call G_all_within (hr.mono (by decide)) rfl T.m_all_within T.kp_all_within T.bd_all_within .nil pass0 (pa_cons (pe_slice sl_list (pv 1) po_none (po_some pe_int)) (pa_cons pe_int (pa_cons pe_int pa_nil)))))) (pw_or1 (pt_not (pt_val (pe_call G_all_within (hr.mono (by decide)) rfl T.m_all_within T.kp_all_within T.bd_all_within .nil pass0 (pa_cons (pe_slice sl_list (pv 1) (po_some pe_int) po_none) (pa_cons pe_int (pa_cons (pe_glob (v := .int (12000)) rfl T.g_MOST_SPENT ⟨_, rfl⟩) pa_nil)))))))))
        (pss_one (ps_ret (pe_lst (pa_cons (pe_glob (v := .int (-3)) rfl T.g_NUMBER_OUT ⟨_, rfl⟩) pa_nil))))
        pss_nil)
      (pss_cons (ps_set (i := 3) sc_call_most.nd rfl (Or.inr rfl) (pe_call G_sums_over_all (hr.mono (by decide)) rfl T.m_sums_over_all T.kp_sums_over_all T.bd_sums_over_all .nil pass0 (pa_cons (pe_fld (pv 0) rfl) pa_nil)))
      (pss_cons (ps_setLc (i := 4) rfl sc_call_most.nd rfl rfl (sw_true rfl rfl rfl rfl) (pi_list (pe_call G_asked_sets (hr.mono (by decide)) rfl T.m_asked_sets T.kp_asked_sets T.bd_asked_sets .nil pass0 (pa_cons (pv 0) (pa_cons (pe_ix ix_list (pv 1) pe_int (fun _ _ => rfl)) pa_nil)))) (blkOk_by (own := [("members", 7)]) (by show blkC ["reserve", "numbers", "lists", "prices", "paid", "kept", "most", "members"] (defScope s_call_most) _ _ = true; decide +kernel))
        (fun _ _ _ _ _ => (pg_name (i := 7) sc_call_most.nd rfl (Or.inl rfl))) (fun _ _ _ _ _ => (pts_one (pt_cmpR op_le (pe_ix (show IxR _ (rIxL K) from ix_list) (pv 3) (pv 7) (fun _ _ => rfl)) (pe_ix (show IxR _ (rIxL K) from ix_list) (pv 1) pe_int (fun _ _ => rfl)) (nomark _)))) (fun _ _ _ _ _ => (pv 7)))
      (pss_cons (ps_set (i := 5) sc_call_most.nd rfl (Or.inl rfl) (pe_call G_kept_kinds (hr.mono (by decide)) rfl T.m_kept_kinds T.kp_kept_kinds T.bd_kept_kinds .nil pass0 (pa_cons (pv 0) (pa_cons (pv 4) pa_nil))))
      (pss_cons (ps_set (i := 6) sc_call_most.nd rfl (Or.inl rfl) (pe_callB (cr_max rfl) (by rfl) T.b_max boot_max (pa_cons (pv 5) pa_nil)))
      (pss_one (ps_ret (pe_op op_cat (pe_lst (pa_cons (pv 6) pa_nil)) (pe_call G_cells_of (hr.mono (by decide)) rfl T.m_cells_of T.kp_cells_of T.bd_cells_of .nil pass0 (pa_cons (pe_ix ix_list (pv 4) (pe_bm PySem.F.plainAttrs_list PySem.F.slot_list_index PySem.F.type_list_index mt_index (pv 5) (pa_cons (pv 6) pa_nil)) (fun _ _ => rfl)) pa_nil)))))))))), ?_⟩
    refine seq_gen (fun σ H' => σ = [some (.ref p), some (.ref na), some (.ref la), none, none, none, none, none] ∧ Same H H' ∧ (0 ≤ o ∧ o ≤ 1) ∧ 0 ≤ pp ∧ pp ≤ 12000) (fun R hR => ?_) ?_
    · refine ⟨_, rfl, 1, rfl, na, _, rfl, SqL.of I.num, fun x1 hx1 => ?_⟩
      have s01 := same_new (o := .lst (cutV (iv [o, pp]) none (some 1))) hx1
      refine ⟨x1, [o], 0, 1, rfl, SqL.of (by rw [upd_same]; rfl), (by show 1 ≤ 100; decide), fun H1 s1' => ⟨_, rfl, ?_⟩⟩
      have s1 : Same H H1 := s01.trans s1'
      refine itb (!decide (0 ≤ o ∧ o ≤ 1)) (by simp) (fun c => ?_) (fun c => ?_)
      · rw [withNum_no (of_decide_eq_false (not_t c))] at k
        exact iteT ⟨(by show 1 ≤ sizeLine; decide), fun x hx => k.list I.rs s1 hx⟩
      have c0 := of_decide_eq_true (not_f c)
      rw [withNum_yes c0] at k
      refine ⟨_, rfl, 1, rfl, na, _, rfl, SqL.of (s1 _ _ I.num), fun x2 hx2 => ?_⟩
      have s02 := same_new (o := .lst (cutV (iv [o, pp]) (some 1) none)) hx2
      refine ⟨x2, [pp], 0, 12000, rfl, SqL.of (by rw [upd_same]; rfl), (by show 1 ≤ 100; decide), fun H2 s2' => ⟨_, rfl, ?_⟩⟩
      have s2 : Same H H2 := s1.trans (s02.trans s2')
      refine itb (!decide (0 ≤ pp ∧ pp ≤ 12000)) (by simp) (fun c1 => ?_) (fun c1 => ?_)
      · rw [withNum_no (of_decide_eq_false (not_t c1))] at k
        exact ⟨(by show 1 ≤ sizeLine; decide), fun x hx => k.list I.rs s2 hx⟩
      · exact hR _ _ ⟨rfl, s2, c0, of_decide_eq_true (not_f c1)⟩
    rintro σ H2 ⟨rfl, s2, c0, c1'⟩
    rw [withNum_yes c0, withNum_yes c1'] at k
    obtain ⟨one, rfl⟩ : ∃ n : Nat, o = (n : Int) := ⟨o.toNat, by omega⟩
    obtain ⟨pp, rfl⟩ : ∃ n : Nat, pp = (n : Int) := ⟨pp.toNat, by omega⟩
    rw [Int.toNat_natCast, Int.toNat_natCast] at k
    refine seq_gen (fun σ H3 => ∃ pr, σ = [some (.ref p), some (.ref na), some (.ref la), some (.ref pr), none, none, none, none] ∧ Same H H3 ∧ H3 pr = some (.lst (nv (sumsAll m.prices)))) (fun R hR => ?_) ?_
    · obtain ⟨dx, pa, ka, ba, na', eL, h1, h2, h3, h4, h5⟩ := (Lm.same s2).ex
      exact ⟨_, rfl, p, _, dx, _, _, rfl, h1, T.cl_Reserve, T.na_Reserve_prices, rs_prices, pa, m.prices, rfl, SqL.of h2, by omega, fun pr H3 hpr s3' h33 => hR _ _ ⟨pr, rfl, s2.trans s3', h33⟩⟩
    rintro σ H3 ⟨pr, rfl, s3, h33⟩
    refine seq_gen (fun σ H5 => ∃ D, σ = [some (.ref p), some (.ref na), some (.ref la), some (.ref pr), some (.ref D), none, none, none] ∧ Same H H5 ∧ H5 D = some (.lst (nv (paidL m (one == 1) pp)))) (fun R hR => ?_) ?_
    · refine ⟨_, rfl, _, rfl, na, _, _, _, rfl, rfl, SqL.of (s3 _ _ I.num), at_of (j := 0) rfl rfl, p, m, st.need, L, one, rfl, Lm.same s3, fun lj H4 hlj s4' h44 => ?_⟩
      have s4 := s3.trans s4'
      have pr4 := s4' _ _ h33
      refine ⟨lj, rfl, ⟨_, SqL.of h44⟩, fun D hD => lc_list_same (K := K) (a := lj) (xs := nv (askedL m (one == 1))) (i := 7) (fun v => match v with | .int x => decide (Vbecao.price m x.toNat ≤ pp) | _ => false) (fun v => v) (SqL.of h44) hD ?_ ?_ ?_ ?_⟩
      · rw [List.length_map, sizeLine_eq]
        have := asked_len m (one == 1)
        omega
      · intro x hx H6 s6 R' kR
        obtain ⟨z, hz, rfl⟩ := List.mem_map.mp hx
        have hz2 := asked_lt hz
        have pz : (sumsAll m.prices)[z]? = some (Vbecao.price m z) := by rw [price_worth Lm.ok.snd]; exact sumsAll_get _ z (by rw [pl]; exact hz2)
        refine ⟨_, rfl, _, rfl, pr, _, _, _, rfl, rfl, SqL.of (s6 _ _ pr4), atI_nat (nv_at pz), _, rfl, na, _, _, _, rfl, rfl, SqL.of ((s4.trans s6) _ _ I.num), at_of (j := 1) rfl rfl, _, _, rfl, rfl, _, rfl, ?_⟩
        have e2 : decide (((Vbecao.price m z : Nat) : Int) ≤ (pp : Int)) = decide (Vbecao.price m z ≤ pp) := by simp
        have kk := kR _ (Same.refl _)
        dsimp only at kk
        rw [Int.toNat_natCast, ← e2] at kk
        exact kk
      · intro x hx hb H6 s6 R' kR
        exact ⟨_, rfl, kR _ (Same.refl _)⟩
      · intro H5 s5' hD5
        refine hR _ _ ⟨D, rfl, s4.trans s5', ?_⟩
        rw [hD5, List.map_id', List.filter_map]
        rfl
    rintro σ H5 ⟨D, rfl, s5, hF⟩
    have plt : ∀ s ∈ paidL m (one == 1) pp, s < 2 ^ m.size := fun s hs => asked_lt (List.mem_filter.mp hs).1
    have plen : (paidL m (one == 1) pp).length ≤ 4096 := by
      have := List.length_filter_le (fun s => decide (Vbecao.price m s ≤ pp)) (askedL m (one == 1))
      have := asked_len m (one == 1)
      unfold paidL
      omega
    obtain ⟨j, g1, g2, g3⟩ := most_at m st.need (one == 1) pp
    generalize ht : Vbecao.most m st.need (one == 1) pp = t at *
    generalize hP : paidL m (one == 1) pp = pd at *
    have tm : t ∈ pd := List.mem_of_getElem? g1
    refine seq_gen (fun σ H6 => ∃ kp, σ = [some (.ref p), some (.ref na), some (.ref la), some (.ref pr), some (.ref D), some (.ref kp), none, none] ∧ Same H H6 ∧ H6 D = some (.lst (nv pd)) ∧ H6 kp = some (.lst (nv (pd.map (Vbecao.kept m st.need))))) (fun R hR => ?_) ?_
    · exact ⟨_, rfl, _, rfl, p, m, st.need, L, D, pd, rfl, Lm.same s5, SqL.of hF, plen, plt, fun kp H6 hkp s6' h66 => hR _ _ ⟨kp, rfl, s5.trans s6', s6' _ _ hF, h66⟩⟩
    rintro σ H6 ⟨kp, rfl, s6, hF, h66⟩
    refine seq_gen (fun σ H7 => σ = [some (.ref p), some (.ref na), some (.ref la), some (.ref pr), some (.ref D), some (.ref kp), some (.int ((Vbecao.kept m st.need t : Nat) : Int)), none] ∧ H7 = H6) (fun R hR => ?_) ?_
    · refine ⟨_, rfl, kp, Vbecao.ints (pd.map (Vbecao.kept m st.need)), rfl, SqL.of (by rw [h66, nv_iv]), (by unfold Vbecao.ints; rw [List.length_map, List.length_map]; exact List.length_pos_of_mem tm), fun M hM hmax => ?_⟩
      have eM : M = ((Vbecao.kept m st.need t : Nat) : Int) := by
        unfold Vbecao.ints at hM hmax
        rw [List.map_map] at hM hmax
        obtain ⟨y, hy, rfl⟩ := List.mem_map.mp hM
        have a1 := g2 y hy
        have a2 := hmax _ (List.mem_map.mpr ⟨t, tm, rfl⟩)
        simp only [Function.comp] at a2 ⊢
        omega
      subst eM
      exact hR _ _ ⟨rfl, rfl⟩
    rintro σ H7 ⟨rfl, rfl⟩
    refine ⟨_, rfl, (by show 1 ≤ sizeLine; decide), fun x3 hx3 => ?_⟩
    have s67 := same_new (o := .lst [.int ((Vbecao.kept m st.need t : Nat) : Int)]) hx3
    have s7 := s6.trans s67
    have hk7 := s67 _ _ h66
    have hD7 := s67 _ _ hF
    refine ⟨_, rfl, _, rfl, .inl ⟨rfl, _, SqL.of hk7⟩, _, rfl, kp, nv (pd.map (Vbecao.kept m st.need)), _, j, .int ((Vbecao.kept m st.need t : Nat) : Int), rfl, rfl, SqL.of hk7, rfl, ?_, ?_, ?_, ?_, ?_⟩
    · rw [List.all_eq_true]
      intro x hx
      obtain ⟨z, hz, rfl⟩ := List.mem_map.mp hx
      rfl
    · exact nv_at (by rw [List.getElem?_map, g1]; rfl)
    · show (_ == _) = true
      simp
    · intro i z' hi hz'
      obtain ⟨n, hn, rfl⟩ := nv_get hz'
      rw [List.getElem?_map] at hn
      cases e : pd[i]? with
      | none => rw [e] at hn; cases hn
      | some y =>
        rw [e] at hn
        obtain rfl : Vbecao.kept m st.need y = n := Option.some.inj hn
        have := g3 i hi y e
        show ((_ : Int) == _) = false
        rw [beq_eq_false_iff_ne]
        omega
    · refine ⟨D, _, _, _, rfl, rfl, SqL.of hD7, atI_nat (nv_at g1), t, rfl, fun y H8 hy s8 h8 => ?_⟩
      refine ⟨x3, y, _, _, rfl, rfl, s8 _ _ upd_same, h8, ?_, fun z hz => ?_⟩
      · rw [List.length_map, sizeLine_eq]
        have := List.length_filter_le (fun c => t.testBit c) (List.range 12)
        rw [List.length_range] at this
        unfold cellsOf
        show 1 + _ ≤ _
        omega
      · rw [cellsOf_eq sz (plt t tm), nv_iv]
        exact CallOut.list (out := (Vbecao.kept m st.need t : Int) :: Vbecao.ints (members m t)) k I.rs (s7.trans s8) hz
end
end Lr
end
section
set_option Elab.async false
set_option linter.all false
set_option maxRecDepth 100000
set_option maxHeartbeats 2000000
namespace Lr
open PySem PySem.Spec PyProof.Rows L2
open Vbecao (Land numberOf members)
section
variable {P : Program} {w : World} {K : PySem.W.Frag} {mg : Str → Option Value} {base : Heap} {A : Ad}
theorem ok_call_land (T : Txt K mg A) : FnOk P w K mg base CX0 3 A.f_call_land A.fd_call_land ["reserve", "numbers", "lists"] (sp_call A.c_Reserve 0 2 2) := by
  have G_all_within := ok_all_within (P := P) (w := w) (base := base) T
  have G_is_list_of := ok_is_list_of (P := P) (w := w) (base := base) T
  have G_Reserve_hold_land := ok_Reserve_hold_land (P := P) (w := w) (base := base) T
  refine T.fn_call_land.ok sc_call_land (fun vs H Q E h => ?_) (fun cdv Ar outer s H vs Q E hr h => ?_)
  · obtain ⟨p, na, la, st, L, nums, ls, las, rfl, _⟩ := h
    rfl
  · obtain ⟨p, na, la, st, L, nums, ls, las, rfl, I, hland, hn, hl, k⟩ := h
    obtain ⟨wi, hi, rfl⟩ := two_of hn
    obtain ⟨lp, lk, rfl⟩ := two_of hl
    obtain ⟨q0, q1, rfl⟩ := two_of I.len
    obtain ⟨q, hq, hq0⟩ := I.its 0 lp rfl
    obtain rfl : q0 = q := by simpa using hq
    obtain ⟨q, hq, hq1⟩ := I.its 1 lk rfl
    obtain rfl : q1 = q := by simpa using hq
    have hsp := I.short lp (by simp)
    have hsk := I.short lk (by simp)
    have e0 : Vbecao.step st ((0 :: [wi, hi]) :: [lp, lk]) = Vbecao.withNum st wi 1 12 fun w => Vbecao.withNum st hi 1 12 fun h => if 12 < w * h then Vbecao.bad st (-3) else
        Vbecao.withList st (w * h) (w * h) 1000 lp fun p => Vbecao.withList st (w * h) (w * h) 255 lk fun k => ({ land := some ⟨w, h, p, k⟩, need := List.replicate 8 0 }, [0]) := rfl
    rw [e0] at k
    refine ⟨_, (pss_cons (ps_set (i := 3) sc_call_land.nd rfl (Or.inl rfl) (pe_ix ix_list (pv 1) pe_int (fun _ _ => rfl)))
      (pss_cons (ps_set (i := 4) sc_call_land.nd rfl (Or.inl rfl) (pe_ix ix_list (pv 1) pe_int (fun _ _ => rfl)))
      (pss_cons (ps_if (PW.pt (pw_or (pt_not (pt_val (pe_call G_all_within (hr.mono (by decide)) rfl T.m_all_within T.kp_all_within T.bd_all_within .nil pass0 (pa_cons (pv 1) (pa_cons pe_int (pa_cons (pe_glob (v := .int (12)) rfl T.g_MOST_SIDE ⟨_, rfl⟩) pa_nil)))))) (pw_or1 (pt_cmpR op_gt (pe_op op_mul (pv 3) (pv 4)) (pe_glob (v := .int (12)) rfl T.g_MOST_CELLS ⟨_, rfl⟩) (nomark _)))))
        (pss_one (ps_ret (pe_lst (pa_cons (pe_glob (v := .int (-3)) rfl T.g_NUMBER_OUT ⟨_, rfl⟩) pa_nil))))
        pss_nil)
      (pss_cons (ps_if (PW.pt (pw_or (pt_not (pt_val (pe_call G_is_list_of (hr.mono (by decide)) rfl T.m_is_list_of T.kp_is_list_of T.bd_is_list_of .nil pass0 (pa_cons (pe_ix ix_list (pv 2) pe_int (fun _ _ => rfl)) (pa_cons (pe_op op_mul (pv 3) (pv 4)) (pa_cons (pe_glob (v := .int (1000)) rfl T.g_MOST_PRICE ⟨_, rfl⟩) pa_nil)))))) (pw_or1 (pt_not (pt_val (pe_call G_is_list_of (hr.mono (by decide)) rfl T.m_is_list_of T.kp_is_list_of T.bd_is_list_of .nil pass0 (pa_cons (pe_ix ix_list (pv 2) pe_int (fun _ _ => rfl)) (pa_cons (pe_op op_mul (pv 3) (pv 4)) (pa_cons (pe_glob (v := .int (255)) rfl T.g_MOST_HELD ⟨_, rfl⟩) pa_nil)))))))))
        (pss_one (ps_ret (pe_lst (pa_cons (pe_glob (v := .int (-4)) rfl T.g_LIST_OUT ⟨_, rfl⟩) pa_nil))))
        pss_nil)
      (pss_cons (ps_expr (pe_meth (pv 0) T.cl_Reserve T.me_Reserve_hold_land G_Reserve_hold_land (hr.mono (by decide)) T.bd_Reserve_hold_land .nil pass0 (pa_cons (pv 3) (pa_cons (pv 4) (pa_cons (pe_ix ix_list (pv 2) pe_int (fun _ _ => rfl)) (pa_cons (pe_ix ix_list (pv 2) pe_int (fun _ _ => rfl)) pa_nil))))))
      (pss_one (ps_ret (pe_lst (pa_cons pe_int pa_nil))))))))), ?_⟩
    refine ⟨_, rfl, na, _, _, _, rfl, rfl, SqL.of I.num, at_of (j := 0) rfl rfl, ?_⟩
    refine ⟨_, rfl, na, _, _, _, rfl, rfl, SqL.of I.num, at_of (j := 1) rfl rfl, ?_⟩
    refine ⟨_, rfl, na, [wi, hi], 1, 12, rfl, SqL.of I.num, (by show 2 ≤ 100; decide), fun H1 s1 => ⟨_, rfl, ?_⟩⟩
    refine itb (!(decide (1 ≤ wi ∧ wi ≤ 12) && decide (1 ≤ hi ∧ hi ≤ 12))) (by simp) (fun c => ?_) (fun c => ?_)
    · have kk : CallOut A.c_Reserve H p L [q0, q1] Q (st, [-3]) := by
        have c' := not_t c
        by_cases d1 : 1 ≤ wi ∧ wi ≤ 12
        · rw [withNum_yes d1] at k
          rw [decide_eq_true d1, Bool.true_and] at c'
          rw [withNum_no (of_decide_eq_false c')] at k
          exact k
        · rw [withNum_no d1] at k
          exact k
      refine iteT ⟨(by show 1 ≤ sizeLine; decide), fun x hx => kk.list I.rs s1 hx⟩
    · have c' := not_f c
      rw [Bool.and_eq_true, decide_eq_true_eq, decide_eq_true_eq] at c'
      obtain ⟨d1, d2⟩ := c'
      rw [withNum_yes d1, withNum_yes d2] at k
      obtain ⟨wd, rfl⟩ : ∃ n : Nat, wi = (n : Int) := ⟨wi.toNat, by omega⟩
      obtain ⟨ht, rfl⟩ : ∃ n : Nat, hi = (n : Int) := ⟨hi.toNat, by omega⟩
      rw [Int.toNat_natCast, Int.toNat_natCast] at k
      refine ⟨_, rfl, _, rfl, _, _, rfl, rfl, .inl ⟨by omega, by omega⟩, _, _, rfl, rfl, _, rfl, ?_⟩
      refine itb (decide (12 < wd * ht)) ?_ (fun c2 => ?_) (fun c2 => ?_)
      · show decide ((12 : Int) < (wd : Int) * (ht : Int)) = _
        rw [decide_eq_decide]; norm_cast
      · rw [if_pos (of_decide_eq_true c2)] at k
        exact ⟨(by show 1 ≤ sizeLine; decide), fun x hx => CallOut.list (out := [-3]) k I.rs s1 hx⟩
      · have c3 := of_decide_eq_false c2
        rw [if_neg c3] at k
        have em : V.int ((wd : Int) * (ht : Int)) = V.int ((wd * ht : Nat) : Int) := by rw [Int.natCast_mul]
        refine ⟨_, rfl, la, _, _, _, rfl, rfl, SqL.of (s1 _ _ I.lst), at_of (j := 0) rfl rfl, _, rfl, _, rfl, _, _, rfl, rfl, .inl ⟨by omega, by omega⟩, q0, lp, 1000, wd * ht, ?_, SqL.of (s1 _ _ hq0), by omega, fun H2 s2 => ⟨_, rfl, ?_⟩⟩
        · show [V.ref q0, V.int ((wd : Int) * (ht : Int)), V.int 1000] = _
          rw [em]
        have s12 := s1.trans s2
        refine itb (!(decide (lp.length = wd * ht) && lp.all fun x => decide (0 ≤ x ∧ x ≤ 1000))) rfl (fun c4 => ?_) (fun c4 => ?_)
        · rw [withList_no (not_t c4)] at k
          exact iteT ⟨(by show 1 ≤ sizeLine; decide), fun x hx => k.list I.rs s12 hx⟩
        · have c4' := not_f c4
          rw [withList_yes c4'] at k
          refine ⟨_, rfl, la, _, _, _, rfl, rfl, SqL.of (s12 _ _ I.lst), at_of (j := 1) rfl rfl, _, rfl, _, rfl, _, _, rfl, rfl, .inl ⟨by omega, by omega⟩, q1, lk, 255, wd * ht, ?_, SqL.of (s12 _ _ hq1), by omega, fun H3 s3 => ⟨_, rfl, ?_⟩⟩
          · show [V.ref q1, V.int ((wd : Int) * (ht : Int)), V.int 255] = _
            rw [em]
          have s13 := s12.trans s3
          refine itb (!(decide (lk.length = wd * ht) && lk.all fun x => decide (0 ≤ x ∧ x ≤ 255))) rfl (fun c5 => ?_) (fun c5 => ?_)
          · rw [withList_no (not_t c5)] at k
            exact ⟨(by show 1 ≤ sizeLine; decide), fun x hx => k.list I.rs s13 hx⟩
          · have c5' := not_f c5
            rw [withList_yes c5'] at k
            rw [Bool.and_eq_true, decide_eq_true_eq] at c4' c5'
            have tp := list_nv (n := 1000) c4'.2
            have tk := list_nv (n := 255) c5'.2
            have ok : LandOk ⟨wd, ht, lp.map Int.toNat, lk.map Int.toNat⟩ := ⟨⟨by show 0 < wd; omega, by show 0 < ht; omega, by show wd * ht ≤ 12; omega, by show (lp.map Int.toNat).length = wd * ht; rw [List.length_map]; exact c4'.1, by show (lk.map Int.toNat).length = wd * ht; rw [List.length_map]; exact c5'.1⟩, by show wd ≤ 12; omega, by show ht ≤ 12; omega, tp.2, tk.2⟩
            have R3 := I.rs.same s13
            obtain ⟨dx, wx, hx0, pa, ka, ba, nx, ho, _⟩ := rsAt_obj R3
            refine ⟨_, rfl, p, dx, _, rfl, ho, rs_no (by decide +kernel) (by decide +kernel) (by decide +kernel) (by decide +kernel) (by decide +kernel) (by decide +kernel), _, rfl, _, rfl, _, rfl, la, _, _, _, rfl, rfl, SqL.of (s13 _ _ I.lst), at_of (j := 0) rfl rfl, _, rfl, la, _, _, _, rfl, rfl, SqL.of (s13 _ _ I.lst), at_of (j := 1) rfl rfl, ?_⟩
            refine ⟨p, st, L, ⟨wd, ht, lp.map Int.toNat, lk.map Int.toNat⟩, q0, q1, rfl, R3, ok, (by rw [← tp.1]; exact s13 _ _ hq0), (by rw [← tk.1]; exact s13 _ _ hq1), fun H4 L' L4 hL' c6 => ?_⟩
            refine ⟨(by show 1 ≤ sizeLine; decide), fun x hx => ?_⟩
            have cc : Chg H H4 p := (Lr.Same.chg s13).trans c6
            have hxn : H x = none := by
              cases e : H x with
              | none => rfl
              | some o =>
                by_cases q : x = p
                · subst q
                  obtain ⟨_, _, _, _, _, _, e1, _⟩ := L4.ex
                  rw [e1] at hx; cases hx
                · rw [cc x o e q] at hx; cases hx
            refine k _ x L' hxn (by rw [upd_same]; rfl) (LAt.same L4 (same_new hx)) ?_ (cc.trans (Lr.Same.chg (same_new hx)))
            intro y hy
            rcases hL' y hy with z | z | z
            · exact .inr (.inl (by simp [z]))
            · exact .inr (.inl (by simp [z]))
            · exact .inr (.inr (s13.free z))
end
end Lr
end
section
set_option Elab.async false
set_option linter.all false
set_option maxRecDepth 100000
set_option maxHeartbeats 2000000
namespace Lr
open PySem PySem.Spec PyProof.Rows L2
open Vbecao (Land numberOf members)
theorem drop_at {ns pre post : List Int} {i : Nat} (h : ns.drop i = pre ++ post) : (ns.drop i).take pre.length = pre ∧ ns.drop (i + pre.length) = post ∧ (pre ≠ [] → i + pre.length ≤ ns.length) := by
  refine ⟨by rw [h, List.take_left], by rw [← List.drop_drop, h, List.drop_left], fun hne => ?_⟩
  have := congrArg List.length h
  rw [List.length_drop, List.length_append] at this
  have : 0 < pre.length := List.length_pos_iff.mpr hne
  omega
theorem head_at {ns post : List Int} {i : Nat} {x : Int} (h : ns.drop i = x :: post) : ns[i]? = some x ∧ ns.drop (i + 1) = post ∧ i < ns.length := by
  have h1 : ns[i]? = some x := by
    have := congrArg (·[0]?) h
    simpa [List.getElem?_drop] using this
  exact ⟨h1, by rw [← List.drop_drop, h]; rfl, (List.getElem?_eq_some_iff.mp h1).1⟩
theorem rs_ne_rd {wd ht : Int} {pa ka ba na a : Addr} {i : Int} : rsF wd ht pa ka ba na ≠ rdF a i := fun e => by
  have := congrArg List.length e
  exact absurd this (by show ¬ 6 = 2; decide)
theorem putRows_snoc (l : List (List Int)) (x : List Int) : PyFlat.putRows (l ++ [x]) = PyFlat.putRows l ++ PyFlat.putRow x := by
  induction l with
  | nil => show PyFlat.putRow x ++ [] = [] ++ _; simp
  | cons y r ih => show PyFlat.putRow y ++ PyFlat.putRows (r ++ [x]) = (PyFlat.putRow y ++ PyFlat.putRows r) ++ _; rw [ih, List.append_assoc]
theorem putRows_split {ls : List (List Int)} {j : Nat} {x : List Int} (h : ls[j]? = some x) : PyFlat.putRows ls = PyFlat.putRows (ls.take j) ++ (PyFlat.putRow x ++ PyFlat.putRows (ls.drop (j + 1))) := by
  induction ls generalizing j with
  | nil => simp at h
  | cons y r ih =>
    cases j with
    | zero =>
      have : y = x := by simpa using h
      subst this
      rfl
    | succ j =>
      show PyFlat.putRow y ++ PyFlat.putRows r = (PyFlat.putRow y ++ PyFlat.putRows (r.take j)) ++ _
      rw [ih (j := j) (by simpa using h), List.append_assoc]
      rfl
def sp_answer_next (C R : Addr) (K : PySem.W.Frag) : Sp := fun vs H Q _ => ∃ p r dx a, ∃ i : Nat, ∃ (ns : List Int) (st : Vbecao.State) (L : List Addr) (c : Int) (nums : List Int) (ls : List (List Int)) (post : List Int), vs = [.ref p, .ref r] ∧ RsAt C H p st L ∧ H r = some (.ins R dx (rdF a i)) ∧ SqL K H a (iv ns) ∧
  ns.drop i = (c :: nums) ++ (PyFlat.putRows ls ++ post) ∧ PyVbecao.shape c = some (nums.length, ls.length) ∧ (∀ x ∈ ls, x.length ≤ 30) ∧
  ∀ H' q L', H q = none → H' q = some (.lst (iv (Vbecao.step st ((c :: nums) :: ls)).2)) → RsAt C H' p (Vbecao.step st ((c :: nums) :: ls)).1 L' → H' r = some (.ins R dx (rdF a ((i + (1 + nums.length + (PyFlat.putRows ls).length) : Nat) : Int))) → (∀ x ∈ L', x ∈ L ∨ H x = none) →
    (∀ b o, H b = some o → b ≠ p → b ≠ r → H' b = some o) → Q (.ref q) H'
section
variable {P : Program} {w : World} {K : PySem.W.Frag} {mg : Str → Option Value} {base : Heap} {A : Ad}
theorem calls_of (T : Txt K mg A) {c : Int} {a b : Nat} (h : PyVbecao.shape c = some (a, b)) : ∃ tt f fd, findBy Value.isInt A.e_CALLS c = some (.ref tt) ∧ (∀ H : Hp, SqT K H tt [.int (a : Int), .int (b : Int), .ref f]) ∧ PySem.W.keepIn K (.ref f) = true ∧
    Binds K fd ["reserve", "numbers", "lists"] [] ∧ FnOk P w K mg base CX0 4 f fd ["reserve", "numbers", "lists"] (sp_call A.c_Reserve c a b) := by
  rcases shape_cases h with ⟨rfl, rfl, rfl⟩ | ⟨rfl, rfl, rfl⟩ | ⟨rfl, rfl, rfl⟩ | ⟨rfl, rfl, rfl⟩ | ⟨rfl, rfl, rfl⟩ | ⟨rfl, rfl, rfl⟩ | ⟨rfl, rfl, rfl⟩ | ⟨rfl, rfl, rfl⟩ | ⟨rfl, rfl, rfl⟩ | ⟨rfl, rfl, rfl⟩ | ⟨rfl, rfl, rfl⟩ | ⟨rfl, rfl, rfl⟩ | ⟨rfl, rfl, rfl⟩ | ⟨rfl, rfl, rfl⟩
  · exact ⟨_, _, _, T.v_CALLS_0, T.u_CALLS_0, T.kp_call_land, T.bd_call_land, (ok_call_land T).mono (by decide)⟩
  · exact ⟨_, _, _, T.v_CALLS_1, T.u_CALLS_1, T.kp_call_told, T.bd_call_told, (ok_call_told T).mono (by decide)⟩
  · exact ⟨_, _, _, T.v_CALLS_2, T.u_CALLS_2, T.kp_call_need, T.bd_call_need, (ok_call_need T).mono (by decide)⟩
  · exact ⟨_, _, _, T.v_CALLS_3, T.u_CALLS_3, T.kp_call_fits, T.bd_call_fits, (ok_call_fits T).mono (by decide)⟩
  · exact ⟨_, _, _, T.v_CALLS_4, T.u_CALLS_4, T.kp_call_price, T.bd_call_price, (ok_call_price T).mono (by decide)⟩
  · exact ⟨_, _, _, T.v_CALLS_5, T.u_CALLS_5, T.kp_call_pieces, T.bd_call_pieces, (ok_call_pieces T).mono (by decide)⟩
  · exact ⟨_, _, _, T.v_CALLS_6, T.u_CALLS_6, T.kp_call_best, T.bd_call_best, (ok_call_best T).mono (by decide)⟩
  · exact ⟨_, _, _, T.v_CALLS_7, T.u_CALLS_7, T.kp_call_number, T.bd_call_number, (ok_call_number T).mono (by decide)⟩
  · exact ⟨_, _, _, T.v_CALLS_8, T.u_CALLS_8, T.kp_call_must, T.bd_call_must, (ok_call_must T).mono (by decide)⟩
  · exact ⟨_, _, _, T.v_CALLS_9, T.u_CALLS_9, T.kp_call_corridor, T.bd_call_corridor, (ok_call_corridor T).mono (by decide)⟩
  · exact ⟨_, _, _, T.v_CALLS_10, T.u_CALLS_10, T.kp_call_way, T.bd_call_way, (ok_call_way T).mono (by decide)⟩
  · exact ⟨_, _, _, T.v_CALLS_11, T.u_CALLS_11, T.kp_call_bound, T.bd_call_bound, (ok_call_bound T).mono (by decide)⟩
  · exact ⟨_, _, _, T.v_CALLS_12, T.u_CALLS_12, T.kp_call_hardy, T.bd_call_hardy, (ok_call_hardy T).mono (by decide)⟩
  · exact ⟨_, _, _, T.v_CALLS_13, T.u_CALLS_13, T.kp_call_most, T.bd_call_most, (ok_call_most T).mono (by decide)⟩
structure Taken (R : Addr) (H H' : Hp) (r dx a : Addr) (i : Nat) (nums : List Int) (ls : List (List Int)) (ln la : Addr) (las : List Addr) (j : Nat) : Prop where
  len : las.length = j
  lst : H' la = some (.lst (las.map V.ref))
  rd : H' r = some (.ins R dx (rdF a ((i + 1 + nums.length + (PyFlat.putRows (ls.take j)).length : Nat) : Int)))
  its : ∀ (k : Nat) (x : List Int), (ls.take j)[k]? = some x → ∃ q, las[k]? = some q ∧ H' q = some (.lst (iv x))
  fr : ∀ q ∈ las, H q = none
  lal : ∀ q ∈ las, q ≠ la
  num : H' ln = some (.lst (iv nums))
  nla : ln ≠ la
  hla : H la = none
  hln : H ln = none
  chg : Chg H H' r
theorem ok_answer_next (T : Txt K mg A) : FnOk P w K mg base CX0 5 A.f_answer_next A.fd_answer_next ["reserve", "reader"] (sp_answer_next A.c_Reserve A.c_Reader K) := by
  have G_Reader_take_number := ok_Reader_take_number (P := P) (w := w) (base := base) T
  have G_Reader_take_numbers := ok_Reader_take_numbers (P := P) (w := w) (base := base) T
  have G_Reader_take_list := ok_Reader_take_list (P := P) (w := w) (base := base) T
  have G_Reserve_has_land := ok_Reserve_has_land (P := P) (w := w) (base := base) T
  refine T.fn_answer_next.ok sc_answer_next (fun vs H Q E h => ?_) (fun cdv Ar outer s H vs Q E hr h => ?_)
  · obtain ⟨p, r, dx, a, i, ns, st, L, c, nums, ls, post, rfl, _⟩ := h
    rfl
  · obtain ⟨p, r, dx, a, i, ns, st, L, c, nums, ls, post, rfl, hR, hr0, hq, hd, hsh, hsl, k⟩ := h
    obtain ⟨tt, f, fd, e1, e2, e3, e4, e5⟩ := calls_of (P := P) (w := w) (base := base) T hsh
    obtain ⟨g1, g2, g3⟩ := head_at hd
    obtain ⟨dp, wd, ht, pa, ka, ba, na, hp, hisS⟩ := rsAt_obj hR
    have npr : p ≠ r := ne_of hp hr0 (by intro z; injection z with _ _ z; exact rs_ne_rd z)
    have rdk : ∀ {H' : Hp}, Chg H H' r → SqL K H' a (iv ns) := fun c0 => c0.seq hr0 (fun _ z => by cases z) (fun _ _ z => by cases z) hq
    have rn : ∀ {z : Int}, (rdF a z).lookup ("take_number" : Str) = none := rd_no (by decide +kernel) (by decide +kernel)
    have rns : ∀ {z : Int}, (rdF a z).lookup ("take_numbers" : Str) = none := rd_no (by decide +kernel) (by decide +kernel)
    have rl : ∀ {z : Int}, (rdF a z).lookup ("take_list" : Str) = none := rd_no (by decide +kernel) (by decide +kernel)
    refine ⟨_, (pss_cons (ps_set (i := 2) sc_answer_next.nd rfl (Or.inl rfl) (pe_meth0 (pv 1) T.cl_Reader T.me_Reader_take_number G_Reader_take_number (hr.mono (by decide)) T.bd_Reader_take_number .nil pass0))
      (pss_cons (ps_set (i := 3) sc_answer_next.nd rfl (Or.inl rfl) (pe_dgetK T.k_CALLS (pe_glob (v := .ref A.d_CALLS) rfl T.d_CALLS rfl) (pv 2)))
      (pss_cons (ps_set (i := 4) sc_answer_next.nd rfl (Or.inl rfl) (pe_meth (pv 1) T.cl_Reader T.me_Reader_take_numbers G_Reader_take_numbers (hr.mono (by decide)) T.bd_Reader_take_numbers .nil pass0 (pa_cons (pe_ix ix_tup (pv 3) pe_int (fun _ _ => rfl)) pa_nil)))
      (pss_cons (ps_setLc (i := 5) rfl sc_answer_next.nd rfl rfl (sw_true rfl rfl rfl rfl) (pi_range1 rfl T.b_range (pa_cons (pe_ix ix_tup (pv 3) pe_int (fun _ _ => rfl)) pa_nil)) (blkOk_by (own := [("each", 7)]) (by show blkC ["reserve", "reader", "call", "form", "numbers", "lists", "act", "each"] (defScope s_answer_next) _ _ = true; decide +kernel))
        (fun _ _ _ _ _ => (pg_name (i := 7) sc_answer_next.nd rfl (Or.inl rfl))) (fun _ _ _ _ _ => pts_nil) (fun _ _ _ _ _ => (pe_meth0 (pv 1) T.cl_Reader T.me_Reader_take_list G_Reader_take_list (hr.mono (by decide)) T.bd_Reader_take_list .nil pass0)))
      (pss_cons (ps_if (PW.pt (pw_and (pt_cmpR op_ne (pv 2) (pe_glob (v := .int (0)) rfl T.g_LAND ⟨_, rfl⟩) (nomark _)) (pw_and1 (pt_not (pt_val (pe_meth0 (pv 0) T.cl_Reserve T.me_Reserve_has_land G_Reserve_has_land (hr.mono (by decide)) T.bd_Reserve_has_land .nil pass0))))))
        (pss_one (ps_ret (pe_lst (pa_cons (pe_glob (v := .int (-1)) rfl T.g_NO_LAND ⟨_, rfl⟩) pa_nil))))
        pss_nil)
      (pss_cons (ps_set (i := 6) sc_answer_next.nd rfl (Or.inl rfl) (pe_ix ix_tup (pv 3) pe_int (fun _ _ => rfl)))
      (pss_one (ps_ret (pe_callV 6 (pa_cons (pv 0) (pa_cons (pv 4) (pa_cons (pv 5) pa_nil)))))))))))), ?_⟩
    -- call = reader.take_number()
    refine ⟨_, rfl, r, dx, _, rfl, hr0, rn, r, dx, a, i, ns, c, rfl, hr0, hq, g1, fun H1 h1 c1 => ?_⟩
    -- form = CALLS[call]
    refine ⟨_, rfl, c, .ref tt, _, rfl, rfl, e1, rfl, ?_⟩
    -- numbers = reader.take_numbers(form[0])
    obtain ⟨d1, d2, d3⟩ := drop_at (pre := nums) g2
    have dlen : i + 1 + nums.length ≤ ns.length := by
      by_cases hne : nums = []
      · subst hne; simp; omega
      · exact d3 hne
    refine ⟨_, rfl, r, dx, _, rfl, h1, rns, _, rfl, tt, _, _, _, rfl, rfl, e2 _, at_of (j := 0) rfl rfl, r, dx, a, i + 1, nums.length, ns, rfl, h1, rdk c1, dlen, fun ln H2 hln h2 hl2 c2 => ?_⟩
    rw [d1] at hl2
    have c12 := c1.trans c2
    have hln0 : H ln = none := by
      cases e : H ln with
      | none => rfl
      | some o =>
        by_cases q : ln = r
        · subst q; rw [h1] at hln; cases hln
        · rw [c1 ln o e q] at hln; cases hln
    -- lists = [..]
    refine ⟨_, rfl, tt, _, _, _, rfl, rfl, e2 _, at_of (j := 1) rfl rfl, ((ls.length : Nat) : Int), rfl, rlo _, rhi (Nat.le_trans (shape_short hsh) (by decide)), fun la hla => ?_⟩
    rw [Int.toNat_natCast]
    have c23 := c12.trans (Lr.Same.chg (same_new (o := .lst []) hla))
    have nlr : la ≠ r := fun e => by subst e; rw [h2] at hla; cases hla
    have nll : ln ≠ la := fun e => by subst e; rw [hl2] at hla; cases hla
    have hla0 : H la = none := by
      cases e : H la with
      | none => rfl
      | some o => rw [c12 la o e nlr] at hla; cases hla
    refine lc_range (lo := 0) (n := ls.length) (fun j H' => ∃ las : List Addr, Taken A.c_Reader H H' r dx a i nums ls ln la las j)
      ⟨[], rfl, upd_same, (by rw [upd_ne nlr.symm]; exact h2), fun k x hk => (by simp at hk), fun q hq => (by cases hq), fun q hq => (by cases hq), (by rw [upd_ne nll]; exact hl2), nll, hla0, hln0, c23⟩ ?_ ?_
    · rintro j H3 hj ⟨las, TK⟩
      have hx : ls[j]? = some ls[j] := List.getElem?_eq_getElem hj
      have hsx := hsl ls[j] (List.getElem_mem hj)
      have split := putRows_split hx
      have hd3 : ns.drop (i + 1 + nums.length + (PyFlat.putRows (ls.take j)).length) = PyFlat.putRow ls[j] ++ (PyFlat.putRows (ls.drop (j + 1)) ++ post) := by
        rw [← List.drop_drop, d2, split, List.append_assoc, List.drop_left, List.append_assoc]
      obtain ⟨k1, k2, k3⟩ := head_at (x := (ls[j].length : Int)) hd3
      obtain ⟨m1, m2, m3⟩ := drop_at (pre := ls[j]) k2
      have ml : i + 1 + nums.length + (PyFlat.putRows (ls.take j)).length + 1 + ls[j].length ≤ ns.length := by
        by_cases hne : ls[j] = []
        · rw [hne]; simp only [List.length_nil]; omega
        · exact m3 hne
      have jl : j ≤ 2 := Nat.le_trans (Nat.le_of_lt hj) (shape_short hsh)
      refine ⟨rfl, ?_⟩
      refine ⟨_, rfl, r, dx, _, rfl, TK.rd, rl, r, dx, a, _, ls[j].length, ns, rfl, TK.rd, rdk TK.chg, k1, ml, fun lq H4 hlq h4 hl4 c4 => ?_⟩
      rw [m1] at hl4
      have nqa : lq ≠ la := fun e => by subst e; rw [TK.lst] at hlq; cases hlq
      have nqr : lq ≠ r := fun e => by subst e; rw [TK.rd] at hlq; cases hlq
      have hlq0 : H lq = none := by
        cases e : H lq with
        | none => rfl
        | some o => rw [TK.chg lq o e nqr] at hlq; cases hlq
      have lst4 := c4 _ _ TK.lst nlr
      have nlnr : ln ≠ r := fun e => by have := TK.num; rw [e, TK.rd] at this; cases this
      refine ⟨_, lst4, ?_, ?_⟩
      · rw [List.length_map, TK.len, sizeLine_eq]; omega
      refine ⟨las ++ [lq], ?_⟩
      refine ⟨by rw [List.length_append, TK.len]; rfl, by rw [upd_same, List.map_append]; rfl, ?_, ?_, ?_, ?_, ?_, TK.nla, TK.hla, TK.hln, ?_⟩
      · rw [upd_ne nlr.symm, h4, take_snoc hx, putRows_snoc, List.length_append]
        show some (HO.ins A.c_Reader dx (rdF a _)) = some (HO.ins A.c_Reader dx (rdF a _))
        have : (PyFlat.putRow ls[j]).length = ls[j].length + 1 := rfl
        rw [this]
        congr 4
        omega
      · intro kk x hk
        rw [take_snoc hx] at hk
        by_cases hlt : kk < j
        · rw [List.getElem?_append_left (by rw [List.length_take]; omega)] at hk
          obtain ⟨q, q1, q2⟩ := TK.its kk x hk
          have qm := List.mem_of_getElem? q1
          refine ⟨q, by rw [List.getElem?_append_left (by rw [TK.len]; exact hlt)]; exact q1, ?_⟩
          rw [upd_ne (TK.lal q qm)]
          exact c4 _ _ q2 (fun e => by rw [e, TK.rd] at q2; cases q2)
        · have hl : (ls.take j).length = j := by rw [List.length_take]; omega
          have hkj : kk = j := by
            have := (List.getElem?_eq_some_iff.mp hk).1
            rw [List.length_append, hl] at this
            simp only [List.length_cons, List.length_nil] at this
            omega
          subst hkj
          rw [List.getElem?_append_right (by omega), hl, Nat.sub_self] at hk
          have : ls[kk] = x := by simpa using hk
          refine ⟨lq, by rw [List.getElem?_append_right (by rw [TK.len]; exact Nat.le_refl _), TK.len, Nat.sub_self]; rfl, ?_⟩
          rw [upd_ne nqa, ← this]
          exact hl4
      · intro q hq'
        rcases List.mem_append.mp hq' with z | z
        · exact TK.fr q z
        · rw [List.mem_singleton.mp z]; exact hlq0
      · intro q hq'
        rcases List.mem_append.mp hq' with z | z
        · exact TK.lal q z
        · rw [List.mem_singleton.mp z]; exact nqa
      · rw [upd_ne nll]
        exact c4 _ _ TK.num nlnr
      · intro b o e hb
        rw [upd_ne (ne_of_none e TK.hla)]
        exact c4 b o (TK.chg b o e hb) hb
    · rintro H3 ⟨las, TK⟩
      have hp3 := TK.chg _ _ hp npr
      have noL : ∀ x ∈ L, ∀ xs, H x = some (HO.lst xs) → H3 x = some (HO.lst xs) := fun x _ xs e => TK.chg _ _ e (ne_of e hr0 (by intro z; cases z))
      have R3 : RsAt A.c_Reserve H3 p st L := by
        unfold RsAt at hR ⊢
        cases e : st.land with
        | none =>
          rw [e] at hR
          obtain ⟨zL, z0, z1, z2, z3, z4, z5, z6, z8⟩ := hR
          exact ⟨zL, z0, z1, z2, z3, z4, z5, z6, TK.chg _ _ z8 npr⟩
        | some m =>
          rw [e] at hR
          obtain ⟨⟨z1, z3, z4, z5, z6, z7, z8, z9, z10, z11, z12⟩, ok, nl, nb⟩ := hR
          subst z7
          exact ⟨⟨z1, z3, z4, z5, z6, rfl, TK.chg _ _ z8 npr, noL _ (by simp) _ z9, noL _ (by simp) _ z10, noL _ (by simp) _ z11, noL _ (by simp) _ z12⟩, ok, nl, nb⟩
      have rd3 : H3 r = some (.ins A.c_Reader dx (rdF a ((i + (1 + nums.length + (PyFlat.putRows ls).length) : Nat) : Int))) := by
        have := TK.rd
        rw [List.take_length] at this
        rw [this]
        congr 4
        omega
      -- if call != LAND and not reserve.has_land()
      refine ⟨_, rfl, rfl, _, rfl, ?_⟩
      have fin : ∀ H4 : Hp, H4 = H3 → (c ≠ 0 → st.land.isSome = true) → CallIn A.c_Reserve H4 p st L ln la nums ls las → CallOut A.c_Reserve H4 p L las Q (Vbecao.step st ((c :: nums) :: ls)) := fun H4 e4' _ _ => by
        subst e4'
        intro H5 q L' hq5 h5 R5 hL5 c5
        have nqr : q ≠ r := fun e => by rw [e, TK.rd] at hq5; cases hq5
        have hq00 : H q = none := by
          cases e : H q with
          | none => rfl
          | some o => rw [TK.chg q o e nqr] at hq5; cases hq5
        refine k H5 q L' hq00 h5 R5 (c5 _ _ rd3 npr.symm) ?_ ?_
        · intro x hx
          rcases hL5 x hx with z | z | z
          · exact .inl z
          · exact .inr (TK.fr x z)
          · right
            cases e : H x with
            | none => rfl
            | some o =>
              by_cases q' : x = r
              · rw [q', TK.rd] at z; cases z
              · rw [TK.chg x o e q'] at z; cases z
        · intro b o e h1' h2'
          exact c5 b o (TK.chg b o e h2') h1'
      have CI : CallIn A.c_Reserve H3 p st L ln la nums ls las := ⟨R3, TK.num, TK.lst, by rw [TK.len], fun kk x hk => TK.its kk x (by rw [List.take_length]; exact hk), hsl⟩
      have go : (c ≠ 0 → st.land.isSome = true) → tRet (tCallV ((cxOf CX0 P w K mg base ["reserve", "reader", "call", "form", "numbers", "lists", "act", "each"] "answer_next" (defScope s_answer_next) A.f_answer_next cdv Ar outer s H E).nox) 6 (tCons (tVar 0) (tCons (tVar 4) (tCons (tVar 5) tNil)))) { nx := fun _ H' => Q .non H', rt := Q } [some (.ref p), some (.ref r), some (.int c), some (.ref tt), some (.ref ln), some (.ref la), some (.ref f), none] H3 := fun hl =>
        ⟨f, rfl, e3, _, rfl, _, rfl, _, rfl, 4, fd, _, _, e5, hr, e4, p, ln, la, st, L, nums, ls, las, rfl, CI, hl, rfl, rfl, fin H3 rfl hl CI⟩
      refine itb (decide (c ≠ 0)) (by rw [dec_int, Bool.eq_iff_iff]; simp) (fun q0 => ?_) (fun q0 => ?_)
      · refine ⟨_, rfl, p, dp, _, rfl, hp3, rs_no (by decide +kernel) (by decide +kernel) (by decide +kernel) (by decide +kernel) (by decide +kernel) (by decide +kernel), p, st, L, rfl, R3, _, rfl, ?_⟩
        refine itb (!st.land.isSome) rfl (fun q1 => ?_) (fun q1 => ?_)
        · have hn : st.land = none := by
            have := not_t q1
            cases e : st.land with
            | none => rfl
            | some m => rw [e] at this; cases this
          refine ⟨(by show 1 ≤ sizeLine; decide), fun x hx => ?_⟩
          have ko := fin H3 rfl
          have nxr : x ≠ r := fun e => by rw [e, TK.rd] at hx; cases hx
          have hx00 : H x = none := by
            cases e : H x with
            | none => rfl
            | some o => rw [TK.chg x o e nxr] at hx; cases hx
          have es := step_noland hsh (of_decide_eq_true q0) hn
          rw [es] at k
          refine k _ x L hx00 (by rw [upd_same]; rfl) (R3.same (same_new hx)) (same_new hx _ _ rd3) (fun y hy => .inl hy) fun b o e h1' h2' => same_new hx _ _ (TK.chg b o e h2')
        · refine ⟨_, rfl, tt, _, _, _, rfl, rfl, e2 _, at_of (j := 2) rfl rfl, ?_⟩
          exact go fun _ => not_f q1
      · refine ⟨_, rfl, tt, _, _, _, rfl, rfl, e2 _, at_of (j := 2) rfl rfl, ?_⟩
        exact go fun z => absurd (of_decide_eq_false q0) (by simpa using z)
end
end Lr
end
section
set_option Elab.async false
set_option linter.all false
set_option maxRecDepth 100000
set_option maxHeartbeats 2000000
namespace Lr
open PySem PySem.Spec PyProof.Rows L2
open Vbecao (Land numberOf members)
theorem rsAt_small {C : Addr} {H : Hp} {p : Addr} {st : Vbecao.State} {L : List Addr} (h : RsAt C H p st L) : Small st := by
  unfold RsAt at h
  cases e : st.land with
  | none =>
    rw [e] at h
    exact ⟨fun m hm => (by rw [e] at hm; cases hm), by rw [h.2.1]; rfl⟩
  | some m =>
    rw [e] at h
    refine ⟨fun m' hm => ?_, h.nl⟩
    rw [e] at hm
    cases hm
    exact ⟨h.ok.snd.sz, h.ok.snd.pl, h.ok.snd.kl⟩
theorem rsAt_move {C : Addr} {H H' : Hp} {p l : Addr} {st : Vbecao.State} {L : List Addr} {xs : List V} (h : RsAt C H p st L) (hl : H l = some (.lst xs)) (hL : l ∉ L) (c : Chg H H' l) : RsAt C H' p st L := by
  unfold RsAt at h ⊢
  cases e : st.land with
  | none =>
    rw [e] at h
    obtain ⟨h00, h0, dx, ht, pa, ka, ba, na, h2⟩ := h
    exact ⟨h00, h0, dx, ht, pa, ka, ba, na, c _ _ h2 (ne_of h2 hl (by intro z; cases z))⟩
  | some m =>
    rw [e] at h
    obtain ⟨⟨dx, pa, ka, ba, na, e, h1, h2, h3, h4, h5⟩, ok, nl, nb⟩ := h
    subst e
    have ne : ∀ q ∈ [pa, ka, ba, na], q ≠ l := fun q hq z => hL (z ▸ hq)
    exact ⟨⟨dx, pa, ka, ba, na, rfl, c _ _ h1 (ne_of h1 hl (by intro z; cases z)), c _ _ h2 (ne _ (by simp)), c _ _ h3 (ne _ (by simp)), c _ _ h4 (ne _ (by simp)), c _ _ h5 (ne _ (by simp))⟩, ok, nl, nb⟩
theorem put_append (x y : List (List (List Int))) : PyFlat.put (x ++ y) = PyFlat.put x ++ PyFlat.put y := by
  induction x with
  | nil => rfl
  | cons c r ih => show PyFlat.put1 c ++ PyFlat.put (r ++ y) = (PyFlat.put1 c ++ PyFlat.put r) ++ _; rw [ih, List.append_assoc]
structure Loop (C R : Addr) (H : Hp) (a r p l dx : Addr) (ns : List Int) (cs : List (List (List Int))) (n : Nat) (σ : L2.St) (H' : Hp) (done rest : List (List (List Int))) (st : Vbecao.State) (L : List Addr) (out : List Int) : Prop where
  n : n = rest.length
  cs : cs = done ++ rest
  sg : ∃ v4, σ = [some (.ref a), some (.ref r), some (.ref p), some (.ref l), v4]
  rs : RsAt C H' p st L
  nL : l ∉ L
  rd : H' r = some (.ins R dx (rdF a (((PyFlat.put done).length : Nat) : Int)))
  ls : H' l = some (.lst (iv out))
  eq : out ++ PyFlat.told (PyFlat.played Vbecao.step st rest) = PyVbecao.answers ns
  len : out.length ≤ 41 * done.length
  sm : Same H H'
def sp_answers (K : PySem.W.Frag) : Sp := fun vs H Q _ => ∃ a ns, vs = [.ref a] ∧ SqL K H a (iv ns) ∧ PyVbecao.answers_asked ns = true ∧ ∀ H' q, H' q = some (.lst (iv (PyVbecao.answers ns))) → Q (.ref q) H'
section
variable {P : Program} {w : World} {K : PySem.W.Frag} {mg : Str → Option Value} {base : Heap} {A : Ad}
theorem ok_answers (T : Txt K mg A) : FnOk P w K mg base CX0 6 A.f_answers A.fd_answers ["calls"] (sp_answers K) := by
  have G_Reader_init := ok_Reader_init (P := P) (w := w) (base := base) T
  have G_Reserve_init := ok_Reserve_init (P := P) (w := w) (base := base) T
  have G_Reader_has_more := ok_Reader_has_more (P := P) (w := w) (base := base) T
  have G_answer_next := ok_answer_next (P := P) (w := w) (base := base) T
  refine T.fn_answers.ok sc_answers (fun vs H Q E h => ?_) (fun cdv Ar outer s H vs Q E hr h => ?_)
  · obtain ⟨a, ns, rfl, _⟩ := h
    rfl
  · obtain ⟨a, ns, rfl, hq, hask, k⟩ := h
    obtain ⟨cs, ens, hcs, hlen, hans⟩ := asked_open hask
    refine ⟨_, (pss_cons (ps_set (i := 1) sc_answers.nd rfl (Or.inl rfl) (pe_make T.mk_Reader G_Reader_init (hr.mono (by decide)) rfl T.m_Reader T.bd_Reader_init .nil pass0 (pa_cons (pv 0) pa_nil)))
      (pss_cons (ps_set (i := 2) sc_answers.nd rfl (Or.inl rfl) (pe_make0 T.mk_Reserve G_Reserve_init (hr.mono (by decide)) rfl T.m_Reserve T.bd_Reserve_init .nil pass0))
      (pss_cons (ps_set (i := 3) sc_answers.nd rfl (Or.inl rfl) (pe_lst pa_nil))
      (pss_cons (ps_while PassesOwn.never (pt_val (pe_meth0 (pv 1) T.cl_Reader T.me_Reader_has_more G_Reader_has_more (hr.mono (by decide)) T.bd_Reader_has_more .nil pass0))
        (pss_cons (ps_set (i := 4) sc_answers.nd rfl (Or.inl rfl) (pe_call G_answer_next (hr.mono (by decide)) rfl T.m_answer_next T.kp_answer_next T.bd_answer_next .nil pass0 (pa_cons (pv 2) (pa_cons (pv 1) pa_nil))))
      (pss_cons (ps_expr (pe_bm PySem.F.plainAttrs_list PySem.F.slot_list_append PySem.F.type_list_append mt_append (pv 3) (pa_cons (pe_callB call_len_seq (by rfl) T.b_len PySem.boot_len (pa_cons (pv 4) pa_nil)) pa_nil)))
      (pss_one (ps_expr (pe_bm PySem.F.plainAttrs_list PySem.F.slot_list_extend PySem.F.type_list_extend mt_extend (pv 3) (pa_cons (pv 4) pa_nil)))))))
      (pss_one (ps_ret (pv 3))))))), ?_⟩
    -- reader = Reader(calls)
    refine ⟨_, rfl, fun r dx nr ndx nex => ⟨r, dx, a, rfl, upd_same, fun H1 h1 c1 => ⟨rfl, ?_⟩⟩⟩
    have s1 : Same H H1 := Same.made nr ndx c1
    -- reserve = Reserve()
    refine fun p dp np ndp nep => ⟨p, dp, rfl, upd_same, fun H2 L0 R2 hL0 c2 => ⟨rfl, ?_⟩⟩
    have s2 : Same H1 H2 := Same.made np ndp c2
    -- answered = []
    refine ⟨Nat.zero_le _, fun l hl => ?_⟩
    have s3 : Same H (upd H2 l (.lst [])) := (s1.trans s2).trans (same_new hl)
    have eL0 : L0 = [] := R2.1
    subst eL0
    have hr2 : H2 r = some (.ins A.c_Reader dx (rdF a 0)) := s2 _ _ h1
    refine ⟨fun n σ H' => ∃ done rest st L out, Loop A.c_Reserve A.c_Reader H a r p l dx ns cs n σ H' done rest st L out,
      ⟨cs.length, [], cs, Vbecao.start, [], [], rfl, rfl, ⟨none, rfl⟩, R2.same (same_new hl), by simp, same_new hl _ _ hr2, upd_same, by rw [hans]; rfl, Nat.zero_le _, s3⟩, ?_⟩
    rintro n σ H4 ⟨done, rest, st, L, out, I⟩
    obtain ⟨v4, rfl⟩ := I.sg
    have hq4 := I.sm.seq hq
    refine ⟨_, rfl, r, dx, _, rfl, I.rd, rd_no (by decide +kernel) (by decide +kernel), r, dx, a, _, ns, rfl, I.rd, hq4, _, rfl, ?_⟩
    have enl : ns.length = (PyFlat.put done).length + (PyFlat.put rest).length := by rw [ens, I.cs, put_append, List.length_append]
    have hsplit : ns.drop (PyFlat.put done).length = PyFlat.put rest := by rw [ens, I.cs, put_append, List.drop_left]
    cases hrest : rest with
    | nil =>
      subst hrest
      refine itb false ?_ (fun z => by cases z) (fun _ => ?_)
      · rw [enl]; simp [PyFlat.put]
      refine ⟨_, rfl, k H4 l ?_⟩
      rw [I.ls]
      have := I.eq
      simp only [PyFlat.played, PyFlat.told, List.flatMap_nil, List.append_nil] at this
      rw [this]
    | cons c rs =>
      subst hrest
      obtain ⟨pn, nums, ls, rfl, hsh, hsl⟩ := hcs c (by rw [I.cs]; simp)
      have hput : PyFlat.put (((pn :: nums) :: ls) :: rs) = (pn :: nums) ++ (PyFlat.putRows ls ++ PyFlat.put rs) := by
        show ((pn :: nums) ++ PyFlat.putRows ls) ++ PyFlat.put rs = _
        rw [List.append_assoc]
      refine itb true ?_ (fun _ => ?_) (fun z => by cases z)
      · rw [enl, hput]; simp; omega
      refine ⟨fun σ' H' => ∃ m', m' < n ∧ ∃ done rest st L out, Loop A.c_Reserve A.c_Reader H a r p l dx ns cs m' σ' H' done rest st L out, fun _ _ q => q, ?_⟩
      -- answer = answer_next(reserve, reader)
      refine ⟨_, rfl, _, rfl, p, r, dx, a, (PyFlat.put done).length, ns, st, L, pn, nums, ls, PyFlat.put rs, rfl, I.rs, I.rd, hq4, by rw [hsplit, hput], hsh, hsl, fun H5 q L' hq5 h5 R5 rd5 hL5 c5 => ?_⟩
      have hl5 : H5 l = some (.lst (iv out)) := by
        obtain ⟨dx', w', h', pa, ka, ba, na, hp', _⟩ := rsAt_obj I.rs
        exact c5 _ _ I.ls (ne_of I.ls hp' (by intro z; cases z)) (ne_of I.ls I.rd (by intro z; cases z))
      have nL5 : l ∉ L' := fun hm => by
        rcases hL5 l hm with z | z
        · exact I.nL z
        · rw [I.ls] at z; cases z
      have nql : q ≠ l := fun e => by rw [e, I.ls] at hq5; cases hq5
      have ol : (Vbecao.step st ((pn :: nums) :: ls)).2.length ≤ 40 := step_len (rsAt_small I.rs) _
      have dl : done.length < 400 := by
        have := hlen
        rw [I.cs, List.length_append, List.length_cons] at this
        omega
      have il := I.len
      -- answered.append(len(answer))
      refine ⟨_, rfl, .inl ⟨rfl, _, SqL.of hl5⟩, _, rfl, q, _, rfl, .inl (SqL.of h5), l, _, _, rfl, rfl, hl5, by rw [List.length_map, sizeLine_eq]; omega, ?_⟩
      -- answered.extend(answer)
      have hl6 : ∀ xs, (upd H5 l (.lst xs)) q = some (.lst (iv (Vbecao.step st ((pn :: nums) :: ls)).2)) := fun xs => by rw [upd_ne nql]; exact h5
      refine ⟨_, rfl, .inl ⟨rfl, _, SqL.of upd_same⟩, _, rfl, l, q, _, _, rfl, rfl, upd_same, hl6 _, ?_, ?_⟩
      · rw [List.length_append, List.length_map, List.length_map, sizeLine_eq]
        show out.length + 1 + _ ≤ _
        omega
      have cl : ∀ xs, Chg H5 (upd H5 l (.lst xs)) l := fun xs => Chg.upd
      rw [upd_upd]
      refine ⟨rs.length, by rw [I.n, List.length_cons]; omega, done ++ [(pn :: nums) :: ls], rs, (Vbecao.step st ((pn :: nums) :: ls)).1, L', out ++ ((((Vbecao.step st ((pn :: nums) :: ls)).2.length : Nat) : Int) :: (Vbecao.step st ((pn :: nums) :: ls)).2), rfl, by rw [I.cs, List.append_assoc]; rfl, ⟨_, rfl⟩, rsAt_move R5 hl5 nL5 (cl _), nL5, ?_, ?_, ?_, ?_, ?_⟩
      · rw [upd_ne (ne_of rd5 hl5 (by intro z; cases z)), rd5, put_append, List.length_append]
        congr 5
        show 1 + nums.length + _ = (((pn :: nums) ++ PyFlat.putRows ls) ++ []).length
        rw [List.append_nil, List.length_append, List.length_cons]
        omega
      · rw [upd_same]
        congr 2
        show iv out ++ [V.int _] ++ iv _ = iv (out ++ _)
        unfold iv
        rw [List.map_append, List.map_cons, List.append_assoc, List.length_map]
        rfl
      · rw [List.append_assoc]
        exact I.eq
      · rw [List.length_append, List.length_append, List.length_cons]
        show out.length + (_ + 1) ≤ 41 * (done.length + 1)
        omega
      · intro b o e
        have nb : b ≠ l := ne_of_none e ((s1.trans s2).free hl)
        have e4' := I.sm b o e
        rw [upd_ne nb]
        refine c5 b o e4' (fun z => ?_) (fun z => ?_)
        · rw [z] at e
          rw [s1.free np] at e
          cases e
        · rw [z, nr] at e; cases e
end
end Lr
end
section
set_option Elab.async false
set_option linter.all false
-- two twins that the head would else make for itself: one that nothing uses, one of the program; they keep the compiled file small
theorem PySem.W.Fast.te1414202140326129862 : True := trivial
noncomputable def PySem.W.Fast.tw2450780218299346329 : PySem.Program := PySem.Challenge.pw_landreserves_s01_answers
theorem PySem.W.Fast.te2450780218299346329 : PySem.Challenge.pw_landreserves_s01_answers = PySem.W.Fast.tw2450780218299346329 := rfl
open PySem PySem.W PyProof.Rows
set_option maxRecDepth 100000 in
set_option maxHeartbeats 0 in
theorem PySem.Challenge.cw_landreserves_s01_answers_holds : PySem.Challenge.rw_landreserves_s01_answers.Holds := by
  w_on; k_headS; (case hw => exact ⟨[.list [.int 1]], by decide +kernel, by decide +kernel⟩)
  k_fillS
  refine L2.walk_specK (r := PySem.Challenge.rw_landreserves_s01_answers) (k := 6) (CX := L2.CX0) (ps := ["calls"]) (sp := Lr.sp_answers) (by decide +kernel) rfl rfl ⟨rfl, by decide, by decide⟩ (fun w h Y => PySem.W.kIn_of Y) ?F ?S (fun _ _ _ _ z => z)
  case F =>
    intro w mg fa h Y KX G hmg
    have T : ∃ A : Lr.Ad, Lr.Txt (L2.KOf KX) mg A ∧ True := by
      dsimp only [L2.KOf]
      refine' Lr.txt_mk KX G ?aC_Reader ?aC_Reserve ?a_Reader_init ?i_Reader_init ?l_Reader_init ?c_Reader_init ?k_Reader_init ?a_Reader_has_more ?i_Reader_has_more ?l_Reader_has_more ?c_Reader_has_more ?k_Reader_has_more ?a_Reader_take_number ?i_Reader_take_number ?l_Reader_take_number ?c_Reader_take_number ?k_Reader_take_number ?a_Reader_take_numbers ?i_Reader_take_numbers ?l_Reader_take_numbers ?c_Reader_take_numbers ?k_Reader_take_numbers ?a_Reader_take_list ?i_Reader_take_list ?l_Reader_take_list ?c_Reader_take_list ?k_Reader_take_list ?a_Reserve_init ?i_Reserve_init ?l_Reserve_init ?c_Reserve_init ?k_Reserve_init ?a_Reserve_has_land ?i_Reserve_has_land ?l_Reserve_has_land ?c_Reserve_has_land ?k_Reserve_has_land ?a_Reserve_hold_land ?i_Reserve_hold_land ?l_Reserve_hold_land ?c_Reserve_hold_land ?k_Reserve_hold_land ?a_set_of ?l_set_of ?c_set_of ?k_set_of ?a_cells_of ?l_cells_of ?c_cells_of ?k_cells_of ?a_neighbours ?l_neighbours ?c_neighbours ?k_neighbours ?a_first_piece ?l_first_piece ?c_first_piece ?k_first_piece ?a_count_pieces ?l_count_pieces ?c_count_pieces ?k_count_pieces ?a_sets_in_one_piece ?l_sets_in_one_piece ?c_sets_in_one_piece ?k_sets_in_one_piece ?a_asked_sets ?l_asked_sets ?c_asked_sets ?k_asked_sets ?a_holders ?l_holders ?c_holders ?k_holders ?a_sum_over ?l_sum_over ?c_sum_over ?k_sum_over ?a_sums_over_all ?l_sums_over_all ?c_sums_over_all ?k_sums_over_all ?a_fits_without ?l_fits_without ?c_fits_without ?k_fits_without ?a_fitting_sets ?l_fitting_sets ?c_fitting_sets ?k_fitting_sets ?a_first_cheapest ?l_first_cheapest ?c_first_cheapest ?k_first_cheapest ?a_price_and_cells ?l_price_and_cells ?c_price_and_cells ?k_price_and_cells ?a_least_way ?l_least_way ?c_least_way ?k_least_way ?a_is_proof ?l_is_proof ?c_is_proof ?k_is_proof ?a_bound_of ?l_bound_of ?c_bound_of ?k_bound_of ?a_kept_kinds ?l_kept_kinds ?c_kept_kinds ?k_kept_kinds ?a_all_within ?l_all_within ?c_all_within ?k_all_within ?a_is_list_of ?l_is_list_of ?c_is_list_of ?k_is_list_of ?a_is_told_set ?l_is_told_set ?c_is_told_set ?k_is_told_set ?a_call_land ?l_call_land ?c_call_land ?k_call_land ?a_call_told ?l_call_told ?c_call_told ?k_call_told ?a_call_need ?l_call_need ?c_call_need ?k_call_need ?a_call_fits ?l_call_fits ?c_call_fits ?k_call_fits ?a_call_price ?l_call_price ?c_call_price ?k_call_price ?a_call_pieces ?l_call_pieces ?c_call_pieces ?k_call_pieces ?a_call_best ?l_call_best ?c_call_best ?k_call_best ?a_call_number ?l_call_number ?c_call_number ?k_call_number ?a_call_must ?l_call_must ?c_call_must ?k_call_must ?a_call_corridor ?l_call_corridor ?c_call_corridor ?k_call_corridor ?a_call_way ?l_call_way ?c_call_way ?k_call_way ?a_call_bound ?l_call_bound ?c_call_bound ?k_call_bound ?a_call_hardy ?l_call_hardy ?c_call_hardy ?k_call_hardy ?a_call_most ?l_call_most ?c_call_most ?k_call_most ?a_answer_next ?l_answer_next ?c_answer_next ?k_answer_next ?a_answers ?l_answers ?c_answers ?k_answers ?pg_Reader ?hd_Reader ?po_Reader ?sa_Reader ?mk_Reader ?kc_Reader ?n_Reader_line ?n_Reader_place ?pg_Reserve ?hd_Reserve ?po_Reserve ?sa_Reserve ?mk_Reserve ?kc_Reserve ?n_Reserve_width ?n_Reserve_height ?n_Reserve_prices ?n_Reserve_kinds ?n_Reserve_beside ?n_Reserve_needs ?g_KINDS ?g_MOST_SIDE ?g_MOST_CELLS ?g_MOST_PRICE ?g_MOST_HELD ?g_MOST_NEED ?g_MOST_TOLD ?g_MOST_DIVISOR ?g_MOST_WORTH ?g_MOST_REBATE ?g_MOST_LOST ?g_MOST_SPENT ?g_LAND ?g_NO_LAND ?g_NUMBER_OUT ?g_LIST_OUT ?g_NONE_FITS ?b_all ?b_enumerate ?b_len ?b_list ?b_max ?b_min ?b_range ?b_sum ?b_zip ?aD_CALLS ?k_CALLS ?u_CALLS_0 ?u_CALLS_1 ?u_CALLS_2 ?u_CALLS_3 ?u_CALLS_4 ?u_CALLS_5 ?u_CALLS_6 ?u_CALLS_7 ?u_CALLS_8 ?u_CALLS_9 ?u_CALLS_10 ?u_CALLS_11 ?u_CALLS_12 ?u_CALLS_13
      (case aC_Reader => k_is)
      (case aC_Reserve => k_is)
      (case a_Reader_init => k_is)
      (case i_Reader_init => k_is)
      (case l_Reader_init => k_is)
      (case c_Reader_init => k_is)
      (case k_Reader_init => k_is)
      (case a_Reader_has_more => k_is)
      (case i_Reader_has_more => k_is)
      (case l_Reader_has_more => k_is)
      (case c_Reader_has_more => k_is)
      (case k_Reader_has_more => k_is)
      (case a_Reader_take_number => k_is)
      (case i_Reader_take_number => k_is)
      (case l_Reader_take_number => k_is)
      (case c_Reader_take_number => k_is)
      (case k_Reader_take_number => k_is)
      (case a_Reader_take_numbers => k_is)
      (case i_Reader_take_numbers => k_is)
      (case l_Reader_take_numbers => k_is)
      (case c_Reader_take_numbers => k_is)
      (case k_Reader_take_numbers => k_is)
      (case a_Reader_take_list => k_is)
      (case i_Reader_take_list => k_is)
      (case l_Reader_take_list => k_is)
      (case c_Reader_take_list => k_is)
      (case k_Reader_take_list => k_is)
      (case a_Reserve_init => k_is)
      (case i_Reserve_init => k_is)
      (case l_Reserve_init => k_is)
      (case c_Reserve_init => k_is)
      (case k_Reserve_init => k_is)
      (case a_Reserve_has_land => k_is)
      (case i_Reserve_has_land => k_is)
      (case l_Reserve_has_land => k_is)
      (case c_Reserve_has_land => k_is)
      (case k_Reserve_has_land => k_is)
      (case a_Reserve_hold_land => k_is)
      (case i_Reserve_hold_land => k_is)
      (case l_Reserve_hold_land => k_is)
      (case c_Reserve_hold_land => k_is)
      (case k_Reserve_hold_land => k_is)
      (case a_set_of => k_is)
      (case l_set_of => k_is)
      (case c_set_of => k_is)
      (case k_set_of => k_is)
      (case a_cells_of => k_is)
      (case l_cells_of => k_is)
      (case c_cells_of => k_is)
      (case k_cells_of => k_is)
      (case a_neighbours => k_is)
      (case l_neighbours => k_is)
      (case c_neighbours => k_is)
      (case k_neighbours => k_is)
      (case a_first_piece => k_is)
      (case l_first_piece => k_is)
      (case c_first_piece => k_is)
      (case k_first_piece => k_is)
      (case a_count_pieces => k_is)
      (case l_count_pieces => k_is)
      (case c_count_pieces => k_is)
      (case k_count_pieces => k_is)
      (case a_sets_in_one_piece => k_is)
      (case l_sets_in_one_piece => k_is)
      (case c_sets_in_one_piece => k_is)
      (case k_sets_in_one_piece => k_is)
      (case a_asked_sets => k_is)
      (case l_asked_sets => k_is)
      (case c_asked_sets => k_is)
      (case k_asked_sets => k_is)
      (case a_holders => k_is)
      (case l_holders => k_is)
      (case c_holders => k_is)
      (case k_holders => k_is)
      (case a_sum_over => k_is)
      (case l_sum_over => k_is)
      (case c_sum_over => k_is)
      (case k_sum_over => k_is)
      (case a_sums_over_all => k_is)
      (case l_sums_over_all => k_is)
      (case c_sums_over_all => k_is)
      (case k_sums_over_all => k_is)
      (case a_fits_without => k_is)
      (case l_fits_without => k_is)
      (case c_fits_without => k_is)
      (case k_fits_without => k_is)
      (case a_fitting_sets => k_is)
      (case l_fitting_sets => k_is)
      (case c_fitting_sets => k_is)
      (case k_fitting_sets => k_is)
      (case a_first_cheapest => k_is)
      (case l_first_cheapest => k_is)
      (case c_first_cheapest => k_is)
      (case k_first_cheapest => k_is)
      (case a_price_and_cells => k_is)
      (case l_price_and_cells => k_is)
      (case c_price_and_cells => k_is)
      (case k_price_and_cells => k_is)
      (case a_least_way => k_is)
      (case l_least_way => k_is)
      (case c_least_way => k_is)
      (case k_least_way => k_is)
      (case a_is_proof => k_is)
      (case l_is_proof => k_is)
      (case c_is_proof => k_is)
      (case k_is_proof => k_is)
      (case a_bound_of => k_is)
      (case l_bound_of => k_is)
      (case c_bound_of => k_is)
      (case k_bound_of => k_is)
      (case a_kept_kinds => k_is)
      (case l_kept_kinds => k_is)
      (case c_kept_kinds => k_is)
      (case k_kept_kinds => k_is)
      (case a_all_within => k_is)
      (case l_all_within => k_is)
      (case c_all_within => k_is)
      (case k_all_within => k_is)
      (case a_is_list_of => k_is)
      (case l_is_list_of => k_is)
      (case c_is_list_of => k_is)
      (case k_is_list_of => k_is)
      (case a_is_told_set => k_is)
      (case l_is_told_set => k_is)
      (case c_is_told_set => k_is)
      (case k_is_told_set => k_is)
      (case a_call_land => k_is)
      (case l_call_land => k_is)
      (case c_call_land => k_is)
      (case k_call_land => k_is)
      (case a_call_told => k_is)
      (case l_call_told => k_is)
      (case c_call_told => k_is)
      (case k_call_told => k_is)
      (case a_call_need => k_is)
      (case l_call_need => k_is)
      (case c_call_need => k_is)
      (case k_call_need => k_is)
      (case a_call_fits => k_is)
      (case l_call_fits => k_is)
      (case c_call_fits => k_is)
      (case k_call_fits => k_is)
      (case a_call_price => k_is)
      (case l_call_price => k_is)
      (case c_call_price => k_is)
      (case k_call_price => k_is)
      (case a_call_pieces => k_is)
      (case l_call_pieces => k_is)
      (case c_call_pieces => k_is)
      (case k_call_pieces => k_is)
      (case a_call_best => k_is)
      (case l_call_best => k_is)
      (case c_call_best => k_is)
      (case k_call_best => k_is)
      (case a_call_number => k_is)
      (case l_call_number => k_is)
      (case c_call_number => k_is)
      (case k_call_number => k_is)
      (case a_call_must => k_is)
      (case l_call_must => k_is)
      (case c_call_must => k_is)
      (case k_call_must => k_is)
      (case a_call_corridor => k_is)
      (case l_call_corridor => k_is)
      (case c_call_corridor => k_is)
      (case k_call_corridor => k_is)
      (case a_call_way => k_is)
      (case l_call_way => k_is)
      (case c_call_way => k_is)
      (case k_call_way => k_is)
      (case a_call_bound => k_is)
      (case l_call_bound => k_is)
      (case c_call_bound => k_is)
      (case k_call_bound => k_is)
      (case a_call_hardy => k_is)
      (case l_call_hardy => k_is)
      (case c_call_hardy => k_is)
      (case k_call_hardy => k_is)
      (case a_call_most => k_is)
      (case l_call_most => k_is)
      (case c_call_most => k_is)
      (case k_call_most => k_is)
      (case a_answer_next => k_is)
      (case l_answer_next => k_is)
      (case c_answer_next => k_is)
      (case k_answer_next => k_is)
      (case a_answers => k_is)
      (case l_answers => k_is)
      (case c_answers => k_is)
      (case k_answers => k_is)
      (case pg_Reader => k_is)
      (case hd_Reader => k_is)
      (case po_Reader => k_is)
      (case sa_Reader => k_is)
      (case mk_Reader => k_is)
      (case kc_Reader => k_is)
      (case n_Reader_line => k_is)
      (case n_Reader_place => k_is)
      (case pg_Reserve => k_is)
      (case hd_Reserve => k_is)
      (case po_Reserve => k_is)
      (case sa_Reserve => k_is)
      (case mk_Reserve => k_is)
      (case kc_Reserve => k_is)
      (case n_Reserve_width => k_is)
      (case n_Reserve_height => k_is)
      (case n_Reserve_prices => k_is)
      (case n_Reserve_kinds => k_is)
      (case n_Reserve_beside => k_is)
      (case n_Reserve_needs => k_is)
      (case g_KINDS => k_is)
      (case g_MOST_SIDE => k_is)
      (case g_MOST_CELLS => k_is)
      (case g_MOST_PRICE => k_is)
      (case g_MOST_HELD => k_is)
      (case g_MOST_NEED => k_is)
      (case g_MOST_TOLD => k_is)
      (case g_MOST_DIVISOR => k_is)
      (case g_MOST_WORTH => k_is)
      (case g_MOST_REBATE => k_is)
      (case g_MOST_LOST => k_is)
      (case g_MOST_SPENT => k_is)
      (case g_LAND => k_is)
      (case g_NO_LAND => k_is)
      (case g_NUMBER_OUT => k_is)
      (case g_LIST_OUT => k_is)
      (case g_NONE_FITS => k_is)
      (case b_all => k_is)
      (case b_enumerate => k_is)
      (case b_len => k_is)
      (case b_list => k_is)
      (case b_max => k_is)
      (case b_min => k_is)
      (case b_range => k_is)
      (case b_sum => k_is)
      (case b_zip => k_is)
      (case aD_CALLS => k_is)
      (case k_CALLS => k_is)
      (case u_CALLS_0 => k_is)
      (case u_CALLS_1 => k_is)
      (case u_CALLS_2 => k_is)
      (case u_CALLS_3 => k_is)
      (case u_CALLS_4 => k_is)
      (case u_CALLS_5 => k_is)
      (case u_CALLS_6 => k_is)
      (case u_CALLS_7 => k_is)
      (case u_CALLS_8 => k_is)
      (case u_CALLS_9 => k_is)
      (case u_CALLS_10 => k_is)
      (case u_CALLS_11 => k_is)
      (case u_CALLS_12 => k_is)
      (case u_CALLS_13 => k_is)
    obtain ⟨A, T, _⟩ := T
    have e0 := hmg.symm.trans T.m_answers
    cases e0
    exact ⟨A.fd_answers, T.ba_answers, fun base _ _ => Lr.ok_answers T⟩
  case S =>
    intro K H xs a hO hwi hask hx
    cases hx with
    | cons h1 h2 =>
      cases h2
      cases h1 with
      | lst hs ha =>
        have e := L2.ints_dw a.1 _ ha
        subst e
        exact ⟨_, a.1, rfl, hs, hask, fun H' p hp => .lst (L2.SqL.of hp) (L2.dw_ints _)⟩
end
