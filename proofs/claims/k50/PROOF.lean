import PyProof.Rows.All
import Wide.All
import OpenK.AllK
import Wide.FinOn
import PyProof.EqAt
import PyProof.EqKinds
import PyProof.TupleCall
import KE.BitLaws
import PyProof.Rows.StrIntSpec
import KE.KSortTupG
import KE.KSortTup
import PyProof.Rows.SortG.SortRunsSt
import KE.KRevSl
import PyProof.Rows.SortShellAny
import PySem.Challenge.RW_evenblocks_k50_faults_of_days
set_option Elab.async false
set_option linter.all false
set_option maxRecDepth 100000
namespace L2
open PySem PySem.Spec PyProof.Rows
abbrev Key := Sum Int Str
def keyIs : Key → Value → Bool
  | .inl k, v => Value.isInt k v
  | .inr x, v => Value.isStrOf x v
def keyH (w : World) : Key → Int
  | .inl k => hashInt k
  | .inr x => hashStr w x
theorem keyIs_shape : ∀ {k : Key} {v : Value}, keyIs k v = true → (∃ i t, k = Sum.inl i ∧ v = Value.int i t) ∨ (∃ x t, k = Sum.inr x ∧ v = Value.str x t)
  | .inl i, v, h => by
    obtain ⟨t, e⟩ := Value.isInt_shape (k := i) (v := v) h
    exact .inl ⟨i, t, rfl, e⟩
  | .inr x, v, h => by
    obtain ⟨t, e⟩ := Value.isStrOf_shape (x := x) (v := v) h
    exact .inr ⟨x, t, rfl, e⟩
theorem keyIs_int (i : Int) (t : Tok) : keyIs (.inl i) (.int i t) = true := by simp [keyIs, Value.isInt]
theorem keyIs_str (x : Str) (t : Tok) : keyIs (.inr x) (.str x t) = true := by simp [keyIs, Value.isStrOf]
theorem key_ll (a b : Int) : decide ((Sum.inl a : Key) = Sum.inl b) = (a == b) := by
  by_cases e : a = b
  · subst e; simp
  · have h : ¬ (Sum.inl a : Key) = Sum.inl b := fun q => e (Sum.inl.inj q)
    rw [decide_eq_false h]
    exact (beq_eq_false_iff_ne.mpr e).symm
theorem key_rr (a b : Str) : decide ((Sum.inr a : Key) = Sum.inr b) = decide (a = b) := by
  by_cases e : a = b
  · subst e; simp
  · have h : ¬ (Sum.inr a : Key) = Sum.inr b := fun q => e (Sum.inr.inj q)
    rw [decide_eq_false h, decide_eq_false e]
theorem key_lr (a : Int) (b : Str) : decide ((Sum.inl a : Key) = Sum.inr b) = false := decide_eq_false (fun q => nomatch q)
theorem key_rl (a : Str) (b : Int) : decide ((Sum.inr a : Key) = Sum.inl b) = false := decide_eq_false (fun q => nomatch q)
def mixKind (prog : Program) (w : World) : PySem.KeyKind prog w Key where
  is := keyIs
  hash := keyH w
  inj := fun v a b ha hb => by
    rcases keyIs_shape ha with ⟨i, t, rfl, rfl⟩ | ⟨x, t, rfl, rfl⟩
    · rcases keyIs_shape hb with ⟨j, u, rfl, e⟩ | ⟨y, u, rfl, e⟩
      · injection e with e1 _; rw [e1]
      · exact nomatch e
    · rcases keyIs_shape hb with ⟨j, u, rfl, e⟩ | ⟨y, u, rfl, e⟩
      · exact nomatch e
      · injection e with e1 _; rw [e1]
  byValue := fun k v h => by
    rcases keyIs_shape h with ⟨i, t, rfl, rfl⟩ | ⟨x, t, rfl, rfl⟩ <;> rfl
  pyHash := fun hv h => by
    rcases keyIs_shape hv with ⟨i, t, rfl, rfl⟩ | ⟨x, t, rfl, rfl⟩
    · exact wpAny_pyHash_int h
    · exact wpAny_pyHash_str h
  eqBool := fun hu hv h => by
    rcases keyIs_shape hu with ⟨i, t, rfl, rfl⟩ | ⟨x, t, rfl, rfl⟩
    · rcases keyIs_shape hv with ⟨j, u, rfl, rfl⟩ | ⟨y, u, rfl, rfl⟩
      · rw [key_ll] at h; exact wpAny_eqBool_int h
      · rw [key_lr] at h; exact SeqAt.EqAt.int_str i t y u _ _ _ _ h
    · rcases keyIs_shape hv with ⟨j, u, rfl, rfl⟩ | ⟨y, u, rfl, rfl⟩
      · rw [key_rl] at h; exact SeqAt.EqAt.str_int x t j u _ _ _ _ h
      · rw [key_rr] at h; exact wpAny_eqBool_str h
  «strs» := fun k x t v h => by
    rcases keyIs_shape h with ⟨i, u, rfl, e⟩ | ⟨y, u, rfl, e⟩
    · exact nomatch e
    · injection e with e1 _
      subst e1
      cases v <;> rfl
theorem mixKind_int (prog : Program) (w : World) (i : Int) (t : Tok) : (mixKind prog w).is (.inl i) (.int i t) = true := keyIs_int i t
theorem mixKind_str (prog : Program) (w : World) (x : Str) (t : Tok) : (mixKind prog w).is (.inr x) (.str x t) = true := keyIs_str x t
end L2
namespace L2
open PySem PySem.Spec PyProof.Rows
inductive V where
  | non | bl (b : Bool) | int (i : Int) | str (x : Str) | byt (b : Array UInt8) | flt (b : UInt64) | ref (a : Addr) | ty (n : String)
  deriving DecidableEq
def RelV : V → Value → Prop
  | .non, u => u = Value.none
  | .bl b, u => u = Value.bool b
  | .int i, u => ∃ t, u = Value.int i t
  | .str x, u => ∃ t, u = Value.str x t
  | .byt b, u => ∃ t, u = Value.bytes b t
  | .flt b, u => ∃ t, u = Value.float b t
  | .ref a, u => u = Value.ref a
  | .ty n, u => u = Value.type n
abbrev Vals : List V → List Value → Prop := Paired RelV
theorem Vals.length {xs : List V} {us : List Value} (r : Vals xs us) : xs.length = us.length := Paired.length r
theorem Vals.get : ∀ {xs : List V} {us : List Value} {i : Nat} {x : V}, Vals xs us → xs[i]? = some x → ∃ u, us[i]? = some u ∧ RelV x u
  | _, _, _, _, .nil, e => by simp at e
  | _, _, 0, _, .cons r _, e => by simp at e; subst e; exact ⟨_, rfl, r⟩
  | _, _, i + 1, x, .cons _ t, e => by
    obtain ⟨u, h1, h2⟩ := Vals.get (i := i) (x := x) t (by simpa using e)
    exact ⟨u, by simpa using h1, h2⟩
theorem Vals.set {x : V} {u : Value} (r : RelV x u) : ∀ {xs : List V} {us : List Value} (i : Nat), Vals xs us → Vals (xs.set i x) (us.set i u)
  | _, _, _, .nil => .nil
  | _, _, 0, .cons _ t => .cons r t
  | _, _, i + 1, .cons q t => .cons q (Vals.set r i t)
theorem Vals.append : ∀ {xs ys : List V} {us ws : List Value}, Vals xs us → Vals ys ws → Vals (xs ++ ys) (us ++ ws)
  | _, _, _, _, .nil, s => s
  | _, _, _, _, .cons r t, s => .cons r (Vals.append t s)
theorem Vals.take : ∀ {xs : List V} {us : List Value} (n : Nat), Vals xs us → Vals (xs.take n) (us.take n)
  | _, _, 0, _ => .nil
  | _, _, _ + 1, .nil => .nil
  | _, _, n + 1, .cons r t => .cons r (Vals.take n t)
theorem Vals.drop : ∀ {xs : List V} {us : List Value} (n : Nat), Vals xs us → Vals (xs.drop n) (us.drop n)
  | _, _, 0, r => r
  | _, _, _ + 1, .nil => .nil
  | _, _, n + 1, .cons _ t => Vals.drop n t
def RelO : Option V → Option Value → Prop
  | some v, some u => RelV v u
  | none, none => True
  | _, _ => False
def KV {κ : Type} : List (κ × V) → List (κ × Value) → Prop := Paired fun (p : κ × V) (q : κ × Value) => p.1 = q.1 ∧ RelV p.2 q.2
def kV : Key → V
  | .inl i => .int i
  | .inr x => .str x
inductive HO where
  /-- a list -/
  | lst (xs : List V)
  /-- a tuple (never changes) -/
  | tup (xs : List V)
  /-- a dict whose keys are ints and texts; one whose keys are tuples of ints and texts (the empty one is both) -/
  | dK (kvs : List (Key × V)) | dT (kvs : List (List Key × V))
  /-- a set of ints: its members, its size -/
  | set (S : Int → Bool) (n : Nat)
  /-- an instance of the class at C, its dict at dx, its attributes -/
  | ins (C dx : Addr) (fs : List (Str × V))
  /-- the dict of the instance at x -/
  | own (x : Addr)
  /-- the dict of an exception -/
  | xd (fs : List (Str × V))
  /-- a bound method, f of x -/
  | met (f x : Addr)
  /-- a range object lo, lo + 1, .. below hi -/
  | rng (lo hi : Int)
  /-- a thing that is known to the object (the script; a dict while a loop walks it): read, never written while it is so -/
  | frz (o : Obj) (u : HO)
  /-- a code object's table -/
  | tbl (ps : Array Value)
  /-- any other thing, by what is true of its one object (a def of one's own: SetO a S n := HO.ext fun h => ..) -/
  | ext (φ : Heap → Prop)
abbrev Hp := Addr → Option HO
def upd (H : Hp) (a : Addr) (o : HO) : Hp := fun b => if b = a then some o else H b
theorem upd_same {H : Hp} {a : Addr} {o : HO} : upd H a o a = some o := by unfold upd; rw [if_pos rfl]
theorem upd_ne {H : Hp} {a b : Addr} {o : HO} (h : b ≠ a) : upd H a o b = H b := by unfold upd; rw [if_neg h]
theorem ne_of {H : Hp} {a b : Addr} {o u : HO} (h : H a = some o) (h' : H b = some u) (d : o ≠ u) : a ≠ b := by
  intro e; subst e; rw [h] at h'; exact d (Option.some.inj h')
theorem ne_of_none {H : Hp} {a b : Addr} {o : HO} (h : H a = some o) (h' : H b = none) : a ≠ b := by
  intro e; subst e; rw [h] at h'; cases h'
section
variable (P : Program) (w : World)
def ObjOk (H : Hp) (h : Heap) (a : Addr) : HO → Prop
  | .lst xs => xs.length ≤ sizeLine ∧ ∃ (its : List Value) (n : Nat), Vals xs its ∧ h.get? a = some { cls := .type "list", data := .seq its.toArray n }
  | .tup xs => xs.length ≤ sizeLine ∧ ∃ its : List Value, Vals xs its ∧ IsTup h a its.toArray
  | .dK kvs => kvs.length ≤ sizeLine ∧ (a == sysModules) = false ∧ ∃ vs, KV kvs vs ∧ h.DictOf (mixKind P w) a vs
  | .dT kvs => kvs.length ≤ sizeLine ∧ (a == sysModules) = false ∧ ∃ xs : List (List Key × Addr × Value),
      Paired (fun (p : List Key × V) (q : List Key × Addr × Value) => p.1 = q.1 ∧ H q.2.1 = some (.tup (p.1.map kV)) ∧ RelV p.2 q.2.2) kvs xs ∧
      ∃ o es ep, h.get? a = some o ∧ o.ExactDict ∧ o.data = .dict es ep ∧ es.toList = xs.map (entryOfKey (tupleKind (mixKind P w))) ∧ (xs.map (·.1)).Nodup
  | .set S n => h.SetOf (intKind P w) a S n
  | .ins C dx fs => H dx = some (.own a) ∧ fs.length ≤ 1000 ∧ dx ≠ a ∧ h.get? a = some (PySem.W.instObj C dx) ∧
      ∃ mA, h.Ns1 dx mA ∧ (∀ f, RelO (fs.lookup f) (mA f)) ∧ PySem.Within mA (fs.map (·.1))
  | .own _ => ∃ o, h.get? a = some o
  | .xd fs => ∃ mA, h.Ns1 a mA ∧ ∀ f, RelO (fs.lookup f) (mA f)
  | .rng lo hi => ∃ t u v, h.get? a = some { cls := .type "range", data := .fields #[.int lo t, .int hi u, .int 1 v] }
  | .frz o u => h.get? a = some o ∧ ObjOk H h a u
  | .tbl ps => h.get? a = some { cls := .none, data := .fields ps }
  | .met f x => h.get? a = some (PySem.W.methodObj (.ref f) (.ref x))
  | .ext φ => φ h ∧ (∃ o, h.get? a = some o) ∧ ∀ h1 h2 : Heap, φ h1 → (∀ o, h1.get? a = some o → h2.get? a = some o) → φ h2
def HOk (H : Hp) (h : Heap) : Prop := ∀ a o, H a = some o → ObjOk P w H h a o
end
section
variable {P : Program} {w : World} {H H' : Hp} {h h' : Heap} {a : Addr} {o : HO}
theorem ObjOk.lt (x : ObjOk P w H h a o) : a < h.objs.size := by
  cases o with
  | lst xs => obtain ⟨_, _, _, _, e⟩ := x; exact Heap.lt_size e
  | tup xs => obtain ⟨_, _, _, p⟩ := x; exact p.lt
  | dK kvs => obtain ⟨_, _, _, _, o, _, _, e, _⟩ := x; exact Heap.lt_size e
  | dT kvs => obtain ⟨_, _, _, _, o, _, _, e, _⟩ := x; exact Heap.lt_size e
  | set S n => obtain ⟨o, _, _, _, e, _⟩ := x; exact Heap.lt_size e
  | ins C dx fs => obtain ⟨_, _, _, e, _⟩ := x; exact Heap.lt_size e
  | own y => obtain ⟨_, e⟩ := x; exact Heap.lt_size e
  | xd fs => obtain ⟨_, ⟨_, _, _, e, _⟩, _⟩ := x; exact Heap.lt_size e
  | rng lo hi => obtain ⟨_, _, _, e⟩ := x; exact Heap.lt_size e
  | frz ob u => obtain ⟨e, _⟩ := x; exact Heap.lt_size e
  | tbl ps => exact Heap.lt_size (show h.get? a = some _ from x)
  | met f y => exact Heap.lt_size (show h.get? a = some _ from x)
  | ext φ => obtain ⟨_, ⟨_, e⟩, _⟩ := x; exact Heap.lt_size e
theorem Paired.mapP {α β : Type} {F G : α → β → Prop} : ∀ {l₁ : List α} {l₂ : List β}, Paired F l₁ l₂ → (∀ a b, F a b → G a b) → Paired G l₁ l₂
  | _, _, .nil, _ => .nil
  | _, _, .cons r t, f => .cons (f _ _ r) (Paired.mapP t f)
theorem ObjOk.stay (x : ObjOk P w H h a o) (k : ∀ b u, (b = a ∨ H b = some (.own a)) → h.get? b = some u → h'.get? b = some u)
    (ho : ∀ b, H b = some (.own a) → H' b = some (.own a)) (ht : ∀ b xs, H b = some (.tup xs) → H' b = some (.tup xs)) : ObjOk P w H' h' a o := by
  induction o with
  | lst xs => obtain ⟨z, its, n, r, e⟩ := x; exact ⟨z, its, n, r, k _ _ (.inl rfl) e⟩
  | tup xs => obtain ⟨z, its, r, ob, e, c⟩ := x; exact ⟨z, its, r, ob, k _ _ (.inl rfl) e, c⟩
  | dK kvs => obtain ⟨z, y, vs, r, ob, es, ep, e, c⟩ := x; exact ⟨z, y, vs, r, ob, es, ep, k _ _ (.inl rfl) e, c⟩
  | dT kvs =>
    obtain ⟨z, y, xs, r, ob, es, ep, e, c⟩ := x
    exact ⟨z, y, xs, Paired.mapP r fun p q z => ⟨z.1, ht _ _ z.2.1, z.2.2⟩, ob, es, ep, k _ _ (.inl rfl) e, c⟩
  | set S n => obtain ⟨ob, es, ep, t, e, c⟩ := x; exact ⟨ob, es, ep, t, k _ _ (.inl rfl) e, c⟩
  | ins C dx fs =>
    obtain ⟨d, z, ne, e, mA, ⟨od, es, ep, e2, c⟩, r⟩ := x
    exact ⟨ho _ d, z, ne, k _ _ (.inl rfl) e, mA, ⟨od, es, ep, k _ _ (.inr d) e2, c⟩, r⟩
  | own y => obtain ⟨ob, e⟩ := x; exact ⟨ob, k _ _ (.inl rfl) e⟩
  | xd fs => obtain ⟨mA, ⟨od, es, ep, e, c⟩, r⟩ := x; exact ⟨mA, ⟨od, es, ep, k _ _ (.inl rfl) e, c⟩, r⟩
  | rng lo hi => obtain ⟨t, u, v, e⟩ := x; exact ⟨t, u, v, k _ _ (.inl rfl) e⟩
  | frz ob u ih => obtain ⟨e, q⟩ := x; exact ⟨k _ _ (.inl rfl) e, ih q⟩
  | tbl ps =>
    have e : h.get? a = some { cls := .none, data := .fields ps } := x
    show h'.get? a = some { cls := .none, data := .fields ps }
    exact k a _ (.inl rfl) e
  | met f y =>
    have e : h.get? a = some (PySem.W.methodObj (.ref f) (.ref y)) := x
    show h'.get? a = some (PySem.W.methodObj (.ref f) (.ref y))
    exact k a _ (.inl rfl) e
  | ext φ => obtain ⟨p, ⟨o, e⟩, st⟩ := x; exact ⟨st _ _ p fun o q => k _ _ (.inl rfl) q, ⟨o, k _ _ (.inl rfl) e⟩, st⟩
theorem HOk.lt (x : HOk P w H h) (e : H a = some o) : a < h.objs.size := (x a o e).lt
theorem HOk.fresh (x : HOk P w H h) (e : h.objs.size ≤ a) : H a = none := by
  cases q : H a with
  | none => rfl
  | some u => exact absurd (Nat.lt_of_lt_of_le (x.lt q) e) (Nat.lt_irrefl _)
theorem HOk.kept (x : HOk P w H h) (k : ∀ b u, h.get? b = some u → h'.get? b = some u) : HOk P w H h' := fun a o e =>
  (x a o e).stay (fun b u _ q => k b u q) (fun _ q => q) fun _ _ q => q
theorem HOk.laid (x : HOk P w H h) (k : ∀ b u, h.get? b = some u → h'.get? b = some u) (hp : h.objs.size ≤ a) (new : ObjOk P w (upd H a o) h' a o) : HOk P w (upd H a o) h' := fun b u e => by
  have hn := x.fresh hp
  by_cases hb : b = a
  · subst hb; rw [upd_same] at e; cases e; exact new
  · rw [upd_ne hb] at e
    exact (x b u e).stay (fun c v _ q => k c v q) (fun c q => by rw [upd_ne (ne_of_none q hn)]; exact q) fun c xs q => by rw [upd_ne (ne_of_none q hn)]; exact q
end
def Rd (H : Hp) (a : Addr) (u : HO) : Prop := H a = some u ∨ ∃ o, H a = some (.frz o u)
theorem Rd.ok {P : Program} {w : World} {H : Hp} {h : Heap} {a : Addr} {u : HO} (r : Rd H a u) (x : HOk P w H h) : ObjOk P w H h a u := by
  rcases r with r | ⟨o, r⟩
  · exact x a u r
  · obtain ⟨_, q⟩ := x a _ r
    exact q
def Mut : Option HO → Prop
  | some (.lst _) => True
  | some (.dK _) => True
  | some (.dT _) => True
  | some (.set _ _) => True
  | some (.ins _ _ _) => True
  | some (.ext _) => True
  | _ => False
section
variable {P : Program} {w : World} {H : Hp} {h h' : Heap} {x e : Addr} {o' : HO}
theorem HOk.write (ok : HOk P w H h) (mu : Mut (H x)) (he : e = x ∨ H e = some (.own x)) (k : ∀ b u, b ≠ e → h.get? b = some u → h'.get? b = some u) (heo : ∃ u, h'.get? e = some u)
    (new : ObjOk P w (upd H x o') h' x o') : HOk P w (upd H x o') h' := fun b u q => by
  have nown : ∀ c y, H c = some (.own y) → c ≠ x := fun c y r z => by subst z; rw [r] at mu; exact mu
  have ntup : ∀ c xs, H c = some (.tup xs) → c ≠ x := fun c xs r z => by subst z; rw [r] at mu; exact mu
  by_cases hb : b = x
  · subst hb; rw [upd_same] at q; cases q; exact new
  · rw [upd_ne hb] at q
    by_cases hbe : b = e
    · have q' : H b = some (.own x) := by
        rcases he with z | z
        · exact absurd (hbe.trans z) hb
        · rw [hbe]; exact z
      rw [q] at q'; cases q'
      obtain ⟨v, hv⟩ := heo
      exact ⟨v, by rw [hbe]; exact hv⟩
    · refine (ok b u q).stay (fun c v hc r => k c v ?_ r) (fun c r => by rw [upd_ne (nown c b r)]; exact r) fun c xs r => by rw [upd_ne (ntup c xs r)]; exact r
      rcases hc with rfl | hc
      · exact hbe
      · rintro rfl
        rcases he with z | z
        · exact nown c b hc z
        · rw [hc] at z; cases z; exact hb rfl
end
structure Un (fs ex : List Addr) (H H' : Hp) (h h' : Heap) : Prop where
  keep : ∀ b o, h.get? b = some o → H b = none → b ∉ fs → b ∉ ex → h'.get? b = some o
  slot : ∀ b o, h.get? b = some o → H b = none → b ∈ fs → b ∉ ex → ∃ sl, h'.get? b = some { o with slots := sl }
  free : ∀ b o, h.get? b = some o → H b = none → b ∉ ex → H' b = none
  there : ∀ b o, h.get? b = some o → b ∉ ex → ∃ o', h'.get? b = some o'
  tups : ∀ b xs, H b = some (.tup xs) → H' b = some (.tup xs)
  frzs : ∀ b o u, H b = some (.frz o u) → H' b = some (.frz o u)
  tbls : ∀ b ps, H b = some (.tbl ps) → ∃ more, H' b = some (.tbl (ps ++ more))
section
variable {fs fs' ex ex' : List Addr} {H H1 H2 : Hp} {h h1 h2 h' : Heap} {a x e : Addr} {o : HO}
theorem Un.any (u : Un fs ex H H1 h h1) {b : Addr} {ob : Obj} (q : h.get? b = some ob) (n : H b = none) (hx : b ∉ ex) : ∃ sl, h1.get? b = some { ob with slots := sl } := by
  by_cases hb : b ∈ fs
  · exact u.slot b ob q n hb hx
  · exact ⟨ob.slots, u.keep b ob q n hb hx⟩
theorem Un.kept (k : ∀ b u, h.get? b = some u → h'.get? b = some u) : Un fs ex H H h h' :=
  ⟨fun b ob q _ _ _ => k b ob q, fun b ob q _ _ _ => ⟨ob.slots, k b ob q⟩, fun _ _ _ n _ => n, fun b ob q _ => ⟨ob, k b ob q⟩, fun _ _ q => q, fun _ _ _ q => q, fun _ ps q => ⟨#[], by rw [q]; simp⟩⟩
theorem Un.refl : Un fs ex H H h h := Un.kept fun _ _ q => q
theorem Un.laid (k : ∀ b u, h.get? b = some u → h'.get? b = some u) (hp : h.objs.size ≤ a) (hn : H a = none) : Un fs ex H (upd H a o) h h' where
  keep := fun b u q _ _ _ => k b u q
  slot := fun b u q _ _ _ => ⟨u.slots, k b u q⟩
  free := fun b u q n _ => by rw [upd_ne (Nat.ne_of_lt (Nat.lt_of_lt_of_le (Heap.lt_size q) hp))]; exact n
  there := fun b u q _ => ⟨u, k b u q⟩
  tups := fun b xs q => by rw [upd_ne (ne_of_none q hn)]; exact q
  frzs := fun b u xs q => by rw [upd_ne (ne_of_none q hn)]; exact q
  tbls := fun b ps q => ⟨#[], by rw [upd_ne (ne_of_none q hn), q]; simp⟩
theorem Un.write (mu : Mut (H x)) (he : e = x ∨ H e = some (.own x)) (k : ∀ b u, b ≠ e → h.get? b = some u → h'.get? b = some u) (heo : ∃ u, h'.get? e = some u) : Un fs ex H (upd H x o) h h' := by
  have hx : ∀ b, H b = none → b ≠ x := fun b n z => by subst z; rw [n] at mu; exact mu
  have hb : ∀ b, H b = none → b ≠ e := fun b n z => by
    subst z
    rcases he with r | r
    · exact hx b n r
    · rw [n] at r; cases r
  have hm : ∀ b u, H b = some u → ¬ Mut (some u) → b ≠ x := fun b u q nm z => by subst z; rw [q] at mu; exact nm mu
  refine ⟨fun b u q n _ _ => k b u (hb b n) q, fun b u q n _ _ => ⟨u.slots, k b u (hb b n) q⟩, fun b u q n _ => by rw [upd_ne (hx b n)]; exact n, fun b u q _ => ?_,
    fun b xs q => by rw [upd_ne (hm b _ q fun z => z)]; exact q, fun b u xs q => by rw [upd_ne (hm b _ q fun z => z)]; exact q, fun b ps q => ⟨#[], by rw [upd_ne (hm b _ q fun z => z), q]; simp⟩⟩
  by_cases hbe : b = e
  · subst hbe; exact heo
  · exact ⟨u, k b u hbe q⟩
end
def trk (h : Heap) (H : Hp) : List Addr := (List.range h.objs.size).filter fun a => (H a).isSome
def hidT (h : Heap) (H : Hp) : Heap := PySem.W.hideAll h (trk h H)
theorem hidT_size (h : Heap) (H : Hp) : (hidT h H).objs.size = h.objs.size := PySem.W.hideAll_size _ _
theorem hidT_get {h : Heap} {H : Hp} {b : Addr} {o : Obj} (e : h.get? b = some o) (n : H b = none) : (hidT h H).get? b = some o :=
  PySem.W.hideAll_get _ e fun hm => by
    have q : (H b).isSome = true := (List.mem_filter.mp hm).2
    rw [n] at q; simp at q
theorem of_hidT {h : Heap} {H : Hp} {b : Addr} {o : Obj} (e : (hidT h H).get? b = some o) : h.get? b = some o ∧ H b = none := by
  have e' : h.get? b = some o := PySem.W.of_hideAll (trk h H) e
  refine ⟨e', ?_⟩
  cases q : H b with
  | none => rfl
  | some x =>
    have hm : b ∈ trk h H := List.mem_filter.mpr ⟨List.mem_range.mpr (Heap.lt_size e'), by simp [q]⟩
    have z : (hidT h H).get? b = none := PySem.W.hideAll_none (trk h H) hm
    rw [z] at e; cases e
def allNews (g h : Heap) (L : Addr) : List (Addr × Obj) := (List.range h.objs.size).filterMap fun a => if a = L ∨ (g.get? a).isSome = true then none else (h.get? a).map fun o => (a, o)
def rest (g h : Heap) (L d : Addr) : List (Addr × Obj) := (allNews g h L).filter fun p => decide (p.1 ≠ d)
end L2
namespace L2
open PySem PySem.Spec PyProof.Rows
structure Mod (K : PySem.W.Frag) (mg : Str → Option Value) (base : Heap) : Prop where
  kin : K.In base
  glob : base.Ns mainGlobals mg
  blt : ∃ mb, base.Ns builtinsNs mb ∧ ∀ x : Str, x ≠ "__name__" → mb x = bootBuiltins x
  nolimit : base.NoLimit
/-- the context: a def's body (or a comprehension's block) running. base: fixed through the whole law; s₀, H₀: the entry; outer: the frames whose slots others may change (a def's callers); stack: all frames that run;
   ex: iterators that were made ahead of the entry and are walked here (a comprehension's); fn: the names whose cells were made at the entry (a def: all; a comprehension's block: its own); calm: not within an except suite; pn: pins that every state bears; xe: what is wanted of an exception that leaves the code -/
structure Cx where
  prog : Program
  w : World
  K : PySem.W.Frag
  mg : Str → Option Value
  base : Heap
  A : Around
  N : List Str
  s_0 : Shared
  H_0 : Hp
  env : Env
  outer : List Env
  stack : List Env
  ex : List Addr
  fn : Str → Bool
  calm : Bool
  pn : List (Addr × Obj)
  xe : Value → Shared → Prop
def frs (l : List Env) : List Addr := l.filterMap (·.frame)
abbrev Cx.fs (X : Cx) : List Addr := frs X.outer
def Vis (sc : Scope) (x : Str) : Prop := sc.names.lookup x = some .local ∨ sc.names.lookup x = some .cell ∨ sc.names.lookup x = some .free
def Loc (sc : Scope) (x : Str) : Prop := sc.names.lookup x = some .local ∨ sc.names.lookup x = some .cell
def Look (env : Env) (h : Heap) (m : Str → Option Value) (x : Str) (u : Value) : Prop :=
  (env.kindOf x = some .local ∧ m x = some u) ∨ ((env.kindOf x = some .cell ∨ env.kindOf x = some .free) ∧ ∃ c, env.cells.lookup x = some c ∧ h.IsCell c (some u))
structure Cx.Ok (X : Cx) : Prop where
  mod : Mod X.K X.mg X.base
  kind : X.env.scope.kind = .function
  glob : X.env.globals = mainGlobals
  blt : X.env.builtins = builtinsNs
  above : X.s_0.heap.objs.size ≤ X.env.locals
  inj : ∀ x y c, X.env.cells.lookup x = some c → X.env.cells.lookup y = some c → x = y
  has : ∀ x, (X.env.kindOf x = some .cell ∨ X.env.kindOf x = some .free) → ∃ c, X.env.cells.lookup x = some c
  cab : ∀ x c, X.fn x = true → X.env.cells.lookup x = some c → X.s_0.heap.objs.size ≤ c
  hd : X.calm = true → X.A.handled = none
  frames : X.A.frames = some X.stack
  stk : X.stack = X.outer ∨ (X.stack = X.env :: X.outer ∧ X.env.frame = some X.env.locals)
  exf : ∀ b ∈ X.ex, b ≠ X.env.locals ∧ ∀ x c, X.env.cells.lookup x = some c → c ≠ b
  bs : ∀ b o, X.base.get? b = some o → X.s_0.heap.get? b = some o ∧ X.H_0 b = none
  bsz : X.base.objs.size ≤ X.s_0.heap.objs.size
  noex : ∀ b o, X.base.get? b = some o → b ∉ X.ex
  exfs : ∀ b ∈ X.ex, b ∉ X.fs
  funs : X.s_0.heap.FunFrames X.base X.outer
  frf : ∀ b ∈ X.fs, X.H_0 b = none
structure Inv (X : Cx) (pins : List (Addr × Obj)) (σ : List (Option V)) (H : Hp) (s : Shared) : Prop where
  ok : X.Ok
  os : s.os = X.s_0.os
  bare : AllBare s.gens
  base : Un X.fs X.ex X.H_0 H X.s_0.heap s.heap
  loc : ∃ m, s.heap.Ns X.env.locals m ∧ ∀ (i : Nat) (x : Str) (v : V), X.N[i]? = some x → σ[i]? = some (some v) → Vis X.env.scope x → ∃ u, RelV v u ∧ Look X.env s.heap m x u
  cell : ∀ x c, X.env.cells.lookup x = some c → ∃ v, s.heap.IsCell c v
  free : H X.env.locals = none
  freeC : ∀ x c, X.env.cells.lookup x = some c → H c = none
  pin : ∀ p ∈ X.pn ++ pins, s.heap.get? p.1 = some p.2 ∧ H p.1 = none ∧ p.1 ≠ X.env.locals ∧ p.1 ∉ X.fs ∧ ∀ v, p.2.data ≠ .cell v
  hok : HOk X.prog X.w H s.heap
  len : σ.length = X.N.length
section
variable {X : Cx} {pins : List (Addr × Obj)} {σ : List (Option V)} {H H' : Hp} {s : Shared} {h' : Heap}
theorem Cx.Ok.nofr (ok : X.Ok) {b : Addr} {o : Obj} (e : X.base.get? b = some o) : b ∉ X.fs := fun hb => by
  have := (ok.funs.mem hb).1
  rw [e] at this; cases this
theorem Inv.bs (I : Inv X pins σ H s) : ∀ b o, X.base.get? b = some o → s.heap.get? b = some o ∧ H b = none := fun b o e =>
  ⟨I.base.keep b o (I.ok.bs b o e).1 (I.ok.bs b o e).2 (I.ok.nofr e) (I.ok.noex b o e), I.base.free b o (I.ok.bs b o e).1 (I.ok.bs b o e).2 (I.ok.noex b o e)⟩
theorem Inv.bk (I : Inv X pins σ H s) : ∀ b o, X.base.get? b = some o → s.heap.get? b = some o := fun b o e => (I.bs b o e).1
theorem Inv.mod (I : Inv X pins σ H s) : Mod X.K X.mg X.base := I.ok.mod
theorem Inv.kIn (I : Inv X pins σ H s) : X.K.In s.heap := I.ok.mod.kin.keeps I.bk
theorem Inv.fr (I : Inv X pins σ H s) : ∃ m, Fr X.base X.env.locals s.heap m :=
  let ⟨m, hn, _⟩ := I.loc
  ⟨m, hn, I.bk, Nat.le_trans I.ok.bsz I.ok.above⟩
theorem Inv.lt (I : Inv X pins σ H s) : X.env.locals < s.heap.objs.size := let ⟨_, hn, _⟩ := I.loc; hn.lt
theorem Inv.sz (I : Inv X pins σ H s) : X.s_0.heap.objs.size ≤ s.heap.objs.size := Nat.le_trans I.ok.above (Nat.le_of_lt I.lt)
theorem Inv.nofs (I : Inv X pins σ H s) {a : Addr} (h : s.heap.objs.size ≤ a) : a ∉ X.fs := fun hb => by
  obtain ⟨_, o, ho, _⟩ := I.ok.funs.mem hb
  exact absurd (Nat.lt_of_lt_of_le (Heap.lt_size ho) (Nat.le_trans I.sz h)) (Nat.lt_irrefl _)
theorem Inv.cne (I : Inv X pins σ H s) : ∀ x c, X.env.cells.lookup x = some c → c ≠ X.env.locals := fun x c e z => by
  obtain ⟨v, o, ho, hd⟩ := I.cell x c e
  obtain ⟨m, ⟨o', es, ep, ho', hd', _⟩, _⟩ := I.loc
  rw [z, ho'] at ho; cases ho; rw [hd'] at hd; cases hd
theorem Inv.funs (I : Inv X pins σ H s) : s.heap.FunFrames X.base X.outer := by
  have all : ∀ (l : List Env), (∀ b ∈ frs l, b ∈ X.fs) → X.s_0.heap.FunFrames X.base l → s.heap.FunFrames X.base l := by
    intro l
    induction l with
    | nil => intro _ _; trivial
    | cons env r ih =>
      intro hs hl
      obtain ⟨hk, ⟨L, o, hf, hn, ho, hd⟩, hr⟩ := hl
      have hL : L ∈ X.fs := hs L (by unfold frs; rw [List.filterMap_cons, hf]; exact List.mem_cons_self)
      obtain ⟨sl, e⟩ := I.base.slot L o ho (I.ok.frf L hL) hL fun z => I.ok.exfs L z hL
      exact ⟨hk, ⟨L, _, hf, hn, e, hd⟩, ih (fun b hb => hs b (by unfold frs; rw [List.filterMap_cons, hf]; exact List.mem_cons_of_mem _ hb)) hr⟩
  exact all X.outer (fun _ hb => hb) I.ok.funs
theorem Inv.stack (I : Inv X pins σ H s) : s.heap.FunFrames X.base X.stack := by
  rcases I.ok.stk with e | ⟨e, hf⟩
  · rw [e]; exact I.funs
  · rw [e]
    obtain ⟨m, hn, _⟩ := I.loc
    refine .cons (by rw [I.ok.kind]; decide) hf hn ?_ I.funs
    exact Heap.get?_none_of_le (Nat.le_trans I.ok.bsz I.ok.above)
theorem Inv.stkSub (I : Inv X pins σ H s) : ∀ b ∈ frs X.stack, b ∈ X.env.locals :: X.fs := fun b hb => by
  rcases I.ok.stk with e | ⟨e, hf⟩
  · rw [e] at hb; exact List.mem_cons_of_mem _ hb
  · rw [e] at hb
    unfold frs at hb
    rw [List.filterMap_cons, hf] at hb
    exact hb
theorem Inv.stkFree (I : Inv X pins σ H s) : ∀ b ∈ frs X.stack, H b = none := fun b hb => by
  rcases List.mem_cons.mp (I.stkSub b hb) with e | hb
  · rw [e]; exact I.free
  · obtain ⟨_, o, ho, _⟩ := I.ok.funs.mem hb
    exact I.base.free b o ho (I.ok.frf b hb) fun z => I.ok.exfs b z hb
theorem Inv.step {g' : Array GenState} {t' : Nat} {d' : Drawn} {ch : List Addr} (I : Inv X pins σ H s)
    (hch : ∀ b ∈ ch, (b ∈ X.ex ∨ X.s_0.heap.objs.size ≤ b) ∧ b ≠ X.env.locals ∧ (∀ x c, X.env.cells.lookup x = some c → c ≠ b) ∧ ∀ p ∈ X.pn ++ pins, p.1 ≠ b)
    (keep : ∀ b o, b ≠ X.env.locals → b ∉ X.fs → b ∉ ch → s.heap.get? b = some o → H b = none → h'.get? b = some o)
    (slot : ∀ b o, b ≠ X.env.locals → b ∈ X.fs → b ∉ ch → s.heap.get? b = some o → H b = none → ∃ sl, h'.get? b = some { o with slots := sl }) (free : ∀ b o, b ∉ ch → s.heap.get? b = some o → H b = none → H' b = none)
    (there : ∀ b o, b ∉ ch → s.heap.get? b = some o → ∃ o', h'.get? b = some o')
    (tups : ∀ b xs, H b = some (.tup xs) → H' b = some (.tup xs)) (frzs : ∀ b o u, H b = some (.frz o u) → H' b = some (.frz o u)) (tbls : ∀ b ps, H b = some (.tbl ps) → ∃ more, H' b = some (.tbl (ps ++ more)))
    (ns : ∀ m, s.heap.Ns X.env.locals m → h'.Ns X.env.locals m) (hok : HOk X.prog X.w H' h') (hg : AllBare g') :
    Inv X pins σ H' { s with heap := h', gens := g', drawn := d', toks := t' } := by
  have neL : ∀ b o, X.s_0.heap.get? b = some o → b ≠ X.env.locals := fun b o e => Nat.ne_of_lt (Nat.lt_of_lt_of_le (Heap.lt_size e) I.ok.above)
  have neC : ∀ b o, X.s_0.heap.get? b = some o → b ∉ X.ex → b ∉ ch := fun b o e hx hb => by
    rcases (hch b hb).1 with z | z
    · exact hx z
    · exact absurd (Nat.lt_of_lt_of_le (Heap.lt_size e) z) (Nat.lt_irrefl _)
  have cellK : ∀ x c, X.env.cells.lookup x = some c → ∀ v, s.heap.IsCell c v → h'.IsCell c v := fun x c e v ⟨o, ho, hd⟩ => by
    have nch : c ∉ ch := fun z => (hch c z).2.2.1 x c e rfl
    by_cases hc : c ∈ X.fs
    · obtain ⟨sl, q⟩ := slot c o (I.cne x c e) hc nch ho (I.freeC x c e)
      exact ⟨_, q, hd⟩
    · exact ⟨o, keep c o (I.cne x c e) hc nch ho (I.freeC x c e), hd⟩
  refine ⟨I.ok, I.os, hg, ⟨fun b o e n hb hx => ?_, fun b o e n hb hx => ?_, fun b o e n hx => ?_, fun b o e hx => ?_, fun b xs e => tups b xs (I.base.tups b xs e), fun b o xs e => frzs b o xs (I.base.frzs b o xs e), fun b ps e => ?_⟩, ?_, fun x c e => ?_, ?_, fun x c e => ?_, fun p hp => ?_, hok, I.len⟩
  · exact keep b o (neL b o e) hb (neC b o e hx) (I.base.keep b o e n hb hx) (I.base.free b o e n hx)
  · obtain ⟨sl, e1⟩ := I.base.slot b o e n hb hx
    obtain ⟨sl', e2⟩ := slot b _ (neL b o e) hb (neC b o e hx) e1 (I.base.free b o e n hx)
    exact ⟨sl', e2⟩
  · obtain ⟨o', e1⟩ := I.base.there b o e hx
    exact free b o' (neC b o e hx) e1 (I.base.free b o e n hx)
  · obtain ⟨o', e1⟩ := I.base.there b o e hx
    exact there b o' (neC b o e hx) e1
  · obtain ⟨m1, e1⟩ := I.base.tbls b ps e
    obtain ⟨m2, e2⟩ := tbls b _ e1
    exact ⟨m1 ++ m2, by rw [e2, Array.append_assoc]⟩
  · obtain ⟨m, hn, hl⟩ := I.loc
    refine ⟨m, ns m hn, fun i x v e1 e2 e3 => ?_⟩
    obtain ⟨u, r, l⟩ := hl i x v e1 e2 e3
    refine ⟨u, r, ?_⟩
    rcases l with l | ⟨k, c, e, z⟩
    · exact .inl l
    · exact .inr ⟨k, c, e, cellK x c e _ z⟩
  · obtain ⟨v, z⟩ := I.cell x c e
    exact ⟨v, cellK x c e v z⟩
  · obtain ⟨m, ⟨o, _, _, ho, _⟩, _⟩ := I.loc
    exact free _ o (fun z => (hch _ z).2.1 rfl) ho I.free
  · obtain ⟨v, o, ho, hd⟩ := I.cell x c e
    exact free c o (fun z => (hch c z).2.2.1 x c e rfl) ho (I.freeC x c e)
  · obtain ⟨e, n, ne, nf, d⟩ := I.pin p hp
    have nch : p.1 ∉ ch := fun z => (hch p.1 z).2.2.2 p hp rfl
    exact ⟨keep p.1 p.2 ne nf nch e n, free p.1 p.2 nch e n, ne, nf, d⟩
theorem Inv.un {t' : Nat} (I : Inv X pins σ H s) (u : Un X.fs [] H H' s.heap h') (hok : HOk X.prog X.w H' h') : Inv X pins σ H' { s with heap := h', toks := t' } := by
  obtain ⟨m, ⟨o, es, ep, ho, r⟩, _⟩ := id I.loc
  obtain ⟨sl, hL⟩ := u.any ho I.free (by simp)
  exact I.step (g' := s.gens) (d' := s.drawn) (ch := []) (fun _ z => nomatch z) (fun b o _ hb _ e n => u.keep b o e n hb (by simp)) (fun b o _ hb _ e n => u.slot b o e n hb (by simp)) (fun b o _ e n => u.free b o e n (by simp)) (fun b o _ e => u.there b o e (by simp)) u.tups u.frzs u.tbls (fun m' hm => by
    obtain ⟨o', es', ep', ho', r'⟩ := hm
    rw [ho] at ho'; cases ho'
    exact ⟨_, es', ep', hL, r'⟩) hok I.bare
theorem Inv.call {g' : Array GenState} {t' : Nat} {d' : Drawn} {ch : List Addr} (I : Inv X pins σ H s) (u : Un (frs X.stack) ch H H' s.heap h') (hok : HOk X.prog X.w H' h') (hg : AllBare g')
    (hch : ∀ b ∈ ch, (b ∈ X.ex ∨ X.s_0.heap.objs.size ≤ b) ∧ b ≠ X.env.locals ∧ (∀ x c, X.env.cells.lookup x = some c → c ≠ b) ∧ ∀ p ∈ X.pn ++ pins, p.1 ≠ b) :
    Inv X pins σ H' { s with heap := h', gens := g', drawn := d', toks := t' } := by
  obtain ⟨m, ⟨o, es, ep, ho, r⟩, _⟩ := id I.loc
  obtain ⟨sl, hL⟩ := u.any ho I.free fun z => (hch _ z).2.1 rfl
  exact I.step (ch := ch) hch (fun b o hL hb hc e n => u.keep b o e n (fun z => (List.mem_cons.mp (I.stkSub b z)).elim hL hb) hc) (fun b o _ _ hc e n => u.any e n hc) (fun b o hc e n => u.free b o e n hc) (fun b o hc e => u.there b o e hc) u.tups u.frzs u.tbls (fun m' hm => by
    obtain ⟨o', es', ep', ho', r'⟩ := hm
    rw [ho] at ho'; cases ho'
    exact ⟨_, es', ep', hL, r'⟩) hok hg
theorem Inv.turned {t' : Nat} {it : Addr} (I : Inv X pins σ H s) (k : ∀ b o, b ≠ it → s.heap.get? b = some o → h'.get? b = some o) (hn : H it = none) (hL : it ≠ X.env.locals)
    (h1 : it ∈ X.ex ∨ X.s_0.heap.objs.size ≤ it) (h2 : ∀ x c, X.env.cells.lookup x = some c → c ≠ it) (h3 : ∀ p ∈ X.pn ++ pins, p.1 ≠ it) : Inv X pins σ H { s with heap := h', toks := t' } := by
  have nit : ∀ b u, H b = some u → b ≠ it := fun b u e z => by rw [z, hn] at e; cases e
  refine I.step (g' := s.gens) (d' := s.drawn) (ch := [it]) (fun b hb => ?_) (fun b o _ _ hc e _ => k b o (fun z => hc (by simp [z])) e) (fun b o _ _ hc e _ => ⟨o.slots, k b o (fun z => hc (by simp [z])) e⟩) (fun _ _ _ _ n => n)
    (fun b o hc e => ⟨o, k b o (fun z => hc (by simp [z])) e⟩) (fun _ _ e => e) (fun _ _ _ e => e) (fun b ps e => ⟨#[], by rw [e]; simp⟩) (fun m hm => ?_) (fun b u e => ?_) I.bare
  · have e : b = it := by simpa using hb
    subst e
    exact ⟨h1, hL, h2, h3⟩
  · obtain ⟨o, es, ep, ho, r⟩ := hm
    exact ⟨o, es, ep, k _ o (Ne.symm hL) ho, r⟩
  · refine (I.hok b u e).stay (fun c v hc q => k c v ?_ q) (fun _ q => q) fun _ _ q => q
    rcases hc with z | z
    · rw [z]; exact nit b u e
    · exact nit c _ z
theorem Inv.tok (I : Inv X pins σ H s) (t : Nat) : Inv X pins σ H { s with toks := t } := I.un (h' := s.heap) (t' := t) Un.refl I.hok
theorem Inv.kept {t' : Nat} (I : Inv X pins σ H s) (k : ∀ b u, s.heap.get? b = some u → h'.get? b = some u) : Inv X pins σ H { s with heap := h', toks := t' } := I.un (Un.kept k) (I.hok.kept k)
theorem Inv.laid {a : Addr} {o : HO} {t' : Nat} (I : Inv X pins σ H s) (k : ∀ b u, s.heap.get? b = some u → h'.get? b = some u) (hp : s.heap.objs.size ≤ a) (new : ObjOk X.prog X.w (upd H a o) h' a o) :
    Inv X pins σ (upd H a o) { s with heap := h', toks := t' } := I.un (Un.laid k hp (I.hok.fresh hp)) (I.hok.laid k hp new)
theorem Inv.write {x e : Addr} {o : HO} {t' : Nat} (I : Inv X pins σ H s) (mu : Mut (H x)) (he : e = x ∨ H e = some (.own x)) (k : ∀ b u, b ≠ e → s.heap.get? b = some u → h'.get? b = some u) (heo : ∃ u, h'.get? e = some u)
    (new : ObjOk X.prog X.w (upd H x o) h' x o) : Inv X pins σ (upd H x o) { s with heap := h', toks := t' } := I.un (Un.write mu he k heo) (I.hok.write mu he k heo new)
theorem Inv.weak {σ' : List (Option V)} (I : Inv X pins σ H s) (hl : σ'.length = σ.length) (w : ∀ (i : Nat) v, σ'[i]? = some (some v) → σ[i]? = some (some v)) : Inv X pins σ' H s :=
  ⟨I.ok, I.os, I.bare, I.base, let ⟨m, hn, hl'⟩ := I.loc; ⟨m, hn, fun i x v e1 e2 e3 => hl' i x v e1 (w i v e2) e3⟩, I.cell, I.free, I.freeC, I.pin, I.hok, hl.trans I.len⟩
theorem Inv.pins_of {pins' : List (Addr × Obj)} (I : Inv X pins σ H s) (h : ∀ p ∈ pins', s.heap.get? p.1 = some p.2 ∧ H p.1 = none ∧ p.1 ≠ X.env.locals ∧ p.1 ∉ X.fs ∧ ∀ v, p.2.data ≠ .cell v) : Inv X pins' σ H s :=
  ⟨I.ok, I.os, I.bare, I.base, I.loc, I.cell, I.free, I.freeC, fun p hp => (List.mem_append.mp hp).elim (fun z => I.pin p (List.mem_append_left _ z)) (h p), I.hok, I.len⟩
theorem nodup_ix {N : List Str} (hN : N.Nodup) {i j : Nat} {x : Str} (a : N[i]? = some x) (b : N[j]? = some x) : i = j := by
  obtain ⟨h1, e1⟩ := List.getElem?_eq_some_iff.mp a
  obtain ⟨h2, e2⟩ := List.getElem?_eq_some_iff.mp b
  exact (List.getElem_inj hN).mp (e1.trans e2.symm)
theorem store_ok2 {M : Model} {A : Around} {E : Value → Shared → Prop} {i : Nat} {x : Str} {v : V} {u : Value} {Q : Unit → Shared → Prop} (I : Inv X pins σ H s) (hN : X.N.Nodup) (hi : X.N[i]? = some x) (hx : Loc X.env.scope x) (r : RelV v u)
    (h : ∀ s', Inv X pins (σ.set i (some v)) H s' → (∃ a, Heap.SameBut a s.heap s'.heap ∧ (a = X.env.locals ∨ X.env.cells.lookup x = some a)) → Q () s') (hf : X.fn x = true ∨ X.env.scope.names.lookup x = some .local := by first | exact .inl rfl | exact .inr rfl | assumption) : wpAny M A (storeName X.env x u) Q E s := by
  obtain ⟨m, hn, hl⟩ := id I.loc
  have hcls : (X.env.scope.kind == .class || (X.env.scope.kind == .module && X.env.locals != X.env.globals)) = false := by rw [I.ok.kind]; rfl
  have hiσ : i < σ.length := by rw [I.len]; exact (List.getElem?_eq_some_iff.mp hi).1
  have cne := I.cne
  have tracked : ∀ {a : Addr} {h' : Heap}, (∃ o, s.heap.get? a = some o ∧ H a = none) → Heap.SameBut a s.heap h' → HOk X.prog X.w H h' := fun {a h'} ha hs b ob e => by
    obtain ⟨_, _, hfree⟩ := ha
    refine (I.hok b ob e).stay (fun c w' hc q => (hs.2 c ?_).trans q) (fun _ q => q) fun _ _ q => q
    rintro rfl
    rcases hc with rfl | hc
    · rw [hfree] at e; cases e
    · rw [hfree] at hc; cases hc
  rcases hx with hk | hk
  · refine wpAny_storeName_local hk hn (fun h' hn' hs => ?_) hcls
    obtain ⟨oL, _, _, hoL, _⟩ := id hn
    refine h _ ⟨I.ok, I.os, I.bare, ⟨fun b o e n hb hx => ?_, fun b o e n hb hx => ?_, I.base.free, fun b o e hx => ?_, I.base.tups, I.base.frzs, I.base.tbls⟩, ⟨_, hn', fun j y v' e1 e2 e3 => ?_⟩, fun y c e => ?_, I.free, I.freeC, fun p hp => ?_, tracked ⟨oL, hoL, I.free⟩ hs, by simpa using I.len⟩ ⟨_, hs, .inl rfl⟩
    · exact (hs.2 b (Nat.ne_of_lt (Nat.lt_of_lt_of_le (Heap.lt_size e) I.ok.above))).trans (I.base.keep b o e n hb hx)
    · obtain ⟨sl, e1⟩ := I.base.slot b o e n hb hx
      exact ⟨sl, (hs.2 b (Nat.ne_of_lt (Nat.lt_of_lt_of_le (Heap.lt_size e) I.ok.above))).trans e1⟩
    · obtain ⟨o', e1⟩ := I.base.there b o e hx
      exact ⟨o', (hs.2 b (Nat.ne_of_lt (Nat.lt_of_lt_of_le (Heap.lt_size e) I.ok.above))).trans e1⟩
    · by_cases hj : j = i
      · subst hj
        rw [hi] at e1; cases e1
        rw [List.getElem?_set_self hiσ] at e2
        cases e2
        exact ⟨u, r, .inl ⟨hk, by simp⟩⟩
      · rw [List.getElem?_set_ne (Ne.symm hj)] at e2
        obtain ⟨u', r', q⟩ := hl j y v' e1 e2 e3
        refine ⟨u', r', ?_⟩
        rcases q with ⟨k, e⟩ | ⟨k, c, e, z⟩
        · refine .inl ⟨k, ?_⟩
          have : y ≠ x := fun e => hj (nodup_ix hN e1 (e ▸ hi))
          simp [this, e]
        · exact .inr ⟨k, c, e, z.sameBut hs (cne y c e)⟩
    · obtain ⟨w', z⟩ := I.cell y c e
      exact ⟨w', z.sameBut hs (cne y c e)⟩
    · obtain ⟨e, n, ne, nf, d⟩ := I.pin p hp
      exact ⟨(hs.2 p.1 ne).trans e, n, ne, nf, d⟩
  · have hfn : X.fn x = true := by
      rcases hf with z | z
      · exact z
      · rw [z] at hk; cases hk
    obtain ⟨c, hc⟩ := I.ok.has x (.inl hk)
    obtain ⟨w', z⟩ := I.cell x c hc
    refine wpAny_storeName_cell I.ok.kind hk hc z (fun h' hc' hs => ?_)
    obtain ⟨oc, hoc, hocd⟩ := id z
    refine h { s with heap := h' } ⟨I.ok, I.os, I.bare, ⟨fun b o e n hb hx => ?_, fun b o e n hb hx => ?_, I.base.free, fun b o e hx => ?_, I.base.tups, I.base.frzs, I.base.tbls⟩, ⟨m, hn.sameBut hs (Ne.symm (cne x c hc)), fun j y v' e1 e2 e3 => ?_⟩, fun y c' e => ?_, I.free, I.freeC, fun p hp => ?_, tracked ⟨oc, hoc, I.freeC x c hc⟩ hs, by simpa using I.len⟩ ⟨c, hs, .inr hc⟩
    · exact (hs.2 b (Nat.ne_of_lt (Nat.lt_of_lt_of_le (Heap.lt_size e) (I.ok.cab x c hfn hc)))).trans (I.base.keep b o e n hb hx)
    · obtain ⟨sl, e1⟩ := I.base.slot b o e n hb hx
      exact ⟨sl, (hs.2 b (Nat.ne_of_lt (Nat.lt_of_lt_of_le (Heap.lt_size e) (I.ok.cab x c hfn hc)))).trans e1⟩
    · obtain ⟨o', e1⟩ := I.base.there b o e hx
      exact ⟨o', (hs.2 b (Nat.ne_of_lt (Nat.lt_of_lt_of_le (Heap.lt_size e) (I.ok.cab x c hfn hc)))).trans e1⟩
    · by_cases hj : j = i
      · subst hj
        rw [hi] at e1; cases e1
        rw [List.getElem?_set_self hiσ] at e2
        cases e2
        exact ⟨u, r, .inr ⟨.inl hk, c, hc, hc'⟩⟩
      · rw [List.getElem?_set_ne (Ne.symm hj)] at e2
        obtain ⟨u', r', q⟩ := hl j y v' e1 e2 e3
        refine ⟨u', r', ?_⟩
        rcases q with q | ⟨k, c', e, z'⟩
        · exact .inl q
        · refine .inr ⟨k, c', e, z'.sameBut hs ?_⟩
          rintro rfl
          exact hj (nodup_ix hN e1 (I.ok.inj _ _ _ e hc ▸ hi))
    · by_cases hcc : c' = c
      · subst hcc; exact ⟨_, hc'⟩
      · obtain ⟨w2, z2⟩ := I.cell y c' e
        exact ⟨w2, z2.sameBut hs hcc⟩
    · obtain ⟨e, n, ne, nf, d⟩ := I.pin p hp
      refine ⟨(hs.2 p.1 ?_).trans e, n, ne, nf, d⟩
      intro q
      rw [q, hoc] at e
      have q' : oc = p.2 := Option.some.inj e
      exact d w' (by rw [← q']; exact hocd)
theorem store_ok {M : Model} {A : Around} {E : Value → Shared → Prop} {i : Nat} {x : Str} {v : V} {u : Value} {Q : Unit → Shared → Prop} (I : Inv X pins σ H s) (hN : X.N.Nodup) (hi : X.N[i]? = some x) (hx : Loc X.env.scope x) (r : RelV v u)
    (h : ∀ s', Inv X pins (σ.set i (some v)) H s' → Q () s') (hf : X.fn x = true ∨ X.env.scope.names.lookup x = some .local := by first | exact .inl rfl | exact .inr rfl | assumption) : wpAny M A (storeName X.env x u) Q E s :=
  store_ok2 I hN hi hx r (fun s' I' _ => h s' I') hf
theorem Inv.call' {s' : Shared} {ch : List Addr} (I : Inv X pins σ H s) (ho : s'.os = s.os) (u : Un (frs X.stack) ch H H' s.heap s'.heap) (hok : HOk X.prog X.w H' s'.heap) (hg : AllBare s'.gens)
    (hch : ∀ b ∈ ch, (b ∈ X.ex ∨ X.s_0.heap.objs.size ≤ b) ∧ b ≠ X.env.locals ∧ (∀ x c, X.env.cells.lookup x = some c → c ≠ b) ∧ ∀ p ∈ X.pn ++ pins, p.1 ≠ b) : Inv X pins σ H' s' := by
  obtain ⟨h', g', d', t', o'⟩ := s'
  have e : o' = s.os := ho
  subst e
  exact I.call (g' := g') (t' := t') (d' := d') u hok hg hch
end
abbrev XK := Value → Option Addr → Hp → Prop
abbrev St := List (Option V)
abbrev VK := V → Hp → Prop
abbrev TE := St → Hp → VK → Prop
abbrev TT := St → Hp → (Bool → Hp → Prop) → Prop
abbrev TA := St → Hp → (List V → Hp → Prop) → Prop
structure Ends where
  nx : St → Hp → Prop
  rt : VK
  bk : St → Hp → Prop := fun _ _ => False
  ct : St → Hp → Prop := fun _ _ => False
abbrev TS := Ends → St → Hp → Prop
def EP (X : Cx) (pins : List (Addr × Obj)) (σ : St) (Q : VK) (u : Value) (s' : Shared) : Prop := ∃ v H', Inv X pins σ H' s' ∧ RelV v u ∧ Q v H'
def TP (X : Cx) (pins : List (Addr × Obj)) (σ : St) (Q : Bool → Hp → Prop) (b : Bool) (s' : Shared) : Prop := ∃ H', Inv X pins σ H' s' ∧ Q b H'
def AP (X : Cx) (pins : List (Addr × Obj)) (σ : St) (Q : List V → Hp → Prop) (us : List Value) (s' : Shared) : Prop := ∃ vs H', Inv X pins σ H' s' ∧ Vals vs us ∧ Q vs H'
def SP (X : Cx) (pins : List (Addr × Obj)) (D : Ends) (f : Flow) (s' : Shared) : Prop :=
  match f with
  | .next => ∃ σ' H', Inv X pins σ' H' s' ∧ D.nx σ' H'
  | .brk => ∃ σ' H', Inv X pins σ' H' s' ∧ D.bk σ' H'
  | .cont => ∃ σ' H', Inv X pins σ' H' s' ∧ D.ct σ' H'
  | .ret u => ∃ v σ' H', Inv X pins σ' H' s' ∧ RelV v u ∧ D.rt v H'
def PE (X : Cx) (e : Expr) (t : TE) : Prop :=
  ∀ (pins : List (Addr × Obj)) (s : Shared) (σ : St) (H : Hp) (Q : VK), Inv X pins σ H s → t σ H Q → wpAny (model X.prog X.w) X.A (eval e X.env) (EP X pins σ Q) X.xe s
def PT (X : Cx) (e : Expr) (t : TT) : Prop :=
  ∀ (pins : List (Addr × Obj)) (s : Shared) (σ : St) (H : Hp) (Q : Bool → Hp → Prop), Inv X pins σ H s → t σ H Q → wpAny (model X.prog X.w) X.A (isTrue e X.env (eval e X.env)) (TP X pins σ Q) X.xe s
def PW (X : Cx) (e : Expr) (t : TT) : Prop :=
  ∀ (whole : Sem Value) (pins : List (Addr × Obj)) (s : Shared) (σ : St) (H : Hp) (Q : Bool → Hp → Prop), Inv X pins σ H s → t σ H Q → wpAny (model X.prog X.w) X.A (isTrue e X.env whole) (TP X pins σ Q) X.xe s
theorem PW.pt {X : Cx} {e : Expr} {t : TT} (h : PW X e t) : PT X e t := h _
def PA (X : Cx) (es : List Expr) (t : TA) : Prop :=
  ∀ (pos : Pos) (pins : List (Addr × Obj)) (s : Shared) (σ : St) (H : Hp) (Q : List V → Hp → Prop), Inv X pins σ H s → t σ H Q → wpAny (model X.prog X.w) X.A (spliced (backTo pos (starEach es X.env))) (AP X pins σ Q) X.xe s
def PS (X : Cx) (st : Stmt) (t : TS) : Prop :=
  ∀ (pins : List (Addr × Obj)) (s : Shared) (σ : St) (H : Hp) (D : Ends), Inv X pins σ H s → t D σ H → wpAny (model X.prog X.w) X.A (exec st X.env) (SP X pins D) X.xe s
def PSs (X : Cx) (st : List Stmt) (t : TS) : Prop :=
  ∀ (pins : List (Addr × Obj)) (s : Shared) (σ : St) (H : Hp) (D : Ends), Inv X pins σ H s → t D σ H → wpAny (model X.prog X.w) X.A (execs st X.env) (SP X pins D) X.xe s
theorem thn {α : Type} {t : Sem α} {Q Q' : α → Shared → Prop} {M : Model} {A : Around} {E : Value → Shared → Prop} {s : Shared} (h : wpAny M A t Q E s) (hQ : ∀ a s, Q a s → Q' a s) : wpAny M A t Q' E s := wpAny_mono h hQ fun _ _ x => x
end L2
namespace L2
open PySem PySem.Spec PyProof.Rows
section
variable {X : Cx}
def tVar (i : Nat) : TE := fun σ H Q => ∃ v, σ[i]? = some (some v) ∧ Q v H
def tC (v : V) : TE := fun _ H Q => Q v H
theorem pe_var {i : Nat} {x : Str} {pos : Pos} (hN : X.N[i]? = some x) (hv : Vis X.env.scope x) (hd : (x == ("__debug__" : Str)) = false := by decide) (hcd : (x == ("__classdict__" : Str)) = false := by decide) : PE X (.Name x pos) (tVar i) := by
  intro pins s σ H Q I h
  obtain ⟨v, e, h⟩ := h
  obtain ⟨m, hn, hl⟩ := I.loc
  obtain ⟨u, r, l⟩ := hl i x v hN e hv
  have fin : EP X pins σ Q u s := ⟨v, H, I, r, h⟩
  rcases l with ⟨hk, hm⟩ | ⟨hk, c, hc, hcell⟩
  · exact wpAny_Name (wpAny_loadName_local I.ok.kind hk hn hm fin) hd
  · rcases hk with hk | hk
    · exact wpAny_Name (wpAny_loadName_cell I.ok.kind hk hc hcell fin) hd
    · exact wpAny_Name (wpAny_loadName_free I.ok.kind hk hc hcell fin hcd) hd
theorem pe_int {i j pos} : PE X (.Constant (.int i) j pos) (tC (.int i)) := fun _ _ _ H _ I h => wpAny_Constant_int ⟨.int i, H, I.tok _, ⟨_, rfl⟩, h⟩
theorem pe_bl {b j pos} : PE X (.Constant (.bool b) j pos) (tC (.bl b)) := fun _ _ _ H _ I h => Constant_bool ⟨.bl b, H, I, rfl, h⟩
theorem pe_non {j pos} : PE X (.Constant .none j pos) (tC .non) := fun _ _ _ H _ I h => Constant_none ⟨.non, H, I, rfl, h⟩
theorem pe_str {x j pos} : PE X (.Constant (.str x) j pos) (tC (.str x)) := fun _ _ _ H _ I h => Calls.Constant_str ⟨.str x, H, I.tok _, ⟨_, rfl⟩, h⟩
def Gl (X : Cx) (x : Str) : Prop := X.env.kindOf x = some .globalImplicit
theorem ld_glob {E : Value → Shared → Prop} {pins : List (Addr × Obj)} {s : Shared} {σ : St} {H : Hp} {x : Str} {u : Value} {pos : Pos} {Q : Value → Shared → Prop} (I : Inv X pins σ H s) (hg : Gl X x) (hm : X.mg x = some u) (h : Q u s)
    (hd : (x == ("__debug__" : Str)) = false := by decide) : wpAny (model X.prog X.w) X.A (eval (.Name x pos) X.env) Q E s :=
  Calls.Name_function_global I.ok.kind hg (Calls.loadGlobal_global (by rw [I.ok.glob]; exact I.mod.glob.keeps I.bk) hm h) hd
theorem ld_blt {E : Value → Shared → Prop} {pins : List (Addr × Obj)} {s : Shared} {σ : St} {H : Hp} {x : Str} {u : Value} {pos : Pos} {Q : Value → Shared → Prop} (I : Inv X pins σ H s) (hg : Gl X x) (hm : X.mg x = none) (hv : bootBuiltins x = some u) (h : Q u s)
    (hn : x ≠ "__name__" := by decide) (hd : (x == ("__debug__" : Str)) = false := by decide) : wpAny (model X.prog X.w) X.A (eval (.Name x pos) X.env) Q E s := by
  obtain ⟨mb, h1, h2⟩ := I.mod.blt
  exact Calls.Name_function_global I.ok.kind hg (Calls.loadGlobal_builtin (by rw [I.ok.glob]; exact I.mod.glob.keeps I.bk) hm (by rw [I.ok.blt]; exact h1.keeps I.bk) ((h2 x hn).trans hv) h) hd
theorem pe_bltn {x : Str} {v : V} {u : Value} {pos : Pos} (hg : Gl X x) (hm : X.mg x = none) (hv : bootBuiltins x = some u) (r : RelV v u) (hn : x ≠ "__name__" := by decide) (hd : (x == ("__debug__" : Str)) = false := by decide) : PE X (.Name x pos) (tC v) :=
  fun _ _ _ H _ I h => ld_blt I hg hm hv ⟨v, H, I, r, h⟩ hn hd
def t2I (ta tb : TE) (k : Int → Int → Hp → Prop) : St → Hp → Prop := fun σ H => ta σ H fun x H1 => tb σ H1 fun y H2 => ∃ i j, x = .int i ∧ y = .int j ∧ k i j H2
def tAdd (ta tb : TE) : TE := fun σ H Q => t2I ta tb (fun i j H2 => Q (.int (i + j)) H2) σ H
def tSub (ta tb : TE) : TE := fun σ H Q => t2I ta tb (fun i j H2 => Q (.int (i - j)) H2) σ H
def tMul (ta tb : TE) : TE := fun σ H Q => t2I ta tb (fun i j H2 => (-(2 ^ 64) < i ∧ i < 2 ^ 64) ∧ Q (.int (i * j)) H2) σ H
variable {a b : Expr} {ta tb : TE} {pos : Pos}
def PC (X : Cx) (op : CmpOp) (a b : Expr) (t : TE) : Prop :=
  ∀ (pins : List (Addr × Obj)) (s : Shared) (σ : St) (H : Hp) (Q : VK), Inv X pins σ H s → t σ H Q →
    wpAny (model X.prog X.w) X.A (eval a X.env) (fun v s₁ => wpAny (model X.prog X.w) X.A (eval b X.env) (fun u s₂ => wpAny (model X.prog X.w) X.A (compareOp op v u) (EP X pins σ Q) X.xe s₂) X.xe s₁) X.xe s
def tCmp (p : Int → Int → Bool) (ta tb : TE) : TE := fun σ H Q => t2I ta tb (fun i j H2 => Q (.bl (p i j)) H2) σ H
abbrev tLt : TE → TE → TE := tCmp fun i j => decide (i < j)
abbrev tLe : TE → TE → TE := tCmp fun i j => decide (i ≤ j)
abbrev tGt : TE → TE → TE := tCmp fun i j => decide (j < i)
abbrev tGe : TE → TE → TE := tCmp fun i j => decide (j ≤ i)
abbrev tEqI : TE → TE → TE := tCmp fun i j => decide (i = j)
abbrev tNeI : TE → TE → TE := tCmp fun i j => !decide (i = j)
def tIsN (ta : TE) : TE := fun σ H Q => ta σ H fun x H1 => Q (.bl (decide (x = .non))) H1
def tNotN (ta : TE) : TE := fun σ H Q => ta σ H fun x H1 => Q (.bl (!decide (x = .non))) H1
def tB (t : TE) : TT := fun σ H Q => t σ H fun x H1 => ∃ c, x = .bl c ∧ Q c H1
theorem pt_val {e : Expr} {t : TE} (h : PE X e t) (he : ∀ whole, isTrue e X.env whole = (do let v ← whole; standAt e.pos; holding [v] (truthy v)) := by intro _; rfl) : PT X e (tB t) := by
  intro pins s σ H Q I hw
  refine isTrue_plain (thn (h pins s σ H _ I hw) fun v s1 ⟨x, H1, I1, r1, q1⟩ => ?_) (he _)
  obtain ⟨d, rfl, q⟩ := q1
  cases r1
  exact wpAny_truthy_bool ⟨H1, I1, q⟩
variable {tA tB' : TT} {rest : List Expr}
def tAnd (t u : TT) : TT := fun σ H Q => t σ H fun c H1 => if c = true then u σ H1 Q else Q false H1
def tOr (t u : TT) : TT := fun σ H Q => t σ H fun c H1 => if c = true then Q true H1 else u σ H1 Q
def tNot (t : TT) : TT := fun σ H Q => t σ H fun c H1 => Q (!c) H1
theorem pw_and1 (ha : PT X a tA) : PW X (.BoolOp .And [a] pos) tA := by
  intro wh pins s σ H Q I h
  refine isTrue_and (thn (ha pins s σ H Q I h) fun c s1 e => ?_)
  cases c with
  | true => exact isTrue_and_nil e
  | false => exact e
theorem pw_or1 (ha : PT X a tA) : PW X (.BoolOp .Or [a] pos) tA := by
  intro wh pins s σ H Q I h
  refine isTrue_or (thn (ha pins s σ H Q I h) fun c s1 e => ?_)
  cases c with
  | false => exact isTrue_or_nil e
  | true => exact e
theorem pw_and (ha : PT X a tA) (hb : PW X (.BoolOp .And (b :: rest) pos) tB') : PW X (.BoolOp .And (a :: b :: rest) pos) (tAnd tA tB') := by
  intro wh pins s σ H Q I h
  refine isTrue_and (thn (ha pins s σ H _ I h) fun c s1 ⟨H1, I1, q1⟩ => ?_)
  cases c with
  | true => exact hb wh pins s1 σ H1 Q I1 q1
  | false => exact ⟨H1, I1, q1⟩
theorem pw_or (ha : PT X a tA) (hb : PW X (.BoolOp .Or (b :: rest) pos) tB') : PW X (.BoolOp .Or (a :: b :: rest) pos) (tOr tA tB') := by
  intro wh pins s σ H Q I h
  refine isTrue_or (thn (ha pins s σ H _ I h) fun c s1 ⟨H1, I1, q1⟩ => ?_)
  cases c with
  | true => exact ⟨H1, I1, q1⟩
  | false => exact hb wh pins s1 σ H1 Q I1 q1
theorem pt_not (ha : PT X a tA) : PT X (.UnaryOp .Not a pos) (tNot tA) := by
  intro pins s σ H Q I h
  exact isTrue_not (ha pins s σ H (fun c H1 => Q (!c) H1) I h)
def tAndV (ta tb : TE) : TE := fun σ H Q => ta σ H fun x H1 => ∃ c, x = .bl c ∧ if c = true then tb σ H1 Q else Q (.bl false) H1
def tOrV (ta tb : TE) : TE := fun σ H Q => ta σ H fun x H1 => ∃ c, x = .bl c ∧ if c = true then Q (.bl true) H1 else tb σ H1 Q
def tNotV (ta : TE) : TE := fun σ H Q => ta σ H fun x H1 => ∃ c, x = .bl c ∧ Q (.bl (!c)) H1
theorem pe_one {op} {t : TE} (h : PE X a t) : PE X (.BoolOp op [a] pos) t := fun pins s σ H Q I hw => BoolOp_one (h pins s σ H Q I hw)
theorem pe_and (ha : PE X a ta) (hb : PE X (.BoolOp .And (b :: rest) pos) tb) : PE X (.BoolOp .And (a :: b :: rest) pos) (tAndV ta tb) := by
  intro pins s σ H Q I h
  refine BoolOp_and (thn (ha pins s σ H _ I h) fun v s1 ⟨x, H1, I1, r1, q1⟩ => ?_)
  obtain ⟨c, rfl, q1⟩ := q1
  cases r1
  refine wpAny_truthy_bool ?_
  cases c with
  | true => exact hb pins s1 σ H1 Q I1 q1
  | false => exact ⟨.bl false, H1, I1, rfl, q1⟩
theorem pe_not (ha : PE X a ta) : PE X (.UnaryOp .Not a pos) (tNotV ta) := by
  intro pins s σ H Q I h
  refine UnaryOp_ (thn (ha pins s σ H _ I h) fun v s1 ⟨x, H1, I1, r1, q1⟩ => ?_)
  obtain ⟨c, rfl, q1⟩ := q1
  cases r1
  exact not_of (wpAny_truthy_bool ⟨.bl (!c), H1, I1, rfl, q1⟩)
def tIf (t : TT) (ta tb : TE) : TE := fun σ H Q => t σ H fun c H1 => if c = true then ta σ H1 Q else tb σ H1 Q
end
end L2
namespace L2
open PySem PySem.Spec PyProof.Rows
def SqL (K : PySem.W.Frag) (H : Hp) (a : Addr) (xs : List V) : Prop :=
  Rd H a (.lst xs) ∨
    ∃ (o : Obj) (its : Array Value) (n : Nat), K.lookup a = some o ∧ o.cls = .type "list" ∧ o.dict = none ∧ o.data = .seq its n ∧ its.size ≤ sizeLine ∧ Vals xs its.toList
def SqT (K : PySem.W.Frag) (H : Hp) (a : Addr) (xs : List V) : Prop :=
  Rd H a (.tup xs) ∨
    ∃ (o : Obj) (its : Array Value) (n : Nat), K.lookup a = some o ∧ o.cls = .type "tuple" ∧ o.data = .seq its n ∧ its.size ≤ sizeLine ∧ Vals xs its.toList
def absV : Value → Option V
  | .none => some .non
  | .bool b => some (.bl b)
  | .int i _ => some (.int i)
  | .str x _ => some (.str x)
  | .bytes b _ => some (.byt b)
  | .float b _ => some (.flt b)
  | .ref a => some (.ref a)
  | .type n => some (.ty n)
  | _ => none
theorem RelV.abs {x : V} {u : Value} (r : RelV x u) : absV u = some x := by
  cases x with
  | non => cases r; rfl
  | bl _ => cases r; rfl
  | int _ => obtain ⟨t, rfl⟩ := r; rfl
  | str _ => obtain ⟨t, rfl⟩ := r; rfl
  | byt _ => obtain ⟨t, rfl⟩ := r; rfl
  | flt _ => obtain ⟨t, rfl⟩ := r; rfl
  | ref _ => cases r; rfl
  | ty _ => cases r; rfl
theorem RelV.inj {x y : V} {u : Value} (r : RelV x u) (q : RelV y u) : x = y := Option.some.inj (r.abs.symm.trans q.abs)
theorem Vals.inj : ∀ {xs ys : List V} {us : List Value}, Vals xs us → Vals ys us → xs = ys
  | _, _, _, .nil, .nil => rfl
  | _, _, _, .cons r t, .cons r' t' => by rw [r.inj r', Vals.inj t t']
section
variable {X : Cx} {pins : List (Addr × Obj)} {σ : St} {H : Hp} {s : Shared} {a : Addr} {xs ys : List V}
theorem SqL.of {K : PySem.W.Frag} (h : H a = some (.lst xs)) : SqL K H a xs := .inl (.inl h)
theorem SqT.of {K : PySem.W.Frag} (h : H a = some (.tup xs)) : SqT K H a xs := .inl (.inl h)
theorem Inv.list (I : Inv X pins σ H s) (h : SqL X.K H a xs) : ∃ its : List Value, Vals xs its ∧ PlainL s.heap a its.toArray ∧ xs.length ≤ sizeLine := by
  rcases h with h | ⟨o, its, n, hk, hc, hd, hs, hz, r⟩
  · obtain ⟨z, its, n, r, e⟩ := h.ok I.hok
    exact ⟨its, r, ⟨_, n, e, rfl, rfl, rfl⟩, z⟩
  · refine ⟨its.toList, r, ⟨o, n, I.kIn a o hk, hc, hd, by simpa using hs⟩, ?_⟩
    have e := r.length
    simp only [Array.length_toList] at e
    omega
theorem Inv.tuple (I : Inv X pins σ H s) (h : SqT X.K H a xs) : ∃ its : List Value, Vals xs its ∧ IsTup s.heap a its.toArray ∧ xs.length ≤ sizeLine := by
  rcases h with h | ⟨o, its, n, hk, hc, hs, hz, r⟩
  · obtain ⟨z, its, r, p⟩ := h.ok I.hok
    exact ⟨its, r, p, z⟩
  · refine ⟨its.toList, r, ⟨o, I.kIn a o hk, hc, n, by simpa using hs⟩, ?_⟩
    have e := r.length
    simp only [Array.length_toList] at e
    omega
theorem Inv.list_inj (I : Inv X pins σ H s) (h : SqL X.K H a xs) (h' : SqL X.K H a ys) : xs = ys := by
  obtain ⟨its, r, ⟨o, n, e, _, _, d⟩, _⟩ := I.list h
  obtain ⟨its', r', ⟨o', n', e', _, _, d'⟩, _⟩ := I.list h'
  rw [e] at e'; cases e'
  rw [d] at d'
  injection d' with d1 _
  have : its = its' := by simpa using congrArg Array.toList d1
  subst this
  exact r.inj r'
theorem Inv.tuple_inj (I : Inv X pins σ H s) (h : SqT X.K H a xs) (h' : SqT X.K H a ys) : xs = ys := by
  obtain ⟨its, r, ⟨o, e, _, n, d⟩, _⟩ := I.tuple h
  obtain ⟨its', r', ⟨o', e', _, n', d'⟩, _⟩ := I.tuple h'
  rw [e] at e'; cases e'
  rw [d] at d'
  injection d' with d1 _
  have : its = its' := by simpa using congrArg Array.toList d1
  subst this
  exact r.inj r'
end
abbrev Cx.wish (X : Cx) (E : Value → Shared → Prop) : Cx := { X with xe := E }
abbrev Cx.nox (X : Cx) : Cx := X.wish fun _ _ => False
theorem Cx.Ok.wish {X : Cx} (ok : X.Ok) (E : Value → Shared → Prop) : (X.wish E).Ok :=
  ⟨ok.mod, ok.kind, ok.glob, ok.blt, ok.above, ok.inj, ok.has, ok.cab, ok.hd, ok.frames, ok.stk, ok.exf, ok.bs, ok.bsz, ok.noex, ok.exfs, ok.funs, ok.frf⟩
theorem Cx.Ok.unwish {X : Cx} {E : Value → Shared → Prop} (ok : (X.wish E).Ok) : X.Ok :=
  ⟨ok.mod, ok.kind, ok.glob, ok.blt, ok.above, ok.inj, ok.has, ok.cab, ok.hd, ok.frames, ok.stk, ok.exf, ok.bs, ok.bsz, ok.noex, ok.exfs, ok.funs, ok.frf⟩
section
variable {X : Cx} {pins : List (Addr × Obj)} {σ : St} {H : Hp} {s : Shared} {E : Value → Shared → Prop}
theorem Inv.wish (I : Inv X pins σ H s) (E : Value → Shared → Prop) : Inv (X.wish E) pins σ H s := ⟨I.ok.wish E, I.os, I.bare, I.base, I.loc, I.cell, I.free, I.freeC, I.pin, I.hok, I.len⟩
theorem Inv.unwish (I : Inv (X.wish E) pins σ H s) : Inv X pins σ H s := ⟨I.ok.unwish, I.os, I.bare, I.base, I.loc, I.cell, I.free, I.freeC, I.pin, I.hok, I.len⟩
theorem SP.unwish {D : Ends} {f : Flow} {s' : Shared} (h : SP (X.wish E) pins D f s') : SP X pins D f s' := by
  cases f with
  | next => obtain ⟨σ', H', I, q⟩ := h; exact ⟨σ', H', I.unwish, q⟩
  | brk => obtain ⟨σ', H', I, q⟩ := h; exact ⟨σ', H', I.unwish, q⟩
  | cont => obtain ⟨σ', H', I, q⟩ := h; exact ⟨σ', H', I.unwish, q⟩
  | ret u => obtain ⟨v, σ', H', I, r, q⟩ := h; exact ⟨v, σ', H', I.unwish, r, q⟩
theorem PSs.nox {st : List Stmt} {t : TS} (h : PSs X.nox st t) : PSs X st t := fun pins s σ H D I hw =>
  wpAny_mono (h pins s σ H D (I.wish _) hw) (fun _ _ q => q.unwish) fun _ _ z => False.elim z
end
section
variable {X : Cx} {st : Stmt} {rest : List Stmt} {t u : TS} {e : Expr} {te : TE} {pos : Pos}
def tNext : TS := fun D σ H => D.nx σ H
def tSeq (t u : TS) : TS := fun D σ H => t { D with nx := u D } σ H
theorem pss_nil : PSs X [] tNext := fun _ _ σ H _ I h => wpAny_execs_nil ⟨σ, H, I, h⟩
theorem pss_cons (h1 : PS X st t) (h2 : PSs X rest u) : PSs X (st :: rest) (tSeq t u) := by
  intro pins s σ H D I h
  refine wpAny_execs_cons (thn (h1 pins s σ H { D with nx := u D } I h) fun f s1 q => ?_)
  cases f with
  | next =>
    obtain ⟨σ', H', I', q⟩ := q
    exact h2 pins s1 σ' H' D I' q
  | ret v => exact q
  | brk => exact q
  | cont => exact q
theorem pss_one (h1 : PS X st t) : PSs X [st] t := by
  intro pins s σ H D I h
  refine wpAny_execs_cons (thn (h1 pins s σ H D I h) fun f s1 q => ?_)
  cases f with
  | next => exact wpAny_execs_nil q
  | ret v => exact q
  | brk => exact q
  | cont => exact q
def tBreak : TS := fun D σ H => D.bk σ H
def tCont : TS := fun D σ H => D.ct σ H
theorem Inv.quiet {pins : List (Addr × Obj)} {σ : St} {H : Hp} {s : Shared} (I : Inv X pins σ H s) : interactive X.env = false := by simp [interactive, I.ok.kind]
def tDrop (te : TE) : TS := fun D σ H => te σ H fun _ H1 => D.nx σ H1
theorem ps_expr (he : PE X e te) (hs : swapsWith e none pos.line X.env = pure false := by rfl) : PS X (.Expr e pos) (tDrop te) := by
  intro pins s σ H D I h
  exact wpAny_Expr_any (thn (he pins s σ H _ I h) fun v s1 ⟨x, H1, I1, r1, q1⟩ => ⟨σ, H1, I1, q1⟩) I.quiet hs
def tRet (te : TE) : TS := fun D σ H => te σ H D.rt
theorem ps_ret (he : PE X e te) : PS X (.Return (some e) pos) (tRet te) := by
  intro pins s σ H D I h
  exact wpAny_Return_some (thn (he pins s σ H _ I h) fun v s1 ⟨x, H1, I1, r1, q1⟩ => ⟨x, σ, H1, I1, r1, q1⟩)
def tRetN : TS := fun D _ H => D.rt .non H
theorem ps_retN : PS X (.Return none pos) tRetN := fun _ _ σ H _ I h => wpAny_Return_none ⟨.non, σ, H, I, rfl, h⟩
def tIfS (c : TT) (t u : TS) : TS := fun D σ H => c σ H fun b H1 => if b = true then t D σ H1 else u D σ H1
theorem ps_if {c : Expr} {a b : List Stmt} {tc : TT} (hc : PT X c tc) (ha : PSs X a t) (hb : PSs X b u) : PS X (.If c a b pos) (tIfS tc t u) := by
  intro pins s σ H D I h
  refine wpAny_If (thn (hc pins s σ H _ I h) fun d s1 ⟨H1, I1, q1⟩ => ?_)
  cases d with
  | true => exact ha pins s1 σ H1 D I1 q1
  | false => exact hb pins s1 σ H1 D I1 q1
def tNever : TS := fun _ _ _ => False
end
abbrev TG := V → St → Hp → (St → Hp → Prop) → Prop
abbrev TGs := List V → St → Hp → (St → Hp → Prop) → Prop
def PG (X : Cx) (target : Expr) (t : TG) : Prop :=
  ∀ (pins : List (Addr × Obj)) (s : Shared) (σ : St) (H : Hp) (v : V) (u : Value) (Q : St → Hp → Prop), Inv X pins σ H s → RelV v u → t v σ H Q →
    wpAny (model X.prog X.w) X.A (assign target X.env u) (fun _ s' => ∃ σ' H', Inv X pins σ' H' s' ∧ Q σ' H') X.xe s
def PGs (X : Cx) (ts : List Expr) (t : TGs) : Prop :=
  ∀ (pins : List (Addr × Obj)) (s : Shared) (σ : St) (H : Hp) (vs : List V) (us : List Value) (Q : St → Hp → Prop), Inv X pins σ H s → Vals vs us → t vs σ H Q →
    wpAny (model X.prog X.w) X.A (assignInOrder ((assignEach ts X.env).map (·.2)) us) (fun _ s' => ∃ σ' H', Inv X pins σ' H' s' ∧ Q σ' H') X.xe s
abbrev TSet := V → V → V → Hp → (Hp → Prop) → Prop
def PSet (X : Cx) (t : TSet) : Prop :=
  ∀ (pins : List (Addr × Obj)) (s : Shared) (σ : St) (H : Hp) (o i v : V) (ov iv u : Value) (Q : Hp → Prop), Inv X pins σ H s → RelV o ov → RelV i iv → RelV v u → t o i v H Q →
    wpAny (model X.prog X.w) X.A (setItem ov iv u) (fun _ s' => ∃ H', Inv X pins σ H' s' ∧ Q H') X.xe s
abbrev TIp := V → V → Hp → VK → Prop
def PIp (X : Cx) (op : Operator) (t : TIp) : Prop :=
  ∀ (pins : List (Addr × Obj)) (s : Shared) (σ : St) (H : Hp) (x y : V) (v u : Value) (Q : VK), Inv X pins σ H s → RelV x v → RelV y u → t x y H Q →
    wpAny (model X.prog X.w) X.A (inplaceOp op v u) (EP X pins σ Q) X.xe s
section
variable {X : Cx} {pos : Pos}
def gName (i : Nat) : TG := fun v σ H Q => Q (σ.set i (some v)) H
theorem pg_name {i : Nat} {x : Str} (hN : X.N.Nodup) (hi : X.N[i]? = some x) (hx : Loc X.env.scope x) (hf : X.fn x = true ∨ X.env.scope.names.lookup x = some .local := by first | exact .inl rfl | exact .inr rfl | assumption) : PG X (.Name x pos) (gName i) := by
  intro pins s σ H v u Q I r h
  exact wpAny_assign_Name (store_ok I hN hi hx r (fun s' I' => ⟨_, H, I', h⟩) hf)
def gNil : TGs := fun vs σ H Q => vs = [] ∧ Q σ H
def gCons (t : TG) (u : TGs) : TGs := fun vs σ H Q => ∃ v r, vs = v :: r ∧ t v σ H fun σ' H' => u r σ' H' Q
theorem pgs_nil : PGs X [] gNil := by
  intro pins s σ H vs us Q I r h
  obtain ⟨e, h⟩ := h
  subst e
  cases r
  exact assignInOrder_nil ⟨σ, H, I, h⟩
theorem pgs_cons {e : Expr} {es : List Expr} {t : TG} {u : TGs} (h1 : PG X e t) (h2 : PGs X es u)
    (hs : (assignEach (e :: es) X.env).map (·.2) = assign e X.env :: (assignEach es X.env).map (·.2) := by rfl) : PGs X (e :: es) (gCons t u) := by
  intro pins s σ H vs us Q I r h
  obtain ⟨v, vr, e1, h⟩ := h
  subst e1
  cases r with
  | cons r rr =>
    rw [hs]
    refine assignInOrder_cons (thn (h1 pins s σ H _ _ _ I r h) fun _ s1 ⟨σ1, H1, I1, q1⟩ => ?_)
    exact h2 pins s1 σ1 H1 _ _ Q I1 rr q1
def gTup (K : PySem.W.Frag) (n : Nat) (t : TGs) : TG := fun v σ H Q => ∃ a xs, v = .ref a ∧ SqT K H a xs ∧ xs.length = n ∧ t xs σ H Q
theorem pg_tup {es : List Expr} {k : Nat} {t : TGs} {n : Nat} (hc : X.calm = true) (h : PGs X es t)
    (hn : (assignEach es X.env).length = n := by rfl) (hst : (assignEach es X.env).findIdx? (·.1) = none := by rfl) : PG X (.Tuple es k pos) (gTup X.K n t) := by
  intro pins s σ H v u Q I r hw
  obtain ⟨a, xs, e1, hq, hl, hw⟩ := hw
  subst e1
  cases r
  obtain ⟨its, rv, ht, hz⟩ := I.tuple hq
  refine assign_Tuple_tuple (I.ok.hd hc) ht (by simp [hn, ← hl, rv.length]) hst fun h' hx => ?_
  have I1 : Inv X pins σ H { s with heap := h' } := I.kept (t' := s.toks) fun b o e => hx b o (Nat.ne_of_lt (Heap.lt_size e)) e
  exact h pins _ σ H xs _ Q I1 (by simpa using rv) hw
def gSub (to ti : TE) (t : TSet) : TG := fun v σ H Q => to σ H fun o H1 => ti σ H1 fun i H2 => t o i v H2 fun H3 => Q σ H3
theorem pg_sub {o i : Expr} {to ti : TE} {t : TSet} (ho : PE X o to) (hi : PE X i ti) (hs : PSet X t)
    (ha : ∀ v, assign (.Subscript o i pos) X.env v = (do
      let ov ← holding [v] (eval o X.env)
      let iv ← holding [v, ov] (eval i X.env)
      standAt pos
      holding [v, ov, iv] (setItem ov iv v)
      release [v, ov, iv] []) := by intro _; rfl) : PG X (.Subscript o i pos) (gSub to ti t) := by
  intro pins s σ H v u Q I r h
  rw [ha]
  refine wpAny_bind (wpAny_holding (thn (ho pins s σ H _ I h) fun ov s1 ⟨x, H1, I1, r1, q1⟩ => ?_))
  refine wpAny_bind (wpAny_holding (thn (hi pins s1 σ H1 _ I1 q1) fun iv s2 ⟨y, H2, I2, r2, q2⟩ => ?_))
  refine wpAny_bind (wpAny_standAt (wpAny_bind (wpAny_holding (thn (hs pins s2 σ H2 x y v ov iv u _ I2 r1 r2 r q2) fun _ s3 ⟨H3, I3, q3⟩ => ?_))))
  exact wpAny_release ⟨σ, H3, I3, q3⟩
def tAsg (te : TE) (g : TG) : TS := fun D σ H => te σ H fun x H1 => g x σ H1 D.nx
theorem ps_asg {tg e : Expr} {te : TE} {g : TG} (he : PE X e te) (hg : PG X tg g) (hs : swapsWithSole [tg] e pos.line X.env = pure false := by rfl) (hw : swappedStores [tg] e X.env = pure none := by rfl)
    (h1 : (assignEach [tg] X.env).map (·.2) = [assign tg X.env] := by rfl) : PS X (.Assign [tg] e pos) (tAsg te g) := by
  intro pins s σ H D I h
  refine wpAny_Assign_stores (thn (he pins s σ H _ I h) fun v s1 ⟨x, H1, I1, r1, q1⟩ => ?_) hs hw
  rw [h1]
  exact thn (hg pins s1 σ H1 x v _ I1 r1 q1) fun _ s2 q => q
theorem ps_set {i : Nat} {x : Str} {e : Expr} {te : TE} {pos' : Pos} (hN : X.N.Nodup) (hi : X.N[i]? = some x) (hx : Loc X.env.scope x) (he : PE X e te) (hs : swapsWith e (some (.Name x pos')) pos.line X.env = pure false := by rfl) (hf : X.fn x = true ∨ X.env.scope.names.lookup x = some .local := by first | exact .inl rfl | exact .inr rfl | assumption) :
    PS X (.Assign [.Name x pos'] e pos) (tAsg te (gName i)) := by
  intro pins s σ H D I h
  refine wpAny_Assign_Name (thn (he pins s σ H _ I h) fun v s1 ⟨y, H1, I1, r1, q1⟩ => ?_) hs
  exact store_ok I1 hN hi hx r1 (fun s2 I2 => ⟨_, H1, I2, q1⟩) hf
def tPar (i j : Nat) (ta : TA) : TS := fun D σ H => ta σ H fun vs H1 => ∃ v w, vs = [v, w] ∧ D.nx ((σ.set i (some v)).set j (some w)) H1
theorem ps_par {i j : Nat} {x y : Str} {a b : Expr} {ta : TA} {px py pt : Pos} {kt k2 pt2} (hc : X.calm = true) (hN : X.N.Nodup) (hi : X.N[i]? = some x) (hj : X.N[j]? = some y) (hij : i ≠ j)
    (hx : X.env.scope.names.lookup x = some .local) (hy : X.env.scope.names.lookup y = some .local) (ha : PA X [a, b] ta)
    (hw : swappedStores [.Tuple [.Name x px, .Name y py] kt pt] (.Tuple [a, b] k2 pt2) X.env = pure (some [x, y]))
    (hs : swapsWithSole [.Tuple [.Name x px, .Name y py] kt pt] (.Tuple [a, b] k2 pt2) pos.line X.env = pure false := by rfl) :
    PS X (.Assign [.Tuple [.Name x px, .Name y py] kt pt] (.Tuple [a, b] k2 pt2) pos) (tPar i j ta) := by
  intro pins s σ H D I h
  rw [exec_Assign_arm]
  refine wpAny_bind (wpAny_standAt ?_)
  rw [hs]
  refine wpAny_bind (wpAny_pure ?_)
  rw [if_neg (by decide)]
  refine wpAny_bind (Tuple_ (thn (ha _ pins s σ H _ I h) fun us s1 ⟨vs, H1, I1, r1, q1⟩ => ?_))
  obtain ⟨v, w, e1, q1⟩ := q1
  subst e1
  obtain ⟨u1, u2, rfl, rv, rw'⟩ : ∃ u1 u2, us = [u1, u2] ∧ RelV v u1 ∧ RelV w u2 := by
    cases r1 with
    | cons p q =>
      cases q with
      | cons p' q' =>
        cases q'
        exact ⟨_, _, rfl, p, p'⟩
  refine wpAny_newObj_type ?_ (by show 2 ≤ sizeLine; decide)
  have I2 : Inv X pins σ H1 { s1 with heap := s1.heap.push { cls := .type "tuple", data := .seq [u1, u2].toArray } } := I1.kept (t' := s1.toks) fun b o e => Heap.get?_push_of_some _ e
  rw [hw]
  refine wpAny_bind (wpAny_pure ?_)
  show wpAny (model X.prog X.w) X.A (do rule "assign.swapped-stores"; let items ← unpackItems (.ref s1.heap.objs.size) 2 none; assignInOrder [fun v => bindName X.env y v, fun v => bindName X.env x v] items.reverse; pure Flow.next) _ _ _
  refine wpAny_bind (wpAny_rule (wpAny_bind (unpackItems_tuple (items := #[u1, u2]) (I.ok.hd hc) (IsTup.new s1.heap _) fun h' hx' => ?_)))
  have I3 := I2.kept (h' := h') (t' := s1.toks) fun b o e => hx' b o (Nat.ne_of_lt (Heap.lt_size e)) e
  show wpAny _ _ (assignInOrder [fun v => bindName X.env y v, fun v => bindName X.env x v] [u2, u1] >>= fun _ => pure Flow.next) _ _ _
  refine wpAny_bind (assignInOrder_cons (wpAny_bindName (store_ok I3 hN hj (.inl hy) rw' (fun s2 I4 => ?_) (.inr hy))))
  refine assignInOrder_cons (wpAny_bindName (store_ok I4 hN hi (.inl hx) rv (fun s3 I5 => assignInOrder_nil (wpAny_pure ?_)) (.inr hx)))
  rw [List.set_comm _ _ (Ne.symm hij)] at I5
  exact ⟨_, H1, I5, q1⟩
def tAug (i : Nat) (te : TE) (ti : TIp) : TS := fun D σ H => ∃ x, σ[i]? = some (some x) ∧ te σ H fun y H1 => ti x y H1 fun z H2 => D.nx (σ.set i (some z)) H2
def tAugS (to ti te : TE) (tget : V → V → Hp → VK → Prop) (tip : TIp) (tset : TSet) : TS := fun D σ H => to σ H fun o H1 => ti σ H1 fun i H2 => tget o i H2 fun x H3 => te σ H3 fun y H4 => tip x y H4 fun z H5 => tset o i z H5 fun H6 => D.nx σ H6
def PGet (X : Cx) (t : V → V → Hp → VK → Prop) : Prop :=
  ∀ (pins : List (Addr × Obj)) (s : Shared) (σ : St) (H : Hp) (o i : V) (ov iv : Value) (Q : VK), Inv X pins σ H s → RelV o ov → RelV i iv → t o i H Q →
    wpAny (model X.prog X.w) X.A (getItem ov iv) (EP X pins σ Q) X.xe s
theorem ps_augS {o i e : Expr} {to ti te : TE} {tget : V → V → Hp → VK → Prop} {tip : TIp} {tset : TSet} {op : Operator} {tpos : Pos} (ho : PE X o to) (hi : PE X i ti) (hg : PGet X tget) (he : PE X e te) (hp : PIp X op tip) (hs : PSet X tset)
    (ha : ∀ ov iv new, augStore i ov iv new = (do holding [new, ov, iv] (setItem ov iv new); release [new, ov, iv] []; pure .next) := by intros; rfl) : PS X (.AugAssign (.Subscript o i tpos) op e pos) (tAugS to ti te tget tip tset) := by
  intro pins s σ H D I h
  refine wpAny_AugAssign_SubscriptAny (thn (ho pins s σ H _ I h) fun ov s1 ⟨x1, H1, I1, r1, q1⟩ => ?_) ha
  refine thn (hi pins s1 σ H1 _ I1 q1) fun iv s2 ⟨x2, H2, I2, r2, q2⟩ => ?_
  refine thn (hg pins s2 σ H2 x1 x2 ov iv _ I2 r1 r2 q2) fun old s3 ⟨x3, H3, I3, r3, q3⟩ => ?_
  refine thn (he pins s3 σ H3 _ I3 q3) fun v s4 ⟨x4, H4, I4, r4, q4⟩ => ?_
  refine thn (hp pins s4 σ H4 x3 x4 old v _ I4 r3 r4 q4) fun new s5 ⟨x5, H5, I5, r5, q5⟩ => ?_
  exact thn (hs pins s5 σ H5 x1 x2 x5 ov iv new _ I5 r1 r2 r5 q5) fun _ s6 ⟨H6, I6, q6⟩ => ⟨σ, H6, I6, q6⟩
def ipI (f : Int → Int → Int) : TIp := fun x y H Q => ∃ i j, x = .int i ∧ y = .int j ∧ Q (.int (f i j)) H
theorem ip_add : PIp X .Add (ipI fun i j => i + j) := by
  intro pins s σ H x y v u Q I r1 r2 h
  obtain ⟨i, j, e1, e2, q⟩ := h
  subst e1; subst e2
  obtain ⟨t, rfl⟩ := r1
  obtain ⟨t', rfl⟩ := r2
  exact iadd_int ⟨.int _, H, I.tok _, ⟨_, rfl⟩, q⟩
end
section
variable {X : Cx} {pos : Pos}
def tWhile (c : TT) (tb : TS) : TS := fun D σ H => ∃ W : Nat → St → Hp → Prop, (∃ m, W m σ H) ∧ ∀ m σ H, W m σ H →
  c σ H fun b H1 => if b = true then ∃ N : St → Hp → Prop, (∀ σ' H', N σ' H' → ∃ m', m' < m ∧ W m' σ' H') ∧ tb { D with nx := N, ct := N, bk := D.nx } σ H1 else D.nx σ H1
end
structure It where
  go : Nat → Hp → Prop
  yld : Nat → Hp → V → Hp → Prop
  stop : Nat → Hp → Prop
def FpOk (X : Cx) (pins : List (Addr × Obj)) (H : Hp) (b : Addr) : Prop :=
  H b = none ∧ b ≠ X.env.locals ∧ b ∉ X.fs ∧ (b ∈ X.ex ∨ X.s_0.heap.objs.size ≤ b) ∧ (∀ x c, X.env.cells.lookup x = some c → c ≠ b) ∧ ∀ p ∈ X.pn ++ pins, p.1 ≠ b
theorem Inv.fpOk {X : Cx} {pins : List (Addr × Obj)} {σ : St} {H H' : Hp} {s : Shared} {b : Addr} (I : Inv X pins σ H s) (hb : s.heap.objs.size ≤ b) (hn : H' b = none) : FpOk X pins H' b := by
  refine ⟨hn, Nat.ne_of_gt (Nat.lt_of_lt_of_le I.lt hb), I.nofs hb, .inr (Nat.le_trans I.sz hb), fun x c e z => ?_, fun p hp z => ?_⟩
  · obtain ⟨v, q⟩ := I.cell x c e
    exact absurd (Nat.lt_of_lt_of_le q.lt (by rw [z]; exact hb)) (Nat.lt_irrefl _)
  · exact absurd (Nat.lt_of_lt_of_le (Heap.lt_size (I.pin p hp).1) (by rw [z]; exact hb)) (Nat.lt_irrefl _)
structure Turn (P : Program) (w : World) (K : PySem.W.Frag) (tg : Expr) (J : It) (fp : List Addr) (it : Addr) (tn : Nat → Heap → Prop) : Prop where
  mem : it ∈ fp
  obj : ∀ i h, tn i h → ∀ b ∈ fp, ∃ o, h.get? b = some o ∧ ∀ v, o.data ≠ .cell v
  keep : ∀ i h h', tn i h → (∀ b ∈ fp, ∀ o, h.get? b = some o → h'.get? b = some o) → tn i h'
  item : ∀ (X : Cx), X.prog = P → X.w = w → X.K = K → X.calm = true → ∀ (i : Nat) (pins : List (Addr × Obj)) (s : Shared) (σ : St) (H : Hp) (E : Value → Shared → Prop), Inv X pins σ H s → (∀ b ∈ fp, FpOk X pins H b) → tn i s.heap → J.go i H →
    wpAny (model P w) X.A (pyNext (.ref it)) (fun r s1 => ∃ u, r = some u ∧
      wpAny (model P w) X.A (letOwnedTupleGo tg (.ref it) u) (fun _ s2 => ∃ x H', Inv X pins σ H' s2 ∧ RelV x u ∧ J.yld i H x H' ∧ tn (i + 1) s2.heap ∧ ∀ b ∈ fp, H' b = none) E s1) E s
  done : ∀ (X : Cx), X.prog = P → X.w = w → X.K = K → X.calm = true → ∀ (i : Nat) (pins : List (Addr × Obj)) (s : Shared) (σ : St) (H : Hp) (E : Value → Shared → Prop), Inv X pins σ H s → (∀ b ∈ fp, FpOk X pins H b) → tn i s.heap → J.stop i H →
    wpAny (model P w) X.A (pyNext (.ref it)) (fun r s1 => r = none ∧ Inv X pins σ H s1) E s
  self : ∀ (A : Around) (i : Nat) (s : Shared) (Q : Value → Shared → Prop) (E : Value → Shared → Prop), tn i s.heap → Q (.ref it) s → wpAny (model P w) A (pyIter (.ref it)) Q E s
abbrev TI := St → Hp → (It → Hp → Prop) → Prop
def PIE (X : Cx) (pins : List (Addr × Obj)) (σ : St) (tg : Expr) (R : It → Hp → Prop) (itv : Value) (s2 : Shared) : Prop :=
  ∃ (it : Addr) (fp : List Addr) (tn : Nat → Heap → Prop) (J : It) (H' : Hp), itv = .ref it ∧ Inv X pins σ H' s2 ∧ Turn X.prog X.w X.K tg J fp it tn ∧ tn 0 s2.heap ∧ (∀ b ∈ fp, FpOk X pins H' b) ∧ R J H'
def PI (X : Cx) (tg iter : Expr) (wi : TI) : Prop :=
  ∀ (pins : List (Addr × Obj)) (s : Shared) (σ : St) (H : Hp) (R : It → Hp → Prop), Inv X pins σ H s → wi σ H R →
    wpAny (model X.prog X.w) X.A (eval iter X.env) (fun v s1 => wpAny (model X.prog X.w) X.A (pyIter v) (PIE X pins σ tg R) X.xe s1) X.xe s
theorem go_of {M : Model} {A : Around} {E : Value → Shared → Prop} {s : Shared} {tg : Expr} {it : Addr} {u : Value} {o : Obj} {n : String} {vs : Array Value} {Q : Unit → Shared → Prop} (ho : s.heap.get? it = some o) (hc : o.cls = .type n) (hd : o.data = .fields vs)
    (hn : ["enumerate", "zip", "dict_itemiterator", "dict_reverseitemiterator", "odict_iterator", "itertools.zip_longest", "itertools.pairwise"].contains n = false) (hQ : Q () s) : wpAny M A (letOwnedTupleGo tg (.ref it) u) Q E s := by
  unfold letOwnedTupleGo
  cases tg <;> first
    | exact wpAny_pure hQ
    | (cases u <;> first
        | exact wpAny_pure hQ
        | (refine wpAny_bind (wpAny_load ho ?_)
           rw [hc, hd]
           show wpAny M A (if (["enumerate", "zip", "dict_itemiterator", "dict_reverseitemiterator", "odict_iterator", "itertools.zip_longest", "itertools.pairwise"].contains n && vs[0]? == some (rawInt _)) = true then _ else _) Q E s
           rw [if_neg (by intro h; rw [hn, Bool.false_and] at h; cases h)]
           exact wpAny_pure hQ))
def Itl (K : PySem.W.Frag) (a : Addr) : It :=
  ⟨fun i H => ∃ xs x, SqL K H a xs ∧ xs[i]? = some x, fun i H x H' => H' = H ∧ ∀ xs, SqL K H a xs → xs[i]? = some x, fun i H => ∃ xs, SqL K H a xs ∧ xs.length ≤ i⟩
def Itt (K : PySem.W.Frag) (a : Addr) : It :=
  ⟨fun i H => ∃ xs x, SqT K H a xs ∧ xs[i]? = some x, fun i H x H' => H' = H ∧ ∀ xs, SqT K H a xs → xs[i]? = some x, fun i H => ∃ xs, SqT K H a xs ∧ xs.length ≤ i⟩
def Itr (lo : Int) (n : Nat) : It := ⟨fun i _ => i < n, fun i H x H' => H' = H ∧ x = .int (lo + i), fun i _ => n ≤ i⟩
theorem turn_list {P : Program} {w : World} {K : PySem.W.Frag} {tg : Expr} (a it : Addr) : Turn P w K tg (Itl K a) [it] it (fun i h => h.IsListIter it a i) where
  mem := by simp
  obj := fun i h st b hb => by
    have e : b = it := by simpa using hb
    subst e
    obtain ⟨o, e, c, d⟩ := st
    exact ⟨o, e, fun v z => by rw [d] at z; cases z⟩
  keep := fun i h h' st k => st.at fun o e => k it (by simp) o e
  item := by
    intro X hP hw hK hc i pins s σ H E I hf st hg
    subst hP hw hK
    obtain ⟨xs, x, hq, hx⟩ := hg
    obtain ⟨its, rv, p, hz⟩ := I.list hq
    obtain ⟨u, hu, ru⟩ := rv.get hx
    obtain ⟨f0, f1, f2, f3, f4, f5⟩ := hf it (by simp)
    refine wpAny_pyNext_list_item st p.isList (x := u) (by simpa using hu) fun h' st' sb => ?_
    have I1 : Inv X pins σ H { s with heap := h' } := I.turned (t' := s.toks) (fun b o hb e => (sb.2 b hb).trans e) f0 f1 f3 f4 f5
    obtain ⟨o, e, c, d⟩ := id st'
    exact ⟨u, rfl, go_of (s := { s with heap := h' }) e c d (by decide) ⟨x, H, I1, ru, ⟨rfl, fun ys hy => by rw [I.list_inj hy hq]; exact hx⟩, st', fun b hb => (hf b hb).1⟩⟩
  done := by
    intro X hP hw hK hc i pins s σ H E I hf st hg
    subst hP hw hK
    obtain ⟨xs, hq, hx⟩ := hg
    obtain ⟨its, rv, p, hz⟩ := I.list hq
    obtain ⟨f0, f1, f2, f3, f4, f5⟩ := hf it (by simp)
    have hl := rv.length
    exact wpAny_pyNext_list_end (I.ok.hd hc) st p.isList (by simp; omega) fun h' eb => ⟨rfl, I.turned (t' := s.toks) (fun b o hb e => eb b o hb e) f0 f1 f3 f4 f5⟩
  self := fun _ _ _ _ _ st h => wpAny_pyIter_listiter st h
theorem turn_tuple {P : Program} {w : World} {K : PySem.W.Frag} {tg : Expr} (a it : Addr) : Turn P w K tg (Itt K a) [it] it (fun i h => h.IsTupleIter it a i) where
  mem := by simp
  obj := fun i h st b hb => by
    have e : b = it := by simpa using hb
    subst e
    obtain ⟨o, e, c, d⟩ := st
    exact ⟨o, e, fun v z => by rw [d] at z; cases z⟩
  keep := fun i h h' st k => st.at fun o e => k it (by simp) o e
  item := by
    intro X hP hw hK hc i pins s σ H E I hf st hg
    subst hP hw hK
    obtain ⟨xs, x, hq, hx⟩ := hg
    obtain ⟨its, rv, p, hz⟩ := I.tuple hq
    obtain ⟨u, hu, ru⟩ := rv.get hx
    obtain ⟨f0, f1, f2, f3, f4, f5⟩ := hf it (by simp)
    refine wpAny_pyNext_tuple_item st (show s.heap.IsTuple a its.toArray from p) (x := u) (by simpa using hu) fun h' st' sb => ?_
    have I1 : Inv X pins σ H { s with heap := h' } := I.turned (t' := s.toks) (fun b o hb e => (sb.2 b hb).trans e) f0 f1 f3 f4 f5
    obtain ⟨o, e, c, d⟩ := id st'
    exact ⟨u, rfl, go_of (s := { s with heap := h' }) e c d (by decide) ⟨x, H, I1, ru, ⟨rfl, fun ys hy => by rw [I.tuple_inj hy hq]; exact hx⟩, st', fun b hb => (hf b hb).1⟩⟩
  done := by
    intro X hP hw hK hc i pins s σ H E I hf st hg
    subst hP hw hK
    obtain ⟨xs, hq, hx⟩ := hg
    obtain ⟨its, rv, p, hz⟩ := I.tuple hq
    obtain ⟨f0, f1, f2, f3, f4, f5⟩ := hf it (by simp)
    have hl := rv.length
    exact wpAny_pyNext_tuple_end (I.ok.hd hc) st (show s.heap.IsTuple a its.toArray from p) (by simp; omega) fun h' eb => ⟨rfl, I.turned (t' := s.toks) (fun b o hb e => eb b o hb e) f0 f1 f3 f4 f5⟩
  self := fun _ _ _ _ _ st h => wpAny_pyIter_tupleiter st h
theorem turn_range {P : Program} {w : World} {K : PySem.W.Frag} {tg : Expr} (it : Addr) (lo : Int) (n : Nat) : Turn P w K tg (Itr lo n) [it] it (fun i h => IsRangeIter h it (lo + (i : Nat) * 1) ((n : Int) - (i : Nat)) 1) where
  mem := by simp
  obj := fun i h st b hb => by
    have e : b = it := by simpa using hb
    subst e
    exact ⟨_, st, fun v z => by
      have z' : Data.fields _ = Data.cell v := z
      cases z'⟩
  keep := fun i h h' st k => k it (by simp) _ st
  item := by
    intro X hP hw hK hc i pins s σ H E I hf st hg
    subst hP hw hK
    obtain ⟨f0, f1, f2, f3, f4, f5⟩ := hf it (by simp)
    have W := Walks.range (prog := X.prog) (w := X.w) (I.ok.hd hc) it lo 1 n
    refine W.item i s _ _ hg st fun v h' tk hv st' kk => ?_
    obtain ⟨t, rfl⟩ := hv
    have I1 : Inv X pins σ H { s with heap := h', toks := tk } := I.turned (fun b o hb e => kk b o (by simpa using hb) e) f0 f1 f3 f4 f5
    refine ⟨_, rfl, go_of (s := { s with heap := h', toks := tk }) (n := "range_iterator") st' rfl rfl (by decide) ⟨.int (lo + i), H, I1, ⟨t, ?_⟩, ⟨rfl, rfl⟩, st', fun b hb => (hf b hb).1⟩⟩
    rw [Int.mul_one]
  done := by
    intro X hP hw hK hc i pins s σ H E I hf st hg
    subst hP hw hK
    obtain ⟨f0, f1, f2, f3, f4, f5⟩ := hf it (by simp)
    exact wpAny_pyNext_range_end (I.ok.hd hc) st (by have : n ≤ i := hg; omega) fun h' eb => ⟨rfl, I.turned (t' := s.toks) (fun b o hb e => eb b o hb e) f0 f1 f3 f4 f5⟩
  self := fun _ _ _ _ _ st h => wpAny_pyIter_rangeiter st h
end L2
namespace L2
open PySem PySem.Spec PyProof.Rows
section
variable {X : Cx} {tg : Expr}
def iList (K : PySem.W.Frag) (tl : TE) : TI := fun σ H R => tl σ H fun x H1 => ∃ a, x = .ref a ∧ (∃ xs, SqL K H1 a xs) ∧ R (Itl K a) H1
def iTup (K : PySem.W.Frag) (tl : TE) : TI := fun σ H R => tl σ H fun x H1 => ∃ a, x = .ref a ∧ (∃ xs, SqT K H1 a xs) ∧ R (Itt K a) H1
theorem pi_list {l : Expr} {tl : TE} (hl : PE X l tl) : PI X tg l (iList X.K tl) := by
  intro pins s σ H R I h
  refine thn (hl pins s σ H _ I h) fun v s1 ⟨x, H1, I1, r1, q1⟩ => ?_
  obtain ⟨a, e, ⟨xs, hq⟩, q⟩ := q1
  subst e
  cases r1
  obtain ⟨its, rv, p, hz⟩ := I1.list hq
  refine wpAny_pyIter_list p.isList ?_
  refine ⟨s1.heap.objs.size, [s1.heap.objs.size], _, _, H1, rfl, I1.kept (t' := s1.toks) fun b o e => Heap.get?_push_of_some _ e, turn_list a _, ⟨_, Heap.get?_push_size _ rfl, rfl, rfl⟩, fun b hb => ?_, q⟩
  have e : b = s1.heap.objs.size := by simpa using hb
  subst e
  exact I1.fpOk (Nat.le_refl _) (I1.hok.fresh (Nat.le_refl _))
theorem pi_tup {l : Expr} {tl : TE} (hl : PE X l tl) : PI X tg l (iTup X.K tl) := by
  intro pins s σ H R I h
  refine thn (hl pins s σ H _ I h) fun v s1 ⟨x, H1, I1, r1, q1⟩ => ?_
  obtain ⟨a, e, ⟨xs, hq⟩, q⟩ := q1
  subst e
  cases r1
  obtain ⟨its, rv, p, hz⟩ := I1.tuple hq
  refine wpAny_pyIter_tuple (show s1.heap.IsTuple a its.toArray from p) ?_
  refine ⟨s1.heap.objs.size, [s1.heap.objs.size], _, _, H1, rfl, I1.kept (t' := s1.toks) fun b o e => Heap.get?_push_of_some _ e, turn_tuple a _, ⟨_, Heap.get?_push_size _ rfl, rfl, rfl⟩, fun b hb => ?_, q⟩
  have e : b = s1.heap.objs.size := by simpa using hb
  subst e
  exact I1.fpOk (Nat.le_refl _) (I1.hok.fresh (Nat.le_refl _))
theorem range_it {pins : List (Addr × Obj)} {σ : St} {H : Hp} {s : Shared} {R : It → Hp → Prop} {E : Value → Shared → Prop} {lo hi : Int} {t u v : Tok} {tk : Nat} (I : Inv X pins σ H s) (h1 : -(2 ^ 62) ≤ lo) (h2 : lo < 2 ^ 62) (h3 : -(2 ^ 62) ≤ hi) (h4 : hi < 2 ^ 62)
    (q : R (Itr lo (hi - lo).toNat) H) : wpAny (model X.prog X.w) X.A (pyIter (.ref s.heap.objs.size)) (PIE X pins σ tg R) E { s with heap := s.heap.push { cls := .type "range", data := .fields #[.int lo t, .int hi u, .int 1 v] }, toks := tk } := by
  refine wpAny_pyIter_range (IsRange.new ..) (small_one h1 h2 h3 h4) ?_
  have I1 : Inv X pins σ H { s with heap := s.heap.push { cls := .type "range", data := .fields #[.int lo t, .int hi u, .int 1 v] }, toks := tk } := I.kept fun b o e => Heap.get?_push_of_some _ e
  refine ⟨(s.heap.push { cls := .type "range", data := .fields #[.int lo t, .int hi u, .int 1 v] }).objs.size, [(s.heap.push { cls := .type "range", data := .fields #[.int lo t, .int hi u, .int 1 v] }).objs.size], _, _, H, rfl,
    I1.kept (t' := tk) fun b o e => Heap.get?_push_of_some _ e, turn_range _ lo (hi - lo).toNat, ?_, fun b hb => ?_, q⟩
  · have e1 : lo + ((0 : Nat) : Int) * 1 = lo := by simp
    have e2 : (((hi - lo).toNat : Nat) : Int) - ((0 : Nat) : Int) = Builtin.Range.rangeSize lo hi 1 := by rw [rangeSize_one]; split <;> omega
    show IsRangeIter _ _ (lo + ((0 : Nat) : Int) * 1) ((((hi - lo).toNat : Nat) : Int) - ((0 : Nat) : Int)) 1
    rw [e1, e2]
    exact Heap.get?_push_size _ rfl
  · have e : b = (s.heap.push { cls := .type "range", data := .fields #[.int lo t, .int hi u, .int 1 v] }).objs.size := by simpa using hb
    subst e
    exact I1.fpOk (Nat.le_refl _) (I1.hok.fresh (Nat.le_refl _))
def iRng1 (ta : TA) : TI := fun σ H R => ta σ H fun vs H1 => ∃ j : Int, vs = [.int j] ∧ -(2 ^ 62) ≤ j ∧ j < 2 ^ 62 ∧ R (Itr 0 j.toNat) H1
def iRng2 (ta : TA) : TI := fun σ H R => ta σ H fun vs H1 => ∃ i j : Int, vs = [.int i, .int j] ∧ (-(2 ^ 62) ≤ i ∧ i < 2 ^ 62 ∧ -(2 ^ 62) ≤ j ∧ j < 2 ^ 62) ∧ R (Itr i (j - i).toNat) H1
theorem pi_range1 {a : Expr} {ta : TA} {p pos : Pos} (hg : Gl X "range") (hm : X.mg "range" = none) (ha : PA X [a] ta) (hs : starEach [a] X.env = [(false, eval a X.env)] := by rfl) : PI X tg (.Call (.Name "range" p) [a] [] pos) (iRng1 ta) := by
  intro pins s σ H R I h
  refine Call_ (ld_blt I hg hm boot_range (PyProof.Rows.callWith_type1 (thn (ha pos pins s σ H _ I h) fun us s1 ⟨vs, H1, I1, r1, q1⟩ => ?_) hs rfl))
  obtain ⟨j, e, q1, q2, q⟩ := q1
  subst e
  cases r1 with
  | cons r rr =>
    cases rr
    obtain ⟨t, rfl⟩ := r
    exact call_range_1 (range_it I1 (by omega) (by omega) q1 q2 (by simpa using q))
def tFor (wi : TI) (g : TG) (tb : TS) : TS := fun D σ H => wi σ H fun J H1 => ∃ W : Nat → Nat → St → Hp → Prop, (∃ m, W 0 m σ H1) ∧ ∀ i m σ H, W i m σ H →
  (J.stop i H ∧ D.nx σ H) ∨ (J.go i H ∧ ∃ N : St → Hp → Prop, (∀ σ' H', N σ' H' → ∃ m', m' < m ∧ W (i + 1) m' σ' H') ∧ ∀ x H', J.yld i H x H' → g x σ H' fun σ2 H2 => tb { D with nx := N, ct := N, bk := D.nx } σ2 H2)
def pinsAt (fp : List Addr) (h : Heap) : List (Addr × Obj) := fp.filterMap fun b => (h.get? b).map fun o => (b, o)
theorem mem_pinsAt {fp : List Addr} {h : Heap} {b : Addr} {o : Obj} (hb : b ∈ fp) (e : h.get? b = some o) : (b, o) ∈ pinsAt fp h := List.mem_filterMap.mpr ⟨b, hb, by rw [e]; rfl⟩
theorem of_pinsAt {fp : List Addr} {h : Heap} {p : Addr × Obj} (hp : p ∈ pinsAt fp h) : p.1 ∈ fp ∧ h.get? p.1 = some p.2 := by
  obtain ⟨b, hb, e⟩ := List.mem_filterMap.mp hp
  cases q : h.get? b with
  | none => rw [q] at e; cases e
  | some o =>
    rw [q] at e
    have e' : (b, o) = p := Option.some.inj e
    subst e'
    exact ⟨hb, q⟩
theorem Inv.pinned {pins : List (Addr × Obj)} {σ : St} {H : Hp} {s : Shared} {fp : List Addr} (I : Inv X pins σ H s) (hf : ∀ b ∈ fp, FpOk X pins H b) (ho : ∀ b ∈ fp, ∃ o, s.heap.get? b = some o ∧ ∀ v, o.data ≠ .cell v) : Inv X (pins ++ pinsAt fp s.heap) σ H s :=
  I.pins_of fun p hp => (List.mem_append.mp hp).elim (fun z => I.pin p (List.mem_append_right _ z)) fun z => by
    obtain ⟨hb, e⟩ := of_pinsAt z
    obtain ⟨f0, f1, f2, _⟩ := hf p.1 hb
    obtain ⟨o, e', d⟩ := ho p.1 hb
    rw [e] at e'; cases e'
    exact ⟨e, f0, f1, f2, d⟩
theorem Inv.unpinned {pins pl : List (Addr × Obj)} {σ : St} {H : Hp} {s : Shared} (I : Inv X (pins ++ pl) σ H s) : Inv X pins σ H s := I.pins_of fun p hp => I.pin p (List.mem_append_right _ (List.mem_append_left _ hp))
theorem ps_for {iter : Expr} {body : List Stmt} {wi : TI} {g : TG} {tb : TS} {pos : Pos} (hp : PassesOwn (model X.prog X.w) X.A X.env X.xe) (hc : X.calm = true) (hi : PI X tg iter wi) (hg : PG X tg g) (hb : PSs X body tb)
    (hs : ∀ x, foldedSetIterable iter X.env x = pure x := by intro _; rfl) : PS X (.For tg iter body [] pos) (tFor wi g tb) := by
  intro pins s σ H D I h
  refine wpAny_For (thn (hi pins s σ H _ I h) fun v s1 h1 => thn h1 fun itv s2 h2 => ?_) hs
  obtain ⟨it, fp, tn, J, H2, e, I2, T, st2, f2, W, ⟨m0, w0⟩, turn⟩ := h2
  subst e
  -- what stays true of the iterator's objects through the loop
  have stat : ∀ {H' : Hp}, (∀ b ∈ fp, H' b = none) → ∀ b ∈ fp, FpOk X pins H' b := fun hn b hb => ⟨hn b hb, (f2 b hb).2⟩
  refine codeAny_forLoop_any (fun n s' => ∃ i σ' H', Inv X pins σ' H' s' ∧ tn i s'.heap ∧ (∀ b ∈ fp, H' b = none) ∧ W i n σ' H') ?_ m0 ⟨0, σ, H2, I2, st2, fun b hb => (f2 b hb).1, w0⟩
  rintro n s3 ⟨i, σ3, H3, I3, st3, fr3, w3⟩
  rcases turn i n σ3 H3 w3 with ⟨stop, qn⟩ | ⟨go, N, hN, step⟩
  · refine wpAny_passesOwn hp (thn (T.done X rfl rfl rfl hc i pins s3 σ3 H3 X.xe I3 (stat fr3) st3 stop) fun r s4 ⟨hr, I4⟩ => ?_)
    subst hr
    exact wpAny_execs_nil ⟨σ3, H3, I4, qn⟩
  · refine wpAny_passesOwn hp (thn (T.item X rfl rfl rfl hc i pins s3 σ3 H3 X.xe I3 (stat fr3) st3 go) fun r s4 ⟨u, hr, h4⟩ => ?_)
    subst hr
    refine wpAny_passesOwn hp (thn h4 fun _ s5 ⟨x, H5, I5, r5, y5, st5, fr5⟩ => ?_)
    have I5' := I5.pinned (stat fr5) (T.obj _ _ st5)
    refine wpAny_passesOwn hp (thn (hg _ s5 σ3 H5 x u _ I5' r5 (step x H5 y5)) fun _ s6 ⟨σ6, H6, I6, q6⟩ => ?_)
    refine wpAny_passesOwn hp (thn (hb _ s6 σ6 H6 _ I6 q6) fun f s7 q7 => ?_)
    have again : ∀ {σ7 : St} {H7 : Hp}, Inv X (pins ++ pinsAt fp s5.heap) σ7 H7 s7 → N σ7 H7 → ∃ m, m < n ∧ ∃ i σ' H', Inv X pins σ' H' s7 ∧ tn i s7.heap ∧ (∀ b ∈ fp, H' b = none) ∧ W i m σ' H' := fun {σ7 H7} I7 n7 => by
      obtain ⟨m', hm, w7⟩ := hN σ7 H7 n7
      refine ⟨m', hm, i + 1, σ7, H7, I7.unpinned, T.keep _ _ _ st5 fun b hb o e => (I7.pin (b, o) (List.mem_append_right _ (List.mem_append_right _ (mem_pinsAt hb e)))).1, fun b hb => ?_, w7⟩
      obtain ⟨o, e, d⟩ := T.obj _ _ st5 b hb
      exact (I7.pin (b, o) (List.mem_append_right _ (List.mem_append_right _ (mem_pinsAt hb e)))).2.1
    cases f with
    | next => obtain ⟨σ7, H7, I7, n7⟩ := q7; exact again I7 n7
    | cont => obtain ⟨σ7, H7, I7, n7⟩ := q7; exact again I7 n7
    | brk => obtain ⟨σ7, H7, I7, q7⟩ := q7; exact ⟨σ7, H7, I7.unpinned, q7⟩
    | ret v => obtain ⟨x7, σ7, H7, I7, r7, q7⟩ := q7; exact ⟨x7, σ7, H7, I7.unpinned, r7, q7⟩
end
theorem for_list {K : PySem.W.Frag} {a : Addr} {xs : List V} {g : TG} {tb : TS} {D : Ends} {σ : St} {H : Hp} (Pv : Nat → St → Hp → Prop) (h0 : Pv 0 σ H) (hl : ∀ i σ H, i ≤ xs.length → Pv i σ H → SqL K H a xs)
    (hs : ∀ i x σ H, xs[i]? = some x → Pv i σ H → g x σ H fun σ2 H2 => tb { D with nx := Pv (i + 1), ct := Pv (i + 1), bk := D.nx } σ2 H2) (hd : ∀ σ H, Pv xs.length σ H → D.nx σ H) :
    ∃ W : Nat → Nat → St → Hp → Prop, (∃ m, W 0 m σ H) ∧ ∀ i m σ H, W i m σ H →
      ((Itl K a).stop i H ∧ D.nx σ H) ∨ ((Itl K a).go i H ∧ ∃ N : St → Hp → Prop, (∀ σ' H', N σ' H' → ∃ m', m' < m ∧ W (i + 1) m' σ' H') ∧ ∀ x H', (Itl K a).yld i H x H' → g x σ H' fun σ2 H2 => tb { D with nx := N, ct := N, bk := D.nx } σ2 H2) := by
  refine ⟨fun i m σ H => m = xs.length - i ∧ i ≤ xs.length ∧ Pv i σ H, ⟨xs.length, by simp, Nat.zero_le _, h0⟩, ?_⟩
  rintro i m σ H ⟨rfl, hi, p⟩
  have q := hl i σ H hi p
  by_cases hlt : i < xs.length
  · refine .inr ⟨⟨xs, xs[i], q, by simp [hlt]⟩, Pv (i + 1), fun σ' H' p' => ⟨xs.length - (i + 1), by omega, rfl, hlt, p'⟩, fun x H' y => ?_⟩
    obtain ⟨e, y⟩ := y
    subst e
    exact hs i x σ _ (y xs q) p
  · have e : i = xs.length := by omega
    subst e
    exact .inl ⟨⟨xs, q, Nat.le_refl _⟩, hd σ H p⟩
theorem for_tup {K : PySem.W.Frag} {a : Addr} {xs : List V} {g : TG} {tb : TS} {D : Ends} {σ : St} {H : Hp} (Pv : Nat → St → Hp → Prop) (h0 : Pv 0 σ H) (hl : ∀ i σ H, i ≤ xs.length → Pv i σ H → SqT K H a xs)
    (hs : ∀ i x σ H, xs[i]? = some x → Pv i σ H → g x σ H fun σ2 H2 => tb { D with nx := Pv (i + 1), ct := Pv (i + 1), bk := D.nx } σ2 H2) (hd : ∀ σ H, Pv xs.length σ H → D.nx σ H) :
    ∃ W : Nat → Nat → St → Hp → Prop, (∃ m, W 0 m σ H) ∧ ∀ i m σ H, W i m σ H →
      ((Itt K a).stop i H ∧ D.nx σ H) ∨ ((Itt K a).go i H ∧ ∃ N : St → Hp → Prop, (∀ σ' H', N σ' H' → ∃ m', m' < m ∧ W (i + 1) m' σ' H') ∧ ∀ x H', (Itt K a).yld i H x H' → g x σ H' fun σ2 H2 => tb { D with nx := N, ct := N, bk := D.nx } σ2 H2) := by
  refine ⟨fun i m σ H => m = xs.length - i ∧ i ≤ xs.length ∧ Pv i σ H, ⟨xs.length, by simp, Nat.zero_le _, h0⟩, ?_⟩
  rintro i m σ H ⟨rfl, hi, p⟩
  have q := hl i σ H hi p
  by_cases hlt : i < xs.length
  · refine .inr ⟨⟨xs, xs[i], q, by simp [hlt]⟩, Pv (i + 1), fun σ' H' p' => ⟨xs.length - (i + 1), by omega, rfl, hlt, p'⟩, fun x H' y => ?_⟩
    obtain ⟨e, y⟩ := y
    subst e
    exact hs i x σ _ (y xs q) p
  · have e : i = xs.length := by omega
    subst e
    exact .inl ⟨⟨xs, q, Nat.le_refl _⟩, hd σ H p⟩
theorem for_range {lo : Int} {n : Nat} {g : TG} {tb : TS} {D : Ends} {σ : St} {H : Hp} (Pv : Nat → St → Hp → Prop) (h0 : Pv 0 σ H)
    (hs : ∀ i σ H, i < n → Pv i σ H → g (.int (lo + i)) σ H fun σ2 H2 => tb { D with nx := Pv (i + 1), ct := Pv (i + 1), bk := D.nx } σ2 H2) (hd : ∀ σ H, Pv n σ H → D.nx σ H) :
    ∃ W : Nat → Nat → St → Hp → Prop, (∃ m, W 0 m σ H) ∧ ∀ i m σ H, W i m σ H →
      ((Itr lo n).stop i H ∧ D.nx σ H) ∨ ((Itr lo n).go i H ∧ ∃ N : St → Hp → Prop, (∀ σ' H', N σ' H' → ∃ m', m' < m ∧ W (i + 1) m' σ' H') ∧ ∀ x H', (Itr lo n).yld i H x H' → g x σ H' fun σ2 H2 => tb { D with nx := N, ct := N, bk := D.nx } σ2 H2) := by
  refine ⟨fun i m σ H => m = n - i ∧ i ≤ n ∧ Pv i σ H, ⟨n, by simp, Nat.zero_le _, h0⟩, ?_⟩
  rintro i m σ H ⟨rfl, hi, p⟩
  by_cases hlt : i < n
  · refine .inr ⟨hlt, Pv (i + 1), fun σ' H' p' => ⟨n - (i + 1), by omega, rfl, hlt, p'⟩, fun x H' y => ?_⟩
    obtain ⟨e, y⟩ := y
    subst e y
    exact hs i σ _ hlt p
  · have e : i = n := by omega
    subst e
    exact .inl ⟨Nat.le_refl _, hd σ H p⟩
end L2
namespace L2
open PySem PySem.Spec PyProof.Rows
abbrev R2 := V → V → Hp → VK → Prop
def OpR (X : Cx) (f : Value → Value → Sem Value) (r : R2) : Prop :=
  ∀ (pins : List (Addr × Obj)) (s : Shared) (σ : St) (H : Hp) (x y : V) (v u : Value) (Q : VK), Inv X pins σ H s → RelV x v → RelV y u → r x y H Q →
    wpAny (model X.prog X.w) X.A (f v u) (EP X pins σ Q) X.xe s
def UnR (X : Cx) (f : Value → Sem Value) (r : V → Hp → VK → Prop) : Prop :=
  ∀ (pins : List (Addr × Obj)) (s : Shared) (σ : St) (H : Hp) (x : V) (v : Value) (Q : VK), Inv X pins σ H s → RelV x v → r x H Q →
    wpAny (model X.prog X.w) X.A (f v) (EP X pins σ Q) X.xe s
def CallR (X : Cx) (f : Value) (r : List V → Hp → VK → Prop) : Prop :=
  ∀ (pins : List (Addr × Obj)) (s : Shared) (σ : St) (H : Hp) (xs : List V) (us : List Value) (Q : VK), Inv X pins σ H s → Vals xs us → r xs H Q →
    wpAny (model X.prog X.w) X.A (call f us) (EP X pins σ Q) X.xe s
def TruR (X : Cx) (r : V → Hp → (Bool → Hp → Prop) → Prop) : Prop :=
  ∀ (pins : List (Addr × Obj)) (s : Shared) (σ : St) (H : Hp) (x : V) (v : Value) (Q : Bool → Hp → Prop), Inv X pins σ H s → RelV x v → r x H Q →
    wpAny (model X.prog X.w) X.A (truthy v) (TP X pins σ Q) X.xe s
def tOp (r : R2) (ta tb : TE) : TE := fun σ H Q => ta σ H fun x H1 => tb σ H1 fun y H2 => r x y H2 Q
def tUn (r : V → Hp → VK → Prop) (ta : TE) : TE := fun σ H Q => ta σ H fun x H1 => r x H1 Q
def rI (C : Int → Int → Prop) (g : Int → Int → V) : R2 := fun x y H Q => ∃ i j, x = .int i ∧ y = .int j ∧ C i j ∧ Q (g i j) H
def rI0 (g : Int → Int → V) : R2 := fun x y H Q => ∃ i j, x = .int i ∧ y = .int j ∧ Q (g i j) H
def rU (g : Int → V) : V → Hp → VK → Prop := fun x H Q => ∃ i, x = .int i ∧ Q (g i) H
section
variable {X : Cx} {a b c : Expr} {ta tb tc : TE} {pos : Pos}
theorem binT (ha : PE X a ta) (hb : PE X b tb) {pins : List (Addr × Obj)} {s : Shared} {σ : St} {H : Hp} {R : V → V → Hp → Prop} (I : Inv X pins σ H s)
    (h : ta σ H fun x H1 => tb σ H1 fun y H2 => R x y H2) {Q : Value → Shared → Prop} {f : Value → Value → Sem Value}
    (hf : ∀ v u s2 x y H2, Inv X pins σ H2 s2 → RelV x v → RelV y u → R x y H2 → wpAny (model X.prog X.w) X.A (f v u) Q X.xe s2) :
    wpAny (model X.prog X.w) X.A (eval a X.env) (fun v s₁ => wpAny (model X.prog X.w) X.A (eval b X.env) (fun u s₂ => wpAny (model X.prog X.w) X.A (f v u) Q X.xe s₂) X.xe s₁) X.xe s := by
  refine thn (ha pins s σ H _ I h) fun v s1 ⟨x, H1, I1, r1, q1⟩ => ?_
  refine thn (hb pins s1 σ H1 _ I1 q1) fun u s2 ⟨y, H2, I2, r2, q2⟩ => ?_
  exact hf v u s2 x y H2 I2 r1 r2 q2
theorem pe_op {op : Operator} {r : R2} (ho : OpR X (binaryOp op) r) (ha : PE X a ta) (hb : PE X b tb) : PE X (.BinOp a op b pos) (tOp r ta tb) := by
  intro pins s σ H Q I h
  exact wpAny_BinOp (binT ha hb I h fun v u s2 x y H2 I2 rx ry q => ho pins s2 σ H2 x y v u Q I2 rx ry q)
theorem opI {f : Value → Value → Sem Value} {C : Int → Int → Prop} {g : Int → Int → Int}
    (rule : ∀ (i j : Int) (t u : Tok) (s : Shared) (Q : Value → Shared → Prop) (E : Value → Shared → Prop), C i j → Q (.int (g i j) s.toks) { s with toks := s.toks + 1 } → wpAny (model X.prog X.w) X.A (f (.int i t) (.int j u)) Q E s) :
    OpR X f (rI C fun i j => .int (g i j)) := by
  intro pins s σ H x y v u Q I rx ry h
  obtain ⟨i, j, rfl, rfl, hc, q⟩ := h
  obtain ⟨t, rfl⟩ := rx
  obtain ⟨t', rfl⟩ := ry
  exact rule i j t t' s _ _ hc ⟨.int (g i j), H, I.tok _, ⟨_, rfl⟩, q⟩
theorem opI0 {f : Value → Value → Sem Value} {g : Int → Int → Int}
    (rule : ∀ (i j : Int) (t u : Tok) (s : Shared) (Q : Value → Shared → Prop) (E : Value → Shared → Prop), Q (.int (g i j) s.toks) { s with toks := s.toks + 1 } → wpAny (model X.prog X.w) X.A (f (.int i t) (.int j u)) Q E s) :
    OpR X f (rI0 fun i j => .int (g i j)) := by
  intro pins s σ H x y v u Q I rx ry h
  obtain ⟨i, j, rfl, rfl, q⟩ := h
  obtain ⟨t, rfl⟩ := rx
  obtain ⟨t', rfl⟩ := ry
  exact rule i j t t' s _ _ ⟨.int (g i j), H, I.tok _, ⟨_, rfl⟩, q⟩
theorem opB0 {f : Value → Value → Sem Value} {g : Int → Int → Bool}
    (rule : ∀ (i j : Int) (t u : Tok) (s : Shared) (Q : Value → Shared → Prop) (E : Value → Shared → Prop), Q (.bool (g i j)) s → wpAny (model X.prog X.w) X.A (f (.int i t) (.int j u)) Q E s) :
    OpR X f (rI0 fun i j => .bl (g i j)) := by
  intro pins s σ H x y v u Q I rx ry h
  obtain ⟨i, j, rfl, rfl, q⟩ := h
  obtain ⟨t, rfl⟩ := rx
  obtain ⟨t', rfl⟩ := ry
  exact rule i j t t' s _ _ ⟨.bl (g i j), H, I, rfl, q⟩
def CDiv (i j : Int) : Prop := 0 < j ∧ j < 1073741824
def CDivN (i j : Int) : Prop := j ≠ 0 ∧ j.natAbs < 1073741824
def CPow (i j : Int) : Prop := 0 ≤ j ∧ j ≤ 1000000 ∧ i.natAbs < 2 ^ 64
def CMul (i j : Int) : Prop := (-(2 ^ 64) < i ∧ i < 2 ^ 64) ∨ (-(2 ^ 64) < j ∧ j < 2 ^ 64)
theorem CMul.ok {i j : Int} (h : CMul i j) : IntMulOk i j := by
  rcases h with ⟨h1, h2⟩ | ⟨h1, h2⟩
  · exact .of_left (intBits_le_64 h1 h2)
  · exact .of_right (intBits_le_64 h1 h2)
theorem op_add : OpR X (binaryOp .Add) (rI0 fun i j => .int (i + j)) := opI0 fun _ _ _ _ _ _ _ q => add_int q
theorem op_mul : OpR X (binaryOp .Mult) (rI CMul fun i j => .int (i * j)) := opI fun _ _ _ _ _ _ _ hc q => mul_int q hc.ok
theorem op_fdiv : OpR X (binaryOp .FloorDiv) (rI CDiv fun i j => .int (i / j)) := opI fun i j _ _ _ _ _ hc q => by
  have h1 : (0 : Int) < j := hc.1
  have h2 : j < 1073741824 := hc.2
  exact floordiv_int (by omega) (by rw [Int.fdiv_eq_ediv_of_nonneg i (by omega)]; exact q) (.inl (PyProof.noPylong_small (by omega)))
theorem op_mod : OpR X (binaryOp .Mod) (rI (fun _ j => 0 < j) fun i j => .int (i % j)) := opI fun i j _ _ _ _ _ hc q => by
  have h1 : (0 : Int) < j := hc
  exact mod_int' (by omega) (by rw [Int.fmod_eq_emod_of_nonneg i (by omega)]; exact q)
theorem op_pow : OpR X (binaryOp .Pow) (rI CPow fun i j => .int (i ^ j.toNat)) := opI fun _ _ _ _ _ _ _ hc q => pow_int_small hc.1 hc.2.1 hc.2.2 q
end
def scal : V → V → Bool
  | .non, .non => true | .non, .int _ => true | .int _, .non => true | .non, .bl _ => true | .bl _, .non => true | .non, .str _ => true | .str _, .non => true
  | .int _, .int _ => true | .bl _, .bl _ => true | .str _, .str _ => true | .byt _, .byt _ => true
  | .int _, .str _ => true | .str _, .int _ => true | .bl _, .str _ => true | .str _, .bl _ => true
  | _, _ => false
def rEq : R2 := fun x y H Q => scal x y = true ∧ Q (.bl (decide (x = y))) H
def rNe : R2 := fun x y H Q => scal x y = true ∧ Q (.bl (!decide (x = y))) H
theorem dec_int {i j : Int} : decide (V.int i = V.int j) = (i == j) := by
  rw [Bool.eq_iff_iff]
  simp
theorem dec_bl {i j : Bool} : decide (V.bl i = V.bl j) = (i == j) := by
  rw [Bool.eq_iff_iff]
  simp
theorem dec_str {i j : Str} : decide (V.str i = V.str j) = (i == j) := by
  rw [Bool.eq_iff_iff]
  simp
theorem dec_byt {i j : Array UInt8} : decide (V.byt i = V.byt j) = (i.toList == j.toList) := by
  rw [Bool.eq_iff_iff]
  cases i
  cases j
  simp
section
variable {X : Cx} {a b c : Expr} {ta tb tc : TE} {pos : Pos}
theorem fin_bl {pins : List (Addr × Obj)} {σ : St} {H : Hp} {s : Shared} {Q : VK} {k k' : Bool} (I : Inv X pins σ H s) (q : Q (.bl k) H) (e : k = k') : EP X pins σ Q (.bool k') s := by
  subst e
  exact ⟨.bl k, H, I, rfl, q⟩
theorem op_eq : OpR X (compareOp .Eq) rEq := by
  intro pins s σ H x y v u Q I rx ry h
  obtain ⟨hs, q⟩ := h
  cases x with
  | non =>
    cases rx
    cases y with
    | non => cases ry; exact PySem.EqNone.eq_none_none (fin_bl I q (by simp))
    | bl j => cases ry; exact PySem.EqNone.eq_none_bool (fin_bl I q (by simp))
    | int j => obtain ⟨t', rfl⟩ := ry; exact PySem.EqNone.eq_none_int (fin_bl I q (by simp))
    | str j => obtain ⟨t', rfl⟩ := ry; exact PySem.EqNone.eq_none_str (fin_bl I q (by simp))
    | _ => exact absurd (show false = true from hs) Bool.false_ne_true
  | bl i =>
    cases rx
    cases y with
    | non => cases ry; exact PySem.EqNone.eq_bool_none (fin_bl I q (by simp))
    | bl j => cases ry; exact eq_bool (fin_bl I q dec_bl)
    | str j => obtain ⟨t', rfl⟩ := ry; exact PySem.EqMixed.eq_bool_str (fin_bl I q (by simp))
    | _ => exact absurd (show false = true from hs) Bool.false_ne_true
  | int i =>
    obtain ⟨t, rfl⟩ := rx
    cases y with
    | non => cases ry; exact PySem.EqNone.eq_int_none (fin_bl I q (by simp))
    | int j => obtain ⟨t', rfl⟩ := ry; exact eq_int (fin_bl I q dec_int)
    | str j => obtain ⟨t', rfl⟩ := ry; exact PySem.EqMixed.eq_int_str (fin_bl I q (by simp))
    | _ => exact absurd (show false = true from hs) Bool.false_ne_true
  | str i =>
    obtain ⟨t, rfl⟩ := rx
    cases y with
    | non => cases ry; exact PySem.EqNone.eq_str_none (fin_bl I q (by simp))
    | bl j => cases ry; exact PySem.EqMixed.eq_str_bool (fin_bl I q (by simp))
    | int j => obtain ⟨t', rfl⟩ := ry; exact PySem.EqMixed.eq_str_int (fin_bl I q (by simp))
    | str j => obtain ⟨t', rfl⟩ := ry; exact eq_str (fin_bl I q dec_str)
    | _ => exact absurd (show false = true from hs) Bool.false_ne_true
  | byt i =>
    obtain ⟨t, rfl⟩ := rx
    cases y with
    | byt j => obtain ⟨t', rfl⟩ := ry; exact PySem.W.eq_bytes (fin_bl I q dec_byt)
    | _ => exact absurd (show false = true from hs) Bool.false_ne_true
  | _ => cases y <;> exact absurd (show false = true from hs) Bool.false_ne_true
theorem op_ne : OpR X (compareOp .NotEq) rNe := by
  intro pins s σ H x y v u Q I rx ry h
  obtain ⟨hs, q⟩ := h
  cases x with
  | non =>
    cases rx
    cases y with
    | non => cases ry; exact PySem.EqNone.ne_none_none (fin_bl I q (by simp))
    | bl j => cases ry; exact PySem.EqNone.ne_none_bool (fin_bl I q (by simp))
    | int j => obtain ⟨t', rfl⟩ := ry; exact PySem.EqNone.ne_none_int (fin_bl I q (by simp))
    | str j => obtain ⟨t', rfl⟩ := ry; exact PySem.EqNone.ne_none_str (fin_bl I q (by simp))
    | _ => exact absurd (show false = true from hs) Bool.false_ne_true
  | bl i =>
    cases rx
    cases y with
    | non => cases ry; exact PySem.EqNone.ne_bool_none (fin_bl I q (by simp))
    | bl j => cases ry; exact ne_bool (fin_bl I q (congrArg not dec_bl))
    | str j => obtain ⟨t', rfl⟩ := ry; exact PySem.EqMixed.ne_bool_str (fin_bl I q (by simp))
    | _ => exact absurd (show false = true from hs) Bool.false_ne_true
  | int i =>
    obtain ⟨t, rfl⟩ := rx
    cases y with
    | non => cases ry; exact PySem.EqNone.ne_int_none (fin_bl I q (by simp))
    | int j => obtain ⟨t', rfl⟩ := ry; exact ne_int (fin_bl I q (congrArg not dec_int))
    | str j => obtain ⟨t', rfl⟩ := ry; exact PySem.EqMixed.ne_int_str (fin_bl I q (by simp))
    | _ => exact absurd (show false = true from hs) Bool.false_ne_true
  | str i =>
    obtain ⟨t, rfl⟩ := rx
    cases y with
    | non => cases ry; exact PySem.EqNone.ne_str_none (fin_bl I q (by simp))
    | bl j => cases ry; exact PySem.EqMixed.ne_str_bool (fin_bl I q (by simp))
    | int j => obtain ⟨t', rfl⟩ := ry; exact PySem.EqMixed.ne_str_int (fin_bl I q (by simp))
    | str j => obtain ⟨t', rfl⟩ := ry; exact ne_str (fin_bl I q (congrArg not dec_str))
    | _ => exact absurd (show false = true from hs) Bool.false_ne_true
  | byt i =>
    obtain ⟨t, rfl⟩ := rx
    cases y with
    | byt j => obtain ⟨t', rfl⟩ := ry; exact PySem.W.ne_bytes (fin_bl I q (congrArg not dec_byt))
    | _ => exact absurd (show false = true from hs) Bool.false_ne_true
  | _ => cases y <;> exact absurd (show false = true from hs) Bool.false_ne_true
theorem op_lt : OpR X (compareOp .Lt) (rI0 fun i j => .bl (decide (i < j))) := opB0 fun _ _ _ _ _ _ _ q => lt_int q
theorem op_gt : OpR X (compareOp .Gt) (rI0 fun i j => .bl (decide (j < i))) := opB0 fun _ _ _ _ _ _ _ q => gt_int q
theorem op_ge : OpR X (compareOp .GtE) (rI0 fun i j => .bl (decide (j ≤ i))) := opB0 fun _ _ _ _ _ _ _ q => ge_int q
theorem op_isN : OpR X (compareOp .Is) (fun x y H Q => y = .non ∧ Q (.bl (decide (x = .non))) H) := by
  intro pins s σ H x y v u Q I rx ry h
  obtain ⟨rfl, q⟩ := h
  cases ry
  refine is_none_gen (fin_bl I q ?_)
  cases x <;> first
    | (cases rx; rfl)
    | (obtain ⟨t, rfl⟩ := rx; rfl)
theorem op_notN : OpR X (compareOp .IsNot) (fun x y H Q => y = .non ∧ Q (.bl (!decide (x = .non))) H) := by
  intro pins s σ H x y v u Q I rx ry h
  obtain ⟨rfl, q⟩ := h
  cases ry
  refine isnot_none_gen (fin_bl I q ?_)
  cases x <;> first
    | (cases rx; rfl)
    | (obtain ⟨t, rfl⟩ := rx; rfl)
def isObj : HO → Bool
  | .lst _ => true
  | .ins _ _ _ => true
  | _ => false
theorem nomark (b : Expr) {op : CmpOp} (h : op ≠ .In := by decide) (h2 : op ≠ .NotIn := by decide) : behindInMarks op b = false := by
  have e1 : (op == CmpOp.In) = false := by cases op <;> first | rfl | exact absurd rfl h
  have e2 : (op == CmpOp.NotIn) = false := by cases op <;> first | rfl | exact absurd rfl h2
  cases b <;> simp [behindInMarks, e1, e2]
theorem pe_cmpR {op : CmpOp} {r : R2} (ho : OpR X (compareOp op) r) (ha : PE X a ta) (hb : PE X b tb) (hm : behindInMarks op b = false) : PE X (.Compare a [op] [b] pos) (tOp r ta tb) := by
  intro pins s σ H Q I h
  exact wpAny_Compare1 (binT ha hb I h fun v u s2 x y H2 I2 rx ry q => ho pins s2 σ H2 x y v u Q I2 rx ry q) hm
def tTest (t : TE) : TT := fun σ H Q => t σ H fun x H' => ∃ k, x = .bl k ∧ Q k H'
theorem pt_cmpR {op : CmpOp} {r : R2} (ho : OpR X (compareOp op) r) (ha : PE X a ta) (hb : PE X b tb) (hm : behindInMarks op b = false) : PT X (.Compare a [op] [b] pos) (tTest (tOp r ta tb)) := by
  intro pins s σ H Q I h
  refine wpAny_isTrue_Compare1 (thn (ha pins s σ H _ I h) fun v s1 ⟨x, H1, I1, r1, q1⟩ => thn (hb pins s1 σ H1 _ I1 q1) fun u s2 ⟨y, H2, I2, r2, q2⟩ =>
    thn (ho pins s2 σ H2 x y v u _ I2 r1 r2 q2) fun c s3 ⟨z, H3, I3, r3, k, e, q3⟩ => ?_) hm
  subst e
  cases r3
  exact wpAny_truthy_bool ⟨H3, I3, q3⟩
def tChain (r r' : R2) (ta tb tc : TE) : TE := fun σ H Q => ta σ H fun x H1 => tb σ H1 fun y H2 => r x y H2 fun z H3 => ∃ k, z = .bl k ∧
  (if k = true then tc σ H3 fun w' H4 => r' y w' H4 Q else Q (.bl false) H3)
def TruV (K : PySem.W.Frag) (x : V) (H : Hp) (k : Bool) : Prop :=
  match x with
  | .non => k = false
  | .bl b => k = b
  | .int i => k = (i != 0)
  | .str y => y.length ≤ sizeLine ∧ k = ((y.length : Int) != 0)
  | .byt y => y.size ≤ sizeLine ∧ k = ((y.size : Int) != 0)
  | .ref p => (∃ xs, SqL K H p xs ∧ k = !xs.isEmpty) ∨ (∃ xs, SqT K H p xs ∧ k = !xs.isEmpty) ∨ ∃ kvs, H p = some (.dK kvs) ∧ k = !kvs.isEmpty
  | _ => False
theorem line63 : (sizeLine : Nat) < 2 ^ 63 := by rw [sizeLine_eq]; decide
def PlainIxT (b : Expr) : Prop := ∀ o i, subscripted b false o i = operate [o, i] (getItem o i)
theorem vals1 {x : V} {us : List Value} (r : Vals [x] us) : ∃ u, us = [u] ∧ RelV x u := by
  cases r with
  | cons r1 r2 => cases r2; exact ⟨_, rfl, r1⟩
theorem vals2 {x y : V} {us : List Value} (r : Vals [x, y] us) : ∃ u w', us = [u, w'] ∧ RelV x u ∧ RelV y w' := by
  cases r with
  | cons r1 r2 =>
    cases r2 with
    | cons r3 r4 => cases r4; exact ⟨_, _, rfl, r1, r3⟩
theorem call_abs : CallR X (.builtin "abs") (fun xs H Q => ∃ i, xs = [.int i] ∧ Q (.int (if i < 0 then -i else i)) H) := by
  intro pins s σ H xs us Q I r h
  obtain ⟨i, rfl, q⟩ := h
  obtain ⟨u, rfl, t, rfl⟩ := vals1 r
  exact call_abs_int fun u tk => ⟨.int (if i < 0 then -i else i), H, I.tok _, ⟨_, rfl⟩, q⟩
theorem call_max2 (hc : X.calm = true) : CallR X (.builtin "max") (fun xs H Q => ∃ i j, xs = [.int i, .int j] ∧ Q (.int (if j > i then j else i)) H) := by
  intro pins s σ H xs us Q I r h
  obtain ⟨i, j, rfl, q⟩ := h
  obtain ⟨u, w', rfl, ⟨t, rfl⟩, ⟨t', rfl⟩⟩ := vals2 r
  refine max_two_ints (I.ok.hd hc) fun h' tk k => ⟨_, H, I.kept k, ?_, q⟩
  by_cases hj : j > i
  · rw [if_pos hj, if_pos hj]; exact ⟨_, rfl⟩
  · rw [if_neg hj, if_neg hj]; exact ⟨_, rfl⟩
theorem call_int1 : CallR X (.type "int") (fun xs H Q => (∃ i, xs = [.int i] ∧ Q (.int i) H) ∨ ∃ k, xs = [.bl k] ∧ Q (.int (if k then 1 else 0)) H) := by
  intro pins s σ H xs us Q I r h
  rcases h with ⟨i, rfl, q⟩ | ⟨k, rfl, q⟩
  · obtain ⟨u, rfl, t, rfl⟩ := vals1 r
    exact call_int_int ⟨.int i, H, I, ⟨_, rfl⟩, q⟩
  · obtain ⟨u, rfl, r1⟩ := vals1 r
    cases r1
    exact call_int_bool ⟨.int (if k then 1 else 0), H, I.tok _, ⟨_, rfl⟩, q⟩
def LenV (K : PySem.W.Frag) (x : V) (H : Hp) (n : Nat) : Prop :=
  match x with
  | .str y => y.length ≤ sizeLine ∧ n = y.length
  | .byt y => y.size ≤ sizeLine ∧ n = y.size
  | .ref p => (∃ xs, SqL K H p xs ∧ n = xs.length) ∨ ∃ xs, SqT K H p xs ∧ n = xs.length
  | _ => False
end
end L2
namespace L2
open PySem PySem.Spec PyProof.Rows
structure ObjM (h : Heap) (x dx C : Addr) (mA : Str → Option Value) : Prop where
  obj : h.get? x = some (PySem.W.instObj C dx)
  ns : h.Ns1 dx mA
  ne : dx ≠ x
theorem lookIn_ns {h : Heap} {dx : Addr} {mA : Str → Option Value} (n : h.Ns1 dx mA) : ∃ od, h.get? dx = some od ∧ ∀ name, PySem.W.lookIn name od = some (mA name) := by
  obtain ⟨o, es, ep, ho, hd, hk, _, hm⟩ := n
  refine ⟨o, ho, fun name => ?_⟩
  have e := hm name
  unfold nsFind findBy at e
  rw [← Array.find?_toList] at e
  unfold PySem.W.lookIn
  rw [hd]
  dsimp only
  split
  · rename_i y q
    rw [q] at e
    exact congrArg some e
  · rename_i q
    rw [q] at e
    have a : es.toList.any (·.refKey) = false := by
      rw [List.any_eq_false]
      intro y hy
      obtain ⟨z, t, hkey⟩ := hk y (Array.mem_toList_iff.mp hy)
      simp [DictEntry.refKey, hkey]
    have a' : ¬ es.toList.any (·.refKey) = true := by rw [a]; exact Bool.false_ne_true
    rw [if_neg a']
    exact congrArg some e
theorem ObjM.look {h : Heap} {x dx C : Addr} {mA : Str → Option Value} (I : ObjM h x dx C mA) : ∃ od, PySem.W.InstAt h x (PySem.W.instObj C dx) C (some od) ∧ ∀ name, PySem.W.lookIn name od = some (mA name) :=
  let ⟨od, ho, hl⟩ := lookIn_ns I.ns
  ⟨od, ⟨I.obj, rfl, rfl, ho⟩, hl⟩
section
variable {prog : Program} {w : World} {A : Around} {E : Value → Shared → Prop} {s : Shared} {K : PySem.W.Frag} {x dx C f : Addr} {mA : Str → Option Value} {name : Str} {v : Value}
end
def putF (f : Str) (v : V) : List (Str × V) → List (Str × V)
  | [] => [(f, v)]
  | (g, x) :: r => if g = f then (g, v) :: r else (g, x) :: putF f v r
theorem RelO.some_of {v : V} {o : Option Value} (r : RelO (some v) o) : ∃ u, o = some u ∧ RelV v u := by
  cases o with
  | none => exact (show False from r).elim
  | some u => exact ⟨u, rfl, r⟩
section
variable {P : Program} {w : World} {H H' : Hp} {h h' : Heap} {a C dx : Addr} {fs fs' : List (Str × V)}
theorem ins_get (hok : HOk P w H h) (e : H a = some (.ins C dx fs)) : ∃ mA, ObjM h a dx C mA ∧ (∀ f, RelO (fs.lookup f) (mA f)) ∧ PySem.Within mA (fs.map (·.1)) ∧ fs.length ≤ 1000 ∧ H dx = some (.own a) := by
  obtain ⟨d, z, ne, ob, mA, n, r, q⟩ := (show ObjOk P w H h a (.ins C dx fs) from hok a _ e)
  exact ⟨mA, ⟨ob, n, ne⟩, r, q, z, d⟩
end
structure Cls (K : PySem.W.Frag) (C : Addr) : Prop where
  pg : PySem.W.plainGet K C Str.empty = true
  hd : PySem.W.hasDictIn K C = true
  po : PySem.W.plainOver K C = true
  sa : PySem.W.findIn K (.ref C) "__setattr__" = some (some (.builtin "object.__setattr__"))
theorem Cls.get {K : PySem.W.Frag} {C : Addr} (c : Cls K C) (f : Str) : PySem.W.plainGet K C f = true := c.pg
def NoAttr (K : PySem.W.Frag) (C : Addr) (f : Str) : Prop := PySem.W.findIn K (.ref C) f = some none
structure Con (K : PySem.W.Frag) (C : Addr) (f : Str) (v : V) (u : Value) : Prop where
  at_ : PySem.W.findIn K (.ref C) f = some (some u)
  rel : RelV v u
  get : PySem.W.specialIn K u "__get__" = some none
  cp : PySem.W.copiedNames.contains f = false
structure Meth (K : PySem.W.Frag) (C : Addr) (m : Str) (f : Addr) : Prop where
  at_ : PySem.W.findIn K (.ref C) m = some (some (.ref f))
  fn : PySem.W.isFn K (.ref f) = true
  kp : PySem.W.keepIn K (.ref f) = true
section
variable {X : Cx} {pins : List (Addr × Obj)} {σ : St} {H : Hp} {s : Shared} {a C dx : Addr} {fs : List (Str × V)} {f : Str} {v : V} {A : Around} {E : Value → Shared → Prop}
end
def tFld (K : PySem.W.Frag) (ta : TE) (f : Str) : TE := fun σ H Q => ta σ H fun x H1 => ∃ a C dx fs v, x = .ref a ∧ H1 a = some (.ins C dx fs) ∧ Cls K C ∧ NoAttr K C f ∧ fs.lookup f = some v ∧ Q v H1
def tCon (K : PySem.W.Frag) (ta : TE) (f : Str) : TE := fun σ H Q => ta σ H fun x H1 => ∃ a C dx fs v u, x = .ref a ∧ H1 a = some (.ins C dx fs) ∧ Cls K C ∧ Con K C f v u ∧ fs.lookup f = none ∧ Q v H1
def sFld (K : PySem.W.Frag) (ta tv : TE) (f : Str) : TS := fun D σ H => tv σ H fun y H1 => ta σ H1 fun x H2 => ∃ a C dx fs, x = .ref a ∧ H2 a = some (.ins C dx fs) ∧ Cls K C ∧ NoAttr K C f ∧ fs.length < 1000 ∧
  D.nx σ (upd H2 a (.ins C dx (putF f y fs)))
def InOp (X : Cx) (op : Operator) (rd : V → V → Hp → VK → Prop) : Prop :=
  ∀ (pins : List (Addr × Obj)) (s : Shared) (σ : St) (H : Hp) (x y : V) (u v : Value) (Q : VK), Inv X pins σ H s → RelV x u → RelV y v → rd x y H Q → wpAny (model X.prog X.w) X.A (inplaceOp op u v) (EP X pins σ Q) X.xe s
def sFldAug (K : PySem.W.Frag) (ta tv : TE) (rd : V → V → Hp → VK → Prop) (f : Str) : TS := fun D σ H => ta σ H fun x H1 => ∃ a C dx fs v, x = .ref a ∧ H1 a = some (.ins C dx fs) ∧ Cls K C ∧ NoAttr K C f ∧ fs.lookup f = some v ∧
  tv σ H1 fun y H2 => rd v y H2 fun z H3 => ∃ dx' fs', H3 a = some (.ins C dx' fs') ∧ fs'.length < 1000 ∧ D.nx σ (upd H3 a (.ins C dx' (putF f z fs')))
section
variable {X : Cx} {o e value : Expr} {f : Str} {pos pos' tpos : Pos} {ta tv : TE}
def rAdd : V → V → Hp → VK → Prop := fun x y H Q => ∃ i j, x = .int i ∧ y = .int j ∧ Q (.int (i + j)) H
def rSub : V → V → Hp → VK → Prop := fun x y H Q => ∃ i j, x = .int i ∧ y = .int j ∧ Q (.int (i - j)) H
end
section
variable {X : Cx} {pins : List (Addr × Obj)} {σ : St} {H : Hp} {s : Shared} {A : Around} {E : Value → Shared → Prop} {Q : Value → Shared → Prop} {c : Value} {b : Bool}
inductive TyOf (K : PySem.W.Frag) (H : Hp) : V → Value → Prop where
  | non : TyOf K H .non (.type "NoneType")
  | bl (x : Bool) : TyOf K H (.bl x) (.type "bool")
  | int (i : Int) : TyOf K H (.int i) (.type "int")
  | str (x : Str) : TyOf K H (.str x) (.type "str")
  | flt (x : UInt64) : TyOf K H (.flt x) (.type "float")
  | lst {a : Addr} {xs : List V} (e : H a = some (.lst xs)) : TyOf K H (.ref a) (.type "list")
  | frz {a : Addr} {o : Obj} {xs : List V} (e : H a = some (.frz o (.lst xs))) : TyOf K H (.ref a) (.type "list")
  | tup {a : Addr} {xs : List V} (e : H a = some (.tup xs)) : TyOf K H (.ref a) (.type "tuple")
  | dK {a : Addr} {kvs : List (Key × V)} (e : H a = some (.dK kvs)) : TyOf K H (.ref a) (.type "dict")
  | dT {a : Addr} {kvs : List (List Key × V)} (e : H a = some (.dT kvs)) : TyOf K H (.ref a) (.type "dict")
  | ins {a C dx : Addr} {fs : List (Str × V)} (e : H a = some (.ins C dx fs)) (cl : Cls K C) (ha : PySem.W.findIn K (.ref C) "__class__" = some (some (.builtin "object.__class__")))
      (hn : PySem.W.specialIn K (.builtin "object.__class__") "__get__" = some (some (.builtin "getset_descriptor.__get__"))) (htk : PySem.W.takesIn K (.builtin "object.__class__") = some true)
      (hm : PySem.W.mroIn K C (.type "object") = some true) : TyOf K H (.ref a) (.ref C)
theorem isinst_ok {x : V} {u t : Value} (I : Inv X pins σ H s) (rx : RelV x u) (ty : TyOf X.K H x t) (e : PySem.W.kitOne X.K t c = some b) (h : ∀ tk, Q (.bool b) { s with toks := tk }) :
    wpAny (model X.prog X.w) A (call (.builtin "isinstance") [u, c]) Q E s := by
  cases ty with
  | non => cases (show u = Value.none from rx); exact PySem.W.kia_one PySem.W.kitx_none I.kIn True.intro e (fun z => nomatch z) h
  | bl y => cases (show u = Value.bool y from rx); exact PySem.W.kia_one PySem.W.kitx_bool I.kIn True.intro e (fun z => nomatch z) h
  | int i => obtain ⟨t, q⟩ := (show ∃ t, u = Value.int i t from rx); cases q; exact PySem.W.kia_one PySem.W.kitx_int I.kIn True.intro e (fun z => nomatch z) h
  | str y => obtain ⟨t, q⟩ := (show ∃ t, u = Value.str y t from rx); cases q; exact PySem.W.kia_one PySem.W.kitx_str I.kIn True.intro e (fun z => nomatch z) h
  | flt y => obtain ⟨t, q⟩ := (show ∃ t, u = Value.float y t from rx); cases q; exact PySem.W.kia_one PySem.W.kitx_float I.kIn True.intro e (fun z => nomatch z) h
  | @lst a xs ea =>
    cases (show u = Value.ref a from rx)
    obtain ⟨_, _, n, _, h1⟩ := (show ObjOk X.prog X.w H s.heap a (.lst xs) from I.hok a _ ea)
    exact PySem.W.kia_one PySem.W.kitx_list I.kIn ⟨_, h1, rfl⟩ e (fun z => nomatch z) h
  | @frz a ob xs ea =>
    cases (show u = Value.ref a from rx)
    obtain ⟨_, _, _, n, _, h1⟩ := (show ObjOk X.prog X.w H s.heap a (.frz ob (.lst xs)) from I.hok a _ ea)
    exact PySem.W.kia_one PySem.W.kitx_list I.kIn ⟨_, h1, rfl⟩ e (fun z => nomatch z) h
  | @tup a xs ea =>
    cases (show u = Value.ref a from rx)
    obtain ⟨_, _, _, p⟩ := (show ObjOk X.prog X.w H s.heap a (.tup xs) from I.hok a _ ea)
    obtain ⟨o, h1, h2, _⟩ := p
    exact PySem.W.kia_one PySem.W.kitx_tuple I.kIn ⟨o, h1, h2⟩ e (fun z => nomatch z) h
  | @dK a kvs ea =>
    cases (show u = Value.ref a from rx)
    obtain ⟨_, _, vs, _, p⟩ := (show ObjOk X.prog X.w H s.heap a (.dK kvs) from I.hok a _ ea)
    obtain ⟨o, es, ep, h1, h2, _⟩ := p
    exact PySem.W.kia_one PySem.W.kitx_dict I.kIn ⟨o, h1, h2.1⟩ e (fun z => nomatch z) h
  | @dT a kvs ea =>
    cases (show u = Value.ref a from rx)
    obtain ⟨_, _, xs, _, o, es, ep, h1, h2, _⟩ := (show ObjOk X.prog X.w H s.heap a (.dT kvs) from I.hok a _ ea)
    exact PySem.W.kia_one PySem.W.kitx_dict I.kIn ⟨o, h1, h2.1⟩ e (fun z => nomatch z) h
  | @ins a C dx fs ea cl ha hn htk hm =>
    cases (show u = Value.ref a from rx)
    obtain ⟨mA, O, _⟩ := ins_get I.hok ea
    obtain ⟨od, J, _⟩ := O.look
    exact PySem.W.kia_one (PySem.W.kitx_own (cl.get _) cl.hd ha hn htk hm) I.kIn J e (fun z => nomatch z) h
end
end L2
namespace L2
open PySem PySem.Spec PyProof.Rows
structure Room (k : Nat) (A : Around) : Prop where
  hd : A.handled = none
  dp : A.depth + 3 * k + 5 < recursionLimit
  un : A.units + 16 * k + 200 < cLine
theorem Room.mono {j k : Nat} {A : Around} (r : Room k A) (h : j ≤ k) : Room j A := ⟨r.hd, by have := r.dp; omega, by have := r.un; omega⟩
theorem Room.deeper {k : Nat} {A : Around} (r : Room (k + 1) A) (env : Env) : Room k (A.deeper env) :=
  ⟨r.hd, by have := r.dp; show A.depth + 1 + 3 * k + 5 < _; omega, by have := r.un; show A.units + 3 + 16 * k + 200 < _; omega⟩
theorem Room.depth {k : Nat} {A : Around} (r : Room k A) : A.depth < recursionLimit := by have := r.dp; omega
theorem Room.units {k : Nat} {A : Around} (r : Room k A) : A.units + 64 < cLine := by have := r.un; omega
def tNil : TA := fun _ H Q => Q [] H
def tCons (ta : TE) (tr : TA) : TA := fun σ H Q => ta σ H fun x H1 => tr σ H1 fun xs H2 => Q (x :: xs) H2
section
variable {X : Cx} {e : Expr} {es : List Expr} {te : TE} {t : TA} {pos : Pos}
theorem pa_nil : PA X [] tNil := fun _ _ _ _ H Q I h => Calls.spliced_nil ⟨[], H, I, .nil, h⟩
theorem pa_cons (ha : PE X e te) (hr : PA X es t) (hs : starEach (e :: es) X.env = (false, eval e X.env) :: starEach es X.env := by rfl) : PA X (e :: es) (tCons te t) := by
  intro pos pins s σ H Q I h
  rw [hs]
  show wpAny _ _ (spliced ((false, eval e X.env) :: backTo pos (starEach es X.env))) _ _ s
  refine Calls.spliced_cons (thn (ha pins s σ H _ I h) fun u s1 ⟨x, H1, I1, r1, q1⟩ => ?_)
  exact thn (hr pos pins s1 σ H1 _ I1 q1) fun us s2 ⟨xs, H2, I2, r2, q2⟩ => ⟨x :: xs, H2, I2, .cons r1 r2, q2⟩
def tTup (t : TA) : TE := fun σ H Q => t σ H fun xs H1 => xs.length ≤ sizeLine ∧ ∀ p, H1 p = none → Q (.ref p) (upd H1 p (.tup xs))
def tLst (t : TA) : TE := fun σ H Q => t σ H fun xs H1 => xs.length ≤ sizeLine ∧ ∀ p, H1 p = none → Q (.ref p) (upd H1 p (.lst xs))
theorem pe_tup {x1} (h : PA X es t) : PE X (.Tuple es x1 pos) (tTup t) := by
  intro pins s σ H Q I hq
  refine wpAny_Tuple_spliced (thn (h pos pins s σ H _ I hq) fun us s1 ⟨xs, H1, I1, r, z, q⟩ => ⟨by rw [← r.length]; exact z, ?_⟩)
  have hf : H1 s1.heap.objs.size = none := I1.hok.fresh (Nat.le_refl _)
  refine ⟨.ref s1.heap.objs.size, upd H1 s1.heap.objs.size (.tup xs), I1.laid (t' := s1.toks) (fun b u e => Heap.get?_push_of_some _ e) (Nat.le_refl _) ?_, rfl, q _ hf⟩
  exact ⟨z, us, r, ⟨_, Heap.get?_push_size _ rfl, rfl, _, rfl⟩⟩
theorem pe_lst (h : PA X es t) : PE X (.List es pos) (tLst t) := by
  intro pins s σ H Q I hq
  refine wpAny_List_spliced (thn (h pos pins s σ H _ I hq) fun us s1 ⟨xs, H1, I1, r, z, q⟩ => ⟨by rw [← r.length]; exact z, ?_⟩)
  have hf : H1 s1.heap.objs.size = none := I1.hok.fresh (Nat.le_refl _)
  refine ⟨.ref s1.heap.objs.size, upd H1 s1.heap.objs.size (.lst xs), I1.laid (t' := s1.toks) (fun b u e => Heap.get?_push_of_some _ e) (Nat.le_refl _) ?_, rfl, q _ hf⟩
  exact ⟨z, us, 0, r, Heap.get?_push_size _ rfl⟩
end
abbrev Sp := List V → Hp → VK → XK → Prop
abbrev CXT := List Env → Hp → Shared → XK → Value → Shared → Prop
structure Env0 (P : Program) (w : World) (K : PySem.W.Frag) (mg : Str → Option Value) (base : Heap) (A : Around) (outer : List Env) (s : Shared) (H : Hp) : Prop where
  frames : A.frames = some outer
  mod : Mod K mg base
  bs : ∀ b o, base.get? b = some o → s.heap.get? b = some o ∧ H b = none
  bsz : base.objs.size ≤ s.heap.objs.size
  funs : s.heap.FunFrames base outer
  frf : ∀ b ∈ frs outer, H b = none
  hok : HOk P w H s.heap
  bare : AllBare s.gens
def CE (outer : List Env) (P : Program) (w : World) (H : Hp) (s : Shared) (Q : VK) (u : Value) (s' : Shared) : Prop :=
  ∃ v H', s'.os = s.os ∧ AllBare s'.gens ∧ Un (frs outer) [] H H' s.heap s'.heap ∧ HOk P w H' s'.heap ∧ RelV v u ∧ Q v H'
def CR (CX : CXT) (outer : List Env) (P : Program) (w : World) (H : Hp) (s : Shared) (Q : VK) (E : XK) (r : Result) (s' : Shared) : Prop :=
  match r with
  | .ok (.ret u) => CE outer P w H s Q u s'
  | .ok _ => False
  | .error e => CX outer H s E e s'
structure FnOk (P : Program) (w : World) (K : PySem.W.Frag) (mg : Str → Option Value) (base : Heap) (CX : CXT) (k : Nat) (f : Addr) (fd : FuncData) (ps : List Str) (sp : Sp) : Prop where
  len : ∀ vs H Q E, sp vs H Q E → vs.length = ps.length
  run : ∀ (A : Around) (outer : List Env) (s : Shared) (H : Hp) (args : Args) (us : List Value) (vs : List V) (Q : VK) (E : XK), Room k A → Env0 P w K mg base A outer s H → BindsTo s fd args (ps.zip us) → Vals vs us → sp vs H Q E →
    codeAny (model P w) A (.call (.ref f) args) (CR CX outer P w H s Q E) s
section
variable {X : Cx} {pins : List (Addr × Obj)} {σ : St} {H : Hp} {s s' : Shared}
theorem Inv.env0 (I : Inv X pins σ H s) : Env0 X.prog X.w X.K X.mg X.base X.A X.stack s H :=
  ⟨I.ok.frames, I.ok.mod, I.bs, Nat.le_trans I.ok.bsz I.sz, I.stack, I.stkFree, I.hok, I.bare⟩
theorem Inv.after {Q : VK} {u : Value} (I : Inv X pins σ H s) (h : CE X.stack X.prog X.w H s Q u s') : EP X pins σ Q u s' := by
  obtain ⟨v, H', os, bare, un, hok, r, q⟩ := h
  obtain ⟨hh, g, d, t, os'⟩ := s'
  obtain rfl : os' = s.os := os
  exact ⟨v, H', I.call (h' := hh) (g' := g) (d' := d) (t' := t) (ch := []) un hok bare (fun b z => absurd z (by simp)), r, q⟩
end
def tCall (sp : Sp) (dvs : List V) (E : XK) (t : TA) : TE := fun σ H Q => t σ H fun vs H1 => sp (vs ++ dvs) H1 Q E
def tMeth (C : Addr) (m : Str) (sp : Sp) (dvs : List V) (E : XK) (ta : TE) (t : TA) : TE := fun σ H Q => ta σ H fun x H1 => ∃ a dx fs, x = .ref a ∧ H1 a = some (.ins C dx fs) ∧ fs.lookup m = none ∧
  t σ H1 fun vs H2 => sp (x :: (vs ++ dvs)) H2 Q E
def tMake (C : Addr) (sp : Sp) (dvs : List V) (E : XK) (t : TA) : TE := fun σ H Q => t σ H fun vs H1 => ∀ x dx, H1 x = none → H1 dx = none → dx ≠ x →
  sp (.ref x :: (vs ++ dvs)) (upd (upd H1 dx (.own x)) x (.ins C dx [])) (fun v H2 => v = .non ∧ Q (.ref x) H2) E
def Binds (K : PySem.W.Frag) (fd : FuncData) (ps : List Str) (ds : List Value) : Prop :=
  ∀ (s : Shared) (us : List Value), K.In s.heap → (us ++ ds).length = ps.length → BindsTo s fd ⟨us, []⟩ (ps.zip (us ++ ds))
theorem Binds.all {K : PySem.W.Frag} {fd : FuncData} {ps : List Str} (h : ∀ us : List Value, us.length = ps.length → bindArgs fd ⟨us, []⟩ = pure (ps.zip us)) : Binds K fd ps [] := fun s us _ hl => by
  rw [List.append_nil] at hl ⊢
  exact .of_eq (h us hl)
def Passes (CX : CXT) (X : Cx) (E : XK) : Prop := ∀ (pins : List (Addr × Obj)) (σ : St) (H : Hp) (s : Shared) (e : Value) (s' : Shared), Inv X pins σ H s → CX X.stack H s E e s' → X.xe e s'
section
variable {X : Cx} {CX : CXT} {k : Nat} {f C : Addr} {fd : FuncData} {ps : List Str} {sp : Sp} {dvs : List V} {ds : List Value} {E : XK} {x m : Str} {p pos apos : Pos} {e o : Expr} {es : List Expr} {ta : TE} {t : TA}
theorem run_fn {pins : List (Addr × Obj)} {σ : St} {H : Hp} {s : Shared} {Q : VK} {us : List Value} {vs : List V} (F : FnOk X.prog X.w X.K X.mg X.base CX k f fd ps sp) (hr : Room k X.A) (hb : Binds X.K fd ps ds) (hd : Vals dvs ds) (hx : Passes CX X E)
    (I : Inv X pins σ H s) (r : Vals vs us) (h : sp (vs ++ dvs) H Q E) : wpAny (model X.prog X.w) X.A (call (.ref f) us) (EP X pins σ Q) X.xe s := by
  have r2 : Vals (vs ++ dvs) (us ++ ds) := r.append hd
  have hl : (us ++ ds).length = ps.length := by rw [← r2.length]; exact F.len _ _ _ _ h
  refine wpAny_call (codeAny_mono (F.run X.A X.stack s H ⟨us, []⟩ (us ++ ds) (vs ++ dvs) Q E hr I.env0 (hb s us I.kIn hl) r2 h) fun r s' hq => ?_)
  cases r with
  | error e => exact hx pins σ H s e s' I hq
  | ok fl =>
    cases fl with
    | ret u => exact I.after hq
    | next => exact False.elim hq
    | brk => exact False.elim hq
    | cont => exact False.elim hq
theorem pe_call (F : FnOk X.prog X.w X.K X.mg X.base CX k f fd ps sp) (hr : Room k X.A) (hg : Gl X x) (hm : X.mg x = some (.ref f)) (hk : PySem.W.keepIn X.K (.ref f) = true) (hb : Binds X.K fd ps ds) (hd : Vals dvs ds) (hx : Passes CX X E)
    (ha : PA X (e :: es) t) (hdb : (x == ("__debug__" : Str)) = false := by decide) (he : starEach (e :: es) X.env = (false, eval e X.env) :: starEach es X.env := by rfl) (hpl : (backTo pos (starEach es X.env)).any (·.1) = false := by rfl) :
    PE X (.Call (.Name x p) (e :: es) [] pos) (tCall sp dvs E t) := by
  intro pins s σ H Q I h
  refine wpAny_Call_Name_kw (ld_glob I hg hm ?_ hdb)
  refine PySem.W.callWith_K (h₀ := X.base) I.ok.mod.kin hk (thn (ha pos pins s σ H _ I h) fun us s1 ⟨vs, H1, I1, r, q⟩ => ⟨I1.kIn, ?_⟩) he hpl
  exact run_fn F hr hb hd hx I1 r q
structure Mk (K : PySem.W.Frag) (C f : Addr) : Prop where
  makes : PySem.W.makesIn K C = true
  init : PySem.W.findIn K (.ref C) "__init__" = some (some (.ref f))
  fn : PySem.W.isFn K (.ref f) = true
  kp : PySem.W.keepIn K (.ref C) = true
end
def PK (X : Cx) (kws : List Keyword) (t : TA) : Prop :=
  ∀ (pos : Pos) (pins : List (Addr × Obj)) (s : Shared) (σ : St) (H : Hp) (Q : List V → Hp → Prop), Inv X pins σ H s → t σ H Q → wpAny (model X.prog X.w) X.A (evalAll ((backToKw pos (keywordEach kws X.env)).map (·.2))) (AP X pins σ Q) X.xe s
section
variable {X : Cx} {CX : CXT} {k : Nat} {f C : Addr} {fd : FuncData} {ps ks : List Str} {sp : Sp} {E : XK} {x m : Str} {p pos apos kpos : Pos} {e o : Expr} {es : List Expr} {kws : List Keyword} {te ta : TE} {t tk : TA} {nm : Option Str}
structure KBinds (K : PySem.W.Frag) (fd : FuncData) (ps ks : List Str) (g : List Value → List Value → List Value) (gV : List V → List V → List V) : Prop where
  to : ∀ (s : Shared) (us ws : List Value), K.In s.heap → (g us ws).length = ps.length → BindsTo s fd ⟨us, ks.zip ws⟩ (ps.zip (g us ws))
  rel : ∀ {vs : List V} {us : List Value} {zs : List V} {ws : List Value}, Vals vs us → Vals zs ws → Vals (gV vs zs) (g us ws)
def tCallK (sp : Sp) (gV : List V → List V → List V) (E : XK) (t tk : TA) : TE := fun σ H Q => t σ H fun vs H1 => tk σ H1 fun zs H2 => sp (gV vs zs) H2 Q E
variable {g : List Value → List Value → List Value} {gV : List V → List V → List V}
end
structure FnScope (N P : List Str) (sc : Scope) : Prop where
  kind : sc.kind = .function
  co : sc.isCoroutine = false
  gen : sc.isGenerator = false
  nd : N.Nodup
  pre : N.take P.length = P
  par : ∀ x ∈ P, sc.names.lookup x = some .local ∨ sc.names.lookup x = some .cell
  nofree : ∀ y ∈ sc.names, y.2 ≠ .free
theorem bindL_out {kindOf : Str → Option NameKind} {x : Str} : ∀ {binds : List (Str × Value)} {m : Str → Option Value}, (∀ v, (x, v) ∉ binds) → bindL kindOf binds m x = m x
  | [], _, _ => rfl
  | (n, v) :: r, m, h => by
    unfold bindL
    rw [bindL_out fun w hw => h w (List.mem_cons_of_mem _ hw)]
    split
    · have : x ≠ n := by rintro rfl; exact h v List.mem_cons_self
      simp [this]
    · rfl
theorem bindC_out {kindOf : Str → Option NameKind} {x : Str} : ∀ {binds : List (Str × Value)} {m : Str → Option Value}, (∀ v, (x, v) ∉ binds) → bindC kindOf binds m x = m x
  | [], _, _ => rfl
  | (n, v) :: r, m, h => by
    unfold bindC
    rw [bindC_out fun w hw => h w (List.mem_cons_of_mem _ hw)]
    split
    · rfl
    · have : x ≠ n := by rintro rfl; exact h v List.mem_cons_self
      simp [this]
theorem bindL_get {kindOf : Str → Option NameKind} {x : Str} {v : Value} : ∀ {P : List Str} {vs : List Value} {i : Nat} {m : Str → Option Value}, P.Nodup → P[i]? = some x → vs[i]? = some v → kindOf x = some .local →
    bindL kindOf (P.zip vs) m x = some v
  | [], _, _, _, _, h, _, _ => by simp at h
  | _ :: _, [], _, _, _, _, h, _ => by simp at h
  | p :: P, w :: vs, 0, m, nd, h1, h2, hk => by
    simp at h1 h2; subst h1; subst h2
    show bindL kindOf ((p, w) :: P.zip vs) m p = _
    unfold bindL
    rw [bindL_out fun v hv => (List.nodup_cons.mp nd).1 (List.of_mem_zip hv).1, if_pos hk]
    simp
  | p :: P, w :: vs, i + 1, m, nd, h1, h2, hk => by
    show bindL kindOf ((p, w) :: P.zip vs) m x = _
    unfold bindL
    exact bindL_get (i := i) (List.nodup_cons.mp nd).2 (by simpa using h1) (by simpa using h2) hk
theorem bindC_get {kindOf : Str → Option NameKind} {x : Str} {v : Value} : ∀ {P : List Str} {vs : List Value} {i : Nat} {m : Str → Option Value}, P.Nodup → P[i]? = some x → vs[i]? = some v → kindOf x ≠ some .local →
    bindC kindOf (P.zip vs) m x = some v
  | [], _, _, _, _, h, _, _ => by simp at h
  | _ :: _, [], _, _, _, _, h, _ => by simp at h
  | p :: P, w :: vs, 0, m, nd, h1, h2, hk => by
    simp at h1 h2; subst h1; subst h2
    show bindC kindOf ((p, w) :: P.zip vs) m p = _
    unfold bindC
    rw [bindC_out fun v hv => (List.nodup_cons.mp nd).1 (List.of_mem_zip hv).1, if_neg hk]
    simp
  | p :: P, w :: vs, i + 1, m, nd, h1, h2, hk => by
    show bindC kindOf ((p, w) :: P.zip vs) m x = _
    unfold bindC
    exact bindC_get (i := i) (List.nodup_cons.mp nd).2 (by simpa using h1) (by simpa using h2) hk
def start (N : List Str) (vs : List V) : St := vs.map some ++ List.replicate (N.length - vs.length) none
def cxOf (CX : CXT) (P : Program) (w : World) (K : PySem.W.Frag) (mg : Str → Option Value) (base : Heap) (N : List Str) (qual : Str) (scope : Scope) (f : Addr) (cd : Value) (A : Around) (outer : List Env) (s : Shared) (H : Hp) (E : XK) : Cx where
  prog := P
  w := w
  K := K
  mg := mg
  base := base
  A := A.deeper (envOfC qual scope s.heap.objs.size f cd)
  N := N
  s_0 := s
  H_0 := H
  env := envOfC qual scope s.heap.objs.size f cd
  outer := outer
  stack := envOfC qual scope s.heap.objs.size f cd :: outer
  ex := []
  calm := true
  fn := fun _ => true
  pn := []
  xe := fun e s' => wpAny (model P w) (A.deeper (envOfC qual scope s.heap.objs.size f cd)) (leaving (envOfC qual scope s.heap.objs.size f cd) e) (fun _ s'' => CX outer H s E e s'') (fun e' s'' => CX outer H s E e' s'') s'
theorem cell_has {sc : Scope} {n : Nat} {x : Str} (h : sc.names.lookup x = some .cell) : ∃ c, (cellsFrom n sc.names []).lookup x = some c := by
  have q := PySem.W.cellsFrom_some sc.names n [] (.inl h)
  exact Option.isSome_iff_exists.mp q
theorem inv_start {CX : CXT} {P : Program} {w : World} {K : PySem.W.Frag} {mg : Str → Option Value} {base : Heap} {N ps : List Str} {qual : Str} {scope : Scope} {f : Addr} {cd : Value} {A : Around} {outer : List Env} {s s1 : Shared} {H : Hp} {E : XK} {us : List Value} {vs : List V}
    (S : FnScope N ps scope) (hd : A.handled = none) (e0 : Env0 P w K mg base A outer s H) (hl : vs.length = ps.length) (r : Vals vs us)
    (x : InCallC s s.heap.objs.size (bindL (envOfC qual scope s.heap.objs.size f cd).kindOf (ps.zip us) fun _ => none) (cellsFrom (s.heap.objs.size + 1) scope.names []) (bindC (envOfC qual scope s.heap.objs.size f cd).kindOf (ps.zip us) fun _ => none) s1) :
    Inv (cxOf CX P w K mg base N qual scope f cd A outer s H E) [] (start N vs) H s1 := by
  have hpl : ps.length ≤ N.length := by have := congrArg List.length S.pre; rw [List.length_take] at this; omega
  obtain ⟨h1, tk, rfl, hk⟩ := x.done
  have noA : ∀ b : Addr, b ∉ (cxOf CX P w K mg base N qual scope f cd A outer s H E).ex := fun b z => absurd (show b ∈ ([] : List Addr) from z) (by simp)
  refine ⟨⟨e0.mod, S.kind, rfl, rfl, Nat.le_refl _, fun y z c h1 h2 => ?_, fun y hy => ?_, fun y c _ h => ?_, fun _ => hd, Around.frames_deeper e0.frames, .inr ⟨rfl, rfl⟩, fun b z => absurd z (noA b), e0.bs, e0.bsz, fun b _ _ => noA b, fun b z => absurd z (noA b), e0.funs, e0.frf⟩,
    rfl, e0.bare, Un.kept hk, ⟨_, x.toInCall.ns, fun i y v h1 h2 h3 => ?_⟩, fun y c h => ⟨_, x.cell y c h⟩, e0.hok.fresh (Nat.le_refl _), fun y c h => ?_, fun p hp => absurd (show p ∈ ([] : List (Addr × Obj)) from hp) (by simp), e0.hok.kept hk, ?_⟩
  · exact name_of_addr x.apart (PySem.mem_of_lookup h1) (PySem.mem_of_lookup h2)
  · have hy : scope.names.lookup y = some .cell ∨ scope.names.lookup y = some .free := hy
    rcases hy with hy | hy
    · exact cell_has hy
    · exact absurd rfl (S.nofree _ (PySem.mem_of_lookup hy))
  · exact Nat.le_of_lt (x.above y c (PySem.mem_of_lookup h))
  · have hi : i < vs.length := by
      unfold start at h2
      by_cases hi : i < vs.length
      · exact hi
      · rw [List.getElem?_append_right (by simpa using hi)] at h2
        rw [List.getElem?_replicate] at h2
        split at h2 <;> cases h2
    have ha : vs[i]? = some v := by
      unfold start at h2
      rw [List.getElem?_append_left (by simpa using hi), List.getElem?_map] at h2
      cases e : vs[i]? with
      | none => rw [e] at h2; cases h2
      | some a => rw [e] at h2; cases h2; rfl
    obtain ⟨u, hu, rv⟩ := r.get ha
    have hp : ps[i]? = some y := by
      rw [← S.pre, List.getElem?_take_of_lt (by omega)]; exact h1
    have ndP : ps.Nodup := by rw [← S.pre]; exact S.nd.sublist (List.take_sublist _ _)
    refine ⟨u, rv, ?_⟩
    rcases S.par y (List.mem_of_getElem? hp) with k | k
    · exact .inl ⟨k, bindL_get ndP hp hu k⟩
    · obtain ⟨c, e⟩ := cell_has (n := s.heap.objs.size + 1) k
      refine .inr ⟨.inl k, c, e, ?_⟩
      have q := x.cell y c e
      rw [bindC_get ndP hp hu (by show scope.names.lookup y ≠ _; rw [k]; decide)] at q
      exact q
  · exact e0.hok.fresh (Nat.le_of_lt (x.above y c (PySem.mem_of_lookup h)))
  · unfold start
    show _ = N.length
    rw [List.length_append, List.length_map, List.length_replicate]
    omega
theorem fn_of {CX : CXT} {P : Program} {w : World} {K : PySem.W.Frag} {mg : Str → Option Value} {base : Heap} {k : Nat} {f : Addr} {name qual : Str} {params : Arguments} {body : List Stmt} {scope : Scope} {dV kV doc pm cdv ct oc : Value} {an od : Option Addr}
    {osl : Array (Option Value)} {N ps : List Str} {sp : Sp} (lk : K.lookup f = some ⟨oc, od, .func (PySem.W.fnOf name qual params body scope dV kV doc pm an cdv ct), osl⟩) (hcd : PySem.W.codeIn K cdv qual = true) (S : FnScope N ps scope)
    (len : ∀ vs H Q E, sp vs H Q E → vs.length = ps.length)
    (hbody : ∀ (A : Around) (outer : List Env) (s : Shared) (H : Hp) (vs : List V) (Q : VK) (E : XK), Room k (A.deeper (envOfC qual scope s.heap.objs.size f cdv)) → sp vs H Q E →
      ∃ t, PSs (cxOf CX P w K mg base N qual scope f cdv A outer s H E) body t ∧ t { nx := fun _ H' => Q .non H', rt := Q } (start N vs) H) :
    FnOk P w K mg base CX (k + 1) f (PySem.W.fnOf name qual params body scope dV kV doc pm an cdv ct) ps sp := by
  refine ⟨len, fun A outer s H args us vs Q E hr e0 hb r hsp => ?_⟩
  have hl := len _ _ _ _ hsp
  have KX : K.In s.heap := e0.mod.kin.keeps fun b o e => (e0.bs b o e).1
  have lim : s.heap.NoLimit := e0.mod.nolimit.keeps fun b o e => (e0.bs b o e).1
  have hkind : ∀ y ∈ ps.zip us, scope.names.lookup y.1 = some .local ∨ (scope.names.lookup y.1 = some .cell ∧ ((cellsFrom (s.heap.objs.size + 1) scope.names []).lookup y.1).isSome = true) := fun ⟨n, v⟩ hy => by
    rcases S.par n (List.of_mem_zip hy).1 with q | q
    · exact .inl q
    · exact .inr ⟨q, PySem.W.cellsFrom_some _ _ _ (.inl q)⟩
  refine codeAny_call_function hr.depth (KX _ _ lk) rfl S.co S.gen rfl (PySem.W.codeRec_of KX hcd) (hb _ _ _ _ ?_)
  refine wpAny_newFunctionEnv_cells S.kind hkind fun env he s1 x => ?_
  subst he
  refine ⟨lim.keeps x.toInCall.keep, codeAny_func ?_⟩
  obtain ⟨t, ht, hq⟩ := hbody A outer s H vs Q E (hr.deeper _) hsp
  have I : Inv (cxOf CX P w K mg base N qual scope f cdv A outer s H E) [] (start N vs) H s1 := inv_start S hr.hd e0 hl r x
  refine wpAny_mono (ht [] s1 (start N vs) H _ I hq) (fun fl s' hs => ?_) fun e s' hs => hs
  have fin : ∀ {σ' : St} {H' : Hp} {v : V} {u : Value}, Inv (cxOf CX P w K mg base N qual scope f cdv A outer s H E) [] σ' H' s' → RelV v u → Q v H' → CE outer P w H s Q u s' :=
    fun {σ' H' v u} J rv q => ⟨v, H', J.os, J.bare, J.base, J.hok, rv, q⟩
  cases fl with
  | ret u =>
    obtain ⟨v, σ', H', J, rv, q⟩ := hs
    exact fin J rv q
  | next =>
    obtain ⟨σ', H', J, q⟩ := hs
    exact fin (v := V.non) (u := Value.none) J rfl q
  | brk =>
    obtain ⟨_, _, _, q⟩ := hs
    exact False.elim q
  | cont =>
    obtain ⟨_, _, _, q⟩ := hs
    exact False.elim q
end L2
namespace L2
open PySem PySem.Spec PyProof.Rows
section
variable {X : Cx} {x : Str} {p pos : Pos} {e : Expr} {es : List Expr} {t : TA} {id T : String} {r : List V → Hp → VK → Prop}
def tCB (r : List V → Hp → VK → Prop) (t : TA) : TE := fun σ H Q => t σ H fun vs H1 => r vs H1 Q
theorem pe_callB (hc : CallR X (.builtin id) r) (hg : Gl X x) (hm : X.mg x = none) (hv : bootBuiltins x = some (.builtin id)) (ha : PA X (e :: es) t) (hn : x ≠ "__name__" := by decide) (hdb : (x == ("__debug__" : Str)) = false := by decide)
    (he : starEach (e :: es) X.env = (false, eval e X.env) :: starEach es X.env := by rfl) (hpl : (backTo pos (starEach es X.env)).any (·.1) = false := by rfl) : PE X (.Call (.Name x p) (e :: es) [] pos) (tCB r t) := by
  intro pins s σ H Q I h
  refine wpAny_Call_Name_kw (ld_blt I hg hm hv ?_ hn hdb)
  exact PyProof.Rows.callWith_builtin1 (thn (ha pos pins s σ H _ I h) fun us s1 ⟨vs, H1, I1, r1, q1⟩ => hc pins s1 σ H1 vs us Q I1 r1 q1) he hpl
theorem pe_callTy (hc : CallR X (.type T) r) (hg : Gl X x) (hm : X.mg x = none) (hv : bootBuiltins x = some (.type T)) (ha : PA X (e :: es) t) (hn : x ≠ "__name__" := by decide) (hdb : (x == ("__debug__" : Str)) = false := by decide)
    (he : starEach (e :: es) X.env = (false, eval e X.env) :: starEach es X.env := by rfl) (hpl : (backTo pos (starEach es X.env)).any (·.1) = false := by rfl) : PE X (.Call (.Name x p) (e :: es) [] pos) (tCB r t) := by
  intro pins s σ H Q I h
  refine wpAny_Call_Name_kw (ld_blt I hg hm hv ?_ hn hdb)
  exact PyProof.Rows.callWith_type1 (thn (ha pos pins s σ H _ I h) fun us s1 ⟨vs, H1, I1, r1, q1⟩ => hc pins s1 σ H1 vs us Q I1 r1 q1) he hpl
end
end L2
namespace HT
open PySem PyProof.Rows
def lexLt : List Int → List Int → Bool
  | [], [] => false
  | [], _ :: _ => true
  | _ :: _, [] => false
  | x :: xs, y :: ys => if x = y then lexLt xs ys else decide (x < y)
theorem lexLt_cons (x y : Int) (xs ys : List Int) : lexLt (x :: xs) (y :: ys) = if x = y then lexLt xs ys else decide (x < y) := rfl
theorem lexLt_nil_nil : lexLt [] [] = false := rfl
theorem lexLt_nil_cons (y : Int) (ys : List Int) : lexLt [] (y :: ys) = true := rfl
theorem lexLt_cons_nil (x : Int) (xs : List Int) : lexLt (x :: xs) [] = false := rfl
theorem eqAt_int (A : Around) (s : Shared) (a : Int) (t : Tok) (c : Int) (u : Tok) : ∃ e, SeqAt.EqAt A s (.int a t) (.int c u) e ∧ (e = true ↔ a = c) :=
  ⟨(a == c), SeqAt.EqAt.int_int a t c u, by simp⟩
theorem rcLt_int (A : Around) (s : Shared) (a : Int) (t : Tok) (c : Int) (u : Tok) (prog : Program) (w : World) (E : Value → Shared → Prop) (Q : Value → Shared → Prop) (h : Q (.bool (decide (a < c))) s) :
    wpAny (model prog w) A (richCompare .Lt (.int a t) (.int c u)) Q E s :=
  (PyProof.Rows.lt_int h : wpAny (model prog w) A (compareOp .Lt (.int a t) (.int c u)) Q E s)
section
open PySem.SeqAt
open PySem.AutoSeq1 (wpAny_loadPart')
open PySem.MeetsSeq PySem.MeetsSeq2 PySem.MeetsSeq3
theorem tuple_lt_ints (l b : Addr) (items items2 : Array Value) (n n2 : Nat) (dd dd2 : Option Addr) (sl sl2 : Array (Option Value)) (ns ms : List Int) (hi : IntsAre items.toList ns) (hj : IntsAre items2.toList ms) :
    Meets (Builtin.«tuple.__lt__» ⟨[.ref l, .ref b], []⟩)
      (fun _ R s => s.heap.get? l = some { cls := .type "tuple", dict := dd, data := .seq items n, slots := sl } ∧ s.heap.get? b = some { cls := .type "tuple", dict := dd2, data := .seq items2 n2, slots := sl2 } ∧
        R (.ok (.ret (.bool (lexLt ns ms)))) s) :=
  .of_wp fun prog w A R s h => by
    obtain ⟨hp, g, d, tk, os⟩ := s; obtain ⟨hl, hb, h⟩ := h
    have f2 := AutoSeq1.sub_tuple_tuple
    have z1 : items.size = ns.length := by rw [← hi.length]; simp
    have z2 : items2.size = ms.length := by rw [← hj.length]; simp
    wp_walk using wpAny_loadPart' hl, wpAny_loadPart' hb, wpAny_forIn_list _ (fun rest b s' => b.1 = none ∧ s' = ⟨hp, g, d, tk, os⟩ ∧ ∃ (vs ws : List Value) (ns' ms' : List Int), rest = vs.zip ws ∧
      IntsAre vs ns' ∧ IntsAre ws ms' ∧ ns'.length + items2.size = ms'.length + items.size ∧ R (.ok (.ret (.bool (lexLt ns' ms')))) ⟨hp, g, d, tk, os⟩) _
    case turn =>
      rintro ⟨y, x⟩ rest b s' ⟨hb', rfl, vs, ws, ns', ms', hz, hvi, hwi, hlen, hR⟩
      cases hvi with
      | nil => rw [List.zip_nil_left] at hz; cases hz
      | cons a t hvi' =>
        cases hwi with
        | nil => rw [List.zip_nil_right] at hz; cases hz
        | cons c u hwi' =>
          rw [List.zip_cons_cons] at hz
          injection hz with hyx hrest
          injection hyx with hy hx
          subst hy hx
          rw [lexLt_cons] at hR
          simp only [List.length_cons] at hlen
          obtain ⟨e, he, hiff⟩ := eqAt_int A.in1 ⟨hp, g, d, tk, os⟩ a t c u
          refine wpAny_bind (he prog w _ _ ?_)
          cases e with
          | true =>
            rw [if_pos (hiff.mp rfl)] at hR
            wp_walk
            exact ⟨rfl, rfl, _, _, _, _, hrest, hvi', hwi', by omega, hR⟩
          | false =>
            rw [if_neg (fun q => absurd (hiff.mpr q) Bool.false_ne_true)] at hR
            have hri := rcLt_int A.in1 ⟨hp, g, d, tk, os⟩ a t c u prog w
            wp_walk using hri
            exact ⟨_, rfl, by simpa using hR⟩
    case fin =>
      rintro ⟨b1, b2⟩ s' ⟨hb', rfl, vs, ws, ns', ms', hz, hvi, hwi, hlen, hR⟩
      simp only at hb'
      subst hb'
      have hv : lexLt ns' ms' = decide (items.size < items2.size) := by
        cases hvi with
        | nil =>
          cases hwi with
          | nil =>
            simp only [List.length_nil] at hlen
            rw [lexLt_nil_nil]
            exact (decide_eq_false (by omega)).symm
          | cons c u hw =>
            simp only [List.length_nil, List.length_cons] at hlen
            rw [lexLt_nil_cons]
            exact (decide_eq_true (by omega)).symm
        | cons a t hv =>
          cases hwi with
          | nil =>
            simp only [List.length_nil, List.length_cons] at hlen
            rw [lexLt_cons_nil]
            exact (decide_eq_false (by omega)).symm
          | cons c u hw =>
            rw [List.zip_cons_cons] at hz
            cases hz
      rw [hv] at hR
      wp_walk
      exact ⟨_, rfl, by simpa [Builtin.Tuple.tupleCompareSizes] using hR⟩
    case h =>
      exact ⟨rfl, rfl, items.toList, items2.toList, ns, ms, rfl, hi, hj, by omega, h⟩
end
section
variable {prog : Program} {w : World} {A : Around} {E : Value → Shared → Prop} {s : Shared}
theorem lt_tupInts {l b : Addr} {items items2 : Array Value} {ns ms : List Int} {Q : Value → Shared → Prop} (hl : IsTup s.heap l items) (hb : IsTup s.heap b items2) (hi : IntsAre items.toList ns) (hj : IntsAre items2.toList ms)
    (hu : A.units < cLine) (h : Q (.bool (lexLt ns ms)) s) : wpAny (model prog w) A (compareOp .Lt (.ref l) (.ref b)) Q E s := by
  obtain ⟨⟨cls, dd, data, sl⟩, ho, hc, n, hd⟩ := id hl
  obtain ⟨⟨cls2, dd2, data2, sl2⟩, ho2, hc2, n2, hd2⟩ := id hb
  simp only at hc hd hc2 hd2
  subst hc hd hc2 hd2
  exact richCompare_meets_room (op := .Lt) ⟨_, ho, rfl⟩ ⟨_, ho2, rfl⟩ PySem.F.slot_tuple_lt PySem.F.entry_tuple_lt (PySem.F.args_tuple_lt_2 _ _) (tuple_lt_ints l b items items2 n n2 dd dd2 sl sl2 ns ms hi hj)
    ⟨ho, ho2, show Value.bool (lexLt ns ms) ≠ Value.notImplemented ∧ Q (.bool (lexLt ns ms)) s from ⟨(fun x => nomatch x), h⟩⟩ hu
theorem cat_tup {t b : Addr} {vs ws : List Value} {Q : Value → Shared → Prop} (ht : IsTup s.heap t vs.toArray) (hb : IsTup s.heap b ws.toArray) (hv : vs ≠ [])
    (h1 : ws = [] → Q (.ref t) s) (h2 : ws ≠ [] → Q (.ref s.heap.objs.size) { s with heap := s.heap.push { cls := .type "tuple", data := .seq (vs ++ ws).toArray } })
    (hsz : vs.length + ws.length ≤ sizeLine) : wpAny (model prog w) A (binaryOp .Add (.ref t) (.ref b)) Q E s := by
  obtain ⟨⟨cls, dd, data, sl⟩, ho, hc, n, hd⟩ := id ht
  obtain ⟨⟨cls2, dd2, data2, sl2⟩, ho2, hc2, n2, hd2⟩ := id hb
  simp only at hc hd hc2 hd2
  subst hc hd hc2 hd2
  have e : vs.toArray ++ ws.toArray = (vs ++ ws).toArray := by simp
  by_cases hw : ws = []
  · exact concat_meets ⟨_, ho, rfl⟩ ⟨_, ho2, rfl⟩ noFill_tuple_add seq_tuple_add PySem.F.slot_tuple_add PySem.F.entry_tuple_add (PySem.F.args_tuple_add_2 _ _)
      (tuple_addW1 t b vs.toArray ws.toArray n n2 dd dd2 sl sl2 (by simpa using hv) (by simp [hw])) ⟨ho, ho2, h1 hw⟩
  · refine concat_meets ⟨_, ho, rfl⟩ ⟨_, ho2, rfl⟩ noFill_tuple_add seq_tuple_add PySem.F.slot_tuple_add PySem.F.entry_tuple_add (PySem.F.args_tuple_add_2 _ _)
      (tuple_addW2 t b vs.toArray ws.toArray n n2 dd dd2 sl sl2 (by simpa using hv) (by simpa using hw) (by rw [List.size_toArray, List.size_toArray]; exact hsz)) ⟨ho, ho2, ?_⟩
    rw [e]
    exact h2 hw
def sIx (n d : Nat) : Option Int → Nat
  | none => d
  | some v => if v < 0 then (v + (n : Int)).toNat else min v.toNat n
theorem sIx_none (n d : Nat) : sIx n d none = d := rfl
theorem sIx_nat (n d k : Nat) : sIx n d (some (k : Int)) = min k n := by
  show (if (k : Int) < 0 then ((k : Int) + (n : Int)).toNat else min (k : Int).toNat n) = min k n
  rw [if_neg (by omega), Int.toNat_natCast]
theorem sIx_le (n d : Nat) (hd : d ≤ n) (o : Option Int) : sIx n d o ≤ n := by
  cases o with
  | none => exact hd
  | some v =>
    show (if v < 0 then (v + (n : Int)).toNat else min v.toNat n) ≤ n
    by_cases hv : v < 0
    · rw [if_pos hv]; omega
    · rw [if_neg hv]; exact Nat.min_le_right _ _
theorem clip_eq (v : Int) (n d : Nat) : (if v < 0 then max (v + (n : Int)) 0 else min v (n : Int)) = ((sIx n d (some v) : Nat) : Int) := by
  show (if v < 0 then max (v + (n : Int)) 0 else min v (n : Int)) = (((if v < 0 then (v + (n : Int)).toNat else min v.toNat n) : Nat) : Int)
  by_cases hv : v < 0
  · simp only [if_pos hv]; omega
  · simp only [if_neg hv]; omega
theorem adjust_gen (lo hi : Option Int) (n : Nat) : Builtin.Slice.sliceAdjust lo hi 1 (n : Int) = (((sIx n 0 lo : Nat) : Int), ((sIx n n hi : Nat) : Int)) := by
  have h1 : ¬ ((1 : Int) < 0) := by omega
  unfold Builtin.Slice.sliceAdjust
  simp only [h1, if_false]
  refine Prod.ext ?_ ?_
  · cases lo with
    | none => rfl
    | some v => exact clip_eq v n 0
  · cases hi with
    | none => rfl
    | some v => exact clip_eq v n n
theorem places_gen (i j : Nat) : Builtin.Slice.slicePlaces (i : Int) (j : Int) 1 = j - i := by
  unfold Builtin.Slice.slicePlaces
  have h1 : (1 : Int) > 0 := by omega
  simp only [h1, if_true, Int.ediv_one]
  split <;> omega
theorem slicePart_ {v : Value} {o : Option Int} {Q : Option Int → Shared → Prop} (p : IsPart v o) (h : Q o s) : wpAny (model prog w) A (Builtin.Slice.slicePartIndex v) Q E s := by
  cases p with
  | none => exact slicePart_none h
  | int i t => exact slicePart_int h
theorem sliceApplied_gen {sl : Addr} {vl vu : Value} {lo hi : Option Int} {n : Nat} {Q : Int × Int × Nat → Shared → Prop} (hs : s.heap.IsSliceOf sl vl vu .none) (pl : IsPart vl lo) (pu : IsPart vu hi)
    (h : Q (((sIx n 0 lo : Nat) : Int), 1, sIx n n hi - sIx n 0 lo) s) : wpAny (model prog w) A (Builtin.Slice.sliceApplied (.ref sl) (pure (n : Int))) Q E s := by
  obtain ⟨os, hos, hcs, hds⟩ := id hs
  unfold Builtin.Slice.sliceApplied Builtin.Slice.sliceFields
  refine wpAny_bind (wpAny_bind (wpAny_field hos hds (x := vl) rfl (wpAny_bind (wpAny_field hos hds (x := vu) rfl (wpAny_bind (wpAny_field hos hds (x := .none) rfl (wpAny_pure ?_)))))))
  refine wpAny_bind (slicePart_none ?_)
  show wpAny _ _ (if ((1 : Int) == 0) = true then _ else _) _ _ s
  rw [if_neg (by decide)]
  refine wpAny_bind (slicePart_ pl (wpAny_bind (slicePart_ pu (wpAny_bind (wpAny_pure ?_)))))
  show wpAny _ _ (match Builtin.Slice.sliceAdjust lo hi 1 (n : Int) with | (lo, hi) => pure (lo, (1 : Int), Builtin.Slice.slicePlaces lo hi 1)) _ _ s
  rw [adjust_gen lo hi n]
  show wpAny _ _ (pure (((sIx n 0 lo : Nat) : Int), (1 : Int), Builtin.Slice.slicePlaces ((sIx n 0 lo : Nat) : Int) ((sIx n n hi : Nat) : Int) 1)) _ _ s
  rw [places_gen]
  exact wpAny_pure h
theorem pick_gen (xs : Array Value) (i k : Nat) : ((List.range k).filterMap fun (m : Nat) => xs[((i : Int) + (m : Int) * 1).toNat]?).toArray = ((xs.toList.drop i).take k).toArray := by
  have e : (fun (m : Nat) => xs[((i : Int) + (m : Int) * 1).toNat]?) = fun m => xs[i + m]? := by
    funext m
    have : ((i : Int) + (m : Int) * 1).toNat = i + m := by omega
    rw [this]
  rw [e]
  have := pick_run xs i k
  rw [List.filterMap_map] at this
  have e2 : ((fun x => xs[x]?) ∘ fun x => i + x) = fun m => xs[i + m]? := rfl
  rw [e2] at this
  rw [this]
theorem getItem_tuple_cut {t sl : Addr} {items : Array Value} {vl vu : Value} {lo hi : Option Int} {Q : Value → Shared → Prop} (ht : IsTup s.heap t items) (hs : s.heap.IsSliceOf sl vl vu .none) (pl : IsPart vl lo) (pu : IsPart vu hi)
    (hw : ¬ (sIx items.size 0 lo = 0 ∧ sIx items.size items.size hi = items.size))
    (h : Q (.ref s.heap.objs.size) { s with heap := s.heap.push { cls := .type "tuple", data := .seq ((items.toList.drop (sIx items.size 0 lo)).take (sIx items.size items.size hi - sIx items.size 0 lo)).toArray } })
    (hsz : items.size ≤ sizeLine) : wpAny (model prog w) A (getItem (.ref t) (.ref sl)) Q E s := by
  have htake : sizeOk (.seq ((items.toList.drop (sIx items.size 0 lo)).take (sIx items.size items.size hi - sIx items.size 0 lo)).toArray) := by
    show ((items.toList.drop (sIx items.size 0 lo)).take (sIx items.size items.size hi - sIx items.size 0 lo)).toArray.size ≤ sizeLine
    rw [List.size_toArray, List.length_take, List.length_drop, Array.length_toList]
    omega
  have hj : sIx items.size items.size hi ≤ items.size := sIx_le _ _ (Nat.le_refl _) hi
  obtain ⟨os, hos, hcs, hds⟩ := id hs
  have hTs : s.TypeIs (.ref sl) "slice" := ⟨os, hos, hcs⟩
  unfold getItem
  try with_reducible refine wpAny_holding ?_
  first | refine wpAny_bind (wpAny_pure ?_) | skip
  refine wpAny_bind (wpAny_sequenceKey ht.typeIs (by decide) ?_)
  refine wpAny_bind (wpAny_callSpecial?_slot (name := Str.ofString "__getitem__") ht.typeIs PyProof.Rows.slot_tuple_getitem
    (wpAny_call_entry PyProof.Rows.slot_tuple_getitem ht.typeIs entry_tuple_getitem ?_ (args_tuple_getitem _ _)))
  show wpAny _ _ (Builtin.Tuple.tupleItemsOf (.ref t) >>= _) _ _ s
  refine wpAny_bind (tupleItemsOf_ ht ?_)
  refine wpAny_bind (wpAny_typeOf hTs ?_)
  rw [if_pos (by decide)]
  refine wpAny_bind (sliceApplied_gen hs pl pu ?_)
  have hno : ¬ ((((sIx items.size 0 lo : Nat) : Int) == 0 && (1 : Int) == 1 && (sIx items.size items.size hi - sIx items.size 0 lo) == items.size) = true) := by
    intro q
    rw [Bool.and_eq_true, Bool.and_eq_true] at q
    have q1 : ((sIx items.size 0 lo : Nat) : Int) = 0 := eq_of_beq q.1.1
    have q2 : sIx items.size items.size hi - sIx items.size 0 lo = items.size := eq_of_beq q.2
    exact hw ⟨by omega, by omega⟩
  show wpAny _ _ (if (((sIx items.size 0 lo : Nat) : Int) == 0 && (1 : Int) == 1 && (sIx items.size items.size hi - sIx items.size 0 lo) == items.size) = true then _ else _) _ _ s
  rw [if_neg hno, pick_gen]
  first
    | exact wpAny_bind (m := Builtin.Tuple.tupleExact _) (wpAny_newObj_type (wpAny_pure ⟨_, rfl, wpAny_pure h⟩) htake)
    | exact wpAny_bind (m := Builtin.Tuple.tupleExact _) (wpAny_newObj_type (wpAny_bind (wpAny_pure (wpAny_pure ⟨_, rfl, wpAny_pure h⟩))) htake)
    | exact wpAny_bind (wpAny_bind (m := Builtin.Tuple.tupleExact _) (wpAny_newObj_type (wpAny_pure (wpAny_pure ⟨_, rfl, wpAny_pure h⟩)) htake))
    | exact wpAny_bind (wpAny_bind (m := Builtin.Tuple.tupleExact _) (wpAny_newObj_type (wpAny_pure ⟨_, rfl, wpAny_pure h⟩) htake))
end
end HT
namespace L2
open PySem PySem.Spec PyProof.Rows
abbrev TO := St → Hp → (Option Int → Hp → Prop) → Prop
def PO (X : Cx) (e : Option Expr) (t : TO) : Prop :=
  ∀ (pins : List (Addr × Obj)) (s : Shared) (σ : St) (H : Hp) (Q : Option Int → Hp → Prop), Inv X pins σ H s → t σ H Q →
    wpAny (model X.prog X.w) X.A (evalPart e X.env) (fun u s' => ∃ o H', Inv X pins σ H' s' ∧ IsPart u o ∧ Q o H') X.xe s
def tNoPart : TO := fun _ H Q => Q none H
def tPart (t : TE) : TO := fun σ H Q => t σ H fun x H1 => ∃ i, x = .int i ∧ Q (some i) H1
theorem intsAre_of {ns : List Int} : ∀ {us : List Value}, Vals (ns.map V.int) us → IntsAre us ns := by
  induction ns with
  | nil => intro us r; rw [List.map_nil] at r; cases r; exact .nil
  | cons n ns ih =>
    intro us r
    rw [List.map_cons] at r
    cases r with
    | cons r1 r2 =>
      obtain ⟨t, e⟩ := r1
      subst e
      exact .cons n t (ih r2)
section
variable {X : Cx} {e : Expr} {te : TE} {lo hi : Option Expr} {tl th : TO} {pos p2 : Pos}
theorem po_none : PO X none tNoPart := by
  intro pins s σ H Q I h
  rw [evalPart_none]
  exact wpAny_pure ⟨none, H, I, .none, h⟩
theorem po_some (h : PE X e te) : PO X (some e) (tPart te) := by
  intro pins s σ H Q I hw
  rw [evalPart_some]
  refine thn (h pins s σ H _ I hw) fun u s1 ⟨x, H1, I1, r1, q1⟩ => ?_
  obtain ⟨i, rfl, q⟩ := q1
  obtain ⟨t, rfl⟩ := r1
  exact ⟨some i, H1, I1, .int i t, q⟩
def SlR (X : Cx) (r : V → Option Int → Option Int → Hp → VK → Prop) : Prop :=
  ∀ (pins : List (Addr × Obj)) (s : Shared) (σ : St) (H : Hp) (x : V) (v vl vu : Value) (lo hi : Option Int) (sl : Addr) (Q : VK), Inv X pins σ H s → RelV x v → s.heap.IsSliceOf sl vl vu .none → IsPart vl lo → IsPart vu hi → r x lo hi H Q →
    ∃ T id, typeLookup (.type T) "__getitem__" = pure (some (.builtin id)) ∧ s.TypeIs v T ∧ wpAny (model X.prog X.w) X.A (getItem v (.ref sl)) (EP X pins σ Q) X.xe s
def tSl (r : V → Option Int → Option Int → Hp → VK → Prop) (te : TE) (tl th : TO) : TE := fun σ H Q => te σ H fun x H1 => tl σ H1 fun l H2 => th σ H2 fun u H3 => r x l u H3 Q
theorem pe_slice {r : V → Option Int → Option Int → Hp → VK → Prop} (hr : SlR X r) (he : PE X e te) (hl : PO X lo tl) (hu : PO X hi th) : PE X (.Subscript e (.Slice lo hi none p2) pos) (tSl r te tl th) := by
  intro pins s σ H Q I h
  refine Subscript_ (thn (he pins s σ H _ I h) fun v s1 ⟨x, H1, I1, r1, q1⟩ => ?_)
  refine wpAny_Slice (thn (hl pins s1 σ H1 _ I1 q1) fun vl s2 ⟨l, H2, I2, pl, q2⟩ => thn (hu pins s2 σ H2 _ I2 q2) fun vu s3 ⟨u, H3, I3, pu, q3⟩ => ?_)
  rw [evalPart_none]
  refine wpAny_pure ?_
  have I4 : Inv X pins σ H3 { s3 with heap := s3.heap.push { cls := .type "slice", data := .fields #[vl, vu, .none] } } := I3.kept (t' := s3.toks) fun b ob q => Heap.get?_push_of_some _ q
  obtain ⟨T, id, hT, ht, hg⟩ := hr pins { s3 with heap := s3.heap.push { cls := .type "slice", data := .fields #[vl, vu, .none] } } σ H3 x v vl vu l u s3.heap.objs.size Q I4 r1 (Heap.IsSliceOf.new ..) pl pu q3
  show wpAny (model X.prog X.w) X.A (subscriptTail e (.Slice lo hi none p2) v (.ref s3.heap.objs.size)) (EP X pins σ Q) X.xe { s3 with heap := s3.heap.push { cls := .type "slice", data := .fields #[vl, vu, .none] } }
  exact tail_any (ops := [.ref s3.heap.objs.size, v]) ht hT hg (by with_unfolding_all rfl)
def cutV (xs : List V) (lo hi : Option Int) : List V := (xs.drop (HT.sIx xs.length 0 lo)).take (HT.sIx xs.length xs.length hi - HT.sIx xs.length 0 lo)
theorem cutV_length (xs : List V) (lo hi : Option Int) : (cutV xs lo hi).length ≤ xs.length := by
  unfold cutV
  rw [List.length_take, List.length_drop]
  omega
def rSlT (K : PySem.W.Frag) : V → Option Int → Option Int → Hp → VK → Prop := fun x lo hi H Q => ∃ a xs, x = .ref a ∧ SqT K H a xs ∧
  ¬ (HT.sIx xs.length 0 lo = 0 ∧ HT.sIx xs.length xs.length hi = xs.length) ∧ ∀ p, H p = none → Q (.ref p) (upd H p (.tup (cutV xs lo hi)))
theorem sl_tup : SlR X (rSlT X.K) := by
  intro pins s σ H x v vl vu lo hi sl Q I rx hs pl pu h
  obtain ⟨a, xs, rfl, hx, hw, q⟩ := h
  cases rx
  obtain ⟨its, r, ht, hz⟩ := I.tuple hx
  have hlen : its.toArray.size = xs.length := by rw [List.size_toArray]; exact r.length.symm
  refine ⟨"tuple", _, PyProof.Rows.slot_tuple_getitem.lookup, ht.typeIs, ?_⟩
  refine HT.getItem_tuple_cut ht hs pl pu (by rw [hlen]; exact hw) ?_ (by rw [hlen]; exact hz)
  rw [hlen]
  refine ⟨.ref s.heap.objs.size, _, I.laid (t' := s.toks) (o := .tup (cutV xs lo hi)) (fun b ob q => Heap.get?_push_of_some _ q) (Nat.le_refl _) ?_, rfl, q _ (I.hok.fresh (Nat.le_refl _))⟩
  exact ⟨Nat.le_trans (cutV_length xs lo hi) hz, _, (r.drop (HT.sIx xs.length 0 lo)).take (HT.sIx xs.length xs.length hi - HT.sIx xs.length 0 lo), IsTup.new _ _⟩
def rLtT (K : PySem.W.Frag) : R2 := fun x y H Q => ∃ a b ns ms, x = .ref a ∧ y = .ref b ∧ SqT K H a (ns.map V.int) ∧ SqT K H b (ms.map V.int) ∧ Q (.bl (HT.lexLt ns ms)) H
def rCatT (K : PySem.W.Frag) : R2 := fun x y H Q => ∃ a b xs ys, x = .ref a ∧ y = .ref b ∧ SqT K H a xs ∧ SqT K H b ys ∧ xs ≠ [] ∧ xs.length + ys.length ≤ sizeLine ∧
  (ys = [] → Q (.ref a) H) ∧ (ys ≠ [] → ∀ p, H p = none → Q (.ref p) (upd H p (.tup (xs ++ ys))))
theorem Vals.nil_iff {xs : List V} {us : List Value} (r : Vals xs us) : us = [] ↔ xs = [] := by
  cases r with
  | nil => simp
  | cons _ _ => simp
theorem op_catT : OpR X (binaryOp .Add) (rCatT X.K) := by
  intro pins s σ H x y v u Q I rx ry h
  obtain ⟨a, b, xs, ys, rfl, rfl, ha, hb, hx, hz, q1, q2⟩ := h
  cases rx
  cases ry
  obtain ⟨its, r1, p1, _⟩ := I.tuple ha
  obtain ⟨its2, r2, p2, _⟩ := I.tuple hb
  refine HT.cat_tup p1 p2 (fun z => hx (r1.nil_iff.mp z)) (fun z => ⟨.ref a, H, I, rfl, q1 (r2.nil_iff.mp z)⟩) (fun z => ?_) (by rw [← r1.length, ← r2.length]; exact hz)
  refine ⟨.ref s.heap.objs.size, _, I.laid (t' := s.toks) (o := .tup (xs ++ ys)) (fun b ob q => Heap.get?_push_of_some _ q) (Nat.le_refl _) ?_, rfl, q2 (fun w => z (r2.nil_iff.mpr w)) _ (I.hok.fresh (Nat.le_refl _))⟩
  exact ⟨by rw [List.length_append]; exact hz, _, r1.append r2, IsTup.new _ _⟩
end
end L2
namespace L2
open PySem PySem.Spec PyProof.Rows
def ixN (n : Nat) (i : Int) : Option Nat := if 0 ≤ i then (if i < n then some i.toNat else none) else if -(n : Int) ≤ i then some (i + n).toNat else none
def atI {α : Type} (xs : List α) (i : Int) : Option α := (ixN xs.length i).bind fun j => xs[j]?
theorem ixN_seq {n : Nat} {i : Int} {j : Nat} (h : ixN n i = some j) : seqIndex? i n = some j ∧ j < n ∧ -(n : Int) ≤ i ∧ i < n := by
  unfold ixN at h
  by_cases h0 : 0 ≤ i
  · rw [if_pos h0] at h
    by_cases h1 : i < n
    · rw [if_pos h1] at h
      have e : i.toNat = j := Option.some.inj h
      exact ⟨by rw [seqIndex_of h0 h1, e], by omega, by omega, h1⟩
    · rw [if_neg h1] at h; cases h
  · rw [if_neg h0] at h
    by_cases h1 : -(n : Int) ≤ i
    · rw [if_pos h1] at h
      have e : (i + n).toNat = j := Option.some.inj h
      exact ⟨by rw [seqIndex_neg (by omega) h1, e], by omega, h1, by omega⟩
    · rw [if_neg h1] at h; cases h
theorem atI_get {α : Type} {xs : List α} {i : Int} {v : α} (h : atI xs i = some v) : ∃ j, seqIndex? i xs.length = some j ∧ xs[j]? = some v ∧ j < xs.length ∧ -(xs.length : Int) ≤ i ∧ i < xs.length := by
  unfold atI at h
  cases e : ixN xs.length i with
  | none => rw [e] at h; cases h
  | some j =>
    rw [e] at h
    obtain ⟨h1, h2, h3, h4⟩ := ixN_seq e
    exact ⟨j, h1, h, h2, h3, h4⟩
theorem atI_nat {α : Type} {xs : List α} {j : Nat} {v : α} (h : xs[j]? = some v) : atI xs (j : Int) = some v := by
  have hj : j < xs.length := (List.getElem?_eq_some_iff.mp h).1
  have e : ixN xs.length (j : Int) = some j := by
    unfold ixN
    rw [if_pos (by omega), if_pos (by omega)]; simp
  unfold atI; rw [e]; exact h
def PlainIx (b : Expr) : Prop := ∀ o i, subscripted b false o i = operate [o, i] (getItem o i)
def IxR (X : Cx) (r : R2) : Prop :=
  ∀ (value slice : Expr) (pins : List (Addr × Obj)) (s : Shared) (σ : St) (H : Hp) (x y : V) (v u : Value) (Q : VK), Inv X pins σ H s → RelV x v → RelV y u → r x y H Q →
    subscripted slice false v u = operate [v, u] (getItem v u) → wpAny (model X.prog X.w) X.A (subscriptTail value slice v u) (EP X pins σ Q) X.xe s
def MtR (X : Cx) (id : String) (r : V → List V → Hp → VK → Prop) : Prop :=
  ∀ (pins : List (Addr × Obj)) (s : Shared) (σ : St) (H : Hp) (x : V) (xs : List V) (v : Value) (us : List Value) (Q : VK), Inv X pins σ H s → RelV x v → Vals xs us → r x xs H Q →
    wpAny (model X.prog X.w) X.A (call (.builtin id) (v :: us)) (EP X pins σ Q) X.xe s
section
variable {X : Cx} {a b : Expr} {ta tb : TE} {pos : Pos}
theorem pe_ix {r : R2} (hr : IxR X r) (ha : PE X a ta) (hb : PE X b tb) (hs : PlainIx b) : PE X (.Subscript a b pos) (tOp r ta tb) := by
  intro pins s σ H Q I h
  exact Subscript_ (binT ha hb I h fun v u s2 x y H2 I2 rx ry q => hr a b pins s2 σ H2 x y v u Q I2 rx ry q (hs _ _))
def rIxL (K : PySem.W.Frag) : R2 := fun x y H Q => ∃ p xs i v, x = .ref p ∧ y = .int i ∧ SqL K H p xs ∧ atI xs i = some v ∧ Q v H
def rIxT (K : PySem.W.Frag) : R2 := fun x y H Q => ∃ p xs i v, x = .ref p ∧ y = .int i ∧ SqT K H p xs ∧ atI xs i = some v ∧ Q v H
def rIxS : R2 := fun x y H Q => ∃ z i c, x = .str z ∧ y = .int i ∧ z.length ≤ sizeLine ∧ atI z.cps.toList i = some c ∧ Q (.str ⟨#[c]⟩) H
theorem ix_list : IxR X (rIxL X.K) := by
  intro value slice pins s σ H x y v u Q I rx ry h hs
  obtain ⟨p, xs, i, z, rfl, rfl, hq, he, q⟩ := h
  cases rx
  obtain ⟨t, rfl⟩ := ry
  obtain ⟨its, r, pl, hz⟩ := I.list hq
  obtain ⟨j, h1, h2, h3, h4, h5⟩ := atI_get he
  obtain ⟨w, ew, rw'⟩ := r.get h2
  have hl := r.length
  have hn := line63
  have fin : EP X pins σ Q w s := ⟨z, H, I, rw', q⟩
  by_cases h0 : 0 ≤ i
  · have hj : i.toNat = j := by
      rw [seqIndex_of h0 h5] at h1
      exact Option.some.inj h1
    exact item_listR pl.isList h0 (by omega) (by rw [hj]; simpa using ew) fin hs
  · have hj : (i + (its.toArray.size : Int)).toNat = j := by
      rw [seqIndex_neg (by omega) h4] at h1
      rw [List.size_toArray, ← hl]
      exact Option.some.inj h1
    exact subscriptTail_builtinR (x := w) pl.isList.typeIs slot_list_getitem.lookup
      (wpAny_getItem_list_neg (Q := fun r s' => r = w ∧ EP X pins σ Q r s') pl.isList (by omega) (by rw [List.size_toArray] <;> omega) (by omega) (by rw [hj]; simpa using ew) ⟨rfl, fin⟩) hs
theorem ix_tup : IxR X (rIxT X.K) := by
  intro value slice pins s σ H x y v u Q I rx ry h hs
  obtain ⟨p, xs, i, z, rfl, rfl, hq, he, q⟩ := h
  cases rx
  obtain ⟨t, rfl⟩ := ry
  obtain ⟨its, r, pl, hz⟩ := I.tuple hq
  obtain ⟨j, h1, h2, h3, h4, h5⟩ := atI_get he
  obtain ⟨w, ew, rw'⟩ := r.get h2
  have hl := r.length
  have hn := line63
  have fin : EP X pins σ Q w s := ⟨z, H, I, rw', q⟩
  exact subscriptTail_builtinR (x := w) pl.typeIs slot_tuple_getitem.lookup
    (getItem_tuple (j := j) (Q := fun r s' => r = w ∧ EP X pins σ Q r s') pl (by omega) (by omega) (by rw [List.size_toArray, ← hl]; exact h1) (by simpa using ew) ⟨rfl, fin⟩) hs
def rIx (K : PySem.W.Frag) : R2 := fun x y H Q => rIxL K x y H Q ∨ rIxT K x y H Q ∨ rIxS x y H Q
theorem mapSeq_set (its : List Value) (n j : Nat) (u : Value) : Obj.mapSeq (·.setIfInBounds j u) { cls := .type "list", data := .seq its.toArray n } = { cls := .type "list", data := .seq (its.set j u).toArray n } := by
  simp [Obj.mapSeq]
theorem Inv.lst {pins : List (Addr × Obj)} {σ : St} {H : Hp} {s : Shared} {p : Addr} {xs : List V} (I : Inv X pins σ H s) (h : H p = some (.lst xs)) :
    ∃ (its : List Value) (n : Nat), Vals xs its ∧ s.heap.get? p = some { cls := .type "list", data := .seq its.toArray n } ∧ xs.length ≤ sizeLine := by
  obtain ⟨z, its, n, r, e⟩ := I.hok p _ h
  exact ⟨its, n, r, e, z⟩
theorem Inv.lstUpd {pins : List (Addr × Obj)} {σ : St} {H : Hp} {s : Shared} {p : Addr} {xs ys : List V} {its its' : List Value} {n n' : Nat} {f : Obj → Obj} (I : Inv X pins σ H s) (h : H p = some (.lst xs))
    (ho : s.heap.get? p = some { cls := .type "list", data := .seq its.toArray n }) (hf : f { cls := .type "list", data := .seq its.toArray n } = { cls := .type "list", data := .seq its'.toArray n' }) (r : Vals ys its') (hz : ys.length ≤ sizeLine) (t : Nat) :
    Inv X pins σ (upd H p (.lst ys)) { s with heap := s.heap.update p f, toks := t } := by
  have e : (s.heap.update p f).get? p = some { cls := .type "list", data := .seq its'.toArray n' } := by
    rw [Heap.get?_update_self f ho (by rw [hf] <;> rfl), hf]
  refine I.write (x := p) (e := p) (by rw [h]; trivial) (.inl rfl) (fun b u hb q => (Heap.get?_update_other _ _ (Ne.symm hb)).trans q) ⟨_, e⟩ ?_
  exact ⟨hz, its', n', r, e⟩
def rSetL : V → V → V → Hp → (Hp → Prop) → Prop := fun o i v H Q => ∃ p xs k j, o = .ref p ∧ i = .int k ∧ H p = some (.lst xs) ∧ ixN xs.length k = some j ∧ Q (upd H p (.lst (xs.set j v)))
theorem set_list : PSet X rSetL := by
  intro pins s σ H o i v ov iv u Q I ro ri rv h
  obtain ⟨p, xs, k, j, rfl, rfl, hp, hj, q⟩ := h
  cases ro
  obtain ⟨t, rfl⟩ := ri
  obtain ⟨its, n, r, ho, hz⟩ := I.lst hp
  obtain ⟨h1, h2, h3, h4⟩ := ixN_seq hj
  have hl := r.length
  have hn := line63
  have I' : Inv X pins σ (upd H p (.lst (xs.set j v))) { s with heap := s.heap.update p (Obj.mapSeq (·.setIfInBounds j u)) } :=
    I.lstUpd hp ho (mapSeq_set its n j u) (r.set rv j) (by rw [List.length_set]; exact hz) s.toks
  by_cases h0 : 0 ≤ k
  · have hk : k.toNat = j := by
      rw [seqIndex_of h0 h4] at h1
      exact Option.some.inj h1
    exact PySem.W.ki_setAt ho h0 (by omega) (by rw [List.size_toArray, ← hl]; exact h4) (by rw [hk]; exact ⟨_, I', q⟩)
  · have hk : (k + (its.toArray.size : Int)).toNat = j := by
      rw [seqIndex_neg (by omega) h3] at h1
      rw [List.size_toArray, ← hl]
      exact Option.some.inj h1
    exact PySem.W.ki_setBack ho (by omega) (by rw [List.size_toArray, ← hl]; exact h3) (by omega) (by rw [hk]; exact ⟨_, I', q⟩)
theorem slice_bounds (lo hi : Option Int) (n : Nat) : (sliceBounds lo hi none n).1 = ((HT.sIx n 0 lo : Nat) : Int) ∧ (sliceBounds lo hi none n).2.1 = ((HT.sIx n n hi : Nat) : Int) ∧ (sliceBounds lo hi none n).2.2 = 1 := by
  refine ⟨?_, ?_, rfl⟩
  · cases lo with
    | none => simp [sliceBounds, HT.sIx]
    | some i =>
      simp only [sliceBounds, HT.sIx, Option.getD_none, show (1 : Int) > 0 by decide, if_true]
      by_cases h : i < 0
      · simp only [h, if_true] <;> omega
      · simp only [h, if_false] <;> omega
  · cases hi with
    | none => simp [sliceBounds, HT.sIx]
    | some i =>
      simp only [sliceBounds, HT.sIx, Option.getD_none, show (1 : Int) > 0 by decide, if_true]
      by_cases h : i < 0
      · simp only [h, if_true] <;> omega
      · simp only [h, if_false] <;> omega
theorem slicePick_cut (its : List Value) (lo hi : Option Int) : slicePick its.toArray lo hi none = ((its.drop (HT.sIx its.length 0 lo)).take (HT.sIx its.length its.length hi - HT.sIx its.length 0 lo)).toArray := by
  obtain ⟨h1, h2, h3⟩ := slice_bounds lo hi its.toArray.size
  unfold slicePick
  rw [h1, h2, h3]
  simp only [sliceRange_one, pick_run, List.size_toArray] <;> rfl
def rSlL (K : PySem.W.Frag) : V → Option Int → Option Int → Hp → VK → Prop := fun x lo hi H Q => ∃ a xs, x = .ref a ∧ SqL K H a xs ∧ ∀ p, H p = none → Q (.ref p) (upd H p (.lst (cutV xs lo hi)))
theorem sl_list : SlR X (rSlL X.K) := by
  intro pins s σ H x v vl vu lo hi sl Q I rx hs pl pu h
  obtain ⟨a, xs, rfl, hx, q⟩ := h
  cases rx
  obtain ⟨its, r, ht, hz⟩ := I.list hx
  have hlen := r.length
  refine ⟨"list", _, slot_list_getitem.lookup, ht.isList.typeIs, ?_⟩
  refine wpAny_getItem_list_slice ht.isList hs pl pu .none (by simp) ?_ (by rw [List.size_toArray] <;> omega)
  rw [slicePick_cut, ← hlen]
  refine ⟨.ref s.heap.objs.size, _, I.laid (t' := s.toks) (o := .lst (cutV xs lo hi)) (fun b ob q => Heap.get?_push_of_some _ q) (Nat.le_refl _) ?_, rfl, q _ (I.hok.fresh (Nat.le_refl _))⟩
  exact ⟨Nat.le_trans (cutV_length xs lo hi) hz, _, 0, (r.drop (HT.sIx xs.length 0 lo)).take (HT.sIx xs.length xs.length hi - HT.sIx xs.length 0 lo), Heap.get?_push_size _ rfl⟩
def flatV : V → Bool
  | .non => true
  | .bl _ => true
  | .int _ => true
  | .str _ => true
  | _ => false
def eqV : V → V → Bool
  | .non, .non => true
  | .bl a, .bl b => a == b
  | .bl a, .int b => (if a then 1 else 0) == b
  | .int a, .bl b => a == (if b then 1 else 0)
  | .int a, .int b => a == b
  | .str a, .str b => a == b
  | _, _ => false
theorem eqAt_V {A : Around} {s : Shared} {y x : V} {u v : Value} (ry : RelV y u) (rx : RelV x v) (fy : flatV y = true) (fx : flatV x = true) : SeqAt.EqAt A s u v (eqV y x) := by
  cases y with
  | non =>
    cases ry
    cases x with
    | non => cases rx; exact SeqAt.EqAt.same _
    | bl b => cases rx; exact SeqAt.EqAt.none_bool b
    | int b => obtain ⟨t, rfl⟩ := rx; exact SeqAt.EqAt.none_int b t
    | str b => obtain ⟨t, rfl⟩ := rx; exact SeqAt.EqAt.none_str b t
    | _ => exact absurd (show false = true from fx) Bool.false_ne_true
  | bl a =>
    cases ry
    cases x with
    | non => cases rx; exact SeqAt.EqAt.bool_none a
    | bl b => cases rx; exact SeqAt.EqAt.bool_bool a b
    | int b => obtain ⟨t, rfl⟩ := rx; exact SeqAt.EqAt.bool_int a b t
    | str b => obtain ⟨t, rfl⟩ := rx; exact SeqAt.EqAt.bool_str a b t
    | _ => exact absurd (show false = true from fx) Bool.false_ne_true
  | int a =>
    obtain ⟨t', rfl⟩ := ry
    cases x with
    | non => cases rx; exact SeqAt.EqAt.int_none a t'
    | bl b => cases rx; exact SeqAt.EqAt.int_bool a t' b
    | int b => obtain ⟨t, rfl⟩ := rx; exact SeqAt.EqAt.int_int a t' b t
    | str b => obtain ⟨t, rfl⟩ := rx; exact SeqAt.EqAt.int_str a t' b t
    | _ => exact absurd (show false = true from fx) Bool.false_ne_true
  | str a =>
    obtain ⟨t', rfl⟩ := ry
    cases x with
    | non => cases rx; exact SeqAt.EqAt.str_none a t'
    | bl b => cases rx; exact SeqAt.EqAt.str_bool a t' b
    | int b => obtain ⟨t, rfl⟩ := rx; exact SeqAt.EqAt.str_int a t' b t
    | str b => obtain ⟨t, rfl⟩ := rx; exact SeqAt.EqAt.str_str a t' b t
    | _ => exact absurd (show false = true from fx) Bool.false_ne_true
  | _ => exact absurd (show false = true from fy) Bool.false_ne_true
def eqU (x : V) (u : Value) : Bool := match u with
  | .none => eqV .non x
  | .bool b => eqV (.bl b) x
  | .int i _ => eqV (.int i) x
  | .str z _ => eqV (.str z) x
  | _ => false
theorem eqU_of {x y : V} {u : Value} (r : RelV y u) (f : flatV y = true) : eqU x u = eqV y x := by
  cases y with
  | non => cases r; rfl
  | bl b => cases r; rfl
  | int i => obtain ⟨t, rfl⟩ := r; rfl
  | str z => obtain ⟨t, rfl⟩ := r; rfl
  | _ => exact absurd (show false = true from f) Bool.false_ne_true
theorem any_eqU {x : V} : ∀ {xs : List V} {us : List Value}, Vals xs us → xs.all flatV = true → us.any (eqU x) = xs.any fun y => eqV y x
  | _, _, .nil, _ => rfl
  | y :: xs, u :: us, .cons r t, f => by
    rw [List.all_cons, Bool.and_eq_true] at f
    rw [List.any_cons, List.any_cons, eqU_of r f.1, any_eqU t f.2]
theorem mem_eqAt {A : Around} {s : Shared} {x : V} {v : Value} (rx : RelV x v) (fx : flatV x = true) : ∀ {xs : List V} {us : List Value}, Vals xs us → xs.all flatV = true → ∀ u ∈ us, SeqAt.EqAt A s u v (eqU x u)
  | _, _, .nil, _ => fun u hu => by cases hu
  | y :: xs, u :: us, .cons r t, f => fun u' hu => by
    rw [List.all_cons, Bool.and_eq_true] at f
    rcases List.mem_cons.mp hu with rfl | hu
    · rw [eqU_of r f.1]; exact eqAt_V r rx f.1 fx
    · exact mem_eqAt rx fx t f.2 u' hu
def inV (x : V) (xs : List V) : Bool := xs.any fun y => eqV y x
def rIn (K : PySem.W.Frag) (neg : Bool) : R2 := fun x y H Q => ∃ p xs, y = .ref p ∧ (SqL K H p xs ∨ SqT K H p xs) ∧ flatV x = true ∧ xs.all flatV = true ∧ Q (.bl (if neg then !inV x xs else inV x xs)) H
theorem op_in_seq : OpR X (compareOp .In) (rIn X.K false) := by
  intro pins s σ H x y v u Q I rx ry h
  obtain ⟨p, xs, rfl, hq, fx, fs, q⟩ := h
  cases ry
  rcases hq with hq | hq
  · obtain ⟨its, r, pl, hz⟩ := I.list hq
    refine SeqAt.in_listAt (eqU x) pl.isList (fun w hw => mem_eqAt rx fx r fs w (by simpa using hw)) ⟨.bl _, H, I, rfl, ?_⟩
    rw [show its.toArray.any (eqU x) = its.any (eqU x) by simp, any_eqU r fs]
    exact q
  · obtain ⟨its, r, pl, hz⟩ := I.tuple hq
    refine SeqAt.in_tupleAt (eqU x) pl (fun w hw => mem_eqAt rx fx r fs w (by simpa using hw)) ⟨.bl _, H, I, rfl, ?_⟩
    rw [show its.toArray.any (eqU x) = its.any (eqU x) by simp, any_eqU r fs]
    exact q
theorem call_len_seq : CallR X (.builtin "len") (fun xs H Q => ∃ p ys, xs = [.ref p] ∧ (SqL X.K H p ys ∨ SqT X.K H p ys) ∧ Q (.int ys.length) H) := by
  intro pins s σ H xs us Q I r h
  obtain ⟨p, ys, rfl, hq, q⟩ := h
  obtain ⟨u, rfl, rx⟩ := vals1 r
  cases rx
  have hn := line63
  rcases hq with hq | hq
  · obtain ⟨its, r', pl, hz⟩ := I.list hq
    have hlen := r'.length
    exact Calls.call_len_list pl.isList (by simp only [List.size_toArray] <;> omega) ⟨.int ys.length, H, I.tok _, ⟨s.toks + 1, by rw [List.size_toArray, hlen]⟩, q⟩
  · obtain ⟨its, r', pl, hz⟩ := I.tuple hq
    have hlen := r'.length
    exact len_tuple pl (by simp only [List.size_toArray] <;> omega) ⟨.int ys.length, H, I.tok _, ⟨s.toks + 1, by rw [List.size_toArray, hlen]⟩, q⟩
theorem call_list_of : CallR X (.type "list") (fun xs H Q => ∃ p ys, xs = [.ref p] ∧ (SqL X.K H p ys ∨ SqT X.K H p ys) ∧ ∀ l, H l = none → Q (.ref l) (upd H l (.lst ys))) := by
  intro pins s σ H xs us Q I r h
  obtain ⟨p, ys, rfl, hq, q⟩ := h
  obtain ⟨u, rfl, rx⟩ := vals1 r
  cases rx
  have fin : ∀ (its : List Value), Vals ys its → ys.length ≤ sizeLine → ∀ (h' : Heap) (c' : Nat), (∀ b o', s.heap.get? b = some o' → h'.get? b = some o') →
      h'.get? s.heap.objs.size = some { cls := .type "list", dict := none, data := .seq its.toArray c', slots := #[] } → EP X pins σ Q (.ref s.heap.objs.size) { s with heap := h' } := fun its r' hz h' c' kp e =>
    ⟨.ref s.heap.objs.size, _, I.laid (t' := s.toks) kp (Nat.le_refl _) (show ObjOk X.prog X.w _ h' _ (.lst ys) from ⟨hz, its, c', r', e⟩), rfl, q _ (I.hok.fresh (Nat.le_refl _))⟩
  rcases hq with hq | hq
  · obtain ⟨its, r', pl, hz⟩ := I.list hq
    have hlen := r'.length
    obtain ⟨o, ho, hc, n, hd⟩ := pl.isList
    exact call_list_seq p (.inl rfl) ho hc hd (fun h' c' kp e => fin its r' hz h' c' kp e) (by simp only [List.size_toArray] <;> omega)
  · obtain ⟨its, r', pl, hz⟩ := I.tuple hq
    have hlen := r'.length
    obtain ⟨o, ho, hc, n, hd⟩ := pl
    exact call_list_seq p (.inr rfl) ho hc hd (fun h' c' kp e => fin its r' hz h' c' kp e) (by simp only [List.size_toArray] <;> omega)
theorem call_tuple_of : CallR X (.type "tuple") (fun xs H Q => ∃ p ys, xs = [.ref p] ∧ ((SqL X.K H p ys ∧ ∀ l, H l = none → Q (.ref l) (upd H l (.tup ys))) ∨ (SqT X.K H p ys ∧ Q (.ref p) H))) := by
  intro pins s σ H xs us Q I r h
  obtain ⟨p, ys, rfl, h⟩ := h
  obtain ⟨u, rfl, rx⟩ := vals1 r
  cases rx
  rcases h with ⟨hq, q⟩ | ⟨hq, q⟩
  · obtain ⟨its, r', pl, hz⟩ := I.list hq
    have hlen := r'.length
    refine call_tuple_list pl.isList (fun h' kp => ?_) (by simp only [List.size_toArray] <;> omega)
    have I1 : Inv X pins σ H { s with heap := h' } := I.kept (t' := s.toks) kp
    have I2 : Inv X pins σ (upd H h'.objs.size (.tup ys)) { s with heap := h'.push { cls := .type "tuple", data := .seq its.toArray } } :=
      I1.laid (t' := s.toks) (fun b o e => Heap.get?_push_of_some _ e) (Nat.le_refl _) (show ObjOk X.prog X.w _ _ _ (.tup ys) from ⟨hz, its, r', IsTup.new _ _⟩)
    exact ⟨.ref h'.objs.size, _, I2, rfl, q _ (I1.hok.fresh (Nat.le_refl _))⟩
  · obtain ⟨its, r', pl, hz⟩ := I.tuple hq
    exact call_tuple_same pl ⟨.ref p, H, I, rfl, q⟩
def tyV (K : PySem.W.Frag) (T : String) (x : V) (H : Hp) : Prop := match x with
  | .str _ => T = "str"
  | .int _ => T = "int"
  | .ref p => (T = "list" ∧ ∃ xs, SqL K H p xs) ∨ (T = "tuple" ∧ ∃ o, K.lookup p = some o ∧ o.cls = .type "tuple" ∧ o.dict = none) ∨
      (T = "dict" ∧ ((∃ kvs, H p = some (.dK kvs)) ∨ ∃ kvs, H p = some (.dT kvs))) ∨ (T = "set" ∧ ∃ S n, H p = some (.set S n))
  | _ => False
theorem tyV_is {pins : List (Addr × Obj)} {σ : St} {H : Hp} {s : Shared} {T : String} {x : V} {v : Value} (I : Inv X pins σ H s) (r : RelV x v) (ty : tyV X.K T x H) :
    s.TypeIs v T ∧ ∀ a, v = .ref a → ∃ ob, s.heap.get? a = some ob ∧ ob.dict = none := by
  cases x with
  | str z =>
    obtain ⟨t, rfl⟩ := r
    cases (show T = "str" from ty)
    exact ⟨typeIs_str s z t, fun _ e => nomatch e⟩
  | int i =>
    obtain ⟨t, rfl⟩ := r
    cases (show T = "int" from ty)
    exact ⟨typeIs_int s i t, fun _ e => nomatch e⟩
  | ref p =>
    cases r
    rcases ty with ⟨rfl, xs, hq⟩ | ⟨rfl, o, hk, hc, hd⟩ | ⟨rfl, hk⟩ | ⟨rfl, S, n, hk⟩
    · obtain ⟨its, _, pl, _⟩ := I.list hq
      refine ⟨pl.isList.typeIs, fun a e => ?_⟩
      cases e
      obtain ⟨o, n, e, c, hd, _⟩ := pl
      exact ⟨o, e, hd⟩
    · refine ⟨⟨o, I.kIn p o hk, hc⟩, fun a e => ?_⟩
      cases e
      exact ⟨o, I.kIn _ o hk, hd⟩
    · have z : ∃ o, s.heap.get? p = some o ∧ o.ExactDict := by
        rcases hk with ⟨kvs, hk⟩ | ⟨kvs, hk⟩
        · obtain ⟨_, _, _, _, o, _, _, e, ex, _⟩ := I.hok p _ hk
          exact ⟨o, e, ex⟩
        · obtain ⟨_, _, _, _, o, _, _, e, ex, _⟩ := I.hok p _ hk
          exact ⟨o, e, ex⟩
      obtain ⟨o, e, ex⟩ := z
      refine ⟨⟨o, e, ex.1⟩, fun a e2 => ?_⟩
      cases e2
      exact ⟨o, e, ex.2.1⟩
    · obtain ⟨o, _, _, _, e, ex, _⟩ := I.hok p _ hk
      refine ⟨⟨o, e, ex.1⟩, fun a e2 => ?_⟩
      cases e2
      exact ⟨o, e, ex.2.1⟩
  | _ => exact False.elim ty
def tBM0 (K : PySem.W.Frag) (T : String) (r : V → List V → Hp → VK → Prop) (to : TE) : TE := fun σ H Q => to σ H fun x H1 => tyV K T x H1 ∧ r x [] H1 Q
def tBM (K : PySem.W.Frag) (T : String) (r : V → List V → Hp → VK → Prop) (to : TE) (t : TA) : TE := fun σ H Q => to σ H fun x H1 => tyV K T x H1 ∧ t σ H1 fun xs H2 => r x xs H2 Q
variable {o e : Expr} {es : List Expr} {to : TE} {t : TA} {name : Str} {apos cpos : Pos} {T id : String} {r : V → List V → Hp → VK → Prop}
theorem pe_bm (pa : PlainAttrs T) (slot : Slot T name id) (hty : typeOf (.builtin id) = pure (.type "method_descriptor")) (hm : MtR X id r) (ho : PE X o to) (ha : PA X (e :: es) t)
    (hbase : attributeBase o name X.env (eval o X.env) = eval o X.env := by rfl)
    (hfew : ((backTo cpos (starEach (e :: es) X.env)).all (fun x => !x.1) && (backToKw cpos (keywordEach [] X.env)).all (fun x => x.1.isSome)
      && decide ((e :: es).length + ([] : List Keyword).length + (if ([] : List Keyword).isEmpty then 0 else 1) < 30)) = true := by rfl)
    (hline : (apos.endLine == cpos.line) = true := by rfl) (hs : starEach (e :: es) X.env = (false, eval e X.env) :: starEach es X.env := by rfl) (hplain : (backTo cpos (starEach es X.env)).any (·.1) = false := by rfl) :
    PE X (.Call (.Attribute o name apos) (e :: es) [] cpos) (tBM X.K T r to t) := by
  intro pins s σ H Q I h
  refine wpAny_Call_method_late hbase hfew hline rfl (thn (ho pins s σ H _ I h) fun v s1 ⟨x, H1, I1, r1, ty, q1⟩ => ?_)
  obtain ⟨h1, h2⟩ := tyV_is I1 r1 ty
  refine ⟨T, id, pa, slot, hty, h1, h2, ?_⟩
  have hA := ha cpos pins s1 σ H1 _ I1 q1
  rw [hs] at hA ⊢
  refine Calls.callWith_builtin (by show (false || (backTo cpos (starEach es X.env)).any (·.1)) = false; rw [hplain] <;> rfl) (Calls.evalArgs_plain ?_)
  exact thn hA fun us s2 ⟨vs, H2, I2, r2, q2⟩ => hm pins s2 σ H2 x vs v us Q I2 r1 r2 q2
/- xs.append(e), list.index on a module's tuple .. are MtR facts of 06m -/
end
end L2
namespace L2
open PySem PySem.Spec PyProof.Rows
def MtM (X : Cx) (id : String) (r : V → List V → Hp → VK → Prop) : Prop :=
  ∀ (pins : List (Addr × Obj)) (s : Shared) (σ : St) (H : Hp) (x : V) (xs : List V) (v : Value) (us : List Value) (Q : VK), Inv X pins σ H s → RelV x v → Vals xs us → r x xs H Q →
    wpAny (model X.prog X.w) X.A (call (.builtin id) (v :: us)) (EP X pins σ Q) X.xe s
theorem Vals.one : ∀ {x : V} {us : List Value}, Vals [x] us → ∃ u, us = [u] ∧ RelV x u
  | _, _, .cons r .nil => ⟨_, rfl, r⟩
theorem Vals.eraseIdx : ∀ {xs : List V} {us : List Value} (i : Nat), Vals xs us → Vals (xs.eraseIdx i) (us.eraseIdx i)
  | _, _, _, .nil => .nil
  | _, _, 0, .cons _ t => t
  | _, _, i + 1, .cons r t => .cons r (Vals.eraseIdx i t)
theorem Vals.rep {xs : List V} {us : List Value} (h : Vals xs us) : ∀ k : Nat, Vals (List.replicate k xs).flatten (List.replicate k us).flatten
  | 0 => .nil
  | k + 1 => by
    rw [List.replicate_succ, List.replicate_succ, List.flatten_cons, List.flatten_cons]
    exact Vals.append h (Vals.rep h k)
theorem len_erase {α : Type} : ∀ (l : List α) (i : Nat), (l.eraseIdx i).length ≤ l.length
  | [], _ => Nat.le_refl _
  | _ :: _, 0 => Nat.le_succ _
  | _ :: r, i + 1 => Nat.succ_le_succ (len_erase r i)
theorem foldl_rep (its : List Value) : ∀ (k : Nat) (acc : List Value),
    List.foldl (fun x1 x2 => x1 ++ x2) acc.toArray (List.replicate k its.toArray) = (acc ++ (List.replicate k its).flatten).toArray
  | 0, acc => by simp
  | k + 1, acc => by
    have e : acc.toArray ++ its.toArray = (acc ++ its).toArray := by simp
    have e2 : (acc ++ its) ++ (List.replicate k its).flatten = acc ++ (List.replicate (k + 1) its).flatten := by
      rw [List.replicate_succ, List.flatten_cons, List.append_assoc]
    rw [← e2, ← foldl_rep its k (acc ++ its), ← e, List.replicate_succ, List.foldl_cons]
section
variable {X : Cx} {pins : List (Addr × Obj)} {σ : St} {H : Hp} {s : Shared} {l b : Addr} {xs ys zs : List V}
theorem Inv.lset {its its' : List Value} {n : Nat} {f : Array Value → Array Value} {t' : Nat} (I : Inv X pins σ H s) (hH : H l = some (.lst xs))
    (e : s.heap.get? l = some { cls := .type "list", data := .seq its.toArray n }) (hf : f its.toArray = its'.toArray) (hv : Vals ys its') (hz : ys.length ≤ sizeLine) :
    Inv X pins σ (upd H l (.lst ys)) { s with heap := s.heap.update l (Obj.mapSeq f), toks := t' } := by
  have q := PySem.IsL.update e f
  rw [hf] at q
  refine I.write (x := l) (e := l) (by rw [hH]; exact trivial) (.inl rfl) (fun b' u hb hu => (Heap.get?_update_other s.heap (Obj.mapSeq f) (Ne.symm hb)).trans hu) ⟨_, q⟩ ?_
  exact ⟨hz, its', _, hv, q⟩
theorem Inv.lnew {its : List Value} {t' : Nat} (I : Inv X pins σ H s) (hv : Vals ys its) (hz : ys.length ≤ sizeLine) :
    Inv X pins σ (upd H s.heap.objs.size (.lst ys)) { s with heap := s.heap.push { cls := .type "list", data := .seq its.toArray }, toks := t' } :=
  I.laid (fun _ _ q => Heap.get?_push_of_some _ q) (Nat.le_refl _) ⟨hz, its, 0, hv, Heap.get?_push_size _ rfl⟩
theorem Inv.fresh (I : Inv X pins σ H s) : H s.heap.objs.size = none := I.hok.fresh (Nat.le_refl _)
theorem Inv.lstM (I : Inv X pins σ H s) (hH : H l = some (.lst xs)) : xs.length ≤ sizeLine ∧ ∃ (its : List Value) (n : Nat), Vals xs its ∧ xs.length = its.length ∧ s.heap.get? l = some { cls := .type "list", data := .seq its.toArray n } := by
  obtain ⟨z, its, n, r, e⟩ := I.hok l _ hH
  exact ⟨z, its, n, r, r.length, e⟩
theorem notLongL {n : Nat} (h : n ≤ sizeLine) : Builtin.List.listTooLong n = false := by
  unfold Builtin.List.listTooLong
  exact decide_eq_false (by omega)
end
section
variable {X : Cx}
def rAppend : V → List V → Hp → VK → Prop := fun x vs H Q => ∃ l xs y, x = .ref l ∧ vs = [y] ∧ H l = some (.lst xs) ∧ xs.length < sizeLine ∧ Q .non (upd H l (.lst (xs ++ [y])))
theorem mt_append : MtM X "list.append" rAppend := by
  intro pins s σ H x vs v us Q I rx rv h
  obtain ⟨l, xs, y, rfl, rfl, hH, hz, q⟩ := h
  cases rx
  obtain ⟨u, rfl, ru⟩ := rv.one
  obtain ⟨z, its, n, r, hl, e⟩ := I.lstM hH
  refine call_meets F.slot_list_append ⟨_, e, rfl⟩ F.entry_list_append (F.args_list_append_2 _ _) (PySem.list_append l its.toArray n u (by rw [List.size_toArray]; omega)) ⟨e, ?_⟩
  refine ⟨.non, _, I.lset (its' := its ++ [u]) hH e (by simp) (r.append (.cons ru .nil)) ?_, rfl, q⟩
  rw [List.length_append, List.length_singleton]
  omega
def rExtend : V → List V → Hp → VK → Prop := fun x vs H Q => ∃ l b xs zs, x = .ref l ∧ vs = [.ref b] ∧ H l = some (.lst xs) ∧ H b = some (.lst zs) ∧ xs.length + zs.length ≤ sizeLine ∧ Q .non (upd H l (.lst (xs ++ zs)))
theorem mt_extend : MtM X "list.extend" rExtend := by
  intro pins s σ H x vs v us Q I rx rv h
  obtain ⟨l, b, xs, zs, rfl, rfl, hH, hB, hz, q⟩ := h
  cases rx
  obtain ⟨u, rfl, ru⟩ := rv.one
  cases ru
  obtain ⟨z, its, n, r, hl, e⟩ := I.lstM hH
  obtain ⟨z2, its2, n2, r2, hl2, e2⟩ := I.lstM hB
  have hsz : its.toArray.size + its2.toArray.size ≤ sizeLine := by rw [List.size_toArray, List.size_toArray]; omega
  have hlong : ¬ (!its.toArray.isEmpty && Builtin.List.listTooLong (its.toArray.size + its2.toArray.size)) = true := by
    rw [notLongL hsz, Bool.and_false]
    exact Bool.false_ne_true
  refine call_meets F.slot_list_extend ⟨_, e, rfl⟩ F.entry_list_extend (F.args_list_extend_2 _ _)
    (AutoSeq1.list_extend_list_list_0 l its.toArray n b its2.toArray n2 hlong (by rw [List.size_toArray]; omega) (by omega)) ⟨e, e2, ?_⟩
  refine ⟨.non, _, I.lset (its' := its ++ its2) hH e (by simp) (r.append r2) ?_, rfl, q⟩
  rw [List.length_append]
  omega
def rPop : V → List V → Hp → VK → Prop := fun x vs H Q => ∃ l xs y, x = .ref l ∧ vs = [] ∧ H l = some (.lst xs) ∧ xs[xs.length - 1]? = some y ∧ Q y (upd H l (.lst xs.dropLast))
def rPopAt : V → List V → Hp → VK → Prop := fun x vs H Q => ∃ l xs i k y, x = .ref l ∧ vs = [.int i] ∧ H l = some (.lst xs) ∧ -(2 ^ 63) ≤ i ∧ i < 2 ^ 63 ∧ seqIndex? i xs.length = some k ∧ xs[k]? = some y ∧ Q y (upd H l (.lst (xs.eraseIdx k)))
theorem mt_popAt : MtM X "list.pop" rPopAt := by
  intro pins s σ H x vs v us Q I rx rv h
  obtain ⟨l, xs, i, k, y, rfl, rfl, hH, h1, h2, hk, hy, q⟩ := h
  cases rx
  obtain ⟨u, rfl, ru⟩ := rv.one
  obtain ⟨t, rfl⟩ := ru
  obtain ⟨z, its, n, r, hl, e⟩ := I.lstM hH
  obtain ⟨w, hw, rw'⟩ := r.get hy
  refine call_meets F.slot_list_pop ⟨_, e, rfl⟩ F.entry_list_pop (F.args_list_pop_2 _ _)
    (MeetsSeq.list_pop_at l its.toArray n i t k w (fitsIndex_both h1 h2) (by rw [List.size_toArray, ← hl]; exact hk) (by rw [← Array.getElem?_toList]; exact hw) (by rw [List.size_toArray]; omega)) ⟨e, ?_⟩
  refine ⟨y, _, I.lset (its' := its.eraseIdx k) hH e ?_ (r.eraseIdx k) ?_, rw', q⟩
  · show its.toArray.eraseIdxIfInBounds k = (its.eraseIdx k).toArray
    rw [List.eraseIdxIfInBounds_toArray]
  · have := len_erase xs k
    omega
def rReverse : V → List V → Hp → VK → Prop := fun x vs H Q => ∃ l xs, x = .ref l ∧ vs = [] ∧ H l = some (.lst xs) ∧ Q .non (upd H l (.lst xs.reverse))
def rClear : V → List V → Hp → VK → Prop := fun x vs H Q => ∃ l xs, x = .ref l ∧ vs = [] ∧ H l = some (.lst xs) ∧ Q .non (upd H l (.lst []))
def rCat : R2 := fun x y H Q => ∃ l b xs zs, x = .ref l ∧ y = .ref b ∧ H l = some (.lst xs) ∧ H b = some (.lst zs) ∧ xs.length + zs.length ≤ sizeLine ∧ ∀ p, H p = none → Q (.ref p) (upd H p (.lst (xs ++ zs)))
def rRep : R2 := fun x y H Q => ∃ l k xs, x = .ref l ∧ y = .int k ∧ H l = some (.lst xs) ∧ -(2 ^ 63) ≤ k ∧ k < 2 ^ 63 ∧ xs.length * k.toNat ≤ sizeLine ∧
  ∀ p, H p = none → Q (.ref p) (upd H p (.lst (List.replicate k.toNat xs).flatten))
theorem len_rep {α : Type} (xs : List α) (k : Nat) : (List.replicate k xs).flatten.length = k * xs.length := by
  induction k with
  | zero => simp
  | succ k ih => rw [List.replicate_succ, List.flatten_cons, List.length_append, ih, Nat.succ_mul, Nat.add_comm]
theorem op_rep : OpR X (binaryOp .Mult) rRep := by
  intro pins s σ H x y v u Q I rx ry h
  obtain ⟨l, k, xs, rfl, rfl, hH, h1, h2, hz, q⟩ := h
  cases rx
  obtain ⟨t, rfl⟩ := ry
  obtain ⟨z, its, n, r, hl, e⟩ := I.lstM hH
  have hlen : its.toArray.size * k.toNat ≤ sizeLine := by rw [List.size_toArray, ← hl]; exact hz
  have hcap : ¬ its.toArray.size * k.toNat > (2 ^ 63 - 1) / 8 := by
    have : (sizeLine : Nat) ≤ (2 ^ 63 - 1) / 8 := by decide
    omega
  have hfit : ¬ (!Builtin.List.listFitsIndex k) = true := by
    rw [fitsIndex_both h1 h2]
    exact Bool.false_ne_true
  have hlong : ¬ Builtin.List.listTooLong (its.toArray.size * k.toNat) = true := by
    rw [notLongL hlen]
    exact Bool.false_ne_true
  have hnew : List.foldl (fun x1 x2 => x1 ++ x2) #[] (List.replicate (if its.toArray.isEmpty = true then 0 else k.toNat) its.toArray) = (List.replicate k.toNat its).flatten.toArray := by
    have f0 : ∀ m : Nat, List.foldl (fun x1 x2 => x1 ++ x2) #[] (List.replicate m its.toArray) = (List.replicate m its).flatten.toArray := fun m => by
      have := foldl_rep its m []
      rw [List.nil_append] at this
      exact this
    rw [f0]
    cases its with
    | nil => simp
    | cons a r' => rw [if_neg (by simp)]
  refine wpAny_binaryOp_repeat_ref (T := "list") (U := "int") (by decide) ⟨_, e, rfl⟩ (fun s' => typeIs_int s' k t) noFill_list_mul F.fills_int_mul F.slot_int_rmul repeat_list F.slot_int_index.lookup
    (call_meets F.slot_int_rmul (typeIs_int s k t) F.entry_int_rmul (F.args_int_rmul_2 _ _) (int___rmul___int_list k t l its.toArray n)
      ⟨e, rfl, ⟨_, e, rfl⟩, call_meets F.slot_list_mul ⟨_, e, rfl⟩ F.entry_list_mul (F.args_list_mul_2 _ _) (AutoListH.list___mul___list_int_3 l its.toArray n k t hfit hcap hlong) ⟨e, ?_⟩⟩)
  rw [hnew]
  exact ⟨.ref _, _, I.lnew (t' := s.toks) (r.rep k.toNat) (by rw [len_rep, Nat.mul_comm]; exact hz), rfl, q _ I.fresh⟩
end
section
variable {prog : Program} {w : World} {A : Around} {E : Value → Shared → Prop} {s : Shared}
end
section
variable {X : Cx}
end
end L2
namespace L2
open PySem PySem.Spec PyProof.Rows
theorem Vals.ints : ∀ {ns : List Int} {us : List Value}, Vals (ns.map V.int) us → IntsAre us ns
  | [], us, h => by
    rw [List.map_nil] at h
    cases h
    exact IntsAre.nil
  | n :: ns, us, h => by
    rw [List.map_cons] at h
    cases h with
    | cons r t =>
      obtain ⟨k, rfl⟩ := r
      exact IntsAre.cons n k (Vals.ints t)
theorem Vals.bls : ∀ {bs : List Bool} {us : List Value}, Vals (bs.map V.bl) us → us = bs.map Value.bool
  | [], us, h => by
    rw [List.map_nil] at h
    cases h
    rfl
  | b :: bs, us, h => by
    rw [List.map_cons] at h
    cases h with
    | cons r t =>
      cases r
      rw [Vals.bls t, List.map_cons]
theorem Vals.ref1 {a : Addr} {us : List Value} (r : Vals [V.ref a] us) : us = [Value.ref a] := by
  cases r with
  | cons r t =>
    cases t
    cases r
    rfl
section
variable {prog : Program} {w : World} {A : Around} {E : Value → Shared → Prop} {s : Shared} {l : Addr} {its : List Value} {ns : List Int} {Q : Value → Shared → Prop}
end
section
variable {X : Cx}
def rSum (K : PySem.W.Frag) : List V → Hp → VK → Prop := fun vs H Q => ∃ (a : Addr) (ns : List Int), vs = [V.ref a] ∧ SqL K H a (ns.map V.int) ∧ Q (.int ns.sum) H
def rMax (K : PySem.W.Frag) : List V → Hp → VK → Prop := fun vs H Q => ∃ (a : Addr) (ns : List Int), vs = [V.ref a] ∧ SqL K H a (ns.map V.int) ∧ 0 < ns.length ∧ ∀ m, m ∈ ns → (∀ y, y ∈ ns → y ≤ m) → Q (.int m) H
def rMin (K : PySem.W.Frag) : List V → Hp → VK → Prop := fun vs H Q => ∃ (a : Addr) (ns : List Int), vs = [V.ref a] ∧ SqL K H a (ns.map V.int) ∧ 0 < ns.length ∧ ∀ m, m ∈ ns → (∀ y, y ∈ ns → m ≤ y) → Q (.int m) H
def rSorted (K : PySem.W.Frag) : List V → Hp → VK → Prop := fun vs H Q => ∃ (a : Addr) (ns : List Int), vs = [V.ref a] ∧ SqL K H a (ns.map V.int) ∧ ns.length < 64 ∧
  ∀ (ns' : List Int) (p : Addr), ns'.Perm ns → ns'.Pairwise (· ≤ ·) → H p = none → Q (.ref p) (upd H p (.lst (ns'.map V.int)))
def rSortedS (K : PySem.W.Frag) : List V → Hp → VK → Prop := fun vs H Q => ∃ (a : Addr) (xs : List Str), vs = [V.ref a] ∧ SqL K H a (xs.map V.str) ∧ xs.length < 64 ∧
  ∀ (ys : List Str) (p : Addr), ys.Perm xs → sortedS ys = true → H p = none → Q (.ref p) (upd H p (.lst (ys.map V.str)))
def rSort : V → List V → Hp → VK → Prop := fun x xs H Q => ∃ (a : Addr) (ns : List Int), x = V.ref a ∧ xs = [] ∧ H a = some (.lst (ns.map V.int)) ∧ ns.length < 64 ∧
  ∀ ns' : List Int, ns'.Perm ns → ns'.Pairwise (· ≤ ·) → Q .non (upd H a (.lst (ns'.map V.int)))
end
section
variable {X : Cx}
def rIndex (K : PySem.W.Frag) : V → List V → Hp → VK → Prop := fun x xs H Q => ∃ (a : Addr) (ys : List V) (y : V) (j : Nat) (z : V), x = V.ref a ∧ xs = [y] ∧ SqL K H a ys ∧ flatV y = true ∧ ys.all flatV = true ∧ ys[j]? = some z ∧ eqV z y = true ∧
  (∀ (m : Nat) (z' : V), m < j → ys[m]? = some z' → eqV z' y = false) ∧ Q (.int (j : Nat)) H
end
section
variable {X : Cx}
end
theorem iter_any {prog : Program} {w : World} {A : Around} {E : Value → Shared → Prop} {s : Shared} {l : Addr} {items : Array Value} {Q : Value → Shared → Prop} (hl : s.heap.IsList l items)
    (h : ∀ s₂ : Shared, s₂ = { s with heap := s.heap.push { cls := .type "list_iterator", data := .fields #[.ref l, .int 0 0] } } →
      (s₂.heap.IsListIter s.heap.objs.size l 0 ∧ s₂.heap.IsList l items) → l ≠ s.heap.objs.size → Q (.ref s.heap.objs.size) s₂) : wpAny (model prog w) A (pyIter (.ref l)) Q E s := by
  have hlt : l < s.heap.objs.size := by obtain ⟨_, e, _⟩ := hl; exact Heap.lt_size e
  exact wpAny_pyIter_list hl (h _ rfl ⟨⟨_, Heap.get?_push_size _ rfl, rfl, rfl⟩, hl.push _⟩ (Nat.ne_of_lt hlt))
theorem truth_bools {prog : Program} {w : World} {A : Around} {bs : List Bool} {its : List Value} (e : its = bs.map Value.bool) :
    TruthOf prog w A (fun i v => its.toArray[i]? = some v) (fun i => bs.getD i false) := fun i v s Q E hv hq => by
  have hv' : its[i]? = some v := by simpa using hv
  rw [e, List.getElem?_map] at hv'
  obtain ⟨b, hb, rfl⟩ := Option.map_eq_some_iff.mp hv'
  have hg : bs.getD i false = b := by rw [List.getD_eq_getElem?_getD, hb] <;> rfl
  have hq' : Q (bs.getD i false) s := hq
  rw [hg] at hq'
  exact wpAny_truthy_bool hq'
theorem all_range : ∀ bs : List Bool, (List.range bs.length).all (fun i => bs.getD i false) = bs.all id
  | [] => rfl
  | b :: bs => by
    rw [List.length_cons, List.range_succ_eq_map, List.all_cons, List.all_map, List.all_cons, ← all_range bs]
    all_goals rfl
section
variable {X : Cx}
def rAny (K : PySem.W.Frag) : List V → Hp → VK → Prop := fun vs H Q => ∃ (a : Addr) (bs : List Bool), vs = [V.ref a] ∧ SqL K H a (bs.map V.bl) ∧ Q (.bl (bs.any id)) H
def rAll (K : PySem.W.Frag) : List V → Hp → VK → Prop := fun vs H Q => ∃ (a : Addr) (bs : List Bool), vs = [V.ref a] ∧ SqL K H a (bs.map V.bl) ∧ Q (.bl (bs.all id)) H
theorem cr_all (hc : X.calm = true) : CallR X (.builtin "all") (rAll X.K) := by
  intro pins s σ H vs us Q I r h
  obtain ⟨a, bs, rfl, hs, q⟩ := h
  obtain ⟨its, rv, hl, _⟩ := I.list hs
  rw [Vals.ref1 r]
  have hb := rv.bls
  refine call_all_walk (iter_any hl.isList fun s₂ e2 st hne => ?_)
  subst e2
  refine ⟨_, _, _, _, _, _, _, rfl, Walks.list (A := X.A.in1) (I.ok.hd hc) _ a hne its.toArray, st, truth_bools hb, fun h' tk hk => ?_⟩
  refine ⟨.bl _, H, I.kept fun b o eo => hk b o (fun hmem => ?_) (Heap.get?_push_of_some _ eo), ?_, q⟩
  · rcases List.mem_cons.mp hmem with e1 | hmem
    · exact absurd (e1 ▸ Heap.lt_size eo) (Nat.lt_irrefl _)
    · cases hmem
  · show Value.bool _ = Value.bool _
    rw [← all_range, hb, List.size_toArray, List.length_map]
end
mutual
inductive Dp (K : PySem.W.Frag) (H : Hp) : V → PyData → Prop
  | non : Dp K H .non .none
  | bl (b : Bool) : Dp K H (.bl b) (.bool b)
  | int (i : Int) : Dp K H (.int i) (.int i)
  | str (x : Str) : Dp K H (.str x) (.str x)
  | lst {a : Addr} {xs : List V} {ds : List PyData} : SqL K H a xs → DpAll K H xs ds → Dp K H (.ref a) (.list ds)
  | tup {a : Addr} {xs : List V} {ds : List PyData} : SqT K H a xs → DpAll K H xs ds → Dp K H (.ref a) (.tuple ds)
inductive DpAll (K : PySem.W.Frag) (H : Hp) : List V → List PyData → Prop
  | nil : DpAll K H [] []
  | cons {v : V} {vs : List V} {d : PyData} {ds : List PyData} : Dp K H v d → DpAll K H vs ds → DpAll K H (v :: vs) (d :: ds)
end
section
variable {X : Cx} {pins : List (Addr × Obj)} {σ : St} {H : Hp} {s : Shared}
mutual
theorem Dp.reads (I : Inv X pins σ H s) : ∀ (d : PyData) (v : V) (u : Value), Dp X.K H v d → RelV v u → ∃ as, Reads s.heap u d as
  | .none, _, _, h, r => by
    cases h
    cases r
    exact ⟨_, Reads.none⟩
  | .bool b, _, _, h, r => by
    cases h
    cases r
    exact ⟨_, Reads.bool b⟩
  | .int i, _, _, h, r => by
    cases h
    obtain ⟨t, rfl⟩ := r
    exact ⟨_, Reads.int i t⟩
  | .str x, _, _, h, r => by
    cases h
    obtain ⟨t, rfl⟩ := r
    exact ⟨_, Reads.str x t⟩
  | .list ds, _, _, h, r => by
    cases h with
    | lst hs ha =>
      cases r
      obtain ⟨its, rv, ⟨o, n, ho, hc, _, hd⟩, _⟩ := I.list hs
      obtain ⟨as, hr⟩ := Dp.readsAll I ds _ its ha rv
      exact ⟨_, Reads.list ho hc hd hr⟩
  | .tuple ds, _, _, h, r => by
    cases h with
    | tup hs ha =>
      cases r
      obtain ⟨its, rv, ⟨o, ho, hc, n, hd⟩, _⟩ := I.tuple hs
      obtain ⟨as, hr⟩ := Dp.readsAll I ds _ its ha rv
      exact ⟨_, Reads.tuple ho hc hd hr⟩
  | .dict _, _, _, h, _ => by cases h
theorem Dp.readsAll (I : Inv X pins σ H s) : ∀ (ds : List PyData) (vs : List V) (us : List Value), DpAll X.K H vs ds → Vals vs us → ∃ as, ReadsAll s.heap us ds as
  | [], _, _, h, r => by
    cases h
    cases r
    exact ⟨_, ReadsAll.nil⟩
  | d :: ds, _, _, h, r => by
    cases h with
    | cons h1 h2 =>
      cases r with
      | cons r1 r2 =>
        obtain ⟨as, q1⟩ := Dp.reads I d _ _ h1 r1
        obtain ⟨bs, q2⟩ := Dp.readsAll I ds _ _ h2 r2
        exact ⟨_, ReadsAll.cons q1 q2⟩
end
end
section
variable {X : Cx}
def rEqD (K : PySem.W.Frag) : R2 := fun x y H Q => ∃ d e, Dp K H x d ∧ Dp K H y e ∧ SeqAt.shaped d = true ∧ SeqAt.shaped e = true ∧ Q (.bl (PyData.eqv d e)) H
def rNeD (K : PySem.W.Frag) : R2 := fun x y H Q => ∃ d e, Dp K H x d ∧ Dp K H y e ∧ SeqAt.shaped d = true ∧ SeqAt.shaped e = true ∧ Q (.bl (!PyData.eqv d e)) H
theorem op_eqD (hu : X.A.units + 64 < cLine) : OpR X (compareOp .Eq) (rEqD X.K) := by
  intro pins s σ H x y v u Q I rx ry h
  obtain ⟨d, e, hd, he, sd, se, q⟩ := h
  obtain ⟨as, r1⟩ := Dp.reads I d x v hd rx
  obtain ⟨bs, r2⟩ := Dp.reads I e y u he ry
  exact SeqAt.compareEq_shaped r1 r2 sd se hu ⟨.bl _, H, I, rfl, q⟩
theorem op_neD (hu : X.A.units + 64 < cLine) : OpR X (compareOp .NotEq) (rNeD X.K) := by
  intro pins s σ H x y v u Q I rx ry h
  obtain ⟨d, e, hd, he, sd, se, q⟩ := h
  obtain ⟨as, r1⟩ := Dp.reads I d x v hd rx
  obtain ⟨bs, r2⟩ := Dp.reads I e y u he ry
  exact SeqAt.compareNe_shaped r1 r2 sd se hu ⟨.bl _, H, I, rfl, q⟩
end
end L2
namespace L2
open PySem PySem.Spec PyProof.Rows
abbrev CellAt (h : Heap) (c : Addr) (v : Option Value) : Prop := h.IsCell c v
def relS (scope sc : Scope) : Scope :=
  { scope with names := scope.names.map fun (n, k) => if (k == .free && sc.kind == .function && sc.names.lookup n == some .cell) then (n, .cell) else (n, k) }
def cloFrom (cells : List (Str × Addr)) : List (Str × NameKind) → List (Str × Addr) → List (Str × Addr)
  | [], acc => acc
  | (n, k) :: r, acc => if k == .free then cloFrom cells r ((n, (cells.lookup n).getD 0) :: acc) else cloFrom cells r acc
theorem closure_loop (env : Env) (f : Str × NameKind → List (Str × Addr) → Sem (ForInStep (List (Str × Addr))))
    (hf : ∀ n k c, f (n, k) c = if k == .free then (do let a ← cellOf env n; pure (.yield ((n, a) :: c))) else pure (.yield c)) :
    ∀ (names : List (Str × NameKind)) (acc : List (Str × Addr)), (∀ y ∈ names, y.2 = .free → ∃ c, env.cells.lookup y.1 = some c) → forIn names acc f = pure (cloFrom env.cells names acc)
  | [], acc, _ => by rw [List.forIn_nil]; rfl
  | (n, k) :: r, acc, h => by
    rw [List.forIn_cons, hf]
    have ih := fun acc => closure_loop env f hf r acc fun y hy => h y (List.mem_cons_of_mem _ hy)
    unfold cloFrom
    by_cases hk : (k == NameKind.free) = true
    · rw [if_pos hk, if_pos hk]
      obtain ⟨c, hc⟩ := h (n, k) List.mem_cons_self (by simpa using hk)
      have e : cellOf env n = pure c := by unfold cellOf; rw [hc]
      rw [e]
      have e2 : (env.cells.lookup n).getD 0 = c := by rw [hc]; rfl
      rw [e2]
      exact ih _
    · rw [if_neg hk, if_neg hk]
      exact ih _
theorem closure_ok {scope : Scope} {env : Env} (h : ∀ y ∈ scope.names, y.2 = .free → ∃ c, env.cells.lookup y.1 = some c) : closureFor scope env = pure (cloFrom env.cells scope.names []) := by
  simp only [closureFor]
  rw [closure_loop env _ (fun n k c => rfl) scope.names [] h]
  rfl
theorem mem_lookup {α : Type} : ∀ {l : List (Str × α)} {n : Str} {c : α}, (n, c) ∈ l → ∃ c', l.lookup n = some c'
  | (k, v) :: r, n, c, h => by
    rw [List.lookup_cons]
    cases hb : n == k with
    | true => exact ⟨_, rfl⟩
    | false =>
      rcases List.mem_cons.mp h with e | h
      · cases e; simp at hb
      · exact mem_lookup h
theorem cloFrom_mem {cells : List (Str × Addr)} : ∀ {names : List (Str × NameKind)} {acc : List (Str × Addr)} {n : Str} {c : Addr}, (n, c) ∈ cloFrom cells names acc → (n, c) ∈ acc ∨ ((n, .free) ∈ names ∧ c = (cells.lookup n).getD 0)
  | [], _, _, _, h => .inl h
  | (m, k) :: r, acc, n, c, h => by
    unfold cloFrom at h
    split at h
    · rename_i hk
      have hk : k = .free := by simpa using hk
      rcases cloFrom_mem h with h | ⟨h1, h2⟩
      · rcases List.mem_cons.mp h with e | h
        · cases e; exact .inr ⟨hk ▸ List.mem_cons_self, rfl⟩
        · exact .inl h
      · exact .inr ⟨List.mem_cons_of_mem _ h1, h2⟩
    · rcases cloFrom_mem h with h | ⟨h1, h2⟩
      · exact .inl h
      · exact .inr ⟨List.mem_cons_of_mem _ h1, h2⟩
theorem cloFrom_acc {cells : List (Str × Addr)} : ∀ {names : List (Str × NameKind)} {acc : List (Str × Addr)} {p : Str × Addr}, p ∈ acc → p ∈ cloFrom cells names acc
  | [], _, _, h => h
  | (m, k) :: r, acc, p, h => by
    unfold cloFrom
    split
    · exact cloFrom_acc (List.mem_cons_of_mem _ h)
    · exact cloFrom_acc h
theorem cloFrom_has {cells : List (Str × Addr)} : ∀ {names : List (Str × NameKind)} {acc : List (Str × Addr)} {n : Str}, (n, .free) ∈ names → (n, (cells.lookup n).getD 0) ∈ cloFrom cells names acc
  | (m, k) :: r, acc, n, h => by
    unfold cloFrom
    rcases List.mem_cons.mp h with e | h
    · cases e
      exact cloFrom_acc List.mem_cons_self
    · split
      · exact cloFrom_has h
      · exact cloFrom_has h
theorem cells_mem : ∀ {names : List (Str × NameKind)} {h : Heap} {acc : List (Str × Addr)} {x : Str} {c : Addr}, (x, c) ∈ cellsFrom h.objs.size names acc →
    (x, c) ∈ acc ∨ ((x, .cell) ∈ names ∧ h.objs.size ≤ c ∧ CellAt (pushCells h names) c none)
  | [], _, _, _, _, h => .inl h
  | (n, k) :: r, h, acc, x, c, hm => by
    unfold cellsFrom at hm
    unfold pushCells
    split at hm
    · rename_i hk
      rw [if_pos hk]
      have hk : k = .cell := by simpa using hk
      rw [← Heap.size_push h { cls := .type "cell", data := .cell none }] at hm
      rcases cells_mem hm with hm | ⟨h1, h2, h3⟩
      · rcases List.mem_cons.mp hm with e | hm
        · cases e
          exact .inr ⟨hk ▸ List.mem_cons_self, Nat.le_refl _, _, pushCells_keeps r _ _ _ (Heap.get?_push_size _ rfl), rfl⟩
        · exact .inl hm
      · rw [Heap.size_push] at h2
        exact .inr ⟨List.mem_cons_of_mem _ h1, Nat.le_of_succ_le h2, h3⟩
    · rename_i hk
      rw [if_neg hk]
      rcases cells_mem hm with hm | ⟨h1, h2, h3⟩
      · exact .inl hm
      · exact .inr ⟨List.mem_cons_of_mem _ h1, h2, h3⟩
theorem cells_acc : ∀ {names : List (Str × NameKind)} {n : Nat} {acc : List (Str × Addr)} {p : Str × Addr}, p ∈ acc → p ∈ cellsFrom n names acc
  | [], _, _, _, h => h
  | (m, k) :: r, n, acc, p, h => by
    unfold cellsFrom
    split
    · exact cells_acc (List.mem_cons_of_mem _ h)
    · exact cells_acc h
theorem cells_has : ∀ {names : List (Str × NameKind)} {n : Nat} {acc : List (Str × Addr)} {x : Str}, (x, .cell) ∈ names → ∃ c, (x, c) ∈ cellsFrom n names acc
  | (m, k) :: r, n, acc, x, h => by
    unfold cellsFrom
    rcases List.mem_cons.mp h with e | h
    · cases e
      exact ⟨n, cells_acc List.mem_cons_self⟩
    · split
      · exact cells_has h
      · exact cells_has h
theorem cells_inj : ∀ {names : List (Str × NameKind)} {h : Heap} {acc : List (Str × Addr)} {x y : Str} {c : Addr}, (∀ p ∈ acc, p.2 < h.objs.size) → (∀ x y c, (x, c) ∈ acc → (y, c) ∈ acc → x = y) →
    (x, c) ∈ cellsFrom h.objs.size names acc → (y, c) ∈ cellsFrom h.objs.size names acc → x = y
  | [], _, _, _, _, _, _, hi, h1, h2 => hi _ _ _ h1 h2
  | (n, k) :: r, h, acc, x, y, c, hl, hi, h1, h2 => by
    unfold cellsFrom at h1 h2
    split at h1
    · rename_i hk
      rw [if_pos hk] at h2
      rw [← Heap.size_push h { cls := .type "cell", data := .cell none }] at h1 h2
      refine cells_inj (h := h.push _) (fun p hp => ?_) (fun x y c a b => ?_) h1 h2
      · rw [Heap.size_push]
        rcases List.mem_cons.mp hp with rfl | hp
        · exact Nat.lt_succ_self _
        · exact Nat.lt_succ_of_lt (hl p hp)
      · rcases List.mem_cons.mp a with e | a <;> rcases List.mem_cons.mp b with e' | b
        · cases e; cases e'; rfl
        · cases e; exact absurd (hl _ b) (Nat.lt_irrefl _)
        · cases e'; exact absurd (hl _ a) (Nat.lt_irrefl _)
        · exact hi _ _ _ a b
    · rename_i hk
      rw [if_neg hk] at h2
      exact cells_inj hl hi h1 h2
theorem newEnv_comp {M : Model} {A : Around} {E : Value → Shared → Prop} {s : Shared} {scope : Scope} {globals : Addr} {closure : List (Str × Addr)} {qual : Str} {func : Option Addr} {code : Value} {around : Env} {builtins : Addr} {Q : Env → Shared → Prop}
    (h : Q (newEnv scope s.heap.objs.size globals (cellsFrom (s.heap.objs.size + 1) scope.names closure) qual func code (some around) builtins)
      { s with heap := pushCells (s.heap.push { cls := .type "dict", data := .dict #[] }) scope.names }) :
    wpAny M A (newFunctionEnv scope globals closure [] qual func code (some around) builtins) Q E s := by
  simp only [newFunctionEnv, Option.isSome_some, if_true]
  refine wpAny_bind (wpAny_alloc ?_)
  refine wpAny_bind (wpAny_layCells _ (fun n k c => rfl) scope.names closure _ _ ?_)
  rw [show ({ s with heap := s.heap.push { cls := .type "dict", data := .dict #[] } } : Shared).heap.objs.size = s.heap.objs.size + 1 from Heap.size_push ..]
  rw [List.forIn_nil]
  exact wpAny_bind (wpAny_pure (wpAny_pure h))
theorem lookup_relS {sc : Scope} : ∀ {names : List (Str × NameKind)} {x : Str} {k : NameKind},
    (names.map fun (n, k) => if (k == NameKind.free && sc.kind == .function && sc.names.lookup n == some .cell) then (n, NameKind.cell) else (n, k)).lookup x = some k →
    ∃ k', names.lookup x = some k' ∧ (k = k' ∨ (k' = .free ∧ k = .cell))
  | [], _, _, h => by simp at h
  | (n, k₀) :: r, x, k, h => by
    have ih := @lookup_relS sc r x k
    have h' : List.lookup x ((if (k₀ == NameKind.free && sc.kind == .function && sc.names.lookup n == some .cell) = true then (n, NameKind.cell) else (n, k₀)) :: (r.map _)) = some k := h
    cases hx : x == n with
    | true =>
      simp only [List.lookup_cons, hx]
      by_cases hc : (k₀ == NameKind.free && sc.kind == .function && sc.names.lookup n == some .cell) = true
      · rw [if_pos hc] at h'
        simp only [List.lookup_cons, hx] at h'
        cases h'
        simp only [Bool.and_eq_true, beq_iff_eq] at hc
        exact ⟨k₀, rfl, .inr ⟨hc.1.1, rfl⟩⟩
      · rw [if_neg hc] at h'
        simp only [List.lookup_cons, hx] at h'
        cases h'
        exact ⟨_, rfl, .inl rfl⟩
    | false =>
      simp only [List.lookup_cons, hx]
      by_cases hc : (k₀ == NameKind.free && sc.kind == .function && sc.names.lookup n == some .cell) = true
      · rw [if_pos hc] at h'
        simp only [List.lookup_cons, hx] at h'
        exact ih h'
      · rw [if_neg hc] at h'
        simp only [List.lookup_cons, hx] at h'
        exact ih h'
structure BlkOk (N : List Str) (sc scope : Scope) (own : List (Str × Nat)) : Prop where
  kind : scope.kind = .function
  uniq : ∀ y ∈ scope.names, scope.names.lookup y.1 = some y.2
  ix : ∀ p ∈ own, N[p.2]? = some p.1
  free : ∀ y ∈ scope.names, y.2 = .free → sc.names.lookup y.1 = some .cell ∨ sc.names.lookup y.1 = some .free
  own : ∀ y ∈ scope.names, y.2 = .local ∨ y.2 = .cell → y.1 ∈ own.map (·.1) ∨ y.1 ∉ N
def wipe (σ : St) : List Nat → St
  | [] => σ
  | v :: vs => (wipe σ vs).set v none
theorem wipe_length (σ : St) : ∀ vs : List Nat, (wipe σ vs).length = σ.length
  | [] => rfl
  | v :: vs => by unfold wipe; rw [List.length_set, wipe_length σ vs]
theorem wipe_some {σ : St} {i : Nat} {x : V} : ∀ {vs : List Nat}, (wipe σ vs)[i]? = some (some x) → σ[i]? = some (some x) ∧ i ∉ vs
  | [], h => ⟨h, by simp⟩
  | v :: vs, h => by
    unfold wipe at h
    by_cases hi : v = i
    · subst hi
      by_cases hv : v < (wipe σ vs).length
      · rw [List.getElem?_set_self hv] at h; cases h
      · rw [List.getElem?_eq_none (by simpa using hv)] at h; cases h
    · rw [List.getElem?_set_ne hi] at h
      obtain ⟨h1, h2⟩ := wipe_some h
      exact ⟨h1, by simp only [List.mem_cons, not_or]; exact ⟨fun e => hi e.symm, h2⟩⟩
abbrev Cx.blk (X : Cx) (s : Shared) (H : Hp) (scope : Scope) (cenv : Env) (fp : List Addr) : Cx := { X with s_0 := s, H_0 := H, env := cenv, outer := X.stack, ex := fp, fn := fun x => scope.names.lookup x == some .cell, pn := [], xe := fun _ _ => False }
section
variable {X : Cx} {pins : List (Addr × Obj)} {σ : St} {H : Hp} {s : Shared}
theorem block_start {scope : Scope} {own : List (Str × Nat)} {fp : List Addr} (I : Inv X pins σ H s) (ok : BlkOk X.N X.env.scope scope own) (hN : X.N.Nodup) (hfp : ∀ b ∈ fp, FpOk X pins H b ∧ b < s.heap.objs.size) :
    Inv (X.blk s H scope (compEnvC scope (cellsFrom (s.heap.objs.size + 1) scope.names (cloFrom X.env.cells scope.names [])) s.heap.objs.size X.env) fp) [] (wipe σ (own.map (·.2))) H { s with heap := pushCells (s.heap.push { cls := .type "dict", data := .dict #[] }) scope.names } := by
  have hfree : ∀ y ∈ scope.names, y.2 = .free → ∃ c, X.env.cells.lookup y.1 = some c := fun y hy e => by
    rcases ok.free y hy e with k | k
    · exact I.ok.has _ (.inl k)
    · exact I.ok.has _ (.inr k)
  generalize hcenv : compEnvC scope (cellsFrom (s.heap.objs.size + 1) scope.names (cloFrom X.env.cells scope.names [])) s.heap.objs.size X.env = cenv
  have kp : ∀ b o, s.heap.get? b = some o → (pushCells (s.heap.push { cls := .type "dict", data := .dict #[] }) scope.names).get? b = some o := fun b o e => pushCells_keeps _ _ _ _ (Heap.get?_push_of_some _ e)
  have hL : cenv.locals = s.heap.objs.size := by rw [← hcenv]; rfl
  have hcl : cenv.cells = cellsFrom (s.heap.objs.size + 1) scope.names (cloFrom X.env.cells scope.names []) := by rw [← hcenv]; rfl
  have hsc : cenv.scope = relS scope X.env.scope := by rw [← hcenv]; rfl
  rw [← Heap.size_push s.heap { cls := .type "dict", data := .dict #[] }] at hcl
  have cm : ∀ {y c}, (y, c) ∈ cloFrom X.env.cells scope.names [] → X.env.cells.lookup y = some c ∧ c < s.heap.objs.size := fun {y c} hm => by
    rcases cloFrom_mem hm with hm | ⟨h1, rfl⟩
    · cases hm
    · obtain ⟨c, hc⟩ := hfree _ h1 rfl
      rw [hc]
      obtain ⟨w, z⟩ := I.cell _ _ hc
      exact ⟨rfl, z.lt⟩
  have mem : ∀ {y c}, cenv.cells.lookup y = some c → (X.env.cells.lookup y = some c ∧ c < s.heap.objs.size) ∨ (s.heap.objs.size + 1 ≤ c ∧ CellAt (pushCells (s.heap.push { cls := .type "dict", data := .dict #[] }) scope.names) c none) := fun {y c} e => by
    rw [hcl] at e
    rcases cells_mem (PySem.mem_of_lookup e) with hm | ⟨_, h2, h3⟩
    · exact .inl (cm hm)
    · rw [Heap.size_push] at h2; exact .inr ⟨h2, h3⟩
  have look : ∀ {y}, scope.names.lookup y = some .free → ∃ c, cenv.cells.lookup y = some c ∧ X.env.cells.lookup y = some c := fun {y} hl => by
    have hy : (y, NameKind.free) ∈ scope.names := PySem.mem_of_lookup hl
    obtain ⟨c', e'⟩ := mem_lookup (cells_acc (names := scope.names) (n := (s.heap.push { cls := .type "dict", data := .dict #[] }).objs.size) (cloFrom_has (cells := X.env.cells) (acc := []) hy))
    rw [← hcl] at e'
    refine ⟨c', e', ?_⟩
    rw [hcl] at e'
    rcases cells_mem (PySem.mem_of_lookup e') with hm | ⟨h1, _, _⟩
    · exact (cm hm).1
    · have := ok.uniq _ h1
      rw [hl] at this; cases this
  have okB : (X.blk s H scope cenv fp).Ok := by
    refine ⟨I.ok.mod, by show cenv.scope.kind = _; rw [hsc]; exact ok.kind, by show cenv.globals = _; rw [← hcenv]; exact I.ok.glob, by show cenv.builtins = _; rw [← hcenv]; exact I.ok.blt, by show s.heap.objs.size ≤ cenv.locals; rw [hL]; exact Nat.le_refl _,
      fun y z c e1 e2 => ?_, fun y hy => ?_, fun y c z e => ?_, I.ok.hd, I.ok.frames, .inl rfl, fun b hb => ⟨?_, fun y c e z => ?_⟩, I.bs, Nat.le_trans I.ok.bsz I.sz, fun b o e hb => ?_, fun b hb z => ?_, I.stack, I.stkFree⟩
    · have e1 : cenv.cells.lookup y = some c := e1
      have e2 : cenv.cells.lookup z = some c := e2
      rw [hcl] at e1 e2
      refine cells_inj (fun p hp => ?_) (fun y z c a b => I.ok.inj y z c (cm a).1 (cm b).1) (PySem.mem_of_lookup e1) (PySem.mem_of_lookup e2)
      rw [Heap.size_push]
      exact Nat.lt_succ_of_lt (cm (y := p.1) (c := p.2) hp).2
    · show ∃ c, cenv.cells.lookup y = some c
      have key : ∀ k, cenv.kindOf y = some k → (k = .cell ∨ k = .free) → ∃ c, cenv.cells.lookup y = some c := fun k hk hk' => by
        unfold Env.kindOf at hk
        rw [hsc] at hk
        obtain ⟨k', e, r⟩ := lookup_relS hk
        have : k' = .cell ∨ k' = .free := by
          rcases r with rfl | ⟨rfl, _⟩
          · exact hk'
          · exact .inr rfl
        rcases this with rfl | rfl
        · obtain ⟨c, hm⟩ := cells_has (n := (s.heap.push { cls := .type "dict", data := .dict #[] }).objs.size) (acc := cloFrom X.env.cells scope.names []) (PySem.mem_of_lookup e)
          obtain ⟨c', e'⟩ := mem_lookup hm
          exact ⟨c', by rw [hcl]; exact e'⟩
        · obtain ⟨c, h1, _⟩ := look e
          exact ⟨c, h1⟩
      rcases hy with hy | hy
      · exact key _ hy (.inl rfl)
      · exact key _ hy (.inr rfl)
    · have z : (scope.names.lookup y == some NameKind.cell) = true := z
      have z : scope.names.lookup y = some .cell := by simpa using z
      have e : cenv.cells.lookup y = some c := e
      rw [hcl] at e
      rcases cells_mem (PySem.mem_of_lookup e) with hm | ⟨_, h2, _⟩
      · rcases cloFrom_mem hm with hm | ⟨h1, _⟩
        · cases hm
        · have q := ok.uniq _ h1
          rw [z] at q; cases q
      · rw [Heap.size_push] at h2
        exact Nat.le_of_succ_le h2
    · show b ≠ cenv.locals
      rw [hL]; exact Nat.ne_of_lt (hfp b hb).2
    · have e : cenv.cells.lookup y = some c := e
      rcases mem e with ⟨h1, _⟩ | ⟨h1, _⟩
      · exact (hfp b hb).1.2.2.2.2.1 y c h1 z
      · have h2 : s.heap.objs.size + 1 ≤ b := by rw [← z]; exact h1
        exact absurd (Nat.lt_of_lt_of_le (hfp b hb).2 (Nat.le_of_succ_le h2)) (Nat.lt_irrefl _)
    · rcases (hfp b hb).1.2.2.2.1 with z | z
      · exact I.ok.noex b o e z
      · exact absurd (Nat.lt_of_lt_of_le (Heap.lt_size e) (Nat.le_trans I.ok.bsz z)) (Nat.lt_irrefl _)
    · rcases List.mem_cons.mp (I.stkSub b z) with z | z
      · exact (hfp b hb).1.2.1 z
      · exact (hfp b hb).1.2.2.1 z
  refine ⟨okB, rfl, I.bare, Un.kept kp, ⟨fun _ => none, ?_, fun i y av e1 e2 e3 => ?_⟩, fun y c e => ?_, ?_, fun y c e => ?_, fun p hp => ?_, I.hok.kept kp, by rw [wipe_length]; exact I.len⟩
  · show Heap.Ns _ cenv.locals _
    rw [hL]
    exact Heap.Ns.keeps (Heap.Ns.new ..) fun b o e => pushCells_keeps _ _ _ _ e
  · obtain ⟨e2, hne⟩ := wipe_some e2
    have hfr : scope.names.lookup y = some .free ∧ (cenv.kindOf y = some .cell ∨ cenv.kindOf y = some .free) := by
      have key : ∀ k, cenv.scope.names.lookup y = some k → k = .local ∨ k = .cell ∨ k = .free → scope.names.lookup y = some .free ∧ (cenv.kindOf y = some .cell ∨ cenv.kindOf y = some .free) := fun k hk hk' => by
        have hk0 := hk
        rw [hsc] at hk
        obtain ⟨k', e, r⟩ := lookup_relS hk
        have no : ¬ (k' = .local ∨ k' = .cell) := fun hh => by
          rcases ok.own _ (PySem.mem_of_lookup e) hh with e' | e'
          · obtain ⟨p, hp, hpy⟩ := List.mem_map.mp e'
            have e3 := ok.ix p hp
            have : p.1 = y := hpy
            rw [this] at e3
            exact hne (List.mem_map.mpr ⟨p, hp, nodup_ix hN e3 e1⟩)
          · exact e' (List.mem_of_getElem? e1)
        rcases r with rfl | ⟨rfl, rfl⟩
        · rcases hk' with rfl | rfl | rfl
          · exact absurd (.inl rfl) no
          · exact absurd (.inr rfl) no
          · exact ⟨e, .inr hk0⟩
        · exact ⟨e, .inl hk0⟩
      have e3 : Vis cenv.scope y := e3
      rcases e3 with e3 | e3 | e3
      · exact key _ e3 (.inl rfl)
      · exact key _ e3 (.inr (.inl rfl))
      · exact key _ e3 (.inr (.inr rfl))
    obtain ⟨m, hn, hl⟩ := I.loc
    have hvis : Vis X.env.scope y := (ok.free _ (PySem.mem_of_lookup hfr.1) rfl).elim (fun k => .inr (.inl k)) (fun k => .inr (.inr k))
    obtain ⟨w, r, q⟩ := hl i y av e1 e2 hvis
    refine ⟨w, r, .inr ⟨hfr.2, ?_⟩⟩
    obtain ⟨c, h1, h2⟩ := look hfr.1
    rcases q with ⟨k, _⟩ | ⟨_, c', e', z⟩
    · have k : X.env.scope.names.lookup y = some .local := k
      rcases ok.free _ (PySem.mem_of_lookup hfr.1) rfl with k' | k' <;> rw [show X.env.scope.names.lookup y = _ from k'] at k <;> cases k
    · rw [h2] at e'; cases e'
      exact ⟨c, h1, z.keeps kp⟩
  · have e : cenv.cells.lookup y = some c := e
    rcases mem e with ⟨h1, _⟩ | ⟨_, z⟩
    · obtain ⟨w, z⟩ := I.cell y c h1
      exact ⟨w, z.keeps kp⟩
    · exact ⟨_, z⟩
  · show H cenv.locals = none
    rw [hL]; exact I.hok.fresh (Nat.le_refl _)
  · have e : cenv.cells.lookup y = some c := e
    rcases mem e with ⟨h1, _⟩ | ⟨h1, _⟩
    · exact I.freeC y c h1
    · exact I.hok.fresh (Nat.le_of_succ_le h1)
  · exact absurd (show p ∈ ([] : List (Addr × Obj)) ++ [] from hp) (by simp)
theorem app_ok {E : Value → Shared → Prop} {D : Addr} {xs : List V} {y : V} {v : Value} {Q : Value → Shared → Prop} (I : Inv X pins σ H s) (hD : H D = some (.lst xs)) (hz : xs.length < sizeLine) (r : RelV y v)
    (h : ∀ s', Inv X pins σ (upd H D (.lst (xs ++ [y]))) s' → Q .none s') : wpAny (model X.prog X.w) X.A (call (.builtin "list.append") [.ref D, v]) Q E s := by
  obtain ⟨hz', its, n, ri, e⟩ := I.hok D _ hD
  have hl := ri.length
  refine append_at (hsz := by rw [List.size_toArray]; omega) e fun h' sb ho' => ?_
  refine h { s with heap := h' } (I.write (t' := s.toks) (by rw [hD]; trivial) (.inl rfl) (fun b u hb q => (sb.2 b hb).trans q) ⟨_, ho'⟩ ⟨by rw [List.length_append]; exact hz, its ++ [v], n + 1, ri.append (.cons r .nil), ?_⟩)
  rw [ho']
  simp
def PTs (X : Cx) (ifs : List Expr) (t : TT) : Prop :=
  ∀ (pins : List (Addr × Obj)) (s : Shared) (σ : St) (H : Hp) (Q : Bool → Hp → Prop), Inv X pins σ H s → t σ H Q →
    wpAny (model X.prog X.w) X.A (forIn ifs true fun c r => if r = true then do let ok ← isTrue c X.env (eval c X.env); pure (ForInStep.yield ok) else pure (ForInStep.yield r)) (TP X pins σ Q) X.xe s
def tYes : TT := fun _ H Q => Q true H
theorem pts_nil : PTs X [] tYes := fun _ _ _ H _ I h => wpAny_tests_nil ⟨H, I, h⟩
theorem pts_one {c : Expr} {t : TT} (h : PT X c t) : PTs X [c] t := fun pins s σ H Q I hw => wpAny_tests_one (h pins s σ H Q I hw)
end
theorem thnF {α : Type} {t : Sem α} {Q Q' : α → Shared → Prop} {M : Model} {A : Around} {E : Value → Shared → Prop} {s : Shared} (h : wpAny M A t Q (fun _ _ => False) s) (hQ : ∀ a s, Q a s → Q' a s) : wpAny M A t Q' E s := wpAny_mono h hQ fun _ _ z => False.elim z
theorem compLoop_any {prog : Program} {w : World} {A : Around} {R : Result → Shared → Prop} {s : Shared} {elt target iter : Expr} {ifs : List Expr} {scope : Scope} {pos : Pos} {it acc : Value} {env : Env} (I : Nat → Shared → Prop)
    (turn : ∀ n s, I n s → wpAny (model prog w) A (pyNext it) (fun r s₁ => match r with
      | none => R (.ok .next) s₁
      | some v => wpAny (model prog w) A (letOwnedTupleGo target it v) (fun _ s₁' => wpAny (model prog w) A (assign target env v) (fun _ s₂ =>
          wpAny (model prog w) A (forIn ifs true fun c r => if r = true then do let ok ← isTrue c env (eval c env); pure (ForInStep.yield ok) else pure (ForInStep.yield r)) (fun ok s₃ =>
            if ok = true then wpAny (model prog w) A (eval elt env) (fun x s₄ =>
              wpAny (model prog w) A (call (.builtin "list.append") [acc, x]) (fun _ s₅ => ∃ m, m < n ∧ I m s₅) (notedBy (model prog w) A env fun e s' => R (.error e) s') s₄) (notedBy (model prog w) A env fun e s' => R (.error e) s') s₃
            else ∃ m, m < n ∧ I m s₃) (notedBy (model prog w) A env fun e s' => R (.error e) s') s₂) (notedBy (model prog w) A env fun e s' => R (.error e) s') s₁') (notedBy (model prog w) A env fun e s' => R (.error e) s') s₁) (notedBy (model prog w) A env fun e s' => R (.error e) s') s)
    (n : Nat) (h : I n s) :
    codeAny (model prog w) A (.compLoop (.ListComp elt [⟨target, iter, ifs, 0⟩] scope pos) 0 it acc env) R s := by
  refine codeAny_loop rfl I (fun n s hI => ?_) n h
  show wpAny _ A ((compTurn (.ListComp elt [⟨target, iter, ifs, 0⟩] scope pos) 0 it acc env).onRaise (fun x => do noteFrame x env; theTreesLotGoes x)) _ _ s
  refine wpAny_noted ?_
  rw [compTurn_list]
  refine wpAny_bind (wpAny_standAt (wpAny_bind (wpAny_mono (turn n s hI) (fun r s₁ h₁ => ?_) fun _ _ h' => h')))
  cases r with
  | none => exact wpAny_pure h₁
  | some v =>
    refine wpAny_bind (wpAny_mono h₁ (fun _ s₁' h₁' => ?_) fun _ _ h' => h')
    refine wpAny_bind (wpAny_mono h₁' (fun _ s₂ h₂ => wpAny_bind (wpAny_mono h₂ (fun ok s₃ h₃ => ?_) fun _ _ h' => h')) fun _ _ h' => h')
    cases ok with
    | false => exact wpAny_pure ⟨rfl, h₃⟩
    | true =>
      exact wpAny_bind (wpAny_bind (wpAny_mono h₃ (fun x s₄ h₄ => wpAny_bind (wpAny_mono h₄ (fun _ s₅ h₅ => wpAny_pure (wpAny_pure ⟨rfl, h₅⟩)) fun _ _ h' => h')) fun _ _ h' => h'))
section
variable {X : Cx}
def tLc (wi : TI) (g : TG) (tt : TT) (te : TE) (vs : List Nat) : TE := fun σ H Q => wi σ H fun J H1 => ∀ D, H1 D = none → ∃ W : Nat → Nat → Hp → Prop, (∃ m, W 0 m (upd H1 D (.lst []))) ∧ ∀ i m H, W i m H →
  (J.stop i H ∧ Q (.ref D) H) ∨ (J.go i H ∧ ∃ Nx : Hp → Prop, (∀ H', Nx H' → ∃ m', m' < m ∧ W (i + 1) m' H') ∧ ∀ x H', J.yld i H x H' → g x (wipe σ vs) H' fun σ2 H2 => wipe σ2 vs = wipe σ vs ∧ tt σ2 H2 fun b H3 =>
    if b = true then te σ2 H3 fun y H4 => ∃ acc, H4 D = some (.lst acc) ∧ acc.length < sizeLine ∧ Nx (upd H4 D (.lst (acc ++ [y]))) else Nx H3)
theorem lc_core {pins : List (Addr × Obj)} {s : Shared} {σ : St} {H : Hp} {Q : VK} {elt tg iter : Expr} {ifs : List Expr} {scope : Scope} {own : List (Str × Nat)} {pos pos' : Pos} {wi : TI} {g : TG} {tt : TT} {te : TE} {use : Option (Value → Sem Unit)} {Qf : Value → Shared → Prop}
    (hc : X.calm = true) (hN : X.N.Nodup) (I : Inv X pins σ H s) (hi : PI X tg iter wi) (ok : BlkOk X.N X.env.scope scope own)
    (hg : ∀ (s : Shared) (H : Hp) (C : Addr) (cl : List (Str × Addr)) (fp : List Addr), PG (X.blk s H scope (compEnvC scope cl C X.env) fp) tg g) (ht : ∀ (s : Shared) (H : Hp) (C : Addr) (cl : List (Str × Addr)) (fp : List Addr), PTs (X.blk s H scope (compEnvC scope cl C X.env) fp) ifs tt)
    (he : ∀ (s : Shared) (H : Hp) (C : Addr) (cl : List (Str × Addr)) (fp : List Addr), PE (X.blk s H scope (compEnvC scope cl C X.env) fp) elt te) (hs : ∀ x, foldedSetIterable iter X.env x = pure x)
    (h : tLc wi g tt te (own.map (·.2)) σ H Q)
    (hRR : ∀ D C s' m H', Inv X pins σ H' s' → Q (.ref D) H' → s'.heap.Ns C m → FpOk X pins H' C → compPost (model X.prog X.w) X.A X.xe use Qf (.ref D) C (.ok .next) s') :
    wpAny (model X.prog X.w) X.A (comprehension (.ListComp elt [⟨tg, iter, ifs, 0⟩] scope pos) scope X.env pos' (newList []) false (eval iter X.env) use) Qf X.xe s := by
  have hfree : ∀ y ∈ scope.names, y.2 = .free → ∃ c, X.env.cells.lookup y.1 = some c := fun y hy e => by
    rcases ok.free y hy e with k | k
    · exact I.ok.has _ (.inl k)
    · exact I.ok.has _ (.inr k)
  refine wpAny_comprehension_free (use := use) rfl hs (closure_ok hfree) ok.kind (fun y hy e => by rw [ok.uniq y hy, e])
    (thn (hi pins s σ H _ I h) fun xv s1 hx => thn hx fun itv s2 h2 => ?_)
  obtain ⟨it, fp, tn, J, H2, e, I2, T, st2, f2, q⟩ := h2
  subst e
  refine wpAny_newObj_type (newEnv_comp ?_) (by show 0 ≤ sizeLine; decide)
  generalize hD : s2.heap.objs.size = D
  have hDn : H2 D = none := I2.hok.fresh (Nat.le_of_eq hD)
  obtain ⟨W, ⟨m0, w0⟩, turn⟩ := q D hDn
  -- the new list
  generalize hs3 : ({ s2 with heap := s2.heap.push { cls := .type "list", data := .seq ([] : List Value).toArray } } : Shared) = s3
  have I3 : Inv X pins σ (upd H2 D (.lst [])) s3 := by
    rw [← hs3]
    refine I2.laid (t' := s2.toks) (fun b o e => Heap.get?_push_of_some _ e) (Nat.le_of_eq hD) ⟨Nat.zero_le _, [], 0, .nil, ?_⟩
    rw [← hD]
    exact Heap.get?_push_size _ rfl
  have h3 : s3.heap = s2.heap.push { cls := .type "list", data := .seq ([] : List Value).toArray } := by rw [← hs3]
  have sz : ∀ b ∈ fp, b < s2.heap.objs.size := fun b hb => by
    obtain ⟨o, e, _⟩ := T.obj _ _ st2 b hb
    exact Heap.lt_size e
  have f3 : ∀ b ∈ fp, FpOk X pins (upd H2 D (.lst [])) b ∧ b < s3.heap.objs.size := fun b hb => by
    have hlt := sz b hb
    refine ⟨⟨?_, (f2 b hb).2⟩, by rw [h3, Heap.size_push]; exact Nat.lt_succ_of_lt hlt⟩
    rw [upd_ne (by rw [← hD]; exact Nat.ne_of_lt hlt)]
    exact (f2 b hb).1
  have st3 : tn 0 s3.heap := T.keep _ _ _ st2 fun b _ o e => by rw [h3]; exact Heap.get?_push_of_some _ e
  have I4 := block_start I3 ok hN f3
  have pg := hg s3 (upd H2 D (.lst [])) s3.heap.objs.size (cellsFrom (s3.heap.objs.size + 1) scope.names (cloFrom X.env.cells scope.names [])) fp
  have pt := ht s3 (upd H2 D (.lst [])) s3.heap.objs.size (cellsFrom (s3.heap.objs.size + 1) scope.names (cloFrom X.env.cells scope.names [])) fp
  have pe := he s3 (upd H2 D (.lst [])) s3.heap.objs.size (cellsFrom (s3.heap.objs.size + 1) scope.names (cloFrom X.env.cells scope.names [])) fp
  show codeAny _ _ (.compStart (.ListComp elt [⟨tg, iter, ifs, 0⟩] scope pos) 0 (.ref it) (.ref D) (compEnvC scope (cellsFrom (s3.heap.objs.size + 1) scope.names (cloFrom X.env.cells scope.names [])) s3.heap.objs.size X.env)) (compPost (model X.prog X.w) X.A X.xe use Qf (.ref D) s3.heap.objs.size) { s3 with heap := pushCells (s3.heap.push { cls := .type "dict", data := .dict #[] }) scope.names }
  have nfp : ∀ b ∈ fp, (upd H2 D (.lst [])) b = none := fun b hb => (f3 b hb).1.1
  generalize hce : compEnvC scope (cellsFrom (s3.heap.objs.size + 1) scope.names (cloFrom X.env.cells scope.names [])) s3.heap.objs.size X.env = ce at I4 pg pt pe ⊢
  have cL : ce.locals = s3.heap.objs.size := by subst hce; rfl
  generalize hH3 : upd H2 D (.lst []) = H3 at I3 I4 pg pt pe w0 nfp f3
  generalize hs4 : ({ s3 with heap := pushCells (s3.heap.push { cls := .type "dict", data := .dict #[] }) scope.names } : Shared) = s4 at I4 ⊢
  have st4 : tn 0 s4.heap := T.keep _ _ _ st3 fun b _ o e => by rw [← hs4]; exact pushCells_keeps _ _ _ _ (Heap.get?_push_of_some _ e)
  have stat : ∀ {σ' : St} {H' : Hp} {s' : Shared}, Inv (X.blk s3 H3 scope ce fp) [] σ' H' s' → (∀ b ∈ fp, H' b = none) → ∀ b ∈ fp, FpOk (X.blk s3 H3 scope ce fp) [] H' b := fun {σ' H' s'} I' hn b hb =>
    ⟨hn b hb, (I'.ok.exf b hb).1, I'.ok.exfs b hb, .inl hb, fun x c e => (I'.ok.exf b hb).2 x c e, fun p hp => absurd (show p ∈ ([] : List (Addr × Obj)) ++ [] from hp) (by simp)⟩
  have loop : codeAny (model X.prog X.w) X.A (.compLoop (.ListComp elt [⟨tg, iter, ifs, 0⟩] scope pos) 0 (.ref it) (.ref D) ce) (compPost (model X.prog X.w) X.A X.xe use Qf (.ref D) s3.heap.objs.size) s4 := by
    refine compLoop_any (fun n s' => ∃ i H', Inv (X.blk s3 H3 scope ce fp) [] (wipe σ (own.map (·.2))) H' s' ∧ tn i s'.heap ∧ (∀ b ∈ fp, H' b = none) ∧ W i n H') ?_ m0 ⟨0, H3, I4, st4, nfp, w0⟩
    rintro n s5 ⟨i, H5, I5, st5, n5, w5⟩
    rcases turn i n H5 w5 with ⟨stop, qq⟩ | ⟨go, Nx, hNx, step⟩
    · have td := T.done (X.blk s3 H3 scope ce fp) rfl rfl rfl hc i [] s5 _ H5 (fun _ _ => False) I5 (stat I5 n5) st5 stop
      refine thnF td fun r s6 ⟨hr, I6⟩ => ?_
      subst hr
      -- back in the def's context
      have I7 : Inv X pins σ H5 s6 := I3.call' (ch := fp) I6.os I6.base I6.hok I6.bare fun b hb => ⟨(f3 b hb).1.2.2.2.1, (f3 b hb).1.2.1, (f3 b hb).1.2.2.2.2.1, (f3 b hb).1.2.2.2.2.2⟩
      have nC : H5 s3.heap.objs.size = none := by
        have z : H5 ce.locals = none := I6.free
        rw [cL] at z
        exact z
      obtain ⟨m, hn, _⟩ := I6.loc
      have hn : s6.heap.Ns ce.locals m := hn
      rw [cL] at hn
      exact hRR D s3.heap.objs.size s6 m H5 I7 qq hn (I3.fpOk (Nat.le_refl _) nC)
    · have ti := T.item (X.blk s3 H3 scope ce fp) rfl rfl rfl hc i [] s5 _ H5 (fun _ _ => False) I5 (stat I5 n5) st5 go
      refine thnF ti fun r s6 ⟨u, hr, h6⟩ => ?_
      subst hr
      refine thnF h6 fun _ s7 ⟨x, H7, I7, r7, y7, st7, n7⟩ => ?_
      have I7' := I7.pinned (stat I7 n7) (T.obj _ _ st7)
      refine thnF (pg _ s7 _ H7 x u _ I7' r7 (step x H7 y7)) fun _ s8 ⟨σ8, H8, I8, hw8, q8⟩ => ?_
      refine thnF (pt _ s8 σ8 H8 _ I8 q8) fun b s9 ⟨H9, I9, q9⟩ => ?_
      -- the turn's end
      have fin : ∀ {s' : Shared} {H' : Hp}, Inv (X.blk s3 H3 scope ce fp) ([] ++ pinsAt fp s7.heap) σ8 H' s' → Nx H' → ∃ m, m < n ∧ ∃ i H', Inv (X.blk s3 H3 scope ce fp) [] (wipe σ (own.map (·.2))) H' s' ∧ tn i s'.heap ∧ (∀ b ∈ fp, H' b = none) ∧ W i m H' := fun {s' H'} I' nx => by
        obtain ⟨m', hm, w'⟩ := hNx H' nx
        have pin' : ∀ b ∈ fp, ∀ o, s7.heap.get? b = some o → s'.heap.get? b = some o ∧ H' b = none := fun b hb o e =>
          let z := I'.pin (b, o) (List.mem_append_right _ (List.mem_append_right _ (mem_pinsAt hb e)))
          ⟨z.1, z.2.1⟩
        have hl : (wipe σ (own.map (·.2))).length = σ8.length := by rw [← hw8, wipe_length]
        refine ⟨m', hm, i + 1, H', (I'.unpinned (pins := [])).weak hl (fun j v e => ?_), T.keep _ _ _ st7 fun b hb o e => (pin' b hb o e).1, fun b hb => ?_, w'⟩
        · rw [← hw8] at e
          exact (wipe_some e).1
        · obtain ⟨o, e, _⟩ := T.obj _ _ st7 b hb
          exact (pin' b hb o e).2
      cases b with
      | false =>
        simp only [Bool.false_eq_true, if_false] at q9 ⊢
        exact fin I9 q9
      | true =>
        simp only [if_true] at q9 ⊢
        refine thnF (pe _ s9 σ8 H9 _ I9 q9) fun z s10 ⟨yv, H10, I10, r10, acc, hD10, hz10, nx⟩ => ?_
        exact app_ok (X := X.blk s3 H3 scope ce fp) I10 hD10 hz10 r10 fun s11 I11 => fin I11 nx
  exact codeAny_compStart_list loop (T.self X.A 0 _ _ _ st4 loop)
theorem pe_lc {elt tg iter : Expr} {ifs : List Expr} {scope : Scope} {own : List (Str × Nat)} {pos : Pos} {wi : TI} {g : TG} {tt : TT} {te : TE} (hc : X.calm = true) (hN : X.N.Nodup) (hi : PI X tg iter wi) (ok : BlkOk X.N X.env.scope scope own)
    (hg : ∀ (s : Shared) (H : Hp) (C : Addr) (cl : List (Str × Addr)) (fp : List Addr), PG (X.blk s H scope (compEnvC scope cl C X.env) fp) tg g) (ht : ∀ (s : Shared) (H : Hp) (C : Addr) (cl : List (Str × Addr)) (fp : List Addr), PTs (X.blk s H scope (compEnvC scope cl C X.env) fp) ifs tt)
    (he : ∀ (s : Shared) (H : Hp) (C : Addr) (cl : List (Str × Addr)) (fp : List Addr), PE (X.blk s H scope (compEnvC scope cl C X.env) fp) elt te) (hs : ∀ x, foldedSetIterable iter X.env x = pure x := by intro _; rfl) :
    PE X (.ListComp elt [⟨tg, iter, ifs, 0⟩] scope pos) (tLc wi g tt te (own.map (·.2))) := by
  intro pins s σ H Q I h
  rw [eval_ListComp]
  refine lc_core hc hN I hi ok hg ht he hs h fun D C s' m H' I' q hn f => ⟨m, hn, fun h'' sb => ?_⟩
  obtain ⟨f0, f1, f2, f3, f4, f5⟩ := f
  exact ⟨.ref D, H', I'.turned (t' := s'.toks) (fun b o hb e => (sb.2 b hb).trans e) f0 f1 f3 f4 f5, rfl, q⟩
theorem ps_setLc {i : Nat} {y : Str} {py : Pos} {elt tg iter : Expr} {ifs : List Expr} {scope : Scope} {own : List (Str × Nat)} {pos spos : Pos} {wi : TI} {g : TG} {tt : TT} {te : TE} (hc : X.calm = true) (hN : X.N.Nodup) (hy : X.N[i]? = some y) (hyl : X.env.scope.names.lookup y = some .local)
    (hsw : swapsWith (.ListComp elt [⟨tg, iter, ifs, 0⟩] scope pos) (some (.Name y py)) spos.line X.env = pure true) (hi : PI X tg iter wi) (ok : BlkOk X.N X.env.scope scope own)
    (hg : ∀ (s : Shared) (H : Hp) (C : Addr) (cl : List (Str × Addr)) (fp : List Addr), PG (X.blk s H scope (compEnvC scope cl C X.env) fp) tg g) (ht : ∀ (s : Shared) (H : Hp) (C : Addr) (cl : List (Str × Addr)) (fp : List Addr), PTs (X.blk s H scope (compEnvC scope cl C X.env) fp) ifs tt)
    (he : ∀ (s : Shared) (H : Hp) (C : Addr) (cl : List (Str × Addr)) (fp : List Addr), PE (X.blk s H scope (compEnvC scope cl C X.env) fp) elt te) (hs : ∀ x, foldedSetIterable iter X.env x = pure x := by intro _; rfl) :
    PS X (.Assign [.Name y py] (.ListComp elt [⟨tg, iter, ifs, 0⟩] scope pos) spos) (tAsg (tLc wi g tt te (own.map (·.2))) (gName i)) := by
  intro pins s σ H D I h
  rw [exec_Assign_Name_used _ _ _ _ hsw]
  refine wpAny_bind (wpAny_standAt (wpAny_bind ?_))
  show wpAny _ X.A (do let _ ← comprehension (.ListComp elt [⟨tg, iter, ifs, 0⟩] scope pos) scope X.env (firstIterPos [⟨tg, iter, ifs, 0⟩] pos) (newList []) false (eval iter X.env) (some (assign (.Name y py) X.env))) _ _ s
  have h : tLc wi g tt te (own.map (·.2)) σ H (fun x H1 => gName i x σ H1 D.nx) := h
  refine wpAny_bind (thn (lc_core (Qf := fun _ s' => SP X pins D .next s') hc hN I hi ok hg ht he hs h fun L C s' m H' I' q hn f => ?_) fun _ s' hq => wpAny_pure (wpAny_pure hq))
  show wpAny _ _ (assign (.Name y py) X.env (.ref L)) _ _ _
  refine wpAny_assign_Name (store_ok2 (v := V.ref L) I' hN hy (.inl hyl) rfl (fun s2 I2 ⟨a, sb, ha⟩ => ?_) (.inr hyl))
  obtain ⟨f0, f1, f2, f3, f4, f5⟩ := f
  have haC : C ≠ a := by
    rcases ha with z | z
    · rw [z]; exact f1
    · exact fun e => f4 y a z e.symm
  refine ⟨m, hn.sameBut sb haC, fun h3 sb3 => ?_⟩
  exact ⟨_, H', I2.turned (t' := s2.toks) (fun b o hb e => (sb3.2 b hb).trans e) f0 f1 f3 f4 f5, q⟩
theorem sw_true {elt : Expr} {gs : List Comprehension} {scope : Scope} {pos py : Pos} {y : Str} {l : Nat} {env : Env} (hk : env.scope.kind = .function) (hy : env.scope.names.lookup y = some .local) (hl : (py.line == pos.line) = true)
    (ha : (scope.names.any fun (n, k) => n == y && (k == .local || k == .cell)) = false) : swapsWith (.ListComp elt gs scope pos) (some (.Name y py)) l env = pure true := by
  have ky : env.kindOf y = some .local := hy
  have hb : env.blockKind = .function := by unfold Env.blockKind; rw [hk]; rfl
  unfold swapsWith
  simp only [hb, ky, ha, Expr.pos, hl]
  rfl
end
theorem lc_range {lo : Int} {n : Nat} {g : TG} {tt : TT} {te : TE} {vs : List Nat} {σ : St} {H1 : Hp} {D : Addr} {Qd : Hp → Prop} (Pv : Nat → Hp → Prop) (h0 : Pv 0 (upd H1 D (.lst [])))
    (hs : ∀ i H, i < n → Pv i H → g (.int (lo + i)) (wipe σ vs) H fun σ2 H2 => wipe σ2 vs = wipe σ vs ∧ tt σ2 H2 fun b H3 =>
      if b = true then te σ2 H3 fun y H4 => ∃ acc, H4 D = some (.lst acc) ∧ acc.length < sizeLine ∧ Pv (i + 1) (upd H4 D (.lst (acc ++ [y]))) else Pv (i + 1) H3) (hd : ∀ H, Pv n H → Qd H) :
    ∃ W : Nat → Nat → Hp → Prop, (∃ m, W 0 m (upd H1 D (.lst []))) ∧ ∀ i m H, W i m H →
      ((Itr lo n).stop i H ∧ Qd H) ∨ ((Itr lo n).go i H ∧ ∃ Nx : Hp → Prop, (∀ H', Nx H' → ∃ m', m' < m ∧ W (i + 1) m' H') ∧ ∀ x H', (Itr lo n).yld i H x H' → g x (wipe σ vs) H' fun σ2 H2 => wipe σ2 vs = wipe σ vs ∧ tt σ2 H2 fun b H3 =>
        if b = true then te σ2 H3 fun y H4 => ∃ acc, H4 D = some (.lst acc) ∧ acc.length < sizeLine ∧ Nx (upd H4 D (.lst (acc ++ [y]))) else Nx H3) := by
  refine ⟨fun i m H => m = n - i ∧ i ≤ n ∧ Pv i H, ⟨n, by simp, Nat.zero_le _, h0⟩, ?_⟩
  rintro i m H ⟨rfl, hi, p⟩
  by_cases hlt : i < n
  · refine .inr ⟨hlt, Pv (i + 1), fun H' p' => ⟨n - (i + 1), by omega, rfl, hlt, p'⟩, fun x H' y => ?_⟩
    obtain ⟨e, y⟩ := y
    subst e y
    exact hs i _ hlt p
  · have e : i = n := by omega
    subst e
    exact .inl ⟨Nat.le_refl _, hd H p⟩
theorem lc_list {K : PySem.W.Frag} {a : Addr} {xs : List V} {g : TG} {tt : TT} {te : TE} {vs : List Nat} {σ : St} {H1 : Hp} {D : Addr} {Qd : Hp → Prop} (Pv : Nat → Hp → Prop) (h0 : Pv 0 (upd H1 D (.lst []))) (hl : ∀ i H, i ≤ xs.length → Pv i H → SqL K H a xs)
    (hs : ∀ i x H, xs[i]? = some x → Pv i H → g x (wipe σ vs) H fun σ2 H2 => wipe σ2 vs = wipe σ vs ∧ tt σ2 H2 fun b H3 =>
      if b = true then te σ2 H3 fun y H4 => ∃ acc, H4 D = some (.lst acc) ∧ acc.length < sizeLine ∧ Pv (i + 1) (upd H4 D (.lst (acc ++ [y]))) else Pv (i + 1) H3) (hd : ∀ H, Pv xs.length H → Qd H) :
    ∃ W : Nat → Nat → Hp → Prop, (∃ m, W 0 m (upd H1 D (.lst []))) ∧ ∀ i m H, W i m H →
      ((Itl K a).stop i H ∧ Qd H) ∨ ((Itl K a).go i H ∧ ∃ Nx : Hp → Prop, (∀ H', Nx H' → ∃ m', m' < m ∧ W (i + 1) m' H') ∧ ∀ x H', (Itl K a).yld i H x H' → g x (wipe σ vs) H' fun σ2 H2 => wipe σ2 vs = wipe σ vs ∧ tt σ2 H2 fun b H3 =>
        if b = true then te σ2 H3 fun y H4 => ∃ acc, H4 D = some (.lst acc) ∧ acc.length < sizeLine ∧ Nx (upd H4 D (.lst (acc ++ [y]))) else Nx H3) := by
  refine ⟨fun i m H => m = xs.length - i ∧ i ≤ xs.length ∧ Pv i H, ⟨xs.length, by simp, Nat.zero_le _, h0⟩, ?_⟩
  rintro i m H ⟨rfl, hi, p⟩
  have q := hl i H hi p
  by_cases hlt : i < xs.length
  · refine .inr ⟨⟨xs, xs[i], q, by simp [hlt]⟩, Pv (i + 1), fun H' p' => ⟨xs.length - (i + 1), by omega, rfl, hlt, p'⟩, fun x H' y => ?_⟩
    obtain ⟨e, y⟩ := y
    subst e
    exact hs i x _ (y xs q) p
  · have e : i = xs.length := by omega
    subst e
    exact .inl ⟨⟨xs, q, Nat.le_refl _⟩, hd H p⟩
theorem lc_tup {K : PySem.W.Frag} {a : Addr} {xs : List V} {g : TG} {tt : TT} {te : TE} {vs : List Nat} {σ : St} {H1 : Hp} {D : Addr} {Qd : Hp → Prop} (Pv : Nat → Hp → Prop) (h0 : Pv 0 (upd H1 D (.lst []))) (hl : ∀ i H, i ≤ xs.length → Pv i H → SqT K H a xs)
    (hs : ∀ i x H, xs[i]? = some x → Pv i H → g x (wipe σ vs) H fun σ2 H2 => wipe σ2 vs = wipe σ vs ∧ tt σ2 H2 fun b H3 =>
      if b = true then te σ2 H3 fun y H4 => ∃ acc, H4 D = some (.lst acc) ∧ acc.length < sizeLine ∧ Pv (i + 1) (upd H4 D (.lst (acc ++ [y]))) else Pv (i + 1) H3) (hd : ∀ H, Pv xs.length H → Qd H) :
    ∃ W : Nat → Nat → Hp → Prop, (∃ m, W 0 m (upd H1 D (.lst []))) ∧ ∀ i m H, W i m H →
      ((Itt K a).stop i H ∧ Qd H) ∨ ((Itt K a).go i H ∧ ∃ Nx : Hp → Prop, (∀ H', Nx H' → ∃ m', m' < m ∧ W (i + 1) m' H') ∧ ∀ x H', (Itt K a).yld i H x H' → g x (wipe σ vs) H' fun σ2 H2 => wipe σ2 vs = wipe σ vs ∧ tt σ2 H2 fun b H3 =>
        if b = true then te σ2 H3 fun y H4 => ∃ acc, H4 D = some (.lst acc) ∧ acc.length < sizeLine ∧ Nx (upd H4 D (.lst (acc ++ [y]))) else Nx H3) := by
  refine ⟨fun i m H => m = xs.length - i ∧ i ≤ xs.length ∧ Pv i H, ⟨xs.length, by simp, Nat.zero_le _, h0⟩, ?_⟩
  rintro i m H ⟨rfl, hi, p⟩
  have q := hl i H hi p
  by_cases hlt : i < xs.length
  · refine .inr ⟨⟨xs, xs[i], q, by simp [hlt]⟩, Pv (i + 1), fun H' p' => ⟨xs.length - (i + 1), by omega, rfl, hlt, p'⟩, fun x H' y => ?_⟩
    obtain ⟨e, y⟩ := y
    subst e
    exact hs i x _ (y xs q) p
  · have e : i = xs.length := by omega
    subst e
    exact .inl ⟨⟨xs, q, Nat.le_refl _⟩, hd H p⟩
def blkC (N : List Str) (sc scope : Scope) (own : List (Str × Nat)) : Bool :=
  (match scope.kind with | .function => true | _ => false) && (scope.names.all fun y => decide (scope.names.lookup y.1 = some y.2)) && (own.all fun p => decide (N[p.2]? = some p.1)) &&
    (scope.names.all fun y => match y.2 with
      | .free => (match sc.names.lookup y.1 with | some .cell => true | some .free => true | _ => false)
      | .local => decide (y.1 ∈ own.map (·.1)) || decide (y.1 ∉ N)
      | .cell => decide (y.1 ∈ own.map (·.1)) || decide (y.1 ∉ N)
      | _ => true)
theorem blkOk_by {N : List Str} {sc scope : Scope} {own : List (Str × Nat)} (h : blkC N sc scope own = true) : BlkOk N sc scope own := by
  unfold blkC at h
  simp only [Bool.and_eq_true, List.all_eq_true, decide_eq_true_eq] at h
  obtain ⟨⟨⟨h1, h2⟩, h3⟩, h4⟩ := h
  refine ⟨?_, h2, h3, fun y hy e => ?_, fun y hy e => ?_⟩
  · split at h1
    · assumption
    · cases h1
  · have q := h4 y hy
    simp only [e] at q
    split at q <;> first | exact .inl (by assumption) | exact .inr (by assumption) | cases q
  · have q := h4 y hy
    rcases e with e | e <;> (simp only [e, Bool.or_eq_true, decide_eq_true_eq] at q; exact q)
end L2
namespace L2
open PySem PySem.Spec PyProof.Rows
section
variable {prog : Program} {w : World} {A : Around} {R : Result → Shared → Prop} {s : Shared} {elt t0 i0 t1 i1 : Expr} {ifs0 ifs1 : List Expr} {scope : Scope} {pos : Pos} {it acc : Value} {env : Env}
end
section
variable {X : Cx}
def tLc2 (wi : TI) (g : TG) (tt : TT) (wi1 : TI) (g1 : TG) (tt1 : TT) (te : TE) (vs vs1 : List Nat) : TE := fun σ H Q => wi σ H fun J H1 => ∀ D, H1 D = none → ∃ W : Nat → Nat → Hp → Prop, (∃ m, W 0 m (upd H1 D (.lst []))) ∧ ∀ i m H, W i m H →
  (J.stop i H ∧ Q (.ref D) H) ∨ (J.go i H ∧ ∃ Nx : Hp → Prop, (∀ H', Nx H' → ∃ m', m' < m ∧ W (i + 1) m' H') ∧ ∀ x H', J.yld i H x H' → g x (wipe σ vs) H' fun σ2 H2 => wipe σ2 vs = wipe σ vs ∧ tt σ2 H2 fun b H3 =>
    if b = true then wi1 σ2 H3 fun J1 H4 => ∃ W1 : Nat → Nat → Hp → Prop, (∃ m, W1 0 m H4) ∧ ∀ j k H, W1 j k H →
      (J1.stop j H ∧ Nx H) ∨ (J1.go j H ∧ ∃ Nx1 : Hp → Prop, (∀ H', Nx1 H' → ∃ k', k' < k ∧ W1 (j + 1) k' H') ∧ ∀ x H', J1.yld j H x H' → g1 x (wipe σ2 vs1) H' fun σ3 H5 => wipe σ3 vs1 = wipe σ2 vs1 ∧ tt1 σ3 H5 fun b H6 =>
        if b = true then te σ3 H6 fun y H7 => ∃ acc, H7 D = some (.lst acc) ∧ acc.length < sizeLine ∧ Nx1 (upd H7 D (.lst (acc ++ [y]))) else Nx1 H6)
    else Nx H3)
end
end L2
namespace L2
open PySem PySem.Spec PyProof.Rows
section
variable {κ : Type} [DecidableEq κ]
def valV (kvs : List (κ × V)) (k : κ) : Option V := (kvs.find? fun kv => decide (kv.1 = k)).map (·.2)
def putK (kvs : List (κ × V)) (k : κ) (v : V) : List (κ × V) :=
  if (kvs.any fun kv => decide (kv.1 = k)) = true then kvs.map (fun kv => if kv.1 = k then (kv.1, v) else kv) else kvs ++ [(k, v)]
def dropK (kvs : List (κ × V)) (k : κ) : List (κ × V) := kvs.filter fun kv => decide (kv.1 ≠ k)
theorem valV_pos {p : κ × V} {r : List (κ × V)} {k : κ} (e : p.1 = k) : valV (p :: r) k = some p.2 := by simp [valV, List.find?_cons, e]
theorem valV_neg {p : κ × V} {r : List (κ × V)} {k : κ} (e : ¬ p.1 = k) : valV (p :: r) k = valV r k := by simp [valV, List.find?_cons, e]
theorem valV_any (k : κ) : ∀ kvs : List (κ × V), (kvs.any fun kv => decide (kv.1 = k)) = (valV kvs k).isSome
  | [] => rfl
  | p :: r => by
    rw [List.any_cons]
    by_cases e : p.1 = k
    · simp only [valV_pos e, decide_eq_true e, Bool.true_or, Option.isSome_some]
    · rw [valV_neg e, decide_eq_false e, Bool.false_or]; exact valV_any k r
theorem length_putK (kvs : List (κ × V)) (k : κ) (v : V) : (putK kvs k v).length ≤ kvs.length + 1 := by
  unfold putK
  split
  · rw [List.length_map]; omega
  · rw [List.length_append, List.length_cons, List.length_nil]; omega
theorem RelO.isSome_eq {o : Option V} {u : Option Value} (r : RelO o u) : o.isSome = u.isSome := by
  cases o with
  | none => cases u with
    | none => rfl
    | some _ => exact (show False from r).elim
  | some _ => cases u with
    | none => exact (show False from r).elim
    | some _ => rfl
theorem KV.val {kvs : List (κ × V)} {vs : List (κ × Value)} (r : KV kvs vs) (k : κ) : RelO (valV kvs k) (valueAt vs k) := by
  unfold KV at r
  induction r with
  | nil => exact True.intro
  | @cons p q ps qs h t ih =>
    obtain ⟨h1, h2⟩ := h
    by_cases e : p.1 = k
    · have e' : q.1 = k := h1.symm.trans e
      have b : valueAt (q :: qs) k = some q.2 := by simp [valueAt, List.find?_cons, e']
      rw [valV_pos e, b]; exact h2
    · have e' : ¬ q.1 = k := fun z => e (h1.trans z)
      have b : valueAt (q :: qs) k = valueAt qs k := by simp [valueAt, List.find?_cons, e']
      rw [valV_neg e, b]; exact ih
theorem KV.any {kvs : List (κ × V)} {vs : List (κ × Value)} (r : KV kvs vs) (k : κ) : (kvs.any fun kv => decide (kv.1 = k)) = vs.any fun kv => decide (kv.1 = k) := by
  unfold KV at r
  induction r with
  | nil => rfl
  | cons h t ih => rw [List.any_cons, List.any_cons, ih, h.1]
theorem KV.repl {kvs : List (κ × V)} {vs : List (κ × Value)} (r : KV kvs vs) (k : κ) {y : V} {u : Value} (ry : RelV y u) :
    KV (kvs.map fun kv => if kv.1 = k then (kv.1, y) else kv) (vs.map fun kv => if kv.1 = k then (kv.1, u) else kv) := by
  unfold KV at r ⊢
  induction r with
  | nil => exact .nil
  | @cons p q ps qs h t ih =>
    rw [List.map_cons, List.map_cons]
    refine .cons ?_ ih
    obtain ⟨h1, h2⟩ := h
    by_cases e : p.1 = k
    · rw [if_pos e, if_pos (h1.symm.trans e)]; exact ⟨h1, ry⟩
    · rw [if_neg e, if_neg (fun z => e (h1.trans z))]; exact ⟨h1, h2⟩
theorem KV.put {kvs : List (κ × V)} {vs : List (κ × Value)} (r : KV kvs vs) (k : κ) {y : V} {u : Value} (ry : RelV y u) : KV (putK kvs k y) (stored vs k u) := by
  unfold putK stored
  rw [r.any k]
  by_cases e : (vs.any fun kv => decide (kv.1 = k)) = true
  · rw [if_pos e, if_pos e]; exact r.repl k ry
  · rw [if_neg e, if_neg e]; exact Paired.snoc r ⟨rfl, ry⟩
theorem KV.length {kvs : List (κ × V)} {vs : List (κ × Value)} (r : KV kvs vs) : kvs.length = vs.length := Paired.length r
end
theorem kV_is {P : Program} {w : World} {k : Key} {u : Value} (r : RelV (kV k) u) : (mixKind P w).is k u = true := by
  cases k with
  | inl i => obtain ⟨t, e⟩ := (show ∃ t, u = Value.int i t from r); subst e; exact mixKind_int P w i t
  | inr x => obtain ⟨t, e⟩ := (show ∃ t, u = Value.str x t from r); subst e; exact mixKind_str P w x t
theorem kV_inj {a b : Key} (e : kV a = kV b) : a = b := by
  cases a with
  | inl i => cases b with
    | inl j => have e' : V.int i = V.int j := e; injection e' with e'; rw [e']
    | inr y => exact nomatch (show V.int i = V.str y from e)
  | inr x => cases b with
    | inl j => exact nomatch (show V.str x = V.int j from e)
    | inr y => have e' : V.str x = V.str y := e; injection e' with e'; rw [e']
theorem items_are {P : Program} {w : World} : ∀ {ks : List Key} {us : List Value}, Vals (ks.map kV) us → ItemsAre (mixKind P w) ks us
  | [], _, r => by rw [List.map_nil] at r; cases r; exact .nil
  | k :: ks, _, r => by
    rw [List.map_cons] at r
    cases r with
    | cons h t => exact .cons (kV_is h) (items_are t)
abbrev KT (H : Hp) : List (List Key × V) → List (List Key × Addr × Value) → Prop := Paired fun p q => p.1 = q.1 ∧ H q.2.1 = some (.tup (p.1.map kV)) ∧ RelV p.2 q.2.2
theorem KT.val {H : Hp} {kvs : List (List Key × V)} {xs : List (List Key × Addr × Value)} (r : KT H kvs xs) (k : List Key) : RelO (valV kvs k) ((atKey xs k).map (·.2)) := by
  induction r with
  | nil => exact True.intro
  | @cons p q ps qs h t ih =>
    obtain ⟨h1, _, h2⟩ := h
    by_cases e : p.1 = k
    · have e' : q.1 = k := h1.symm.trans e
      have b : atKey (q :: qs) k = some q.2 := by simp [atKey, List.find?_cons, e']
      rw [valV_pos e, b]; exact h2
    · have e' : ¬ q.1 = k := fun z => e (h1.trans z)
      have b : atKey (q :: qs) k = atKey qs k := by simp [atKey, List.find?_cons, e']
      rw [valV_neg e, b]; exact ih
theorem KT.repl {H : Hp} {kvs : List (List Key × V)} {xs : List (List Key × Addr × Value)} (r : KT H kvs xs) (k : List Key) {y : V} {u : Value} (ry : RelV y u) :
    KT H (kvs.map fun kv => if kv.1 = k then (kv.1, y) else kv) (xs.map (putAt k u)) := by
  induction r with
  | nil => exact .nil
  | @cons p q ps qs h t ih =>
    rw [List.map_cons, List.map_cons]
    refine .cons ?_ ih
    obtain ⟨h1, h2, h3⟩ := h
    unfold putAt
    by_cases e : p.1 = k
    · rw [if_pos e, if_pos (h1.symm.trans e)]; exact ⟨h1, h2, ry⟩
    · rw [if_neg e, if_neg (fun z => e (h1.trans z))]; exact ⟨h1, h2, h3⟩
theorem KT.put {H : Hp} {kvs : List (List Key × V)} {xs : List (List Key × Addr × Value)} (r : KT H kvs xs) (k : List Key) {b : Addr} {y : V} {u : Value} (hb : H b = some (.tup (k.map kV))) (ry : RelV y u) :
    KT H (putK kvs k y) (storedH xs k b u) := by
  have e : (kvs.any fun kv => decide (kv.1 = k)) = (atKey xs k).isSome := by
    rw [valV_any, (r.val k).isSome_eq, Option.isSome_map]
  unfold putK storedH
  rw [e]
  by_cases q : (atKey xs k).isSome = true
  · rw [if_pos q, if_pos q]; exact r.repl k ry
  · rw [if_neg q, if_neg q]; exact Paired.snoc r ⟨rfl, hb, ry⟩
theorem KT.keeps {H H' : Hp} {kvs : List (List Key × V)} {xs : List (List Key × Addr × Value)} (r : KT H kvs xs) (ht : ∀ b ys, H b = some (.tup ys) → H' b = some (.tup ys)) : KT H' kvs xs :=
  Paired.mapP r fun _ _ z => ⟨z.1, ht _ _ z.2.1, z.2.2⟩
section
variable {P : Program} {w : World} {H : Hp} {h : Heap} {a : Addr}
theorem rd_of {u : HO} (ok : HOk P w H h) (e : Rd H a u) : ObjOk P w H h a u := e.ok ok
theorem dk_rd {kvs : List (Key × V)} (ok : HOk P w H h) (e : Rd H a (.dK kvs)) : kvs.length ≤ sizeLine ∧ (a == sysModules) = false ∧ ∃ vs, KV kvs vs ∧ h.DictOf (mixKind P w) a vs :=
  show ObjOk P w H h a (.dK kvs) from rd_of ok e
theorem dk_of {kvs : List (Key × V)} (ok : HOk P w H h) (e : H a = some (.dK kvs)) : kvs.length ≤ sizeLine ∧ (a == sysModules) = false ∧ ∃ vs, KV kvs vs ∧ h.DictOf (mixKind P w) a vs := dk_rd ok (.inl e)
theorem key_of {ks : List Key} (ok : HOk P w H h) (e : H a = some (.tup (ks.map kV))) : (tupleKind (mixKind P w)).is h ks a := by
  obtain ⟨_, its, r, o, h1, h2, n, h3⟩ := (show ObjOk P w H h a (.tup (ks.map kV)) from ok a _ e)
  exact ⟨o, its.toArray, n, h1, h2, h3, by simpa using items_are r⟩
theorem dt_rd {kvs : List (List Key × V)} (ok : HOk P w H h) (e : Rd H a (.dT kvs)) : kvs.length ≤ sizeLine ∧ (a == sysModules) = false ∧
    ∃ xs, KT H kvs xs ∧ h.DictOfH (tupleKind (mixKind P w)) a xs := by
  obtain ⟨z, y, xs, r, o, es, ep, h1, h2, h3, h4, h5⟩ := (show ObjOk P w H h a (.dT kvs) from rd_of ok e)
  refine ⟨z, y, xs, r, o, es, ep, h1, h2, h3, h4, fun x hx => ?_, h5⟩
  have all : ∀ {l : List (List Key × V)} {m : List (List Key × Addr × Value)}, KT H l m → ∀ x ∈ m, (tupleKind (mixKind P w)).is h x.1 x.2.1 := by
    intro l m q
    induction q with
    | nil => intro x hx; exact nomatch hx
    | @cons p q ps qs hq t ih =>
      intro x hx
      rcases List.mem_cons.mp hx with e | hx
      · subst e
        exact key_of ok (by rw [← hq.1]; exact hq.2.1)
      · exact ih x hx
  exact all r x hx
theorem dt_of {kvs : List (List Key × V)} (ok : HOk P w H h) (e : H a = some (.dT kvs)) : kvs.length ≤ sizeLine ∧ (a == sysModules) = false ∧
    ∃ xs, KT H kvs xs ∧ h.DictOfH (tupleKind (mixKind P w)) a xs := dt_rd ok (.inl e)
end
def DGet (H : Hp) (a : Addr) (y : V) (r : Option V) : Prop :=
  (∃ kvs k, Rd H a (.dK kvs) ∧ y = kV k ∧ r = valV kvs k) ∨ ∃ kvs k b, Rd H a (.dT kvs) ∧ y = .ref b ∧ H b = some (.tup (k.map kV)) ∧ r = valV kvs k
def DPut (H : Hp) (a : Addr) (y v : V) (H' : Hp) : Prop :=
  (∃ kvs k, H a = some (.dK kvs) ∧ y = kV k ∧ kvs.length < sizeLine ∧ H' = upd H a (.dK (putK kvs k v))) ∨
  ∃ kvs k b, H a = some (.dT kvs) ∧ y = .ref b ∧ H b = some (.tup (k.map kV)) ∧ kvs.length < sizeLine ∧ H' = upd H a (.dT (putK kvs k v))
theorem DGet.k {H : Hp} {a : Addr} {kvs : List (Key × V)} {k : Key} (e : H a = some (.dK kvs)) : DGet H a (kV k) (valV kvs k) := .inl ⟨kvs, k, .inl e, rfl, rfl⟩
theorem DPut.k {H : Hp} {a : Addr} {kvs : List (Key × V)} {k : Key} {v : V} (e : H a = some (.dK kvs)) (hl : kvs.length < sizeLine) : DPut H a (kV k) v (upd H a (.dK (putK kvs k v))) := .inl ⟨kvs, k, e, rfl, hl, rfl⟩
section
variable {X : Cx} {pins : List (Addr × Obj)} {σ : St} {H : Hp} {s : Shared} {a : Addr} {y v : V} {u r : Value} {o : Option V} {A : Around} {E : Value → Shared → Prop}
theorem Inv.big (I : Inv X pins σ H s) : sysModules < s.heap.objs.size := by
  have h : mainGlobals < s.heap.objs.size := (I.mod.glob.keeps I.bk).lt
  exact Nat.lt_trans (by decide) h
theorem d_getItem {Q : Value → Shared → Prop} (hu : A.units + 1 < cLine) (I : Inv X pins σ H s) (g : DGet H a y (some v)) (ry : RelV y u) (h : ∀ w' s', Inv X pins σ H s' → RelV v w' → Q w' s') :
    wpAny (model X.prog X.w) A (getItem (.ref a) u) Q E s := by
  rcases g with ⟨kvs, k, e, ey, l⟩ | ⟨kvs, k, b, e, ey, eb, l⟩
  · subst ey
    obtain ⟨z, hd, vs, rel, dd⟩ := dk_rd I.hok e
    obtain ⟨w', hw, rw'⟩ := RelO.some_of (v := v) (o := valueAt vs k) (by rw [l]; exact rel.val k)
    exact wpAny_getItem_of (kV_is ry) dd.mapOf hw (h w' _ (I.tok _) rw')
  · subst ey
    cases (show u = Value.ref b from ry)
    obtain ⟨z, hd, xs, rel, dd⟩ := dt_rd I.hok e
    obtain ⟨w', hw, rw'⟩ := RelO.some_of (v := v) (o := (atKey xs k).map (·.2)) (by rw [l]; exact rel.val k)
    obtain ⟨p, hp, hp2⟩ := Option.map_eq_some_iff.mp hw
    refine wpAny_getItem_heap (tupleKind_room_in1 hu) (key_of I.hok eb) dd hp ?_
    rw [hp2]
    exact h w' _ (I.tok _) rw'
theorem d_write {h' : Heap} {t' : Nat} {ob : HO} (I : Inv X pins σ H s) (mu : Mut (H a)) (hs : Heap.SameBut a s.heap h') (he : ∃ q, h'.get? a = some q) (new : ObjOk X.prog X.w (upd H a ob) h' a ob) :
    Inv X pins σ (upd H a ob) { s with heap := h', toks := t' } :=
  I.write (x := a) (e := a) mu (.inl rfl) (fun b q hb z => (hs.2 b hb).trans z) he new
theorem dk_new {P : Program} {w : World} {H' : Hp} {h' : Heap} {kvs : List (Key × V)} {vs : List (Key × Value)} (z : kvs.length ≤ sizeLine) (hd : (a == sysModules) = false) (rel : KV kvs vs) (dd : h'.DictOf (mixKind P w) a vs) :
    ObjOk P w H' h' a (.dK kvs) := ⟨z, hd, vs, rel, dd⟩
theorem d_setItem {H' : Hp} {Q : Unit → Shared → Prop} (hu : A.units + 1 < cLine) (I : Inv X pins σ H s) (g : DPut H a y v H') (ry : RelV y u) (rv : RelV v r) (h : ∀ s', Inv X pins σ H' s' → Q () s') :
    wpAny (model X.prog X.w) A (setItem (.ref a) u r) Q E s := by
  rcases g with ⟨kvs, k, e, ey, l, eH⟩ | ⟨kvs, k, b, e, ey, eb, l, eH⟩
  · subst ey eH
    obtain ⟨z, hd, vs, rel, dd⟩ := dk_of I.hok e
    have hz : vs.length ≤ sizeLine := by rw [← rel.length]; exact z
    have hl : (putK kvs k v).length ≤ sizeLine := by have := length_putK kvs k v; omega
    refine wpAny_setItem_pairs (hsz := hz) (kV_is ry) dd fun h' dd' hs => h _ ?_
    have he : ∃ q, h'.get? a = some q := let ⟨q, _, _, hq, _⟩ := dd'; ⟨q, hq⟩
    exact d_write I (by rw [e]; exact True.intro) hs he (dk_new hl hd (rel.put k rv) dd')
  · subst ey eH
    cases (show u = Value.ref b from ry)
    obtain ⟨z, hd, xs, rel, dd⟩ := dt_of I.hok e
    have hz : xs.length ≤ sizeLine := by rw [← Paired.length rel]; exact z
    have hl : (putK kvs k v).length ≤ sizeLine := by have := length_putK kvs k v; omega
    refine wpAny_setItem_heap (hsz := hz) (tupleKind_room_in1 hu) (key_of I.hok eb) dd fun h' dd' hs => h _ ?_
    obtain ⟨q, es, ep, hq, h2, h3, h4, _, h5⟩ := dd'
    refine d_write I (by rw [e]; exact True.intro) hs ⟨q, hq⟩ ⟨hl, hd, _, (rel.put k eb rv).keeps fun c ys ec => ?_, q, es, ep, hq, h2, h3, h4, h5⟩
    rw [upd_ne (ne_of ec e (fun z => nomatch z))]
    exact ec
end
section
variable {X : Cx} {pins : List (Addr × Obj)} {σ : St} {H : Hp} {s : Shared} {a : Addr} {kvs : List (Key × V)} {k : Key} {u : Value} {A : Around} {E : Value → Shared → Prop}
end
def NoSl (i : Expr) : Prop := ∀ ov iv, subscripted i false ov iv = operate [ov, iv] (getItem ov iv)
theorem subD_of {prog : Program} {w : World} {A : Around} {E : Value → Shared → Prop} {s : Shared} {env : Env} {value slice : Expr} {pos : Pos} {T id : String} {Q : Value → Shared → Prop}
    (hl : typeLookup (.type T) "__getitem__" = pure (some (.builtin id))) (hs : NoSl slice)
    (h : wpAny (model prog w) A (eval value env) (fun o s₁ => wpAny (model prog w) A (eval slice env) (fun i s₂ => s₂.TypeIs o T ∧ wpAny (model prog w) A (getItem o i) Q E s₂) E s₁) E s) :
    wpAny (model prog w) A (eval (.Subscript value slice pos) env) Q E s := by
  refine Subscript_ (wpAny_mono h (fun o s₁ h₁ => wpAny_mono h₁ (fun i s₂ h₂ => ?_) fun _ _ x => x) fun _ _ x => x)
  obtain ⟨hT, h₂⟩ := h₂
  unfold subscriptTail
  refine wpAny_bind ?_
  rw [getitemInPython_of_ne hT.not_modules]
  refine wpAny_bind (wpAny_specialOf hT hl ?_)
  have fin : wpAny (model prog w) A (subscripted slice false o i) (fun r s₃ => wpAny (model prog w) A (letTemporaryGo value o r >>= fun _ => pure r) Q E s₃) E s₂ := by
    rw [hs o i]
    exact wpAny_operating (wpAny_mono h₂ (fun r s₃ h₃ => wpAny_bind (wpAny_letTemporaryGo (wpAny_pure h₃))) fun _ _ x => x)
  first
    | exact wpAny_pure (wpAny_bind fin)
    | exact wpAny_bind (wpAny_pure (wpAny_bind fin))
    | exact wpAny_bind fin
theorem dict_typeIs {X : Cx} {pins : List (Addr × Obj)} {σ : St} {H : Hp} {s : Shared} {a : Addr} {y : V} {o : Option V} (I : Inv X pins σ H s) (g : DGet H a y o) : s.TypeIs (.ref a) "dict" := by
  rcases g with ⟨kvs, k, e, _, _⟩ | ⟨kvs, k, b, e, _, _, _⟩
  · obtain ⟨_, _, vs, _, dd⟩ := dk_rd I.hok e
    exact dd.typeIs
  · obtain ⟨_, _, xs, _, dd⟩ := dt_rd I.hok e
    exact dd.typeIs
def tDGet (td ty : TE) : TE := fun σ H Q => td σ H fun x H1 => ty σ H1 fun y H2 => ∃ a v, x = .ref a ∧ DGet H2 a y (some v) ∧ Q v H2
def tDIn (ty td : TE) : TE := fun σ H Q => ty σ H fun y H1 => td σ H1 fun x H2 => ∃ a o, x = .ref a ∧ DGet H2 a y o ∧ Q (.bl o.isSome) H2
def tDNotIn (ty td : TE) : TE := fun σ H Q => ty σ H fun y H1 => td σ H1 fun x H2 => ∃ a o, x = .ref a ∧ DGet H2 a y o ∧ Q (.bl (!o.isSome)) H2
def sDPut (td ty tv : TE) : TS := fun D σ H => tv σ H fun v H1 => td σ H1 fun x H2 => ty σ H2 fun y H3 => ∃ a H4, x = .ref a ∧ DPut H3 a y v H4 ∧ D.nx σ H4
def sDAug (td ty tv : TE) (rd : V → V → Hp → VK → Prop) : TS := fun D σ H => td σ H fun x H1 => ty σ H1 fun y H2 => ∃ a v, x = .ref a ∧ DGet H2 a y (some v) ∧
  tv σ H2 fun y2 H3 => rd v y2 H3 fun z H4 => ∃ H5, DPut H4 a y z H5 ∧ D.nx σ H5
def sDDel (td ty : TE) : TS := fun D σ H => td σ H fun x H1 => ty σ H1 fun y H2 => ∃ a kvs k, x = .ref a ∧ H2 a = some (.dK kvs) ∧ y = kV k ∧ (valV kvs k).isSome = true ∧ D.nx σ (upd H2 a (.dK (dropK kvs k)))
section
variable {X : Cx} {o i e value : Expr} {pos pos' tpos : Pos} {td ty tv : TE}
theorem pe_dget (hu : X.A.units + 1 < cLine) (ho : PE X o td) (hi : PE X i ty) (hs : NoSl i) : PE X (.Subscript o i pos) (tDGet td ty) := by
  intro pins s σ H Q I h
  refine subD_of PySem.F.slot_dict_getitem.lookup hs (thn (ho pins s σ H _ I h) fun u s1 ⟨x, H1, I1, rx, q1⟩ => thn (hi pins s1 σ H1 _ I1 q1) fun iv s2 ⟨y, H2, I2, ry, a, v, ex, g, q2⟩ => ?_)
  subst ex
  obtain rfl : u = Value.ref a := rx
  exact ⟨dict_typeIs I2 g, d_getItem hu I2 g ry fun w' s3 I3 rw' => ⟨v, H2, I3, rw', q2⟩⟩
theorem ps_dput (hu : X.A.units + 1 < cLine) (ho : PE X o td) (hi : PE X i ty) (hv : PE X value tv) (hs : swapsWith value (some (.Subscript o i pos')) pos.line X.env = pure false) :
    PS X (.Assign [.Subscript o i pos'] value pos) (sDPut td ty tv) := by
  intro pins s σ H D I h
  refine wpAny_Assign_Subscript (thn (hv pins s σ H _ I h) fun r s1 ⟨v, H1, I1, rv, q1⟩ => thn (ho pins s1 σ H1 _ I1 q1) fun u s2 ⟨x, H2, I2, rx, q2⟩ => thn (hi pins s2 σ H2 _ I2 q2) fun iv s3 ⟨y, H3, I3, ry, a, H4, ex, g, q3⟩ => ?_) hs
  subst ex
  obtain rfl : u = Value.ref a := rx
  exact d_setItem hu I3 g ry rv fun s4 I4 => ⟨σ, H4, I4, q3⟩
end
theorem dk_empty {P : Program} {w : World} {H : Hp} (h : Heap) (hb : sysModules < h.objs.size) : ObjOk P w H (h.push { cls := .type "dict", data := .dict #[] }) h.objs.size (.dK []) :=
  ⟨Nat.zero_le _, beq_eq_false_iff_ne.mpr (Ne.symm (Nat.ne_of_lt hb)), [], .nil, Heap.DictOf.new h⟩
def tDNewK : TE := fun _ H Q => ∀ p, H p = none → Q (.ref p) (upd H p (.dK []))
def tDNewT : TE := fun _ H Q => ∀ p, H p = none → Q (.ref p) (upd H p (.dT []))
section
variable {X : Cx} {pos : Pos}
end
def tPairs : List (TE × TE) → St → Hp → (List (V × V) → Hp → Prop) → Prop
  | [], _, H, Q => Q [] H
  | (tk, tv) :: r, σ, H, Q => tk σ H fun x H1 => tv σ H1 fun y H2 => tPairs r σ H2 fun ps H3 => Q ((x, y) :: ps) H3
abbrev VV : List (V × V) → List (Value × Value) → Prop := Paired fun p q => RelV p.1 q.1 ∧ RelV p.2 q.2
def PPs (X : Cx) (pos : Pos) (keys : List (Option Expr)) (values : List Expr) (trs : List (TE × TE)) : Prop :=
  ∀ (pins : List (Addr × Obj)) (s : Shared) (σ : St) (H : Hp) (Q : List (V × V) → Hp → Prop), Inv X pins σ H s → tPairs trs σ H Q →
    wpAny (model X.prog X.w) X.A (evalPairs (pairTrees keys values X.env pos)) (fun vs s' => ∃ ps H', Inv X pins σ H' s' ∧ VV ps vs ∧ Q ps H') X.xe s
theorem pps_nil {X : Cx} {pos : Pos} : PPs X pos [] [] [] := fun pins s σ H Q I h => pairTrees_nil_walk ⟨[], H, I, .nil, h⟩
theorem pps_cons {X : Cx} {pos : Pos} {k v : Expr} {ks : List (Option Expr)} {vs : List Expr} {tk tv : TE} {trs : List (TE × TE)} (hk : PE X k tk) (hv : PE X v tv) (hr : PPs X pos ks vs trs) :
    PPs X pos (some k :: ks) (v :: vs) ((tk, tv) :: trs) := fun pins s σ H Q I h =>
  pairTrees_cons_walk (thn (hk pins s σ H _ I h) fun u s1 ⟨x, H1, I1, rx, q1⟩ => thn (hv pins s1 σ H1 _ I1 q1) fun w2 s2 ⟨y, H2, I2, ry, q2⟩ =>
    thn (hr pins s2 σ H2 _ I2 q2) fun ws s3 ⟨ps, H3, I3, rel, q3⟩ => ⟨(x, y) :: ps, H3, I3, .cons ⟨rx, ry⟩ rel, q3⟩)
def mergeK (kvs more : List (Key × V)) : List (Key × V) := more.foldl (fun acc kv => putK acc kv.1 kv.2) kvs
theorem KV.merge : ∀ {more : List (Key × V)} {rs : List (Key × Value)} {kvs : List (Key × V)} {vs : List (Key × Value)}, KV more rs → KV kvs vs → KV (mergeK kvs more) (merged vs rs) := by
  intro more rs kvs vs r
  unfold KV at r
  induction r generalizing kvs vs with
  | nil => intro q; exact q
  | @cons p q ps qs h t ih =>
    intro r0
    have e : KV (putK kvs p.1 p.2) (stored vs q.1 q.2) := by
      have := r0.put p.1 h.2
      rw [← h.1]; exact this
    exact ih e
theorem length_mergeK : ∀ (more kvs : List (Key × V)), (mergeK kvs more).length ≤ kvs.length + more.length
  | [], kvs => by show kvs.length ≤ kvs.length + 0; omega
  | p :: r, kvs => by
    have h1 := length_mergeK r (putK kvs p.1 p.2)
    have h2 := length_putK kvs p.1 p.2
    show (mergeK (putK kvs p.1 p.2) r).length ≤ _
    rw [List.length_cons]; omega
theorem carries_of {P : Program} {w : World} : ∀ {kvs : List (Key × V)} {ws : List (Value × Value)}, VV (kvs.map fun kv => (kV kv.1, kv.2)) ws → ∃ rs, Carries (mixKind P w) ws rs ∧ KV kvs rs
  | [], _, r => by rw [List.map_nil] at r; cases r; exact ⟨[], True.intro, .nil⟩
  | p :: kvs, _, r => by
    rw [List.map_cons] at r
    cases r with
    | @cons a b as bs h t =>
      obtain ⟨rs, c, q⟩ := carries_of (P := P) (w := w) t
      obtain ⟨b1, b2⟩ := b
      exact ⟨(p.1, b2) :: rs, ⟨kV_is h.1, rfl, c⟩, .cons ⟨rfl, h.2⟩ q⟩
def tDisp (trs : List (TE × TE)) : TE := fun σ H Q => ∀ p, H p = none → tPairs trs σ (upd H p (.dK [])) fun ps H2 => H2 p = some (.dK []) ∧ ∃ kvs : List (Key × V), ps = kvs.map (fun kv => (kV kv.1, kv.2)) ∧ kvs.length ≤ 15 ∧ Q (.ref p) (upd H2 p (.dK (mergeK [] kvs)))
theorem pe_disp {X : Cx} {pos : Pos} {keys : List (Option Expr)} {values : List Expr} {trs : List (TE × TE)} (h : PPs X pos keys values trs) (hall : keys.all (·.isSome) = true) (hl : keys.length = values.length) (h0 : keys ≠ [])
    (h15 : keys.length ≤ 15) : PE X (.Dict keys values pos) (tDisp trs) := by
  intro pins s σ H Q I q
  have hn := I.hok.fresh (Nat.le_refl s.heap.objs.size)
  have I1 := I.laid (a := s.heap.objs.size) (o := .dK []) (h' := s.heap.push { cls := .type "dict", data := .dict #[] }) (t' := s.toks) (fun _ _ q => Heap.get?_push_of_some _ q) (Nat.le_refl _) (dk_empty s.heap I.big)
  refine wpAny_Dict_walk (knd := mixKind X.prog X.w) hall hl h0 h15 (thn (h pins _ σ _ _ I1 (q _ hn)) fun ws s2 ⟨ps, H2, I2, rel, e, kvs, ep, lk, q2⟩ => ?_)
  subst ep
  obtain ⟨rs, c, rk⟩ := carries_of (P := X.prog) (w := X.w) rel
  obtain ⟨z, hd, vs0, r0, dd⟩ := dk_of I2.hok e
  cases r0
  refine ⟨rs, c, dd, fun h' dd' hs => ⟨.ref s.heap.objs.size, _, ?_, rfl, q2⟩⟩
  have hz : (mergeK [] kvs).length ≤ sizeLine := by
    have h1 := length_mergeK kvs []
    rw [List.length_nil] at h1
    rw [sizeLine_eq]; omega
  have he : ∃ q, h'.get? s.heap.objs.size = some q := let ⟨q, _, _, hq, _⟩ := dd'; ⟨q, hq⟩
  exact d_write I2 (by rw [e]; exact True.intro) hs he (dk_new hz hd (rk.merge .nil) dd')
structure M1 (X : Cx) (o : Expr) (m : Str) (apos : Pos) (e : Expr) (cpos : Pos) : Prop where
  base : attributeBase o m X.env (eval o X.env) = eval o X.env
  few : ((backTo cpos (starEach [e] X.env)).all (fun x => !x.1) && (backToKw cpos (keywordEach [] X.env)).all (fun x => x.1.isSome)
    && decide (([e] : List Expr).length + ([] : List Keyword).length + (if ([] : List Keyword).isEmpty then 0 else 1) < 30)) = true
  line : (apos.endLine == cpos.line) = true
  trees : backTo cpos (starEach [e] X.env) = [(false, eval e X.env)]
structure M2 (X : Cx) (o : Expr) (m : Str) (apos : Pos) (e f : Expr) (cpos : Pos) : Prop where
  base : attributeBase o m X.env (eval o X.env) = eval o X.env
  few : ((backTo cpos (starEach [e, f] X.env)).all (fun x => !x.1) && (backToKw cpos (keywordEach [] X.env)).all (fun x => x.1.isSome)
    && decide (([e, f] : List Expr).length + ([] : List Keyword).length + (if ([] : List Keyword).isEmpty then 0 else 1) < 30)) = true
  line : (apos.endLine == cpos.line) = true
  trees : backTo cpos (starEach [e, f] X.env) = [(false, eval e X.env), (false, eval f X.env)]
def IsD (H : Hp) (a : Addr) : Prop := (∃ kvs, Rd H a (.dK kvs)) ∨ ∃ kvs, Rd H a (.dT kvs)
section
variable {X : Cx} {pins : List (Addr × Obj)} {σ : St} {H : Hp} {s : Shared} {a : Addr} {y d : V} {u r : Value} {o : Option V} {A : Around} {E : Value → Shared → Prop}
end
def tDGet1 (td ty : TE) : TE := fun σ H Q => td σ H fun x H1 => ∃ a, x = .ref a ∧ IsD H1 a ∧ ty σ H1 fun y H2 => ∃ o, DGet H2 a y o ∧ Q (o.getD .non) H2
def tDGet2 (td ty tx : TE) : TE := fun σ H Q => td σ H fun x H1 => ∃ a, x = .ref a ∧ IsD H1 a ∧ ty σ H1 fun y H2 => tx σ H2 fun z H3 => ∃ o, DGet H3 a y o ∧ Q (o.getD z) H3
def tDPop1 (td ty : TE) : TE := fun σ H Q => td σ H fun x H1 => ∃ a, x = .ref a ∧ IsD H1 a ∧ ty σ H1 fun y H2 => ∃ kvs k v, H2 a = some (.dK kvs) ∧ y = kV k ∧ valV kvs k = some v ∧ Q v (upd H2 a (.dK (dropK kvs k)))
def tDPop2 (td ty tx : TE) : TE := fun σ H Q => td σ H fun x H1 => ∃ a, x = .ref a ∧ IsD H1 a ∧ ty σ H1 fun y H2 => tx σ H2 fun z H3 => ∃ kvs k, H3 a = some (.dK kvs) ∧ y = kV k ∧
  (∀ v, valV kvs k = some v → Q v (upd H3 a (.dK (dropK kvs k)))) ∧ (valV kvs k = none → Q z H3)
section
variable {X : Cx} {o e f : Expr} {apos cpos : Pos} {td ty tx : TE}
end
section
variable {X : Cx} {pins : List (Addr × Obj)} {σ : St} {H : Hp} {s : Shared} {a : Addr} {kvs : List (Key × V)} {A : Around} {E : Value → Shared → Prop}
end
section
variable {X : Cx} {pins : List (Addr × Obj)} {σ : St} {H : Hp} {s : Shared} {a : Addr} {y : V} {u : Value} {A : Around} {E : Value → Shared → Prop}
end
end L2
namespace L2
open PySem PySem.Spec PyProof.Rows
theorem ud_entry : entryFor table "dict.update.loop" = some Builtin.«dict.update.loop» := entryFor_of_tree (by kernel_rfl)
theorem ud_plain : plainId "dict.update.loop" = true := by decide +kernel
section
variable {prog : Program} {w : World} {A : Around} {E : Value → Shared → Prop}
end
section
variable {X : Cx}
end
end L2
namespace L2
open PySem PySem.Spec PyProof.Rows
section
variable {X : Cx} {pins : List (Addr × Obj)} {σ : St} {H : Hp} {s : Shared} {h' : Heap}
theorem Inv.turnedNew {t' : Nat} {ch : List Addr} {T : Addr} {ob : HO} (I : Inv X pins σ H s) (k : ∀ b o, b ∉ ch → s.heap.get? b = some o → h'.get? b = some o) (hf : ∀ b ∈ ch, FpOk X pins H b) (hT : s.heap.objs.size ≤ T)
    (new : ObjOk X.prog X.w (upd H T ob) h' T ob) : Inv X pins σ (upd H T ob) { s with heap := h', toks := t' } := by
  have hn : H T = none := I.hok.fresh hT
  have nit : ∀ b u, H b = some u → b ∉ ch := fun b u e z => by
    have q := (hf b z).1
    rw [q] at e; cases e
  refine I.step (g' := s.gens) (d' := s.drawn) (ch := ch) (fun b hb => ⟨(hf b hb).2.2.2.1, (hf b hb).2.1, (hf b hb).2.2.2.2.1, (hf b hb).2.2.2.2.2⟩) (fun b o _ _ hc e _ => k b o hc e) (fun b o _ _ hc e _ => ⟨o.slots, k b o hc e⟩)
    (fun b o _ e n => ?_) (fun b o hc e => ⟨o, k b o hc e⟩) (fun b xs e => ?_) (fun b o u e => ?_) (fun b ps e => ⟨#[], ?_⟩) (fun m hm => ?_) (fun b u e => ?_) I.bare
  · rw [upd_ne (Nat.ne_of_lt (Nat.lt_of_lt_of_le (Heap.lt_size e) hT))]; exact n
  · rw [upd_ne (ne_of_none e hn)]; exact e
  · rw [upd_ne (ne_of_none e hn)]; exact e
  · rw [upd_ne (ne_of_none e hn), e]; simp
  · obtain ⟨o, es, ep, ho, r⟩ := hm
    exact ⟨o, es, ep, k _ o (fun z => (hf _ z).2.1 rfl) ho, r⟩
  · by_cases hb : b = T
    · subst hb
      rw [upd_same] at e
      cases e
      exact new
    · rw [upd_ne hb] at e
      refine (I.hok b u e).stay (fun c v hc q => k c v ?_ q) (fun c q => by rw [upd_ne (ne_of_none q hn)]; exact q) fun c xs q => by rw [upd_ne (ne_of_none q hn)]; exact q
      rcases hc with z | z
      · rw [z]; exact nit b u e
      · exact nit c _ z
end
def tLock (t : TS) : TS := fun D σ H => ∃ d u, H d = some u ∧ Mut (some u) ∧ ∀ od, t ⟨fun σ' H' => H' d = some (.frz od u) ∧ D.nx σ' (upd H' d u), fun v H' => H' d = some (.frz od u) ∧ D.rt v (upd H' d u), fun σ' H' => H' d = some (.frz od u) ∧ D.bk σ' (upd H' d u), fun σ' H' => H' d = some (.frz od u) ∧ D.ct σ' (upd H' d u)⟩ σ (upd H d (.frz od u))
def tLockE (t : TE) : TE := fun σ H Q => ∃ d u, H d = some u ∧ Mut (some u) ∧ ∀ od, t σ (upd H d (.frz od u)) fun v H' => H' d = some (.frz od u) ∧ Q v (upd H' d u)
section
variable {X : Cx}
end
def Itc (lo c : Int) (n : Nat) : It := ⟨fun i _ => i < n, fun i H x H' => H' = H ∧ x = .int (lo + (i : Nat) * c), fun i _ => n ≤ i⟩
def RgC (i j c : Int) (n : Nat) : Prop := c ≠ 0 ∧ c.natAbs < 1073741824 ∧ Builtin.Range.small i j c = true ∧ Builtin.Range.rangeSize i j c = n
def iRng3 (ta : TA) : TI := fun σ H R => ta σ H fun vs H1 => ∃ (i j c : Int) (n : Nat), vs = [.int i, .int j, .int c] ∧ RgC i j c n ∧ R (Itc i c n) H1
section
variable {X : Cx} {tg : Expr}
end
def Itv (K : PySem.W.Frag) (a : Addr) (n : Nat) : It :=
  ⟨fun i H => i < n ∧ ∃ (xs : List V) (x : V), SqL K H a xs ∧ xs[n - 1 - i]? = some x, fun i H x H' => H' = H ∧ ∀ xs, SqL K H a xs → xs[n - 1 - i]? = some x, fun i _ => n ≤ i⟩
def iRev (K : PySem.W.Frag) (ta : TA) : TI := fun σ H R => ta σ H fun vs H1 => ∃ (a : Addr) (xs : List V), vs = [.ref a] ∧ SqL K H1 a xs ∧ R (Itv K a xs.length) H1
section
variable {X : Cx} {tg : Expr}
end
def Its (x : Str) : It := ⟨fun i _ => i < x.cps.size, fun i H v H' => H' = H ∧ ∃ c, x.cps[i]? = some c ∧ v = .str ⟨#[c]⟩, fun i _ => x.cps.size ≤ i⟩
def iStr (te : TE) : TI := fun σ H R => te σ H fun v H1 => ∃ x, v = .str x ∧ R (Its x) H1
section
variable {prog : Program} {w : World} {A : Around} {E : Value → Shared → Prop} {s : Shared}
end
section
variable {X : Cx} {pins : List (Addr × Obj)} {σ : St} {H : Hp} {s : Shared} {d : Addr} {o : Obj}
end
def Itk (d : Addr) (o : Obj) (kvs : List (Key × V)) : It :=
  ⟨fun i H => H d = some (.frz o (.dK kvs)) ∧ i < kvs.length, fun i H x H' => H' = H ∧ ∃ k v, kvs[i]? = some (k, v) ∧ x = kV k, fun i H => H d = some (.frz o (.dK kvs)) ∧ kvs.length ≤ i⟩
def Itkt (d : Addr) (o : Obj) (kvs : List (List Key × V)) : It :=
  ⟨fun i H => H d = some (.frz o (.dT kvs)) ∧ i < kvs.length, fun i H x H' => H' = H ∧ ∃ (k : List Key) (v : V) (q : Addr), kvs[i]? = some (k, v) ∧ x = .ref q ∧ H q = some (.tup (k.map kV)), fun i H => H d = some (.frz o (.dT kvs)) ∧ kvs.length ≤ i⟩
def Itd (d : Addr) (o : Obj) (kvs : List (Key × V)) : It :=
  ⟨fun i H => H d = some (.frz o (.dK kvs)) ∧ i < kvs.length, fun i H x H' => H' = H ∧ ∃ k, kvs[i]? = some (k, x), fun i H => H d = some (.frz o (.dK kvs)) ∧ kvs.length ≤ i⟩
def Iti (d : Addr) (o : Obj) (kvs : List (Key × V)) : It :=
  ⟨fun i H => H d = some (.frz o (.dK kvs)) ∧ i < kvs.length, fun i H x H' => ∃ T k v, kvs[i]? = some (k, v) ∧ x = .ref T ∧ H T = none ∧ H' = upd H T (.tup [kV k, v]), fun i H => H d = some (.frz o (.dK kvs)) ∧ kvs.length ≤ i⟩
section
variable {P : Program} {w : World} {K : PySem.W.Frag} {tg : Expr} {d : Addr} {o : Obj} {es : Array DictEntry} {ep : Nat}
end
def iKeys (td : TE) : TI := fun σ H R => td σ H fun x H1 => ∃ d o, x = .ref d ∧ ((∃ kvs, H1 d = some (.frz o (.dK kvs)) ∧ R (Itk d o kvs) H1) ∨ ∃ kvs, H1 d = some (.frz o (.dT kvs)) ∧ R (Itkt d o kvs) H1)
def iVals (td : TE) : TI := fun σ H R => td σ H fun x H1 => ∃ d o kvs, x = .ref d ∧ H1 d = some (.frz o (.dK kvs)) ∧ R (Itd d o kvs) H1
def iItems (td : TE) : TI := fun σ H R => td σ H fun x H1 => ∃ d o kvs, x = .ref d ∧ H1 d = some (.frz o (.dK kvs)) ∧ R (Iti d o kvs) H1
def iKeysM (td : TE) : TI := fun σ H R => td σ H fun x H1 => ∃ d o kvs, x = .ref d ∧ H1 d = some (.frz o (.dK kvs)) ∧ R (Itk d o kvs) H1
section
variable {X : Cx} {tg e : Expr} {td : TE} {apos cpos : Pos}
end
def Ite (K : PySem.W.Frag) (a : Addr) : It :=
  ⟨fun i H => ∃ (xs : List V) (x : V), SqL K H a xs ∧ xs[i]? = some x, fun i H v H' => ∃ T x, v = .ref T ∧ H T = none ∧ H' = upd H T (.tup [.int (i : Nat), x]) ∧ ∀ xs, SqL K H a xs → xs[i]? = some x, fun i H => ∃ xs : List V, SqL K H a xs ∧ xs.length ≤ i⟩
theorem turn_enum {P : Program} {w : World} {K : PySem.W.Frag} {elts : List Expr} {kk : Nat} {tpos : Pos} (a e it : Addr) :
    Turn P w K (.Tuple elts kk tpos) (Ite K a) [e, it] e (fun i h => (∃ old, IsEnum h e it ((i : Nat) : Int) old) ∧ h.IsListIter it a i ∧ e ≠ it) where
  mem := by simp
  obj := fun i h st b hb => by
    obtain ⟨⟨old, he⟩, ⟨o, ho, hc, hd⟩, _⟩ := st
    have e' : b = e ∨ b = it := by simpa using hb
    rcases e' with z | z
    · rw [z]; exact ⟨_, he, fun v q => nomatch q⟩
    · rw [z]; exact ⟨o, ho, fun v q => by rw [hd] at q; cases q⟩
  keep := fun i h h' st k => let ⟨⟨old, he⟩, hi, hne⟩ := st; ⟨⟨old, k e (by simp) _ he⟩, hi.at fun o q => k it (by simp) o q, hne⟩
  item := by
    intro X hP hw hK hc i pins s σ H E I hf st hg
    subst hP hw hK
    obtain ⟨⟨old, he⟩, hit, hne⟩ := st
    obtain ⟨xs, x, hq, hx⟩ := hg
    obtain ⟨its, rv, p, hz⟩ := I.list hq
    obtain ⟨u, hu, ru⟩ := rv.get hx
    have hel : e < s.heap.objs.size := Heap.lt_size he
    have hil : it < s.heap.objs.size := by obtain ⟨_, q, _⟩ := hit; exact Heap.lt_size q
    refine wpAny_pyNext_enum_item he hit p.isList (x := u) (by simpa using hu) hne fun h' ho hit' hT hsz hk => ?_
    refine ⟨_, rfl, wpAny_letOwnedTupleGo_enum (s := { s with heap := h', toks := s.toks + 1 }) ho fun h'' he' sb => ?_⟩
    have hT2 : h''.get? s.heap.objs.size = some { cls := .type "tuple", data := .seq #[.int i s.toks, u] } := (sb.2 _ (Nat.ne_of_gt hel)).trans hT
    have new : ObjOk X.prog X.w (upd H s.heap.objs.size (.tup [.int (i : Nat), x])) h'' s.heap.objs.size (.tup [.int (i : Nat), x]) :=
      ⟨by show 2 ≤ sizeLine; decide, [.int i s.toks, u], .cons ⟨_, rfl⟩ (.cons ru .nil), ⟨_, hT2, rfl, _, rfl⟩⟩
    have I1 : Inv X pins σ (upd H s.heap.objs.size (.tup [.int (i : Nat), x])) { s with heap := h'', toks := s.toks + 1 } :=
      I.turnedNew (ch := [e, it]) (fun b ob hb q => (sb.2 b (fun z => hb (by simp [z]))).trans (hk b ob (fun z => hb (by simp [z])) (fun z => hb (by simp [z])) q)) hf (Nat.le_refl _) new
    refine ⟨.ref s.heap.objs.size, _, I1, rfl, ⟨_, x, rfl, I.hok.fresh (Nat.le_refl _), rfl, fun ys hy => by rw [I.list_inj hy hq]; exact hx⟩, ⟨⟨u, ?_⟩, hit'.at fun o q => (sb.2 it (Ne.symm hne)).trans q, hne⟩, fun b hb => ?_⟩
    · have e1 : ((i + 1 : Nat) : Int) = (i : Int) + 1 := by omega
      rw [e1]; exact he'
    · have hb' : b < s.heap.objs.size := by
        have e' : b = e ∨ b = it := by simpa using hb
        rcases e' with z | z
        · rw [z]; exact hel
        · rw [z]; exact hil
      rw [upd_ne (Nat.ne_of_lt hb')]
      exact (hf b hb).1
  done := by
    intro X hP hw hK hc i pins s σ H E I hf st hg
    subst hP hw hK
    obtain ⟨⟨old, he⟩, hit, hne⟩ := st
    obtain ⟨xs, hq, hx⟩ := hg
    obtain ⟨its, rv, p, hz⟩ := I.list hq
    obtain ⟨f0, f1, f2, f3, f4, f5⟩ := hf it (by simp)
    have hl := rv.length
    exact wpAny_pyNext_enum_end (I.ok.hd hc) he hit p.isList (by simp; omega) fun h' eb => ⟨rfl, I.turned (t' := s.toks) (fun b o hb q => eb b o hb q) f0 f1 f3 f4 f5⟩
  self := fun A i s Q E st h => let ⟨⟨_, he⟩, _⟩ := st; wpAny_pyIter_enum he h
def iEnum (K : PySem.W.Frag) (ta : TA) : TI := fun σ H R => ta σ H fun vs H1 => ∃ a xs, vs = [.ref a] ∧ SqL K H1 a xs ∧ R (Ite K a) H1
theorem pi_enum {X : Cx} {e : Expr} {ta : TA} {p pos tpos : Pos} {elts : List Expr} {kk : Nat} (hg : Gl X "enumerate") (hm : X.mg "enumerate" = none) (ha : PA X [e] ta) (hs : starEach [e] X.env = [(false, eval e X.env)] := by rfl) :
    PI X (.Tuple elts kk tpos) (.Call (.Name "enumerate" p) [e] [] pos) (iEnum X.K ta) := by
  intro pins s σ H R I h
  refine Call_ (ld_blt I hg hm boot_enumerate (PyProof.Rows.callWith_type1 (thn (ha pos pins s σ H _ I h) fun us s1 ⟨vs, H1, I1, r1, q1⟩ => ?_) hs rfl))
  obtain ⟨a, xs, ex, hq, q⟩ := q1
  subst ex
  cases r1 with
  | cons r rr =>
    cases rr
    cases r
    obtain ⟨its, rv, p', hz⟩ := I1.list hq
    refine call_enumerate_list p'.isList fun h' he hit hsz hk => wpAny_pyIter_enum he ?_
    have I2 : Inv X pins σ H1 { s1 with heap := h' } := I1.kept (t' := s1.toks) hk
    refine ⟨s1.heap.objs.size + 1, [s1.heap.objs.size + 1, s1.heap.objs.size], _, _, H1, rfl, I2, turn_enum a (s1.heap.objs.size + 1) s1.heap.objs.size, ⟨⟨.none, he⟩, hit, Nat.succ_ne_self _⟩, fun b hb => ?_, q⟩
    have e' : b = s1.heap.objs.size + 1 ∨ b = s1.heap.objs.size := by simpa using hb
    have hle : s1.heap.objs.size ≤ b := by
      rcases e' with z | z
      · rw [z]; exact Nat.le_add_right _ _
      · rw [z]; exact Nat.le_refl _
    exact I1.fpOk hle (I1.hok.fresh hle)
def Itz (K : PySem.W.Frag) (a b : Addr) : It :=
  ⟨fun i H => ∃ (xs ys : List V) (x y : V), SqL K H a xs ∧ SqL K H b ys ∧ xs[i]? = some x ∧ ys[i]? = some y,
    fun i H v H' => ∃ T x y, v = .ref T ∧ H T = none ∧ H' = upd H T (.tup [x, y]) ∧ (∀ xs, SqL K H a xs → xs[i]? = some x) ∧ ∀ ys, SqL K H b ys → ys[i]? = some y,
    fun i H => ∃ xs ys : List V, SqL K H a xs ∧ SqL K H b ys ∧ (xs.length ≤ i ∨ ys.length ≤ i)⟩
def iZip (K : PySem.W.Frag) (ta : TA) : TI := fun σ H R => ta σ H fun vs H1 => ∃ a b xs ys, vs = [.ref a, .ref b] ∧ SqL K H1 a xs ∧ SqL K H1 b ys ∧ R (Itz K a b) H1
end L2
section 
namespace Bits
open PySem PyProof.Rows
end Bits
end 
section 
namespace TL
open PySem PySem.Builtin PySem.Builtin.Str PySem.StrLaws
abbrev tl (x : Str) : List Nat := x.cps.toList
theorem len_tl (x : Str) : x.length = (tl x).length := by simp [tl, Str.length]
theorem ext_tl {x y : Str} (h : tl x = tl y) : x = y := Str.ext' (Array.toList_inj.mp h)
theorem tl_append (x y : Str) : tl (x ++ y) = tl x ++ tl y := by
  show (x ++ y).cps.toList = _
  rw [Str.cps_append, Array.toList_append]
def pre (S l : List Nat) : Bool := l.take S.length == S
def spl (S : List Nat) : Nat → List Nat → List Nat → List (List Nat)
  | _, acc, [] => [acc]
  | 0, acc, c :: r => if pre S (c :: r) = true then acc :: spl S (S.length - 1) [] r else spl S 0 (acc ++ [c]) r
  | k + 1, acc, _ :: r => spl S k acc r
def par (S : List Nat) : List Nat → List Nat → Option (List Nat × List Nat)
  | _, [] => none
  | acc, c :: r => if pre S (c :: r) = true then some (acc, (c :: r).drop S.length) else par S (acc ++ [c]) r
theorem spl_nil (S : List Nat) (k : Nat) (acc : List Nat) : spl S k acc [] = [acc] := by cases k <;> rfl
theorem spl_hit {S acc r : List Nat} {c : Nat} (h : pre S (c :: r) = true) : spl S 0 acc (c :: r) = acc :: spl S (S.length - 1) [] r := by
  show (if pre S (c :: r) = true then acc :: spl S (S.length - 1) [] r else spl S 0 (acc ++ [c]) r) = _
  rw [if_pos h]
theorem spl_miss {S acc r : List Nat} {c : Nat} (h : pre S (c :: r) = false) : spl S 0 acc (c :: r) = spl S 0 (acc ++ [c]) r := by
  show (if pre S (c :: r) = true then acc :: spl S (S.length - 1) [] r else spl S 0 (acc ++ [c]) r) = _
  rw [if_neg (by rw [h]; exact Bool.false_ne_true)]
theorem spl_pass (S : List Nat) : ∀ (k : Nat) (acc l : List Nat), spl S k acc l = spl S 0 acc (l.drop k)
  | 0, _, _ => by rw [List.drop_zero]
  | k + 1, acc, [] => by rw [List.drop_nil, spl_nil, spl_nil]
  | k + 1, acc, c :: r => by
    show spl S k acc r = spl S 0 acc (r.drop k)
    exact spl_pass S k acc r
theorem par_miss {S acc r : List Nat} {c : Nat} (h : pre S (c :: r) = false) : par S acc (c :: r) = par S (acc ++ [c]) r := by
  show (if pre S (c :: r) = true then some (acc, (c :: r).drop S.length) else par S (acc ++ [c]) r) = _
  rw [if_neg (by rw [h]; exact Bool.false_ne_true)]
theorem pre_nil {S : List Nat} (hS : S ≠ []) : pre S [] = false := by
  cases S with
  | nil => exact absurd rfl hS
  | cons s S => rfl
theorem pre_of_head {s c : Nat} (S r : List Nat) (h : c ≠ s) : pre (s :: S) (c :: r) = false := by
  cases hp : pre (s :: S) (c :: r) with
  | false => rfl
  | true =>
    have e : (c :: r).take (s :: S).length = s :: S := eq_of_beq hp
    rw [List.length_cons, List.take_succ_cons] at e
    injection e with e1 e2
    exact absurd e1 h
theorem pre_self (S r : List Nat) : pre S (S ++ r) = true := by
  show ((S ++ r).take S.length == S) = true
  have e : (S ++ r).take S.length = S := List.take_left
  rw [e] <;> exact beq_self_eq_true S
theorem getElem_drop_cons {L : List Nat} {a : Nat} (h : a < L.length) : ∃ c, L.drop a = c :: L.drop (a + 1) := ⟨L[a], List.drop_eq_getElem_cons h⟩
theorem spl_run (S L : List Nat) : ∀ (m a : Nat) (acc : List Nat), a + m ≤ L.length → (∀ k, a ≤ k → k < a + m → pre S (L.drop k) = false) →
    spl S 0 acc (L.drop a) = spl S 0 (acc ++ (L.drop a).take m) (L.drop (a + m))
  | 0, a, acc, _, _ => by rw [List.take_zero, List.append_nil, Nat.add_zero]
  | m + 1, a, acc, h, hn => by
    have hlt : a < L.length := by omega
    obtain ⟨c, e⟩ := getElem_drop_cons hlt
    have h0 := hn a (Nat.le_refl _) (by omega)
    have ih := spl_run S L m (a + 1) (acc ++ [c]) (by omega) (fun k h1 h2 => hn k (by omega) (by omega))
    have e2 : a + 1 + m = a + (m + 1) := by omega
    rw [e2] at ih
    rw [e] at h0
    rw [e, spl_miss h0, ih, List.take_succ_cons, List.append_assoc] <;> rfl
theorem drop_two (L : List Nat) (a b : Nat) : (L.drop a).drop b = L.drop (a + b) := by
  first
    | rw [List.drop_drop]
    | rw [List.drop_drop, Nat.add_comm]
theorem spl_at {S L : List Nat} (hS : S ≠ []) {c : Nat} {acc : List Nat} (h : pre S (L.drop c) = true) : spl S 0 acc (L.drop c) = acc :: spl S 0 [] (L.drop (c + S.length)) := by
  rw [← drop_two]
  cases e : L.drop c with
  | nil => rw [e, pre_nil hS] at h; cases h
  | cons d r =>
    rw [e] at h
    rw [spl_hit h, spl_pass]
    cases S with
    | nil => exact absurd rfl hS
    | cons s S => rfl
theorem at_iff {x y : Str} (hy : tl y ≠ []) (i : Nat) : At x y x.length i ↔ pre (tl y) ((tl x).drop i) = true := by
  have hx := len_tl x
  have hl := len_tl y
  constructor
  · intro h
    have h2 := h.2
    rw [subAt_eq, hl] at h2
    exact h2
  · intro h
    have e : ((tl x).drop i).take (tl y).length = tl y := eq_of_beq h
    have e1 := congrArg List.length e
    rw [List.length_take, List.length_drop] at e1
    have e2 : 0 < (tl y).length := List.length_pos_iff.mpr hy
    refine ⟨by omega, ?_⟩
    rw [subAt_eq, hl]
    exact h
theorem no_at {x y : Str} (hy : tl y ≠ []) {i : Nat} (h : ¬ At x y x.length i) : pre (tl y) ((tl x).drop i) = false := by
  cases hp : pre (tl y) ((tl x).drop i) with
  | false => rfl
  | true => exact absurd ((at_iff hy i).mpr hp) h
theorem tl_strSub (x : Str) (i j : Nat) : tl (strSub x i j) = ((tl x).drop i).take (j - i) := strSub_toList x i j
theorem tl_strSub_end (x : Str) (i : Nat) : tl (strSub x i x.length) = (tl x).drop i := by
  rw [tl_strSub, len_tl x]
  exact List.take_of_length_le (by rw [List.length_drop] <;> omega)
theorem spl_part {S p rest acc : List Nat} (hS : S ≠ []) (h : ∀ i, i < p.length → pre S ((p ++ (S ++ rest)).drop i) = false) :
    spl S 0 acc (p ++ (S ++ rest)) = (acc ++ p) :: spl S 0 [] rest := by
  have run := spl_run S (p ++ (S ++ rest)) p.length 0 acc (by rw [List.length_append]; omega) (fun k _ k2 => h k (by omega))
  have ed : (p ++ (S ++ rest)).drop p.length = S ++ rest := List.drop_left
  rw [List.drop_zero, Nat.zero_add, List.take_left] at run
  rw [run, spl_at hS (by rw [ed]; exact pre_self S rest), ← drop_two, ed, List.drop_left]
theorem spl_last {S p acc : List Nat} (h : ∀ i, i < p.length → pre S (p.drop i) = false) : spl S 0 acc p = [acc ++ p] := by
  have run := spl_run S p p.length 0 acc (by omega) (fun k _ k2 => h k (by omega))
  rw [List.drop_zero, Nat.zero_add, List.drop_length, spl_nil, List.take_length] at run
  exact run
theorem free_of {s : Nat} {S p q : List Nat} (h : s ∉ p) : ∀ i, i < p.length → pre (s :: S) ((p ++ q).drop i) = false := fun i hi => by
  have hlt : i < (p ++ q).length := by rw [List.length_append]; omega
  have e : (p ++ q).drop i = (p ++ q)[i] :: (p ++ q).drop (i + 1) := List.drop_eq_getElem_cons hlt
  rw [e]
  refine pre_of_head _ _ fun z => h ?_
  have e1 : (p ++ q)[i] = p[i] := List.getElem_append_left hi
  rw [← z, e1]
  exact List.getElem_mem hi
theorem spl_part1 {s : Nat} {S p rest acc : List Nat} (h : s ∉ p) : spl (s :: S) 0 acc (p ++ (s :: S ++ rest)) = (acc ++ p) :: spl (s :: S) 0 [] rest :=
  spl_part (by simp) (free_of h)
theorem spl_last1 {s : Nat} {S p acc : List Nat} (h : s ∉ p) : spl (s :: S) 0 acc p = [acc ++ p] := spl_last fun i hi => by
  have z := free_of (S := S) (q := []) h i hi
  rw [List.append_nil] at z
  exact z
def joinL (S : List Nat) : List (List Nat) → List Nat
  | [] => []
  | [p] => p
  | p :: q :: r => p ++ (S ++ joinL S (q :: r))
def numL (n : Nat) : List Nat := (Nat.toDigits 10 n).map Char.toNat
def wstep (st : List (List Nat) × List Nat) (c : Nat) : List (List Nat) × List Nat :=
  if Unicode.isSpace c = true then (if st.2 = [] then st else (st.1 ++ [st.2], [])) else (st.1, st.2 ++ [c])
def wfin (st : List (List Nat) × List Nat) : List (List Nat) := if st.2 = [] then st.1 else st.1 ++ [st.2]
theorem len0_tl (x : Str) : x.length = 0 ↔ tl x = [] := by
  rw [len_tl]
  exact List.length_eq_zero_iff
theorem step_tl (ws : List Str) (u : Str) (c : Nat) : ((KWd.step (ws, u) c).1.map tl, tl (KWd.step (ws, u) c).2) = wstep (ws.map tl, tl u) c := by
  by_cases hc : Unicode.isSpace c = true
  · by_cases hu : u.length = 0
    · have a : KWd.step (ws, u) c = (ws, u) := (if_pos hc).trans (if_pos hu)
      have b : wstep (ws.map tl, tl u) c = (ws.map tl, tl u) := (if_pos hc).trans (if_pos ((len0_tl u).mp hu))
      rw [a, b] <;> rfl
    · have a : KWd.step (ws, u) c = (ws ++ [u], Str.empty) := (if_pos hc).trans (if_neg hu)
      have b : wstep (ws.map tl, tl u) c = (ws.map tl ++ [tl u], []) := (if_pos hc).trans (if_neg fun z => hu ((len0_tl u).mpr z))
      rw [a, b]
      show ((ws ++ [u]).map tl, ([] : List Nat)) = _
      rw [List.map_append] <;> rfl
  · have a : KWd.step (ws, u) c = (ws, u ++ ⟨#[c]⟩) := if_neg hc
    have b : wstep (ws.map tl, tl u) c = (ws.map tl, tl u ++ [c]) := if_neg hc
    rw [a, b]
    show (ws.map tl, tl (u ++ ⟨#[c]⟩)) = _
    rw [tl_append] <;> rfl
theorem wfold_word : ∀ (p : List Nat) (ws : List (List Nat)) (u : List Nat), (∀ c ∈ p, Unicode.isSpace c = false) → p.foldl wstep (ws, u) = (ws, u ++ p)
  | [], ws, u, _ => by rw [List.append_nil] <;> rfl
  | c :: r, ws, u, h => by
    have hc := h c (List.mem_cons_self ..)
    rw [List.foldl_cons]
    have e : wstep (ws, u) c = (ws, u ++ [c]) := if_neg (by rw [hc]; exact Bool.false_ne_true)
    rw [e, wfold_word r ws (u ++ [c]) fun d hd => h d (List.mem_cons_of_mem _ hd), List.append_assoc] <;> rfl
end TL
end 
namespace L2
open PySem PySem.Spec PyProof.Rows
def rNewStrs (ys : List Str) : Hp → VK → Prop := fun H Q => ∀ p, H p = none → Q (.ref p) (upd H p (.lst (ys.map V.str)))
section
variable {X : Cx} {pins : List (Addr × Obj)} {σ : St} {H : Hp} {s : Shared} {Q : VK}
end
section
variable {X : Cx}
end
section
variable {X : Cx} {o e : Expr} {to te : TE}
def tM0 (r : V → List V → Hp → VK → Prop) (to : TE) : TE := fun σ H Q => to σ H fun x H1 => (∃ a, x = .str a) ∧ r x [] H1 Q
def tM1 (r : V → List V → Hp → VK → Prop) (to te : TE) : TE := fun σ H Q => to σ H fun x H1 => (∃ a, x = .str a) ∧ te σ H1 fun y H2 => r x [y] H2 Q
end
end L2
namespace L2
open PySem PySem.Spec PyProof.Rows
section
variable {X : Cx}
end
def clipS (n d : Nat) : Option Int → Int
  | none => (d : Int)
  | some i => max 0 (min (if i < 0 then i + (n : Int) else i) (n : Int))
def cutS (z : Str) (lo hi : Option Int) : Str :=
  ⟨((z.cps.toList.drop (HT.sIx z.length 0 lo)).take (HT.sIx z.length z.length hi - HT.sIx z.length 0 lo)).toArray⟩
def rSlS : V → Option Int → Option Int → Hp → VK → Prop := fun x lo hi H Q => ∃ z, x = .str z ∧ z.length ≤ sizeLine ∧ Q (.str (cutS z lo hi)) H
end L2
namespace Att
open PySem PySem.W PySem.Calls PyProof.Rows
theorem ints_of_wellAll {P : Params} {h : Heap} : ∀ (ns : List Int) (vs : List Value), WellAll P h vs (ns.map WData.int) → IntsAre vs ns := by
  intro ns
  induction ns with
  | nil =>
    intro vs w
    rw [List.map_nil] at w
    cases w
    exact .nil
  | cons n ns ih =>
    intro vs w
    rw [List.map_cons] at w
    cases w with
    | cons a b =>
      cases a
      exact .cons _ _ (ih _ b)
theorem script_of {l : OpenLaw} {n : Nat} (hn : l.most = some n) {P : Params} {h : Heap} {args : List WData} {vals : List Value}
    (hpre : l.row.toRowW.claim.pre args = true) (hwl : WellAll P h vals args) :
    ∃ a vs ns, vals = [Value.ref a] ∧ args = [WData.list (ns.map WData.int)] ∧ h.get? a = some { cls := .type "list", data := .seq vs.toArray } ∧ IntsAre vs ns ∧ ns.length ≤ n := by
  have hsh : WShape.hasAll [] args [.list .int] = true := (pre_splitW hpre).1
  have hc : l.pre.holds [] { args := args } = true := (pre_splitW hpre).2
  obtain ⟨d, r, rfl, h1, h2⟩ := hasAllW_cons hsh
  obtain rfl := hasAllW_nil h2
  obtain ⟨xs, rfl, h3⟩ := hasW_list h1
  obtain ⟨ns, rfl⟩ := items_int h3
  have hlen : ns.length ≤ n := by
    unfold OpenLaw.pre at hc
    have h4 : (WTm.not (.lt (.lit (.int (n : Int))) (.len (.arg 0)))).holds [] { args := [.list (ns.map .int)] } = true := by
      have h4 := (holds_andW hc).1
      rw [hn] at h4
      exact h4
    have h5 := condW_of h4 (w_not (w_lt w_lit (w_len_list (w_arg rfl))))
    rw [List.length_map] at h5
    refine Nat.le_of_not_lt fun q => ?_
    have q' : (n : Int) < ((ns.length : Nat) : Int) := by omega
    first
      | (rw [decide_eq_true q'] at h5; exact absurd h5 (by decide))
      | (simp at h5; omega)
  cases hwl with
  | cons w1 w2 =>
    cases w2
    cases w1 with
    | list ho hall => exact ⟨_, _, ns, rfl, rfl, ho, ints_of_wellAll ns _ hall, hlen⟩
theorem post_true (l : OpenLaw) (args : List WData) : l.row.toRowW.claim.post args (.bool true) args = true :=
  postW_of (r := l.row.toRowW) (X := (true == true))
    (show WShape.has [] (.bool true) .bool = true by first | rfl | decide | simp [WShape.has, WShape.arms, WShape.armsAll])
    (show (WTm.eq .res (.lit (.bool true))).value [] { args := args, res := some (.bool true), after := args } = some (.bool (true == true)) from w_eq_bool (w_res rfl) w_lit) rfl
theorem attach_call {l : OpenLaw} {n : Nat} {q : Program} {loose : List Str} {XP : (Str → Option Value) → Heap → Prop} {YP : World → Heap → Prop} {d : DefRec}
    (hn : l.most = some n) (hdf : d.params.defaults = [])
    (call : ∀ (w : World) (s₀ s₁ : Shared) (mg mb : Str → Option Value) (fa : Addr) (o : Obj) (pm cd doc : Value) (a : Addr) (vs : List Value) (ns : List Int),
      Ground q loose [] XP w s₀ mg mb s₁.heap → YP w s₁.heap →
      s₁.heap.get? fa = some o → o.data = .func (docDef d.name d.params d.body d.scope pm cd doc) → s₁.heap.CodeRec cd d.name → mg d.name = some (.ref fa) →
      s₁.heap.get? a = some { cls := .type "list", data := .seq vs.toArray } → IntsAre vs ns → ns.length ≤ n → s₁.gens = #[] →
      codeAny (model l.prog w) callerA (.call (.ref fa) ⟨[.ref a], []⟩) (fun r s' => r = .ok (.ret (.bool true)) ∧ OldK s₁.heap s'.heap ∧ s'.os = s₁.os ∧ AllBare s'.gens) s₁) :
    WalkO q loose XP YP l.row.toRowW d [] (fun f vs => PySem.call f vs) := by
  intro w s₀ s₁ mg mb G Y fa o pm cd doc dV kV ho hd hcd hD hmg hg args vals as hpre hlay hrd hwl hlo
  obtain rfl : dV = .none := Dflts.none hD hdf
  obtain rfl : kV = .none := Dflts.noKw hD
  obtain ⟨a, vs, ns, rfl, rfl, hobj, hints, hlen⟩ := script_of hn hpre hwl
  refine enter_call (codeAny_mono (call w s₀ s₁ mg mb fa o pm cd doc a vs ns G Y ho (fd_plain hd) hcd hmg hobj hints hlen hg) fun r s' hq => ?_)
  obtain ⟨rfl, h2, h3, h4⟩ := hq
  exact ⟨.inl ⟨.bool true, .bool true, [], rfl, fun _ => rfl, .bool true, post_true l _, fun _ => ⟨List.Pairwise.nil, fun _ hm => (nomatch hm)⟩⟩, h2, h3, h4⟩
section
variable {prog : Program} {w : World} {A : Around} {E : Value → Shared → Prop} {s : Shared} {K : Frag}
def noObjs (h : Heap) : Heap := { h with objs := #[] }
def ledger (h : Heap) (L d : Addr) : List (Addr × Obj) := (List.range h.objs.size).filterMap fun a => if a = L ∨ a = d then none else (h.get? a).map fun o => (a, o)
end
end Att
namespace L2
open PySem PySem.Spec PyProof.Rows
theorem vals_ints : ∀ {vs : List Value} {ns : List Int}, IntsAre vs ns → Vals (ns.map V.int) vs
  | _, _, .nil => .nil
  | _, _, .cons n t h => .cons ⟨t, rfl⟩ (vals_ints h)
def Only (H : Hp) : Prop := ∀ b, H b = none ∨ ∃ o xs, H b = some (.frz o (.lst xs))
theorem law_call {P : Program} {w : World} {K : PySem.W.Frag} {mg mb : Str → Option Value} {CX : CXT} {k : Nat} {fa a : Addr} {fd : FuncData} {x : Str} {sp : Sp} {s₁ : Shared} {vs : List Value} {ns : List Int}
    (KX : K.In s₁.heap) (hns : s₁.heap.Ns mainGlobals mg) (hb : s₁.heap.Ns builtinsNs mb) (hbb : ∀ x : Str, x ≠ "__name__" → mb x = bootBuiltins x) (hlim : s₁.heap.NoLimit) (hg : s₁.gens = #[])
    (ha : s₁.heap.get? a = some { cls := .type "list", data := .seq vs.toArray }) (hi : IntsAre vs ns) (hl : ns.length ≤ sizeLine) (hr : Room k callerA)
    (F : ∀ base : Heap, K.In base → base.Ns mainGlobals mg → FnOk P w K mg base CX k fa fd [x] sp) (hbind : ∀ (s : Shared) (u : Value), BindsTo s fd ⟨[u], []⟩ [(x, u)])
    (hsp : ∀ H : Hp, Only H → SqL K H a (ns.map V.int) → sp [.ref a] H (fun v _ => v = .bl true) fun _ _ _ => False)
    (hCX : ∀ H e s', CX [] H s₁ (fun _ _ _ => False) e s' → False) :
    codeAny (model P w) callerA (.call (.ref fa) ⟨[.ref a], []⟩) (fun r s' => r = .ok (.ret (.bool true)) ∧ OldK s₁.heap s'.heap ∧ s'.os = s₁.os ∧ AllBare s'.gens) s₁ := by
  have rv := vals_ints hi
  have lenV := hi.length
  -- from an abstract heap in which nothing but the script may be tracked
  have core : ∀ H : Hp, Only H → SqL K H a (ns.map V.int) → HOk P w H s₁.heap → (∀ b, H b ≠ none → b = a) → (H a ≠ none → K.lookup a = none) →
      codeAny (model P w) callerA (.call (.ref fa) ⟨[.ref a], []⟩) (fun r s' => r = .ok (.ret (.bool true)) ∧ OldK s₁.heap s'.heap ∧ s'.os = s₁.os ∧ AllBare s'.gens) s₁ := by
    intro H hO hS hok hA hK
    have base_of : ∀ {b : Addr} {o : Obj}, s₁.heap.get? b = some o → H b = none → (hidT s₁.heap H).get? b = some o := fun e n => hidT_get e n
    have noA : ∀ {b : Addr} {o : Obj} {es : Array DictEntry} {ep : Nat}, s₁.heap.get? b = some o → o.data = .dict es ep → H b = none := fun {b o es ep} e d => by
      cases q : H b with
      | none => rfl
      | some u =>
        have e' : b = a := hA b (by rw [q]; simp)
        subst e'
        rw [ha] at e; cases e
        have d' : Data.seq vs.toArray _ = Data.dict es ep := d
        cases d'
    have nsK : ∀ {b : Addr} {m : Str → Option Value}, s₁.heap.Ns b m → (hidT s₁.heap H).Ns b m := fun {b m} ⟨o, es, ep, e, d, r⟩ => ⟨o, es, ep, base_of e (noA e d), d, r⟩
    have hKb : K.In (hidT s₁.heap H) := fun b o e => base_of (KX b o e) (by
      cases q : H b with
      | none => rfl
      | some u =>
        have e' : b = a := hA b (by rw [q]; simp)
        subst e'
        rw [hK (by rw [q]; simp)] at e; cases e)
    have hM : Mod K mg (hidT s₁.heap H) := ⟨hKb, nsK hns, ⟨mb, nsK hb, hbb⟩, let ⟨mc, h1, h2⟩ := hlim; ⟨mc, nsK h1, h2⟩⟩
    have e0 : Env0 P w K mg (hidT s₁.heap H) callerA [] s₁ H := ⟨rfl, hM, fun b o e => of_hidT e, Nat.le_of_eq (hidT_size _ _), trivial, fun b hb => absurd (show b ∈ ([] : List Addr) from hb) (by simp), hok, .of_eq hg⟩
    refine codeAny_mono ((F _ hKb (nsK hns)).run callerA [] s₁ H ⟨[.ref a], []⟩ [.ref a] [.ref a] _ _ hr e0 (hbind s₁ (.ref a)) (.cons rfl .nil) (hsp H hO hS)) fun r s' h => ?_
    cases r with
    | error e => exact (hCX H e s' h).elim
    | ok fl =>
      cases fl with
      | next => exact False.elim h
      | brk => exact False.elim h
      | cont => exact False.elim h
      | ret u =>
        obtain ⟨v, H', os, bare, un, hok', r', q⟩ := h
        have q' : v = .bl true := q
        subst q'
        obtain rfl : u = Value.bool true := r'
        refine ⟨rfl, OldK.of_keep fun b o e => ?_, os, bare⟩
        cases q : H b with
        | none => exact un.keep b o e q (by intro z; exact absurd (show b ∈ ([] : List Addr) from z) (by simp)) (by simp)
        | some u =>
          rcases hO b with z | ⟨ob, xs, z⟩
          · rw [q] at z; cases z
          · have z2 := un.frzs b ob _ z
            obtain ⟨e1, _⟩ := hok b _ z
            obtain ⟨e2, _⟩ := hok' b _ z2
            rw [e] at e1; cases e1
            exact e2
  cases hk : K.lookup a with
  | some o =>
    -- the script is one of the module's own objects
    have e := KX a o hk
    rw [ha] at e
    cases e
    refine core (fun _ => none) (fun _ => .inl rfl) (.inr ⟨_, vs.toArray, _, hk, rfl, rfl, rfl, by rw [List.size_toArray, lenV]; exact hl, by simpa using rv⟩) (fun b u z => by have z' : (none : Option HO) = some u := z; cases z') (fun b z => absurd rfl z) fun z => absurd rfl z
  | none =>
    refine core (fun b => if b = a then some (.frz { cls := .type "list", data := .seq vs.toArray } (.lst (ns.map V.int))) else none) (fun b => ?_) (.inl (.inr ⟨{ cls := .type "list", data := .seq vs.toArray }, if_pos rfl⟩)) (fun b u z => ?_) (fun b z => ?_) fun _ => hk
    · by_cases hb : b = a
      · exact .inr ⟨_, _, if_pos hb⟩
      · exact .inl (if_neg hb)
    · by_cases hb : b = a
      · have z' := (if_pos hb).symm.trans z
        cases z'
        subst hb
        exact ⟨ha, by rw [List.length_map]; exact hl, vs, _, rv, ha⟩
      · have z' := (if_neg hb).symm.trans z
        cases z'
    · by_cases hb : b = a
      · exact hb
      · exact absurd (if_neg hb) z
end L2
namespace L2
open PySem PySem.Spec PyProof.Rows
abbrev KOf {K : PySem.W.Frag} {h : Heap} (_ : K.In h) : PySem.W.Frag := K
theorem walk_of {l : PySem.W.OpenLaw} {n k : Nat} {q : Program} {loose : List Str} {XP : (Str → Option Value) → Heap → Prop} {YP : World → Heap → Prop} {d : DefRec} {K : Params → PySem.W.Frag} {CX : World → CXT} {sp : World → Sp} {x : Str}
    (hn : l.most = some n) (hn2 : n ≤ sizeLine) (hdf : d.params.defaults = []) (hr : Room k callerA)
    (hY : ∀ (w : World) (h : Heap), YP w h → (K w.params).In h)
    (F : ∀ (w : World) (mg : Str → Option Value) (fa : Addr) (h : Heap), (K w.params).In h → h.Ns mainGlobals mg → mg d.name = some (.ref fa) →
      ∃ fd : FuncData, (∀ (s : Shared) (u : Value), BindsTo s fd ⟨[u], []⟩ [(x, u)]) ∧
        ∀ base : Heap, (K w.params).In base → base.Ns mainGlobals mg → FnOk l.prog w (K w.params) mg base (CX w) k fa fd [x] (sp w))
    (hsp : ∀ (w : World) (H : Hp) (a : Addr) (ns : List Int), ns.length ≤ n → Only H → SqL (K w.params) H a (ns.map V.int) → sp w [.ref a] H (fun v _ => v = .bl true) fun _ _ _ => False)
    (hCX : ∀ (w : World) (H : Hp) (s : Shared) (e : Value) (s' : Shared), CX w [] H s (fun _ _ _ => False) e s' → False) :
    PySem.W.WalkO q loose XP YP l.row.toRowW d [] (fun f vs => PySem.call f vs) := by
  refine Att.attach_call hn hdf fun w s₀ s₁ mg mb fa o pm cd doc a vs ns G Y ho hd hcd hmg hobj hints hlen hg => ?_
  have KX := hY w _ Y
  obtain ⟨fd, hb, hF⟩ := F w mg fa _ KX G.T.g hmg
  exact law_call KX G.T.g G.T.b G.T.builtins G.T.nolimit hg hobj hints (Nat.le_trans hlen hn2) hr hF hb (fun H hO hS => hsp w H a ns hlen hO hS) fun H e s' => hCX w H s₁ e s'
end L2
/- THE LAST THEOREM (shape; LID, My.* are yours):
   My.Adr: a structure of the addresses that your layer names (classes, functions); My.Txt K t: a structure (Prop) of the equations over K;
   My.txt_mk : {K} {implicit addresses ..} (e1 : nsIn K mainGlobals "law" = some (some (.ref f))) (e2 : K.lookup f = some ⟨oc, od, .func (fnOf "law" "law" params body scope dV kV doc pm an cdv ct), sl⟩) (e3 : codeIn K cdv "law" = true) .. : ∃ t, My.Txt K t
set_option maxRecDepth 100000 in
set_option maxHeartbeats 0 in
theorem PySem.Challenge.cw_LID_holds : PySem.Challenge.rw_LID.Holds := by
  w_on; o_law; k_head; (case hw => w_witness2)
  k_fill
  refine L2.walk_of (l := PySem.Challenge.rw_LID) (n := 63) (k := 40) (x := "script") (CX := fun w => ..) (sp := fun _ => My.sp_law) rfl (by decide) rfl ⟨rfl, by decide, by decide⟩ (fun w h Y => PySem.W.kIn_of Y) ?F ?S ?C
  case F =>
    intro w mg fa h KX G hmg
    have T : ∃ t, My.Txt (L2.KOf KX) t := by
      dsimp only [L2.KOf]                          -- K must stand as «<heap const> w.params» for k_is
      refine' My.txt_mk ?e1 ?e2 ?e3 ..
      (case e1 => PySem.W.k_is)                    -- in the order: a name -> its address -> its object -> its parts
      (case e2 => PySem.W.k_is)
      ..
    obtain ⟨t, T⟩ := T
    have e0 := hmg.symm.trans (PySem.W.mg_of KX G T.law)
    cases e0                                       -- fa is the law's own address
    exact ⟨_, fun s u => .of_eq rfl, fun base kb nb => My.law_fn T kb nb⟩     -- if «.of_eq rfl» comes too early: refine' ⟨_, ?b, fun base kb nb => My.law_fn T kb nb⟩; exact fun s u => .of_eq rfl
  case S => exact fun w H a ns hl hO hS => ..
  case C => exact ..
(the tactic k_is has no namespace: write k_is) -/
namespace L2
open PySem PySem.Spec PyProof.Rows
def inClass (s : Stmt) (j : Nat) : Stmt := match s with
  | .ClassDef _ _ _ body _ _ _ _ _ _ _ => body.getD j (.Pass ⟨0, 0, 0, 0⟩)
  | _ => .Pass ⟨0, 0, 0, 0⟩
def defArgs (s : Stmt) : Arguments := match s with
  | .FunctionDef _ a _ _ _ _ _ _ _ _ => a
  | _ => { posonlyargs := [], args := [], vararg := none, kwonlyargs := [], kw_defaults := [], kwarg := none, defaults := [] }
def defBody (s : Stmt) : List Stmt := match s with
  | .FunctionDef _ _ b _ _ _ _ _ _ _ => b
  | _ => []
def defScope (s : Stmt) : Scope := match s with
  | .FunctionDef _ _ _ _ _ _ sc _ _ _ => sc
  | _ => { kind := .function, names := [], isGenerator := false, isCoroutine := false }
abbrev CX0 : CXT := fun _ _ _ _ _ _ => False
abbrev E0 : XK := fun _ _ _ => False
theorem pass0 {X : Cx} : Passes CX0 X E0 := fun _ _ _ _ _ _ _ h => h.elim
structure Fun (K : PySem.W.Frag) (x qual : Str) (st : Stmt) (f : Addr) (fd : FuncData) : Prop where
  ex : ∃ (oc : Value) (od : Option Addr) (kV doc pm : Value) (an : Option Addr) (cdv ct : Value) (osl : Array (Option Value)),
    fd = PySem.W.fnOf x qual (defArgs st) (defBody st) (defScope st) .none kV doc pm an cdv ct ∧ K.lookup f = some ⟨oc, od, .func fd, osl⟩ ∧ PySem.W.codeIn K cdv qual = true
  kp : PySem.W.keepIn K (.ref f) = true
section
variable {P : Program} {w : World} {K : PySem.W.Frag} {mg : Str → Option Value} {base : Heap}
theorem Fun.ok {x qual : Str} {st : Stmt} {f : Addr} {fd : FuncData} {N ps : List Str} {k : Nat} {sp : Sp} (F : Fun K x qual st f fd) (S : FnScope N ps (defScope st)) (len : ∀ vs H Q E, sp vs H Q E → vs.length = ps.length)
    (hbody : ∀ (cdv : Value) (A : Around) (outer : List Env) (s : Shared) (H : Hp) (vs : List V) (Q : VK) (E : XK), Room k (A.deeper (envOfC qual (defScope st) s.heap.objs.size f cdv)) → sp vs H Q E →
      ∃ t, PSs (cxOf CX0 P w K mg base N qual (defScope st) f cdv A outer s H E).nox (defBody st) t ∧ t { nx := fun _ H' => Q .non H', rt := Q } (start N vs) H) : FnOk P w K mg base CX0 (k + 1) f fd ps sp := by
  obtain ⟨oc, od, kV, doc, pm, an, cdv, ct, osl, rfl, lk, hcd⟩ := F.ex
  refine fn_of lk hcd S len fun A outer s H vs Q E hr hsp => ?_
  obtain ⟨t, h, q⟩ := hbody cdv A outer s H vs Q E hr hsp
  exact ⟨t, h.nox, q⟩
theorem Fun.binds {x qual : Str} {st : Stmt} {f : Addr} {fd : FuncData} {ps : List Str} (F : Fun K x qual st f fd)
    (h : ∀ (kV doc pm : Value) (an : Option Addr) (cdv ct : Value) (us : List Value), us.length = ps.length → bindArgs (PySem.W.fnOf x qual (defArgs st) (defBody st) (defScope st) .none kV doc pm an cdv ct) ⟨us, []⟩ = pure (ps.zip us)) : Binds K fd ps [] := by
  obtain ⟨oc, od, kV, doc, pm, an, cdv, ct, osl, rfl, lk, hcd⟩ := F.ex
  exact .all (h kV doc pm an cdv ct)
theorem fun_mk {x qual : Str} {st : Stmt} {f : Addr} {oc : Value} {od an : Option Addr} {osl : Array (Option Value)} {kV doc pm cdv ct : Value} (l : K.lookup f = some ⟨oc, od, .func (PySem.W.fnOf x qual (defArgs st) (defBody st) (defScope st) .none kV doc pm an cdv ct), osl⟩)
    (c : PySem.W.codeIn K cdv qual = true) (k : PySem.W.keepIn K (.ref f) = true) : Fun K x qual st f (PySem.W.fnOf x qual (defArgs st) (defBody st) (defScope st) .none kV doc pm an cdv ct) := ⟨⟨oc, od, kV, doc, pm, an, cdv, ct, osl, rfl, l, c⟩, k⟩
end
section
variable {X : Cx}
theorem pv (i : Nat) {x : Str} {pos : Pos} (hN : X.N[i]? = some x := by rfl) (hv : Vis X.env.scope x := by first | exact Or.inl rfl | exact Or.inr (Or.inl rfl) | exact Or.inr (Or.inr rfl)) (hd : (x == ("__debug__" : Str)) = false := by decide)
    (hcd : (x == ("__classdict__" : Str)) = false := by decide) : PE X (.Name x pos) (tVar i) := pe_var hN hv hd hcd
end
theorem iteF {A B : Prop} (h : B) : if false = true then A else B := by
  rw [if_neg Bool.false_ne_true]
  exact h
theorem iteT {A B : Prop} (h : A) : if true = true then A else B := by
  rw [if_pos rfl]
  exact h
def Same (H H' : Hp) : Prop := ∀ b o, H b = some o → H' b = some o
theorem Same.refl (H : Hp) : Same H H := fun _ _ h => h
theorem Same.trans {H H1 H2 : Hp} (a : Same H H1) (b : Same H1 H2) : Same H H2 := fun c o h => b c o (a c o h)
theorem Same.free {H H' : Hp} (e : Same H H') {l : Addr} (h : H' l = Option.none) : H l = Option.none := by
  cases q : H l with
  | none => rfl
  | some o =>
    rw [e l o q] at h
    cases h
theorem Same.seq {K : PySem.W.Frag} {H H' : Hp} {a : Addr} {xs : List V} (e : Same H H') (h : SqL K H a xs) : SqL K H' a xs := by
  rcases h with (h | ⟨o, h⟩) | h
  · exact .inl (.inl (e _ _ h))
  · exact .inl (.inr ⟨o, e _ _ h⟩)
  · exact .inr h
section
variable {κ : Type} [DecidableEq κ]
theorem nd_snoc : ∀ {l : List κ} {k : κ}, l.Nodup → ¬ k ∈ l → (l ++ [k]).Nodup
  | [], k, _, _ => by simp
  | a :: r, k, h, hk => by
    obtain ⟨h1, h2⟩ := List.nodup_cons.mp h
    show (a :: (r ++ [k])).Nodup
    refine List.nodup_cons.mpr ⟨fun m => ?_, nd_snoc h2 fun m => hk (List.mem_cons.mpr (Or.inr m))⟩
    rcases List.mem_append.mp m with q | q
    · exact h1 q
    · exact hk (List.mem_cons.mpr (Or.inl (List.mem_singleton.mp q).symm))
theorem dropK_pos {p : κ × V} {r : List (κ × V)} {k : κ} (e : p.1 = k) : dropK (p :: r) k = dropK r k := by
  unfold dropK
  rw [List.filter_cons, if_neg (by simp [e])]
theorem dropK_neg {p : κ × V} {r : List (κ × V)} {k : κ} (e : ¬ p.1 = k) : dropK (p :: r) k = p :: dropK r k := by
  unfold dropK
  rw [List.filter_cons, if_pos (by simp [e])]
theorem dropK_no : ∀ {kvs : List (κ × V)} {k : κ}, ¬ k ∈ kvs.map (·.1) → dropK kvs k = kvs
  | [], _, _ => rfl
  | p :: r, k, h => by
    have h' : ¬ k ∈ r.map (·.1) := fun m => by
      obtain ⟨q, hq, e⟩ := List.mem_map.mp m
      exact h (List.mem_map.mpr ⟨q, List.mem_cons.mpr (Or.inr hq), e⟩)
    rw [dropK_neg fun e => h (List.mem_map.mpr ⟨p, List.mem_cons.mpr (Or.inl rfl), e⟩), dropK_no h']
theorem dropK_mem {kvs : List (κ × V)} {k : κ} {p : κ × V} (h : p ∈ dropK kvs k) : p ∈ kvs := (List.mem_filter.mp h).1
end
theorem at_of {xs : List V} {z : Int} {j : Nat} {v : V} (e : z = (j : Int)) (h : xs[j]? = some v) : atI xs z = some v := by
  rw [e]
  exact atI_nat h
end L2
set_option Elab.async false
set_option linter.all false
set_option maxRecDepth 100000
namespace L2
open PySem PySem.Spec PyProof.Rows
structure Has (P : Program) (w : World) (K : PySem.W.Frag) (mg : Str → Option Value) (base : Heap) (k : Nat) (x : Str) (ps : List Str) (sp : Sp) : Prop where
  ex : ∃ f fd, FnOk P w K mg base CX0 k f fd ps sp ∧ Binds K fd ps [] ∧ PySem.W.keepIn K (.ref f) = true ∧ mg x = some (.ref f) ∧ ∃ o, K.lookup f = some o ∧ o.data = .func fd
structure FunAt (K : PySem.W.Frag) (mg : Str → Option Value) (x : Str) (st : Stmt) (ps : List Str) : Prop where
  ex : ∃ f fd, Fun K x x st f fd ∧ Binds K fd ps [] ∧ mg x = some (.ref f)
theorem pcall {X : Cx} {k k' : Nat} {x : Str} {ps : List Str} {sp : Sp} {p pos : Pos} {e : Expr} {es : List Expr} {t : TA} (h : Has X.prog X.w X.K X.mg X.base k x ps sp) (hr : Room k' X.A) (hk : k ≤ k') (hg : Gl X x)
    (ha : PA X (e :: es) t) (hdb : (x == ("__debug__" : Str)) = false := by decide) (he : starEach (e :: es) X.env = (false, eval e X.env) :: starEach es X.env := by rfl) (hpl : (backTo pos (starEach es X.env)).any (·.1) = false := by rfl) :
    PE X (.Call (.Name x p) (e :: es) [] pos) (tCall sp [] E0 t) := by
  intro pins s σ H Q I q
  obtain ⟨f, fd, F, b, kp, m, _⟩ := h.ex
  exact pe_call F (hr.mono hk) hg m kp b .nil pass0 ha hdb he hpl pins s σ H Q I q
theorem FunAt.has {P : Program} {w : World} {K : PySem.W.Frag} {mg : Str → Option Value} {base : Heap} {x : Str} {st : Stmt} {N ps : List Str} {k : Nat} {sp : Sp} (F : FunAt K mg x st ps) (S : FnScope N ps (defScope st)) (len : ∀ vs H Q E, sp vs H Q E → vs.length = ps.length)
    (hbody : ∀ (f : Addr) (cdv : Value) (A : Around) (outer : List Env) (s : Shared) (H : Hp) (vs : List V) (Q : VK) (E : XK), Room k (A.deeper (envOfC x (defScope st) s.heap.objs.size f cdv)) → sp vs H Q E →
      ∃ t, PSs (cxOf CX0 P w K mg base N x (defScope st) f cdv A outer s H E).nox (defBody st) t ∧ t { nx := fun _ H' => Q .non H', rt := Q } (start N vs) H) : Has P w K mg base (k + 1) x ps sp := by
  obtain ⟨f, fd, F, b, m⟩ := F.ex
  refine ⟨f, fd, F.ok S len (fun cdv A outer s H vs Q E hr h => hbody f cdv A outer s H vs Q E hr h), b, F.kp, m, ?_⟩
  obtain ⟨_, _, _, _, _, _, _, _, _, _, lk, _⟩ := F.ex
  exact ⟨_, lk, rfl⟩
theorem law_ok {P : Program} {w : World} {K : PySem.W.Frag} {mg : Str → Option Value} {base : Heap} {x : Str} {st : Stmt} {f : Addr} {fd : FuncData} {ps : List Str} {k : Nat} {sp : Sp} (F : Fun K x x st f fd) (m : mg x = some (.ref f)) (h : Has P w K mg base k x ps sp) : FnOk P w K mg base CX0 k f fd ps sp := by
  obtain ⟨f', fd', F', b, kp, m', o, lk, ed⟩ := h.ex
  rw [m] at m'
  cases m'
  obtain ⟨_, _, _, _, _, _, _, _, _, _, lk', _⟩ := F.ex
  rw [lk] at lk'
  cases lk'
  cases ed
  exact F'
theorem at_mk {K : PySem.W.Frag} {mg : Str → Option Value} {x : Str} {st : Stmt} {f : Addr} {ps : List Str} {h : Heap} {oc : Value} {od an : Option Addr} {osl : Array (Option Value)} {kV doc pm cdv ct : Value} (X : K.In h) (G : h.Ns mainGlobals mg)
    (a : PySem.W.nsIn K mainGlobals x = some (some (.ref f))) (l : K.lookup f = some ⟨oc, od, .func (PySem.W.fnOf x x (defArgs st) (defBody st) (defScope st) .none kV doc pm an cdv ct), osl⟩) (c : PySem.W.codeIn K cdv x = true) (k : PySem.W.keepIn K (.ref f) = true)
    (hb : ∀ (kV doc pm : Value) (an : Option Addr) (cdv ct : Value) (us : List Value), us.length = ps.length → bindArgs (PySem.W.fnOf x x (defArgs st) (defBody st) (defScope st) .none kV doc pm an cdv ct) ⟨us, []⟩ = pure (ps.zip us)) : FunAt K mg x st ps :=
  ⟨f, _, fun_mk l c k, (fun_mk l c k).binds hb, PySem.W.mg_of X G a⟩
def lsAt (H : Hp) : V → Option (List V)
  | .ref a => match H a with
    | some (.lst xs) => some xs
    | _ => none
  | _ => none
def tpAt (H : Hp) : V → Option (List V)
  | .ref a => match H a with
    | some (.tup xs) => some xs
    | _ => none
  | _ => none
def sqAt (H : Hp) : V → Option (List V)
  | .ref a => match H a with
    | some (.lst xs) => some xs
    | some (.tup xs) => some xs
    | _ => none
  | _ => none
theorem lsAt_some {H : Hp} {x : V} {xs : List V} (h : lsAt H x = some xs) : ∃ a, x = .ref a ∧ H a = some (.lst xs) := by
  unfold lsAt at h
  split at h
  · split at h
    · rename_i a _ ys e; cases h; exact ⟨a, rfl, e⟩
    · cases h
  · cases h
theorem tpAt_some {H : Hp} {x : V} {xs : List V} (h : tpAt H x = some xs) : ∃ a, x = .ref a ∧ H a = some (.tup xs) := by
  unfold tpAt at h
  split at h
  · split at h
    · rename_i a _ ys e; cases h; exact ⟨a, rfl, e⟩
    · cases h
  · cases h
theorem sqAt_some {H : Hp} {x : V} {xs : List V} (h : sqAt H x = some xs) : ∃ a, x = .ref a ∧ (H a = some (.lst xs) ∨ H a = some (.tup xs)) := by
  unfold sqAt at h
  split at h
  · split at h
    · rename_i a _ ys e; cases h; exact ⟨a, rfl, .inl e⟩
    · rename_i a _ ys e; cases h; exact ⟨a, rfl, .inr e⟩
    · cases h
  · cases h
theorem lsAt_of {H : Hp} {a : Addr} {xs : List V} (h : H a = some (.lst xs)) : lsAt H (.ref a) = some xs := by unfold lsAt; simp only [h]
theorem tpAt_of {H : Hp} {a : Addr} {xs : List V} (h : H a = some (.tup xs)) : tpAt H (.ref a) = some xs := by unfold tpAt; simp only [h]
theorem sqAt_lst {H : Hp} {a : Addr} {xs : List V} (h : H a = some (.lst xs)) : sqAt H (.ref a) = some xs := by unfold sqAt; simp only [h]
theorem sqAt_tup {H : Hp} {a : Addr} {xs : List V} (h : H a = some (.tup xs)) : sqAt H (.ref a) = some xs := by unfold sqAt; simp only [h]
section
variable {X : Cx}
def rIxLF : R2 := fun x y H Q => ∃ xs, lsAt H x = some xs ∧ ∃ i, y = .int i ∧ ∃ v, atI xs i = some v ∧ Q v H
def rIxTF : R2 := fun x y H Q => ∃ xs, tpAt H x = some xs ∧ ∃ i, y = .int i ∧ ∃ v, atI xs i = some v ∧ Q v H
theorem IxR.imp {r r' : R2} (h : IxR X r) (hi : ∀ x y H Q, r' x y H Q → r x y H Q) : IxR X r' := fun value slice pins s σ H x y v u Q I rx ry q hs => h value slice pins s σ H x y v u Q I rx ry (hi _ _ _ _ q) hs
theorem OpR.imp {f : Value → Value → Sem Value} {r r' : R2} (h : OpR X f r) (hi : ∀ x y H Q, r' x y H Q → r x y H Q) : OpR X f r' := fun pins s σ H x y v u Q I rx ry q => h pins s σ H x y v u Q I rx ry (hi _ _ _ _ q)
theorem CallR.imp {f : Value} {r r' : List V → Hp → VK → Prop} (h : CallR X f r) (hi : ∀ xs H Q, r' xs H Q → r xs H Q) : CallR X f r' := fun pins s σ H xs us Q I rs q => h pins s σ H xs us Q I rs (hi _ _ _ q)
theorem ix_listF : IxR X rIxLF := ix_list.imp fun x y H Q h => by
  obtain ⟨xs, e, i, rfl, v, ev, q⟩ := h
  obtain ⟨a, rfl, ha⟩ := lsAt_some e
  exact ⟨a, xs, i, v, rfl, rfl, SqL.of ha, ev, q⟩
theorem ix_tupF : IxR X rIxTF := ix_tup.imp fun x y H Q h => by
  obtain ⟨xs, e, i, rfl, v, ev, q⟩ := h
  obtain ⟨a, rfl, ha⟩ := tpAt_some e
  exact ⟨a, xs, i, v, rfl, rfl, SqT.of ha, ev, q⟩
theorem sq_or {K : PySem.W.Frag} {H : Hp} {x : V} {xs : List V} (h : sqAt H x = some xs) : ∃ a, x = .ref a ∧ (SqL K H a xs ∨ SqT K H a xs) := by
  obtain ⟨a, e, h | h⟩ := sqAt_some h
  · exact ⟨a, e, .inl (SqL.of h)⟩
  · exact ⟨a, e, .inr (SqT.of h)⟩
theorem call_lenF : CallR X (.builtin "len") (fun xs H Q => ∃ x, xs = [x] ∧ ∃ ys, sqAt H x = some ys ∧ Q (.int ys.length) H) := call_len_seq.imp fun xs H Q h => by
  obtain ⟨x, rfl, ys, e, q⟩ := h
  obtain ⟨a, rfl, ha⟩ := sq_or (K := X.K) e
  exact ⟨a, ys, rfl, ha, q⟩
theorem call_listF : CallR X (.type "list") (fun xs H Q => ∃ x, xs = [x] ∧ ∃ ys, sqAt H x = some ys ∧ ∀ l, H l = none → Q (.ref l) (upd H l (.lst ys))) := call_list_of.imp fun xs H Q h => by
  obtain ⟨x, rfl, ys, e, q⟩ := h
  obtain ⟨a, rfl, ha⟩ := sq_or (K := X.K) e
  exact ⟨a, ys, rfl, ha, q⟩
theorem call_tupleF : CallR X (.type "tuple") (fun xs H Q => ∃ x, xs = [x] ∧ ∃ ys, lsAt H x = some ys ∧ ∀ l, H l = none → Q (.ref l) (upd H l (.tup ys))) := call_tuple_of.imp fun xs H Q h => by
  obtain ⟨x, rfl, ys, e, q⟩ := h
  obtain ⟨a, rfl, ha⟩ := lsAt_some e
  exact ⟨a, ys, rfl, .inl ⟨SqL.of ha, q⟩⟩
def rInF (neg : Bool) : R2 := fun x y H Q => ∃ xs, sqAt H y = some xs ∧ flatV x = true ∧ xs.all flatV = true ∧ Q (.bl (if neg then !inV x xs else inV x xs)) H
theorem op_inF : OpR X (compareOp .In) (rInF false) := op_in_seq.imp fun x y H Q h => by
  obtain ⟨xs, e, f1, f2, q⟩ := h
  obtain ⟨a, rfl, ha⟩ := sq_or (K := X.K) e
  exact ⟨a, xs, rfl, ha, f1, f2, q⟩
def rSlLF : V → Option Int → Option Int → Hp → VK → Prop := fun x lo hi H Q => ∃ xs, lsAt H x = some xs ∧ ∀ p, H p = none → Q (.ref p) (upd H p (.lst (cutV xs lo hi)))
def gTupF (n : Nat) (t : TGs) : TG := fun v σ H Q => ∃ xs, tpAt H v = some xs ∧ xs.length = n ∧ t xs σ H Q
theorem pg_tupF {es : List Expr} {k : Nat} {t : TGs} {n : Nat} {pos : Pos} (hc : X.calm = true) (h : PGs X es t)
    (hn : (assignEach es X.env).length = n := by rfl) (hst : (assignEach es X.env).findIdx? (·.1) = none := by rfl) : PG X (.Tuple es k pos) (gTupF n t) := by
  intro pins s σ H v u Q I r hw
  obtain ⟨xs, e, hl, hw⟩ := hw
  obtain ⟨a, rfl, ha⟩ := tpAt_some e
  exact pg_tup hc h hn hst pins s σ H _ u Q I r ⟨a, xs, rfl, SqT.of ha, hl, hw⟩
inductive TyF : V → String → Prop
  | non : TyF .non "NoneType"
  | bl (b : Bool) : TyF (.bl b) "bool"
  | int (i : Int) : TyF (.int i) "int"
  | str (x : Str) : TyF (.str x) "str"
theorem TyF.ty {K : PySem.W.Frag} {H : Hp} {v : V} {t : String} (h : TyF v t) : TyOf K H v (.type t) := by
  cases h with
  | non => exact .non
  | bl b => exact .bl b
  | int i => exact .int i
  | str x => exact .str x
end
section
variable {t u : TS} {D : Ends} {σ : St} {H : Hp} {te ta tb tc : TE} {tt tA tB' : TT} {as : TA} {Q : VK} {QB : Bool → Hp → Prop} {QA : List V → Hp → Prop} {i : Nat} {r : R2}
theorem r_seq (h : t { D with nx := u D } σ H) : tSeq t u D σ H := h
theorem r_next (h : D.nx σ H) : tNext D σ H := h
theorem r_name {v : V} {R : St → Hp → Prop} (h : R (σ.set i (some v)) H) : gName i v σ H R := h
theorem r_asg {g : TG} (h : te σ H fun x H1 => g x σ H1 D.nx) : tAsg te g D σ H := h
theorem r_ret (h : te σ H D.rt) : tRet te D σ H := h
theorem r_drop (h : te σ H fun _ H1 => D.nx σ H1) : tDrop te D σ H := h
theorem r_ifs (h : tt σ H fun b H1 => if b = true then t D σ H1 else u D σ H1) : tIfS tt t u D σ H := h
theorem r_var {v : V} (e : σ[i]? = some (some v)) (h : Q v H) : tVar i σ H Q := ⟨v, e, h⟩
theorem r_c {v : V} (h : Q v H) : tC v σ H Q := h
theorem r_op (h : ta σ H fun x H1 => tb σ H1 fun y H2 => r x y H2 Q) : tOp r ta tb σ H Q := h
theorem r_I0 {g : Int → Int → V} {a b : Int} (h : Q (g a b) H) : rI0 g (.int a) (.int b) H Q := ⟨_, _, rfl, rfl, h⟩
theorem r_mod {g : Int → Int → V} {a b : Int} (c : 0 < b) (h : Q (g a b) H) : rI (fun _ j => 0 < j) g (.int a) (.int b) H Q := ⟨_, _, rfl, rfl, c, h⟩
theorem r_div {g : Int → Int → V} {a b : Int} (c : 0 < b) (c' : b < 1073741824) (h : Q (g a b) H) : rI CDiv g (.int a) (.int b) H Q := ⟨_, _, rfl, rfl, ⟨c, c'⟩, h⟩
theorem r_mulL {g : Int → Int → V} {a b : Int} (c : -(2 ^ 64) < a) (c' : a < 2 ^ 64) (h : Q (g a b) H) : rI CMul g (.int a) (.int b) H Q := ⟨_, _, rfl, rfl, .inl ⟨c, c'⟩, h⟩
theorem r_mulR {g : Int → Int → V} {a b : Int} (c : -(2 ^ 64) < b) (c' : b < 2 ^ 64) (h : Q (g a b) H) : rI CMul g (.int a) (.int b) H Q := ⟨_, _, rfl, rfl, .inr ⟨c, c'⟩, h⟩
theorem r_pow {g : Int → Int → V} {a b : Int} (c : 0 ≤ b) (c' : b ≤ 1000000) (c'' : a.natAbs < 2 ^ 64) (h : Q (g a b) H) : rI CPow g (.int a) (.int b) H Q := ⟨_, _, rfl, rfl, ⟨c, c', c''⟩, h⟩
theorem r_test (h : te σ H fun x H' => ∃ k, x = .bl k ∧ QB k H') : tTest te σ H QB := h
theorem r_b (h : te σ H fun x H' => ∃ k, x = .bl k ∧ QB k H') : tB te σ H QB := h
theorem r_k {P : Bool → Prop} {k : Bool} (h : P k) : ∃ k', V.bl k = .bl k' ∧ P k' := ⟨k, rfl, h⟩
theorem r_if {p A B : Prop} [Decidable p] (h1 : p → A) (h2 : ¬ p → B) : if decide p = true then A else B := by
  by_cases h : p
  · rw [if_pos (decide_eq_true h)]; exact h1 h
  · rw [if_neg (by simpa using h)]; exact h2 h
theorem r_cons (h : te σ H fun x H1 => as σ H1 fun xs H2 => QA (x :: xs) H2) : tCons te as σ H QA := h
theorem r_nil (h : QA [] H) : tNil σ H QA := h
theorem r_call {sp : Sp} {dvs : List V} {E : XK} (h : as σ H fun vs H1 => sp (vs ++ dvs) H1 Q E) : tCall sp dvs E as σ H Q := h
theorem r_cb {rr : List V → Hp → VK → Prop} (h : as σ H fun vs H1 => rr vs H1 Q) : tCB rr as σ H Q := h
theorem r_lst (h : as σ H fun xs H1 => xs.length ≤ sizeLine ∧ ∀ p, H1 p = none → Q (.ref p) (upd H1 p (.lst xs))) : tLst as σ H Q := h
theorem r_tup (h : as σ H fun xs H1 => xs.length ≤ sizeLine ∧ ∀ p, H1 p = none → Q (.ref p) (upd H1 p (.tup xs))) : tTup as σ H Q := h
theorem r_sub {to ti : TE} {ts : TSet} {v : V} {R : St → Hp → Prop} (h : to σ H fun o H1 => ti σ H1 fun i H2 => ts o i v H2 fun H3 => R σ H3) : gSub to ti ts v σ H R := h
theorem r_ixL {a : Addr} {xs : List V} {k : Int} {v : V} (e : H a = some (.lst xs)) (z : atI xs k = some v) (h : Q v H) : rIxLF (.ref a) (.int k) H Q := ⟨xs, lsAt_of e, k, rfl, v, z, h⟩
theorem r_ixT {a : Addr} {xs : List V} {k : Int} {v : V} (e : H a = some (.tup xs)) (z : atI xs k = some v) (h : Q v H) : rIxTF (.ref a) (.int k) H Q := ⟨xs, tpAt_of e, k, rfl, v, z, h⟩
theorem r_setL {a : Addr} {xs : List V} {k : Int} {j : Nat} {v : V} {R : Hp → Prop} (e : H a = some (.lst xs)) (z : ixN xs.length k = some j) (h : R (upd H a (.lst (xs.set j v)))) : rSetL (.ref a) (.int k) v H R := ⟨a, xs, k, j, rfl, rfl, e, z, h⟩
theorem r_andV (h : ta σ H fun x H1 => ∃ c, x = .bl c ∧ if c = true then tb σ H1 Q else Q (.bl false) H1) : tAndV ta tb σ H Q := h
theorem r_notV (h : ta σ H fun x H1 => ∃ c, x = .bl c ∧ Q (.bl (!c)) H1) : tNotV ta σ H Q := h
theorem r_and (h : tA σ H fun c H1 => if c = true then tB' σ H1 QB else QB false H1) : tAnd tA tB' σ H QB := h
theorem r_or (h : tA σ H fun c H1 => if c = true then QB true H1 else tB' σ H1 QB) : tOr tA tB' σ H QB := h
theorem r_not (h : tA σ H fun c H1 => QB (!c) H1) : tNot tA σ H QB := h
theorem r_eqI {a b : Int} (h : Q (.bl (decide (a = b))) H) : rEq (.int a) (.int b) H Q := ⟨rfl, by
  have : decide (V.int a = V.int b) = decide (a = b) := by simp
  rw [this]; exact h⟩
theorem r_neI {a b : Int} (h : Q (.bl (!decide (a = b))) H) : rNe (.int a) (.int b) H Q := ⟨rfl, by
  have : decide (V.int a = V.int b) = decide (a = b) := by simp
  rw [this]; exact h⟩
theorem r_ipI {f : Int → Int → Int} {a b : Int} (h : Q (.int (f a b)) H) : ipI f (.int a) (.int b) H Q := ⟨_, _, rfl, rfl, h⟩
theorem r_bm {K : PySem.W.Frag} {T : String} {rr : V → List V → Hp → VK → Prop} (h : ta σ H fun x H1 => tyV K T x H1 ∧ as σ H1 fun xs H2 => rr x xs H2 Q) : tBM K T rr ta as σ H Q := h
theorem r_yes (h : QB true H) : tYes σ H QB := h
end
def Sam1 (q : Addr) (H H' : Hp) : Prop := ∀ b o, H b = some o → b ≠ q → H' b = some o
theorem Sam1.trans {q : Addr} {H H1 H2 : Hp} (a : Sam1 q H H1) (b : Sam1 q H1 H2) : Sam1 q H H2 := fun c o h n => b c o (a c o h n) n
theorem Sam1.upd (q : Addr) (H : Hp) (o : HO) : Sam1 q H (L2.upd H q o) := fun c u h n => by rw [upd_ne n]; exact h
theorem Same.new {H : Hp} {p : Addr} (h : H p = none) (o : HO) : Same H (upd H p o) := fun b u q => by rw [upd_ne (ne_of_none q h)]; exact q
theorem Same.late {H H1 : Hp} {p : Addr} (a : Same H H1) (h : H p = none) (o : HO) : Same H (upd H1 p o) := fun b u q => by rw [upd_ne (ne_of_none q h)]; exact a b u q
theorem Sam1.late {q : Addr} {H H1 : Hp} {p : Addr} (a : Sam1 q H H1) (h : H p = none) (o : HO) : Sam1 q H (L2.upd H1 p o) := fun b u e n => by rw [upd_ne (ne_of_none e h)]; exact a b u e n
theorem Sam1.free {q : Addr} {H H' : Hp} (e : Sam1 q H H') {l : Addr} (h : H' l = none) (n : l ≠ q) : H l = none := by
  cases z : H l with
  | none => rfl
  | some o => rw [e l o z n] at h; cases h
end L2
namespace L2
open PySem PySem.Spec PyProof.Rows
section
variable {t u : TS} {D : Ends} {σ : St} {H : Hp} {te ta tb tc : TE} {tt tA tB' : TT} {as : TA} {Q : VK} {QB : Bool → Hp → Prop} {QA : List V → Hp → Prop} {i : Nat} {r : R2} {K : PySem.W.Frag} {R : It → Hp → Prop} {g : TG} {vs : List Nat}
theorem r_for {wi : TI} (h : wi σ H fun J H1 => ∃ W : Nat → Nat → St → Hp → Prop, (∃ m, W 0 m σ H1) ∧ ∀ i m σ H, W i m σ H →
  (J.stop i H ∧ D.nx σ H) ∨ (J.go i H ∧ ∃ N : St → Hp → Prop, (∀ σ' H', N σ' H' → ∃ m', m' < m ∧ W (i + 1) m' σ' H') ∧ ∀ x H', J.yld i H x H' → g x σ H' fun σ2 H2 => t { D with nx := N, ct := N, bk := D.nx } σ2 H2)) : tFor wi g t D σ H := h
theorem r_lc {wi : TI} (h : wi σ H fun J H1 => ∀ D, H1 D = none → ∃ W : Nat → Nat → Hp → Prop, (∃ m, W 0 m (upd H1 D (.lst []))) ∧ ∀ i m H, W i m H →
  (J.stop i H ∧ Q (.ref D) H) ∨ (J.go i H ∧ ∃ Nx : Hp → Prop, (∀ H', Nx H' → ∃ m', m' < m ∧ W (i + 1) m' H') ∧ ∀ x H', J.yld i H x H' → g x (wipe σ vs) H' fun σ2 H2 => wipe σ2 vs = wipe σ vs ∧ tt σ2 H2 fun b H3 =>
    if b = true then te σ2 H3 fun y H4 => ∃ acc, H4 D = some (.lst acc) ∧ acc.length < sizeLine ∧ Nx (upd H4 D (.lst (acc ++ [y]))) else Nx H3)) : tLc wi g tt te vs σ H Q := h
theorem r_rng1 (h : as σ H fun vs H1 => ∃ j : Int, vs = [.int j] ∧ -(2 ^ 62) ≤ j ∧ j < 2 ^ 62 ∧ R (Itr 0 j.toNat) H1) : iRng1 as σ H R := h
theorem r_ilist (h : te σ H fun x H1 => ∃ a, x = .ref a ∧ (∃ xs, SqL K H1 a xs) ∧ R (Itl K a) H1) : iList K te σ H R := h
theorem r_itup (h : te σ H fun x H1 => ∃ a, x = .ref a ∧ (∃ xs, SqT K H1 a xs) ∧ R (Itt K a) H1) : iTup K te σ H R := h
theorem r_enum (h : as σ H fun vs H1 => ∃ a xs, vs = [.ref a] ∧ SqL K H1 a xs ∧ R (Ite K a) H1) : iEnum K as σ H R := h
theorem r_sl {rr : V → Option Int → Option Int → Hp → VK → Prop} {tl th : TO} (h : te σ H fun x H1 => tl σ H1 fun l H2 => th σ H2 fun u H3 => rr x l u H3 Q) : tSl rr te tl th σ H Q := h
theorem r_nopart {QO : Option Int → Hp → Prop} (h : QO none H) : tNoPart σ H QO := h
theorem r_part {QO : Option Int → Hp → Prop} (h : te σ H fun x H1 => ∃ i, x = .int i ∧ QO (some i) H1) : tPart te σ H QO := h
theorem r_int {P : Int → Prop} {k : Int} (h : P k) : ∃ k', V.int k = .int k' ∧ P k' := ⟨k, rfl, h⟩
theorem r_inF {neg : Bool} {x : V} {a : Addr} {xs : List V} (e : sqAt H (.ref a) = some xs) (f : flatV x = true) (f' : xs.all flatV = true) (h : Q (.bl (if neg then !inV x xs else inV x xs)) H) : rInF neg x (.ref a) H Q := ⟨xs, e, f, f', h⟩
theorem r_append {a : Addr} {xs : List V} {y : V} (e : H a = some (.lst xs)) (z : xs.length < sizeLine) (h : Q .non (upd H a (.lst (xs ++ [y])))) : rAppend (.ref a) [y] H Q := ⟨a, xs, y, rfl, rfl, e, z, h⟩
theorem r_gtup {n : Nat} {ts : TGs} {a : Addr} {xs : List V} {RS : St → Hp → Prop} (e : H a = some (.tup xs)) (l : xs.length = n) (h : ts xs σ H RS) : gTupF n ts (.ref a) σ H RS := ⟨xs, tpAt_of e, l, h⟩
theorem r_gcons {gt : TG} {gs : TGs} {v : V} {rest : List V} {RS : St → Hp → Prop} (h : gt v σ H fun σ' H' => gs rest σ' H' RS) : gCons gt gs (v :: rest) σ H RS := ⟨v, rest, rfl, h⟩
theorem r_gnil {RS : St → Hp → Prop} (h : RS σ H) : gNil [] σ H RS := ⟨rfl, h⟩
end
def TupsAt (H : Hp) (ps : List Addr) (bs : List (List Int)) : Prop := ps.length = bs.length ∧ ∀ (i : Nat) (p : Addr) (b : List Int), ps[i]? = some p → bs[i]? = some b → H p = some (.tup (b.map V.int))
theorem TupsAt.nil (H : Hp) : TupsAt H [] [] := ⟨rfl, fun i p b h => by simp at h⟩
theorem TupsAt.snoc {H : Hp} {ps : List Addr} {bs : List (List Int)} {p : Addr} {b : List Int} (h : TupsAt H ps bs) (e : H p = some (.tup (b.map V.int))) : TupsAt H (ps ++ [p]) (bs ++ [b]) := by
  obtain ⟨hl, hq⟩ := h
  refine ⟨by simp [hl], fun i x y h1 h2 => ?_⟩
  by_cases hi : i < ps.length
  · rw [List.getElem?_append_left hi] at h1
    rw [List.getElem?_append_left (by omega)] at h2
    exact hq i x y h1 h2
  · rw [List.getElem?_append_right (by omega)] at h1
    rw [List.getElem?_append_right (by omega)] at h2
    have e1 : i - ps.length = 0 := by
      have := (List.getElem?_eq_some_iff.mp h1).1
      simp at this; omega
    rw [e1] at h1
    rw [← hl, e1] at h2
    simp at h1 h2
    subst h1 h2
    exact e
theorem TupsAt.mono {H H' : Hp} {ps : List Addr} {bs : List (List Int)} (h : TupsAt H ps bs) (s : ∀ p o, p ∈ ps → H p = some o → H' p = some o) : TupsAt H' ps bs :=
  ⟨h.1, fun i p b h1 h2 => s p _ (List.mem_of_getElem? h1) (h.2 i p b h1 h2)⟩
theorem TupsAt.same {H H' : Hp} {ps : List Addr} {bs : List (List Int)} (h : TupsAt H ps bs) (s : Same H H') : TupsAt H' ps bs := h.mono fun p o _ e => s p o e
theorem TupsAt.get {H : Hp} {ps : List Addr} {bs : List (List Int)} (h : TupsAt H ps bs) {i : Nat} {p : Addr} (e : ps[i]? = some p) : ∃ b, bs[i]? = some b ∧ H p = some (.tup (b.map V.int)) := by
  have hi : i < bs.length := by rw [← h.1]; exact (List.getElem?_eq_some_iff.mp e).1
  exact ⟨bs[i], by simp [hi], h.2 i p _ e (by simp [hi])⟩
def Blks (H : Hp) (r : Addr) (bs : List (List Int)) : Prop := ∃ ps : List Addr, H r = some (.lst (ps.map V.ref)) ∧ TupsAt H ps bs
theorem Blks.same {H H' : Hp} {r : Addr} {bs : List (List Int)} (h : Blks H r bs) (s : Same H H') : Blks H' r bs := let ⟨ps, e, t⟩ := h; ⟨ps, s _ _ e, t.same s⟩
theorem inV_int (x : Int) : ∀ xs : List Int, inV (.int x) (xs.map V.int) = xs.contains x
  | [] => rfl
  | y :: ys => by
    have ih := inV_int x ys
    unfold inV at ih ⊢
    rw [List.map_cons, List.any_cons, ih, List.contains_cons]
    congr 1
    show eqV (V.int y) (V.int x) = (x == y)
    unfold eqV
    by_cases h : x = y
    · subst h; simp
    · show (y == x) = (x == y)
      have a : (y == x) = false := beq_eq_false_iff_ne.mpr fun z => h z.symm
      have b : (x == y) = false := beq_eq_false_iff_ne.mpr h
      rw [a, b]
theorem flat_ints (xs : List Int) : (xs.map V.int).all flatV = true := by
  rw [List.all_eq_true]
  intro v hv
  obtain ⟨i, _, rfl⟩ := List.mem_map.mp hv
  rfl
end L2
set_option Elab.async false
set_option linter.all false
set_option maxRecDepth 100000
namespace PySem
open Sem (wp)
open AutoSeq1 (wpAny_loadPart')
section
variable {prog : Program} {w : World} {A : Around} {E : Value → Shared → Prop} {s : Shared}
end
end PySem
set_option Elab.async false
set_option linter.all false
set_option maxRecDepth 100000
namespace L2
open PySem PySem.Spec PyProof.Rows
section
variable {X : Cx}
def rngV (lo : Int) (n : Nat) : List Int := (List.range n).map fun (i : Nat) => lo + (i : Int)
theorem rngV_length (lo : Int) (n : Nat) : (rngV lo n).length = n := by unfold rngV; rw [List.length_map, List.length_range]
def rInsert : V → List V → Hp → VK → Prop := fun x vs H Q => ∃ l xs i y, x = .ref l ∧ vs = [.int i, y] ∧ H l = some (.lst xs) ∧ 0 ≤ i ∧ i < 2 ^ 63 ∧ xs.length < sizeLine ∧ Q .non (upd H l (.lst (xs.take i.toNat ++ y :: xs.drop i.toNat)))
theorem Vals.insert {xs : List V} {us : List Value} {y : V} {u : Value} (r : Vals xs us) (ry : RelV y u) (k : Nat) : Vals (xs.take k ++ y :: xs.drop k) (us.take k ++ u :: us.drop k) := (r.take k).append (.cons ry (r.drop k))
theorem mt_insert : MtM X "list.insert" rInsert := by
  intro pins s σ H x vs v us Q I rx rv h
  obtain ⟨l, xs, i, y, rfl, rfl, hH, h1, h2, hz, q⟩ := h
  cases rx
  obtain ⟨u, w, rfl, ⟨t, rfl⟩, ry⟩ := vals2 rv
  obtain ⟨z, its, n, r, hl, e⟩ := I.lstM hH
  have hfit : Builtin.List.listFitsIndex i = true := fitsIndex_both (by omega) h2
  refine call_meets F.slot_list_insert ⟨_, e, rfl⟩ F.entry_list_insert (F.args_list_insert_3 _ _ _)
    (AutoSeq1.list_insert_list_int_val_1 l its.toArray n i t w (by rw [hfit]; decide) (by rw [List.size_toArray]; omega)) ⟨e, ?_⟩
  refine ⟨.non, _, I.lset (its' := its.take i.toNat ++ w :: its.drop i.toNat) hH e ?_ (Vals.insert r ry i.toNat) ?_, rfl, q⟩
  · have hi : ¬ i < 0 := by omega
    simp only [hi, if_false]
    apply Array.ext'
    by_cases hk : i.toNat ≤ its.length
    · simp [Nat.min_eq_left hk]
      exact List.take_of_length_le (by rw [List.length_drop]; omega)
    · have hk' : its.length ≤ i.toNat := by omega
      simp [Nat.min_eq_right hk', List.take_of_length_le hk', List.drop_eq_nil_of_le hk']
  · rw [List.length_append, List.length_cons, List.length_take, List.length_drop]
    omega
theorem call_isinst {T : String} : CallR X (.builtin "isinstance") (fun xs H Q => ∃ x t b, xs = [x, .ty T] ∧ TyF x t ∧ PySem.W.kitOne X.K (.type t) (.type T) = some b ∧ Q (.bl b) H) := by
  intro pins s σ H xs us Q I r h
  obtain ⟨x, t, b, rfl, ty, e, q⟩ := h
  obtain ⟨u, w, rfl, rx, ry⟩ := vals2 r
  cases ry
  exact isinst_ok I rx ty.ty e fun tk => ⟨.bl b, H, I.tok tk, rfl, q⟩
end
end L2
namespace L2
open PySem PySem.Spec PyProof.Rows
theorem kit_ii {K : PySem.W.Frag} : PySem.W.kitOne K (.type "int") (.type "int") = some true := by unfold PySem.W.kitOne; rw [if_pos (by decide)]
theorem kit_ib {K : PySem.W.Frag} : PySem.W.kitOne K (.type "int") (.type "bool") = some false := by unfold PySem.W.kitOne; rw [if_neg (by decide)]; unfold PySem.W.kitCls; show (if PySem.W.kitMeta "bool" = true then PySem.W.subIn K (.type "int") (.type "bool") else none) = some false; rw [if_pos (by decide +kernel)]; unfold PySem.W.subIn; with_unfolding_all rfl
end L2
namespace L2
open PySem PySem.Spec PyProof.Rows
def tRevT (ta : TA) : TE := fun σ H Q => ta σ H fun vs H1 => ∃ a xs, vs = [.ref a] ∧ H1 a = some (.lst xs) ∧ ∀ l, H1 l = none → Q (.ref l) (upd H1 l (.tup xs.reverse))
end L2
namespace L2
open PySem PySem.Spec PyProof.Rows
section
variable {H : Hp} {Q : VK} {σ : St}
def cInt : List V → Hp → VK → Prop := fun xs H Q => (∃ i, xs = [.int i] ∧ Q (.int i) H) ∨ ∃ k, xs = [.bl k] ∧ Q (.int (if k then 1 else 0)) H
def cLen : List V → Hp → VK → Prop := fun xs H Q => ∃ x, xs = [x] ∧ ∃ ys, sqAt H x = some ys ∧ Q (.int ys.length) H
def cLenK (K : PySem.W.Frag) : List V → Hp → VK → Prop := fun xs H Q => ∃ p ys, xs = [.ref p] ∧ (SqL K H p ys ∨ SqT K H p ys) ∧ Q (.int ys.length) H
def cList : List V → Hp → VK → Prop := fun xs H Q => ∃ x, xs = [x] ∧ ∃ ys, sqAt H x = some ys ∧ ∀ l, H l = none → Q (.ref l) (upd H l (.lst ys))
def cTuple : List V → Hp → VK → Prop := fun xs H Q => ∃ x, xs = [x] ∧ ∃ ys, lsAt H x = some ys ∧ ∀ l, H l = none → Q (.ref l) (upd H l (.tup ys))
def cMin : List V → Hp → VK → Prop := fun xs H Q => ∃ i j, xs = [.int i, .int j] ∧ Q (.int (if j < i then j else i)) H
def cMax : List V → Hp → VK → Prop := fun xs H Q => ∃ i j, xs = [.int i, .int j] ∧ Q (.int (if j > i then j else i)) H
def cRng1 : List V → Hp → VK → Prop := fun xs H Q => ∃ n : Int, xs = [.int n] ∧ ∀ p, H p = none → Q (.ref p) (upd H p (.rng 0 n))
def cRng2 : List V → Hp → VK → Prop := fun xs H Q => ∃ m n : Int, xs = [.int m, .int n] ∧ ∀ p, H p = none → Q (.ref p) (upd H p (.rng m n))
def cTupRng : List V → Hp → VK → Prop := fun xs H Q => ∃ p lo hi, xs = [.ref p] ∧ H p = some (.rng lo hi) ∧ (-(2 ^ 62) ≤ lo ∧ lo < 2 ^ 62 ∧ -(2 ^ 62) ≤ hi ∧ hi < 2 ^ 62) ∧ (hi - lo).toNat ≤ 16777216 ∧ ∀ l, H l = none → Q (.ref l) (upd H l (.tup ((rngV lo (hi - lo).toNat).map V.int)))
def cListRng : List V → Hp → VK → Prop := fun xs H Q => ∃ p lo hi, xs = [.ref p] ∧ H p = some (.rng lo hi) ∧ (-(2 ^ 62) ≤ lo ∧ lo < 2 ^ 62 ∧ -(2 ^ 62) ≤ hi ∧ hi < 2 ^ 62) ∧ (hi - lo).toNat ≤ 16777216 ∧ ∀ l, H l = none → Q (.ref l) (upd H l (.lst ((rngV lo (hi - lo).toNat).map V.int)))
def cIsi (K : PySem.W.Frag) (T : String) : List V → Hp → VK → Prop := fun xs H Q => ∃ x t b, xs = [x, .ty T] ∧ TyF x t ∧ PySem.W.kitOne K (.type t) (.type T) = some b ∧ Q (.bl b) H
def cAll : List V → Hp → VK → Prop := fun xs H Q => ∃ (x : V) (bs : List Bool), xs = [x] ∧ lsAt H x = some (bs.map V.bl) ∧ Q (.bl (bs.all id)) H
def cAny : List V → Hp → VK → Prop := fun xs H Q => ∃ (x : V) (bs : List Bool), xs = [x] ∧ lsAt H x = some (bs.map V.bl) ∧ Q (.bl (bs.any id)) H
def cSum : List V → Hp → VK → Prop := fun xs H Q => ∃ (x : V) (ns : List Int), xs = [x] ∧ lsAt H x = some (ns.map V.int) ∧ Q (.int ns.sum) H
variable {X : Cx}
theorem k_int : CallR X (.type "int") cInt := call_int1
theorem k_len : CallR X (.builtin "len") cLen := call_lenF
theorem k_lenK : CallR X (.builtin "len") (cLenK X.K) := call_len_seq
theorem k_list : CallR X (.type "list") cList := call_listF
theorem k_tuple : CallR X (.type "tuple") cTuple := call_tupleF
theorem k_max (hc : X.calm = true) : CallR X (.builtin "max") cMax := call_max2 hc
theorem k_isi (T : String) : CallR X (.builtin "isinstance") (cIsi X.K T) := call_isinst
theorem k_all (hc : X.calm = true) : CallR X (.builtin "all") cAll := (cr_all hc).imp fun xs H Q h => by
  obtain ⟨x, bs, rfl, e, q⟩ := h
  obtain ⟨a, rfl, ha⟩ := lsAt_some e
  exact ⟨a, bs, rfl, SqL.of ha, q⟩
theorem r_intB {k : Bool} (h : ∀ z : Int, z = (if k then 1 else 0) → 0 ≤ z → z ≤ 1 → Q (.int z) H) : cInt [V.bl k] H Q :=
  .inr ⟨k, rfl, h _ rfl (by cases k <;> decide) (by cases k <;> decide)⟩
theorem r_len {a : Addr} {ys : List V} (e : sqAt H (.ref a) = some ys) (h : Q (.int ys.length) H) : cLen [V.ref a] H Q := ⟨_, rfl, ys, e, h⟩
theorem r_list {a : Addr} {ys : List V} (e : sqAt H (.ref a) = some ys) (h : ∀ l, H l = none → Q (.ref l) (upd H l (.lst ys))) : cList [V.ref a] H Q := ⟨_, rfl, ys, e, h⟩
theorem r_tuple {a : Addr} {ys : List V} (e : H a = some (.lst ys)) (h : ∀ l, H l = none → Q (.ref l) (upd H l (.tup ys))) : cTuple [V.ref a] H Q := ⟨_, rfl, ys, lsAt_of e, h⟩
theorem r_max2 {a b : Int} (h : Q (.int (if b > a then b else a)) H) : cMax [V.int a, V.int b] H Q := ⟨a, b, rfl, h⟩
theorem r_ii {K : PySem.W.Frag} {i : Int} (h : Q (.bl true) H) : cIsi K "int" [V.int i, V.ty "int"] H Q := ⟨_, _, _, rfl, .int i, kit_ii, h⟩
theorem r_ib {K : PySem.W.Frag} {i : Int} (h : Q (.bl false) H) : cIsi K "bool" [V.int i, V.ty "bool"] H Q := ⟨_, _, _, rfl, .int i, kit_ib, h⟩
theorem r_all {a : Addr} {bs : List Bool} (e : H a = some (.lst (bs.map V.bl))) (h : Q (.bl (bs.all id)) H) : cAll [V.ref a] H Q := ⟨_, bs, rfl, lsAt_of e, h⟩
theorem r_insert {l : Addr} {xs : List V} {i : Int} {y : V} (e : H l = some (.lst xs)) (h1 : 0 ≤ i) (h2 : i < 2 ^ 63) (z : xs.length < sizeLine) (h : Q .non (upd H l (.lst (xs.take i.toNat ++ y :: xs.drop i.toNat)))) : rInsert (.ref l) [.int i, y] H Q := ⟨l, xs, i, y, rfl, rfl, e, h1, h2, z, h⟩
end
end L2
namespace L2
open PySem PySem.Spec PyProof.Rows
end L2
set_option Elab.async false
set_option linter.all false
set_option maxRecDepth 100000
namespace L2
open PySem PySem.Spec PyProof.Rows
section
variable {K : PySem.W.Frag} {H : Hp} {Q : VK}
theorem dp_ints : ∀ ns : List Int, DpAll K H (ns.map V.int) (ns.map PyData.int)
  | [] => .nil
  | n :: ns => .cons (.int n) (dp_ints ns)
theorem lay_ints : ∀ ns : List Int, PyData.canLayAll0 (ns.map PyData.int) = true
  | [] => rfl
  | n :: ns => by
    show (PyData.canLay0 (.int n) && PyData.canLayAll0 (ns.map PyData.int)) = true
    rw [lay_ints ns]; rfl
theorem dep_ints : ∀ ns : List Int, PyData.depthAll (ns.map PyData.int) = 0
  | [] => rfl
  | n :: ns => by
    show max (PyData.depth (.int n)) (PyData.depthAll (ns.map PyData.int)) = 0
    rw [dep_ints ns]; rfl
theorem eqvA_ints : ∀ ns ms : List Int, PyData.eqvAll (ns.map PyData.int) (ms.map PyData.int) = decide (ns = ms)
  | [], [] => rfl
  | [], _ :: _ => rfl
  | _ :: _, [] => rfl
  | n :: ns, m :: ms => by
    show (n == m && PyData.eqvAll (ns.map PyData.int) (ms.map PyData.int)) = _
    rw [eqvA_ints ns ms]
    by_cases h : n = m
    · subst h; simp
    · simp [h]
def dB (bs : List (List Int)) : List PyData := bs.map fun b => .tuple (b.map PyData.int)
theorem eqvA_blks : ∀ bs cs : List (List Int), PyData.eqvAll (dB bs) (dB cs) = decide (bs = cs)
  | [], [] => rfl
  | [], _ :: _ => rfl
  | _ :: _, [] => rfl
  | b :: bs, c :: cs => by
    show (PyData.eqvAll (b.map PyData.int) (c.map PyData.int) && PyData.eqvAll (dB bs) (dB cs)) = _
    rw [eqvA_blks bs cs, eqvA_ints]
    by_cases h : b = c
    · subst h; simp
    · simp [h]
theorem lay_blks : ∀ bs : List (List Int), PyData.canLayAll0 (dB bs) = true
  | [] => rfl
  | b :: bs => by
    show (PyData.canLayAll0 (b.map PyData.int) && PyData.canLayAll0 (dB bs)) = true
    rw [lay_blks bs, lay_ints]; rfl
theorem dep_blks : ∀ bs : List (List Int), PyData.depthAll (dB bs) ≤ 1
  | [] => Nat.zero_le _
  | b :: bs => by
    show max (PyData.depthAll (b.map PyData.int) + 1) (PyData.depthAll (dB bs)) ≤ 1
    rw [dep_ints]
    exact Nat.max_le.mpr ⟨Nat.le_refl _, dep_blks bs⟩
theorem sh_blks (bs : List (List Int)) : SeqAt.shaped (.list (dB bs)) = true := by
  unfold SeqAt.shaped
  rw [Bool.and_eq_true]
  refine ⟨lay_blks bs, decide_eq_true ?_⟩
  show PyData.depthAll (dB bs) + 1 ≤ 64
  have := dep_blks bs
  omega
theorem dp_tups : ∀ {ps : List Addr} {bs : List (List Int)}, TupsAt H ps bs → DpAll K H (ps.map V.ref) (dB bs)
  | [], [], _ => .nil
  | [], _ :: _, h => by have := h.1; simp at this
  | _ :: _, [], h => by have := h.1; simp at this
  | p :: ps, b :: bs, h => by
    refine .cons (.tup (SqT.of (h.2 0 p b rfl rfl)) (dp_ints b)) (dp_tups (ps := ps) (bs := bs) ⟨by have := h.1; simpa using this, fun i x y h1 h2 => h.2 (i + 1) x y (by simpa using h1) (by simpa using h2)⟩)
theorem dp_blks {r : Addr} {bs : List (List Int)} (h : Blks H r bs) : Dp K H (.ref r) (.list (dB bs)) := let ⟨_, e, t⟩ := h; .lst (SqL.of e) (dp_tups t)
theorem r_neBlks {a b : Addr} {bs cs : List (List Int)} (ha : Blks H a bs) (hb : Blks H b cs) (h : Q (.bl (!decide (bs = cs))) H) : rNeD K (.ref a) (.ref b) H Q :=
  ⟨_, _, dp_blks ha, dp_blks hb, sh_blks _, sh_blks _, by show Q (.bl (!PyData.eqvAll _ _)) H; rw [eqvA_blks]; exact h⟩
end
theorem nth_ints {ts : List Int} {i : Nat} {y : V} (h : (ts.map V.int)[i]? = some y) : ∃ z, y = .int z ∧ ts[i]? = some z := by
  rw [List.getElem?_map] at h
  cases e : ts[i]? with
  | none => rw [e] at h; cases h
  | some z => rw [e] at h; cases h; exact ⟨z, rfl, rfl⟩
theorem nth_refs {ps : List Addr} {i : Nat} {y : V} (h : (ps.map V.ref)[i]? = some y) : ∃ p, y = .ref p ∧ ps[i]? = some p := by
  rw [List.getElem?_map] at h
  cases e : ps[i]? with
  | none => rw [e] at h; cases h
  | some z => rw [e] at h; cases h; exact ⟨z, rfl, rfl⟩
theorem take_snoc {α : Type} {l : List α} {i : Nat} {x : α} (h : l[i]? = some x) : l.take (i + 1) = l.take i ++ [x] := by
  rw [List.take_add_one, h]; rfl
def cnt (bs : List (List Int)) (ts : List Int) : Int := ((bs.filter fun b => ts.all fun t => b.contains t).length : Nat)
end L2
namespace L2
theorem r_nf {A B : Prop} (h : A) : if (!false) = true then A else B := iteT h
theorem r_nt {A B : Prop} (h : B) : if (!true) = true then A else B := iteF h
end L2
namespace L2
end L2
namespace L2
open PySem
theorem Same.sam1 {q : Addr} {H H1 H2 : Hp} (a : Same H H1) (n : H q = none) (b : Sam1 q H1 H2) : Same H H2 := fun c o h => b c o (a c o h) (ne_of_none h n)
theorem cut_ints (o : List Int) (lo hi : Option Int) : ∃ ts : List Int, cutV (o.map V.int) lo hi = ts.map V.int ∧ (∀ x ∈ ts, x ∈ o) ∧ ts.length ≤ o.length := by
  unfold cutV
  refine ⟨(o.drop _).take _, by rw [List.map_take, List.map_drop], fun x hx => List.mem_of_mem_drop (List.mem_of_mem_take hx), ?_⟩
  rw [List.length_take, List.length_drop]
  omega
end L2
namespace L2
open PySem
theorem TupsAt.late {H : Hp} {ps : List Addr} {bs : List (List Int)} {l : Addr} {xs : List V} (h : TupsAt H ps bs) (e : H l = some (.lst xs)) (o : HO) : TupsAt (upd H l o) ps bs := by
  refine ⟨h.1, fun i p b h1 h2 => ?_⟩
  have q := h.2 i p b h1 h2
  rw [upd_ne (ne_of q e (by intro z; cases z))]
  exact q
end L2
set_option Elab.async false
set_option linter.all false
set_option maxRecDepth 100000
namespace PyProof.Rows
open PySem PySem.Spec Builtin Builtin.Str Builtin.Int Builtin.Float
section
variable {prog : Program} {w : World} {A : Around} {E : Value → Shared → Prop} {s : Shared}
end
end PyProof.Rows
set_option Elab.async false
set_option linter.all false
set_option maxRecDepth 100000
namespace PySem.StrLaws
open Builtin Builtin.Str
end PySem.StrLaws
namespace L2
open PySem PySem.Spec PyProof.Rows
def pop (n : Nat) : Nat := if h : n = 0 then 0 else n % 2 + pop (n / 2)
termination_by n
decreasing_by omega
theorem pop_zero : pop 0 = 0 := by rw [pop]; simp
theorem pop_eq (n : Nat) : pop n = n % 2 + pop (n / 2) := by
  by_cases h : n = 0
  · subst h; rw [show (0 : Nat) / 2 = 0 from rfl, pop_zero]
  · rw [pop]; simp [h]
end L2
namespace L2
open PySem PySem.Spec PyProof.Rows
section
variable {X : Cx}
def tFb (tv : TE) : TE := fun σ H Q => tv σ H fun x H1 => ∃ n : Nat, x = .int (n : Int) ∧ n < 2 ^ 3000 ∧ Q (.str ⟨((Nat.toDigits 2 n).map Char.toNat).toArray⟩) H1
def mCount : V → List V → Hp → VK → Prop := fun x xs H Q => ∃ a b, x = .str a ∧ xs = [.str b] ∧ Q (.int (Txt.count a b)) H
theorem get_listF : PGet X rIxLF := by
  intro pins s σ H x y v u Q I rx ry h
  obtain ⟨xs, e, i, rfl, z, he, q⟩ := h
  obtain ⟨a, rfl, ha⟩ := lsAt_some e
  cases rx
  obtain ⟨t, rfl⟩ := ry
  obtain ⟨its, r, pl, hz⟩ := I.list (SqL.of ha)
  obtain ⟨j, h1, h2, h3, h4, h5⟩ := atI_get he
  obtain ⟨w, ew, rw'⟩ := r.get h2
  have hl := r.length
  have hn := line63
  have fin : EP X pins σ Q w s := ⟨z, H, I, rw', q⟩
  by_cases h0 : 0 ≤ i
  · have hj : i.toNat = j := by
      rw [seqIndex_of h0 h5] at h1
      exact Option.some.inj h1
    exact wpAny_getItem_list pl.isList h0 (by omega) (by rw [hj]; simpa using ew) fin
  · have hj : (i + (its.toArray.size : Int)).toNat = j := by
      rw [seqIndex_neg (by omega) h4] at h1
      rw [List.size_toArray, ← hl]
      exact Option.some.inj h1
    exact wpAny_getItem_list_neg pl.isList (by omega) (by rw [List.size_toArray]; omega) (by omega) (by rw [hj]; simpa using ew) fin
end
theorem for_enum {K : PySem.W.Frag} {a : Addr} {xs : List V} {g : TG} {tb : TS} {D : Ends} {σ : St} {H : Hp} (Pv : Nat → St → Hp → Prop) (h0 : Pv 0 σ H) (hl : ∀ i σ H, i ≤ xs.length → Pv i σ H → H a = some (.lst xs))
    (hs : ∀ i x σ H T, xs[i]? = some x → Pv i σ H → H T = none → g (.ref T) σ (upd H T (.tup [.int (i : Nat), x])) fun σ2 H2 => tb { D with nx := Pv (i + 1), ct := Pv (i + 1), bk := D.nx } σ2 H2) (hd : ∀ σ H, Pv xs.length σ H → D.nx σ H) :
    ∃ W : Nat → Nat → St → Hp → Prop, (∃ m, W 0 m σ H) ∧ ∀ i m σ H, W i m σ H →
      ((Ite K a).stop i H ∧ D.nx σ H) ∨ ((Ite K a).go i H ∧ ∃ N : St → Hp → Prop, (∀ σ' H', N σ' H' → ∃ m', m' < m ∧ W (i + 1) m' σ' H') ∧ ∀ x H', (Ite K a).yld i H x H' → g x σ H' fun σ2 H2 => tb { D with nx := N, ct := N, bk := D.nx } σ2 H2) := by
  refine ⟨fun i m σ H => m = xs.length - i ∧ i ≤ xs.length ∧ Pv i σ H, ⟨xs.length, by simp, Nat.zero_le _, h0⟩, ?_⟩
  rintro i m σ H ⟨rfl, hi, p⟩
  have q : SqL K H a xs := SqL.of (hl i σ H hi p)
  by_cases hlt : i < xs.length
  · refine .inr ⟨⟨xs, xs[i], q, by simp [hlt]⟩, Pv (i + 1), fun σ' H' p' => ⟨xs.length - (i + 1), by omega, rfl, hlt, p'⟩, fun x H' y => ?_⟩
    obtain ⟨T, x', rfl, hT, rfl, y⟩ := y
    exact hs i x' σ _ T (y xs q) p hT
  · have e : i = xs.length := by omega
    subst e
    exact .inl ⟨⟨xs, q, Nat.le_refl _⟩, hd σ H p⟩
section
variable {t u : TS} {D : Ends} {σ : St} {H : Hp} {te ta tb tc : TE} {Q : VK} {QB : Bool → Hp → Prop}
theorem r_augS {to ti : TE} {tget : V → V → Hp → VK → Prop} {tip : TIp} {tset : TSet} (h : to σ H fun o H1 => ti σ H1 fun i H2 => tget o i H2 fun x H3 => te σ H3 fun y H4 => tip x y H4 fun z H5 => tset o i z H5 fun H6 => D.nx σ H6) : tAugS to ti te tget tip tset D σ H := h
theorem r_rep {l : Addr} {k : Int} {xs : List V} (e : H l = some (.lst xs)) (h1 : -(2 ^ 63) ≤ k) (h2 : k < 2 ^ 63) (z : xs.length * k.toNat ≤ sizeLine) (h : ∀ p, H p = none → Q (.ref p) (upd H p (.lst (List.replicate k.toNat xs).flatten))) : rRep (.ref l) (.int k) H Q := ⟨l, k, xs, rfl, rfl, e, h1, h2, z, h⟩
theorem rep_ints (k : Nat) (z : Int) : (List.replicate k [V.int z]).flatten = (List.replicate k z).map V.int := by
  induction k with
  | zero => rfl
  | succ k ih => rw [List.replicate_succ, List.flatten_cons, ih, List.replicate_succ]; rfl
end
def mkR : List (List Int) → Int → Nat
  | [], _ => 0
  | b :: r, t => 2 * mkR r t + (if b.contains t then 1 else 0)
def mk (bs : List (List Int)) (t : Int) : Nat := mkR bs t
theorem and_two (a b : Nat) (x y : Bool) : (2 * a + (if x then 1 else 0)) &&& (2 * b + (if y then 1 else 0)) = 2 * (a &&& b) + (if x && y then 1 else 0) := by
  have e := @Nat.and_div_two (2 * a + (if x then 1 else 0)) (2 * b + (if y then 1 else 0))
  have o := @Nat.and_mod_two_eq_one (2 * a + (if x then 1 else 0)) (2 * b + (if y then 1 else 0))
  have e1 : (2 * a + (if x then 1 else 0)) / 2 = a := by split <;> omega
  have e2 : (2 * b + (if y then 1 else 0)) / 2 = b := by split <;> omega
  rw [e1, e2] at e
  cases x <;> cases y <;> simp only [Bool.and_true, Bool.and_false, Bool.true_and, Bool.false_and, if_true, if_false, Bool.false_eq_true] at e o ⊢ <;> omega
theorem pop_two (a : Nat) (x : Bool) : pop (2 * a + (if x then 1 else 0)) = pop a + (if x then 1 else 0) := by
  rw [pop_eq]
  cases x
  · have e1 : (2 * a + 0) % 2 = 0 := by omega
    have e2 : (2 * a + 0) / 2 = a := by omega
    show (2 * a + 0) % 2 + pop ((2 * a + 0) / 2) = _
    rw [e1, e2]; simp
  · have e1 : (2 * a + 1) % 2 = 1 := by omega
    have e2 : (2 * a + 1) / 2 = a := by omega
    show (2 * a + 1) % 2 + pop ((2 * a + 1) / 2) = _
    rw [e1, e2]; simp; omega
def meet (bs : List (List Int)) (t u : Int) : Nat := (bs.filter fun b => b.contains t && b.contains u).length
end L2
namespace L2
open PySem PySem.Spec PyProof.Rows
def rIsN : R2 := fun x y H Q => y = .non ∧ Q (.bl (decide (x = .non))) H
def rNotN : R2 := fun x y H Q => y = .non ∧ Q (.bl (!decide (x = .non))) H
theorem op_isNF {X : Cx} : OpR X (compareOp .Is) rIsN := op_isN
theorem op_notNF {X : Cx} : OpR X (compareOp .IsNot) rNotN := op_notN
def tTru (K : PySem.W.Frag) (ta : TE) : TT := fun σ H Q => ta σ H fun x H' => ∃ k, TruV K x H' k ∧ Q k H'
section
variable {H : Hp} {Q : VK} {QB : Bool → Hp → Prop} {σ : St} {ta : TE} {K : PySem.W.Frag}
theorem r_isNr {a : Addr} (h : Q (.bl false) H) : rIsN (.ref a) .non H Q := ⟨rfl, by rw [decide_eq_false (by intro z; cases z)]; exact h⟩
theorem r_notNr {a : Addr} (h : Q (.bl true) H) : rNotN (.ref a) .non H Q := ⟨rfl, by rw [decide_eq_false (by intro z; cases z)]; exact h⟩
theorem r_isNn (h : Q (.bl true) H) : rIsN .non .non H Q := ⟨rfl, by rw [decide_eq_true rfl]; exact h⟩
theorem r_notNn (h : Q (.bl false) H) : rNotN .non .non H Q := ⟨rfl, by rw [decide_eq_true rfl]; exact h⟩
end
end L2
set_option Elab.async false
set_option linter.all false
set_option maxRecDepth 100000
namespace PySem
open Sem (wp)
section
variable {prog : Program} {w : World} {A : Around} {E : Value → Shared → Prop} {s : Shared} {l : Addr} {xs : Array (Int × Tok)}
end
end PySem
namespace L2
open PySem PySem.Spec PyProof.Rows
section
variable {prog : Program} {w : World} {A : Around} {E : Value → Shared → Prop} {s : Shared} {l : Addr} {its : List Value} {ns : List Int} {Q : Value → Shared → Prop}
end
section
variable {X : Cx}
def cMaxT : List V → Hp → VK → Prop := fun vs H Q => ∃ (a : Addr) (ns : List Int), vs = [V.ref a] ∧ H a = some (.tup (ns.map V.int)) ∧ 0 < ns.length ∧ ∀ m, m ∈ ns → (∀ y, y ∈ ns → y ≤ m) → Q (.int m) H
def rCatTF : R2 := fun x y H Q => ∃ a b xs ys, x = .ref a ∧ y = .ref b ∧ H a = some (.tup xs) ∧ H b = some (.tup ys) ∧ xs.length + ys.length ≤ sizeLine ∧ ∀ p H', Same H H' → H' p = some (.tup (xs ++ ys)) → Q (.ref p) H'
theorem op_catTF : OpR X (binaryOp .Add) rCatTF := by
  intro pins s σ H x y v u Q I rx ry h
  obtain ⟨a, b, xs, ys, rfl, rfl, ha, hb, hz, q⟩ := h
  by_cases hx : xs = []
  · subst hx
    cases rx
    cases ry
    obtain ⟨its, r1, p1, _⟩ := I.tuple (SqT.of ha)
    obtain ⟨its2, r2, p2, _⟩ := I.tuple (SqT.of hb)
    cases r1
    have q' := q b H (Same.refl _) (by rw [List.nil_append]; exact hb)
    obtain ⟨m, F⟩ := I.fr
    exact add_tuples (vs := []) (ws := its2) (news := []) (Q := EP X pins σ Q) F (fun p hp => absurd hp (by simp)) p1 p2 (fun _ => ⟨.ref b, H, I, rfl, q'⟩) (fun z => absurd rfl z) (fun z => absurd rfl z) (by rw [← r2.length]; exact hz)
  · refine op_catT pins s σ H _ _ v u Q I rx ry ⟨a, b, xs, ys, rfl, rfl, SqT.of ha, SqT.of hb, hx, hz, fun e => ?_, fun _ p hp => ?_⟩
    · subst e
      exact q a H (Same.refl _) (by rw [List.append_nil]; exact ha)
    · exact q p _ (Same.new hp _) upd_same
end
end L2
namespace L2
open PySem PySem.Spec PyProof.Rows
theorem perm_lift {α β : Type} {f : α → β} {l m : List β} (h : l.Perm m) : ∀ ps : List α, m = ps.map f → ∃ qs : List α, qs.Perm ps ∧ l = qs.map f := by
  induction h with
  | nil =>
    intro ps e
    cases ps with
    | nil => exact ⟨[], .refl _, rfl⟩
    | cons a r => cases e
  | cons x _ ih =>
    intro ps e
    cases ps with
    | nil => cases e
    | cons a r =>
      rw [List.map_cons] at e
      injection e with e1 e2
      obtain ⟨qs, hq, el⟩ := ih r e2
      exact ⟨a :: qs, hq.cons a, by rw [List.map_cons, ← el, e1]⟩
  | swap x y l =>
    intro ps e
    cases ps with
    | nil => cases e
    | cons a r =>
      cases r with
      | nil => cases e
      | cons b r =>
        rw [List.map_cons, List.map_cons] at e
        injection e with e1 e2
        injection e2 with e2 e3
        exact ⟨b :: a :: r, .swap a b r, by rw [List.map_cons, List.map_cons, ← e1, ← e2, ← e3]⟩
  | trans _ _ ih1 ih2 =>
    intro ps e
    obtain ⟨qs, hq, el⟩ := ih2 ps e
    obtain ⟨rs, hr, el2⟩ := ih1 qs el
    exact ⟨rs, hr.trans hq, el2⟩
def intOf : V → Int
  | .int i => i
  | _ => 0
def intsAt (H : Hp) (p : Addr) : List Int := match H p with
  | some (.tup xs) => xs.map intOf
  | _ => []
theorem intsAt_of {H : Hp} {p : Addr} {b : List Int} (h : H p = some (.tup (b.map V.int))) : intsAt H p = b := by
  unfold intsAt
  rw [h]
  show (b.map V.int).map intOf = b
  rw [List.map_map]
  have : (intOf ∘ V.int) = id := rfl
  rw [this, List.map_id]
theorem TupsAt.eq {H : Hp} {ps : List Addr} {bs : List (List Int)} (h : TupsAt H ps bs) : bs = ps.map (intsAt H) := by
  apply List.ext_getElem?
  intro i
  rw [List.getElem?_map]
  cases e : ps[i]? with
  | none =>
    have : ps.length ≤ i := List.getElem?_eq_none_iff.mp e
    rw [List.getElem?_eq_none (by rw [← h.1]; exact this)]
    rfl
  | some p =>
    obtain ⟨b, e1, e2⟩ := h.get e
    rw [e1]
    show some b = some (intsAt H p)
    rw [intsAt_of e2]
theorem TupsAt.mem {H : Hp} {ps : List Addr} {bs : List (List Int)} (h : TupsAt H ps bs) {p : Addr} (hp : p ∈ ps) : ∃ b ∈ bs, H p = some (.tup (b.map V.int)) := by
  obtain ⟨i, hi⟩ := List.mem_iff_getElem?.mp hp
  obtain ⟨b, e1, e2⟩ := h.get hi
  exact ⟨b, List.mem_of_getElem? e1, e2⟩
theorem TupsAt.of_all {H : Hp} {ps : List Addr} (h : ∀ p ∈ ps, ∃ b : List Int, H p = some (.tup (b.map V.int))) : TupsAt H ps (ps.map (intsAt H)) := by
  refine ⟨by rw [List.length_map], fun i p b h1 h2 => ?_⟩
  rw [List.getElem?_map, h1] at h2
  have e : intsAt H p = b := Option.some.inj h2
  obtain ⟨b', e'⟩ := h p (List.mem_of_getElem? h1)
  rw [← e, intsAt_of e']
  exact e'
theorem tupItems_ints : ∀ {b : List Int} {us : List Value} (k : Nat), Vals (b.map V.int) us → tupItems (fun _ => false) k us = some (b.map Sum.inl)
  | [], _, k, r => by cases r; rfl
  | z :: b, _, k, r => by
    cases r with
    | cons r0 r =>
      obtain ⟨t, rfl⟩ := r0
      show (if false = true then none else (tupItems (fun _ => false) (k + 1) _).map (Sum.inl z :: ·)) = _
      rw [if_neg Bool.false_ne_true, tupItems_ints (k + 1) r]
      rfl
theorem refs_vals : ∀ {ps : List Addr} {us : List Value}, Vals (ps.map V.ref) us → us = ps.map Value.ref
  | [], _, r => by cases r; rfl
  | p :: ps, _, r => by
    cases r with
    | cons r0 r =>
      cases r0
      rw [List.map_cons, refs_vals r]
theorem vals_refs : ∀ ps : List Addr, Vals (ps.map V.ref) (ps.map Value.ref)
  | [] => .nil
  | p :: ps => .cons rfl (vals_refs ps)
section
variable {X : Cx}
def cSortT : List V → Hp → VK → Prop := fun vs H Q => ∃ (a : Addr) (ps : List Addr) (bs : List (List Int)), vs = [V.ref a] ∧ H a = some (.lst (ps.map V.ref)) ∧ TupsAt H ps bs ∧ (∀ b ∈ bs, b ≠ []) ∧
  ∀ (ps' : List Addr) (bs' : List (List Int)) (p : Addr), bs'.Perm bs → TupsAt H ps' bs' → H p = none → Q (.ref p) (upd H p (.lst (ps'.map V.ref)))
def cSortI : List V → Hp → VK → Prop := fun vs H Q => ∃ (a : Addr) (ns : List Int), vs = [V.ref a] ∧ H a = some (.lst (ns.map V.int)) ∧ ns.length < 64 ∧
  ∀ (ns' : List Int) (p : Addr), ns'.Perm ns → ns'.Pairwise (· ≤ ·) → H p = none → Q (.ref p) (upd H p (.lst (ns'.map V.int)))
end
section
variable {H : Hp} {Q : VK}
theorem r_catTF {a b : Addr} {xs ys : List V} (e : H a = some (.tup xs)) (e' : H b = some (.tup ys)) (z : xs.length + ys.length ≤ sizeLine) (h : ∀ p H', Same H H' → H' p = some (.tup (xs ++ ys)) → Q (.ref p) H') : rCatTF (.ref a) (.ref b) H Q := ⟨a, b, xs, ys, rfl, rfl, e, e', z, h⟩
theorem r_extend {l b : Addr} {xs zs : List V} (e : H l = some (.lst xs)) (e' : H b = some (.lst zs)) (z : xs.length + zs.length ≤ sizeLine) (h : Q .non (upd H l (.lst (xs ++ zs)))) : rExtend (.ref l) [.ref b] H Q := ⟨l, b, xs, zs, rfl, rfl, e, e', z, h⟩
end
end L2
set_option Elab.async false
set_option linter.all false
set_option maxRecDepth 100000
namespace L2
open PySem PySem.Spec PyProof.Rows
mutual
inductive DF (H : Hp) : V → PyData → Prop
  | int (i : Int) : DF H (.int i) (.int i)
  | lst {a : Addr} {xs : List V} {ds : List PyData} : H a = some (.lst xs) → DFs H xs ds → DF H (.ref a) (.list ds)
  | tup {a : Addr} {xs : List V} {ds : List PyData} : H a = some (.tup xs) → DFs H xs ds → DF H (.ref a) (.tuple ds)
inductive DFs (H : Hp) : List V → List PyData → Prop
  | nil : DFs H [] []
  | cons {v : V} {vs : List V} {d : PyData} {ds : List PyData} : DF H v d → DFs H vs ds → DFs H (v :: vs) (d :: ds)
end
theorem DFs.ints {H : Hp} : ∀ {b : List Int} {vs : List V}, DFs H vs (b.map PyData.int) → vs = b.map V.int
  | [], _, h => by cases h; rfl
  | x :: b, _, h => by
    cases h with
    | cons h t =>
      cases h
      rw [DFs.ints t]; rfl
def dRow (r : Int × List (List Int)) : PyData := .tuple [.int r.1, .list (dB r.2)]
section
variable {X : Cx}
def isStar : Expr → Bool
  | .Starred _ _ => true
  | _ => false
def tLit (d : PyData) : TE := fun _ H Q => ∀ v H', Same H H' → DF H' v d → Q v H'
def tLits (ds : List PyData) : TA := fun _ H Q => ∀ vs H', Same H H' → DFs H' vs ds → Q vs H'
end
section
variable {H : Hp} {Q : VK} {σ : St}
end
def mx (row : List Int) : Int := row.foldl max (-1)
def extF (m : Int) (row : List Int) : List (List Int) := (rngV (mx row + 1) (m - (mx row + 1)).toNat).map fun t => row ++ [t]
def fewF (m : Int) : Nat → List (List Int)
  | 0 => [[]]
  | k + 1 => (fewF m k).flatMap (extF m)
theorem fmax_le (l : List Int) : ∀ a : Int, a ≤ l.foldl max a ∧ (∀ x ∈ l, x ≤ l.foldl max a) ∧ (l.foldl max a = a ∨ l.foldl max a ∈ l) := by
  induction l with
  | nil => intro a; exact ⟨Int.le_refl _, by simp, .inl rfl⟩
  | cons y l ih =>
    intro a
    obtain ⟨h1, h2, h3⟩ := ih (max a y)
    refine ⟨Int.le_trans (Int.le_max_left _ _) h1, fun x hx => ?_, ?_⟩
    · rcases List.mem_cons.mp hx with rfl | hx
      · exact Int.le_trans (Int.le_max_right _ _) h1
      · exact h2 x hx
    · rcases h3 with h3 | h3
      · by_cases c : a ≤ y
        · right
          show l.foldl max (max a y) ∈ y :: l
          rw [h3, Int.max_eq_right c]; exact List.mem_cons_self
        · left
          show l.foldl max (max a y) = a
          rw [h3, Int.max_eq_left (by omega)]
      · right; exact List.mem_cons_of_mem _ h3
theorem mx_ge (row : List Int) : -1 ≤ mx row := (fmax_le row (-1)).1
theorem mem_rngV_iff {lo : Int} {n : Nat} {x : Int} : x ∈ rngV lo n ↔ lo ≤ x ∧ x < lo + n := by
  unfold rngV
  rw [List.mem_map]
  constructor
  · rintro ⟨i, hi, rfl⟩
    have := List.mem_range.mp hi
    omega
  · rintro ⟨h1, h2⟩
    exact ⟨(x - lo).toNat, List.mem_range.mpr (by omega), by omega⟩
theorem rngV_succ (lo : Int) (n : Nat) : rngV lo (n + 1) = rngV lo n ++ [lo + (n : Int)] := by
  unfold rngV
  rw [List.range_succ, List.map_append]; rfl
end L2
namespace L2
open PySem PySem.Spec PyProof.Rows
def cIsiR (K : PySem.W.Frag) (T : String) : List V → Hp → VK → Prop := fun xs H Q => ∃ x t b, xs = [x, .ty T] ∧ TyOf K H x (.type t) ∧ PySem.W.kitOne K (.type t) (.type T) = some b ∧ Q (.bl b) H
theorem k_isiR {X : Cx} (T : String) : CallR X (.builtin "isinstance") (cIsiR X.K T) := by
  intro pins s σ H xs us Q I r h
  obtain ⟨x, t, b, rfl, ty, e, q⟩ := h
  obtain ⟨u, w, rfl, rx, ry⟩ := vals2 r
  cases ry
  exact isinst_ok I rx ty e fun tk => ⟨.bl b, H, I.tok tk, rfl, q⟩
theorem kit_same {K : PySem.W.Frag} (T : String) : PySem.W.kitOne K (.type T) (.type T) = some true := by unfold PySem.W.kitOne; rw [if_pos (by simp)]
theorem r_itT {K : PySem.W.Frag} {H : Hp} {Q : VK} {a : Addr} {xs : List V} (e : H a = some (.tup xs)) (h : Q (.bl true) H) : cIsiR K "tuple" [V.ref a, V.ty "tuple"] H Q := ⟨_, _, _, rfl, .tup e, kit_same _, h⟩
end L2
namespace L2
open PySem PySem.Spec PyProof.Rows
theorem TupsAt.append {H : Hp} {ps qs : List Addr} {bs cs : List (List Int)} (h : TupsAt H ps bs) (h' : TupsAt H qs cs) : TupsAt H (ps ++ qs) (bs ++ cs) := by
  refine ⟨by rw [List.length_append, List.length_append, h.1, h'.1], fun i p b h1 h2 => ?_⟩
  by_cases hi : i < ps.length
  · rw [List.getElem?_append_left hi] at h1
    rw [List.getElem?_append_left (by rw [← h.1]; exact hi)] at h2
    exact h.2 i p b h1 h2
  · rw [List.getElem?_append_right (by omega)] at h1
    rw [List.getElem?_append_right (by rw [← h.1]; omega), ← h.1] at h2
    exact h'.2 _ p b h1 h2
theorem flat_snoc {α β : Type} (f : α → List β) (l : List α) (x : α) : (l ++ [x]).flatMap f = l.flatMap f ++ f x := by
  rw [List.flatMap_append]
  simp
end L2
namespace L2
open PySem PySem.Spec PyProof.Rows
def tCut (t : TS) : TS := fun D σ H => ∃ Post : St → Hp → Prop, t { D with nx := Post } σ H ∧ ∀ σ' H', Post σ' H' → D.nx σ' H'
theorem ps_cut {X : Cx} {st : Stmt} {t : TS} (h : PS X st t) : PS X st (tCut t) := by
  intro pins s σ H D I q
  obtain ⟨Post, q, hp⟩ := q
  refine thn (h pins s σ H _ I q) fun f s' z => ?_
  cases f with
  | next =>
    obtain ⟨σ', H', I', p⟩ := z
    exact ⟨σ', H', I', hp _ _ p⟩
  | brk => exact z
  | cont => exact z
  | ret u => exact z
theorem r_cut {t : TS} {D : Ends} {σ : St} {H : Hp} (Post : St → Hp → Prop) (h : t { D with nx := Post } σ H) (hp : ∀ σ' H', Post σ' H' → D.nx σ' H') : tCut t D σ H := ⟨Post, h, hp⟩
end L2
namespace L2
open PySem PySem.Spec PyProof.Rows
section
variable {X : Cx} {tg l e : Expr} {tl : TE} {ta : TA}
theorem k_isiK (K : PySem.W.Frag) (hK : X.K = K) (T : String) : CallR X (.builtin "isinstance") (cIsi K T) := by subst hK; exact k_isi T
theorem k_isiRK (K : PySem.W.Frag) (hK : X.K = K) (T : String) : CallR X (.builtin "isinstance") (cIsiR K T) := by subst hK; exact k_isiR T
end
end L2
namespace L2
open PySem PySem.Spec PyProof.Rows
structure QE (X : Cx) (e : Expr) (d : PyData) : Prop where
  h : PE X e (tLit d)
structure QA (X : Cx) (es : List Expr) (ds : List PyData) : Prop where
  h : PA X es (tLits ds)
section
variable {X : Cx}
end
end L2
set_option Elab.async false
set_option linter.all false
set_option maxRecDepth 100000
namespace L2
open PySem PySem.Spec PyProof.Rows
theorem len_below (t : Int) : ∀ b : List Int, (b.filter fun x => decide (x < t + 1)).length = (b.filter fun x => decide (x < t)).length + b.count t
  | [] => rfl
  | x :: b => by
    have ih := len_below t b
    rw [List.filter_cons, List.filter_cons, List.count_cons]
    by_cases h1 : x < t
    · have h2 : x < t + 1 := by omega
      have h3 : (x == t) = false := by simp; omega
      simp [h1, h2, h3, ih]; omega
    · by_cases h2 : x = t
      · subst h2
        have h3 : x < x + 1 := by omega
        rw [if_pos (by simpa using h3), if_neg (by simp), List.length_cons, ih]
        simp; omega
      · have h3 : ¬ x < t + 1 := by omega
        have h4 : (x == t) = false := by simp [h2]
        simp [h1, h3, h4, ih]
theorem count_nodup (x : Int) : ∀ {b : List Int}, b.Nodup → b.count x = if b.contains x then 1 else 0
  | [], _ => rfl
  | y :: b, h => by
    obtain ⟨h1, h2⟩ := List.nodup_cons.mp h
    rw [List.count_cons, count_nodup x h2, List.contains_cons]
    by_cases e : x = y
    · subst e
      have : b.contains x = false := by simpa using h1
      simp [this]
      exact h1
    · have e' : (y == x) = false := by simp; exact fun z => e z.symm
      have e'' : (x == y) = false := by simp [e]
      simp [e', e'']
theorem in_range_len {b : List Int} (nd : b.Nodup) : ∀ n : Nat, (∀ x ∈ b, 0 ≤ x) → ((rngV 0 n).filter fun x => b.contains x).length = (b.filter fun x => decide (x < (n : Int))).length
  | 0, h0 => by
    have e : b.filter (fun x => decide (x < ((0 : Nat) : Int))) = [] := by
      rw [List.filter_eq_nil_iff]
      intro x hx
      have := h0 x hx
      simp; omega
    rw [e]; rfl
  | n + 1, h0 => by
    rw [rngV_succ, List.filter_append, List.length_append, in_range_len nd n h0, Int.natCast_add]
    have e : (b.filter fun x => decide (x < (n : Int) + ((1 : Nat) : Int))).length = (b.filter fun x => decide (x < (n : Int))).length + b.count (n : Int) := len_below (n : Int) b
    rw [e, count_nodup _ nd]
    congr 1
    have z : (0 : Int) + (n : Int) = (n : Int) := by omega
    rw [z, List.filter_cons]
    split <;> rename_i h <;> simp
def compl (n : Nat) (b : List Int) : List Int := (rngV 0 n).filter fun x => !b.contains x
theorem filter_both {α : Type} (p : α → Bool) : ∀ l : List α, (l.filter fun x => !p x).length + (l.filter p).length = l.length
  | [] => rfl
  | x :: l => by
    have ih := filter_both p l
    rw [List.filter_cons, List.filter_cons]
    cases p x <;> simp <;> omega
theorem strict_nodup {b : List Int} (h : b.Pairwise (· < ·)) : b.Nodup := h.imp fun h => by omega
theorem compl_len {n : Nat} {b : List Int} (h : b.Pairwise (· < ·)) (hr : ∀ x ∈ b, 0 ≤ x ∧ x < (n : Int)) : (compl n b).length + b.length = n := by
  have e1 := filter_both (fun x => b.contains x) (rngV 0 n)
  rw [rngV_length, in_range_len (strict_nodup h) n fun x hx => (hr x hx).1] at e1
  have e2 : b.filter (fun x => decide (x < (n : Int))) = b := List.filter_eq_self.mpr fun x hx => by simpa using (hr x hx).2
  rw [e2] at e1
  exact e1
def atZ (o : List Int) (t : Int) : Int := o.getD t.toNat 0
theorem atZ_inj {o : List Int} (nd : o.Nodup) {x y : Int} (hx : 0 ≤ x) (hx' : x < (o.length : Int)) (hy : 0 ≤ y) (hy' : y < (o.length : Int)) (h : atZ o x = atZ o y) : x = y := by
  unfold atZ at h
  have h1 : x.toNat < o.length := by omega
  have h2 : y.toNat < o.length := by omega
  rw [List.getD_eq_getElem?_getD, List.getD_eq_getElem?_getD, List.getElem?_eq_getElem h1, List.getElem?_eq_getElem h2] at h
  have e : x.toNat = y.toNat := (List.getElem_inj nd).mp h
  omega
end L2
set_option Elab.async false
set_option linter.all false
set_option maxRecDepth 100000
open PySem
namespace L2
theorem cut_suf (xs : List V) (i : Nat) : cutV xs (some (i : Int)) none = xs.drop i := by
  unfold cutV
  rw [HT.sIx_none, HT.sIx_nat]
  by_cases h : i ≤ xs.length
  · rw [Nat.min_eq_left h]
    exact List.take_of_length_le (by rw [List.length_drop]; exact Nat.le_refl _)
  · rw [Nat.min_eq_right (by omega), List.drop_of_length_le (Nat.le_refl _), List.drop_of_length_le (i := i) (by omega), List.take_nil]
def RefsAt (H : Hp) (xs : List V) (bs : List (List Int)) : Prop := ∃ ps : List Addr, xs = ps.map V.ref ∧ TupsAt H ps bs
theorem RefsAt.append {H : Hp} {xs ys : List V} {bs cs : List (List Int)} (h : RefsAt H xs bs) (h' : RefsAt H ys cs) : RefsAt H (xs ++ ys) (bs ++ cs) := by
  obtain ⟨ps, rfl, t⟩ := h
  obtain ⟨qs, rfl, u⟩ := h'
  exact ⟨ps ++ qs, by rw [List.map_append], t.append u⟩
theorem RefsAt.nil (H : Hp) : RefsAt H [] [] := ⟨[], rfl, TupsAt.nil H⟩
section
variable {K : PySem.W.Frag} {H : Hp} {Q : VK}
theorem dp_word (s : Str) (ns : List Int) : DpAll K H (.str s :: ns.map V.int) (.str s :: ns.map PyData.int) := .cons (.str s) (dp_ints ns)
theorem eqv_word (s : Str) (ns : List Int) : PyData.eqvAll (.str s :: ns.map PyData.int) (.str s :: ns.map PyData.int) = true := by
  show ((s == s) && PyData.eqvAll (ns.map PyData.int) (ns.map PyData.int)) = true
  rw [eqvA_ints]
  simp
theorem sh_word {s : Str} (hs : PyData.canLay0 (.str s) = true) (ns : List Int) : SeqAt.shaped (.tuple (.str s :: ns.map PyData.int)) = true := by
  unfold SeqAt.shaped
  rw [Bool.and_eq_true]
  refine ⟨?_, decide_eq_true ?_⟩
  · show (PyData.canLay0 (.str s) && PyData.canLayAll0 (ns.map PyData.int)) = true
    rw [lay_ints, hs]; rfl
  · show max 0 (PyData.depthAll (ns.map PyData.int)) + 1 ≤ 64
    rw [dep_ints]; decide
theorem r_neWord {a b : Addr} {s : Str} {ns : List Int} (hs : PyData.canLay0 (.str s) = true) (ha : H a = some (.tup (.str s :: ns.map V.int))) (hb : H b = some (.tup (.str s :: ns.map V.int))) (h : Q (.bl false) H) : rNeD K (.ref a) (.ref b) H Q :=
  ⟨_, _, .tup (SqT.of ha) (dp_word s ns), .tup (SqT.of hb) (dp_word s ns), sh_word hs _, sh_word hs _, by show Q (.bl (!PyData.eqvAll _ _)) H; rw [eqv_word]; exact h⟩
theorem r_slT1 {a : Addr} {x : V} {xs : List V} (e : H a = some (.tup (x :: xs))) (h : ∀ p, H p = none → Q (.ref p) (upd H p (.tup xs))) : rSlT K (.ref a) (some 1) none H Q := by
  refine ⟨a, x :: xs, rfl, SqT.of e, ?_, ?_⟩
  · rintro ⟨h1, _⟩
    have : HT.sIx (x :: xs).length 0 (some ((1 : Nat) : Int)) = 0 := h1
    rw [HT.sIx_nat] at this
    simp at this
  · have : cutV (x :: xs) (some ((1 : Nat) : Int)) none = xs := by rw [cut_suf]; rfl
    intro p hp
    show Q (.ref p) (upd H p (.tup (cutV (x :: xs) (some ((1 : Nat) : Int)) none)))
    rw [this]
    exact h p hp
end
end L2
set_option Elab.async false
set_option linter.all false
set_option maxRecDepth 100000
open PySem
namespace L2
theorem hu1 {n : Nat} (h : n + 64 < cLine) : n + 1 < cLine := by omega
section
variable {K : PySem.W.Frag} {H : Hp} {Q : VK} {σ : St} {td ty tx tv : TE} {D : Ends}
abbrev kk2 (x y : Int) : List Key := [.inl x, .inl y]
def Tells (kvs : List (List Key × V)) (f : Int → Int → Int) : Prop := ∀ x y : Int, (valV kvs (kk2 x y)).getD (.int 0) = .int (f x y)
end
end L2
set_option Elab.async false
set_option linter.all false
set_option maxRecDepth 100000
namespace PySem
section
variable {prog : Program} {w : World} {A : Around} {E : Value → Shared → Prop} {s : Shared}
end
end PySem
namespace L2
open PySem PySem.Spec PyProof.Rows
def IteT (K : PySem.W.Frag) (a : Addr) : It :=
  ⟨fun i H => ∃ (xs : List V) (x : V), SqT K H a xs ∧ xs[i]? = some x, fun i H v H' => ∃ T x, v = .ref T ∧ H T = none ∧ H' = upd H T (.tup [.int (i : Nat), x]) ∧ ∀ xs, SqT K H a xs → xs[i]? = some x, fun i H => ∃ xs : List V, SqT K H a xs ∧ xs.length ≤ i⟩
def iEnumT (K : PySem.W.Frag) (ta : TA) : TI := fun σ H R => ta σ H fun vs H1 => ∃ a xs, vs = [.ref a] ∧ SqT K H1 a xs ∧ R (IteT K a) H1
end L2
set_option Elab.async false
set_option linter.all false
set_option maxRecDepth 100000
open PySem
namespace L2
section
variable {K : PySem.W.Frag} {H : Hp} {Q : VK} {σ : St} {td ty tx tv : TE} {D : Ends} {as : TA} {R : It → Hp → Prop}
def kDGet (x y : V) (H : Hp) (Q : VK) : Prop := ∃ a v, x = .ref a ∧ DGet H a y (some v) ∧ Q v H
def kDPut (x y v : V) (H : Hp) (R : Hp → Prop) : Prop := ∃ a H4, x = .ref a ∧ DPut H a y v H4 ∧ R H4
theorem r_dget (h : td σ H fun x H1 => ty σ H1 fun y H2 => kDGet x y H2 Q) : tDGet td ty σ H Q := h
theorem r_dputK (h : tv σ H fun v H1 => td σ H1 fun x H2 => ty σ H2 fun y H3 => kDPut x y v H3 (D.nx σ)) : sDPut td ty tv D σ H := h
theorem r_disp {trs : List (TE × TE)} (h : ∀ p, H p = none → tPairs trs σ (upd H p (.dK [])) fun ps H2 => H2 p = some (.dK []) ∧ ∃ kvs : List (Key × V), ps = kvs.map (fun kv => (kV kv.1, kv.2)) ∧ kvs.length ≤ 15 ∧ Q (.ref p) (upd H2 p (.dK (mergeK [] kvs)))) : tDisp trs σ H Q := h
theorem r_popAt {l : Addr} {xs : List V} {k : Int} {y : V} (e : H l = some (.lst xs)) (k0 : 0 ≤ k) (k1 : k < 2 ^ 63) (z : xs[k.toNat]? = some y) (h : Q y (upd H l (.lst (xs.eraseIdx k.toNat)))) : rPopAt (.ref l) [.int k] H Q := by
  have hl : k.toNat < xs.length := (List.getElem?_eq_some_iff.mp z).1
  refine ⟨l, xs, k, k.toNat, y, rfl, rfl, e, by omega, k1, ?_, z, h⟩
  exact seqIndex_of k0 (by omega)
theorem r_pcons {tk tv : TE} {r : List (TE × TE)} {QP : List (V × V) → Hp → Prop} (h : tk σ H fun x H1 => tv σ H1 fun y H2 => tPairs r σ H2 fun ps H3 => QP ((x, y) :: ps) H3) : tPairs ((tk, tv) :: r) σ H QP := h
theorem r_pnil {QP : List (V × V) → Hp → Prop} (h : QP [] H) : tPairs [] σ H QP := h
def cAbs : List V → Hp → VK → Prop := fun xs H Q => ∃ i, xs = [.int i] ∧ Q (.int (if i < 0 then -i else i)) H
theorem k_abs {X : Cx} : CallR X (.builtin "abs") cAbs := call_abs
theorem r_abs {i : Int} (h : ∀ j : Int, j = (if i < 0 then -i else i) → 0 ≤ j → Q (.int j) H) : cAbs [V.int i] H Q := ⟨i, rfl, h _ rfl (by split <;> omega)⟩
abbrev potK (g s t : Int) : List (Key × V) := [(.inr "great", .int g), (.inr "seed", .int s), (.inr "turn", .int t)]
abbrev potO (g s t : Int) : HO := .dK (potK g s t)
theorem potK_g (g s t : Int) : valV (potK g s t) (.inr "great") = some (.int g) := by rfl
theorem potK_s (g s t : Int) : valV (potK g s t) (.inr "seed") = some (.int s) := by rfl
theorem potK_t (g s t : Int) : valV (potK g s t) (.inr "turn") = some (.int t) := by rfl
theorem potK_pg (g s t x : Int) : putK (potK g s t) (.inr "great") (.int x) = potK x s t := by rfl
theorem potK_pt (g s t x : Int) : putK (potK g s t) (.inr "turn") (.int x) = potK g s x := by rfl
theorem pot_g {q : Addr} {g s t : Int} (e : H q = some (potO g s t)) (h : Q (.int g) H) : kDGet (.ref q) (.str "great") H Q := ⟨q, _, rfl, (potK_g g s t) ▸ DGet.k (k := .inr "great") e, h⟩
theorem pot_s {q : Addr} {g s t : Int} (e : H q = some (potO g s t)) (h : Q (.int s) H) : kDGet (.ref q) (.str "seed") H Q := ⟨q, _, rfl, (potK_s g s t) ▸ DGet.k (k := .inr "seed") e, h⟩
theorem pot_t {q : Addr} {g s t : Int} (e : H q = some (potO g s t)) (h : Q (.int t) H) : kDGet (.ref q) (.str "turn") H Q := ⟨q, _, rfl, (potK_t g s t) ▸ DGet.k (k := .inr "turn") e, h⟩
theorem pot_pg {R : Hp → Prop} {q : Addr} {g s t x : Int} (e : H q = some (potO g s t)) (h : R (upd H q (potO x s t))) : kDPut (.ref q) (.str "great") (.int x) H R := ⟨q, _, rfl, DPut.k (k := .inr "great") e (by show 3 < sizeLine; decide), by rw [potK_pg]; exact h⟩
theorem pot_pt {R : Hp → Prop} {q : Addr} {g s t x : Int} (e : H q = some (potO g s t)) (h : R (upd H q (potO g s x))) : kDPut (.ref q) (.str "turn") (.int x) H R := ⟨q, _, rfl, DPut.k (k := .inr "turn") e (by show 3 < sizeLine; decide), by rw [potK_pt]; exact h⟩
end
end L2
set_option Elab.async false
set_option linter.all false
set_option maxRecDepth 100000
namespace My
open PySem L2
local macro_rules | `(tactic| walk_at "rd1") => `(tactic| first
  | with_reducible refine r_seq ?_ | with_reducible refine r_asg ?_ | with_reducible refine r_name ?_ | with_reducible refine r_ret ?_ | with_reducible refine r_drop ?_ | with_reducible refine r_ifs ?_ | with_reducible refine r_next ?_
  | with_reducible refine r_var rfl ?_ | with_reducible refine r_c ?_ | with_reducible refine r_op ?_ | with_reducible refine r_I0 ?_
  | with_reducible refine r_test ?_ | with_reducible refine r_b ?_ | with_reducible refine r_k ?_ | with_reducible refine r_cons ?_ | with_reducible refine r_nil ?_ | with_reducible refine r_call ?_ | with_reducible refine r_cb ?_
  | with_reducible refine r_lst ?_ | with_reducible refine r_tup ?_ | with_reducible refine r_sub ?_ | with_reducible refine r_andV ?_ | with_reducible refine r_orV ?_ | with_reducible refine r_notV ?_
  | with_reducible refine r_and ?_ | with_reducible refine r_or ?_ | with_reducible refine r_not ?_ | with_reducible refine r_eqI ?_ | with_reducible refine r_neI ?_ | with_reducible refine r_aug rfl ?_ | with_reducible refine r_ipI ?_ | with_reducible refine r_un ?_
  | with_reducible refine r_bm ?_ | with_reducible refine r_bm0 ?_ | with_reducible refine r_yes ?_
  | with_reducible refine r_dnewT ?_ | with_reducible refine r_dget2 ?_ 
  | with_reducible refine r_U ?_ | with_reducible refine r_lit ?_
  | with_reducible refine r_fb ?_ | with_reducible refine r_m1 ?_ | with_reducible refine r_augS ?_ | with_reducible refine r_isNn ?_ | with_reducible refine r_notNn ?_ | with_reducible refine r_isNr ?_ | with_reducible refine r_notNr ?_ | with_reducible refine r_tru ?_ | with_reducible refine r_count ?_
  | with_reducible refine r_for ?_ | with_reducible refine r_dc ?_ | with_reducible refine r_lc ?_ | with_reducible refine r_sc ?_ | with_reducible refine r_zipN ?_ | with_reducible refine r_ifX ?_ | with_reducible refine r_zip3 ?_ | with_reducible refine r_rng1 ?_ | with_reducible refine r_rng2 ?_ | with_reducible refine r_ilist ?_ | with_reducible refine r_itup ?_ | with_reducible refine r_enum ?_
  | with_reducible refine r_sl ?_ | with_reducible refine r_nopart ?_ | with_reducible refine r_part ?_ | with_reducible refine r_int ?_ | with_reducible refine r_gcons ?_ | with_reducible refine r_gnil ?_ | with_reducible refine r_revT ?_
  | with_reducible refine r_intB (fun z hz z0 z1 => ?_) | with_reducible refine r_intI ?_ | with_reducible refine r_min2 ?_ | with_reducible refine r_max2 ?_ | with_reducible refine r_rng1V ?_ | with_reducible refine r_rng2V ?_
  | with_reducible refine r_dget ?_ | with_reducible refine r_disp ?_ | with_reducible refine r_pcons ?_ | with_reducible refine r_pnil ?_ | with_reducible refine r_enumT ?_ | with_reducible refine r_zip ?_ | with_reducible refine r_abs (fun z hz z0 => ?_)
  | with_reducible refine r_try ?_ | with_reducible refine r_try0 ?_ | with_reducible refine r_dropX ?_ | with_reducible refine r_setX ?_ | with_reducible refine r_callX ?_ | with_reducible refine r_methX ?_ | with_reducible refine r_raise ?_
  | with_reducible refine r_zipI ?_ | with_reducible refine r_zipT ?_ | with_reducible refine r_sfld ?_ | with_reducible refine r_fld ?_ | with_reducible refine r_meth ?_ | with_reducible refine r_make ?_ | with_reducible refine r_notC ?_ | with_reducible refine r_revS ?_ | with_reducible refine r_rev ?_ | with_reducible refine r_dputK ?_ | with_reducible refine r_chain4 ?_ | with_reducible refine r_chain3 ?_ | with_reducible refine r_chain ?_ | with_reducible refine r_din ?_ | with_reducible refine r_dnotin ?_ | with_reducible refine r_ifE ?_
  | ((with_reducible show cIsiR _ _ _ _ _); first | with_reducible refine r_itT (by first | assumption | exact upd_same) ?_ | with_reducible refine r_itL (by first | assumption | exact upd_same) ?_)
  | ((with_reducible show kDGet _ _ _ _); with_reducible refine pot_g (by first | assumption | exact upd_same) ?_) | ((with_reducible show kDGet _ _ _ _); with_reducible refine pot_s (by first | assumption | exact upd_same) ?_) | ((with_reducible show kDGet _ _ _ _); with_reducible refine pot_t (by first | assumption | exact upd_same) ?_)
  | ((with_reducible show kDPut _ _ _ _ _); with_reducible refine pot_pg (by first | assumption | exact upd_same) ?_) | ((with_reducible show kDPut _ _ _ _ _); with_reducible refine pot_pt (by first | assumption | exact upd_same) ?_)
  | with_reducible refine iteT ?_ | with_reducible refine iteF ?_ | with_reducible refine r_nf ?_ | with_reducible refine r_nt ?_
  | with_reducible refine r_ii ?_ | with_reducible refine r_ib ?_
  | ((with_reducible show rIxLF _ _ _ _); with_reducible refine r_ixL (by first | assumption | exact upd_same) rfl ?_)
  | ((with_reducible show rIxTF _ _ _ _); with_reducible refine r_ixT (by first | assumption | exact upd_same) rfl ?_)
  | ((with_reducible show rSetL _ _ _ _ _); with_reducible refine r_setL (by first | assumption | exact upd_same) rfl ?_)
  | ((with_reducible show cLen _ _ _); with_reducible refine r_len (by first | exact sqAt_lst (by assumption) | exact sqAt_tup (by assumption) | exact sqAt_lst upd_same | exact sqAt_tup upd_same) ?_)
  | ((with_reducible show rSlLF _ _ _ _ _); with_reducible refine r_slL (by first | assumption | exact upd_same) ?_)
  | ((with_reducible show gTupF _ _ _ _ _ _); with_reducible refine r_gtup (by first | assumption | exact upd_same) rfl ?_)
  | ((with_reducible show rI _ _ _ _ _ _); first | with_reducible refine r_mod (by omega) ?_ | with_reducible refine r_div (by omega) (by omega) ?_ | with_reducible refine r_mulL (by omega) (by omega) ?_ | with_reducible refine r_mulR (by omega) (by omega) ?_ | with_reducible refine r_pow (by omega) (by omega) (by decide) ?_))
local macro_rules | `(tactic| walk_at "rd") => `(tactic| repeat (first | walk_at "rd1" | (dsimp only; walk_at "rd1")))
def top (i : Nat) : Stmt := PySem.Challenge.pw_evenblocks_k50_faults_of_days.main.body.getD i (.Pass ⟨0, 0, 0, 0⟩)
structure PotOk (n : Nat) (g s t : Int) : Prop where
  g0 : 0 ≤ g
  s0 : 0 ≤ s
  t0 : 0 ≤ t
  t1 : t ≤ (n : Int)
def PotAt (n : Nat) (H : Hp) (q : Addr) : Prop := ∃ g s t, H q = some (potO g s t) ∧ PotOk n g s t
def spPot (K : PySem.W.Frag) : Sp := fun vs H Q _ => ∃ (a : Addr) (k : Int) (ns : List Int), vs = [.ref a, .int k] ∧ SqL K H a (ns.map V.int) ∧ 0 ≤ k ∧ k < 1000 ∧
  ∀ q H', H q = none → Same H H' → PotAt 0 H' q → Q (.ref q) H'
def spDraw : Sp := fun vs H Q _ => ∃ (q : Addr) (m : Int) (n : Nat), vs = [.ref q, .int m] ∧ PotAt n H q ∧ n < 1000000 ∧ 0 < m ∧ m < 1000000 ∧
  ∀ r H', 0 ≤ r → r < m → PotAt (n + 1) H' q → Sam1 q H H' → Q (.int r) H'
section
variable {P : Program} {w : World} {K : PySem.W.Frag} {mg : Str → Option Value} {base : Heap}
abbrev sDraw : Stmt := top 5
theorem scDraw : FnScope ["_law_pot_here", "_law_many", "_law_once", "_law_turn", "_law_twice", "_law_digit"] ["_law_pot_here", "_law_many"] (defScope sDraw) := ⟨rfl, rfl, rfl, by decide +kernel, rfl, by decide +kernel, by decide +kernel⟩
theorem has_draw (F : FunAt K mg "_law_draw" sDraw ["_law_pot_here", "_law_many"]) : Has P w K mg base 1 "_law_draw" ["_law_pot_here", "_law_many"] spDraw := by
  refine F.has scDraw (fun vs H Q E h => ?_) (fun f cdv A outer s H vs Q E hr h => ?_)
  · obtain ⟨q, m, n, rfl, _⟩ := h
    rfl
  obtain ⟨q, m, n, rfl, ⟨g, sd, t, hq, ⟨g0, s0, t0, t1⟩⟩, n1, m0, m1, k⟩ := h
  refine ⟨_, (pss_cons (ps_if (pt_cmpR op_gt (pe_dget (hu1 hr.units) (pv 0) pe_str (fun _ _ => rfl)) pe_int (nomark _))
    (pss_cons (ps_set (i := 5) scDraw.nd rfl (Or.inl rfl) (pe_op op_mod (pe_dget (hu1 hr.units) (pv 0) pe_str (fun _ _ => rfl)) (pv 1)))
      (pss_cons (ps_dput (hu1 hr.units) (pv 0) pe_str (pe_op op_fdiv (pe_dget (hu1 hr.units) (pv 0) pe_str (fun _ _ => rfl)) (pv 1)) rfl)
      (pss_one (ps_ret (pv 5)))))
    pss_nil)
    (pss_cons (ps_dput (hu1 hr.units) (pv 0) pe_str (pe_op op_add (pe_dget (hu1 hr.units) (pv 0) pe_str (fun _ _ => rfl)) pe_int) rfl)
    (pss_cons (ps_set (i := 2) scDraw.nd rfl (Or.inl rfl) (pe_op op_mod (pe_op op_mul (pe_op op_add (pe_dget (hu1 hr.units) (pv 0) pe_str (fun _ _ => rfl)) (pe_op op_mul pe_int (pe_dget (hu1 hr.units) (pv 0) pe_str (fun _ _ => rfl)))) pe_int) pe_int))
    (pss_cons (ps_set (i := 3) scDraw.nd rfl (Or.inl rfl) (pe_dget (hu1 hr.units) (pv 0) pe_str (fun _ _ => rfl)))
    (pss_cons (ps_set (i := 4) scDraw.nd rfl (Or.inl rfl) (pe_op op_mod (pe_op op_mul (pe_op op_add (pv 2) (pe_op op_mod (pe_dget (hu1 hr.units) (pv 0) pe_str (fun _ _ => rfl)) pe_int)) (pe_op op_add pe_int (pe_op op_mul (pv 3) (pv 3)))) pe_int))
    (pss_one (ps_ret (pe_op op_mod (pe_op op_fdiv (pv 4) pe_int) (pv 1))))))))), ?_⟩
  walk_at "rd"
  refine r_if (fun c => ?_) (fun c => ?_)
  · walk_at "rd"
    exact k _ _ (Int.emod_nonneg _ (by omega)) (Int.emod_lt_of_pos _ m0) ⟨_, _, _, upd_same, Int.ediv_nonneg g0 (by omega), s0, t0, by omega⟩ (Sam1.upd _ _ _)
  · walk_at "rd"
    exact k _ _ (Int.emod_nonneg _ (by omega)) (Int.emod_lt_of_pos _ m0) ⟨_, _, _, upd_same, g0, s0, by omega, by omega⟩ (Sam1.upd _ _ _)
structure TxPot (mg : Str → Option Value) : Prop where
  len : mg "len" = none
  abs : mg "abs" = none
abbrev sPot : Stmt := top 4
theorem scPot : FnScope ["_law_script", "_law_at", "_law_cell", "_law_great"] ["_law_script", "_law_at"] (defScope sPot) := ⟨rfl, rfl, rfl, by decide +kernel, rfl, by decide +kernel, by decide +kernel⟩
theorem has_pot (F : FunAt K mg "_law_pot" sPot ["_law_script", "_law_at"]) (T : TxPot mg) : Has P w K mg base 1 "_law_pot" ["_law_script", "_law_at"] (spPot K) := by
  refine F.has scPot (fun vs H Q E h => ?_) (fun f cdv A outer s H vs Q E hr h => ?_)
  · obtain ⟨a, k, ns, rfl, _⟩ := h
    rfl
  obtain ⟨a, k, ns, rfl, hS, k0, k1, kk⟩ := h
  refine ⟨_, (pss_cons (ps_set (i := 2) scPot.nd rfl (Or.inl rfl) pe_int)
    (pss_cons (ps_if (pt_cmpR op_lt (pv 1) (pe_callB k_lenK (by rfl) T.len (by decide +kernel) (pa_cons (pv 0) pa_nil)) (nomark _))
    (pss_one (ps_set (i := 2) scPot.nd rfl (Or.inl rfl) (pe_ix ix_list (pv 0) (pv 1) (fun _ _ => rfl))))
    pss_nil)
    (pss_cons (ps_set (i := 3) scPot.nd rfl (Or.inl rfl) pe_int)
    (pss_cons (ps_if (pt_cmpR op_ge (pe_callB k_abs (by rfl) T.abs (by decide +kernel) (pa_cons (pv 2) pa_nil)) (pe_op op_pow pe_int pe_int) (nomark _))
    (pss_one (ps_set (i := 3) scPot.nd rfl (Or.inl rfl) (pe_callB k_abs (by rfl) T.abs (by decide +kernel) (pa_cons (pv 2) pa_nil))))
    pss_nil)
    (pss_one (ps_ret (pe_disp (pps_cons pe_str (pv 3) (pps_cons pe_str (pe_op op_add (pe_op op_add (pe_op op_mod (pv 2) pe_int) (pe_op op_mul pe_int (pv 1))) pe_int) (pps_cons pe_str pe_int pps_nil))) (by rfl) (by rfl) (fun z => by cases z) (by decide)))))))), ?_⟩
  have tail : ∀ (g c : Int) (p : Addr), H p = none → 0 ≤ g → Q (.ref p) (upd (upd H p (.dK [])) p (.dK (mergeK [] (potK g (c % 2305843009213693951 + 97 * k + 1) 0)))) := by
    intro g c p hp hg
    have := Int.emod_nonneg c (by decide : (2305843009213693951 : Int) ≠ 0)
    exact kk p _ hp ((Same.new hp _).late hp _) ⟨_, _, _, upd_same, hg, by omega, by omega, by omega⟩
  walk_at "rd"
  refine ⟨a, _, rfl, .inl hS, ?_⟩
  walk_at "rd"
  refine r_if (fun c => ?_) (fun c => ?_)
  · rw [List.length_map] at c
    obtain ⟨v, hv⟩ : ∃ v : Int, atI (ns.map V.int) k = some (.int v) := by
      have hk : k.toNat < ns.length := by omega
      exact ⟨ns[k.toNat], at_of (j := k.toNat) (by omega) (by rw [List.getElem?_map, List.getElem?_eq_getElem hk] <;> rfl)⟩
    walk_at "rd"
    refine ⟨a, _, k, _, rfl, rfl, hS, hv, ?_⟩
    walk_at "rd"
    refine r_if (fun c => ?_) (fun c => ?_)
    · walk_at "rd"
      intro p hp
      walk_at "rd"
      exact ⟨upd_same, potK _ _ 0, rfl, (by show 3 ≤ 15; decide), tail _ v p hp (by assumption)⟩
    · walk_at "rd"
      intro p hp
      walk_at "rd"
      exact ⟨upd_same, potK _ _ 0, rfl, (by show 3 ≤ 15; decide), tail _ v p hp (by decide)⟩
  · walk_at "rd"
    refine r_if (fun c => ?_) (fun c => ?_)
    · walk_at "rd"
      intro p hp
      walk_at "rd"
      exact ⟨upd_same, potK _ _ 0, rfl, (by show 3 ≤ 15; decide), tail _ 0 p hp (by assumption)⟩
    · walk_at "rd"
      intro p hp
      walk_at "rd"
      exact ⟨upd_same, potK _ _ 0, rfl, (by show 3 ≤ 15; decide), tail _ 0 p hp (by decide)⟩
end
end My
set_option Elab.async false
set_option linter.all false
set_option maxRecDepth 100000
open PySem
namespace L2
def cntL (m : Nat) (ks : List Int) : List Int := (List.range m).map fun (d : Nat) => ((ks.count (d : Int) : Nat) : Int)
theorem cntL_len (m : Nat) (ks : List Int) : (cntL m ks).length = m := by unfold cntL; rw [List.length_map, List.length_range]
theorem cntL_nil (m : Nat) : cntL m [] = List.replicate m 0 := by
  apply List.ext_getElem?
  intro i
  unfold cntL
  by_cases h : i < m
  · rw [List.getElem?_map, List.getElem?_range h, List.getElem?_replicate, if_pos h]; rfl
  · rw [List.getElem?_eq_none (by simp; omega), List.getElem?_eq_none (by simp; omega)]
theorem cntL_get {m : Nat} {ks : List Int} {i : Nat} (h : i < m) : (cntL m ks)[i]? = some ((ks.count (i : Int) : Nat) : Int) := by
  unfold cntL
  rw [List.getElem?_map, List.getElem?_range h]; rfl
theorem cntL_at {m : Nat} {ks : List Int} {k : Int} (h0 : 0 ≤ k) (h1 : k < m) : atI ((cntL m ks).map V.int) k = some (.int ((ks.count k : Nat) : Int)) := by
  obtain ⟨n, rfl⟩ := Int.eq_ofNat_of_zero_le h0
  exact atI_nat (by rw [List.getElem?_map, cntL_get (by omega)]; rfl)
theorem ixN_of {n : Nat} {k : Int} (h0 : 0 ≤ k) (h1 : k < n) : ixN n k = some k.toNat := by unfold ixN; rw [if_pos h0, if_pos h1]
theorem cntL_ix {m : Nat} {ks : List Int} {k : Int} (h0 : 0 ≤ k) (h1 : k < m) : ixN ((cntL m ks).map V.int).length k = some k.toNat := ixN_of h0 (by rw [List.length_map, cntL_len]; exact h1)
theorem cntL_set {m : Nat} {ks : List Int} {k : Int} (h0 : 0 ≤ k) (h1 : k < m) : ((cntL m ks).map V.int).set k.toNat (.int (((ks.count k : Nat) : Int) + 1)) = (cntL m (ks ++ [k])).map V.int := by
  obtain ⟨n, rfl⟩ := Int.eq_ofNat_of_zero_le h0
  have hn : n < m := by omega
  apply List.ext_getElem?
  intro i
  rw [Int.toNat_natCast]
  by_cases hi : i < m
  · rw [List.getElem?_set, List.getElem?_map, List.getElem?_map, cntL_get hi, cntL_get hi, List.length_map, cntL_len]
    by_cases e : n = i
    · subst e
      rw [if_pos rfl, if_pos hi, List.count_append]
      simp
    · rw [if_neg e, List.count_append]
      have : ¬ (n : Int) = (i : Int) := by omega
      simp [this]
  · rw [List.getElem?_eq_none (by rw [List.length_set, List.length_map, cntL_len]; omega), List.getElem?_eq_none (by rw [List.length_map, cntL_len]; omega)]
theorem r_bump {q : Addr} {m : Nat} {ks : List Int} {k : Int} {H : Hp} {R : Hp → Prop} (e : H q = some (.lst ((cntL m ks).map V.int))) (h0 : 0 ≤ k) (h1 : k < m) (h : R (upd H q (.lst ((cntL m (ks ++ [k])).map V.int)))) :
    rSetL (.ref q) (.int k) (.int (((ks.count k : Nat) : Int) + 1)) H R := r_setL e (cntL_ix h0 h1) (by rw [cntL_set h0 h1]; exact h)
def hitB (m : Int) (b : List Int) : List Int := b.flatMap fun x => (b.filter fun y => !decide (x = y)).map fun y => (x - y) % m
def gapZ (m z : Int) (c : List Int) : List Int := c.flatMap fun y => [z - y, m - z + y]
def gapB (m : Int) (b : List Int) (j : Nat) : List Int := (List.range j).flatMap fun h => gapZ m (b.getD h 0) (b.take h)
theorem flat_split {α β : Type} (f g : α → List β) : ∀ c : List α, (c.flatMap fun x => f x ++ g x).Perm (c.flatMap f ++ c.flatMap g)
  | [] => by simp
  | x :: c => by
    have ih := flat_split f g c
    simp only [List.flatMap_cons]
    have h1 : (f x ++ g x ++ c.flatMap fun x => f x ++ g x).Perm (f x ++ g x ++ (c.flatMap f ++ c.flatMap g)) := ih.append_left _
    refine h1.trans ?_
    rw [List.append_assoc, List.append_assoc]
    refine List.Perm.append_left _ ?_
    rw [← List.append_assoc, ← List.append_assoc]
    exact List.Perm.append_right _ List.perm_append_comm
theorem flat_congr {α β : Type} {f g : α → List β} : ∀ {c : List α}, (∀ x ∈ c, f x = g x) → c.flatMap f = c.flatMap g
  | [], _ => rfl
  | x :: c, h => by
    rw [List.flatMap_cons, List.flatMap_cons, h x List.mem_cons_self, flat_congr fun y hy => h y (List.mem_cons_of_mem _ hy)]
theorem flat_one {α β : Type} (f : α → β) (c : List α) : (c.flatMap fun x => [f x]) = c.map f := by
  induction c with
  | nil => rfl
  | cons x c ih => rw [List.flatMap_cons, ih]; rfl
theorem hit_snoc {m z : Int} {c : List Int} (hz : z < m) (hc : ∀ y ∈ c, 0 ≤ y ∧ y < z) : (hitB m (c ++ [z])).Perm (hitB m c ++ gapZ m z c) := by
  unfold hitB
  rw [List.flatMap_append]
  have e1 : (c.flatMap fun x => ((c ++ [z]).filter fun y => !decide (x = y)).map fun y => (x - y) % m) = c.flatMap fun x => ((c.filter fun y => !decide (x = y)).map fun y => (x - y) % m) ++ [m - z + x] := by
    apply flat_congr
    intro x hx
    have h := hc x hx
    rw [List.filter_append, List.map_append]
    have : decide (x = z) = false := decide_eq_false (by omega)
    have e : (x - z) % m = m - z + x := by
      have : (x - z) % m = (x - z + m) % m := by simp
      rw [this, Int.emod_eq_of_lt (by omega) (by omega)]; omega
    simp [this, e]
  have e2 : ([z].flatMap fun x => ((c ++ [z]).filter fun y => !decide (x = y)).map fun y => (x - y) % m) = c.map fun y => z - y := by
    rw [List.flatMap_cons, List.flatMap_nil, List.append_nil, List.filter_append]
    have f1 : (c.filter fun y => !decide (z = y)) = c := by
      apply List.filter_eq_self.mpr
      intro y hy
      have := hc y hy
      have : decide (z = y) = false := decide_eq_false (by omega)
      rw [this]; rfl
    rw [f1]
    simp
    intro y hy
    have := hc y hy
    rw [Int.emod_eq_of_lt (by omega) (by omega)]
  rw [e1, e2]
  have h1 := flat_split (fun x => (c.filter fun y => !decide (x = y)).map fun y => (x - y) % m) (fun x => [m - z + x]) c
  rw [flat_one] at h1
  have h2 : (gapZ m z c).Perm (c.map (fun y => z - y) ++ c.map fun y => m - z + y) := by
    have h := flat_split (fun y => [z - y]) (fun y => [m - z + y]) c
    rw [flat_one, flat_one] at h
    exact h
  refine (h1.append_right _).trans ?_
  rw [List.append_assoc]
  exact (List.perm_append_comm.trans h2.symm).append_left _
theorem gap_hit {m : Int} {b : List Int} (hs : b.Pairwise (· < ·)) (hr : ∀ x ∈ b, 0 ≤ x ∧ x < m) : ∀ j, j ≤ b.length → (gapB m b j).Perm (hitB m (b.take j))
  | 0, _ => by unfold gapB hitB; simp
  | j + 1, hj => by
    have ih := gap_hit hs hr j (by omega)
    have hz : b[j]? = some b[j] := by simp
    have e : gapB m b (j + 1) = gapB m b j ++ gapZ m b[j] (b.take j) := by
      unfold gapB
      rw [List.range_succ, List.flatMap_append]
      simp [List.getD, hz]
    rw [e, take_snoc hz]
    refine (ih.append_right _).trans (hit_snoc (hr _ (List.getElem_mem _)).2 ?_).symm
    intro y hy
    obtain ⟨i, hi⟩ := List.mem_iff_getElem?.mp hy
    obtain ⟨h1, h2⟩ := List.getElem?_eq_some_iff.mp hi
    rw [List.length_take] at h1
    rw [List.getElem_take] at h2
    have := List.pairwise_iff_getElem.mp hs i j (by omega) (by omega) (by omega)
    have := hr b[i] (List.getElem_mem _)
    rw [← h2]
    omega
end L2
set_option Elab.async false
set_option linter.all false
set_option maxRecDepth 100000
namespace L2
open PySem PySem.Spec PyProof.Rows
def leB (b c : List Int) : Prop := (listOrd itemOrd).kle (b.map Sum.inl) (c.map Sum.inl)
theorem inl_inj : ∀ {b c : List Int}, (b.map Sum.inl : List (Int ⊕ List Nat)) = c.map Sum.inl → b = c
  | [], [], _ => rfl
  | [], _ :: _, h => by simp at h
  | _ :: _, [], h => by simp at h
  | x :: b, y :: c, h => by
    rw [List.map_cons, List.map_cons] at h
    injection h with h1 h2
    injection h1 with h1
    rw [h1, inl_inj h2]
theorem leB.anti {b c : List Int} (h : leB b c) (h' : leB c b) : b = c := inl_inj (KeyOrd.kle_antisymm h h')
theorem sort_unique {α : Type} {R : α → α → Prop} (anti : ∀ a b, R a b → R b a → a = b) : ∀ {l m : List α}, l.Perm m → l.Pairwise R → m.Pairwise R → l = m
  | [], m, h, _, _ => by rw [List.nil_perm.mp h]
  | x :: l, m, h, hl, hm => by
    cases m with
    | nil => exact absurd h.length_eq (by simp)
    | cons y m =>
      have e : x = y := by
        by_cases e : x = y
        · exact e
        · have h1 : x ∈ m := by
            have := h.mem_iff.mp (List.mem_cons_self (a := x) (l := l))
            rcases List.mem_cons.mp this with z | z
            · exact absurd z e
            · exact z
          have h2 : y ∈ l := by
            have := h.mem_iff.mpr (List.mem_cons_self (a := y) (l := m))
            rcases List.mem_cons.mp this with z | z
            · exact absurd z.symm e
            · exact z
          exact anti x y (List.rel_of_pairwise_cons hl h2) (List.rel_of_pairwise_cons hm h1)
      subst e
      rw [sort_unique anti (List.Perm.cons_inv h) hl.of_cons hm.of_cons]
theorem sortB_unique {l m : List (List Int)} (h : l.Perm m) (hl : l.Pairwise leB) (hm : m.Pairwise leB) : l = m := sort_unique (fun _ _ => leB.anti) h hl hm
section
variable {X : Cx}
def cSortT2 : List V → Hp → VK → Prop := fun vs H Q => ∃ (a : Addr) (ps : List Addr) (bs : List (List Int)), vs = [V.ref a] ∧ H a = some (.lst (ps.map V.ref)) ∧ TupsAt H ps bs ∧ (∀ b ∈ bs, b ≠ []) ∧
  ∀ (ps' : List Addr) (bs' : List (List Int)) (p : Addr), bs'.Perm bs → bs'.Pairwise leB → TupsAt H ps' bs' → H p = none → Q (.ref p) (upd H p (.lst (ps'.map V.ref)))
theorem k_sortT2 : CallR X (.builtin "sorted") cSortT2 := by
  intro pins s σ H vs us Q I r h
  obtain ⟨a, ps, bs, rfl, ha, tu, hne, q⟩ := h
  obtain ⟨z, its, n, rv, hl, e⟩ := I.lstM ha
  rw [Vals.ref1 r]
  have ei := refs_vals rv
  subst ei
  have obj : ∀ p ∈ ps, ∃ (b : List Int) (us : List Value) (o : Obj) (k : Nat), b ≠ [] ∧ H p = some (.tup (b.map V.int)) ∧ Vals (b.map V.int) us ∧ s.heap.get? p = some o ∧ o.cls = .type "tuple" ∧ o.data = .seq us.toArray k := by
    intro p hp
    obtain ⟨b, hb, eb⟩ := tu.mem hp
    obtain ⟨_, us, rb, o, ho, hc, k, hd⟩ := (show ObjOk X.prog X.w H s.heap p (.tup (b.map V.int)) from I.hok p _ eb)
    exact ⟨b, us, o, k, hne b hb, eb, rb, ho, hc, hd⟩
  have tups : ∀ qs : List Addr, (∀ p ∈ qs, p ∈ ps) → ∃ fs, TupsOf s.heap (fun _ => false) (qs.map Value.ref) fs := by
    intro qs
    induction qs with
    | nil => intro _; exact ⟨[], .nil⟩
    | cons p qs ih =>
      intro hq
      obtain ⟨fs, hf⟩ := ih fun x hx => hq x (List.mem_cons_of_mem _ hx)
      obtain ⟨b, us, o, k, hb, _, rb, ho, hc, hd⟩ := obj p (hq p List.mem_cons_self)
      cases b with
      | nil => exact absurd rfl hb
      | cons x b =>
        cases rb with
        | cons r0 rb =>
          obtain ⟨t, rfl⟩ := r0
          exact ⟨_ :: fs, .cons ⟨p, o, _, k, rfl, ho, hc, hd, rfl, fun _ => ⟨x, t, rfl⟩, fun z => absurd z (by simp)⟩ hf⟩
  obtain ⟨fs, ht⟩ := tups ps fun _ h => h
  have key : ∀ p ∈ ps, PyProof.Rows.G.tupKeyC s.heap (fun _ => false) (.ref p) = some ((intsAt H p).map Sum.inl) := by
    intro p hp
    obtain ⟨b, us, o, k, _, eb, rb, ho, hc, hd⟩ := obj p hp
    rw [intsAt_of eb]
    unfold PyProof.Rows.G.tupKeyC
    have e1 : PyProof.Rows.G.isTupObj s.heap (.ref p) = true := by simp [PyProof.Rows.G.isTupObj, ho, hc]
    rw [if_pos e1]
    simp only [tupKey, ho, hd]
    exact tupItems_ints 0 rb
  refine PyProof.Rows.G.sorted_tups (shape := fun _ => false) ⟨_, e, rfl, n, rfl⟩ ht (fun v hv => ?_) (by rw [← hl]; exact z) fun st' hp hs _ => ?_
  · obtain ⟨p, hp, rfl⟩ := List.mem_map.mp hv
    exact ⟨_, key p hp⟩
  · have e1 := Array.perm_iff_toList_perm.mp hp
    rw [pairsOf_toList] at e1
    have hpl : ((arrOf st').map (·.2)).toList.Perm (ps.map Value.ref) := by
      have e2 := e1.map (·.2)
      rw [List.map_snd_zip (Nat.le_refl _)] at e2
      rw [Array.toList_map]
      exact e2
    obtain ⟨qs, hq, el⟩ := perm_lift hpl ps rfl
    obtain ⟨ep, he'⟩ := PyProof.Rows.sortedAll_at s.heap (ps.map Value.ref) ((arrOf st').map (·.2))
    have tq : TupsAt H qs (qs.map (intsAt H)) := TupsAt.of_all fun p hp => by
      obtain ⟨b, _, eb⟩ := tu.mem (hq.mem_iff.mp hp)
      exact ⟨b, eb⟩
    have hlen : (qs.map V.ref).length ≤ sizeLine := by rw [List.length_map, hq.length_eq]; rw [List.length_map] at z; exact z
    have kat : ∀ (i : Nat) (p : Addr), qs[i]? = some p → KK (PyProof.Rows.G.tupKindC s.heap (fun _ => false)) (arrOf st') i = (intsAt H p).map Sum.inl := by
      intro i p hi
      have h2 : ((arrOf st').toList.map (·.2))[i]? = some (.ref p) := by
        rw [← Array.toList_map, el, List.getElem?_map, hi]; rfl
      rw [List.getElem?_map] at h2
      cases h3 : (arrOf st').toList[i]? with
      | none => rw [h3] at h2; cases h2
      | some pr =>
        rw [h3] at h2
        have h4 : pr.2 = .ref p := Option.some.inj h2
        have hm : pr ∈ (ps.map Value.ref).zip (ps.map Value.ref) := e1.mem_iff.mp (List.mem_of_getElem? h3)
        have h5 := (mem_zip_self hm).1
        have h6 : (arrOf st')[i]? = some pr := by rw [← Array.getElem?_toList]; exact h3
        unfold KK
        rw [h6]
        show (PyProof.Rows.G.tupKeyC s.heap (fun _ => false) pr.1).getD [] = _
        rw [h5, h4, key p (hq.mem_iff.mp (List.mem_of_getElem? hi))]
        rfl
    have srt : (qs.map (intsAt H)).Pairwise leB := by
      rw [List.pairwise_iff_getElem]
      intro i j hi hj hij
      rw [List.length_map] at hi hj
      have hsz : (pairsOf (ps.map Value.ref)).size = qs.length := by
        rw [← Array.length_toList, pairsOf_toList, List.length_zip, List.length_map, hq.length_eq, Nat.min_self]
      have h7 := hs i j (Nat.le_of_lt hij) (by rw [hsz]; exact hj)
      rw [kat i qs[i] (by simp [hi]), kat j qs[j] (by simp [hj])] at h7
      rw [List.getElem_map, List.getElem_map]
      exact h7
    refine ⟨.ref _, upd H (s.heap.objs.size + 1) (.lst (qs.map V.ref)), I.laid (t' := s.toks) (fun _ _ => PyProof.Rows.sortedAll_old) (Nat.le_succ _) ⟨hlen, qs.map Value.ref, ep, vals_refs qs, ?_⟩, rfl, q qs _ _ ?_ srt tq (I.hok.fresh (Nat.le_succ _))⟩
    · rw [he', ← el]
    · rw [tu.eq]
      exact hq.map _
end
section
variable {H : Hp} {Q : VK}
end
end L2
set_option Elab.async false
set_option linter.all false
set_option maxRecDepth 100000
namespace L2
open PySem PySem.Spec PyProof.Rows
section
variable {H : Hp} {Q : VK} {o : HO}
end
structure Elt {α : Type} (R : Addr → Hp → V → α → Prop) : Prop where
  same : ∀ {D : Addr} {H H' : Hp} {v : V} {a : α}, Same H H' → R D H v a → R D H' v a
  late : ∀ {D : Addr} {H : Hp} {v : V} {a : α} (o : HO), R D H v a → R D (upd H D o) v a
def RInt (_ : Addr) (_ : Hp) (v : V) (i : Int) : Prop := v = .int i
def RBl (_ : Addr) (_ : Hp) (v : V) (b : Bool) : Prop := v = .bl b
def RTup (D : Addr) (H : Hp) (v : V) (b : List Int) : Prop := ∃ p, v = .ref p ∧ p ≠ D ∧ H p = some (.tup (b.map V.int))
def RLst (D : Addr) (H : Hp) (v : V) (b : List Int) : Prop := ∃ p, v = .ref p ∧ p ≠ D ∧ H p = some (.lst (b.map V.int))
theorem eInt : Elt RInt := ⟨fun _ h => h, fun _ h => h⟩
theorem eBl : Elt RBl := ⟨fun _ h => h, fun _ h => h⟩
theorem eTup : Elt RTup := ⟨fun s ⟨p, e, n, h⟩ => ⟨p, e, n, s _ _ h⟩, fun o ⟨p, e, n, h⟩ => ⟨p, e, n, by rw [upd_ne n]; exact h⟩⟩
theorem Pd.imp {α β : Type} {r r' : α → β → Prop} (h : ∀ a b, r a b → r' a b) : ∀ {xs : List α} {ys : List β}, Paired r xs ys → Paired r' xs ys
  | _, _, .nil => .nil
  | _, _, .cons a t => .cons (h _ _ a) (Pd.imp h t)
theorem Pd.app {α β : Type} {r : α → β → Prop} {xs' : List α} {ys' : List β} (h : Paired r xs' ys') : ∀ {xs : List α} {ys : List β}, Paired r xs ys → Paired r (xs ++ xs') (ys ++ ys')
  | _, _, .nil => h
  | _, _, .cons a t => .cons a (Pd.app h t)
theorem Pd.snoc {α β : Type} {r : α → β → Prop} {x : α} {y : β} (a : r x y) {xs : List α} {ys : List β} (h : Paired r xs ys) : Paired r (xs ++ [x]) (ys ++ [y]) := Pd.app (.cons a .nil) h
theorem Pd.len {α β : Type} {r : α → β → Prop} : ∀ {xs : List α} {ys : List β}, Paired r xs ys → xs.length = ys.length
  | _, _, .nil => rfl
  | _, _, .cons _ t => by rw [List.length_cons, List.length_cons, Pd.len t]
theorem Pd.get {α β : Type} {r : α → β → Prop} : ∀ {xs : List α} {ys : List β} {i : Nat} {x : α}, Paired r xs ys → xs[i]? = some x → ∃ y, ys[i]? = some y ∧ r x y
  | _, _, i, _, .nil, e => by simp at e
  | _, _, 0, _, .cons h _, e => by simp at e; subst e; exact ⟨_, rfl, h⟩
  | _, _, i + 1, _, .cons _ t, e => by
    obtain ⟨v, h1, h2⟩ := Pd.get (i := i) t (by simpa using e)
    exact ⟨v, by simpa using h1, h2⟩
theorem Pd.ints {D : Addr} {H : Hp} : ∀ {ws : List V} {ns : List Int}, Paired (RInt D H) ws ns → ws = ns.map V.int
  | _, _, .nil => rfl
  | _, _, .cons a t => by rw [List.map_cons, ← Pd.ints t, show _ = _ from a]
theorem Pd.bls {D : Addr} {H : Hp} : ∀ {ws : List V} {ns : List Bool}, Paired (RBl D H) ws ns → ws = ns.map V.bl
  | _, _, .nil => rfl
  | _, _, .cons a t => by rw [List.map_cons, ← Pd.bls t, show _ = _ from a]
section
variable {α : Type} {R : Addr → Hp → V → α → Prop} {K : PySem.W.Frag} {g : TG} {tt : TT} {te : TE} {vs : List Nat} {σ : St} {H1 : Hp} {D : Addr} {Qd : Hp → Prop}
theorem flat_len {β : Type} {F : β → List α} (h : ∀ x, (F x).length ≤ 1) : ∀ l : List β, (l.flatMap F).length ≤ l.length
  | [] => by simp
  | x :: l => by
    rw [List.flatMap_cons, List.length_append, List.length_cons]
    have := h x
    have := flat_len h l
    omega
theorem lcm_list (hD : H1 D = none) (E : Elt R) {a : Addr} {β : Type} {f : β → V} {l : List β} (F : β → List α) (hF : ∀ x, (F x).length ≤ 1) (hn : l.length < 16777216) (hl : ∀ H, Same H1 H → SqL K H a (l.map f))
    (hs : ∀ (i : Nat) (x : β) (H : Hp) (Qe : VK) (Qn : Hp → Prop), l[i]? = some x → Same H1 H → (∃ acc, H D = some (.lst acc)) → (∀ y H4 a, Same H H4 → F x = [a] → R D H4 y a → Qe y H4) → (∀ H3, Same H H3 → F x = [] → Qn H3) →
      g (f x) (wipe σ vs) H fun σ2 H2 => wipe σ2 vs = wipe σ vs ∧ tt σ2 H2 fun b H3 => if b = true then te σ2 H3 Qe else Qn H3)
    (hd : ∀ (H : Hp) (ws : List V), Same H1 H → H D = some (.lst ws) → Paired (R D H) ws (l.flatMap F) → Qd H) :
    ∃ W : Nat → Nat → Hp → Prop, (∃ m, W 0 m (upd H1 D (.lst []))) ∧ ∀ i m H, W i m H →
      ((Itl K a).stop i H ∧ Qd H) ∨ ((Itl K a).go i H ∧ ∃ Nx : Hp → Prop, (∀ H', Nx H' → ∃ m', m' < m ∧ W (i + 1) m' H') ∧ ∀ x H', (Itl K a).yld i H x H' → g x (wipe σ vs) H' fun σ2 H2 => wipe σ2 vs = wipe σ vs ∧ tt σ2 H2 fun b H3 =>
        if b = true then te σ2 H3 fun y H4 => ∃ acc, H4 D = some (.lst acc) ∧ acc.length < sizeLine ∧ Nx (upd H4 D (.lst (acc ++ [y]))) else Nx H3) := by
  refine lc_list (xs := l.map f) (fun i H => ∃ ws, H D = some (.lst ws) ∧ Same H1 H ∧ Paired (R D H) ws ((l.take i).flatMap F)) ⟨[], upd_same, Same.new hD _, .nil⟩ ?_ ?_ ?_
  · rintro i H _ ⟨_, _, sm, _⟩
    exact hl H sm
  · rintro i x H hx ⟨ws, e, sm, pr⟩
    rw [List.getElem?_map] at hx
    obtain ⟨z, hz⟩ : ∃ z, l[i]? = some z := by
      cases h : l[i]? with
      | none => rw [h] at hx; cases hx
      | some z => exact ⟨z, rfl⟩
    rw [hz] at hx
    have ex : f z = x := Option.some.inj hx
    subst ex
    have hw : ws.length < 16777216 := by
      have h1 := Pd.len pr
      have h2 := flat_len hF (l.take i)
      rw [List.length_take] at h2
      omega
    refine hs i z H _ _ hz sm ⟨ws, e⟩ (fun y H4 a s4 ef r => ?_) (fun H3 s3 ef => ?_)
    · refine ⟨ws, s4 _ _ e, hw, ws ++ [y], upd_same, (sm.trans s4).late hD _, ?_⟩
      rw [take_snoc hz, flat_snoc, ef]
      exact Pd.snoc (E.late _ r) (Pd.imp (fun _ _ h => E.late _ (E.same s4 h)) pr)
    · refine ⟨ws, s3 _ _ e, sm.trans s3, ?_⟩
      rw [take_snoc hz, flat_snoc, ef, List.append_nil]
      exact Pd.imp (fun _ _ h => E.same s3 h) pr
  · rintro H ⟨ws, e, sm, pr⟩
    rw [List.length_map, List.take_length] at pr
    exact hd H ws sm e pr
theorem lcm_tup (hD : H1 D = none) (E : Elt R) {a : Addr} {β : Type} {f : β → V} {l : List β} (F : β → List α) (hF : ∀ x, (F x).length ≤ 1) (hn : l.length < 16777216) (hl : ∀ H, Same H1 H → SqT K H a (l.map f))
    (hs : ∀ (i : Nat) (x : β) (H : Hp) (Qe : VK) (Qn : Hp → Prop), l[i]? = some x → Same H1 H → (∃ acc, H D = some (.lst acc)) → (∀ y H4 a, Same H H4 → F x = [a] → R D H4 y a → Qe y H4) → (∀ H3, Same H H3 → F x = [] → Qn H3) →
      g (f x) (wipe σ vs) H fun σ2 H2 => wipe σ2 vs = wipe σ vs ∧ tt σ2 H2 fun b H3 => if b = true then te σ2 H3 Qe else Qn H3)
    (hd : ∀ (H : Hp) (ws : List V), Same H1 H → H D = some (.lst ws) → Paired (R D H) ws (l.flatMap F) → Qd H) :
    ∃ W : Nat → Nat → Hp → Prop, (∃ m, W 0 m (upd H1 D (.lst []))) ∧ ∀ i m H, W i m H →
      ((Itt K a).stop i H ∧ Qd H) ∨ ((Itt K a).go i H ∧ ∃ Nx : Hp → Prop, (∀ H', Nx H' → ∃ m', m' < m ∧ W (i + 1) m' H') ∧ ∀ x H', (Itt K a).yld i H x H' → g x (wipe σ vs) H' fun σ2 H2 => wipe σ2 vs = wipe σ vs ∧ tt σ2 H2 fun b H3 =>
        if b = true then te σ2 H3 fun y H4 => ∃ acc, H4 D = some (.lst acc) ∧ acc.length < sizeLine ∧ Nx (upd H4 D (.lst (acc ++ [y]))) else Nx H3) := by
  refine lc_tup (xs := l.map f) (fun i H => ∃ ws, H D = some (.lst ws) ∧ Same H1 H ∧ Paired (R D H) ws ((l.take i).flatMap F)) ⟨[], upd_same, Same.new hD _, .nil⟩ ?_ ?_ ?_
  · rintro i H _ ⟨_, _, sm, _⟩
    exact hl H sm
  · rintro i x H hx ⟨ws, e, sm, pr⟩
    rw [List.getElem?_map] at hx
    obtain ⟨z, hz⟩ : ∃ z, l[i]? = some z := by
      cases h : l[i]? with
      | none => rw [h] at hx; cases hx
      | some z => exact ⟨z, rfl⟩
    rw [hz] at hx
    have ex : f z = x := Option.some.inj hx
    subst ex
    have hw : ws.length < 16777216 := by
      have h1 := Pd.len pr
      have h2 := flat_len hF (l.take i)
      rw [List.length_take] at h2
      omega
    refine hs i z H _ _ hz sm ⟨ws, e⟩ (fun y H4 a s4 ef r => ?_) (fun H3 s3 ef => ?_)
    · refine ⟨ws, s4 _ _ e, hw, ws ++ [y], upd_same, (sm.trans s4).late hD _, ?_⟩
      rw [take_snoc hz, flat_snoc, ef]
      exact Pd.snoc (E.late _ r) (Pd.imp (fun _ _ h => E.late _ (E.same s4 h)) pr)
    · refine ⟨ws, s3 _ _ e, sm.trans s3, ?_⟩
      rw [take_snoc hz, flat_snoc, ef, List.append_nil]
      exact Pd.imp (fun _ _ h => E.same s3 h) pr
  · rintro H ⟨ws, e, sm, pr⟩
    rw [List.length_map, List.take_length] at pr
    exact hd H ws sm e pr
end
theorem len_one {α : Type} (x : α) : [x].length ≤ 1 := Nat.le_refl _
def isort (l : List Int) : List Int := l.mergeSort (fun a b => decide (a ≤ b))
theorem isort_perm (l : List Int) : (isort l).Perm l := List.mergeSort_perm _ _
theorem isort_le (l : List Int) : (isort l).Pairwise (· ≤ ·) := by
  have := List.pairwise_mergeSort (le := fun a b : Int => decide (a ≤ b)) (fun a b c h1 h2 => by simp at *; omega) (fun a b => by simp; omega) l
  exact this.imp fun h => by simpa using h
theorem isort_is {l ns : List Int} (hp : ns.Perm l) (hs : ns.Pairwise (· ≤ ·)) : ns = isort l :=
  sort_unique (R := fun a b : Int => a ≤ b) (fun a b h1 h2 => by omega) (hp.trans (isort_perm l).symm) hs (isort_le l)
section
variable {H : Hp} {Q : VK}
end
def cLenT : List V → Hp → VK → Prop := fun xs H Q => ∃ a kvs, xs = [V.ref a] ∧ H a = some (.dT kvs) ∧ Q (.int kvs.length) H
section
variable {H : Hp} {Q : VK} {σ : St} {td ty tx tv : TE} {D : Ends}
end
def tChain4 (r1 r2 r3 r4 : R2) (ta tb tc td te : TE) : TE := fun σ H Q => ta σ H fun x H1 => tb σ H1 fun y H2 => r1 x y H2 fun z H3 => ∃ k, z = .bl k ∧
  (if k = true then tc σ H3 fun y2 H4 => r2 y y2 H4 fun z H5 => ∃ k, z = .bl k ∧
    (if k = true then td σ H5 fun y3 H6 => r3 y2 y3 H6 fun z H7 => ∃ k, z = .bl k ∧
      (if k = true then te σ H7 fun y4 H8 => r4 y3 y4 H8 Q else Q (.bl false) H7) else Q (.bl false) H5) else Q (.bl false) H3)
end L2
namespace L2
open PySem PySem.Spec PyProof.Rows
def CInt (mg : Str → Option Value) (x : Str) (i : Int) : Prop := ∃ t, mg x = some (.int i t)
end L2
namespace L2
open PySem PySem.Spec PyProof.Rows
section
variable {α : Type} {R : Addr → Hp → V → α → Prop} {K : PySem.W.Frag} {g : TG} {tt : TT} {te : TE} {vs : List Nat} {σ : St} {H1 : Hp} {D : Addr} {Qd : Hp → Prop}
theorem zip_fst {α β γ : Type} (f : α → γ) : ∀ {l : List α} {m : List β}, l.length = m.length → (l.zip m).map (fun x => f x.1) = l.map f
  | [], [], _ => rfl
  | [], _ :: _, h => by simp at h
  | _ :: _, [], h => by simp at h
  | x :: l, y :: m, h => by
    rw [List.zip_cons_cons, List.map_cons, List.map_cons, zip_fst f (by simpa using h)]
theorem zip_snd {α β γ : Type} (f : β → List γ) : ∀ {l : List α} {m : List β}, l.length = m.length → (l.zip m).flatMap (fun x => f x.2) = m.flatMap f
  | [], [], _ => rfl
  | [], _ :: _, h => by simp at h
  | _ :: _, [], h => by simp at h
  | x :: l, y :: m, h => by
    rw [List.zip_cons_cons, List.flatMap_cons, List.flatMap_cons, zip_snd f (by simpa using h)]
theorem lcm_blks (hD : H1 D = none) (E : Elt R) {a : Addr} {bs : List (List Int)} (F : List Int → List α) (hF : ∀ x, (F x).length ≤ 1) (hn : bs.length < 16777216) (hB : Blks H1 a bs)
    (hs : ∀ (i : Nat) (b : List Int) (p : Addr) (H : Hp) (Qe : VK) (Qn : Hp → Prop), bs[i]? = some b → H p = some (.tup (b.map V.int)) → Same H1 H → (∃ acc, H D = some (.lst acc)) → (∀ y H4 a, Same H H4 → F b = [a] → R D H4 y a → Qe y H4) → (∀ H3, Same H H3 → F b = [] → Qn H3) →
      g (.ref p) (wipe σ vs) H fun σ2 H2 => wipe σ2 vs = wipe σ vs ∧ tt σ2 H2 fun b H3 => if b = true then te σ2 H3 Qe else Qn H3)
    (hd : ∀ (H : Hp) (ws : List V), Same H1 H → H D = some (.lst ws) → Paired (R D H) ws (bs.flatMap F) → Qd H) :
    ∃ W : Nat → Nat → Hp → Prop, (∃ m, W 0 m (upd H1 D (.lst []))) ∧ ∀ i m H, W i m H →
      ((Itl K a).stop i H ∧ Qd H) ∨ ((Itl K a).go i H ∧ ∃ Nx : Hp → Prop, (∀ H', Nx H' → ∃ m', m' < m ∧ W (i + 1) m' H') ∧ ∀ x H', (Itl K a).yld i H x H' → g x (wipe σ vs) H' fun σ2 H2 => wipe σ2 vs = wipe σ vs ∧ tt σ2 H2 fun b H3 =>
        if b = true then te σ2 H3 fun y H4 => ∃ acc, H4 D = some (.lst acc) ∧ acc.length < sizeLine ∧ Nx (upd H4 D (.lst (acc ++ [y]))) else Nx H3) := by
  obtain ⟨ps, ha, tu⟩ := hB
  refine lcm_list hD E (f := fun x : Addr × List Int => V.ref x.1) (l := ps.zip bs) (fun x => F x.2) (fun x => hF x.2) (by rw [List.length_zip]; omega) (fun H s => SqL.of (by rw [zip_fst V.ref tu.1]; exact s _ _ ha)) (fun i x H Qe Qn hx s hacc ke kn => ?_) (fun H ws s e pr => ?_)
  · obtain ⟨p, b⟩ := x
    obtain ⟨h1, h2⟩ := List.getElem?_zip_eq_some.mp hx
    exact hs i b p H Qe Qn h2 (s _ _ (tu.2 i p b h1 h2)) s hacc ke kn
  · rw [zip_snd F tu.1] at pr
    exact hd H ws s e pr
end
end L2
namespace L2
open PySem PySem.Spec PyProof.Rows
theorem pe_bmK {X : Cx} (K : PySem.W.Frag) (hK : X.K = K) {T : String} {name : Str} {id : String} {r : V → List V → Hp → VK → Prop} {o e : Expr} {es : List Expr} {to : TE} {t : TA} {apos cpos : Pos} (pa : PlainAttrs T) (slot : Slot T name id) (hty : typeOf (.builtin id) = pure (.type "method_descriptor")) (hm : MtR X id r) (ho : PE X o to) (ha : PA X (e :: es) t)
    (hb : attributeBase o name X.env (eval o X.env) = eval o X.env := by rfl)
    (hf : ((backTo cpos (starEach (e :: es) X.env)).all (fun x => !x.1) && (backToKw cpos (keywordEach [] X.env)).all (fun x => x.1.isSome) && decide ((e :: es).length + ([] : List Keyword).length + (if ([] : List Keyword).isEmpty then 0 else 1) < 30)) = true := by rfl)
    (hl : (apos.endLine == cpos.line) = true := by rfl) (hs : starEach (e :: es) X.env = (false, eval e X.env) :: starEach es X.env := by rfl) (hp : (backTo cpos (starEach es X.env)).any (·.1) = false := by rfl) :
    PE X (.Call (.Attribute o name apos) (e :: es) [] cpos) (tBM K T r to t) := by
  subst hK
  exact pe_bm pa slot hty hm ho ha hb hf hl hs hp
end L2
set_option Elab.async false
set_option linter.all false
set_option maxRecDepth 100000
namespace L2
open PySem PySem.W PyProof.Rows
def Tr (n : Nat) (lt : Nat → Nat → Bool) {α : Type} : KasT α → (α → Prop) → Prop
  | .ret a, P => P a
  | .ask i j k, P => i < n ∧ j < n ∧ Tr n lt (k (lt i j)) P
section
variable {n : Nat} {lt : Nat → Nat → Bool} {α β : Type}
theorem Tr.mono {P P' : α → Prop} (h : ∀ a, P a → P' a) : ∀ {t : KasT α}, Tr n lt t P → Tr n lt t P'
  | .ret a, x => h a x
  | .ask _ _ _, x => ⟨x.1, x.2.1, Tr.mono h x.2.2⟩
theorem Tr.bind {f : α → KasT β} {P : β → Prop} : ∀ {t : KasT α}, Tr n lt t (fun a => Tr n lt (f a) P) → Tr n lt (t.bind f) P
  | .ret _, x => x
  | .ask _ _ _, x => ⟨x.1, x.2.1, Tr.bind x.2.2⟩
end
structure Ord (lt : Nat → Nat → Bool) : Prop where
  asym : ∀ x y, lt x y = true → lt y x = false
  tr : ∀ x y z, lt y x = false → lt z y = false → lt z x = false
theorem Ord.irr {lt : Nat → Nat → Bool} (o : Ord lt) (x : Nat) : lt x x = false := by
  cases h : lt x x with
  | false => rfl
  | true => exact absurd (o.asym x x h) (by rw [h]; simp)
abbrev ga (p : Array Nat) (k : Nat) : Nat := p.getD k 0
def PermN (n : Nat) (p : Array Nat) : Prop := p.Perm (List.range n).toArray
theorem PermN.size {n : Nat} {p : Array Nat} (h : PermN n p) : p.size = n := by have := h.size_eq; simpa using this
theorem PermN.lt {n : Nat} {p : Array Nat} (h : PermN n p) (hn : 0 < n) (k : Nat) : ga p k < n := by
  by_cases hk : k < p.size
  · have e : ga p k = p[k] := by simp [ga, Array.getD, hk]
    rw [e]
    have hm : p[k] ∈ p.toList := by simp
    have hp : p.toList.Perm (List.range n) := by have := h.toList; simpa using this
    exact List.mem_range.mp (hp.mem_iff.mp hm)
  · have e : ga p k = 0 := by simp [ga, Array.getD, hk]
    rw [e]; exact hn
theorem ga_of {p p' : Array Nat} {k k' : Nat} (h : p'[k']? = p[k]?) : ga p' k' = ga p k := by
  unfold ga
  rw [Array.getD_eq_getD_getElem?, Array.getD_eq_getD_getElem?, h]
theorem ga_rev {p : Array Nat} {i j : Nat} (hj : j ≤ p.size) (k : Nat) : ga (kas_rev p i j) k = if i ≤ k ∧ k < j then ga p (i + j - 1 - k) else ga p k := by
  have h := getElem?_mirror_all (xs := p) (i := i) hj k
  by_cases c : i ≤ k ∧ k < j
  · rw [if_pos c] at h ⊢; exact ga_of h
  · rw [if_neg c] at h ⊢; exact ga_of h
theorem PermN.rev {n : Nat} {p : Array Nat} (h : PermN n p) (i j : Nat) : PermN n (kas_rev p i j) := (mirror_perm _ _ _ _).trans h
theorem PermN.bub {n : Nat} {p : Array Nat} (h : PermN n p) (k d : Nat) : PermN n (bubble p k d) := (bubble_perm _ _ _).trans h
section
variable {lt : Nat → Nat → Bool}
def Asc (lt : Nat → Nat → Bool) (p : Array Nat) (r : Nat) : Prop := ∀ a b, a < b → b < r → lt (ga p b) (ga p a) = false
def Dsc (lt : Nat → Nat → Bool) (p : Array Nat) (r : Nat) : Prop := ∀ a b, a < b → b < r → lt (ga p a) (ga p b) = false
def EqB (lt : Nat → Nat → Bool) (p : Array Nat) (i j : Nat) : Prop := ∀ a b, i ≤ a → a < j → i ≤ b → b < j → lt (ga p a) (ga p b) = false
theorem Asc.step (o : Ord lt) {p : Array Nat} {m : Nat} (hm : 1 ≤ m) (h : Asc lt p m) (e : lt (ga p m) (ga p (m - 1)) = false) : Asc lt p (m + 1) := by
  intro a b hab hb
  by_cases c : b < m
  · exact h a b hab c
  · have : b = m := by omega
    subst this
    by_cases d : a = b - 1
    · rw [d]; exact e
    · exact o.tr _ _ _ (h a (b - 1) (by omega) (by omega)) e
theorem Dsc.step (o : Ord lt) {p : Array Nat} {m : Nat} (hm : 1 ≤ m) (h : Dsc lt p m) (e : lt (ga p (m - 1)) (ga p m) = false) : Dsc lt p (m + 1) := by
  intro a b hab hb
  by_cases c : b < m
  · exact h a b hab c
  · have : b = m := by omega
    subst this
    by_cases d : a = b - 1
    · rw [d]; exact e
    · exact o.tr _ _ _ e (h a (b - 1) (by omega) (by omega))
theorem Dsc.revB {p : Array Nat} {i j r : Nat} (hp : r ≤ p.size) (hj : j ≤ r) (h : Dsc lt p r) (e : EqB lt p i j) : Dsc lt (kas_rev p i j) r := by
  intro a b hab hb
  rw [ga_rev (by omega), ga_rev (by omega)]
  by_cases ca : i ≤ a ∧ a < j
  · rw [if_pos ca]
    by_cases cb : i ≤ b ∧ b < j
    · rw [if_pos cb]; exact e _ _ (by omega) (by omega) (by omega) (by omega)
    · rw [if_neg cb]; exact h _ _ (by omega) hb
  · rw [if_neg ca]
    by_cases cb : i ≤ b ∧ b < j
    · rw [if_pos cb]; exact h _ _ (by omega) (by omega)
    · rw [if_neg cb]; exact h _ _ hab hb
variable {n : Nat}
theorem tr_place (o : Ord lt) {p : Array Nat} (hp : PermN n p) (hn : 0 < n) {k : Nat} : ∀ (f l r : Nat), r - l ≤ f → l ≤ r → r ≤ k → (∀ a, a < l → lt (ga p k) (ga p a) = false) → (∀ a, r ≤ a → a < k → lt (ga p k) (ga p a) = true) → Asc lt p k →
    Tr n lt (kas_place p k f l r) fun l' => l' ≤ k ∧ (∀ a, a < l' → lt (ga p k) (ga p a) = false) ∧ ∀ a, l' ≤ a → a < k → lt (ga p k) (ga p a) = true
  | 0, l, r, hf, hl, hr, h1, h2, _ => by
    have : l = r := by omega
    subst this
    exact ⟨hr, h1, h2⟩
  | f + 1, l, r, hf, hl, hr, h1, h2, hA => by
    unfold kas_place
    by_cases c : l ≥ r
    · rw [if_pos c]
      have : l = r := by omega
      subst this
      exact ⟨hr, h1, h2⟩
    · rw [if_neg c]
      refine ⟨hp.lt hn _, hp.lt hn _, ?_⟩
      cases d : lt (p.getD k 0) (p.getD ((l + r) / 2) 0) with
      | true =>
        show Tr n lt (if true = true then _ else _) _; rw [if_pos rfl]
        refine tr_place o hp hn f l ((l + r) / 2) (by omega) (by omega) (by omega) h1 (fun a ha hak => ?_) hA
        by_cases z : a = (l + r) / 2
        · rw [z]; exact d
        · cases e : lt (ga p k) (ga p a) with
          | true => rfl
          | false =>
            have := o.tr _ _ _ (hA ((l + r) / 2) a (by omega) hak) e
            rw [show lt (ga p k) (ga p ((l + r) / 2)) = true from d] at this
            cases this
      | false =>
        show Tr n lt (if false = true then _ else _) _; rw [if_neg Bool.false_ne_true]
        refine tr_place o hp hn f ((l + r) / 2 + 1) r (by omega) (by omega) hr (fun a ha => ?_) h2 hA
        by_cases z : a = (l + r) / 2
        · rw [z]; exact d
        · exact o.tr _ _ _ (hA a ((l + r) / 2) (by omega) (by omega)) d
theorem ga_bub {p : Array Nat} {k d : Nat} (hk : k < p.size) (hd : d ≤ k) (x : Nat) : ga (bubble p k d) x = if x = k - d then ga p k else if k - d < x ∧ x ≤ k then ga p (x - 1) else ga p x := by
  have h := getElem?_bubble hk d hd x
  by_cases c : x = k - d
  · rw [if_pos c] at h ⊢; exact ga_of h
  · rw [if_neg c] at h ⊢
    by_cases c2 : k - d < x ∧ x ≤ k
    · rw [if_pos c2] at h ⊢; exact ga_of h
    · rw [if_neg c2] at h ⊢; exact ga_of h
end
end L2
set_option Elab.async false
set_option linter.all false
set_option maxRecDepth 100000
namespace L2
open PySem PySem.W PySem.Spec PyProof.Rows
theorem lex_same : ∀ b c : List Int, (listOrd itemOrd).blt (b.map Sum.inl) (c.map Sum.inl) = HT.lexLt b c
  | [], [] => rfl
  | [], _ :: _ => rfl
  | _ :: _, [] => rfl
  | x :: b, y :: c => by
    have ih := lex_same b c
    show (decide (x < y) || (!decide (y < x) && (listOrd itemOrd).blt (b.map Sum.inl) (c.map Sum.inl))) = if x = y then HT.lexLt b c else decide (x < y)
    rw [ih]
    by_cases e : x = y
    · subst e; simp
    · rw [if_neg e]
      by_cases l : x < y
      · simp [l]
      · have : y < x := by omega
        simp [l, this]
theorem leB_of {b c : List Int} (h : HT.lexLt c b = false) : leB b c := by
  unfold leB KeyOrd.kle
  rw [lex_same]; exact h
theorem lex_ord (key : Nat → List Int) : Ord fun i j => HT.lexLt (key i) (key j) := by
  refine ⟨fun x y h => ?_, fun x y z h1 h2 => ?_⟩
  · cases e : HT.lexLt (key y) (key x) with
    | false => rfl
    | true =>
      rw [← lex_same] at h e
      have := (listOrd itemOrd).trans _ _ _ h e
      rw [(listOrd itemOrd).irrefl] at this
      cases this
  · rw [← lex_same] at h1 h2 ⊢
    exact KeyOrd.kle_trans (O := listOrd itemOrd) h1 h2
section
variable {prog : Program} {w : World} {A : Around} {E : Value → Shared → Prop} {s : Shared}
theorem ask_gen {x y : Addr} {xs ys : Array Value} {b c : List Int} {Q : Bool → Shared → Prop} (hx : IsTup s.heap x xs) (hy : IsTup s.heap y ys) (hb : IntsAre xs.toList b) (hc : IntsAre ys.toList c) (hu : A.units < cLine) (h : Q (HT.lexLt b c) s) :
    wpAny (model prog w) A (keyLt' general' (.ref x) (.ref y)) Q E s := kat_one _ _ (HT.lt_tupInts hx hy hb hc hu h)
theorem ask_one {x y : Addr} {xs ys : Array Value} {b c : List Int} {Q : Bool → Shared → Prop} (hx : IsTup s.heap x xs) (hy : IsTup s.heap y ys) (hb : IntsAre xs.toList b) (hc : IntsAre ys.toList c) (hu : A.units < cLine) (h : Q (HT.lexLt b c) s) :
    wpAny (model prog w) A (keyLt' oneType' (.ref x) (.ref y)) Q E s := by
  obtain ⟨⟨c1, d1, e1, l1⟩, ho, k1, n1, g1⟩ := id hx
  obtain ⟨⟨c2, d2, e2, l2⟩, ho2, k2, n2, g2⟩ := id hy
  simp only at k1 g1 k2 g2
  subst k1 g1 k2 g2
  rw [keyLt'_oneType, oneLt'_eq]
  simp only [if_true]
  refine wpAny_bind (wpAny_cRoomFor hu ?_)
  refine wpAny_bind (wpAny_callSpecialIfBound?_slot ⟨_, ho, rfl⟩ PySem.F.slot_tuple_lt (call_meets PySem.F.slot_tuple_lt ⟨_, ho, rfl⟩ PySem.F.entry_tuple_lt (PySem.F.args_tuple_lt_2 _ _) (HT.tuple_lt_ints x y xs ys n1 n2 d1 d2 l1 l2 b c hb hc) ⟨ho, ho2, ?_⟩))
  exact wpAny_truthy_bool h
theorem map_det {M : Model} {α β : Type} {f : α → Sem β} (r : α → β) : ∀ (l : List α) {Q : List β → Shared → Prop}, (∀ v ∈ l, ∀ (Q' : β → Shared → Prop), Q' (r v) s → wpAny M A (f v) Q' E s) → Q (l.map r) s → wpAny M A (l.mapM f) Q E s
  | [], _, _, h => by rw [List.mapM_nil]; exact wpAny_pure h
  | x :: l, Q, hf, h => by
    rw [List.mapM_cons]
    refine wpAny_bind (hf x (.head _) _ ?_)
    refine wpAny_bind (map_det r l (fun v hv => hf v (.tail _ hv)) ?_)
    exact wpAny_pure h
theorem kind_mixed {M : Model} {ps : List Addr} {Q : SortKind → Shared → Prop} (h2 : 2 ≤ ps.length) (ht : ∀ p ∈ ps, ∃ xs : Array Value, IsTup s.heap p xs) (he : ∃ p ∈ ps, IsTup s.heap p #[]) (hg : Q general' s) (ho : Q oneType' s) :
    wpAny M A (keyKind' (ps.map Value.ref).toArray) Q E s := by
  let fst : Value → Option Value := fun v => match v with
    | .ref p => (match s.heap.get? p with
      | some o => (match o.data with
        | .seq xs _ => xs[0]?
        | _ => none)
      | none => none)
    | _ => none
  rw [kat_kind_eq, List.mapM_toArray, map_eq_pure_bind]
  refine wpAny_bind (wpAny_bind (map_det fst _ (fun v hv Q' hq => ?_) (wpAny_pure ?_)))
  · obtain ⟨p, hp, rfl⟩ := List.mem_map.mp hv
    obtain ⟨xs, o, e, hc, n, hd⟩ := ht p hp
    rw [kas_first_eq]
    refine wpAny_bind (Looks.here (show Looks M s.heap (typeOf (.ref p)) o.cls from (Looks.ld e).andThen .now) ?_)
    rw [hc, if_neg (by first | decide | simp)]
    refine wpAny_bind (listItems_at e hd (wpAny_pure ?_))
    have : fst (.ref p) = xs[0]? := by
      show (match s.heap.get? p with
        | some o => (match o.data with
          | .seq xs _ => xs[0]?
          | _ => none)
        | none => none) = _
      rw [e]
      simp only [hd]
    rw [← this]; exact hq
  · have na : ¬ (((ps.map Value.ref).map fst).toArray.all fun x => x.isSome) = true := by
      obtain ⟨p, hp, o, e, hc, n, hd⟩ := he
      rw [List.all_toArray, List.all_eq_true]
      intro h
      have h1 := h (fst (.ref p)) (List.mem_map.mpr ⟨.ref p, List.mem_map.mpr ⟨p, hp, rfl⟩, rfl⟩)
      have : fst (.ref p) = none := by
        show (match s.heap.get? p with
          | some o => (match o.data with
            | .seq xs _ => xs[0]?
            | _ => none)
          | none => none) = _
        rw [e]
        simp [hd]
      rw [this] at h1
      cases h1
    rw [if_neg na]
    by_cases hf : ((((ps.map Value.ref).map fst).toArray[0]?).bind id).isSome = true
    · rw [if_pos hf]; exact wpAny_pure hg
    · rw [if_neg hf, oneTypeOnly'_eq, List.mapM_toArray, map_eq_pure_bind]
      refine wpAny_bind (wpAny_bind (wpAny_bind (map_det (fun _ => Value.type "tuple") _ (fun v hv Q' hq => ?_) (wpAny_pure ?_))))
      · obtain ⟨p, hp, rfl⟩ := List.mem_map.mp hv
        obtain ⟨xs, o, e, hc, n, hd⟩ := ht p hp
        refine Looks.here (show Looks M s.heap (typeOf (.ref p)) o.cls from (Looks.ld e).andThen .now) ?_
        rw [hc]; exact hq
      · have h0 : ((ps.map Value.ref).map fun _ => Value.type "tuple").toArray[0]? = some (.type "tuple") := by
          cases ps with
          | nil => simp at h2
          | cons p r => simp
        rw [h0]
        have hall : (((ps.map Value.ref).map fun _ => Value.type "tuple").toArray.all fun x => x == Value.type "tuple") = true := by
          rw [List.all_toArray, List.all_eq_true]
          intro x hx
          obtain ⟨_, _, rfl⟩ := List.mem_map.mp hx
          first | rfl | decide | simp
        simp only [hall, if_true]
        exact wpAny_pure (wpAny_pure ho)
end
end L2
set_option Elab.async false
set_option linter.all false
set_option maxRecDepth 100000
namespace L2
open PySem PySem.W PySem.Spec PyProof.Rows
section
variable {prog : Program} {w : World} {A : Around} {E : Value → Shared → Prop} {s : Shared}
end
section
variable {X : Cx}
def cSortE : List V → Hp → VK → Prop := fun vs H Q => ∃ (a : Addr) (ps : List Addr) (bs : List (List Int)), vs = [V.ref a] ∧ H a = some (.lst (ps.map V.ref)) ∧ TupsAt H ps bs ∧ ps.length < 64 ∧
  ∀ (ps' : List Addr) (bs' : List (List Int)) (p : Addr) (H' : Hp), bs'.Perm bs → bs'.Pairwise leB → H p = none → Same H H' → H' p = some (.lst (ps'.map V.ref)) → TupsAt H' ps' bs' → Q (.ref p) H'
end
end L2
set_option Elab.async false
set_option linter.all false
set_option maxRecDepth 100000
namespace L2
open PySem PySem.Spec PyProof.Rows
structure QS (X : Cx) (st : Stmt) (t : TS) : Prop where
  h : PS X st t
structure QSs (X : Cx) (sts : List Stmt) (t : TS) : Prop where
  h : PSs X sts t
def valOf : Stmt → Expr
  | .Assign _ v _ => v
  | _ => .Constant .none 0 ⟨0, 0, 0, 0⟩
def rightOf : Expr → Expr
  | .BinOp _ _ b _ => b
  | e => e
section
variable {K : PySem.W.Frag} {H : Hp} {Q : VK}
end
end L2
set_option Elab.async false
set_option linter.all false
set_option maxRecDepth 100000
namespace L2
open PySem PySem.W PySem.Spec PyProof.Rows
section
variable {X : Cx}
def cSortM : List V → Hp → VK → Prop := fun vs H Q => ∃ (a : Addr) (bs : List (List Int)), vs = [V.ref a] ∧ Blks H a bs ∧ (bs.length < 64 ∨ ∀ b ∈ bs, b ≠ []) ∧
  ∀ (bs' : List (List Int)) (p : Addr) (H' : Hp), bs'.Perm bs → bs'.Pairwise leB → H p = none → Same H H' → Blks H' p bs' → Q (.ref p) H'
def rIndexI : V → List V → Hp → VK → Prop := fun x xs H Q => ∃ (a : Addr) (ns : List Int) (t : Int) (j : Nat), x = .ref a ∧ xs = [.int t] ∧ H a = some (.lst (ns.map V.int)) ∧ ns[j]? = some t ∧ (∀ (k : Nat), k < j → ∀ z, ns[k]? = some z → z ≠ t) ∧ Q (.int (j : Nat)) H
end
end L2
set_option Elab.async false
set_option linter.all false
set_option maxRecDepth 100000
namespace L2
open PySem PySem.W PySem.Calls PyProof.Rows
theorem wp_load' {α : Type} {M : Model} {Γ : Ctx} {a : Addr} {k : Obj → Sem α} {Q : α → Pos → Shared → Prop} {E : Value → Pos → Shared → Prop} {p : Pos} {s : Shared} : Sem.wp M Γ (PySem.load a >>= k) Q E p s ↔ ∃ o, s.heap.get? a = some o ∧ Sem.wp M Γ (k o) Q E p s := by
  rw [Sem.wp_bind']
  unfold PySem.load
  simp only [Sem.wp]
theorem inv_items {M : Model} {Γ : Ctx} {a : Addr} {xs : Array Value} {n : Nat} {o : Obj} {Q : Array Value → Pos → Shared → Prop} {E : Value → Pos → Shared → Prop} {p : Pos} {s : Shared} (h : s.heap.get? a = some o) (d : o.data = .seq xs n) (w : Sem.wp M Γ (Builtin.List.listItems (.ref a)) Q E p s) : Q xs p s := by
  unfold Builtin.List.listItems seqItems? at w
  rw [Sem.wp_bind'] at w
  dsimp only at w
  rw [wp_load'] at w
  obtain ⟨o', ho', w⟩ := w
  rw [h] at ho'
  cases ho'
  rw [d] at w
  simpa [Sem.wp] using w
theorem inv_eq {M : Model} {Γ : Ctx} {t : Tok} {Q : Bool → Pos → Shared → Prop} {E : Value → Pos → Shared → Prop} {p : Pos} {s : Shared} (w : Sem.wp M Γ (eqBool (.int 0 t) (.int 0 t)) Q E p s) : Q true p s := by
  unfold eqBool at w
  have e : (holding [Value.int 0 t, Value.int 0 t] : Sem Bool → Sem Bool) = id := rfl
  rw [e] at w
  have c : (Value.int 0 t == Value.int 0 t) = true := beq_self_eq_true _
  simp only [c, if_true, id] at w
  simpa [Sem.wp, rule] using w
theorem inv_loop {M : Model} {Γ : Ctx} {t : Tok} {Q : Option Bool × Unit → Pos → Shared → Prop} {E : Value → Pos → Shared → Prop} {p : Pos} {s : Shared} {body : (Value × Value) × Nat → Option Bool × Unit → Sem (ForInStep (Option Bool × Unit))}
    (hb : ∀ i (Q' : ForInStep (Option Bool × Unit) → Pos → Shared → Prop), Sem.wp M Γ (body ((.int 0 t, .int 0 t), i) (none, ())) Q' E p s → Q' (.yield (none, ())) p s) : ∀ (l : List ((Value × Value) × Nat)), (∀ x ∈ l, x.1 = (.int 0 t, .int 0 t)) →
    Sem.wp M Γ (forIn l (none, ()) body) Q E p s → Q (none, ()) p s
  | [], _, w => by simpa [Sem.wp] using w
  | ((u, v), i) :: l, h, w => by
    have hx : (u, v) = (.int 0 t, .int 0 t) := h _ List.mem_cons_self
    cases hx
    rw [List.forIn_cons, Sem.wp_bind'] at w
    have w := hb _ _ w
    exact inv_loop hb l (fun y hy => h y (List.mem_cons_of_mem _ hy)) w
theorem inv_lt {M : Model} {Γ : Ctx} {t : Tok} {b : Bool} {x y : Addr} {i j n m : Nat} {ox oy : Obj} {Q : Bool → Pos → Shared → Prop} {E : Value → Pos → Shared → Prop} {p : Pos} {s : Shared}
    (hx : s.heap.get? x = some ox) (dx : ox.data = .seq (Array.replicate i (.int 0 t)) n) (hy : s.heap.get? y = some oy) (dy : oy.data = .seq (Array.replicate j (.int 0 t)) m)
    (w : Sem.wp M Γ (keyLt' (tuples' b) (.ref x) (.ref y)) Q E p s) : Q (decide (i < j)) p s := by
  rw [kat_lt_eq] at w
  rw [Sem.wp_bind'] at w
  have w := inv_items hx dx w
  rw [Sem.wp_bind'] at w
  have w := inv_items hy dy w
  rw [Sem.wp_bind'] at w
  have w := inv_loop (t := t) (fun i' Q' w' => ?_) _ (fun z hz => ?_) w
  · simpa [Sem.wp] using w
  · dsimp only at w'
    rw [Sem.wp_bind'] at w'
    have w' := inv_eq w'
    simpa [Sem.wp] using w'
  · obtain ⟨⟨u, v⟩, k⟩ := z
    have hm : (u, v) ∈ (Array.replicate i (Value.int 0 t)).toList.zip (Array.replicate j (Value.int 0 t)).toList := by
      have := List.mem_map_of_mem (f := Prod.fst) hz
      rw [List.zipIdx_map_fst] at this
      exact this
    have h1 := (List.of_mem_zip hm).1
    have h2 := (List.of_mem_zip hm).2
    simp at h1 h2
    rw [h1.2, h2.2]
structure Prq where
  n : Nat
  k1 : Nat → Keyed
  k2 : Nat → Keyed
  d1 : SortKind
  d2 : SortKind
def RKq (X : Prq) (a b : Keyed) : Prop := ∃ i, i < X.n ∧ a = X.k1 i ∧ b = X.k2 i
def RAq (X : Prq) (a b : Array Keyed) : Prop := ∃ l : List Nat, (∀ i ∈ l, i < X.n) ∧ a = (l.map X.k1).toArray ∧ b = (l.map X.k2).toArray
structure RSq (X : Prq) (s1 s2 : SortSt) : Prop where
  arr : RAq X (arrOf s1) (arrOf s2)
  k1 : kindOf s1 = X.d1
  k2 : kindOf s2 = X.d2
  pend : pendingOf s1 = pendingOf s2
  gal : gallopOf s1 = gallopOf s2
  f1 : failedOf s1 = none
  f2 : failedOf s2 = none
section
variable {X : Prq}
theorem RAq.size {a b : Array Keyed} (h : RAq X a b) : a.size = b.size := by obtain ⟨l, _, rfl, rfl⟩ := h; simp
theorem RAq.get {a b : Array Keyed} (h : RAq X a b) (i : Nat) : (a[i]? = none ∧ b[i]? = none) ∨ ∃ x y, a[i]? = some x ∧ b[i]? = some y ∧ RKq X x y := by
  obtain ⟨l, hl, rfl, rfl⟩ := h
  by_cases c : i < l.length
  · exact .inr ⟨X.k1 l[i], X.k2 l[i], by simp [c], by simp [c], l[i], hl _ (List.getElem_mem c), rfl, rfl⟩
  · exact .inl ⟨by simp [Nat.le_of_not_lt c], by simp [Nat.le_of_not_lt c]⟩
theorem RAq.one {x y : Keyed} (h : RKq X x y) : RAq X #[x] #[y] := by
  obtain ⟨i, hi, rfl, rfl⟩ := h
  exact ⟨[i], fun j hj => by rw [List.mem_singleton.mp hj]; exact hi, rfl, rfl⟩
theorem RAq.app {a b c d : Array Keyed} (h : RAq X a b) (k : RAq X c d) : RAq X (a ++ c) (b ++ d) := by
  obtain ⟨l, hl, rfl, rfl⟩ := h
  obtain ⟨m, hm, rfl, rfl⟩ := k
  exact ⟨l ++ m, fun i hi => (List.mem_append.mp hi).elim (hl i) (hm i), by simp, by simp⟩
theorem RAq.push {a b : Array Keyed} {x y : Keyed} (h : RAq X a b) (k : RKq X x y) : RAq X (a.push x) (b.push y) := by
  rw [Array.push_eq_append, Array.push_eq_append]
  exact h.app (.one k)
theorem RAq.ext {a b : Array Keyed} (h : RAq X a b) (i j : Nat) : RAq X (a.extract i j) (b.extract i j) := by
  obtain ⟨l, hl, rfl, rfl⟩ := h
  refine ⟨(l.take j).drop i, fun k hk => hl k (List.mem_of_mem_take (List.mem_of_mem_drop hk)), ?_, ?_⟩ <;>
  · rw [List.extract_toArray, List.extract_eq_drop_take', List.map_drop, List.map_take]
theorem RAq.rev {a b : Array Keyed} (h : RAq X a b) : RAq X a.reverse b.reverse := by
  obtain ⟨l, hl, rfl, rfl⟩ := h
  exact ⟨l.reverse, fun i hi => hl i (List.mem_reverse.mp hi), by simp, by simp⟩
theorem RAq.swap {a b : Array Keyed} (h : RAq X a b) (i j : Nat) : RAq X (a.swapIfInBounds i j) (b.swapIfInBounds i j) := by
  obtain ⟨l, hl, rfl, rfl⟩ := h
  by_cases c : i < l.length ∧ j < l.length
  · obtain ⟨ci, cj⟩ := c
    refine ⟨(l.set i l[j]).set j l[i], fun k hk => ?_, ?_, ?_⟩
    · rcases List.mem_or_eq_of_mem_set hk with z | z
      · rcases List.mem_or_eq_of_mem_set z with z | z
        · exact hl k z
        · rw [z]; exact hl _ (List.getElem_mem cj)
      · rw [z]; exact hl _ (List.getElem_mem ci)
    all_goals
      apply Array.ext'
      rw [Array.swapIfInBounds_def, dif_pos (by simpa using ci), dif_pos (by simpa using cj)]
      simp [Array.toList_swap, List.map_set]
  · have e : ∀ (k : Nat → Keyed), (l.map k).toArray.swapIfInBounds i j = (l.map k).toArray := fun k => by
      rw [Array.swapIfInBounds_def]
      by_cases ci : i < l.length
      · have cj : ¬ j < l.length := fun z => c ⟨ci, z⟩
        rw [dif_pos (by simpa using ci), dif_neg (by simpa using cj)]
      · rw [dif_neg (by simpa using ci)]
    rw [e, e]
    exact ⟨l, hl, rfl, rfl⟩
theorem RAq.mir {a b : Array Keyed} (h : RAq X a b) (i j : Nat) : ∀ d, RAq X (mirror a i j d) (mirror b i j d)
  | 0 => h
  | d + 1 => by rw [mirror_succ, mirror_succ]; exact (RAq.mir h i j d).swap _ _
theorem RAq.bub {a b : Array Keyed} (h : RAq X a b) (k : Nat) : ∀ d, RAq X (bubble a k d) (bubble b k d)
  | 0 => h
  | d + 1 => by rw [bubble_succ, bubble_succ]; exact (RAq.bub h k d).swap _ _
theorem RAq.set {a b : Array Keyed} {x y : Keyed} (h : RAq X a b) (k : RKq X x y) (i : Nat) : RAq X (a.setIfInBounds i x) (b.setIfInBounds i y) := by
  obtain ⟨l, hl, rfl, rfl⟩ := h
  obtain ⟨j, hj, rfl, rfl⟩ := k
  refine ⟨l.set i j, fun k hk => ?_, ?_, ?_⟩
  · rcases List.mem_or_eq_of_mem_set hk with z | z
    · exact hl k z
    · rw [z]; exact hj
  all_goals
    apply Array.ext'
    simp [List.map_set]
theorem RAq.fold {c d : Array Keyed} (k : RAq X c d) (sa : Nat) {a b : Array Keyed} (h : RAq X a b) : RAq X (c.toList.zipIdx.foldl (fun a (p : Keyed × Nat) => a.setIfInBounds (sa + p.2) p.1) a) (d.toList.zipIdx.foldl (fun a (p : Keyed × Nat) => a.setIfInBounds (sa + p.2) p.1) b) := by
  obtain ⟨l, hl, rfl, rfl⟩ := k
  have key : ∀ (l : List Nat) (o : Nat) (a b : Array Keyed), (∀ i ∈ l, i < X.n) → RAq X a b → RAq X (((l.map X.k1).zipIdx o).foldl (fun a (p : Keyed × Nat) => a.setIfInBounds (sa + p.2) p.1) a) (((l.map X.k2).zipIdx o).foldl (fun a (p : Keyed × Nat) => a.setIfInBounds (sa + p.2) p.1) b) := by
    intro l
    induction l with
    | nil => exact fun _ _ _ _ h => h
    | cons i l ih =>
      intro o a b hl h
      exact ih (o + 1) _ _ (fun j hj => hl j (List.mem_cons_of_mem _ hj)) (h.set ⟨i, hl i List.mem_cons_self, rfl, rfl⟩ _)
  exact key l 0 a b hl h
end
structure CxQ where
  M : Model
  Γ : Ctx
  s1 : Shared
  s2 : Shared
  E : Value → Shared → Prop
def LwQ (C : CxQ) {α : Type} (m : StateT SortSt Sem α) (K : α → SortSt → Pos → Shared → Prop) (st : SortSt) (p : Pos) : Prop := Sem.wp C.M C.Γ (m.run st) (fun r p' s' => K r.1 r.2 p' s') (fun _ _ _ => False) p C.s1
def RwQ (C : CxQ) {α : Type} (m : StateT SortSt Sem α) (K : α → SortSt → Pos → Shared → Prop) (st : SortSt) (p : Pos) : Prop := Sem.wp C.M C.Γ (m.run st) (fun r p' s' => K r.1 r.2 p' s') (fun e _ s' => C.E e s') p C.s2
def SimQ (C : CxQ) (X : Prq) {α : Type} (R : α → α → Prop) (m1 m2 : StateT SortSt Sem α) : Prop := ∀ st1 st2 p1 p2 K1 K2, RSq X st1 st2 → LwQ C m1 K1 st1 p1 → (∀ a b st1' st2' p1' p2', R a b → RSq X st1' st2' → K1 a st1' p1' C.s1 → K2 b st2' p2' C.s2) → RwQ C m2 K2 st2 p2
section
variable {C : CxQ} {X : Prq} {α β : Type}
theorem SimQ.pure {R : α → α → Prop} {a b : α} (h : R a b) : SimQ C X R (Pure.pure a) (Pure.pure b) := by
  intro st1 st2 p1 p2 K1 K2 r l k
  unfold LwQ at l
  unfold RwQ
  rw [StateT.run_pure, Sem.wp_pure'] at l ⊢
  exact k _ _ _ _ _ _ h r l
theorem SimQ.bind {R : α → α → Prop} {R' : β → β → Prop} {m1 m2 : StateT SortSt Sem α} {f1 f2 : α → StateT SortSt Sem β} (h : SimQ C X R m1 m2) (hf : ∀ a b, R a b → SimQ C X R' (f1 a) (f2 b)) : SimQ C X R' (m1 >>= f1) (m2 >>= f2) := by
  intro st1 st2 p1 p2 K1 K2 r l k
  unfold LwQ at l
  unfold RwQ
  rw [StateT.run_bind, Sem.wp_bind'] at l ⊢
  exact h st1 st2 p1 p2 (fun a st p s => Sem.wp C.M C.Γ ((f1 a).run st) (fun r p' s' => K1 r.1 r.2 p' s') (fun _ _ _ => False) p s) (fun b st p s => Sem.wp C.M C.Γ ((f2 b).run st) (fun r p' s' => K2 r.1 r.2 p' s') (fun e _ s' => C.E e s') p s) r l fun a b st1' st2' p1' p2' hab r' l' => hf a b hab st1' st2' p1' p2' K1 K2 r' l' k
theorem SimQ.get : SimQ C X (RSq X) (get : StateT SortSt Sem SortSt) get := by
  intro st1 st2 p1 p2 K1 K2 r l k
  unfold LwQ at l
  unfold RwQ
  rw [StateT.run_get, Sem.wp_pure'] at l ⊢
  exact k _ _ _ _ _ _ r r l
theorem SimQ.modify {f1 f2 : SortSt → SortSt} (h : ∀ a b, RSq X a b → RSq X (f1 a) (f2 b)) : SimQ C X (fun _ _ => True) (modify f1 : StateT SortSt Sem PUnit) (modify f2) := by
  intro st1 st2 p1 p2 K1 K2 r l k
  unfold LwQ at l
  unfold RwQ
  rw [StateT.run_modify, Sem.wp_pure'] at l ⊢
  exact k _ _ _ _ _ _ trivial (h _ _ r) l
theorem SimQ.set {a b : SortSt} (h : RSq X a b) : SimQ C X (fun _ _ => True) (set a : StateT SortSt Sem PUnit) (set b) := by
  intro st1 st2 p1 p2 K1 K2 r l k
  unfold LwQ at l
  unfold RwQ
  rw [StateT.run_set, Sem.wp_pure'] at l ⊢
  exact k _ _ _ _ _ _ trivial h l
theorem SimQ.rule {n1 n2 : String} : SimQ C X (fun _ _ => True) (liftM (PySem.rule n1) : StateT SortSt Sem Unit) (liftM (PySem.rule n2)) := by
  intro st1 st2 p1 p2 K1 K2 r l k
  have l : Sem.wp C.M C.Γ ((StateT.lift (PySem.rule n1) : StateT SortSt Sem Unit).run st1) _ _ p1 C.s1 := l
  show Sem.wp C.M C.Γ ((StateT.lift (PySem.rule n2) : StateT SortSt Sem Unit).run st2) _ _ p2 C.s2
  rw [StateT.run_lift, Sem.wp_bind'] at l ⊢
  unfold PySem.rule at l ⊢
  simp only [Sem.wp, Sem.wp_pure'] at l ⊢
  exact k _ _ _ _ _ _ trivial r l
theorem SimQ.uns {n1 : String} {R : α → α → Prop} {m2 : StateT SortSt Sem α} : SimQ C X R (liftM (unsupported n1 : Sem α) : StateT SortSt Sem α) m2 := by
  intro st1 st2 p1 p2 K1 K2 r l k
  have l : Sem.wp C.M C.Γ ((StateT.lift (unsupported n1) : StateT SortSt Sem α).run st1) _ _ p1 C.s1 := l
  rw [StateT.run_lift, Sem.wp_bind'] at l
  exact absurd l (by simp [unsupported, Sem.wp])
theorem SimQ.ite {R : α → α → Prop} {c : Prop} [Decidable c] {a1 a2 b1 b2 : StateT SortSt Sem α} (h1 : c → SimQ C X R a1 a2) (h2 : ¬ c → SimQ C X R b1 b2) : SimQ C X R (if c then a1 else b1) (if c then a2 else b2) := by
  by_cases h : c
  · rw [if_pos h, if_pos h]; exact h1 h
  · rw [if_neg h, if_neg h]; exact h2 h
inductive RStq (R : β → β → Prop) : ForInStep β → ForInStep β → Prop
  | done {a b : β} : R a b → RStq R (.done a) (.done b)
  | yield {a b : β} : R a b → RStq R (.yield a) (.yield b)
theorem SimQ.list {R : β → β → Prop} {f1 f2 : Nat → β → StateT SortSt Sem (ForInStep β)} (h : ∀ i a b, R a b → SimQ C X (RStq R) (f1 i a) (f2 i b)) : ∀ (l : List Nat) (a b : β), R a b → SimQ C X R (forIn l a f1) (forIn l b f2)
  | [], a, b, hab => by rw [List.forIn_nil, List.forIn_nil]; exact SimQ.pure hab
  | i :: l, a, b, hab => by
    rw [List.forIn_cons, List.forIn_cons]
    refine SimQ.bind (h i a b hab) fun x y hxy => ?_
    cases hxy with
    | done z => exact SimQ.pure z
    | yield z => exact SimQ.list h l _ _ z
theorem SimQ.range {R : β → β → Prop} {f1 f2 : Nat → β → StateT SortSt Sem (ForInStep β)} {lo hi : Nat} {a b : β} (hab : R a b) (h : ∀ i a b, R a b → SimQ C X (RStq R) (f1 i a) (f2 i b)) : SimQ C X R (forIn [lo:hi] a f1) (forIn [lo:hi] b f2) := by
  rw [Std.Legacy.Range.forIn_eq_forIn_range', Std.Legacy.Range.forIn_eq_forIn_range']
  exact SimQ.list h _ _ _ hab
theorem SimQ.elem {a b : Array Keyed} (h : RAq X a b) (i : Nat) : SimQ C X (RKq X) (elem' a i) (elem' b i) := by
  rw [elem'_eq, elem'_eq]
  rcases h.get i with ⟨e1, e2⟩ | ⟨x, y, e1, e2, r⟩
  · rw [e1, e2]; exact SimQ.uns
  · rw [e1, e2]; exact SimQ.pure r
structure AsksQ (C : CxQ) (X : Prq) (c : Nat → Nat → Bool) : Prop where
  left : ∀ i j, i < X.n → j < X.n → ∀ (Q : Bool → Pos → Shared → Prop) (E : Value → Pos → Shared → Prop) p, Sem.wp C.M C.Γ (keyLt' X.d1 (X.k1 i).1 (X.k1 j).1) Q E p C.s1 → Q (c i j) p C.s1
  right : ∀ i j, i < X.n → j < X.n → ∀ p, Sem.wp C.M C.Γ (keyLt' X.d2 (X.k2 i).1 (X.k2 j).1) (fun b _ s => b = c i j ∧ s = C.s2) (fun _ _ _ => False) p C.s2
variable {c : Nat → Nat → Bool}
theorem SimQ.lt (A : AsksQ C X c) {x y x' y' : Keyed} (h : RKq X x y) (h' : RKq X x' y') : SimQ C X (fun a b => a = b ∧ a.isSome = true) (lt' x x') (lt' y y') := by
  obtain ⟨i, hi, rfl, rfl⟩ := h
  obtain ⟨j, hj, rfl, rfl⟩ := h'
  rw [lt'_eq, lt'_eq]
  refine SimQ.bind SimQ.get fun a b hab => ?_
  rw [hab.k1, hab.k2]
  intro st1 st2 p1 p2 K1 K2 r l k
  have l : Sem.wp C.M C.Γ ((StateT.lift (keyLt' X.d1 (X.k1 i).1 (X.k1 j).1).attempt >>= fun r => (match r with
    | .ok b => Pure.pure (some b)
    | .error e => (do _root_.modify (fun s => SortSt.mk' (kindOf s) (arrOf s) (pendingOf s) (gallopOf s) (some e)); Pure.pure none) : StateT SortSt Sem (Option Bool)) : StateT SortSt Sem (Option Bool)).run st1) _ _ p1 C.s1 := l
  show Sem.wp C.M C.Γ ((StateT.lift (keyLt' X.d2 (X.k2 i).1 (X.k2 j).1).attempt >>= fun r => (match r with
    | .ok b => Pure.pure (some b)
    | .error e => (do _root_.modify (fun s => SortSt.mk' (kindOf s) (arrOf s) (pendingOf s) (gallopOf s) (some e)); Pure.pure none) : StateT SortSt Sem (Option Bool)) : StateT SortSt Sem (Option Bool)).run st2) _ _ p2 C.s2
  rw [StateT.run_bind, StateT.run_lift, Sem.wp_bind', Sem.wp_bind'] at l ⊢
  rw [Sem.wp_attempt] at l ⊢
  have l := A.left i j hi hj _ _ _ l
  refine Sem.wp_mono _ _ _ (fun b p s hb => ?_) (fun _ _ _ h => h.elim) _ _ (A.right i j hi hj p2)
  obtain ⟨rfl, rfl⟩ := hb
  simp only [Sem.wp_pure', StateT.run_pure] at l ⊢
  exact k _ _ _ _ _ _ ⟨rfl, rfl⟩ r l
theorem SimQ.ltAt (A : AsksQ C X c) (i j : Nat) : SimQ C X (fun a b => a = b ∧ a.isSome = true) (ltAt' i j) (ltAt' i j) := by
  rw [ltAt'_eq]
  refine SimQ.bind SimQ.get fun a b hab => ?_
  exact SimQ.bind (SimQ.elem hab.arr _) fun x y h => SimQ.bind (SimQ.elem hab.arr _) fun x' y' h' => SimQ.lt A h h'
end
end L2
set_option Elab.async false
set_option linter.all false
set_option maxRecDepth 100000
namespace L2
open PySem PySem.W PySem.Calls PyProof.Rows
section
variable {C : CxQ} {X : Prq} {α β γ : Type} {c : Nat → Nat → Bool}
theorem SimQ.revS (i j : Nat) : SimQ C X (fun _ _ => True) (reverseSlice' i j) (reverseSlice' i j) := by
  rw [reverseSlice'_eq]
  exact SimQ.modify fun a b h => ⟨h.arr.mir _ _ _, h.k1, h.k2, h.pend, h.gal, h.f1, h.f2⟩
theorem SimQ.movD (i j : Nat) : SimQ C X (fun _ _ => True) (moveDown' i j) (moveDown' i j) := by
  rw [moveDown'_eq]
  exact SimQ.modify fun a b h => ⟨h.arr.bub _ _, h.k1, h.k2, h.pend, h.gal, h.f1, h.f2⟩
theorem SimQ.setG (g : Nat) : SimQ C X (fun _ _ => True) (setMinGallop' g) (setMinGallop' g) := by
  rw [setMinGallop'_eq]
  exact SimQ.modify fun a b h => ⟨h.arr, h.k1, h.k2, h.pend, rfl, h.f1, h.f2⟩
variable {R : β → β → Prop}
theorem SimQ.bLtAt (A : AsksQ C X c) {i j : Nat} {f1 f2 : Option Bool → StateT SortSt Sem β} (h : ∀ b, SimQ C X R (f1 (some b)) (f2 (some b))) : SimQ C X R (ltAt' i j >>= f1) (ltAt' i j >>= f2) :=
  SimQ.bind (SimQ.ltAt A i j) fun a b ⟨e, s⟩ => by
    subst e
    cases a with
    | none => cases s
    | some b => exact h b
theorem SimQ.bLt (A : AsksQ C X c) {x y x' y' : Keyed} (k : RKq X x y) (k' : RKq X x' y') {f1 f2 : Option Bool → StateT SortSt Sem β} (h : ∀ b, SimQ C X R (f1 (some b)) (f2 (some b))) : SimQ C X R (lt' x x' >>= f1) (lt' y y' >>= f2) :=
  SimQ.bind (SimQ.lt A k k') fun a b ⟨e, s⟩ => by
    subst e
    cases a with
    | none => cases s
    | some b => exact h b
theorem SimQ.bRange {lo hi : Nat} {a : Option α × γ} {g1 g2 : Nat → Option α × γ → StateT SortSt Sem (ForInStep (Option α × γ))} {f1 f2 : Option α × γ → StateT SortSt Sem β} (hg : ∀ i o c, SimQ C X (RStq Eq) (g1 i (o, c)) (g2 i (o, c))) (hs : ∀ r c, SimQ C X R (f1 (some r, c)) (f2 (some r, c))) (hn : ∀ c, SimQ C X R (f1 (none, c)) (f2 (none, c))) :
    SimQ C X R (forIn [lo:hi] a g1 >>= f1) (forIn [lo:hi] a g2 >>= f2) :=
  SimQ.bind (SimQ.range (R := Eq) rfl fun i a b h => by subst h; exact hg i a.1 a.2) fun a b h => by
    subst h
    obtain ⟨o, d⟩ := a
    cases o with
    | none => exact hn d
    | some r => exact hs r d
theorem SimQ.bEq {m1 m2 : StateT SortSt Sem α} (k : SimQ C X Eq m1 m2) {f1 f2 : α → StateT SortSt Sem β} (h : ∀ a, SimQ C X R (f1 a) (f2 a)) : SimQ C X R (m1 >>= f1) (m2 >>= f2) := SimQ.bind k fun a b e => by subst e; exact h a
theorem SimQ.bUnit {m1 m2 : StateT SortSt Sem α} (k : SimQ C X (fun _ _ => True) m1 m2) {f1 f2 : α → StateT SortSt Sem β} (h : ∀ a b, SimQ C X R (f1 a) (f2 b)) : SimQ C X R (m1 >>= f1) (m2 >>= f2) := SimQ.bind k fun a b _ => h a b
local macro_rules | `(tactic| walk_at "sim1") => `(tactic| first
  | with_reducible exact SimQ.pure rfl
  | with_reducible exact SimQ.pure (RStq.done rfl)
  | with_reducible exact SimQ.pure (RStq.yield rfl)
  | with_reducible refine SimQ.ite (fun _ => ?_) (fun _ => ?_)
  | with_reducible refine SimQ.bLtAt ‹_› (fun _ => ?_)
  | with_reducible refine SimQ.bUnit SimQ.rule (fun _ _ => ?_)
  | with_reducible refine SimQ.bUnit (SimQ.revS _ _) (fun _ _ => ?_)
  | with_reducible refine SimQ.bUnit (SimQ.movD _ _) (fun _ _ => ?_)
  | with_reducible refine SimQ.bRange (fun _ _ _ => ?_) (fun _ _ => ?_) (fun _ => ?_)
  | dsimp only)
local macro_rules | `(tactic| walk_at "sim") => `(tactic| repeat' walk_at "sim1")
theorem SimQ.bin (A : AsksQ C X c) (lo n ok : Nat) : SimQ C X Eq (binarySort' lo n ok) (binarySort' lo n ok) := by
  rw [binarySort'_eq]
  walk_at "sim"
set_option maxHeartbeats 1000000 in
theorem SimQ.cnt (A : AsksQ C X c) (lo n : Nat) : SimQ C X Eq (countRun' lo n) (countRun' lo n) := by
  rw [countRun'_eq]
  walk_at "sim"
theorem SimQ.bey (A : AsksQ C X c) (left : Bool) {key1 key2 : Keyed} {a1 a2 : Array Keyed} (k : RKq X key1 key2) (r : RAq X a1 a2) (j : Nat) :
    SimQ C X (fun a b => a = b ∧ a.isSome = true) (do let x ← elem' a1 j; if left = true then lt' x key1 else (do let r ← lt' key1 x; Pure.pure (r.map (!·)))) (do let x ← elem' a2 j; if left = true then lt' x key2 else (do let r ← lt' key2 x; Pure.pure (r.map (!·)))) := by
  refine SimQ.bind (SimQ.elem r j) fun x y h => ?_
  refine SimQ.ite (fun _ => SimQ.lt A h k) (fun _ => ?_)
  refine SimQ.bLt A k h fun b => SimQ.pure ⟨rfl, rfl⟩
theorem SimQ.bBey (A : AsksQ C X c) {left : Bool} {key1 key2 : Keyed} {a1 a2 : Array Keyed} (k : RKq X key1 key2) (r : RAq X a1 a2) {base j : Nat} {f1 f2 : Option Bool → StateT SortSt Sem β} (h : ∀ b, SimQ C X R (f1 (some b)) (f2 (some b))) : SimQ C X R (beyond' left key1 a1 base j >>= f1) (beyond' left key2 a2 base j >>= f2) :=
  SimQ.bind (SimQ.bey A left k r (base + j)) fun a b ⟨e, s⟩ => by
    subst e
    cases a with
    | none => cases s
    | some b => exact h b
set_option maxHeartbeats 1000000 in
theorem SimQ.gal (A : AsksQ C X c) {left : Bool} {key1 key2 : Keyed} {a1 a2 : Array Keyed} (k : RKq X key1 key2) (r : RAq X a1 a2) {base n hint : Nat} : SimQ C X Eq (gallop' left key1 a1 base n hint) (gallop' left key2 a2 base n hint) := by
  rw [gallop'_eq, gallop'_eq]
  repeat' first
    | walk_at "sim1"
    | with_reducible refine SimQ.bBey A k r (fun _ => ?_)
end
end L2
set_option Elab.async false
set_option linter.all false
set_option maxRecDepth 100000
namespace L2
open PySem PySem.W PySem.Calls PyProof.Rows
section
variable {C : CxQ} {X : Prq} {α β δ : Type} {c : Nat → Nat → Bool}
inductive RLq (X : Prq) : Option (Array Keyed) × (Array Keyed × δ) → Option (Array Keyed) × (Array Keyed × δ) → Prop
  | none {u v : Array Keyed} {d : δ} : RAq X u v → RLq X (.none, u, d) (.none, v, d)
  | some {r q u v : Array Keyed} {d : δ} : RAq X r q → RAq X u v → RLq X (.some r, u, d) (.some q, v, d)
variable {R : β → β → Prop}
theorem SimQ.bRangeA {lo hi : Nat} {u v : Array Keyed} {d : δ} {g1 g2 : Nat → Option (Array Keyed) × (Array Keyed × δ) → StateT SortSt Sem (ForInStep (Option (Array Keyed) × (Array Keyed × δ)))} {f1 f2 : Option (Array Keyed) × (Array Keyed × δ) → StateT SortSt Sem β} (h0 : RAq X u v)
    (hg : ∀ i o o' u v d, RAq X u v → SimQ C X (RStq (RLq X)) (g1 i (o, u, d)) (g2 i (o', v, d))) (hs : ∀ r q u v d, RAq X r q → RAq X u v → SimQ C X R (f1 (some r, u, d)) (f2 (some q, v, d))) (hn : ∀ u v d, RAq X u v → SimQ C X R (f1 (none, u, d)) (f2 (none, v, d))) :
    SimQ C X R (forIn [lo:hi] (none, u, d) g1 >>= f1) (forIn [lo:hi] (none, v, d) g2 >>= f2) :=
  SimQ.bind (SimQ.range (R := RLq X) (.none h0) fun i a b h => by
    cases h with
    | none h => exact hg i _ _ _ _ _ h
    | some _ h => exact hg i _ _ _ _ _ h) fun a b h => by
    cases h with
    | none h => exact hn _ _ _ h
    | some h h' => exact hs _ _ _ _ _ h h'
inductive RHq (X : Prq) : Option (Array Keyed) × (Nat × (Nat × (Array Keyed × δ))) → Option (Array Keyed) × (Nat × (Nat × (Array Keyed × δ))) → Prop
  | none {u v : Array Keyed} {n m : Nat} {d : δ} : RAq X u v → RHq X (.none, n, m, u, d) (.none, n, m, v, d)
  | some {r q u v : Array Keyed} {n m : Nat} {d : δ} : RAq X r q → RAq X u v → RHq X (.some r, n, m, u, d) (.some q, n, m, v, d)
theorem SimQ.bRangeH {lo hi : Nat} {u v : Array Keyed} {n m : Nat} {d : δ} {g1 g2 : Nat → Option (Array Keyed) × (Nat × (Nat × (Array Keyed × δ))) → StateT SortSt Sem (ForInStep (Option (Array Keyed) × (Nat × (Nat × (Array Keyed × δ)))))} {f1 f2 : Option (Array Keyed) × (Nat × (Nat × (Array Keyed × δ))) → StateT SortSt Sem β} (h0 : RAq X u v)
    (hg : ∀ i o o' n m u v d, RAq X u v → SimQ C X (RStq (RHq X)) (g1 i (o, n, m, u, d)) (g2 i (o', n, m, v, d))) (hs : ∀ r q n m u v d, RAq X r q → RAq X u v → SimQ C X R (f1 (some r, n, m, u, d)) (f2 (some q, n, m, v, d))) (hn : ∀ n m u v d, RAq X u v → SimQ C X R (f1 (none, n, m, u, d)) (f2 (none, n, m, v, d))) :
    SimQ C X R (forIn [lo:hi] (none, n, m, u, d) g1 >>= f1) (forIn [lo:hi] (none, n, m, v, d) g2 >>= f2) :=
  SimQ.bind (SimQ.range (R := RHq X) (.none h0) fun i a b h => by
    cases h with
    | none h => exact hg i _ _ _ _ _ _ _ h
    | some _ h => exact hg i _ _ _ _ _ _ _ h) fun a b h => by
    cases h with
    | none h => exact hn _ _ _ _ _ h
    | some h h' => exact hs _ _ _ _ _ _ _ h h'
theorem SimQ.bElem {a b : Array Keyed} (h : RAq X a b) {i : Nat} {f1 f2 : Keyed → StateT SortSt Sem β} (k : ∀ x y, RKq X x y → SimQ C X R (f1 x) (f2 y)) : SimQ C X R (elem' a i >>= f1) (elem' b i >>= f2) := SimQ.bind (SimQ.elem h i) k
theorem SimQ.bGal (A : AsksQ C X c) {left : Bool} {key1 key2 : Keyed} {a1 a2 : Array Keyed} (k : RKq X key1 key2) (r : RAq X a1 a2) {base n hint : Nat} {f1 f2 : Option Nat → StateT SortSt Sem β} (hs : ∀ a, SimQ C X R (f1 (some a)) (f2 (some a))) (hn : SimQ C X R (f1 none) (f2 none)) : SimQ C X R (gallop' left key1 a1 base n hint >>= f1) (gallop' left key2 a2 base n hint >>= f2) :=
  SimQ.bEq (SimQ.gal A k r) fun a => by
    cases a with
    | none => exact hn
    | some a => exact hs a
local macro_rules | `(tactic| walk_at "ra") => `(tactic| repeat' (first | assumption | with_reducible exact RAq.nil | with_reducible apply RAq.app | with_reducible apply RAq.push | with_reducible apply RAq.ext | with_reducible apply RAq.rev | with_reducible apply RAq.one))
local macro_rules | `(tactic| walk_at "sim1") => `(tactic| first
  | (with_reducible refine SimQ.pure (RStq.done (RLq.none ?_)); walk_at "ra"; done)
  | (with_reducible refine SimQ.pure (RStq.yield (RLq.none ?_)); walk_at "ra"; done)
  | (with_reducible refine SimQ.pure (RStq.done (RLq.some ?_ ?_)) <;> (walk_at "ra"; done))
  | (with_reducible refine SimQ.pure (RStq.done (RHq.none ?_)); walk_at "ra"; done)
  | (with_reducible refine SimQ.pure (RStq.yield (RHq.none ?_)); walk_at "ra"; done)
  | (with_reducible refine SimQ.pure (RStq.done (RHq.some ?_ ?_)) <;> (walk_at "ra"; done))
  | (with_reducible refine SimQ.pure (?_ : RAq _ _ _); walk_at "ra"; done)
  | with_reducible refine SimQ.ite (fun _ => ?_) (fun _ => ?_)
  | with_reducible refine SimQ.bUnit SimQ.rule (fun _ _ => ?_)
  | with_reducible refine SimQ.bUnit (SimQ.setG _) (fun _ _ => ?_)
  | with_reducible refine SimQ.bElem (by assumption) (fun _ _ _ => ?_)
  | with_reducible refine SimQ.bLt ‹_› (by assumption) (by assumption) (fun _ => ?_)
  | with_reducible refine SimQ.bGal ‹_› (by assumption) (by assumption) (fun _ => ?_) ?_
  | with_reducible refine SimQ.bRangeA (by walk_at "ra") (fun _ _ _ _ _ _ _ => ?_) (fun _ _ _ _ _ _ _ => ?_) (fun _ _ _ _ => ?_)
  | with_reducible refine SimQ.bRangeH (by walk_at "ra") (fun _ _ _ _ _ _ _ _ _ => ?_) (fun _ _ _ _ _ _ _ _ _ => ?_) (fun _ _ _ _ _ _ => ?_)
  | (with_reducible refine SimQ.bind SimQ.get (fun s1 s2 hs => ?_); rw [hs.gal])
  | with_reducible exact SimQ.uns
  | dsimp only)
set_option maxHeartbeats 2000000 in
theorem SimQ.mlo (A : AsksQ C X c) {a1 a2 b1 b2 : Array Keyed} (ra : RAq X a1 a2) (rb : RAq X b1 b2) : SimQ C X (RAq X) (mergeLo' a1 b1) (mergeLo' a2 b2) := by
  rw [mergeLo'_eq, mergeLo'_eq, ra.size, rb.size]
  repeat' walk_at "sim1"
set_option maxHeartbeats 2000000 in
theorem SimQ.mhi (A : AsksQ C X c) {a1 a2 b1 b2 : Array Keyed} (ra : RAq X a1 a2) (rb : RAq X b1 b2) : SimQ C X (RAq X) (mergeHi' a1 b1) (mergeHi' a2 b2) := by
  rw [mergeHi'_eq, mergeHi'_eq, ra.size, rb.size]
  repeat' walk_at "sim1"
set_option maxHeartbeats 2000000 in
theorem SimQ.mat (A : AsksQ C X c) (i : Nat) : SimQ C X Eq (mergeAt' i) (mergeAt' i) := by
  rw [mergeAt'_eq]
  refine SimQ.bind SimQ.get fun s1 s2 hs => ?_
  have ha := hs.arr
  rw [hs.pend]
  rcases (pendingOf s2)[i]? with _ | ⟨sa, na, pw⟩
  · exact SimQ.uns
  rcases (pendingOf s2)[i + 1]? with _ | ⟨sb, nb, pw2⟩
  · exact SimQ.uns
  dsimp only
  refine SimQ.bUnit (SimQ.set ?_) (fun _ _ => ?_)
  · exact ⟨ha, hs.k1, hs.k2, rfl, hs.gal, hs.f1, hs.f2⟩
  refine SimQ.bElem ha fun x y h => ?_
  refine SimQ.bGal A h ha (fun k => ?_) (SimQ.pure rfl)
  dsimp only
  refine SimQ.ite (fun _ => SimQ.pure rfl) (fun _ => ?_)
  refine SimQ.bElem ha fun x' y' h' => ?_
  refine SimQ.bGal A h' ha (fun k' => ?_) (SimQ.pure rfl)
  dsimp only
  refine SimQ.ite (fun _ => SimQ.pure rfl) (fun _ => ?_)
  have fin : ∀ m1 m2, RAq X m1 m2 → SimQ C X Eq (do
      _root_.modify (fun s => setArr s (List.foldl (fun a (p : Keyed × Nat) => a.setIfInBounds (sa + k + p.2) p.1) (arrOf s) m1.toList.zipIdx))
      let s ← (MonadState.get : StateT SortSt Sem SortSt)
      Pure.pure (failedOf s).isNone) (do
      _root_.modify (fun s => setArr s (List.foldl (fun a (p : Keyed × Nat) => a.setIfInBounds (sa + k + p.2) p.1) (arrOf s) m2.toList.zipIdx))
      let s ← (MonadState.get : StateT SortSt Sem SortSt)
      Pure.pure (failedOf s).isNone) := fun m1 m2 hm => by
    refine SimQ.bUnit (SimQ.modify ?_) (fun _ _ => ?_)
    · intro a b hab
      exact ⟨hm.fold _ hab.arr, hab.k1, hab.k2, hab.pend, hab.gal, hab.f1, hab.f2⟩
    refine SimQ.bind SimQ.get fun s1 s2 hs => ?_
    rw [hs.f1, hs.f2]
    exact SimQ.pure rfl
  refine SimQ.ite (fun _ => ?_) (fun _ => ?_)
  · exact SimQ.bind (SimQ.mlo A (ha.ext _ _) (ha.ext _ _)) fin
  · exact SimQ.bind (SimQ.mhi A (ha.ext _ _) (ha.ext _ _)) fin
theorem SimQ.bMod {f1 f2 : SortSt → SortSt} {g1 g2 : PUnit → StateT SortSt Sem β} (h : ∀ a b, RSq X a b → RSq X (f1 a) (f2 b)) (k : ∀ u v, SimQ C X R (g1 u) (g2 v)) : SimQ C X R (_root_.modify f1 >>= g1) (_root_.modify f2 >>= g2) := SimQ.bUnit (SimQ.modify h) k
theorem RSq.setP {a b : SortSt} (h : RSq X a b) {p q : Array (Nat × Nat × Nat)} (e : p = q) : RSq X (setPending a p) (setPending b q) := ⟨h.arr, h.k1, h.k2, e, h.gal, h.f1, h.f2⟩
theorem SimQ.bGetP {f1 f2 : SortSt → StateT SortSt Sem β} (h : ∀ s1 s2, RSq X s1 s2 → SimQ C X R (f1 s1) (f2 s2)) : SimQ C X R (MonadState.get >>= f1) (MonadState.get >>= f2) := SimQ.bind SimQ.get h
local macro_rules | `(tactic| walk_at "simM") => `(tactic| (
    refine SimQ.bGetP (fun s1 s2 hs => ?_)
    rw [hs.pend]
    generalize (pendingOf s2).back? = o
    rcases o with _ | ⟨x1, x2, x3⟩
    · try dsimp only
      exact SimQ.bMod (fun a b hab => RSq.setP hab (by rw [hab.pend])) fun _ _ => SimQ.pure (RStq.yield rfl)
    · try dsimp only
      refine SimQ.bRange (fun _ _ _ => ?_) (fun _ _ => SimQ.pure (RStq.done rfl)) (fun _ => ?_)
      · refine SimQ.bGetP (fun s3 s4 hs2 => ?_)
        rw [hs2.pend]
        try dsimp only
        generalize (if (pendingOf s4).size > 1 then (pendingOf s4)[(pendingOf s4).size - 2]? else none) = o2
        rcases o2 with _ | ⟨y1, y2, y3⟩
        · exact SimQ.pure (RStq.done rfl)
        · try dsimp only
          refine SimQ.ite (fun _ => SimQ.pure (RStq.done rfl)) (fun _ => ?_)
          refine SimQ.bEq (SimQ.mat ‹_› _) fun b => ?_
          exact SimQ.ite (fun _ => SimQ.pure (RStq.done rfl)) (fun _ => SimQ.pure (RStq.yield rfl))
      · refine SimQ.bMod (fun a b hab => RSq.setP hab (by rw [hab.pend])) fun _ _ => ?_
        exact SimQ.bMod (fun a b hab => RSq.setP hab (by rw [hab.pend])) fun _ _ => SimQ.pure (RStq.yield rfl)))
set_option maxHeartbeats 4000000 in
theorem SimQ.srt (A : AsksQ C X c) : SimQ C X (fun _ _ => True) sortRuns' sortRuns' := by
  rw [sortRuns'_eq]
  refine SimQ.bGetP fun s1 s2 hs => ?_
  rw [hs.arr.size]
  dsimp only
  generalize (arrOf s2).size = size
  refine SimQ.bRange (fun i o lo => ?_) (fun r lo => SimQ.pure trivial) (fun lo => ?_)
  · dsimp only
    refine SimQ.ite (fun _ => SimQ.pure (RStq.done rfl)) (fun _ => ?_)
    refine SimQ.bEq (SimQ.cnt A _ _) fun found => ?_
    cases found with
    | none => exact SimQ.pure (RStq.done rfl)
    | some found =>
      dsimp only
      refine SimQ.ite (fun _ => ?_) (fun _ => ?_)
      · refine SimQ.bUnit SimQ.rule fun _ _ => ?_
        refine SimQ.bEq (SimQ.bin A _ _ _) fun b => ?_
        refine SimQ.ite (fun _ => SimQ.pure (RStq.done rfl)) (fun _ => ?_)
        walk_at "simM"
      · walk_at "simM"
  · try dsimp only
    refine SimQ.bRange (fun _ _ _ => ?_) (fun _ _ => SimQ.pure trivial) (fun _ => SimQ.pure trivial)
    refine SimQ.bGetP fun s3 s4 hs2 => ?_
    rw [hs2.pend]
    try dsimp only
    refine SimQ.ite (fun _ => SimQ.pure (RStq.done rfl)) (fun _ => ?_)
    refine SimQ.bEq (SimQ.mat A _) fun b => ?_
    exact SimQ.ite (fun _ => SimQ.pure (RStq.done rfl)) (fun _ => SimQ.pure (RStq.yield rfl))
end
end L2
set_option Elab.async false
set_option linter.all false
set_option maxRecDepth 100000
namespace L2
open PySem PySem.W PySem.Calls PyProof.Rows
theorem cntP_lt {p q : Nat → Bool} : ∀ {l : List Nat}, (∀ k ∈ l, p k = true → q k = true) → (∃ k ∈ l, q k = true ∧ p k = false) → l.countP p < l.countP q
  | [], _, ⟨k, h, _⟩ => by cases h
  | x :: l, h, ⟨k, hk, a, b⟩ => by
    have m := List.countP_mono_left (l := l) fun k hk z => h k (List.mem_cons_of_mem _ hk) z
    rw [List.countP_cons, List.countP_cons]
    rcases List.mem_cons.mp hk with rfl | hk
    · rw [a, b]; simp; omega
    · have ih := cntP_lt (l := l) (fun k hk z => h k (List.mem_cons_of_mem _ hk) z) ⟨k, hk, a, b⟩
      have hx := h x List.mem_cons_self
      cases c : p x with
      | false => simp; split <;> omega
      | true => rw [hx c]; simp; omega
def rankN (lt : Nat → Nat → Bool) (n i : Nat) : Nat := (List.range n).countP fun k => lt k i
theorem rank_lt {lt : Nat → Nat → Bool} (o : Ord lt) {n i j : Nat} (hi : i < n) : lt i j = decide (rankN lt n i < rankN lt n j) := by
  cases c : lt i j with
  | true =>
    refine (decide_eq_true ?_).symm
    refine cntP_lt (fun k _ h => ?_) ⟨i, List.mem_range.mpr hi, c, o.irr i⟩
    cases d : lt k j with
    | true => rfl
    | false =>
      -- k above j, i above k
      have := o.tr _ _ _ d (o.asym _ _ h)
      rw [c] at this
      cases this
  | false =>
    refine (decide_eq_false ?_).symm
    refine Nat.not_lt.mpr (List.countP_mono_left fun k _ h => ?_)
    cases d : lt k i with
    | true => rfl
    | false =>
      have := o.tr _ _ _ c d
      rw [h] at this
      cases this
theorem keyC_of {h : Heap} {shape : Nat → Bool} {a : Addr} {o : Obj} {xs : Array Value} {n : Nat} {l : List (Int ⊕ List Nat)} (ho : h.get? a = some o) (hc : o.cls = .type "tuple") (hd : o.data = .seq xs n) (hi : tupItems shape 0 xs.toList = some l) : G.tupKeyC h shape (.ref a) = some l := by
  have e : G.isTupObj h (.ref a) = true := by simp [G.isTupObj, ho, hc]
  unfold G.tupKeyC
  rw [if_pos e]
  simp only [tupKey, ho, hd]
  exact hi
def zer (t : Tok) (r : Nat) : Obj := seqObj "tuple" (Array.replicate r (Value.int 0 t)) 0
theorem rows_heap (t : Tok) (r : Nat → Nat) (h : Heap) : ∀ n, ∃ h' : Heap, h'.objs.size = h.objs.size + n ∧ ∀ i, i < n → h'.get? (h.objs.size + i) = some (zer t (r i))
  | 0 => ⟨h, rfl, fun i hi => absurd hi (Nat.not_lt_zero _)⟩
  | n + 1 => by
    obtain ⟨h', hs, hh⟩ := rows_heap t r h n
    refine ⟨h'.push (zer t (r n)), by rw [size_push', hs]; rfl, fun i hi => ?_⟩
    by_cases c : i < n
    · exact Heap.get?_push_of_some _ (hh i c)
    · have : i = n := by omega
      subst this
      rw [← hs]
      exact Heap.get?_push_size _ rfl
theorem items_zer (t : Tok) : ∀ (r i : Nat), tupItems (fun _ => false) i (List.replicate r (Value.int 0 t)) = some ((List.replicate r (0 : Int)).map Sum.inl)
  | 0, _ => rfl
  | r + 1, i => by
    rw [List.replicate_succ, List.replicate_succ]
    unfold tupItems
    rw [if_neg Bool.false_ne_true, items_zer t r (i + 1)]
    rfl
theorem lex_zer : ∀ m k : Nat, HT.lexLt (List.replicate m (0 : Int)) (List.replicate k 0) = decide (m < k)
  | 0, 0 => rfl
  | 0, _ + 1 => rfl
  | _ + 1, 0 => rfl
  | m + 1, k + 1 => by
    rw [List.replicate_succ, List.replicate_succ]
    show (if (0 : Int) = 0 then HT.lexLt (List.replicate m (0 : Int)) (List.replicate k 0) else _) = _
    rw [if_pos rfl, lex_zer m k]
    simp
section
variable {prog : Program} {w : World} {A : Around} {E : Value → Shared → Prop} {s : Shared}
theorem run_any {κ : SortKind} {vs : List Value} {lt : Nat → Nat → Bool} (o : Ord lt) (h2 : 2 ≤ vs.length)
    (ask : ∀ i j, i < vs.length → j < vs.length → wpAny (model prog w) A (keyLt' κ (vs.getD i Value.none) (vs.getD j Value.none)) (fun b s' => b = lt i j ∧ s' = s) (fun _ _ => False) s) :
    wpAny (model prog w) A (sortRuns'.run (SortSt.mk' κ (vs.toArray.zip vs.toArray) #[] 7 none)) (fun r s' => s' = s ∧ failedOf r.2 = none ∧ ∃ p : Array Nat, p.size = vs.length ∧ arrOf r.2 = p.map (kas_item (vs.toArray.zip vs.toArray)) ∧ PermN vs.length p ∧ Asc lt p vs.length) E s := by
  intro Γ p hΓ
  let n := vs.length
  let t : Tok := (default : Tok)
  let rk : Nat → Nat := rankN lt n
  obtain ⟨h1, hs1, hh1⟩ := rows_heap t rk s.heap n
  let s1 : Shared := { s with heap := h1 }
  let ad : Nat → Addr := fun i => s.heap.objs.size + i
  let vs1 : List Value := (List.range n).map fun i => Value.ref (ad i)
  let X : Prq := { n := n, k1 := fun i => (.ref (ad i), .ref (ad i)), k2 := fun i => (vs.getD i Value.none, vs.getD i Value.none), d1 := tuples' false, d2 := κ }
  let C : CxQ := { M := model prog w, Γ := Γ, s1 := s1, s2 := s, E := E }
  have key : ∀ i, i < n → G.tupKeyC h1 (fun _ => false) (.ref (ad i)) = some ((List.replicate (rk i) (0 : Int)).map Sum.inl) := fun i hi => by
    refine keyC_of (hh1 i hi) rfl rfl ?_
    rw [Array.toList_replicate]
    exact items_zer t _ _
  have A1 : AsksQ C X lt := by
    refine ⟨fun i j hi hj Q E' p' hw => ?_, fun i j hi hj p' => ?_⟩
    · have := inv_lt (t := t) (hh1 i hi) rfl (hh1 j hj) rfl hw
      rw [rank_lt o (n := n) hi]
      exact this
    · exact ask i j hi hj Γ p' hΓ
  have e1 : pairsOf vs1 = ((List.range n).map X.k1).toArray := by
    apply Array.toList_inj.mp
    rw [pairsOf_toList]
    show List.zip ((List.range n).map _) ((List.range n).map _) = _
    rw [List.zip_map']
  have e2 : vs.toArray.zip vs.toArray = ((List.range n).map X.k2).toArray := by
    apply Array.toList_inj.mp
    have : vs = (List.range n).map fun i => vs.getD i Value.none := by
      apply List.ext_getElem?
      intro i
      by_cases hi : i < vs.length
      · simp [n, List.getElem?_map, List.getElem?_range hi, List.getD, List.getElem?_eq_getElem hi]
      · rw [List.getElem?_eq_none (by omega), List.getElem?_eq_none (by simp [n]; omega)]
    rw [Array.toList_zip]
    show vs.zip vs = _
    conv => lhs; rw [this]
    rw [List.zip_map']
  let st1 : SortSt := SortSt.mk' (tuples' false) (pairsOf vs1) #[] 7 none
  let st2 : SortSt := SortSt.mk' κ (vs.toArray.zip vs.toArray) #[] 7 none
  have rs : RSq X st1 st2 := ⟨⟨List.range n, fun i hi => List.mem_range.mp hi, e1, e2⟩, rfl, rfl, rfl, rfl, rfl, rfl⟩
  have lv : vs1.length = n := by simp [vs1]
  have left : wpS (model prog w) A (fun _ _ => False) s1 sortRuns' (fun _ st' => (arrOf st').Perm (pairsOf vs1) ∧ SortedToK (G.tupKindC h1 fun _ => false) (arrOf st') (pairsOf vs1).size) st1 := by
    refine G.wpS_sortRunsSt (κ := G.tupKindC h1 fun _ => false) (kd := tuples' false) (a₀ := pairsOf vs1) (st := st1) (G.tupC_ltAt (s := s1) (h := h1) false (G.KeepsTups.refl _)) (G.tupKeys fun v hv => ?_) ⟨Array.Perm.refl _, rfl, rfl⟩ rfl (Stable.refl _) (by rw [pairsOf_size, lv]; exact h2) fun st' a1 _ a3 _ => ⟨a1, a3⟩
    obtain ⟨i, hi, rfl⟩ := List.mem_map.mp hv
    exact ⟨_, key i (List.mem_range.mp hi)⟩
  have lw : LwQ C sortRuns' (fun _ st' _ s' => s' = s1 ∧ (arrOf st').Perm (pairsOf vs1) ∧ SortedToK (G.tupKindC h1 fun _ => false) (arrOf st') (pairsOf vs1).size) st1 p := left Γ p hΓ
  refine SimQ.srt A1 st1 st2 p p _ (fun _ st' _ s' => s' = s ∧ failedOf st' = none ∧ ∃ p : Array Nat, p.size = vs.length ∧ arrOf st' = p.map (kas_item (vs.toArray.zip vs.toArray)) ∧ PermN vs.length p ∧ Asc lt p vs.length) rs lw fun _ _ st1' st2' _ _ _ rs' hk => ?_
  obtain ⟨_, pm, so⟩ := hk
  obtain ⟨l, hl, a1, a2⟩ := rs'.arr
  refine ⟨rfl, rs'.f2, l.toArray, ?_⟩
  have pm' : (l.map X.k1).Perm ((List.range n).map X.k1) := by
    rw [a1, e1] at pm
    simpa using pm.toList
  have pl : l.Perm (List.range n) := by
    have := pm'.map fun e : Keyed => match e.1 with
      | .ref a => a - s.heap.objs.size
      | _ => 0
    rw [List.map_map, List.map_map] at this
    have id' : ∀ m : List Nat, m.map ((fun e : Keyed => match e.1 with
      | .ref a => a - s.heap.objs.size
      | _ => 0) ∘ X.k1) = m := fun m => by
      conv => rhs; rw [← List.map_id m]
      refine List.map_congr_left fun i _ => ?_
      show s.heap.objs.size + i - s.heap.objs.size = i
      omega
    rwa [id', id'] at this
  have ll : l.length = n := by rw [pl.length_eq]; simp
  have item : ∀ i, i < n → kas_item (vs.toArray.zip vs.toArray) i = X.k2 i := fun i hi => by
    rw [e2]
    unfold kas_item
    have : i < vs.length := hi
    simp [Array.getD, n, this]
  refine ⟨by simpa using ll, ?_, ?_, ?_⟩
  · rw [a2]
    apply Array.toList_inj.mp
    rw [Array.toList_map]
    exact List.map_congr_left fun i hi => (item i (hl i hi)).symm
  · show (l.toArray).Perm (List.range n).toArray
    exact pl.toArray
  · intro a b hab hb
    have ha' : a < l.length := by rw [ll]; show a < vs.length; omega
    have hb' : b < l.length := by rw [ll]; exact hb
    have ga' : ga l.toArray a = l[a] := by simp [ga, Array.getD, ha']
    have gb' : ga l.toArray b = l[b] := by simp [ga, Array.getD, hb']
    have la := hl _ (List.getElem_mem ha')
    have lb := hl _ (List.getElem_mem hb')
    rw [ga', gb', rank_lt o (n := n) lb]
    refine decide_eq_false (Nat.not_lt.mpr ?_)
    have z := so a b (Nat.le_of_lt hab) (by rw [pairsOf_size, lv]; exact hb)
    have kk : ∀ (i : Nat) (hi : i < l.length), KK (G.tupKindC h1 fun _ => false) (arrOf st1') i = (List.replicate (rk l[i]) (0 : Int)).map Sum.inl := fun i hi => by
      unfold KK
      rw [a1]
      have : ((l.map X.k1).toArray)[i]? = some (X.k1 l[i]) := by simp [hi]
      rw [this]
      show (G.tupKeyC h1 (fun _ => false) (.ref (ad l[i]))).getD _ = _
      rw [key _ (hl _ (List.getElem_mem hi))]
      rfl
    rw [kk a ha', kk b hb'] at z
    have z : (listOrd itemOrd).blt ((List.replicate (rk l[b]) (0 : Int)).map Sum.inl) ((List.replicate (rk l[a]) (0 : Int)).map Sum.inl) = false := z
    rw [lex_same, lex_zer] at z
    have := of_decide_eq_false z
    exact Nat.not_lt.mp this
end
end L2
set_option Elab.async false
set_option linter.all false
set_option maxRecDepth 100000
namespace L2
open PySem PySem.W PySem.Spec PyProof.Rows
section
variable {prog : Program} {w : World} {A : Around} {E : Value → Shared → Prop} {s : Shared}
theorem sort_anyL {a : Addr} {vs : List Value} {n : Nat} {P : Fin → Shared → Prop} (G : Array Nat → Prop) (ho : s.heap.get? a = some (seqObj "list" vs.toArray n)) (hz : vs.length ≤ sizeLine)
    (hk : 2 ≤ vs.length → ∀ h6 : Heap, (∀ b o, b ≠ a → s.heap.get? b = some o → h6.get? b = some o) → wpAny (model prog w) A (keyKind' vs.toArray) (fun κ s' => wpAny (model prog w) A (sortRuns'.run (SortSt.mk' κ (vs.toArray.zip vs.toArray) #[] 7 none)) (fun r s'' => s'' = { s with heap := h6 } ∧ failedOf r.2 = none ∧ ∃ p : Array Nat, p.size = vs.length ∧ arrOf r.2 = p.map (kas_item (vs.toArray.zip vs.toArray)) ∧ G p) (fun _ _ => False) s') (fun _ _ => False) { s with heap := h6 })
    (h : ∀ (out : List Value) (h' : Heap) (c : Nat), ((vs.length < 2 ∧ out = vs) ∨ ∃ p : Array Nat, p.size = vs.length ∧ G p ∧ out = p.toList.map fun i => vs.getD i Value.none) → h'.get? a = some (seqObj "list" out.toArray c) → (∀ b o, b ≠ a → s.heap.get? b = some o → h'.get? b = some o) → P (.done (.ret .none)) { s with heap := h' }) :
    wpAny (model prog w) A (Builtin.«list.sort» ⟨[.ref a], []⟩) P E s := by
  have la := Heap.lt_size ho
  have ls := sizeLine_eq
  obtain ⟨k, g1⟩ : ∃ k, (s.heap.update a (Obj.mapSeq fun _ => (#[] : Array Value))).get? a = some (seqObj "list" #[] k) := ⟨_, get?_update_seq ho fun _ => #[]⟩
  have u1 : ∀ b o, b ≠ a → s.heap.get? b = some o → (s.heap.update a (Obj.mapSeq fun _ => (#[] : Array Value))).get? b = some o := fun b o hb e => by rw [Heap.get?_update_ne _ _ _ _ hb]; exact e
  rw [list_sort_plain]
  refine wpAny_bind (listItems_at ho rfl (wpAny_bind (listUpdate_at ho rfl ?_ (by rw [List.size_toArray]; omega) (by simp))))
  refine wpAny_bind (seqEpoch_at g1 rfl (wpAny_bind (wpAny_newTuple ?_ (by show vs.length ≤ _; omega))))
  refine wpAny_bind (wpAny_newList (wpAny_holding ?_) (by simp))
  show wpAny (model prog w) A _ P E { s with heap := ((s.heap.update a (Obj.mapSeq fun _ => (#[] : Array Value))).push (seqObj "tuple" vs.toArray 0)).push (seqObj "list" #[] 0) }
  generalize hM : ((s.heap.update a (Obj.mapSeq fun _ => (#[] : Array Value))).push (seqObj "tuple" vs.toArray 0)).push (seqObj "list" #[] 0) = h6
  have g6 : h6.get? a = some (seqObj "list" #[] k) := by rw [← hM]; exact Heap.get?_push_of_some _ (Heap.get?_push_of_some _ g1)
  have u6 : ∀ b o, b ≠ a → s.heap.get? b = some o → h6.get? b = some o := fun b o hb e => by rw [← hM]; exact Heap.get?_push_of_some _ (Heap.get?_push_of_some _ (u1 b o hb e))
  dsimp only
  by_cases hs2 : vs.toArray.size < 2
  · rw [if_pos hs2, if_pos hs2]
    refine wpAny_bind (wpAny_pure ?_)
    rw [StateT.run_pure]
    refine wpAny_bind (wpAny_pure ?_)
    dsimp only
    have out : (arrOf (SortSt.mk' general' (vs.toArray.zip vs.toArray) #[] 7 none)).map (·.2) = vs.toArray := by
      show (vs.toArray.zip vs.toArray).map (·.2) = vs.toArray
      apply Array.toList_inj.mp
      rw [Array.toList_map, Array.toList_zip]
      exact List.map_snd_zip (Nat.le_refl _)
    rw [out]
    refine wpAny_bind (seqEpoch_at g6 rfl ?_)
    refine wpAny_bind (listUpdate_at g6 rfl ?_ (by simp) (by rw [List.size_toArray]; omega))
    simp only [bne_self_eq_false, Bool.false_eq_true, if_false]
    exact wpAny_pure (h vs _ _ (.inl ⟨by simpa using hs2, rfl⟩) (get?_update_seq g6 fun _ => vs.toArray) fun b o hb e => by rw [Heap.get?_update_ne _ _ _ _ hb]; exact u6 b o hb e)
  · rw [if_neg hs2, if_neg hs2]
    have l2 : 2 ≤ vs.length := by rw [List.size_toArray] at hs2; omega
    refine wpAny_bind (wpAny_mono (hk l2 h6 u6) (fun κ s0 hq => ?_) fun _ _ x => x.elim)
    refine wpAny_bind (wpAny_mono hq ?_ fun _ _ x => x.elim)
    rintro ⟨⟨⟩, st'⟩ s' ⟨rfl, hf, p, hp, har, hg⟩
    dsimp only
    rw [kat_snds rfl har]
    refine wpAny_bind (seqEpoch_at g6 rfl ?_)
    refine wpAny_bind (listUpdate_at g6 rfl ?_ (by simp) (by rw [List.size_toArray, List.length_map, Array.length_toList]; omega))
    rw [hf]
    simp only [bne_self_eq_false, Bool.false_eq_true, if_false]
    exact wpAny_pure (h _ _ _ (.inr ⟨p, hp, hg, rfl⟩) (get?_update_seq g6 fun _ => (p.toList.map fun i => vs.getD i Value.none).toArray) fun b o hb e => by rw [Heap.get?_update_ne _ _ _ _ hb]; exact u6 b o hb e)
theorem sorted_anyL {l : Addr} {vs : List Value} {Q : Value → Shared → Prop} (G : Array Nat → Prop) (hl : s.heap.IsList l vs.toArray) (hz : vs.length ≤ sizeLine)
    (hk : 2 ≤ vs.length → ∀ h6 : Heap, (∀ b o, s.heap.get? b = some o → h6.get? b = some o) → wpAny (model prog w) A.in1.in1 (keyKind' vs.toArray) (fun κ s' => wpAny (model prog w) A.in1.in1 (sortRuns'.run (SortSt.mk' κ (vs.toArray.zip vs.toArray) #[] 7 none)) (fun r s'' => s'' = { s with heap := h6 } ∧ failedOf r.2 = none ∧ ∃ p : Array Nat, p.size = vs.length ∧ arrOf r.2 = p.map (kas_item (vs.toArray.zip vs.toArray)) ∧ G p) (fun _ _ => False) s') (fun _ _ => False) { s with heap := h6 })
    (h : ∀ (out : List Value) (h' : Heap) (c : Nat), ((vs.length < 2 ∧ out = vs) ∨ ∃ p : Array Nat, p.size = vs.length ∧ G p ∧ out = p.toList.map fun i => vs.getD i Value.none) → h'.get? (s.heap.objs.size + 1) = some (seqObj "list" out.toArray c) → (∀ b o, s.heap.get? b = some o → h'.get? b = some o) → Q (.ref (s.heap.objs.size + 1)) { s with heap := h' }) : wpAny (model prog w) A (call (.builtin "sorted") [.ref l]) Q E s := by
  have ls := sizeLine_eq
  refine Calls.call_function_entry kind_sorted plain_sorted entry_sorted (args_sorted1 _) ?_
  unfold Builtin.«sorted»
  refine wpAny_bind (m := checkCount "sorted" 1 1 _) (wpAny_pure (wpAny_bind (collect_list hl ?_ (by omega))))
  refine wpAny_bind (wpAny_newList ?_ (by omega))
  have z1 : ((s.heap.push (seqObj "list" #[] 0)).update s.heap.objs.size (Obj.mapSeq (· ++ vs.toArray))).objs.size = s.heap.objs.size + 1 := by rw [Heap.size_update, size_push']
  have kp : ∀ b o, s.heap.get? b = some o → (((s.heap.push (seqObj "list" #[] 0)).update s.heap.objs.size (Obj.mapSeq (· ++ vs.toArray))).push (seqObj "list" vs.toArray 0)).get? b = some o := fun b o e => by
    have lb := Heap.lt_size e
    exact Heap.get?_push_of_some _ (by rw [Heap.get?_update_ne _ _ _ _ (Nat.ne_of_lt lb)]; exact Heap.get?_push_of_some _ e)
  have g1 : (((s.heap.push (seqObj "list" #[] 0)).update s.heap.objs.size (Obj.mapSeq (· ++ vs.toArray))).push (seqObj "list" vs.toArray 0)).get? (s.heap.objs.size + 1) = some (seqObj "list" vs.toArray 0) := by rw [← z1]; exact Heap.get?_push_size _ rfl
  show wpAny _ _ _ _ _ { s with heap := ((s.heap.push (seqObj "list" #[] 0)).update s.heap.objs.size (Obj.mapSeq (· ++ vs.toArray))).push (seqObj "list" vs.toArray 0) }
  rw [z1]
  generalize ((s.heap.push (seqObj "list" #[] 0)).update s.heap.objs.size (Obj.mapSeq (· ++ vs.toArray))).push (seqObj "list" vs.toArray 0) = h2 at kp g1
  refine wpAny_bind (wpAny_holding (wpAny_call_entry slot_list_sort ⟨_, g1, rfl⟩ entry_list_sort ?_ (args_list_sort _)))
  have ne : ∀ b o, s.heap.get? b = some o → b ≠ s.heap.objs.size + 1 := fun b o eb => Nat.ne_of_lt (Nat.lt_succ_of_lt (Heap.lt_size eb))
  refine sort_anyL (s := { s with heap := h2 }) G g1 hz (fun z2 h6 k6 => hk z2 h6 fun b o eb => k6 b o (ne b o eb) (kp b o eb)) fun out h' c z e k => ?_
  exact ⟨_, rfl, wpAny_pure ⟨_, rfl, h out h' c z e fun b o eb => k b o (ne b o eb) (kp b o eb)⟩⟩
end
section
variable {X : Cx}
def cSortL : List V → Hp → VK → Prop := fun vs H Q => ∃ (a : Addr) (ps : List Addr) (bs : List (List Int)), vs = [V.ref a] ∧ H a = some (.lst (ps.map V.ref)) ∧ TupsAt H ps bs ∧ ps.length ≤ 4000000 ∧
  ∀ (ps' : List Addr) (bs' : List (List Int)) (p : Addr) (H' : Hp), bs'.Perm bs → bs'.Pairwise leB → H p = none → Same H H' → H' p = some (.lst (ps'.map V.ref)) → TupsAt H' ps' bs' → Q (.ref p) H'
theorem k_sortL (hu : X.A.units + 64 < cLine) : CallR X (.builtin "sorted") cSortL := by
  intro pins s σ H vs us Q I r h
  obtain ⟨a, ps, bs, rfl, ha, tu, h64, q⟩ := h
  by_cases hne : ∀ b ∈ bs, b ≠ []
  · exact k_sortT2 pins s σ H _ us Q I r ⟨a, ps, bs, rfl, ha, tu, hne, fun ps' bs' p h1 h2 h3 h4 => q ps' bs' p _ h1 h2 h4 (Same.new h4 _) upd_same (h3.same (Same.new h4 _))⟩
  obtain ⟨z, its, n, rv, hl, e⟩ := I.lstM ha
  rw [Vals.ref1 r]
  have ei := refs_vals rv
  subst ei
  have len : (ps.map Value.ref).length = ps.length := List.length_map ..
  have obj : ∀ p ∈ ps, ∃ us : List Value, H p = some (.tup ((intsAt H p).map V.int)) ∧ Vals ((intsAt H p).map V.int) us ∧ IsTup s.heap p us.toArray := by
    intro p hp
    obtain ⟨b, hb, eb⟩ := tu.mem hp
    obtain ⟨_, us, rb, tp⟩ := (show ObjOk X.prog X.w H s.heap p (.tup (b.map V.int)) from I.hok p _ eb)
    rw [intsAt_of eb]
    exact ⟨us, eb, rb, tp⟩
  have hu1 : X.A.in1.in1.units < cLine := by
    show X.A.units + 1 + 1 < cLine
    omega
  let key : Nat → List Int := fun i => intsAt H (ps.getD i 0)
  have fr : H (s.heap.objs.size + 1) = none := I.hok.fresh (Nat.le_succ _)
  refine sorted_anyL (fun p => PermN ps.length p ∧ Asc (fun i j => HT.lexLt (key i) (key j)) p ps.length) (vs := ps.map Value.ref) ⟨_, e, rfl, n, rfl⟩ (by omega) (fun l2 h6 k6 => ?_) fun out h' c hout e' k => ?_
  · rw [len] at l2 ⊢
    have tup6 : ∀ p ∈ ps, ∃ us : List Value, IntsAre us (intsAt H p) ∧ IsTup h6 p us.toArray := fun p hp => by
      obtain ⟨us, _, rb, o, eo, co⟩ := obj p hp
      exact ⟨us, rb.ints, o, k6 _ _ eo, co⟩
    have ask : ∀ κ : SortKind, κ = general' ∨ κ = oneType' → wpAny (model X.prog X.w) X.A.in1.in1 (sortRuns'.run (SortSt.mk' κ ((ps.map Value.ref).toArray.zip (ps.map Value.ref).toArray) #[] 7 none)) (fun r s'' => s'' = { s with heap := h6 } ∧ failedOf r.2 = none ∧ ∃ p : Array Nat, p.size = ps.length ∧ arrOf r.2 = p.map (kas_item ((ps.map Value.ref).toArray.zip (ps.map Value.ref).toArray)) ∧ PermN ps.length p ∧ Asc (fun i j => HT.lexLt (key i) (key j)) p ps.length) (fun _ _ => False) { s with heap := h6 } := by
      intro κ hκ
      have run := run_any (prog := X.prog) (w := X.w) (A := X.A.in1.in1) (E := fun _ _ => False) (s := { s with heap := h6 }) (κ := κ) (vs := ps.map Value.ref) (lex_ord key) (by rw [len]; omega) (fun i j hi hj => by
        rw [len] at hi hj
        have ei : (ps.map Value.ref).getD i Value.none = .ref (ps.getD i 0) := by simp [List.getD, List.getElem?_map, List.getElem?_eq_getElem hi]
        have ej : (ps.map Value.ref).getD j Value.none = .ref (ps.getD j 0) := by simp [List.getD, List.getElem?_map, List.getElem?_eq_getElem hj]
        rw [ei, ej]
        obtain ⟨u1, i1, t1⟩ := tup6 (ps.getD i 0) (by simp [List.getD, List.getElem?_eq_getElem hi])
        obtain ⟨u2, i2, t2⟩ := tup6 (ps.getD j 0) (by simp [List.getD, List.getElem?_eq_getElem hj])
        rcases hκ with rfl | rfl
        · exact ask_gen t1 t2 i1 i2 hu1 ⟨rfl, rfl⟩
        · exact ask_one t1 t2 i1 i2 hu1 ⟨rfl, rfl⟩)
      rw [len] at run
      exact run
    refine kind_mixed l2 (fun p hp => ?_) ?_ (ask _ (.inl rfl)) (ask _ (.inr rfl))
    · obtain ⟨us, _, t⟩ := tup6 p hp
      exact ⟨_, t⟩
    · obtain ⟨b, hb, be⟩ : ∃ b ∈ bs, b = [] := by
        refine Classical.byContradiction fun hn => hne fun b hb z => hn ⟨b, hb, z⟩
      obtain ⟨i, hi⟩ := List.mem_iff_getElem?.mp hb
      have hil : i < ps.length := by rw [tu.1]; exact (List.getElem?_eq_some_iff.mp hi).1
      have ep := tu.2 i ps[i] b (List.getElem?_eq_getElem hil) hi
      obtain ⟨us, iu, t⟩ := tup6 ps[i] (List.getElem_mem _)
      rw [intsAt_of ep, be] at iu
      cases iu
      exact ⟨_, List.getElem_mem _, t⟩
  · have done' : ∀ qs : List Addr, out = qs.map Value.ref → qs.Perm ps → (qs.map (intsAt H)).Pairwise leB → EP X pins σ Q (.ref (s.heap.objs.size + 1)) { s with heap := h' } := by
      intro qs eo hq hs
      have hlen : (qs.map V.ref).length ≤ sizeLine := by rw [List.length_map, hq.length_eq]; rw [List.length_map] at z; exact z
      have tq : TupsAt H qs (qs.map (intsAt H)) := TupsAt.of_all fun p hp => by
        obtain ⟨b, _, eb⟩ := tu.mem (hq.mem_iff.mp hp)
        exact ⟨b, eb⟩
      refine ⟨.ref _, _, I.laid (t' := s.toks) (a := s.heap.objs.size + 1) (o := .lst (qs.map V.ref)) k (Nat.le_succ _) ⟨hlen, qs.map Value.ref, c, vals_refs qs, by rw [← eo]; exact e'⟩, rfl, q qs (qs.map (intsAt H)) _ _ ?_ hs fr (Same.new fr _) upd_same (tq.same (Same.new fr _))⟩
      rw [tu.eq]
      exact hq.map _
    rcases hout with ⟨h2, rfl⟩ | ⟨p, hp, ⟨pp, as⟩, rfl⟩
    · refine done' ps rfl (List.Perm.refl _) ?_
      rw [len] at h2
      match ps, h2 with
      | [], _ => exact List.Pairwise.nil
      | [x], _ => exact List.pairwise_singleton _ _
    · have hl : p.toList.Perm (List.range ps.length) := by have := pp.toList; simpa using this
      have psz := pp.size
      refine done' (p.toList.map fun i => ps.getD i 0) ?_ ?_ ?_
      · rw [List.map_map]
        apply List.map_congr_left
        intro i hi
        have hi := List.mem_range.mp (hl.mem_iff.mp hi)
        simp [List.getD, List.getElem?_map, List.getElem?_eq_getElem hi]
      · have := hl.map fun i => ps.getD i 0
        refine this.trans (List.Perm.of_eq ?_)
        apply List.ext_getElem?
        intro i
        by_cases hi : i < ps.length
        · simp [List.getElem?_map, List.getElem?_range hi, List.getD, List.getElem?_eq_getElem hi]
        · rw [List.getElem?_eq_none (by simp; omega), List.getElem?_eq_none (by omega)]
      · rw [List.map_map, List.pairwise_map, List.pairwise_iff_getElem]
        intro i j hi hj hij
        have hj' : j < p.size := by simpa using hj
        have hi' : i < p.size := by omega
        have := as i j hij (by omega)
        have g1 : ga p i = p.toList[i] := by simp [ga, Array.getD, hi']
        have g2 : ga p j = p.toList[j] := by simp [ga, Array.getD, hj']
        rw [g1, g2] at this
        exact leB_of this
def cSortN : List V → Hp → VK → Prop := fun vs H Q => ∃ (a : Addr) (bs : List (List Int)), vs = [V.ref a] ∧ Blks H a bs ∧ bs.length ≤ 4000000 ∧
  ∀ (bs' : List (List Int)) (p : Addr) (H' : Hp), bs'.Perm bs → bs'.Pairwise leB → H p = none → Same H H' → Blks H' p bs' → Q (.ref p) H'
theorem k_sortN (hu : X.A.units + 64 < cLine) : CallR X (.builtin "sorted") cSortN := by
  intro pins s σ H vs us Q I r h
  obtain ⟨a, bs, rfl, ⟨ps, ha, tu⟩, c, q⟩ := h
  exact k_sortL hu pins s σ H _ us Q I r ⟨a, ps, bs, rfl, ha, tu, by rw [tu.1]; exact c, fun ps' bs' p H' h1 h2 h3 h4 h5 h6 => q bs' p H' h1 h2 h3 h4 ⟨ps', h5, h6⟩⟩
end
end L2
set_option Elab.async false
set_option linter.all false
set_option maxRecDepth 100000
namespace L2
open PySem
structure Turng (m : Nat) (o : List Int) : Prop where
  len : o.length = m
  nd : o.Nodup
  rng : ∀ x ∈ o, 0 ≤ x ∧ x < (m : Int)
def Rise2 (m : Nat) (b : List Int) : Prop := b.Pairwise (· < ·) ∧ ∀ x ∈ b, 0 ≤ x ∧ x < (m : Int)
def imgB (o b : List Int) : List Int := isort (b.map (atZ o))
structure BackOf (m : Nat) (o k : List Int) : Prop where
  len : k.length = m
  at' : ∀ t : Int, 0 ≤ t → t < (m : Int) → 0 ≤ atZ k t ∧ atZ k t < (m : Int) ∧ atZ o (atZ k t) = t
structure SortOf (cs bs : List (List Int)) : Prop where
  pm : cs.Perm bs
  le : cs.Pairwise leB
def FewB (bs : List (List Int)) : Prop := bs.length < 64 ∨ ∀ b ∈ bs, b ≠ []
theorem rise_len {m : Nat} {b : List Int} (h : Rise2 m b) : b.length ≤ m := by
  have := compl_len (n := m) h.1 h.2
  omega
end L2
set_option Elab.async false
set_option linter.all false
set_option maxRecDepth 100000
namespace L2
open PySem PySem.Spec PyProof.Rows
structure EltN {α : Type} (R : Hp → Addr → α → Prop) : Prop where
  same : ∀ {H H' : Hp} {p : Addr} {a : α}, Same H H' → R H p a → R H' p a
  late : ∀ {H : Hp} {p D : Addr} {a : α} {acc : List V} (o : HO), H D = some (.lst acc) → p ≠ D → R H p a → R (upd H D o) p a
  is : ∀ {H : Hp} {p : Addr} {a : α}, R H p a → ∃ o, H p = some o
theorem nBlks : EltN Blks where
  same := fun s h => h.same s
  late := fun {H p D a acc} o e n ⟨ps, hp, ht⟩ => ⟨ps, by rw [upd_ne n]; exact hp, ht.1, fun i q b h1 h2 => by
    have h3 := ht.2 i q b h1 h2
    rw [upd_ne (ne_of h3 e (by intro z; cases z))]
    exact h3⟩
  is := fun ⟨_, h, _⟩ => ⟨_, h⟩
def LI (H : Hp) (p : Addr) (b : List Int) : Prop := H p = some (.lst (b.map V.int))
structure NewLs {α : Type} (R : Hp → Addr → α → Prop) (H1 H : Hp) (D : Addr) (as : List α) : Prop where
  ex : ∃ ps : List Addr, H D = some (.lst (ps.map V.ref)) ∧ ps.Nodup ∧ (∀ p ∈ ps, H1 p = none ∧ p ≠ D) ∧ Paired (R H) ps as
def NAcc {α : Type} (R : Hp → Addr → α → Prop) (H1 : Hp) (D : Addr) (F : Nat → α → Prop) (i : Nat) (H : Hp) : Prop :=
  Same H1 H ∧ ∃ as, NewLs R H1 H D as ∧ as.length = i ∧ ∀ j a, as[j]? = some a → F j a
theorem NAcc.step {α : Type} {R : Hp → Addr → α → Prop} (E : EltN R) {H1 : Hp} {D : Addr} {F : Nat → α → Prop} {i : Nat} {H : Hp} (hD : H1 D = none) (h : NAcc R H1 D F i H) {p : Addr} {H4 : Hp} {a : α} (hp : H p = none) (s : Same H H4) (hf : F i a) (r : R H4 p a) :
    ∃ acc, H4 D = some (.lst acc) ∧ acc.length = i ∧ NAcc R H1 D F (i + 1) (upd H4 D (.lst (acc ++ [.ref p]))) := by
  obtain ⟨sm, as, N, la, hF⟩ := h
  obtain ⟨ps, e, nd, nw, pr⟩ := N.ex
  have e4 := s _ _ e
  have pD : p ≠ D := fun z => by subst z; rw [e] at hp; cases hp
  refine ⟨_, e4, by rw [List.length_map, Pd.len pr, la], (sm.trans s).late hD _, as ++ [a], ⟨ps ++ [p], by rw [upd_same, List.map_append]; rfl, nd_snoc nd fun z => ?_, fun q hq => ?_, ?_⟩, by rw [List.length_append, la]; rfl, fun j b hb => ?_⟩
  · obtain ⟨k, hk⟩ := List.getElem?_of_mem z
    obtain ⟨b, _, rb⟩ := Pd.get pr hk
    obtain ⟨o, eo⟩ := E.is rb
    rw [hp] at eo
    cases eo
  · rcases List.mem_append.mp hq with hq | hq
    · exact nw q hq
    · rw [List.mem_singleton.mp hq]
      exact ⟨sm.free hp, pD⟩
  · refine Pd.snoc (E.late _ e4 pD r) ?_
    have : ∀ {xs : List Addr} {ys : List α}, (∀ q ∈ xs, q ≠ D) → Paired (R H) xs ys → Paired (R (upd H4 D (.lst (ps.map V.ref ++ [.ref p])))) xs ys := by
      intro xs ys hn h
      induction h with
      | nil => exact .nil
      | cons r _ ih => exact .cons (E.late _ e4 (hn _ List.mem_cons_self) (E.same s r)) (ih fun q hq => hn q (List.mem_cons_of_mem _ hq))
    exact this (fun q hq => (nw q hq).2) pr
  · by_cases hj : j < as.length
    · rw [List.getElem?_append_left hj] at hb
      exact hF j b hb
    · rw [List.getElem?_append_right (by omega)] at hb
      have : j = i := by
        have := (List.getElem?_eq_some_iff.mp hb).1
        simp at this
        omega
      subst this
      rw [la] at hb
      simp at hb
      subst hb
      exact hf
section
variable {α : Type} {R : Hp → Addr → α → Prop} {K : PySem.W.Frag} {g : TG} {tt : TT} {te : TE} {vs : List Nat} {σ : St} {H1 : Hp} {D : Addr} {Qd : Hp → Prop}
theorem NAcc.zero {F : Nat → α → Prop} (hD : H1 D = none) : NAcc R H1 D F 0 (upd H1 D (.lst [])) := ⟨Same.new hD _, [], ⟨[], upd_same, List.nodup_nil, (fun p h => by cases h), .nil⟩, rfl, (fun j a h => by simp at h)⟩
theorem lcm_listN (hD : H1 D = none) (E : EltN R) {a : Addr} {β : Type} {f : β → V} {l : List β} (F : Nat → α → Prop) (hn : l.length < 16777216) (hl : ∀ H, Same H1 H → SqL K H a (l.map f))
    (hs : ∀ (i : Nat) (x : β) (H : Hp) (Qe : VK) (Qn : Hp → Prop), l[i]? = some x → Same H1 H → (∀ p H4 a, H p = none → Same H H4 → F i a → R H4 p a → Qe (.ref p) H4) →
      g (f x) (wipe σ vs) H fun σ2 H2 => wipe σ2 vs = wipe σ vs ∧ tt σ2 H2 fun b H3 => if b = true then te σ2 H3 Qe else Qn H3)
    (hd : ∀ (H : Hp) (as : List α), Same H1 H → NewLs R H1 H D as → as.length = l.length → (∀ j a, as[j]? = some a → F j a) → Qd H) :
    ∃ W : Nat → Nat → Hp → Prop, (∃ m, W 0 m (upd H1 D (.lst []))) ∧ ∀ i m H, W i m H →
      ((Itl K a).stop i H ∧ Qd H) ∨ ((Itl K a).go i H ∧ ∃ Nx : Hp → Prop, (∀ H', Nx H' → ∃ m', m' < m ∧ W (i + 1) m' H') ∧ ∀ x H', (Itl K a).yld i H x H' → g x (wipe σ vs) H' fun σ2 H2 => wipe σ2 vs = wipe σ vs ∧ tt σ2 H2 fun b H3 =>
        if b = true then te σ2 H3 fun y H4 => ∃ acc, H4 D = some (.lst acc) ∧ acc.length < sizeLine ∧ Nx (upd H4 D (.lst (acc ++ [y]))) else Nx H3) := by
  refine lc_list (xs := l.map f) (fun i H => i ≤ l.length ∧ NAcc R H1 D F i H) ⟨Nat.zero_le _, NAcc.zero hD⟩ ?_ ?_ ?_
  · rintro i H _ ⟨_, sm, _⟩
    exact hl H sm
  · rintro i x H hx ⟨_, h⟩
    rw [List.getElem?_map] at hx
    obtain ⟨z, hz⟩ : ∃ z, l[i]? = some z := by
      cases h : l[i]? with
      | none => rw [h] at hx; cases hx
      | some z => exact ⟨z, rfl⟩
    rw [hz] at hx
    have ex : f z = x := Option.some.inj hx
    subst ex
    have hi := (List.getElem?_eq_some_iff.mp hz).1
    refine hs i z H _ _ hz h.1 fun p H4 a hp s4 hf r => ?_
    obtain ⟨acc, e, la, h'⟩ := h.step E hD hp s4 hf r
    exact ⟨acc, e, by rw [la]; show _ < 16777216; omega, hi, h'⟩
  · rintro H ⟨_, sm, as, N, la, hF⟩
    rw [List.length_map] at la
    exact hd H as sm N la hF
end
def tChain3 (r1 r2 r3 : R2) (ta tb tc td : TE) : TE := fun σ H Q => ta σ H fun x H1 => tb σ H1 fun y H2 => r1 x y H2 fun z H3 => ∃ k, z = .bl k ∧
  (if k = true then tc σ H3 fun y2 H4 => r2 y y2 H4 fun z H5 => ∃ k, z = .bl k ∧
    (if k = true then td σ H5 fun y3 H6 => r3 y2 y3 H6 Q else Q (.bl false) H5) else Q (.bl false) H3)
end L2
set_option Elab.async false
set_option linter.all false
set_option maxRecDepth 100000
namespace L2
open PySem
def blkAt (bs : List (List Int)) (i : Int) : List Int := bs.getD i.toNat []
def swapRow (bs : List (List Int)) (n : Nat) (t : Int) : List Int := (rngV 0 n).filter fun i => (blkAt bs i).contains t
def swapB (m : Nat) (bs : List (List Int)) : List (List Int) := (rngV 0 m).map (swapRow bs bs.length)
end L2
set_option Elab.async false
set_option linter.all false
set_option maxRecDepth 100000
namespace L2
open PySem PySem.Spec PyProof.Rows
section
variable {X : Cx}
def cAnyI : List V → Hp → VK → Prop := fun vs H Q => ∃ (a : Addr) (ns : List Int), vs = [V.ref a] ∧ H a = some (.lst (ns.map V.int)) ∧ Q (.bl (ns.any fun n => n != 0)) H
def CTup (K : PySem.W.Frag) (mg : Str → Option Value) (x : Str) (ns : List Int) : Prop := ∃ a, mg x = some (.ref a) ∧ ∀ H : Hp, SqT K H a (ns.map V.int)
def tNotC (ns : List Int) (ta : TE) : TE := fun σ H Q => ta σ H fun v H1 => ∃ i, v = .int i ∧ Q (.bl (!ns.contains i)) H1
structure HasM (P : Program) (w : World) (K : PySem.W.Frag) (mg : Str → Option Value) (base : Heap) (k : Nat) (C : Addr) (m : Str) (ps : List Str) (sp : Sp) : Prop where
  ex : ∃ f fd, FnOk P w K mg base CX0 k f fd ps sp ∧ Binds K fd ps [] ∧ Meth K C m f
structure HasI (P : Program) (w : World) (K : PySem.W.Frag) (mg : Str → Option Value) (base : Heap) (k : Nat) (C : Addr) (x : Str) (ps : List Str) (sp : Sp) : Prop where
  ex : ∃ f fd, FnOk P w K mg base CX0 k f fd ps sp ∧ Binds K fd ps [] ∧ Mk K C f
  at_ : mg x = some (.ref C)
structure FunM (K : PySem.W.Frag) (C : Addr) (m q : Str) (st : Stmt) (ps : List Str) : Prop where
  ex : ∃ f fd, Fun K m q st f fd ∧ Binds K fd ps [] ∧ Meth K C m f
structure ClsI (K : PySem.W.Frag) (C : Addr) : Prop where
  cl : Cls K C
  ha : PySem.W.findIn K (.ref C) "__class__" = some (some (.builtin "object.__class__"))
  hn : PySem.W.specialIn K (.builtin "object.__class__") "__get__" = some (some (.builtin "getset_descriptor.__get__"))
  htk : PySem.W.takesIn K (.builtin "object.__class__") = some true
  hm : PySem.W.mroIn K C (.type "object") = some true
  one : PySem.W.kitOne K (.ref C) (.ref C) = some true
def cIsiC (C : Addr) : List V → Hp → VK → Prop := fun xs H Q => ∃ a dx fs, xs = [.ref a, .ref C] ∧ H a = some (.ins C dx fs) ∧ Q (.bl true) H
def tRev (ta : TE) : TE := fun σ H Q => ta σ H fun x H1 => ∃ a xs, x = .ref a ∧ H1 a = some (.lst xs) ∧ ∀ p, H1 p = none → Q (.ref p) (upd H1 p (.lst xs.reverse))
end
end L2
set_option Elab.async false
set_option linter.all false
set_option maxRecDepth 100000
namespace L2
open PySem PySem.Spec PyProof.Rows
section
variable {X : Cx}
def rNotInD (K : PySem.W.Frag) : R2 := fun x y H Q => ∃ d ds, Dp K H x d ∧ Dp K H y (.list ds) ∧ SeqAt.shaped d = true ∧ SeqAt.shaped (.list ds) = true ∧ Q (.bl (!ds.any fun y => PyData.eqv y d)) H
end
def RL (H : Hp) (v : V) (b : List Int) : Prop := ∃ p, v = .ref p ∧ H p = some (.lst (b.map V.int))
def LLs (H : Hp) (a : Addr) (bs : List (List Int)) : Prop := ∃ ws, H a = some (.lst ws) ∧ Paired (RL H) ws bs
def dL (bs : List (List Int)) : List PyData := bs.map fun b => PyData.list (b.map PyData.int)
section
variable {K : PySem.W.Frag} {H : Hp}
end
end L2
set_option Elab.async false
set_option linter.all false
set_option maxRecDepth 100000
namespace L2
open PySem PySem.Spec PyProof.Rows
def SqE (H : Hp) (b : Addr) (rs : List Int) : Prop := H b = some (.lst (rs.map V.int)) ∨ H b = some (.tup (rs.map V.int))
def ordersM : List Int := [2, 3, 4, 5, 7, 8, 9, 11, 13, 16, 17, 19, 23, 25, 27, 29, 31, 32]
def lfM : Nat → Int → Int → Option Int
  | 0, _, _ => none
  | k + 1, n, f => if n % f = 0 then some f else lfM k n (f + 1)
def digsM : Nat → Int → Int → List Int
  | 0, _, _ => []
  | d + 1, n, b => n % b :: digsM d (n / b) b
def stepM (rule : List Int) (p last : Int) (st : Nat) (l : List Int) (i : Nat) : List Int := l.set (st + i) ((l.getD (st + i) 0 - last * rule.getD i 0) % p)
def popM (rule : List Int) (p : Int) (deep : Nat) (l : List Int) : List Int := (List.range deep).foldl (stepM rule p (l.getLast?.getD 0) (l.length - 1 - deep)) l.dropLast
def leftM (rule : List Int) (p : Int) (deep : Nat) : Nat → List Int → List Int
  | 0, l => l
  | k + 1, l => leftM rule p deep k (popM rule p deep l)
def leftByM (ds rule : List Int) (p : Int) : List Int := leftM rule p (rule.length - 1) (ds.length - (rule.length - 1)) (ds.map (· % p))
def zeroM (l : List Int) : Bool := !(l.any fun n => n != 0)
def facM (rs : List Int) (p : Int) (d : Nat) (j : Nat) : Bool := zeroM (leftByM rs (digsM (d + 1) (p ^ d + j) p) p)
def isProdM (rs : List Int) (p : Int) : Bool := (List.range (rs.length - 2)).any fun i => (List.range (p ^ (i + 1)).toNat).any fun j => facM rs p (i + 1) j
def firstM : Nat → Int → Nat → Int → Option (List Int)
  | 0, _, _, _ => none
  | k + 1, p, d, n => if isProdM (digsM (d + 1) n p) p then firstM k p d (n + 1) else some (digsM (d + 1) n p)
def deepM : Nat → Int → Int → Nat → Option Nat
  | 0, _, _, _ => none
  | k + 1, n, p, d => if p ^ d < n then deepM k n p (d + 1) else some d
structure FieldM where
  p : Int
  d : Nat
  r : List Int
  deriving DecidableEq
def fieldM (n : Int) : Option FieldM := (lfM 40 n 2).bind fun p => (deepM 10 n p 1).bind fun d => (firstM 50 p d (p ^ d)).map fun r => ⟨p, d, r⟩
theorem stepM_len (rule : List Int) (p last : Int) (st : Nat) (l : List Int) (i : Nat) : (stepM rule p last st l i).length = l.length := by unfold stepM; rw [List.length_set]
theorem fold_len (rule : List Int) (p last : Int) (st : Nat) : ∀ (is : List Nat) (l : List Int), (is.foldl (stepM rule p last st) l).length = l.length
  | [], l => rfl
  | i :: is, l => by rw [List.foldl_cons, fold_len rule p last st is, stepM_len]
theorem popM_len (rule : List Int) (p : Int) (deep : Nat) (l : List Int) : (popM rule p deep l).length = l.length - 1 := by unfold popM; rw [fold_len, List.length_dropLast]
theorem set_small {p : Int} (hp : 0 < p) {l : List Int} (h : ∀ x ∈ l, 0 ≤ x ∧ x < p) (k : Nat) (y : Int) : ∀ x ∈ l.set k (y % p), 0 ≤ x ∧ x < p := by
  intro x hx
  rcases List.mem_or_eq_of_mem_set hx with z | rfl
  · exact h x z
  · exact ⟨Int.emod_nonneg _ (by omega), Int.emod_lt_of_pos _ hp⟩
def fldsM (n p d : Int) (t : Addr) : List (Str × V) := [("order", .int n), ("prime", .int p), ("deep", .int d), ("rule", .ref t)]
end L2
set_option Elab.async false
set_option linter.all false
set_option maxRecDepth 100000
namespace L2
open PySem PySem.Spec PyProof.Rows
def ldM : Nat → Int → Int → Int → Option Int
  | 0, _, _, _ => none
  | k + 1, n, p, d => if 1 < n then ldM k (n / p) p (d + 1) else some d
def rowsM (p : Int) : Nat → List (List Int)
  | 0 => [[]]
  | m + 1 => (rngV 0 p.toNat).flatMap fun x => (rowsM p m).map (· ++ [x])
def stepP (p x y : Int) (l : List Int) (i : Nat) : List Int := l.set i ((l.getD i 0 + x * y) % p)
def rowP (p x : Int) (secs : List Int) (j : Nat) (l : List Int) (n : Nat) : List Int := (List.range n).foldl (fun l k => stepP p x (secs.getD k 0) l (j + k)) l
def tabP (p : Int) (ones secs : List Int) (l : List Int) (n : Nat) : List Int := (List.range n).foldl (fun l j => rowP p (ones.getD j 0) secs j l secs.length) l
def prodP (ones secs : List Int) (p : Int) : List Int := tabP p ones secs (List.replicate (ones.length + secs.length - 1) 0) ones.length
def jointC (p : Int) (one : List Int) (os : List (List Int)) : List (List Int) := os.map fun other => prodP (one ++ [1]) (other ++ [1]) p
def jointB (p : Int) (ns os : List (List Int)) : List (List Int) := ns.flatMap fun one => jointC p one os
def jointM (p : Int) (d : Nat) (n : Nat) : List (List Int) := (List.range n).flatMap fun i => jointB p (rowsM p (i + 1)) (rowsM p (d - (i + 1)))
def rulesM (p : Int) (d : Nat) : List (List Int) := (rowsM p d).flatMap fun row => if !(jointM p d (d / 2)).contains (row ++ [1]) then [row ++ [1]] else []
def okM (n : Int) : Bool := match fieldM n with
  | some F => decide (ldM 10 n F.p 0 = some (F.d : Int) ∧ (rulesM F.p F.d)[0]? = some F.r)
  | none => false
theorem rowP_succ (p x : Int) (secs : List Int) (j : Nat) (l : List Int) (n : Nat) : rowP p x secs j l (n + 1) = stepP p x (secs.getD n 0) (rowP p x secs j l n) (j + n) := by
  unfold rowP; rw [List.range_succ, List.foldl_append]; rfl
theorem tabP_succ (p : Int) (ones secs l : List Int) (n : Nat) : tabP p ones secs l (n + 1) = rowP p (ones.getD n 0) secs n (tabP p ones secs l n) secs.length := by
  unfold tabP; rw [List.range_succ, List.foldl_append]; rfl
theorem rowP_len (p x : Int) (secs : List Int) (j : Nat) (l : List Int) : ∀ n, (rowP p x secs j l n).length = l.length
  | 0 => rfl
  | n + 1 => by rw [rowP_succ, stepP, List.length_set, rowP_len]
theorem flat_const {α β : Type} {f : α → List β} {c : Nat} (h : ∀ x, (f x).length = c) : ∀ l : List α, (l.flatMap f).length = l.length * c
  | [] => by simp
  | x :: l => by rw [List.flatMap_cons, List.length_append, h, flat_const h l, List.length_cons, Nat.succ_mul]; omega
theorem rowsM_len (p : Int) : ∀ m, (rowsM p m).length = p.toNat ^ m
  | 0 => rfl
  | m + 1 => by
    rw [rowsM, flat_const (c := (rowsM p m).length) (fun x => by rw [List.length_map])]
    rw [rowsM_len p m, Nat.pow_succ, Nat.mul_comm]
    unfold rngV
    rw [List.length_map, List.length_range]
def RF (H0 H : Hp) (v : V) (b : List Int) : Prop := ∃ p, v = .ref p ∧ H0 p = none ∧ H p = some (.lst (b.map V.int))
def RF3 (H0 : Hp) (q D : Addr) (H : Hp) (v : V) (b : List Int) : Prop := ∃ p, v = .ref p ∧ p ≠ D ∧ p ≠ q ∧ H0 p = none ∧ H p = some (.lst (b.map V.int))
def RQ (H0 : Hp) (q : Addr) (H : Hp) (v : V) (b : List Int) : Prop := ∃ p, v = .ref p ∧ p ≠ q ∧ H0 p = none ∧ H p = some (.lst (b.map V.int))
structure LLf (H0 H : Hp) (r : Addr) (bs : List (List Int)) : Prop where
  new : H0 r = none
  ex : ∃ ws, H r = some (.lst ws) ∧ Paired (RF H0 H) ws bs
def retOf : Stmt → Expr
  | .Return (some v) _ => v
  | _ => .Constant .none 0 ⟨0, 0, 0, 0⟩
section
variable {α : Type} {R : Addr → Hp → V → α → Prop} {K : PySem.W.Frag} {g : TG} {tt : TT} {te : TE} {vs : List Nat} {σ : St} {H1 : Hp} {D : Addr} {Qd : Hp → Prop}
end
theorem jointB_len (p : Int) (ns os : List (List Int)) : (jointB p ns os).length = ns.length * os.length := by
  unfold jointB
  rw [flat_const (c := os.length) (fun x => by unfold jointC; rw [List.length_map])]
end L2
set_option Elab.async false
set_option linter.all false
set_option maxRecDepth 100000
namespace L2
open PySem PySem.Spec PyProof.Rows
def stepQ (x y : Int) (l : List Int) (i : Nat) : List Int := l.set i (l.getD i 0 + x * y)
def rowQ (x : Int) (secs : List Int) (j : Nat) (l : List Int) (n : Nat) : List Int := (List.range n).foldl (fun l k => stepQ x (secs.getD k 0) l (j + k)) l
def tabQ (ones secs : List Int) (l : List Int) (n : Nat) : List Int := (List.range n).foldl (fun l j => rowQ (ones.getD j 0) secs j l secs.length) l
def prodQ (ones secs : List Int) : List Int := tabQ ones secs (List.replicate (ones.length + secs.length - 1) 0) ones.length
def numM (ds : List Int) (p : Int) : Int := ds.reverse.foldl (fun n x => n * p + x % p) 0
def numL (ds : List Int) (p : Int) : Int := ds.reverse.foldl (fun n x => n * p + x) 0
def timesM (F : FieldM) (a b : Int) : Int := numM (leftByM (prodQ (digsM F.d a F.p) (digsM F.d b F.p)) F.r F.p) F.p
def stepT (p lead digit : Int) (rule second : List Int) (l : List Int) (k : Nat) : List Int := l.set k ((l.getD k 0 - lead * rule.getD k 0 + digit * second.getD k 0) % p)
def turnT (p : Int) (d : Nat) (rule second : List Int) (l : List Int) (digit : Int) : List Int := (List.range d).foldl (stepT p (l.getLast?.getD 0) digit rule second) (0 :: l.dropLast)
def timesL (F : FieldM) (a b : Int) : Int := numL ((digsM F.d a F.p).reverse.foldl (turnT F.p F.d F.r (digsM F.d b F.p)) (List.replicate F.d 0)) F.p
def rowT (F : FieldM) (n : Nat) (a : Int) : Bool := (List.range n).all fun b => let t := timesM F a b; (t == timesL F a b) && (t == timesM F b a)
end L2
set_option Elab.async false
set_option linter.all false
set_option maxRecDepth 100000
namespace L2
open PySem PySem.Spec PyProof.Rows
theorem rowQ_succ (x : Int) (secs : List Int) (j : Nat) (l : List Int) (n : Nat) : rowQ x secs j l (n + 1) = stepQ x (secs.getD n 0) (rowQ x secs j l n) (j + n) := by
  unfold rowQ; rw [List.range_succ, List.foldl_append]; rfl
theorem tabQ_succ (ones secs l : List Int) (n : Nat) : tabQ ones secs l (n + 1) = rowQ (ones.getD n 0) secs n (tabQ ones secs l n) secs.length := by
  unfold tabQ; rw [List.range_succ, List.foldl_append]; rfl
theorem rowQ_len (x : Int) (secs : List Int) (j : Nat) (l : List Int) : ∀ n, (rowQ x secs j l n).length = l.length
  | 0 => rfl
  | n + 1 => by rw [rowQ_succ, stepQ, List.length_set, rowQ_len]
theorem foldT_succ (p lead digit : Int) (rule second l : List Int) (k : Nat) : (List.range (k + 1)).foldl (stepT p lead digit rule second) l = stepT p lead digit rule second ((List.range k).foldl (stepT p lead digit rule second) l) k := by
  rw [List.range_succ, List.foldl_append]; rfl
theorem foldT_len (p lead digit : Int) (rule second : List Int) (l : List Int) : ∀ k, ((List.range k).foldl (stepT p lead digit rule second) l).length = l.length
  | 0 => rfl
  | k + 1 => by rw [foldT_succ, stepT, List.length_set, foldT_len]
end L2
set_option Elab.async false
set_option linter.all false
set_option maxRecDepth 100000
namespace L2
open PySem PySem.Spec PyProof.Rows
def F2 : FieldM := ⟨2, 1, [0, 1]⟩
def F3 : FieldM := ⟨3, 1, [0, 1]⟩
def F4 : FieldM := ⟨2, 2, [1, 1, 1]⟩
def F5 : FieldM := ⟨5, 1, [0, 1]⟩
def F7 : FieldM := ⟨7, 1, [0, 1]⟩
def F8 : FieldM := ⟨2, 3, [1, 1, 0, 1]⟩
def F9 : FieldM := ⟨3, 2, [1, 0, 1]⟩
def F11 : FieldM := ⟨11, 1, [0, 1]⟩
def F13 : FieldM := ⟨13, 1, [0, 1]⟩
def F16 : FieldM := ⟨2, 4, [1, 1, 0, 0, 1]⟩
def F17 : FieldM := ⟨17, 1, [0, 1]⟩
def F19 : FieldM := ⟨19, 1, [0, 1]⟩
def F23 : FieldM := ⟨23, 1, [0, 1]⟩
def F25 : FieldM := ⟨5, 2, [2, 0, 1]⟩
def F27 : FieldM := ⟨3, 3, [1, 2, 0, 1]⟩
def F29 : FieldM := ⟨29, 1, [0, 1]⟩
def F31 : FieldM := ⟨31, 1, [0, 1]⟩
def F32 : FieldM := ⟨2, 5, [1, 0, 1, 0, 0, 1]⟩
end L2
set_option Elab.async false
set_option linter.all false
set_option maxRecDepth 100000
namespace L2
open PySem PySem.Spec PyProof.Rows
end L2
set_option Elab.async false
set_option linter.all false
set_option maxRecDepth 100000
namespace PySem
abbrev ZipOut (h : Heap) (z TI TO T : Addr) (f1 : Bool) : Prop :=
  h.get? z = some { cls := .type "zip", dict := none, data := .fields #[rawInt T, .bool f1, .bool false, .ref TI, .ref TO], slots := #[] }
section
variable {prog : Program} {w : World} {A : Around} {E : Value → Shared → Prop} {s : Shared}
end
end PySem
namespace PySem
structure ZSt (h : Heap) (z TI TO i1 i2 l1 l2 : Addr) (xs ys : Array Value) (i : Nat) : Prop where
  st : (IsZip h z TI TO .none ∧ ∃ a b, IsPair h TO a b) ∨ ∃ T f1, ZipOut h z TI TO T f1 ∧ ∃ o, h.get? T = some o
  ti : IsPair h TI (.ref i1) (.ref i2)
  it1 : h.IsListIter i1 l1 i
  it2 : h.IsListIter i2 l2 i
  il1 : h.IsList l1 xs
  il2 : h.IsList l2 ys
section
variable {prog : Program} {w : World} {A : Around} {E : Value → Shared → Prop} {s : Shared} {z TI TO i1 i2 l1 l2 : Addr} {xs ys : Array Value}
def ZAcc (h : Heap) (b0 : Nat) (xs ys : Array Value) (acc : Array Value) (i : Nat) : Prop := acc.size = i ∧ ∀ (j : Nat) (v : Value), acc[j]? = some v → ∃ (T : Addr) (x y : Value), v = Value.ref T ∧ b0 ≤ T ∧ xs[j]? = some x ∧ ys[j]? = some y ∧ IsPair h T x y
end
end PySem
namespace PySem
section
variable {prog : Program} {w : World} {A : Around} {E : Value → Shared → Prop} {s : Shared} {z TI TO i1 i2 l1 l2 : Addr} {xs ys : Array Value}
end
end PySem
set_option Elab.async false
set_option linter.all false
set_option maxRecDepth 100000
namespace L2
open PySem PySem.Spec PyProof.Rows
def plusH (H N : Hp) : Hp := fun b => match N b with | some o => some o | none => H b
section
variable {X : Cx} {pins : List (Addr × Obj)} {σ : St} {H N : Hp} {s : Shared} {h' : Heap}
end
def tZipI (ta : TA) : TE := fun σ H Q => ta σ H fun vs H1 => ∃ (a b : Addr) (ns ms : List Int), vs = [.ref a, .ref b] ∧ H1 a = some (.lst (ns.map V.int)) ∧ H1 b = some (.lst (ms.map V.int)) ∧ ns.length = ms.length ∧
  ∀ l H', H1 l = none → Same H1 H' → Blks H' l (List.zipWith (fun x y => [x, y]) ns ms) → Q (.ref l) H'
end L2
set_option Elab.async false
set_option linter.all false
set_option maxRecDepth 100000
namespace L2
open PySem PySem.Spec PyProof.Rows
def zw (f : Int → Int → Int) (F : FieldM) (a b : Int) : List Int := List.zipWith f (digsM F.d a F.p) (digsM F.d b F.p)
def plusM (F : FieldM) (a b : Int) : Int := numM (zw (· + ·) F a b) F.p
def minusM (F : FieldM) (a b : Int) : Int := numM (zw (· - ·) F a b) F.p
def dueL (F : FieldM) (s a b : Int) : Int := numL (zw (fun x y => (x + s * y) % F.p) F a b) F.p
theorem numL_cons (x : Int) (ds : List Int) (p : Int) : numL (x :: ds) p = numL ds p * p + x := by
  unfold numL; rw [List.reverse_cons, List.foldl_append]; rfl
theorem numM_cons (x : Int) (ds : List Int) (p : Int) : numM (x :: ds) p = numM ds p * p + x % p := by
  unfold numM; rw [List.reverse_cons, List.foldl_append]; rfl
end L2
set_option Elab.async false
set_option linter.all false
set_option maxRecDepth 100000
namespace PySem
section
variable {prog : Program} {w : World} {A : Around} {E : Value → Shared → Prop} {s : Shared}
end
end PySem
set_option Elab.async false
set_option linter.all false
set_option maxRecDepth 100000
namespace PySem
section
variable {prog : Program} {w : World} {A : Around} {E : Value → Shared → Prop} {s : Shared}
end
abbrev ztH1 (h : Heap) (l1 : Addr) : Heap := h.push { cls := .type "tuple_iterator", data := .fields #[.ref l1, .int 0 0] }
abbrev ztH2 (h : Heap) (l1 l2 : Addr) : Heap := (ztH1 h l1).push { cls := .type "tuple_iterator", data := .fields #[.ref l2, .int 0 0] }
abbrev ztH3 (h : Heap) (l1 l2 : Addr) : Heap := (ztH2 h l1 l2).push { cls := .type "tuple", data := .seq #[.ref h.objs.size, .ref (ztH1 h l1).objs.size] }
abbrev ztH4 (h : Heap) (l1 l2 : Addr) : Heap := (ztH3 h l1 l2).push { cls := .type "tuple", data := .seq #[.none, .none] }
abbrev ztH5 (h : Heap) (l1 l2 : Addr) : Heap := (ztH4 h l1 l2).push { cls := .type "zip", data := .fields #[.none, .bool false, .bool false, .ref (ztH2 h l1 l2).objs.size, .ref (ztH3 h l1 l2).objs.size] }
section
variable {prog : Program} {w : World} {A : Around} {E : Value → Shared → Prop} {s : Shared}
end
end PySem
namespace L2
open PySem PyProof.Rows
def Izt (K : PySem.W.Frag) (a b : Addr) : It :=
  ⟨fun i H => ∃ (xs ys : List V) (x y : V), SqT K H a xs ∧ SqT K H b ys ∧ xs[i]? = some x ∧ ys[i]? = some y,
    fun i H v H' => ∃ T x y, v = .ref T ∧ H T = none ∧ H' = upd H T (.tup [x, y]) ∧ (∀ xs, SqT K H a xs → xs[i]? = some x) ∧ ∀ ys, SqT K H b ys → ys[i]? = some y,
    fun i H => ∃ xs ys : List V, SqT K H a xs ∧ SqT K H b ys ∧ (xs.length ≤ i ∨ ys.length ≤ i)⟩
def iZipT (K : PySem.W.Frag) (ta : TA) : TI := fun σ H R => ta σ H fun vs H1 => ∃ a b xs ys, vs = [.ref a, .ref b] ∧ SqT K H1 a xs ∧ SqT K H1 b ys ∧ R (Izt K a b) H1
end L2
set_option Elab.async false
set_option linter.all false
set_option maxRecDepth 100000
namespace L2
open PySem PySem.Spec PyProof.Rows
section
variable {K : PySem.W.Frag} {H : Hp} {Q : VK}
end
def Alike (H : Hp) : Nat → V → V → Prop
  | 0, u, v => ∃ i, u = .int i ∧ v = .int i
  | n + 1, u, v => (∃ i, u = .int i ∧ v = .int i) ∨ ∃ (a b : Addr) (xs ys : List V), u = .ref a ∧ v = .ref b ∧ ((H a = some (.tup xs) ∧ H b = some (.tup ys)) ∨ (H a = some (.lst xs) ∧ H b = some (.lst ys))) ∧ xs.length = ys.length ∧ xs.length < 16777216 ∧ ∀ (i : Nat) (x y : V), xs[i]? = some x → ys[i]? = some y → Alike H n x y
section
variable {α : Type} {R : Addr → Hp → V → α → Prop} {K : PySem.W.Frag} {g : TG} {tt : TT} {te : TE} {vs : List Nat} {σ : St} {H1 : Hp} {D : Addr} {Qd : Hp → Prop}
end
end L2
set_option Elab.async false
set_option linter.all false
set_option maxRecDepth 100000
namespace L2
open PySem PySem.Spec PyProof.Rows
def lineM (F : FieldM) (n s t : Int) : List Int := (rngV 0 n.toNat).map fun x => x * n + plusM F (timesM F s x) t
def dayM (F : FieldM) (n s : Int) : List (List Int) := (rngV 0 n.toNat).map (lineM F n s)
def upM (n : Int) : List (List Int) := (rngV 0 n.toNat).map fun x => rngV (x * n) n.toNat
def allM (F : FieldM) (n : Int) : List (List Int) := (rngV 0 n.toNat).flatMap (dayM F n) ++ upM n
def DaysOk (F : FieldM) (n : Int) (ds : List (List (List Int))) : Prop := ∀ (j : Nat) (d : List (List Int)), ds[j]? = some d → d.Perm (dayM F n (j : Int)) ∧ d.Pairwise leB
def TabAt (H : Hp) (a x : Addr) (m : Nat) (f : Int → Int → Int) (i : Nat) : Prop := ∃ ps : List Addr, ps.length = i ∧ H a = some (.lst (ps.map V.ref)) ∧ ∀ (j : Nat) (p : Addr), ps[j]? = some p → p ≠ a ∧ p ≠ x ∧ H p = some (.lst (((rngV 0 m).map (f (j : Int))).map V.int))
end L2
namespace L2
open PySem PySem.Spec PyProof.Rows
theorem foldT_small {p lead digit : Int} {rule second l : List Int} (hp : 0 < p) (h : ∀ x ∈ l, 0 ≤ x ∧ x < p) : ∀ k, ∀ x ∈ (List.range k).foldl (stepT p lead digit rule second) l, 0 ≤ x ∧ x < p
  | 0 => h
  | k + 1 => by rw [foldT_succ]; exact set_small hp (foldT_small hp h k) _ _
end L2
namespace L2
end L2
namespace L2
open PySem PySem.Spec PyProof.Rows
end L2
set_option Elab.async false
set_option linter.all false
set_option maxRecDepth 100000
namespace My
open PySem PySem.Spec L2
local macro_rules | `(tactic| walk_at "rd1") => `(tactic| first
  | with_reducible refine r_seq ?_ | with_reducible refine r_asg ?_ | with_reducible refine r_name ?_ | with_reducible refine r_ret ?_ | with_reducible refine r_drop ?_ | with_reducible refine r_ifs ?_ | with_reducible refine r_next ?_
  | with_reducible refine r_var rfl ?_ | with_reducible refine r_c ?_ | with_reducible refine r_op ?_ | with_reducible refine r_I0 ?_
  | with_reducible refine r_test ?_ | with_reducible refine r_b ?_ | with_reducible refine r_k ?_ | with_reducible refine r_cons ?_ | with_reducible refine r_nil ?_ | with_reducible refine r_call ?_ | with_reducible refine r_cb ?_
  | with_reducible refine r_lst ?_ | with_reducible refine r_tup ?_ | with_reducible refine r_sub ?_ | with_reducible refine r_andV ?_ | with_reducible refine r_orV ?_ | with_reducible refine r_notV ?_
  | with_reducible refine r_and ?_ | with_reducible refine r_or ?_ | with_reducible refine r_not ?_ | with_reducible refine r_eqI ?_ | with_reducible refine r_neI ?_ | with_reducible refine r_aug rfl ?_ | with_reducible refine r_ipI ?_ | with_reducible refine r_un ?_
  | with_reducible refine r_bm ?_ | with_reducible refine r_bm0 ?_ | with_reducible refine r_yes ?_
  | with_reducible refine r_dnewT ?_ | with_reducible refine r_dget2 ?_ 
  | with_reducible refine r_U ?_ | with_reducible refine r_lit ?_
  | with_reducible refine r_fb ?_ | with_reducible refine r_m1 ?_ | with_reducible refine r_augS ?_ | with_reducible refine r_isNn ?_ | with_reducible refine r_notNn ?_ | with_reducible refine r_isNr ?_ | with_reducible refine r_notNr ?_ | with_reducible refine r_tru ?_ | with_reducible refine r_count ?_
  | with_reducible refine r_for ?_ | with_reducible refine r_dc ?_ | with_reducible refine r_lc ?_ | with_reducible refine r_sc ?_ | with_reducible refine r_zipN ?_ | with_reducible refine r_ifX ?_ | with_reducible refine r_zip3 ?_ | with_reducible refine r_rng1 ?_ | with_reducible refine r_rng2 ?_ | with_reducible refine r_ilist ?_ | with_reducible refine r_itup ?_ | with_reducible refine r_enum ?_
  | with_reducible refine r_sl ?_ | with_reducible refine r_nopart ?_ | with_reducible refine r_part ?_ | with_reducible refine r_int ?_ | with_reducible refine r_gcons ?_ | with_reducible refine r_gnil ?_ | with_reducible refine r_revT ?_
  | with_reducible refine r_intB (fun z hz z0 z1 => ?_) | with_reducible refine r_intI ?_ | with_reducible refine r_min2 ?_ | with_reducible refine r_max2 ?_ | with_reducible refine r_rng1V ?_ | with_reducible refine r_rng2V ?_
  | with_reducible refine r_dget ?_ | with_reducible refine r_disp ?_ | with_reducible refine r_pcons ?_ | with_reducible refine r_pnil ?_ | with_reducible refine r_enumT ?_ | with_reducible refine r_zip ?_ | with_reducible refine r_abs (fun z hz z0 => ?_)
  | with_reducible refine r_try ?_ | with_reducible refine r_try0 ?_ | with_reducible refine r_dropX ?_ | with_reducible refine r_setX ?_ | with_reducible refine r_callX ?_ | with_reducible refine r_methX ?_ | with_reducible refine r_raise ?_
  | with_reducible refine r_zipI ?_ | with_reducible refine r_zipT ?_ | with_reducible refine r_sfld ?_ | with_reducible refine r_fld ?_ | with_reducible refine r_meth ?_ | with_reducible refine r_make ?_ | with_reducible refine r_notC ?_ | with_reducible refine r_revS ?_ | with_reducible refine r_rev ?_ | with_reducible refine r_dputK ?_ | with_reducible refine r_chain4 ?_ | with_reducible refine r_chain3 ?_ | with_reducible refine r_chain ?_ | with_reducible refine r_din ?_ | with_reducible refine r_dnotin ?_ | with_reducible refine r_ifE ?_
  | ((with_reducible show cIsiR _ _ _ _ _); first | with_reducible refine r_itT (by first | assumption | exact upd_same) ?_ | with_reducible refine r_itL (by first | assumption | exact upd_same) ?_)
  | ((with_reducible show kDGet _ _ _ _); with_reducible refine pot_g (by first | assumption | exact upd_same) ?_) | ((with_reducible show kDGet _ _ _ _); with_reducible refine pot_s (by first | assumption | exact upd_same) ?_) | ((with_reducible show kDGet _ _ _ _); with_reducible refine pot_t (by first | assumption | exact upd_same) ?_)
  | ((with_reducible show kDPut _ _ _ _ _); with_reducible refine pot_pg (by first | assumption | exact upd_same) ?_) | ((with_reducible show kDPut _ _ _ _ _); with_reducible refine pot_pt (by first | assumption | exact upd_same) ?_)
  | with_reducible refine iteT ?_ | with_reducible refine iteF ?_ | with_reducible refine r_nf ?_ | with_reducible refine r_nt ?_
  | with_reducible refine r_ii ?_ | with_reducible refine r_ib ?_
  | ((with_reducible show rIxLF _ _ _ _); with_reducible refine r_ixL (by first | assumption | exact upd_same) rfl ?_)
  | ((with_reducible show rIxTF _ _ _ _); with_reducible refine r_ixT (by first | assumption | exact upd_same) rfl ?_)
  | ((with_reducible show rSetL _ _ _ _ _); with_reducible refine r_setL (by first | assumption | exact upd_same) rfl ?_)
  | ((with_reducible show cLen _ _ _); with_reducible refine r_len (by first | exact sqAt_lst (by assumption) | exact sqAt_tup (by assumption) | exact sqAt_lst upd_same | exact sqAt_tup upd_same) ?_)
  | ((with_reducible show rSlLF _ _ _ _ _); with_reducible refine r_slL (by first | assumption | exact upd_same) ?_)
  | ((with_reducible show gTupF _ _ _ _ _ _); with_reducible refine r_gtup (by first | assumption | exact upd_same) rfl ?_)
  | ((with_reducible show rI _ _ _ _ _ _); first | with_reducible refine r_mod (by omega) ?_ | with_reducible refine r_div (by omega) (by omega) ?_ | with_reducible refine r_mulL (by omega) (by omega) ?_ | with_reducible refine r_mulR (by omega) (by omega) ?_ | with_reducible refine r_pow (by omega) (by omega) (by decide) ?_))
local macro_rules | `(tactic| walk_at "rd") => `(tactic| repeat (first | walk_at "rd1" | (dsimp only; walk_at "rd1")))
inductive Flt
  | none
  | blocks
  | at (tw : Bool) (n t : Nat)
def kindS (tw : Bool) : Str := if tw then "twice" else "left"
def FltAt (H : Hp) (v : V) : Flt → Prop
  | .none => v = .non
  | .blocks => ∃ p, v = .ref p ∧ H p = some (.tup [.str "blocks"])
  | .at tw n t => ∃ p, v = .ref p ∧ H p = some (.tup [.str (kindS tw), .int (n : Nat), .int (t : Nat)])
theorem FltAt.same {H H' : Hp} {v : V} {f : Flt} (h : FltAt H v f) (s : Same H H') : FltAt H' v f := by
  cases f with
  | none => exact h
  | blocks => obtain ⟨p, e, g⟩ := h; exact ⟨p, e, s _ _ g⟩
  | «at» tw n t => obtain ⟨p, e, g⟩ := h; exact ⟨p, e, s _ _ g⟩
inductive DayF (m : Nat) (n : Nat) (day : List (List Int)) : Flt → Prop
  | good : (∀ t < m, day.flatten.count ((t : Nat) : Int) = 1) → DayF m n day .none
  | bad {t : Nat} : t < m → (∀ u < t, day.flatten.count ((u : Nat) : Int) = 1) → day.flatten.count ((t : Nat) : Int) ≠ 1 → DayF m n day (.at (decide (1 < day.flatten.count ((t : Nat) : Int))) n t)
theorem DayF.one {m n : Nat} {day : List (List Int)} {f g : Flt} (a : DayF m n day f) (b : DayF m n day g) : f = g := by
  cases a with
  | good h =>
    cases b with
    | good => rfl
    | bad t1 t2 t3 => exact absurd (h _ t1) t3
  | @bad t t1 t2 t3 =>
    cases b with
    | good h => exact absurd (h _ t1) t3
    | @bad u u1 u2 u3 =>
      have : t = u := by
        rcases Nat.lt_trichotomy t u with h | h | h
        · exact absurd (u2 _ h) t3
        · exact h
        · exact absurd (t2 _ h) u3
      subst this
      rfl
inductive DaysF (m : Nat) (D : List (List (List Int))) : Flt → Prop
  | good : (∀ n day, D[n]? = some day → DayF m n day .none) → DaysF m D .none
  | bad {n : Nat} {day : List (List Int)} {f : Flt} : D[n]? = some day → (∀ k < n, ∀ d, D[k]? = some d → DayF m k d .none) → DayF m n day f → f ≠ .none → DaysF m D f
theorem DaysF.one {m : Nat} {D : List (List (List Int))} {f g : Flt} (a : DaysF m D f) (b : DaysF m D g) : f = g := by
  cases a with
  | good h =>
    cases b with
    | good => rfl
    | bad e k d ne => exact absurd ((d.one (h _ _ e))) ne
  | @bad n day f e k d ne =>
    cases b with
    | good h => exact absurd (d.one (h _ _ e)) ne
    | @bad n' day' g e' k' d' ne' =>
      have : n = n' := by
        rcases Nat.lt_trichotomy n n' with h | h | h
        · exact absurd (d.one (k' _ h _ e)) ne
        · exact h
        · exact absurd (d'.one (k _ h _ e')) ne'
      subst this
      rw [e] at e'
      cases e'
      exact d.one d'
open Classical in
inductive AllF (m : Nat) (bs : List (List Int)) (D : List (List (List Int))) : Flt → Prop
  | other : ¬ D.flatten.Perm bs → AllF m bs D .blocks
  | same {f : Flt} : D.flatten.Perm bs → DaysF m D f → AllF m bs D f
theorem AllF.one {m : Nat} {bs : List (List Int)} {D : List (List (List Int))} {f g : Flt} (a : AllF m bs D f) (b : AllF m bs D g) : f = g := by
  cases a with
  | other h =>
    cases b with
    | other => rfl
    | same p => exact absurd p h
  | same p d =>
    cases b with
    | other h => exact absurd p h
    | same _ d' => exact d.one d'
def spFaultDay : Sp := fun vs H Q _ => ∃ (d : Addr) (m n : Nat) (bs : List (List Int)), vs = [.int (m : Nat), .int (n : Nat), .ref d] ∧ Blks H d bs ∧ bs.length ≤ 1000 ∧ (∀ b ∈ bs, Rise2 m b) ∧ m ≤ 1000 ∧
  ∀ v f H', Same H H' → FltAt H' v f → DayF m n bs f → Q v H'
section
variable {P : Program} {w : World} {K : PySem.W.Frag} {mg : Str → Option Value} {base : Heap}
structure TxFaultDay (mg : Str → Option Value) : Prop where
  range : mg "range" = none
abbrev sFaultOfDay : Stmt := top 2
theorem scFaultOfDay : FnScope ["many", "number", "day", "times", "block", "thing"] ["many", "number", "day"] (defScope sFaultOfDay) := ⟨rfl, rfl, rfl, by decide +kernel, rfl, by decide +kernel, by decide +kernel⟩
set_option maxHeartbeats 2000000 in
theorem has_faultday (F : FunAt K mg "fault_of_day" sFaultOfDay ["many", "number", "day"]) (T : TxFaultDay mg) : Has P w K mg base 1 "fault_of_day" ["many", "number", "day"] spFaultDay := by
  refine F.has scFaultOfDay (fun vs H Q E h => ?_) (fun f cdv A outer s H vs Q E hr h => ?_)
  · obtain ⟨d, m, n, bs, rfl, _⟩ := h
    rfl
  obtain ⟨d, m, n, bs, rfl, B, lb, rb, m1, kk⟩ := h
  refine ⟨_, (pss_cons (ps_set (i := 3) scFaultOfDay.nd rfl (Or.inl rfl) (pe_op op_rep (pe_lst (pa_cons pe_int pa_nil)) (pv 0)))
    (pss_cons (ps_for PassesOwn.never rfl (pi_list (pv 2)) (pg_name (i := 4) scFaultOfDay.nd rfl (Or.inl rfl))
    (pss_one (ps_for PassesOwn.never rfl (pi_tup (pv 4)) (pg_name (i := 5) scFaultOfDay.nd rfl (Or.inl rfl))
      (pss_one (ps_augS (pv 3) (pv 5) get_listF pe_int ip_add set_list)))))
    (pss_cons (ps_for PassesOwn.never rfl (pi_range1 (by rfl) T.range (pa_cons (pv 0) pa_nil)) (pg_name (i := 5) scFaultOfDay.nd rfl (Or.inl rfl))
    (pss_cons (ps_if (pt_cmpR op_eq (pe_ix ix_listF (pv 3) (pv 5) (fun _ _ => rfl)) pe_int (nomark _))
      (pss_one (ps_ret (pe_tup (pa_cons pe_str (pa_cons (pv 1) (pa_cons (pv 5) pa_nil))))))
      pss_nil)
      (pss_one (ps_if (pt_cmpR op_gt (pe_ix ix_listF (pv 3) (pv 5) (fun _ _ => rfl)) pe_int (nomark _))
      (pss_one (ps_ret (pe_tup (pa_cons pe_str (pa_cons (pv 1) (pa_cons (pv 5) pa_nil))))))
      pss_nil))))
    (pss_one (ps_ret pe_non))))), ?_⟩
  obtain ⟨ps, el, tu⟩ := id B
  walk_at "rd"
  refine ⟨Nat.le_of_ble_eq_true rfl, ?_⟩
  intro t0 ht0
  obtain ⟨H0, s0, e0, eq_t0⟩ : ∃ Hx, Same _ Hx ∧ Hx t0 = some _ ∧ upd _ t0 _ = Hx := ⟨_, Same.new ht0 _, upd_same, rfl⟩
  rw [eq_t0]; clear eq_t0
  walk_at "rd"
  refine r_rep e0 (by omega) (by omega) (by show 1 * _ ≤ 16777216; omega) fun q hq => ?_
  rw [show ((m : Int)).toNat = m by omega, rep_ints, ← cntL_nil]
  have hqH : H q = none := s0.free hq
  have z1 : Same H (upd H0 q (.lst ((cntL m []).map V.int))) := s0.late hqH _
  obtain ⟨H1, eH1⟩ : ∃ H1, upd H0 q (.lst ((cntL m []).map V.int)) = H1 := ⟨_, rfl⟩
  have e1 : H1 q = some (.lst ((cntL m []).map V.int)) := by rw [← eH1]; exact upd_same
  rw [eH1] at z1 ⊢
  walk_at "rd"
  refine ⟨d, rfl, ⟨_, SqL.of (z1 _ _ el)⟩, ?_⟩
  refine for_list (xs := ps.map V.ref) (fun i σ H' => ∃ v4 v5, σ = [some (.int (m : Nat)), some (.int (n : Nat)), some (.ref d), some (.ref q), v4, v5] ∧ Same H H' ∧ H' q = some (.lst ((cntL m (bs.take i).flatten).map V.int))) ?_ ?_ ?_ ?_
  · exact ⟨_, _, rfl, z1, e1⟩
  · rintro i σ H2 _ ⟨_, _, _, s2, _⟩
    exact SqL.of (s2 _ _ el)
  · rintro i y σ H2 hy ⟨v4, v5, rfl, s2, e2⟩
    obtain ⟨pb, rfl, hpb⟩ := nth_refs hy
    obtain ⟨b, hb, epb⟩ := tu.get hpb
    have rbb := rb b (List.mem_of_getElem? hb)
    walk_at "rd"
    refine ⟨pb, rfl, ⟨_, SqT.of (s2 _ _ epb)⟩, ?_⟩
    refine for_tup (xs := b.map V.int) (fun k σ H' => ∃ v5, σ = [some (.int (m : Nat)), some (.int (n : Nat)), some (.ref d), some (.ref q), some (.ref pb), v5] ∧ Same H H' ∧ H' q = some (.lst ((cntL m ((bs.take i).flatten ++ b.take k)).map V.int))) ?_ ?_ ?_ ?_
    · exact ⟨_, rfl, s2, by rw [List.take_zero, List.append_nil]; exact e2⟩
    · rintro k σ H3 _ ⟨_, _, s3, _⟩
      exact SqT.of (s3 _ _ epb)
    · rintro k y σ H3 hy ⟨v5, rfl, s3, e3⟩
      obtain ⟨x, rfl, hx⟩ := nth_ints hy
      have rx := rbb.2 x (List.mem_of_getElem? hx)
      walk_at "rd"
      refine r_ixL e3 (cntL_at rx.1 rx.2) ?_
      walk_at "rd"
      refine r_bump e3 rx.1 rx.2 ?_
      refine ⟨_, rfl, s3.late hqH _, ?_⟩
      rw [upd_same, List.append_assoc, ← take_snoc hx]
    · rintro σ H3 ⟨v5, rfl, s3, e3⟩
      refine ⟨_, _, rfl, s3, ?_⟩
      rw [e3, List.length_map, List.take_length, take_snoc hb, List.flatten_append, List.flatten_singleton]
  rintro σ H2 ⟨v4, v5, rfl, s2, e2⟩
  have lps := tu.1
  rw [List.length_map, lps, List.take_length] at e2
  walk_at "rd"
  refine ⟨(m : Int), rfl, by omega, by omega, ?_⟩
  rw [show ((m : Int)).toNat = m by omega]
  refine for_range (n := m) (fun t σ H' => ∃ v5, σ = [some (.int (m : Nat)), some (.int (n : Nat)), some (.ref d), some (.ref q), v4, v5] ∧ H' = H2 ∧ ∀ u < t, bs.flatten.count ((u : Nat) : Int) = 1) ?_ ?_ ?_
  · exact ⟨_, rfl, rfl, fun u hu => by omega⟩
  · rintro t σ H3 ht ⟨v5, rfl, rfl, on⟩
    walk_at "rd"
    refine r_ixL e2 (cntL_at (by omega) (by omega)) ?_
    rw [show (0 + (t : Int)) = (t : Int) by omega]
    walk_at "rd"
    refine r_if (fun c => ?_) (fun c => ?_)
    · walk_at "rd"
      refine ⟨Nat.le_of_ble_eq_true rfl, ?_⟩
      intro p4 hp4
      obtain ⟨H4, s4, e4, eq_p4⟩ : ∃ Hx, Same _ Hx ∧ Hx p4 = some _ ∧ upd _ p4 _ = Hx := ⟨_, Same.new hp4 _, upd_same, rfl⟩
      rw [eq_p4]; clear eq_p4
      refine kk _ (.at (decide (1 < bs.flatten.count ((t : Nat) : Int))) n t) _ (s2.trans s4) ⟨p4, rfl, ?_⟩ (.bad ht on (by omega))
      rw [e4, decide_eq_false (by omega)]
      rfl
    · walk_at "rd"
      refine r_ixL e2 (cntL_at (by omega) (by omega)) ?_
      walk_at "rd"
      refine r_if (fun c2 => ?_) (fun c2 => ?_)
      · walk_at "rd"
        refine ⟨Nat.le_of_ble_eq_true rfl, ?_⟩
        intro p4 hp4
        obtain ⟨H4, s4, e4, eq_p4⟩ : ∃ Hx, Same _ Hx ∧ Hx p4 = some _ ∧ upd _ p4 _ = Hx := ⟨_, Same.new hp4 _, upd_same, rfl⟩
        rw [eq_p4]; clear eq_p4
        refine kk _ (.at (decide (1 < bs.flatten.count ((t : Nat) : Int))) n t) _ (s2.trans s4) ⟨p4, rfl, ?_⟩ (.bad ht on (by omega))
        rw [e4, decide_eq_true (by omega)]
        rfl
      · refine ⟨_, rfl, rfl, fun u hu => ?_⟩
        by_cases z : u = t
        · subst z; omega
        · exact on u (by omega)
  · rintro σ H3 ⟨v5, rfl, rfl, on⟩
    walk_at "rd"
    exact kk _ .none _ s2 rfl (.good on)
end
end My
set_option Elab.async false
set_option linter.all false
set_option maxRecDepth 100000
namespace L2
open PySem PySem.Spec PyProof.Rows
def LB (H : Hp) (r : Addr) (ds : List (List (List Int))) : Prop := ∃ ps : List Addr, H r = some (.lst (ps.map V.ref)) ∧ Paired (Blks H) ps ds
theorem LB.same {H H' : Hp} {r : Addr} {ds : List (List (List Int))} (h : LB H r ds) (s : Same H H') : LB H' r ds := by
  obtain ⟨ps, e, pr⟩ := h
  exact ⟨ps, s _ _ e, Pd.imp (fun _ _ b => b.same s) pr⟩
theorem NewLs.lb {H1 H : Hp} {r : Addr} {ds : List (List (List Int))} (h : NewLs Blks H1 H r ds) : LB H r ds := let ⟨ps, e, _, _, pr⟩ := h.ex; ⟨ps, e, pr⟩
def dLB (ds : List (List (List Int))) : PyData := .list (ds.map fun d => .list (dB d))
theorem dp_pd {K : PySem.W.Frag} {H : Hp} : ∀ {ps : List Addr} {ds : List (List (List Int))}, Paired (Blks H) ps ds → DpAll K H (ps.map V.ref) (ds.map fun d => .list (dB d))
  | _, _, .nil => .nil
  | _, _, .cons b t => .cons (dp_blks b) (dp_pd t)
theorem dp_lb {K : PySem.W.Frag} {H : Hp} {r : Addr} {ds : List (List (List Int))} (h : LB H r ds) : Dp K H (.ref r) (dLB ds) := let ⟨_, e, pr⟩ := h; .lst (SqL.of e) (dp_pd pr)
def dL2 (ds : List (List (List Int))) : List PyData := ds.map fun d => .list (dB d)
theorem lay_lb : ∀ ds : List (List (List Int)), PyData.canLayAll0 (dL2 ds) = true
  | [] => rfl
  | d :: ds => by
    show (PyData.canLayAll0 (dB d) && PyData.canLayAll0 (dL2 ds)) = true
    rw [lay_lb ds, lay_blks]; rfl
theorem dep_lb : ∀ ds : List (List (List Int)), PyData.depthAll (dL2 ds) ≤ 2
  | [] => Nat.zero_le _
  | d :: ds => by
    show max (PyData.depthAll (dB d) + 1) (PyData.depthAll (dL2 ds)) ≤ 2
    have := dep_blks d
    exact Nat.max_le.mpr ⟨by omega, dep_lb ds⟩
theorem eqvA_lb : ∀ ds es : List (List (List Int)), PyData.eqvAll (dL2 ds) (dL2 es) = decide (ds = es)
  | [], [] => rfl
  | [], _ :: _ => rfl
  | _ :: _, [] => rfl
  | d :: ds, e :: es => by
    show (PyData.eqvAll (dB d) (dB e) && PyData.eqvAll (dL2 ds) (dL2 es)) = _
    rw [eqvA_lb ds es, eqvA_blks]
    by_cases h : d = e
    · subst h; simp
    · simp [h]
theorem sh_lb (ds : List (List (List Int))) : SeqAt.shaped (.list (dL2 ds)) = true := by
  unfold SeqAt.shaped
  rw [Bool.and_eq_true]
  refine ⟨lay_lb ds, decide_eq_true ?_⟩
  show PyData.depthAll (dL2 ds) + 1 ≤ 64
  have := dep_lb ds
  omega
end L2
set_option Elab.async false
set_option linter.all false
set_option maxRecDepth 100000
namespace My
open PySem PySem.Spec L2
local macro_rules | `(tactic| walk_at "rd1") => `(tactic| first
  | with_reducible refine r_seq ?_ | with_reducible refine r_asg ?_ | with_reducible refine r_name ?_ | with_reducible refine r_ret ?_ | with_reducible refine r_drop ?_ | with_reducible refine r_ifs ?_ | with_reducible refine r_next ?_
  | with_reducible refine r_var rfl ?_ | with_reducible refine r_c ?_ | with_reducible refine r_op ?_ | with_reducible refine r_I0 ?_
  | with_reducible refine r_test ?_ | with_reducible refine r_b ?_ | with_reducible refine r_k ?_ | with_reducible refine r_cons ?_ | with_reducible refine r_nil ?_ | with_reducible refine r_call ?_ | with_reducible refine r_cb ?_
  | with_reducible refine r_lst ?_ | with_reducible refine r_tup ?_ | with_reducible refine r_sub ?_ | with_reducible refine r_andV ?_ | with_reducible refine r_orV ?_ | with_reducible refine r_notV ?_
  | with_reducible refine r_and ?_ | with_reducible refine r_or ?_ | with_reducible refine r_not ?_ | with_reducible refine r_eqI ?_ | with_reducible refine r_neI ?_ | with_reducible refine r_aug rfl ?_ | with_reducible refine r_ipI ?_ | with_reducible refine r_un ?_
  | with_reducible refine r_bm ?_ | with_reducible refine r_bm0 ?_ | with_reducible refine r_yes ?_
  | with_reducible refine r_dnewT ?_ | with_reducible refine r_dget2 ?_ 
  | with_reducible refine r_U ?_ | with_reducible refine r_lit ?_
  | with_reducible refine r_fb ?_ | with_reducible refine r_m1 ?_ | with_reducible refine r_augS ?_ | with_reducible refine r_isNn ?_ | with_reducible refine r_notNn ?_ | with_reducible refine r_isNr ?_ | with_reducible refine r_notNr ?_ | with_reducible refine r_tru ?_ | with_reducible refine r_count ?_
  | with_reducible refine r_for ?_ | with_reducible refine r_dc ?_ | with_reducible refine r_lc ?_ | with_reducible refine r_sc ?_ | with_reducible refine r_zipN ?_ | with_reducible refine r_ifX ?_ | with_reducible refine r_zip3 ?_ | with_reducible refine r_rng1 ?_ | with_reducible refine r_rng2 ?_ | with_reducible refine r_ilist ?_ | with_reducible refine r_itup ?_ | with_reducible refine r_enum ?_
  | with_reducible refine r_sl ?_ | with_reducible refine r_nopart ?_ | with_reducible refine r_part ?_ | with_reducible refine r_int ?_ | with_reducible refine r_gcons ?_ | with_reducible refine r_gnil ?_ | with_reducible refine r_revT ?_
  | with_reducible refine r_intB (fun z hz z0 z1 => ?_) | with_reducible refine r_intI ?_ | with_reducible refine r_min2 ?_ | with_reducible refine r_max2 ?_ | with_reducible refine r_rng1V ?_ | with_reducible refine r_rng2V ?_
  | with_reducible refine r_dget ?_ | with_reducible refine r_disp ?_ | with_reducible refine r_pcons ?_ | with_reducible refine r_pnil ?_ | with_reducible refine r_enumT ?_ | with_reducible refine r_zip ?_ | with_reducible refine r_abs (fun z hz z0 => ?_)
  | with_reducible refine r_try ?_ | with_reducible refine r_try0 ?_ | with_reducible refine r_dropX ?_ | with_reducible refine r_setX ?_ | with_reducible refine r_callX ?_ | with_reducible refine r_methX ?_ | with_reducible refine r_raise ?_
  | with_reducible refine r_zipI ?_ | with_reducible refine r_zipT ?_ | with_reducible refine r_sfld ?_ | with_reducible refine r_fld ?_ | with_reducible refine r_meth ?_ | with_reducible refine r_make ?_ | with_reducible refine r_notC ?_ | with_reducible refine r_revS ?_ | with_reducible refine r_rev ?_ | with_reducible refine r_dputK ?_ | with_reducible refine r_chain4 ?_ | with_reducible refine r_chain3 ?_ | with_reducible refine r_chain ?_ | with_reducible refine r_din ?_ | with_reducible refine r_dnotin ?_ | with_reducible refine r_ifE ?_
  | ((with_reducible show cIsiR _ _ _ _ _); first | with_reducible refine r_itT (by first | assumption | exact upd_same) ?_ | with_reducible refine r_itL (by first | assumption | exact upd_same) ?_)
  | ((with_reducible show kDGet _ _ _ _); with_reducible refine pot_g (by first | assumption | exact upd_same) ?_) | ((with_reducible show kDGet _ _ _ _); with_reducible refine pot_s (by first | assumption | exact upd_same) ?_) | ((with_reducible show kDGet _ _ _ _); with_reducible refine pot_t (by first | assumption | exact upd_same) ?_)
  | ((with_reducible show kDPut _ _ _ _ _); with_reducible refine pot_pg (by first | assumption | exact upd_same) ?_) | ((with_reducible show kDPut _ _ _ _ _); with_reducible refine pot_pt (by first | assumption | exact upd_same) ?_)
  | with_reducible refine iteT ?_ | with_reducible refine iteF ?_ | with_reducible refine r_nf ?_ | with_reducible refine r_nt ?_
  | with_reducible refine r_ii ?_ | with_reducible refine r_ib ?_
  | ((with_reducible show rIxLF _ _ _ _); with_reducible refine r_ixL (by first | assumption | exact upd_same) rfl ?_)
  | ((with_reducible show rIxTF _ _ _ _); with_reducible refine r_ixT (by first | assumption | exact upd_same) rfl ?_)
  | ((with_reducible show rSetL _ _ _ _ _); with_reducible refine r_setL (by first | assumption | exact upd_same) rfl ?_)
  | ((with_reducible show cLen _ _ _); with_reducible refine r_len (by first | exact sqAt_lst (by assumption) | exact sqAt_tup (by assumption) | exact sqAt_lst upd_same | exact sqAt_tup upd_same) ?_)
  | ((with_reducible show rSlLF _ _ _ _ _); with_reducible refine r_slL (by first | assumption | exact upd_same) ?_)
  | ((with_reducible show gTupF _ _ _ _ _ _); with_reducible refine r_gtup (by first | assumption | exact upd_same) rfl ?_)
  | ((with_reducible show rI _ _ _ _ _ _); first | with_reducible refine r_mod (by omega) ?_ | with_reducible refine r_div (by omega) (by omega) ?_ | with_reducible refine r_mulL (by omega) (by omega) ?_ | with_reducible refine r_mulR (by omega) (by omega) ?_ | with_reducible refine r_pow (by omega) (by omega) (by decide) ?_))
local macro_rules | `(tactic| walk_at "rd") => `(tactic| repeat (first | walk_at "rd1" | (dsimp only; walk_at "rd1")))
structure DaysAt (H : Hp) (l : Addr) (m : Nat) (D : List (List (List Int))) : Prop where
  ex : ∃ ps : List Addr, H l = some (.lst (ps.map V.ref)) ∧ Paired (Blks H) ps D
  rb : ∀ d ∈ D, ∀ b ∈ d, Rise2 m b
  len : D.length ≤ 12
  each : ∀ d ∈ D, d.length ≤ 50
  m40 : m ≤ 40
theorem DaysAt.same {H H' : Hp} {l : Addr} {m : Nat} {D : List (List (List Int))} (h : DaysAt H l m D) (s : Same H H') : DaysAt H' l m D := by
  obtain ⟨⟨ps, e, pr⟩, a, b, c, d⟩ := h
  exact ⟨⟨ps, s _ _ e, Pd.imp (fun p d h => h.same s) pr⟩, a, b, c, d⟩
theorem flat_len {c : Nat} : ∀ D : List (List (List Int)), (∀ d ∈ D, d.length ≤ c) → D.flatten.length ≤ D.length * c
  | [], _ => by simp
  | d :: D, h => by
    have h1 := flat_len D fun x hx => h x (List.mem_cons_of_mem _ hx)
    have h2 := h d List.mem_cons_self
    rw [List.flatten_cons, List.length_append, List.length_cons, Nat.add_mul, Nat.one_mul]
    omega
def spJoined : Sp := fun vs H Q _ => ∃ (l : Addr) (m : Nat) (D : List (List (List Int))), vs = [.ref l] ∧ DaysAt H l m D ∧ ∀ q H', H q = none → Same H H' → Blks H' q D.flatten → Q (.ref q) H'
def spFaultDays : Sp := fun vs H Q _ => ∃ (p a l : Addr) (m : Nat) (bs : List (List Int)) (D : List (List (List Int))), vs = [.ref p, .ref l] ∧ H p = some (.tup [.int (m : Nat), .ref a]) ∧ Blks H a bs ∧ bs.length ≤ 1000 ∧ DaysAt H l m D ∧
  ∀ v f H', Same H H' → FltAt H' v f → AllF m bs D f → Q v H'
def spDueDays : Sp := fun vs H Q _ => ∃ (a l : Addr) (m : Nat) (bs : List (List Int)) (D : List (List (List Int))), vs = [.int (m : Nat), .ref a, .ref l] ∧ Blks H a bs ∧ bs.length ≤ 1000 ∧ DaysAt H l m D ∧
  ∀ v f H', Same H H' → FltAt H' v f → AllF m bs D f → Q v H'
def spSameF : Sp := fun vs H Q _ => ∃ (u v : V) (f : Flt), vs = [u, v] ∧ FltAt H u f ∧ FltAt H v f ∧ ∀ H', Same H H' → Q (.bl true) H'
theorem cnt_flat {x : Int} : ∀ d : List (List Int), (∀ b ∈ d, b.Pairwise (· < ·)) → (d.flatMap fun b => if b.contains x then [b] else []).length = d.flatten.count x
  | [], _ => rfl
  | b :: d, h => by
    have ih := cnt_flat (x := x) d fun y hy => h y (List.mem_cons_of_mem _ hy)
    have nd : b.Nodup := (h b List.mem_cons_self).imp (fun {u v} (h : u < v) => by omega)
    rw [List.flatMap_cons, List.length_append, ih, List.flatten_cons, List.count_append, nd.count]
    by_cases c : x ∈ b
    · rw [if_pos (by simpa using c), if_pos c]; rfl
    · rw [if_neg (by simpa using c), if_neg c]; rfl
section
variable {P : Program} {w : World} {K : PySem.W.Frag} {mg : Str → Option Value} {base : Heap}
abbrev sJoined : Stmt := top 11
theorem scJoined : FnScope ["_law_days", "_law_blocks", "_law_day"] ["_law_days"] (defScope sJoined) := ⟨rfl, rfl, rfl, by decide +kernel, rfl, by decide +kernel, by decide +kernel⟩
set_option maxHeartbeats 1000000 in
theorem has_joined (F : FunAt K mg "_law_joined" sJoined ["_law_days"]) : Has P w K mg base 1 "_law_joined" ["_law_days"] spJoined := by
  refine F.has scJoined (fun vs H Q E h => ?_) (fun f cdv A outer s H vs Q E hr h => ?_)
  · obtain ⟨l, m, D, rfl, _⟩ := h
    rfl
  obtain ⟨l, m, D, rfl, DA, kk⟩ := h
  refine ⟨_, (pss_cons (ps_set (i := 1) scJoined.nd rfl (Or.inl rfl) (pe_lst pa_nil))
    (pss_cons (ps_for PassesOwn.never rfl (pi_list (pv 0)) (pg_name (i := 2) scJoined.nd rfl (Or.inl rfl))
    (pss_one (ps_expr (pe_bm PySem.F.plainAttrs_list PySem.F.slot_list_extend PySem.F.type_list_extend mt_extend (pv 1) (pa_cons (pv 2) pa_nil)))))
    (pss_one (ps_ret (pv 1))))), ?_⟩
  obtain ⟨ps, el, pr⟩ := id DA.ex
  have lps := Pd.len pr
  have lD := DA.len
  walk_at "rd"
  refine ⟨Nat.le_of_ble_eq_true rfl, ?_⟩
  intro q hq
  obtain ⟨H1, s1, e1, eq_q⟩ : ∃ Hx, Same _ Hx ∧ Hx q = some _ ∧ upd _ q _ = Hx := ⟨_, Same.new hq _, upd_same, rfl⟩
  rw [eq_q]; clear eq_q
  walk_at "rd"
  refine ⟨l, rfl, ⟨_, SqL.of (s1 _ _ el)⟩, ?_⟩
  refine for_list (xs := ps.map V.ref) (fun i σ H' => ∃ v2, σ = [some (.ref l), some (.ref q), v2] ∧ Same H H' ∧ Blks H' q (D.take i).flatten) ?_ ?_ ?_ ?_
  · exact ⟨_, rfl, s1, ⟨[], e1, TupsAt.nil _⟩⟩
  · rintro i σ H2 _ ⟨_, _, s2, _⟩
    exact SqL.of (s2 _ _ el)
  · rintro i y σ H2 hy ⟨v2, rfl, s2, xs, ex, tx⟩
    obtain ⟨p, rfl, hp⟩ := nth_refs hy
    obtain ⟨d, hd, Bd⟩ := Pd.get pr hp
    obtain ⟨ys, ey, ty⟩ := Bd.same s2
    have l1 := DA.each d (List.mem_of_getElem? hd)
    have l2 := flat_len (D.take i) fun x hx => DA.each x (List.mem_of_mem_take hx)
    have l3 : (D.take i).length ≤ 12 := by rw [List.length_take]; omega
    have l4 := Nat.mul_le_mul_right 50 l3
    have tx1 := tx.1
    have ty1 := ty.1
    walk_at "rd"
    refine ⟨.inl ⟨rfl, _, SqL.of ex⟩, ?_⟩
    walk_at "rd"
    refine r_extend ex ey (by rw [List.length_map, List.length_map]; show _ ≤ 16777216; omega) ?_
    refine ⟨_, rfl, s2.late hq _, ⟨xs ++ ys, by rw [upd_same, List.map_append], ?_⟩⟩
    rw [take_snoc hd, List.flatten_append, List.flatten_singleton]
    exact (tx.append ty).late ex _
  · rintro σ H2 ⟨v2, rfl, s2, B2⟩
    rw [List.length_map, lps, List.take_length] at B2
    walk_at "rd"
    exact kk _ _ hq s2 B2
structure TxFaultDays (P : Program) (w : World) (K : PySem.W.Frag) (mg : Str → Option Value) (base : Heap) : Prop where
  sorted : mg "sorted" = none
  enumerate : mg "enumerate" = none
  fault_of_day : Has P w K mg base 1 "fault_of_day" ["many", "number", "day"] spFaultDay
abbrev sFaultOfDays : Stmt := top 1
theorem scFaultOfDays : FnScope ["plan", "days", "blocks", "day", "number", "fault"] ["plan", "days"] (defScope sFaultOfDays) := ⟨rfl, rfl, rfl, by decide +kernel, rfl, by decide +kernel, by decide +kernel⟩
set_option maxHeartbeats 2000000 in
theorem has_faultdays (F : FunAt K mg "fault_of_days" sFaultOfDays ["plan", "days"]) (T : TxFaultDays P w K mg base) : Has P w K mg base 2 "fault_of_days" ["plan", "days"] spFaultDays := by
  refine F.has scFaultOfDays (fun vs H Q E h => ?_) (fun f cdv A outer s H vs Q E hr h => ?_)
  · obtain ⟨p, a, l, m, bs, D, rfl, _⟩ := h
    rfl
  obtain ⟨p, a, l, m, bs, D, rfl, ep, B, lb, DA, kk⟩ := h
  refine ⟨_, (pss_cons (ps_set (i := 2) scFaultOfDays.nd rfl (Or.inl rfl) (pe_lst pa_nil))
    (pss_cons (ps_for PassesOwn.never rfl (pi_list (pv 1)) (pg_name (i := 3) scFaultOfDays.nd rfl (Or.inl rfl))
    (pss_one (ps_expr (pe_bm PySem.F.plainAttrs_list PySem.F.slot_list_extend PySem.F.type_list_extend mt_extend (pv 2) (pa_cons (pv 3) pa_nil)))))
    (pss_cons (ps_if (pt_cmpR (op_neD hr.units) (pe_callB (k_sortN hr.units) (by rfl) T.sorted (by decide +kernel) (pa_cons (pv 2) pa_nil)) (pe_callB (k_sortN hr.units) (by rfl) T.sorted (by decide +kernel) (pa_cons (pe_ix ix_tupF (pv 0) pe_int (fun _ _ => rfl)) pa_nil)) (nomark _))
    (pss_one (ps_ret (pe_tup (pa_cons pe_str pa_nil))))
    pss_nil)
    (pss_cons (ps_for PassesOwn.never rfl (pi_enum (by rfl) T.enumerate (pa_cons (pv 1) pa_nil)) (pg_tupF (n := 2) (by rfl) (pgs_cons (pg_name (i := 4) scFaultOfDays.nd rfl (Or.inl rfl)) (pgs_cons (pg_name (i := 3) scFaultOfDays.nd rfl (Or.inl rfl)) pgs_nil)))
    (pss_cons (ps_set (i := 5) scFaultOfDays.nd rfl (Or.inl rfl) (pcall T.fault_of_day hr (by decide) (by rfl) (pa_cons (pe_ix ix_tupF (pv 0) pe_int (fun _ _ => rfl)) (pa_cons (pv 4) (pa_cons (pv 3) pa_nil)))))
      (pss_one (ps_if (pt_cmpR op_notNF (pv 5) pe_non (nomark _))
      (pss_one (ps_ret (pv 5)))
      pss_nil))))
    (pss_one (ps_ret pe_non)))))), ?_⟩
  obtain ⟨ps, el, pr⟩ := id DA.ex
  have lps := Pd.len pr
  have lD := DA.len
  have m40 := DA.m40
  have lf := flat_len D DA.each
  have l4 := Nat.mul_le_mul_right 50 lD
  walk_at "rd"
  refine ⟨Nat.le_of_ble_eq_true rfl, ?_⟩
  intro q hq
  obtain ⟨H1, s1, e1, eq_q⟩ : ∃ Hx, Same _ Hx ∧ Hx q = some _ ∧ upd _ q _ = Hx := ⟨_, Same.new hq _, upd_same, rfl⟩
  rw [eq_q]; clear eq_q
  walk_at "rd"
  refine ⟨l, rfl, ⟨_, SqL.of (s1 _ _ el)⟩, ?_⟩
  refine for_list (xs := ps.map V.ref) (fun i σ H' => ∃ v3, σ = [some (.ref p), some (.ref l), some (.ref q), v3, none, none] ∧ Same H H' ∧ Blks H' q (D.take i).flatten) ?_ ?_ ?_ ?_
  · exact ⟨_, rfl, s1, ⟨[], e1, TupsAt.nil _⟩⟩
  · rintro i σ H2 _ ⟨_, _, s2, _⟩
    exact SqL.of (s2 _ _ el)
  · rintro i y σ H2 hy ⟨v2, rfl, s2, xs, ex, tx⟩
    obtain ⟨p, rfl, hp⟩ := nth_refs hy
    obtain ⟨d, hd, Bd⟩ := Pd.get pr hp
    obtain ⟨ys, ey, ty⟩ := Bd.same s2
    have l1 := DA.each d (List.mem_of_getElem? hd)
    have l2 := flat_len (D.take i) fun x hx => DA.each x (List.mem_of_mem_take hx)
    have l3 : (D.take i).length ≤ 12 := by rw [List.length_take]; omega
    have l4 := Nat.mul_le_mul_right 50 l3
    have tx1 := tx.1
    have ty1 := ty.1
    walk_at "rd"
    refine ⟨.inl ⟨rfl, _, SqL.of ex⟩, ?_⟩
    walk_at "rd"
    refine r_extend ex ey (by rw [List.length_map, List.length_map]; show _ ≤ 16777216; omega) ?_
    refine ⟨_, rfl, s2.late hq _, ⟨xs ++ ys, by rw [upd_same, List.map_append], ?_⟩⟩
    rw [take_snoc hd, List.flatten_append, List.flatten_singleton]
    exact (tx.append ty).late ex _
  rintro σ H2 ⟨v3, rfl, s2, B2⟩
  rw [List.length_map, lps, List.take_length] at B2
  have ep2 := s2 _ _ ep
  walk_at "rd"
  refine ⟨q, D.flatten, rfl, B2, by omega, fun cs q3 H3 pm3 srt3 hq3 s3 B3 => ?_⟩
  have ep3 := s3 _ _ ep2
  walk_at "rd"
  refine ⟨a, bs, rfl, B.same (s2.trans s3), by omega, fun ds q4 H4 pm4 srt4 hq4 s4 B4 => ?_⟩
  walk_at "rd"
  refine r_neBlks (B3.same s4) B4 ?_
  have s24 := s2.trans (s3.trans s4)
  by_cases c : D.flatten.Perm bs
  rotate_left
  · rw [decide_eq_false (show ¬ cs = ds from fun z => c (pm3.symm.trans (z ▸ pm4)))]
    walk_at "rd"
    refine ⟨Nat.le_of_ble_eq_true rfl, ?_⟩
    intro p5 hp5
    obtain ⟨H5, s5, e5, eq_p5⟩ : ∃ Hx, Same _ Hx ∧ Hx p5 = some _ ∧ upd _ p5 _ = Hx := ⟨_, Same.new hp5 _, upd_same, rfl⟩
    rw [eq_p5]; clear eq_p5
    exact kk _ .blocks _ (s24.trans s5) ⟨p5, rfl, e5⟩ (.other c)
  rw [decide_eq_true (sortB_unique (pm3.trans (c.trans pm4.symm)) srt3 srt4)]
  walk_at "rd"
  refine ⟨l, _, rfl, SqL.of (s24 _ _ el), ?_⟩
  refine for_enum (xs := ps.map V.ref) (fun i σ H' => ∃ v3 v4 v5, σ = [some (.ref p), some (.ref l), some (.ref q), v3, v4, v5] ∧ Same H H' ∧ ∀ k < i, ∀ d, D[k]? = some d → DayF m k d .none) ?_ ?_ ?_ ?_
  · exact ⟨_, _, _, rfl, s24, fun k hk => by omega⟩
  · rintro i σ H5 _ ⟨_, _, _, _, s5, _⟩
    exact s5 _ _ el
  · rintro i y σ H5 T1 hy ⟨v3, v4, v5, rfl, s5, on⟩ hT1
    obtain ⟨pd, rfl, hp⟩ := nth_refs hy
    obtain ⟨d, hd, Bd⟩ := Pd.get pr hp
    obtain ⟨H6, s6, eT, eq6⟩ : ∃ Hx, Same H5 Hx ∧ Hx T1 = some (.tup [.int (i : Nat), .ref pd]) ∧ upd H5 T1 (.tup [.int (i : Nat), .ref pd]) = Hx := ⟨_, Same.new hT1 _, upd_same, rfl⟩
    rw [eq6]; clear eq6
    have s56 := s5.trans s6
    have ep6 := s56 _ _ ep
    have dm := List.mem_of_getElem? hd
    walk_at "rd"
    refine ⟨pd, m, i, d, rfl, Bd.same s56, by have := DA.each d dm; omega, DA.rb d dm, by omega, fun v f H7 s7 fa df => ?_⟩
    have s57 := s56.trans s7
    cases f with
    | none =>
      have fa : v = .non := fa
      subst fa
      walk_at "rd"
      refine ⟨_, _, _, rfl, s57, fun k hk d' hd' => ?_⟩
      by_cases z : k = i
      · subst z
        rw [hd] at hd'
        cases hd'
        exact df
      · exact on k (by omega) d' hd'
    | blocks => cases df
    | «at» tw n t =>
      obtain ⟨p5, rfl, e5⟩ := id fa
      walk_at "rd"
      exact kk _ _ _ s57 fa (.same c (.bad hd on df (fun z => by cases z)))
  · rintro σ H5 ⟨v3, v4, v5, rfl, s5, on⟩
    rw [List.length_map, lps] at on
    walk_at "rd"
    exact kk _ .none _ s5 rfl (.same c (.good fun n d hd => on n (List.getElem?_eq_some_iff.mp hd).1 d hd))
structure TxDueDays (P : Program) (w : World) (K : PySem.W.Frag) (mg : Str → Option Value) (base : Heap) : Prop where
  sorted : mg "sorted" = none
  enumerate : mg "enumerate" = none
  range : mg "range" = none
  len : mg "len" = none
  int : mg "int" = none
  _law_joined : Has P w K mg base 1 "_law_joined" ["_law_days"] spJoined
abbrev sDue : Stmt := top 12
theorem scDue : FnScope ["_law_many", "_law_blocks", "_law_days", "_law_number", "_law_day", "_law_thing", "_law_times", "_law_block"] ["_law_many", "_law_blocks", "_law_days"] (defScope sDue) := ⟨rfl, rfl, rfl, by decide +kernel, rfl, by decide +kernel, by decide +kernel⟩
set_option maxHeartbeats 2000000 in
theorem has_duedays (F : FunAt K mg "_law_due" sDue ["_law_many", "_law_blocks", "_law_days"]) (T : TxDueDays P w K mg base) : Has P w K mg base 2 "_law_due" ["_law_many", "_law_blocks", "_law_days"] spDueDays := by
  refine F.has scDue (fun vs H Q E h => ?_) (fun f cdv A outer s H vs Q E hr h => ?_)
  · obtain ⟨a, l, m, bs, D, rfl, _⟩ := h
    rfl
  obtain ⟨a, l, m, bs, D, rfl, B, lb, DA, kk⟩ := h
  refine ⟨_, (pss_cons (ps_if (pt_cmpR (op_neD hr.units) (pe_callB (k_sortN hr.units) (by rfl) T.sorted (by decide +kernel) (pa_cons (pv 1) pa_nil)) (pe_callB (k_sortN hr.units) (by rfl) T.sorted (by decide +kernel) (pa_cons (pcall T._law_joined hr (by decide) (by rfl) (pa_cons (pv 2) pa_nil)) pa_nil)) (nomark _))
    (pss_one (ps_ret (pe_tup (pa_cons pe_str pa_nil))))
    pss_nil)
    (pss_cons (ps_for PassesOwn.never rfl (pi_enum (by rfl) T.enumerate (pa_cons (pv 2) pa_nil)) (pg_tupF (n := 2) (by rfl) (pgs_cons (pg_name (i := 3) scDue.nd rfl (Or.inl rfl)) (pgs_cons (pg_name (i := 4) scDue.nd rfl (Or.inl rfl)) pgs_nil)))
    (pss_one (ps_for PassesOwn.never rfl (pi_range1 (by rfl) T.range (pa_cons (pv 0) pa_nil)) (pg_name (i := 5) scDue.nd rfl (Or.inr rfl))
      (pss_cons (ps_set (i := 6) scDue.nd rfl (Or.inl rfl) (pe_callB k_len (by rfl) T.len (by decide +kernel) (pa_cons (pe_lc (own := [("_law_block", 7)]) (g := gName 7) (by rfl) scDue.nd (pi_list (pv 4)) (blkOk_by (own := [("_law_block", 7)]) (N := ["_law_many", "_law_blocks", "_law_days", "_law_number", "_law_day", "_law_thing", "_law_times", "_law_block"]) (sc := defScope sDue) (by decide +kernel)) (fun _ _ _ _ _ => (pg_name (i := 7) scDue.nd rfl (Or.inl rfl))) (fun _ _ _ _ _ => pts_one (pt_cmpR op_inF (pv 5) (pv 7) rfl)) (fun _ _ _ _ _ => by exact (pv 7))) pa_nil)))
        (pss_one (ps_if (pt_cmpR op_ne (pv 6) pe_int (nomark _))
        (pss_one (ps_ret (pe_tup (pa_cons (pe_ix ix_listF (pe_lst (pa_cons pe_str (pa_cons pe_str pa_nil))) (pe_callTy k_int (by rfl) T.int (by decide +kernel) (pa_cons (pe_cmpR op_gt (pv 6) pe_int (nomark _)) pa_nil)) (fun _ _ => rfl)) (pa_cons (pv 3) (pa_cons (pv 5) pa_nil))))))
        pss_nil))))))
    (pss_one (ps_ret pe_non)))), ?_⟩
  obtain ⟨ps, el, pr⟩ := id DA.ex
  have lps := Pd.len pr
  have lD := DA.len
  have m40 := DA.m40
  have lf := flat_len D DA.each
  have l4 := Nat.mul_le_mul_right 50 lD
  walk_at "rd"
  refine ⟨a, bs, rfl, B, by omega, fun ds q4 H1 pm4 srt4 hq4 s1 B4 => ?_⟩
  walk_at "rd"
  refine ⟨l, m, D, rfl, DA.same s1, fun q H2 hq s2 B2 => ?_⟩
  walk_at "rd"
  refine ⟨q, D.flatten, rfl, B2, by omega, fun cs q3 H3 pm3 srt3 hq3 s3 B3 => ?_⟩
  walk_at "rd"
  refine r_neBlks (B4.same (s2.trans s3)) B3 ?_
  have s24 := s1.trans (s2.trans s3)
  by_cases c : D.flatten.Perm bs
  rotate_left
  · rw [decide_eq_false (show ¬ ds = cs from fun z => c (pm3.symm.trans (z ▸ pm4)))]
    walk_at "rd"
    refine ⟨Nat.le_of_ble_eq_true rfl, ?_⟩
    intro p5 hp5
    obtain ⟨H5, s5, e5, eq_p5⟩ : ∃ Hx, Same _ Hx ∧ Hx p5 = some _ ∧ upd _ p5 _ = Hx := ⟨_, Same.new hp5 _, upd_same, rfl⟩
    rw [eq_p5]; clear eq_p5
    exact kk _ .blocks _ (s24.trans s5) ⟨p5, rfl, e5⟩ (.other c)
  rw [decide_eq_true (sortB_unique (pm4.trans (c.symm.trans pm3.symm)) srt4 srt3)]
  walk_at "rd"
  refine ⟨l, _, rfl, SqL.of (s24 _ _ el), ?_⟩
  refine for_enum (xs := ps.map V.ref) (fun i σ H' => ∃ v3 v4 v5 v6 v7, σ = [some (.int (m : Nat)), some (.ref a), some (.ref l), v3, v4, v5, v6, v7] ∧ Same H H' ∧ ∀ k < i, ∀ d, D[k]? = some d → DayF m k d .none) ?_ ?_ ?_ ?_
  · exact ⟨_, _, _, _, _, rfl, s24, fun k hk => by omega⟩
  · rintro i σ H5 _ ⟨_, _, _, _, _, _, s5, _⟩
    exact s5 _ _ el
  · rintro i y σ H5 T1 hy ⟨v3, v4, v5, v6, v7, rfl, s5, on⟩ hT1
    obtain ⟨pd, rfl, hp⟩ := nth_refs hy
    obtain ⟨d, hd, Bd⟩ := Pd.get pr hp
    obtain ⟨H6, s6, eT, eq6⟩ : ∃ Hx, Same H5 Hx ∧ Hx T1 = some (.tup [.int (i : Nat), .ref pd]) ∧ upd H5 T1 (.tup [.int (i : Nat), .ref pd]) = Hx := ⟨_, Same.new hT1 _, upd_same, rfl⟩
    rw [eq6]; clear eq6
    have s56 := s5.trans s6
    have dm := List.mem_of_getElem? hd
    have ld := DA.each d dm
    walk_at "rd"
    refine ⟨(m : Int), rfl, by omega, by omega, ?_⟩
    rw [show ((m : Int)).toNat = m by omega]
    refine for_range (n := m) (fun t σ H' => ∃ v5 v6 v7, σ = [some (.int (m : Nat)), some (.ref a), some (.ref l), some (.int (i : Nat)), some (.ref pd), v5, v6, v7] ∧ Same H H' ∧ ∀ u < t, d.flatten.count ((u : Nat) : Int) = 1) ?_ ?_ ?_
    · exact ⟨_, _, _, rfl, s56, fun u hu => by omega⟩
    · rintro t σ H7 ht ⟨v5, v6, v7, rfl, s7, on2⟩
      rw [show (0 + (t : Int)) = (t : Int) by omega]
      walk_at "rd"
      have Bd7 := Bd.same s7
      obtain ⟨qs, eqs, tqs⟩ := id Bd7
      have cf := cnt_flat (x := (t : Int)) d fun b hb => (DA.rb d dm b hb).1
      refine ⟨pd, rfl, ⟨_, SqL.of eqs⟩, ?_⟩
      refine fun D1 hD1 => lcm_blks hD1 eTup (fun b => if b.contains (t : Int) then [b] else []) (fun b => by by_cases z : b.contains (t : Int) = true; rw [if_pos z]; exact Nat.le_refl 1; rw [if_neg z]; exact Nat.zero_le 1) (by omega) Bd7 (fun j b pb H8 Qe Qn hb ep s8 hacc ke kn => ?_) (fun H8 ws s8 eD pr8 => ?_)
      · refine r_name ⟨rfl, ?_⟩
        walk_at "rd"
        refine r_inF (sqAt_tup ep) rfl (flat_ints _) ?_
        rw [if_neg (by decide), inV_int]
        by_cases z : b.contains (t : Int) = true
        · rw [z]
          walk_at "rd"
          exact ke _ _ b (Same.refl _) (if_pos z) ⟨pb, rfl, (fun y => by subst y; obtain ⟨_, ea⟩ := hacc; rw [ep] at ea; cases ea), ep⟩
        · rw [Bool.eq_false_iff.mpr z]
          walk_at "rd"
          exact kn _ (Same.refl _) (if_neg z)
      · have lw : ws.length = d.flatten.count (t : Int) := by rw [Pd.len pr8]; exact cf
        walk_at "rd"
        rw [lw]
        have s58 := s7.trans s8
        by_cases c1 : d.flatten.count (t : Int) = 1
        · rw [decide_eq_true (show ((d.flatten.count (t : Int) : Nat) : Int) = 1 by omega)]
          walk_at "rd"
          refine ⟨_, _, _, rfl, s58, fun u hu => ?_⟩
          by_cases z : u = t
          · subst z; exact c1
          · exact on2 u (by omega)
        · rw [decide_eq_false (show ¬ ((d.flatten.count (t : Int) : Nat) : Int) = 1 by omega)]
          walk_at "rd"
          refine ⟨Nat.le_of_ble_eq_true rfl, ?_⟩
          intro l9 hl9
          obtain ⟨H9, s9, e9, eq_l9⟩ : ∃ Hx, Same _ Hx ∧ Hx l9 = some _ ∧ upd _ l9 _ = Hx := ⟨_, Same.new hl9 _, upd_same, rfl⟩
          rw [eq_l9]; clear eq_l9
          walk_at "rd"
          rename_i z hz z0 z1
          by_cases c2 : 1 < d.flatten.count (t : Int)
          · have e1 : z = 1 := by rw [hz, if_pos (decide_eq_true (by omega))]
            rw [e1]
            refine r_ixL e9 (v := .str "twice") rfl ?_
            walk_at "rd"
            refine ⟨Nat.le_of_ble_eq_true rfl, ?_⟩
            intro p10 hp10
            obtain ⟨H10, s10, e10, eq_p10⟩ : ∃ Hx, Same _ Hx ∧ Hx p10 = some _ ∧ upd _ p10 _ = Hx := ⟨_, Same.new hp10 _, upd_same, rfl⟩
            rw [eq_p10]; clear eq_p10
            refine kk _ (.at (decide (1 < d.flatten.count ((t : Nat) : Int))) i t) _ (s58.trans (s9.trans s10)) ⟨p10, rfl, ?_⟩ (.same c (.bad hd on (.bad ht on2 c1) (fun y => by cases y)))
            rw [e10, decide_eq_true c2]
            rfl
          · have e1 : z = 0 := by rw [hz, if_neg (by rw [decide_eq_false (by omega)]; decide)]
            rw [e1]
            refine r_ixL e9 (v := .str "left") rfl ?_
            walk_at "rd"
            refine ⟨Nat.le_of_ble_eq_true rfl, ?_⟩
            intro p10 hp10
            obtain ⟨H10, s10, e10, eq_p10⟩ : ∃ Hx, Same _ Hx ∧ Hx p10 = some _ ∧ upd _ p10 _ = Hx := ⟨_, Same.new hp10 _, upd_same, rfl⟩
            rw [eq_p10]; clear eq_p10
            refine kk _ (.at (decide (1 < d.flatten.count ((t : Nat) : Int))) i t) _ (s58.trans (s9.trans s10)) ⟨p10, rfl, ?_⟩ (.same c (.bad hd on (.bad ht on2 c1) (fun y => by cases y)))
            rw [e10, decide_eq_false c2]
            rfl
    · rintro σ H7 ⟨v5, v6, v7, rfl, s7, on2⟩
      refine ⟨_, _, _, _, _, rfl, s7, fun k hk d' hd' => ?_⟩
      by_cases z : k = i
      · subst z
        rw [hd] at hd'
        cases hd'
        exact .good on2
      · exact on k (by omega) d' hd'
  · rintro σ H5 ⟨v3, v4, v5, v6, v7, rfl, s5, on⟩
    rw [List.length_map, lps] at on
    walk_at "rd"
    exact kk _ .none _ s5 rfl (.same c (.good fun n d hd => on n (List.getElem?_eq_some_iff.mp hd).1 d hd))
structure TxSameF (mg : Str → Option Value) : Prop where
  isinstance : mg "isinstance" = none
  tuple : mg "tuple" = none
  int : mg "int" = none
  bool : mg "bool" = none
  all : mg "all" = none
abbrev sSame : Stmt := top 13
theorem scSame : FnScope ["_law_found", "_law_due_here", "_law_one"] ["_law_found", "_law_due_here"] (defScope sSame) := ⟨rfl, rfl, rfl, by decide +kernel, rfl, by decide +kernel, by decide +kernel⟩
set_option maxHeartbeats 2000000 in
theorem has_sameF (F : FunAt K mg "_law_same" sSame ["_law_found", "_law_due_here"]) (T : TxSameF mg) : Has P w K mg base 1 "_law_same" ["_law_found", "_law_due_here"] spSameF := by
  refine F.has scSame (fun vs H Q E h => ?_) (fun f cdv A outer s H vs Q E hr h => ?_)
  · obtain ⟨u, v, f, rfl, _⟩ := h
    rfl
  obtain ⟨u, v, ft, rfl, hu, hv, kk⟩ := h
  refine ⟨_, (pss_cons (ps_if (PW.pt (pw_or (pt_cmpR op_isNF (pv 1) pe_non (nomark _)) (pw_or (pt_not (pt_val (pe_callB (k_isiRK K rfl "tuple") (by rfl) T.isinstance (by decide +kernel) (pa_cons (pv 0) (pa_cons (pe_bltn (v := .ty "tuple") (by rfl) T.tuple (by decide +kernel) rfl) pa_nil))))) (pw_or1 (pt_cmpR (op_neD hr.units) (pv 0) (pv 1) (nomark _))))))
    (pss_one (ps_ret (pe_and (pe_cmpR op_isNF (pv 1) pe_non (nomark _)) (pe_one (pe_cmpR op_isNF (pv 0) pe_non (nomark _))))))
    pss_nil)
    (pss_one (ps_ret (pe_callB (k_all rfl) (by rfl) T.all (by decide +kernel) (pa_cons (pe_lc (own := [("_law_one", 2)]) (g := gName 2) (by rfl) scSame.nd (pi_tup (pe_slice sl_tup (pv 0) (po_some pe_int) po_none)) (blkOk_by (own := [("_law_one", 2)]) (N := ["_law_found", "_law_due_here", "_law_one"]) (sc := defScope sSame) (by decide +kernel)) (fun _ _ _ _ _ => (pg_name (i := 2) scSame.nd rfl (Or.inl rfl))) (fun _ _ _ _ _ => pts_nil) (fun _ _ _ _ _ => by exact (pe_and (pe_callB (k_isiK K rfl "int") (by rfl) T.isinstance (by decide +kernel) (pa_cons (pv 2) (pa_cons (pe_bltn (v := .ty "int") (by rfl) T.int (by decide +kernel) rfl) pa_nil))) (pe_one (pe_not (pe_callB (k_isiK K rfl "bool") (by rfl) T.isinstance (by decide +kernel) (pa_cons (pv 2) (pa_cons (pe_bltn (v := .ty "bool") (by rfl) T.bool (by decide +kernel) rfl) pa_nil)))))))) pa_nil))))), ?_⟩
  have key : (ft = .none) ∨ ∃ (p q : Addr) (s : Str) (ns : List Int), u = .ref p ∧ v = .ref q ∧ PyData.canLay0 (.str s) = true ∧ ns.length ≤ 2 ∧ H p = some (.tup (.str s :: ns.map V.int)) ∧ H q = some (.tup (.str s :: ns.map V.int)) := by
    cases ft with
    | none => exact .inl rfl
    | blocks =>
      obtain ⟨p, rfl, ep⟩ := hu
      obtain ⟨q, rfl, eq⟩ := hv
      exact .inr ⟨p, q, "blocks", [], rfl, rfl, by decide +kernel, Nat.zero_le _, ep, eq⟩
    | «at» tw n t =>
      obtain ⟨p, rfl, ep⟩ := hu
      obtain ⟨q, rfl, eq⟩ := hv
      exact .inr ⟨p, q, kindS tw, [(n : Int), (t : Int)], rfl, rfl, by cases tw <;> decide +kernel, Nat.le_refl _, ep, eq⟩
  rcases key with rfl | ⟨p, q, s, ns, rfl, rfl, cl, ln, ep, eq⟩
  · obtain rfl : u = .non := hu
    obtain rfl : v = .non := hv
    walk_at "rd"
    exact kk _ (Same.refl _)
  · walk_at "rd"
    refine r_neWord cl ep eq ?_
    walk_at "rd"
    refine r_slT1 ep fun p1 hp1 => ?_
    obtain ⟨H1, s1, e1, eq1⟩ : ∃ Hx, Same H Hx ∧ Hx p1 = some (.tup (ns.map V.int)) ∧ upd H p1 (.tup (ns.map V.int)) = Hx := ⟨_, Same.new hp1 _, upd_same, rfl⟩
    rw [eq1]; clear eq1
    walk_at "rd"
    refine ⟨p1, rfl, ⟨_, SqT.of e1⟩, ?_⟩
    refine fun D hD => lcm_tup hD eBl (f := V.int) (l := ns) (fun _ => [true]) (fun _ => len_one _) (by omega) (fun H2 s2 => SqT.of (s2 _ _ e1)) (fun i x H2 Qe Qn hx s2 hacc ke kn => ?_) (fun H2 ws s2 e2 pr => ?_)
    · refine r_name ⟨rfl, ?_⟩
      walk_at "rd"
      exact ke _ _ true (Same.refl _) rfl rfl
    · have ew := Pd.bls pr
      subst ew
      walk_at "rd"
      refine r_all e2 ?_
      rw [List.all_eq_true.mpr (fun b hb => by obtain ⟨x, _, hx⟩ := List.mem_flatMap.mp hb; rw [List.mem_singleton.mp hx]; rfl)]
      exact kk _ (s1.trans s2)
end
end My
set_option Elab.async false
set_option linter.all false
set_option maxRecDepth 100000
namespace My
open PySem PySem.Spec L2
local macro_rules | `(tactic| walk_at "rd1") => `(tactic| first
  | with_reducible refine r_seq ?_ | with_reducible refine r_asg ?_ | with_reducible refine r_name ?_ | with_reducible refine r_ret ?_ | with_reducible refine r_drop ?_ | with_reducible refine r_ifs ?_ | with_reducible refine r_next ?_
  | with_reducible refine r_var rfl ?_ | with_reducible refine r_c ?_ | with_reducible refine r_op ?_ | with_reducible refine r_I0 ?_
  | with_reducible refine r_test ?_ | with_reducible refine r_b ?_ | with_reducible refine r_k ?_ | with_reducible refine r_cons ?_ | with_reducible refine r_nil ?_ | with_reducible refine r_call ?_ | with_reducible refine r_cb ?_
  | with_reducible refine r_lst ?_ | with_reducible refine r_tup ?_ | with_reducible refine r_sub ?_ | with_reducible refine r_andV ?_ | with_reducible refine r_orV ?_ | with_reducible refine r_notV ?_
  | with_reducible refine r_and ?_ | with_reducible refine r_or ?_ | with_reducible refine r_not ?_ | with_reducible refine r_eqI ?_ | with_reducible refine r_neI ?_ | with_reducible refine r_aug rfl ?_ | with_reducible refine r_ipI ?_ | with_reducible refine r_un ?_
  | with_reducible refine r_bm ?_ | with_reducible refine r_bm0 ?_ | with_reducible refine r_yes ?_
  | with_reducible refine r_dnewT ?_ | with_reducible refine r_dget2 ?_ 
  | with_reducible refine r_U ?_ | with_reducible refine r_lit ?_
  | with_reducible refine r_fb ?_ | with_reducible refine r_m1 ?_ | with_reducible refine r_augS ?_ | with_reducible refine r_isNn ?_ | with_reducible refine r_notNn ?_ | with_reducible refine r_isNr ?_ | with_reducible refine r_notNr ?_ | with_reducible refine r_tru ?_ | with_reducible refine r_count ?_
  | with_reducible refine r_for ?_ | with_reducible refine r_dc ?_ | with_reducible refine r_lc ?_ | with_reducible refine r_sc ?_ | with_reducible refine r_zipN ?_ | with_reducible refine r_ifX ?_ | with_reducible refine r_zip3 ?_ | with_reducible refine r_rng1 ?_ | with_reducible refine r_rng2 ?_ | with_reducible refine r_ilist ?_ | with_reducible refine r_itup ?_ | with_reducible refine r_enum ?_
  | with_reducible refine r_sl ?_ | with_reducible refine r_nopart ?_ | with_reducible refine r_part ?_ | with_reducible refine r_int ?_ | with_reducible refine r_gcons ?_ | with_reducible refine r_gnil ?_ | with_reducible refine r_revT ?_
  | with_reducible refine r_intB (fun z hz z0 z1 => ?_) | with_reducible refine r_intI ?_ | with_reducible refine r_min2 ?_ | with_reducible refine r_max2 ?_ | with_reducible refine r_rng1V ?_ | with_reducible refine r_rng2V ?_
  | with_reducible refine r_dget ?_ | with_reducible refine r_disp ?_ | with_reducible refine r_pcons ?_ | with_reducible refine r_pnil ?_ | with_reducible refine r_enumT ?_ | with_reducible refine r_zip ?_ | with_reducible refine r_abs (fun z hz z0 => ?_)
  | with_reducible refine r_try ?_ | with_reducible refine r_try0 ?_ | with_reducible refine r_dropX ?_ | with_reducible refine r_setX ?_ | with_reducible refine r_callX ?_ | with_reducible refine r_methX ?_ | with_reducible refine r_raise ?_
  | with_reducible refine r_zipI ?_ | with_reducible refine r_zipT ?_ | with_reducible refine r_sfld ?_ | with_reducible refine r_fld ?_ | with_reducible refine r_meth ?_ | with_reducible refine r_make ?_ | with_reducible refine r_notC ?_ | with_reducible refine r_revS ?_ | with_reducible refine r_rev ?_ | with_reducible refine r_dputK ?_ | with_reducible refine r_chain4 ?_ | with_reducible refine r_chain3 ?_ | with_reducible refine r_chain ?_ | with_reducible refine r_din ?_ | with_reducible refine r_dnotin ?_ | with_reducible refine r_ifE ?_
  | ((with_reducible show cIsiR _ _ _ _ _); first | with_reducible refine r_itT (by first | assumption | exact upd_same) ?_ | with_reducible refine r_itL (by first | assumption | exact upd_same) ?_)
  | ((with_reducible show kDGet _ _ _ _); with_reducible refine pot_g (by first | assumption | exact upd_same) ?_) | ((with_reducible show kDGet _ _ _ _); with_reducible refine pot_s (by first | assumption | exact upd_same) ?_) | ((with_reducible show kDGet _ _ _ _); with_reducible refine pot_t (by first | assumption | exact upd_same) ?_)
  | ((with_reducible show kDPut _ _ _ _ _); with_reducible refine pot_pg (by first | assumption | exact upd_same) ?_) | ((with_reducible show kDPut _ _ _ _ _); with_reducible refine pot_pt (by first | assumption | exact upd_same) ?_)
  | with_reducible refine iteT ?_ | with_reducible refine iteF ?_ | with_reducible refine r_nf ?_ | with_reducible refine r_nt ?_
  | with_reducible refine r_ii ?_ | with_reducible refine r_ib ?_
  | ((with_reducible show rIxLF _ _ _ _); with_reducible refine r_ixL (by first | assumption | exact upd_same) rfl ?_)
  | ((with_reducible show rIxTF _ _ _ _); with_reducible refine r_ixT (by first | assumption | exact upd_same) rfl ?_)
  | ((with_reducible show rSetL _ _ _ _ _); with_reducible refine r_setL (by first | assumption | exact upd_same) rfl ?_)
  | ((with_reducible show cLen _ _ _); with_reducible refine r_len (by first | exact sqAt_lst (by assumption) | exact sqAt_tup (by assumption) | exact sqAt_lst upd_same | exact sqAt_tup upd_same) ?_)
  | ((with_reducible show rSlLF _ _ _ _ _); with_reducible refine r_slL (by first | assumption | exact upd_same) ?_)
  | ((with_reducible show gTupF _ _ _ _ _ _); with_reducible refine r_gtup (by first | assumption | exact upd_same) rfl ?_)
  | ((with_reducible show rI _ _ _ _ _ _); first | with_reducible refine r_mod (by omega) ?_ | with_reducible refine r_div (by omega) (by omega) ?_ | with_reducible refine r_mulL (by omega) (by omega) ?_ | with_reducible refine r_mulR (by omega) (by omega) ?_ | with_reducible refine r_pow (by omega) (by omega) (by decide) ?_))
local macro_rules | `(tactic| walk_at "rd") => `(tactic| repeat (first | walk_at "rd1" | (dsimp only; walk_at "rd1")))
theorem PotAt.mono {n n' : Nat} {H : Hp} {q : Addr} (h : PotAt n H q) (l : n ≤ n') : PotAt n' H q := by
  obtain ⟨g, s, t, e, ok⟩ := h
  exact ⟨g, s, t, e, ok.g0, ok.s0, ok.t0, by have := ok.t1; omega⟩
theorem PotAt.keep {n : Nat} {H H' : Hp} {q : Addr} (h : PotAt n H q) (k : ∀ g s t, H q = some (potO g s t) → H' q = some (potO g s t)) : PotAt n H' q := by
  obtain ⟨g, s, t, e, ok⟩ := h
  exact ⟨g, s, t, k _ _ _ e, ok⟩
theorem PotAt.no_lst {n : Nat} {H : Hp} {q : Addr} {xs : List V} (h : PotAt n H q) (e : H q = some (.lst xs)) : False := by
  obtain ⟨g, s, t, e', ok⟩ := h
  rw [e] at e'
  cases e'
theorem PotAt.no_tup {n : Nat} {H : Hp} {q : Addr} {xs : List V} (h : PotAt n H q) (e : H q = some (.tup xs)) : False := by
  obtain ⟨g, s, t, e', ok⟩ := h
  rw [e] at e'
  cases e'
def TupT (m : Nat) (H : Hp) (x : Addr) : Prop := ∃ b : List Int, H x = some (.tup (b.map V.int)) ∧ Rise2 m b
theorem TupT.same {m : Nat} {H H' : Hp} {x : Addr} (h : TupT m H x) (s : Same H H') : TupT m H' x := let ⟨b, e, r⟩ := h; ⟨b, s _ _ e, r⟩
theorem TupT.upd {m : Nat} {H : Hp} {x a : Addr} {xs : List V} {o : HO} (h : TupT m H x) (e : H a = some (.lst xs)) : TupT m (upd H a o) x := by
  obtain ⟨b, eb, r⟩ := h
  exact ⟨b, by rw [upd_ne (fun z => by subst z; rw [e] at eb; cases eb)]; exact eb, r⟩
theorem TupT.draw {m n : Nat} {H H' : Hp} {x q : Addr} (h : TupT m H x) (p : PotAt n H q) (s : Sam1 q H H') : TupT m H' x := by
  obtain ⟨b, eb, r⟩ := h
  exact ⟨b, s _ _ eb (fun z => by subst z; exact p.no_tup eb), r⟩
def DayT (H0 : Hp) (m c : Nat) (H : Hp) (d : Addr) : Prop := H0 d = none ∧ ∃ qs : List Addr, H d = some (.lst (qs.map V.ref)) ∧ qs.length ≤ c ∧ ∀ x ∈ qs, TupT m H x
theorem DayT.same {H0 : Hp} {m c : Nat} {H H' : Hp} {d : Addr} (h : DayT H0 m c H d) (s : Same H H') : DayT H0 m c H' d := let ⟨a, qs, e, l, t⟩ := h; ⟨a, qs, s _ _ e, l, fun x hx => (t x hx).same s⟩
theorem DayT.ge {H0 : Hp} {m c c' : Nat} {H : Hp} {d : Addr} (h : DayT H0 m c H d) (l : c ≤ c') : DayT H0 m c' H d := let ⟨a, qs, e, k, t⟩ := h; ⟨a, qs, e, Nat.le_trans k l, t⟩
structure DSt (H0 : Hp) (q l : Addr) (m n c e : Nat) (H : Hp) : Prop where
  same : Same H0 H
  q0 : H0 q = none
  pot : PotAt n H q
  l0 : H0 l = none
  ex : ∃ ps : List Addr, H l = some (.lst (ps.map V.ref)) ∧ ps.length ≤ e ∧ ∀ p ∈ ps, p ≠ l ∧ DayT H0 m c H p
theorem DSt.mono {H0 H : Hp} {q l : Addr} {m n c e n' c' e' : Nat} (h : DSt H0 q l m n c e H) (a : n ≤ n') (b : c ≤ c') (d : e ≤ e') : DSt H0 q l m n' c' e' H := by
  obtain ⟨s, q0, po, l0, ps, el, lp, r⟩ := h
  exact ⟨s, q0, po.mono a, l0, ps, el, Nat.le_trans lp d, fun p hp => ⟨(r p hp).1, (r p hp).2.ge b⟩⟩
theorem DSt.grow {H0 H H' : Hp} {q l : Addr} {m n c e : Nat} (h : DSt H0 q l m n c e H) (s' : Same H H') : DSt H0 q l m n c e H' := by
  obtain ⟨s, q0, po, l0, ps, el, lp, r⟩ := h
  exact ⟨s.trans s', q0, po.keep fun _ _ _ e => s' _ _ e, l0, ps, s' _ _ el, lp, fun p hp => ⟨(r p hp).1, (r p hp).2.same s'⟩⟩
theorem DayT.draw {H0 : Hp} {m c n : Nat} {H H' : Hp} {d q : Addr} (h : DayT H0 m c H d) (p : PotAt n H q) (s : Sam1 q H H') : DayT H0 m c H' d := by
  obtain ⟨a, qs, e, l, t⟩ := h
  exact ⟨a, qs, s _ _ e (fun z => by subst z; exact p.no_lst e), l, fun x hx => (t x hx).draw p s⟩
theorem DSt.draw {H0 H H' : Hp} {q l : Addr} {m n n' c e : Nat} (h : DSt H0 q l m n c e H) (p' : PotAt n' H' q) (s' : Sam1 q H H') : DSt H0 q l m n' c e H' := by
  obtain ⟨s, q0, po, l0, ps, el, lp, r⟩ := h
  exact ⟨fun a o ea => s' _ _ (s a o ea) (fun z => by subst z; rw [q0] at ea; cases ea), q0, p', l0, ps, s' _ _ el (fun z => by subst z; exact po.no_lst el), lp, fun p hp => ⟨(r p hp).1, (r p hp).2.draw po s'⟩⟩
theorem DSt.setDay {H0 H : Hp} {q l p : Addr} {m n c c' e : Nat} {xs : List V} {qs : List Addr} (h : DSt H0 q l m n c e H) (hp : H0 p = none) (pl : p ≠ l) (ep : H p = some (.lst xs)) (lq : qs.length ≤ c') (cc : c ≤ c') (tq : ∀ x ∈ qs, TupT m H x) : DSt H0 q l m n c' e (upd H p (.lst (qs.map V.ref))) := by
  obtain ⟨s, q0, po, l0, ps, el, lp, r⟩ := h
  refine ⟨s.late hp _, q0, po.keep fun _ _ _ e => ?_, l0, ps, by rw [upd_ne pl.symm]; exact el, lp, fun u hu => ⟨(r u hu).1, ?_⟩⟩
  · rw [upd_ne (fun z => by subst z; exact po.no_lst ep)]; exact e
  · obtain ⟨a, us, eu, lu, tu⟩ := (r u hu).2
    by_cases z : u = p
    · subst z
      exact ⟨a, qs, upd_same, lq, fun x hx => (tq x hx).upd ep⟩
    · exact ⟨a, us, by rw [upd_ne z]; exact eu, Nat.le_trans lu cc, fun x hx => (tu x hx).upd ep⟩
theorem DSt.setDays {H0 H : Hp} {q l : Addr} {m n c e e' : Nat} {ps : List Addr} (h : DSt H0 q l m n c e H) (lp : ps.length ≤ e') (r : ∀ p ∈ ps, p ≠ l ∧ DayT H0 m c H p) : DSt H0 q l m n c e' (upd H l (.lst (ps.map V.ref))) := by
  obtain ⟨s, q0, po, l0, ps0, el, _, _⟩ := h
  refine ⟨s.late l0 _, q0, po.keep fun _ _ _ e => ?_, l0, ps, upd_same, lp, fun u hu => ⟨(r u hu).1, ?_⟩⟩
  · rw [upd_ne (fun z => by subst z; exact po.no_lst el)]; exact e
  · obtain ⟨a, us, eu, lu, tu⟩ := (r u hu).2
    exact ⟨a, us, by rw [upd_ne (r u hu).1]; exact eu, lu, fun x hx => (tu x hx).upd el⟩
theorem ref_inj : ∀ {ps qs : List Addr}, ps.map V.ref = qs.map V.ref → ps = qs
  | [], [], _ => rfl
  | [], _ :: _, h => by cases h
  | _ :: _, [], h => by cases h
  | a :: ps, b :: qs, h => by
    rw [List.map_cons, List.map_cons] at h
    injection h with h1 h2
    cases h1
    rw [ref_inj h2]
theorem DSt.day {H0 H : Hp} {q l p : Addr} {m n c e k : Nat} {ps : List Addr} (h : DSt H0 q l m n c e H) (el : H l = some (.lst (ps.map V.ref))) (hp : ps[k]? = some p) : p ≠ l ∧ DayT H0 m c H p := by
  obtain ⟨_, _, _, _, ps', el', _, r⟩ := h
  rw [el] at el'
  have := ref_inj (HO.lst.inj (Option.some.inj el'))
  subst this
  exact r p (List.mem_of_getElem? hp)
theorem tupT_all {m : Nat} {H : Hp} : ∀ qs : List Addr, (∀ x ∈ qs, TupT m H x) → ∃ bs, TupsAt H qs bs ∧ ∀ b ∈ bs, Rise2 m b
  | [], _ => ⟨[], TupsAt.nil _, fun b hb => by cases hb⟩
  | x :: qs, h => by
    obtain ⟨bs, tb, rb⟩ := tupT_all qs fun y hy => h y (List.mem_cons_of_mem _ hy)
    obtain ⟨b, eb, r⟩ := h x List.mem_cons_self
    refine ⟨b :: bs, (TupsAt.snoc (TupsAt.nil H) eb).append tb, fun y hy => ?_⟩
    rcases List.mem_cons.mp hy with rfl | hy
    · exact r
    · exact rb y hy
theorem r_eqE {K : PySem.W.Frag} {H : Hp} {Q : VK} {a b : Addr} {m : Nat} {qs : List Addr} (ha : H a = some (.lst (qs.map V.ref))) (t : ∀ x ∈ qs, TupT m H x) (hb : H b = some (.lst [])) (h : Q (.bl (decide (qs = []))) H) : rEqD K (.ref a) (.ref b) H Q := by
  obtain ⟨bs, tb, _⟩ := tupT_all qs t
  have B1 : Blks H a bs := ⟨qs, ha, tb⟩
  have B2 : Blks H b [] := ⟨[], hb, TupsAt.nil _⟩
  have l := tb.1
  have e : decide (qs = []) = decide (bs = []) := by
    cases qs <;> cases bs <;> simp at l <;> simp
  rw [e] at h
  exact ⟨_, _, dp_blks B1, dp_blks B2, sh_blks _, sh_blks _, by show Q (.bl (PyData.eqvAll _ _)) H; rw [eqvA_blks]; exact h⟩
theorem r_neE {K : PySem.W.Frag} {H : Hp} {Q : VK} {a b : Addr} {m : Nat} {qs : List Addr} (ha : H a = some (.lst (qs.map V.ref))) (t : ∀ x ∈ qs, TupT m H x) (hb : H b = some (.lst [])) (h : Q (.bl (!decide (qs = []))) H) : rNeD K (.ref a) (.ref b) H Q := by
  obtain ⟨bs, tb, _⟩ := tupT_all qs t
  have B1 : Blks H a bs := ⟨qs, ha, tb⟩
  have B2 : Blks H b [] := ⟨[], hb, TupsAt.nil _⟩
  have l := tb.1
  have e : decide (qs = []) = decide (bs = []) := by
    cases qs <;> cases bs <;> simp at l <;> simp
  rw [e] at h
  exact r_neBlks B1 B2 h
theorem len_pos {α : Type} {l : List α} (h : l ≠ []) : 0 < l.length := by
  cases l with
  | nil => exact absurd rfl h
  | cons a b => exact Nat.succ_pos _
theorem erase_map {α β : Type} (f : α → β) : ∀ (l : List α) (k : Nat), (l.map f).eraseIdx k = (l.eraseIdx k).map f
  | [], _ => rfl
  | _ :: _, 0 => rfl
  | a :: l, k + 1 => by
    rw [List.map_cons, List.eraseIdx_cons_succ, List.eraseIdx_cons_succ, List.map_cons, erase_map f l k]
theorem DSt.push {H0 H : Hp} {q l d x : Addr} {m n c e : Nat} {qs : List Addr} (S : DSt H0 q l m n c e H) (dl : d ≠ l) (d0 : H0 d = none) (eq : H d = some (.lst (qs.map V.ref))) (lq : qs.length ≤ c) (tq : ∀ x ∈ qs, TupT m H x) (tx : TupT m H x) : DSt H0 q l m n (c + 1) e (upd H d (.lst (qs.map V.ref ++ [V.ref x]))) := by
  rw [show qs.map V.ref ++ [V.ref x] = (qs ++ [x]).map V.ref by rw [List.map_append]; rfl]
  refine S.setDay d0 dl eq (by rw [List.length_append, List.length_singleton]; omega) (by omega) fun y hy => ?_
  rcases List.mem_append.mp hy with hy | hy
  · exact tq y hy
  · rw [List.mem_singleton.mp hy]; exact tx
theorem r_par {D : Ends} {σ : St} {H : Hp} {i j : Nat} {ta : TA} (h : ta σ H fun vs H1 => ∃ v w, vs = [v, w] ∧ D.nx ((σ.set i (some v)).set j (some w)) H1) : tPar i j ta D σ H := h
def spOtherDay : Sp := fun vs H Q _ => ∃ (H0 : Hp) (q l : Addr) (m n c e : Nat) (xs : List V), vs = [.ref q, .ref l] ∧ DSt H0 q l m n c e H ∧ n < 900000 ∧ c < 1000 ∧ e < 1000 ∧ H l = some (.lst xs) ∧ xs ≠ [] ∧
  ∀ H', DSt H0 q l m (n + 5) (c + 2) e H' → Q .non H'
section
variable {P : Program} {w : World} {K : PySem.W.Frag} {mg : Str → Option Value} {base : Heap}
structure TxOtherDay (P : Program) (w : World) (K : PySem.W.Frag) (mg : Str → Option Value) (base : Heap) : Prop where
  len : mg "len" = none
  _law_draw : Has P w K mg base 1 "_law_draw" ["_law_pot_here", "_law_many"] spDraw
abbrev sOtherDay : Stmt := top 8
theorem scOtherDay : FnScope ["_law_pot_here", "_law_days", "_law_block", "_law_one", "_law_other"] ["_law_pot_here", "_law_days"] (defScope sOtherDay) := ⟨rfl, rfl, rfl, by decide +kernel, rfl, by decide +kernel, by decide +kernel⟩
set_option maxHeartbeats 2000000 in
theorem has_otherday (F : FunAt K mg "_law_other_day" sOtherDay ["_law_pot_here", "_law_days"]) (T : TxOtherDay P w K mg base) : Has P w K mg base 2 "_law_other_day" ["_law_pot_here", "_law_days"] spOtherDay := by
  refine F.has scOtherDay (fun vs H Q E h => ?_) (fun f cdv A outer s H vs Q E hr h => ?_)
  · obtain ⟨H0, q, l, m, n, c, e, xs, rfl, _⟩ := h
    rfl
  obtain ⟨H0, q, l, m, n, c, e, xs, rfl, S, n1, c1, e1, el0, xne, kk⟩ := h
  refine ⟨_, (pss_cons (ps_par (i := 3) (j := 4) (by rfl) scOtherDay.nd rfl rfl (by decide) rfl rfl (pa_cons (pcall T._law_draw hr (by decide) (by rfl) (pa_cons (pv 0) (pa_cons (pe_callB k_len (by rfl) T.len (by decide +kernel) (pa_cons (pv 1) pa_nil)) pa_nil))) (pa_cons (pcall T._law_draw hr (by decide) (by rfl) (pa_cons (pv 0) (pa_cons (pe_callB k_len (by rfl) T.len (by decide +kernel) (pa_cons (pv 1) pa_nil)) pa_nil))) pa_nil)) (by rfl))
    (pss_cons (ps_if (PW.pt (pw_or (pt_cmpR (op_eqD hr.units) (pe_ix ix_listF (pv 1) (pv 3) (fun _ _ => rfl)) (pe_lst pa_nil) (nomark _)) (pw_or1 (pt_cmpR (op_eqD hr.units) (pe_ix ix_listF (pv 1) (pv 4) (fun _ _ => rfl)) (pe_lst pa_nil) (nomark _)))))
    (pss_one ps_retN)
    pss_nil)
    (pss_cons (ps_set (i := 2) scOtherDay.nd rfl (Or.inl rfl) (pe_bm PySem.F.plainAttrs_list PySem.F.slot_list_pop PySem.F.type_list_pop mt_popAt (pe_ix ix_listF (pv 1) (pv 3) (fun _ _ => rfl)) (pa_cons (pcall T._law_draw hr (by decide) (by rfl) (pa_cons (pv 0) (pa_cons (pe_callB k_len (by rfl) T.len (by decide +kernel) (pa_cons (pe_ix ix_listF (pv 1) (pv 3) (fun _ _ => rfl)) pa_nil)) pa_nil))) pa_nil)))
    (pss_cons (ps_if (PW.pt (pw_and (pt_cmpR op_eq (pcall T._law_draw hr (by decide) (by rfl) (pa_cons (pv 0) (pa_cons pe_int pa_nil))) pe_int (nomark _)) (pw_and1 (pt_cmpR (op_neD hr.units) (pe_ix ix_listF (pv 1) (pv 4) (fun _ _ => rfl)) (pe_lst pa_nil) (nomark _)))))
    (pss_one (ps_expr (pe_bm PySem.F.plainAttrs_list PySem.F.slot_list_append PySem.F.type_list_append mt_append (pe_ix ix_listF (pv 1) (pv 3) (fun _ _ => rfl)) (pa_cons (pe_bm PySem.F.plainAttrs_list PySem.F.slot_list_pop PySem.F.type_list_pop mt_popAt (pe_ix ix_listF (pv 1) (pv 4) (fun _ _ => rfl)) (pa_cons (pcall T._law_draw hr (by decide) (by rfl) (pa_cons (pv 0) (pa_cons (pe_callB k_len (by rfl) T.len (by decide +kernel) (pa_cons (pe_ix ix_listF (pv 1) (pv 4) (fun _ _ => rfl)) pa_nil)) pa_nil))) pa_nil)) pa_nil))))
    pss_nil)
    (pss_one (ps_expr (pe_bm PySem.F.plainAttrs_list PySem.F.slot_list_append PySem.F.type_list_append mt_append (pe_ix ix_listF (pv 1) (pv 4) (fun _ _ => rfl)) (pa_cons (pv 2) pa_nil)))))))), ?_⟩
  obtain ⟨ps, el, lp, r⟩ := S.ex
  have xp : xs = ps.map V.ref := HO.lst.inj (Option.some.inj (el0.symm.trans el))
  have lp0 : 0 < ps.length := by
    cases ps with
    | nil => exact absurd xp xne
    | cons a b => exact Nat.succ_pos _
  subst xp
  clear el0 xne
  refine r_par ?_
  walk_at "rd"
  refine ⟨q, _, n, rfl, S.pot, by omega, by rw [List.length_map]; omega, by rw [List.length_map]; omega, fun j1 H1 j10 j11 p1 z1 => ?_⟩
  rw [List.length_map] at j11
  have S1 := S.draw p1 z1
  have el1 := z1 _ _ el (fun z => by subst z; exact S.pot.no_lst el)
  walk_at "rd"
  refine ⟨q, _, _, rfl, p1, by omega, by rw [List.length_map]; omega, by rw [List.length_map]; omega, fun j2 H2 j20 j21 p2 z2 => ?_⟩
  rw [List.length_map] at j21
  have S2 := S1.draw p2 z2
  have el2 := z2 _ _ el1 (fun z => by subst z; exact p1.no_lst el1)
  walk_at "rd"
  refine ⟨_, _, rfl, ?_⟩
  obtain ⟨k1, rfl⟩ : ∃ k : Nat, j1 = (k : Int) := ⟨j1.toNat, by omega⟩
  obtain ⟨k2, rfl⟩ : ∃ k : Nat, j2 = (k : Int) := ⟨j2.toNat, by omega⟩
  obtain ⟨d1, hd1⟩ : ∃ d, ps[k1]? = some d := ⟨_, List.getElem?_eq_getElem (by omega)⟩
  obtain ⟨d2, hd2⟩ : ∃ d, ps[k2]? = some d := ⟨_, List.getElem?_eq_getElem (by omega)⟩
  have at1 : atI (ps.map V.ref) (k1 : Int) = some (.ref d1) := atI_nat (by rw [List.getElem?_map, hd1]; rfl)
  have at2 : atI (ps.map V.ref) (k2 : Int) = some (.ref d2) := atI_nat (by rw [List.getElem?_map, hd2]; rfl)
  obtain ⟨dl1, n1', qs1, eq1, lq1, tq1⟩ := S2.day el2 hd1
  obtain ⟨dl2, n2', qs2, eq2, lq2, tq2⟩ := S2.day el2 hd2
  walk_at "rd"
  refine r_ixL el2 at1 ?_
  walk_at "rd"
  refine ⟨Nat.le_of_ble_eq_true rfl, ?_⟩
  intro x3 hx3
  obtain ⟨H3, s3, e3, eq_x3⟩ : ∃ Hx, Same _ Hx ∧ Hx x3 = some _ ∧ upd _ x3 _ = Hx := ⟨_, Same.new hx3 _, upd_same, rfl⟩
  rw [eq_x3]; clear eq_x3
  refine r_eqE (s3 _ _ eq1) (fun x hx => (tq1 x hx).same s3) e3 ?_
  have S3 := S2.grow s3
  have el3 := s3 _ _ el2
  have eq1 := s3 _ _ eq1
  have eq2 := s3 _ _ eq2
  have tq1 : ∀ x ∈ qs1, TupT m H3 x := fun x hx => (tq1 x hx).same s3
  have tq2 : ∀ x ∈ qs2, TupT m H3 x := fun x hx => (tq2 x hx).same s3
  by_cases c1 : qs1 = []
  · rw [decide_eq_true c1]
    walk_at "rd"
    exact kk _ (S3.mono (by omega) (by omega) (Nat.le_refl _))
  rw [decide_eq_false c1]
  walk_at "rd"
  refine r_ixL el3 at2 ?_
  walk_at "rd"
  refine ⟨Nat.le_of_ble_eq_true rfl, ?_⟩
  intro x4 hx4
  obtain ⟨H4, s4, e4, eq_x4⟩ : ∃ Hx, Same _ Hx ∧ Hx x4 = some _ ∧ upd _ x4 _ = Hx := ⟨_, Same.new hx4 _, upd_same, rfl⟩
  rw [eq_x4]; clear eq_x4
  refine r_eqE (s4 _ _ eq2) (fun x hx => (tq2 x hx).same s4) e4 ?_
  have S4 := S3.grow s4
  have el4 := s4 _ _ el3
  have eq1 := s4 _ _ eq1
  have eq2 := s4 _ _ eq2
  have tq1 : ∀ x ∈ qs1, TupT m H4 x := fun x hx => (tq1 x hx).same s4
  have tq2 : ∀ x ∈ qs2, TupT m H4 x := fun x hx => (tq2 x hx).same s4
  by_cases c2 : qs2 = []
  · rw [decide_eq_true c2]
    walk_at "rd"
    exact kk _ (S4.mono (by omega) (by omega) (Nat.le_refl _))
  rw [decide_eq_false c2]
  walk_at "rd"
  refine r_ixL el4 at1 ?_
  refine ⟨.inl ⟨rfl, _, SqL.of eq1⟩, ?_⟩
  walk_at "rd"
  refine r_ixL el4 at1 ?_
  walk_at "rd"
  rw [List.length_map]
  have q1p : 0 < qs1.length := len_pos c1
  refine ⟨q, (qs1.length : Nat), _, rfl, S4.pot, by omega, by omega, by omega, fun j3 H5 j30 j31 p5 z5 => ?_⟩
  have S5 := S4.draw p5 z5
  have el5 := z5 _ _ el4 (fun z => by subst z; exact S4.pot.no_lst el4)
  have eq1 := z5 _ _ eq1 (fun z => by subst z; exact S4.pot.no_lst eq1)
  have eq2 := z5 _ _ eq2 (fun z => by subst z; exact S4.pot.no_lst eq2)
  have tq1 : ∀ x ∈ qs1, TupT m H5 x := fun x hx => (tq1 x hx).draw S4.pot z5
  obtain ⟨k3, rfl⟩ : ∃ k : Nat, j3 = (k : Int) := ⟨j3.toNat, by omega⟩
  obtain ⟨x1, hx1⟩ : ∃ d, qs1[k3]? = some d := ⟨_, List.getElem?_eq_getElem (by omega)⟩
  walk_at "rd"
  refine r_popAt (y := .ref x1) eq1 (by omega) (by omega) (by rw [Int.toNat_natCast, List.getElem?_map, hx1]; rfl) ?_
  rw [Int.toNat_natCast, erase_map]
  have er : (qs1.eraseIdx k3).length ≤ c := by
    have := List.length_eraseIdx_le qs1 k3
    omega
  have S6 := S5.setDay (qs := qs1.eraseIdx k3) n1' dl1 eq1 er (Nat.le_refl _) (fun x hx => tq1 x (List.mem_of_mem_eraseIdx hx))
  have el6 : upd H5 d1 (.lst ((qs1.eraseIdx k3).map V.ref)) l = some (.lst (ps.map V.ref)) := by rw [upd_ne dl1.symm]; exact el5
  have tx1 : TupT m (upd H5 d1 (.lst ((qs1.eraseIdx k3).map V.ref))) x1 := (tq1 x1 (List.mem_of_getElem? hx1)).upd eq1
  clear eq1 eq2 tq1 tq2 lq1 lq2
  generalize upd H5 d1 (.lst ((qs1.eraseIdx k3).map V.ref)) = H6 at S6 el6 tx1
  obtain ⟨_, _, qs1, eq1, lq1, tq1⟩ := S6.day el6 hd1
  obtain ⟨_, _, qs2, eq2, lq2, tq2⟩ := S6.day el6 hd2
  walk_at "rd"
  refine ⟨q, _, _, rfl, S6.pot, by omega, by omega, by omega, fun j4 H7 j40 j41 p7 z7 => ?_⟩
  have S7 := S6.draw p7 z7
  have el7 := z7 _ _ el6 (fun z => by subst z; exact S6.pot.no_lst el6)
  have tx7 := tx1.draw S6.pot z7
  obtain ⟨_, _, qs1, eq1, lq1, tq1⟩ := S7.day el7 hd1
  obtain ⟨_, _, qs2, eq2, lq2, tq2⟩ := S7.day el7 hd2
  walk_at "rd"
  by_cases c4 : j4 = 0
  rotate_left
  · rw [decide_eq_false c4]
    walk_at "rd"
    refine r_ixL el7 at2 ?_
    refine ⟨.inl ⟨rfl, _, SqL.of eq2⟩, ?_⟩
    walk_at "rd"
    refine r_append eq2 (by rw [List.length_map]; show _ < 16777216; omega) ?_
    exact kk _ ((S7.push dl2 n2' eq2 lq2 tq2 tx7).mono (by omega) (by omega) (Nat.le_refl _))
  rw [decide_eq_true c4]
  walk_at "rd"
  refine r_ixL el7 at2 ?_
  walk_at "rd"
  refine ⟨Nat.le_of_ble_eq_true rfl, ?_⟩
  intro x8 hx8
  obtain ⟨H8, s8, e8, eq_x8⟩ : ∃ Hx, Same _ Hx ∧ Hx x8 = some _ ∧ upd _ x8 _ = Hx := ⟨_, Same.new hx8 _, upd_same, rfl⟩
  rw [eq_x8]; clear eq_x8
  refine r_neE (s8 _ _ eq2) (fun x hx => (tq2 x hx).same s8) e8 ?_
  have S8 := S7.grow s8
  have el8 := s8 _ _ el7
  have eq1 := s8 _ _ eq1
  have eq2 := s8 _ _ eq2
  have tx8 := tx7.same s8
  have tq1 : ∀ x ∈ qs1, TupT m H8 x := fun x hx => (tq1 x hx).same s8
  have tq2 : ∀ x ∈ qs2, TupT m H8 x := fun x hx => (tq2 x hx).same s8
  by_cases c5 : qs2 = []
  · rw [decide_eq_true c5]
    walk_at "rd"
    refine r_ixL el8 at2 ?_
    refine ⟨.inl ⟨rfl, _, SqL.of eq2⟩, ?_⟩
    walk_at "rd"
    refine r_append eq2 (by rw [List.length_map]; show _ < 16777216; omega) ?_
    exact kk _ ((S8.push dl2 n2' eq2 lq2 tq2 tx8).mono (by omega) (by omega) (Nat.le_refl _))
  rw [decide_eq_false c5]
  walk_at "rd"
  refine r_ixL el8 at1 ?_
  refine ⟨.inl ⟨rfl, _, SqL.of eq1⟩, ?_⟩
  walk_at "rd"
  refine r_ixL el8 at2 ?_
  refine ⟨.inl ⟨rfl, _, SqL.of eq2⟩, ?_⟩
  walk_at "rd"
  refine r_ixL el8 at2 ?_
  walk_at "rd"
  rw [List.length_map]
  have q2p := len_pos c5
  refine ⟨q, (qs2.length : Nat), _, rfl, S8.pot, by omega, by omega, by omega, fun j9 H9 j90 j91 p9 z9 => ?_⟩
  have S9 := S8.draw p9 z9
  have el9 := z9 _ _ el8 (fun z => by subst z; exact S8.pot.no_lst el8)
  have eq2 := z9 _ _ eq2 (fun z => by subst z; exact S8.pot.no_lst eq2)
  have tx9 := tx8.draw S8.pot z9
  have tq2 : ∀ x ∈ qs2, TupT m H9 x := fun x hx => (tq2 x hx).draw S8.pot z9
  obtain ⟨k9, rfl⟩ : ∃ k : Nat, j9 = (k : Int) := ⟨j9.toNat, by omega⟩
  obtain ⟨x2, hx2⟩ : ∃ d, qs2[k9]? = some d := ⟨_, List.getElem?_eq_getElem (by omega)⟩
  walk_at "rd"
  refine r_popAt (y := .ref x2) eq2 (by omega) (by omega) (by rw [Int.toNat_natCast, List.getElem?_map, hx2]; rfl) ?_
  rw [Int.toNat_natCast, erase_map]
  have er : (qs2.eraseIdx k9).length ≤ c := by
    have := List.length_eraseIdx_le qs2 k9
    omega
  have S10 := S9.setDay (qs := qs2.eraseIdx k9) n2' dl2 eq2 er (Nat.le_refl _) (fun x hx => tq2 x (List.mem_of_mem_eraseIdx hx))
  have el10 : upd H9 d2 (.lst ((qs2.eraseIdx k9).map V.ref)) l = some (.lst (ps.map V.ref)) := by rw [upd_ne dl2.symm]; exact el9
  have tx10 : TupT m (upd H9 d2 (.lst ((qs2.eraseIdx k9).map V.ref))) x1 := tx9.upd eq2
  have ty10 : TupT m (upd H9 d2 (.lst ((qs2.eraseIdx k9).map V.ref))) x2 := (tq2 x2 (List.mem_of_getElem? hx2)).upd eq2
  clear eq1 eq2 tq1 tq2 lq1 lq2
  generalize upd H9 d2 (.lst ((qs2.eraseIdx k9).map V.ref)) = H10 at S10 el10 tx10 ty10
  obtain ⟨_, _, qs1, eq1, lq1, tq1⟩ := S10.day el10 hd1
  walk_at "rd"
  refine r_append eq1 (by rw [List.length_map]; show _ < 16777216; omega) ?_
  have S11 := S10.push dl1 n1' eq1 lq1 tq1 ty10
  have el11 : upd H10 d1 (.lst (qs1.map V.ref ++ [V.ref x2])) l = some (.lst (ps.map V.ref)) := by rw [upd_ne dl1.symm]; exact el10
  have tx11 : TupT m (upd H10 d1 (.lst (qs1.map V.ref ++ [V.ref x2]))) x1 := tx10.upd eq1
  generalize upd H10 d1 (.lst (qs1.map V.ref ++ [V.ref x2])) = H11 at S11 el11 tx11
  obtain ⟨_, _, qs2, eq2, lq2, tq2⟩ := S11.day el11 hd2
  walk_at "rd"
  refine r_ixL el11 at2 ?_
  refine ⟨.inl ⟨rfl, _, SqL.of eq2⟩, ?_⟩
  walk_at "rd"
  refine r_append eq2 (by rw [List.length_map]; show _ < 16777216; omega) ?_
  exact kk _ ((S11.push dl2 n2' eq2 lq2 tq2 tx11).mono (by omega) (by omega) (Nat.le_refl _))
end
end My
set_option Elab.async false
set_option linter.all false
set_option maxRecDepth 100000
namespace L2
open PySem PySem.Spec PyProof.Rows
section
variable {prog : Program} {w : World} {A : Around} {E : Value → Shared → Prop} {s : Shared}
theorem my_collect_tup {l : Addr} {us : List Value} {Q : List Value → Shared → Prop} (hl : s.heap.IsTuple l us.toArray) (hz : us.length ≤ sizeLine)
    (fin : Q us { s with heap := (s.heap.push (seqObj "list" #[] 0)).update s.heap.objs.size (Obj.mapSeq (· ++ us.toArray)) }) : wpAny (model prog w) A (collect (.ref l)) Q E s := by
  obtain ⟨o, g1, g2, n, g3⟩ := id hl
  have g1' : (s.heap.push (seqObj "list" #[] 0)).get? l = some o := Heap.get?_push_of_some _ g1
  have new : (s.heap.push (seqObj "list" #[] 0)).get? s.heap.objs.size = some (seqObj "list" #[] 0) := Heap.get?_push_size _ rfl
  have ht : (Value.type "tuple" == Value.type "tuple") = true := by rfl
  unfold collect
  refine wpAny_bind (wpAny_runValue (codeAny_builtin entry_proto_collect' (show wpAny _ _ (do again (.builtin "list.__iadd__" ⟨[← newList [], .ref l], []⟩)) _ _ s from ?_)))
  refine wpAny_bind (wpAny_newList (wpAny_pure ⟨Code.quiet_builtin _ (by decide +kernel), codeAny_builtin entry_list_iadd' (show wpAny _ _ (Builtin.List.listExtendWith (.ref s.heap.objs.size) (.ref l) (.ref s.heap.objs.size)) _ _ { s with heap := s.heap.push (seqObj "list" #[] 0) } from ?_)⟩))
  unfold Builtin.List.listExtendWith
  refine wpAny_bind (wpAny_typeOf (T := "tuple") ⟨o, g1', g2⟩ ?_)
  rw [if_pos (by rw [ht]; simp)]
  refine wpAny_bind (listItems_at g1' g3 (wpAny_bind (listItems_at (xs := #[]) (n := 0) new rfl ?_)))
  rw [if_neg (by simp)]
  refine wpAny_bind (listUpdate_at (xs := #[]) (n := 0) new rfl (wpAny_pure ?_) (Nat.zero_le _) (by show (#[] ++ us.toArray).size ≤ sizeLine + 1; simp only [Array.size_append, List.size_toArray, List.length_nil]; omega))
  refine (show wpAny (model prog w) A (load s.heap.objs.size >>= fun o => match o.data with | .seq xs _ => pure xs.toList | _ => unsupported "internal:collect") Q E { s with heap := (s.heap.push (seqObj "list" #[] 0)).update s.heap.objs.size (Obj.mapSeq (· ++ us.toArray)) } from ?_)
  refine wpAny_bind (wpAny_load (get?_update_seq new _) ?_)
  have e : ((#[] : Array Value) ++ us.toArray).toList = us := by simp
  refine (show wpAny _ _ (pure ((#[] : Array Value) ++ us.toArray).toList) Q E _ from ?_)
  rw [e]
  exact wpAny_pure fin
theorem my_sorted_tupI {l : Addr} {us : List Value} {ns : List Int} {Q : Value → Shared → Prop} (hl : s.heap.IsTuple l us.toArray) (hI : IntsAre us ns) (hz : us.length ≤ sizeLine)
    (fin : ∀ (out : Array Value) (ns' : List Int), IntsAre out.toList ns' → ns'.Perm ns → ns'.Pairwise (· ≤ ·) → Q (.ref (s.heap.objs.size + 1)) { s with heap := sortedAll s.heap us out }) : wpAny (model prog w) A (call (.builtin "sorted") [.ref l]) Q E s := by
  refine Calls.call_function_entry kind_sorted plain_sorted entry_sorted (args_sorted1 _) ?_
  unfold Builtin.«sorted»
  refine wpAny_bind (m := checkCount "sorted" 1 1 _) (wpAny_pure (wpAny_bind (my_collect_tup hl hz (wpAny_bind (wpAny_newList ?_)))))
  have z1 : ((s.heap.push (seqObj "list" #[] 0)).update s.heap.objs.size (Obj.mapSeq (· ++ us.toArray))).objs.size = s.heap.objs.size + 1 := by rw [Heap.size_update, size_push']
  have z2 : (((s.heap.push (seqObj "list" #[] 0)).update s.heap.objs.size (Obj.mapSeq (· ++ us.toArray))).push (seqObj "list" us.toArray 0)).get? (s.heap.objs.size + 1) = some (seqObj "list" us.toArray 0) := by
    rw [← z1]
    exact Heap.get?_push_size _ rfl
  refine (show wpAny _ _ _ _ _ { s with heap := ((s.heap.push (seqObj "list" #[] 0)).update s.heap.objs.size (Obj.mapSeq (· ++ us.toArray))).push (seqObj "list" us.toArray 0) } from ?_)
  rw [z1]
  exact wpAny_bind (wpAny_holding (wpAny_call_entry slot_list_sort ⟨_, z2, rfl⟩ entry_list_sort (list_sort_treeAny z2 hI hz fun out ns' a1 a2 a3 => ⟨_, rfl, wpAny_pure ⟨_, rfl, fin out ns' a1 a2 a3⟩⟩) (args_list_sort _)))
end
section
variable {X : Cx}
def cSortA : List V → Hp → VK → Prop := fun vs H Q => ∃ (a : Addr) (ns : List Int), vs = [V.ref a] ∧ (H a = some (.lst (ns.map V.int)) ∨ H a = some (.tup (ns.map V.int))) ∧
  ∀ p H', H p = none → Same H H' → H' p = some (.lst ((isort ns).map V.int)) → Q (.ref p) H'
theorem k_sortA : CallR X (.builtin "sorted") cSortA := by
  intro pins s σ H vs us Q I r h
  obtain ⟨a, ns, rfl, ha, q⟩ := h
  rw [Vals.ref1 r]
  have fin : ∀ (its : List Value), its.length ≤ sizeLine → IntsAre its ns → ∀ (out : Array Value) (ns' : List Int), IntsAre out.toList ns' → ns'.Perm ns → ns'.Pairwise (· ≤ ·) → EP X pins σ Q (.ref (s.heap.objs.size + 1)) { s with heap := sortedAll s.heap its out } := by
    intro its hz hI out ns' a1 a2 a3
    have en := isort_is a2 a3
    subst en
    obtain ⟨ep, he'⟩ := sortedAll_at s.heap its out
    have hl : ((isort ns).map V.int).length ≤ sizeLine := by rw [List.length_map, a2.length_eq]; rw [hI.length] at hz; exact hz
    exact ⟨.ref _, _, I.laid (t' := s.toks) (fun _ _ => sortedAll_old) (Nat.le_succ _) (show ObjOk X.prog X.w _ _ _ (.lst _) from ⟨hl, out.toList, ep, vals_ints a1, by rw [he']⟩), rfl, q _ _ (I.hok.fresh (Nat.le_succ _)) (Same.new (I.hok.fresh (Nat.le_succ _)) _) upd_same⟩
  rcases ha with ha | ha
  · obtain ⟨its, rv, p, hz⟩ := I.list (SqL.of ha)
    exact sorted_intsAny p.isList (intsAre_of rv) (by rw [← rv.length]; exact hz) (fin its (by rw [← rv.length]; exact hz) (intsAre_of rv))
  · obtain ⟨its, rv, p, hz⟩ := I.tuple (SqT.of ha)
    exact my_sorted_tupI p (intsAre_of rv) (by rw [← rv.length]; exact hz) (fin its (by rw [← rv.length]; exact hz) (intsAre_of rv))
end
section
variable {H : Hp} {Q : VK}
end
end L2
set_option Elab.async false
set_option linter.all false
set_option maxRecDepth 100000
namespace My
open PySem PySem.Spec L2
local macro_rules | `(tactic| walk_at "rd1") => `(tactic| first
  | with_reducible refine r_seq ?_ | with_reducible refine r_asg ?_ | with_reducible refine r_name ?_ | with_reducible refine r_ret ?_ | with_reducible refine r_drop ?_ | with_reducible refine r_ifs ?_ | with_reducible refine r_next ?_
  | with_reducible refine r_var rfl ?_ | with_reducible refine r_c ?_ | with_reducible refine r_op ?_ | with_reducible refine r_I0 ?_
  | with_reducible refine r_test ?_ | with_reducible refine r_b ?_ | with_reducible refine r_k ?_ | with_reducible refine r_cons ?_ | with_reducible refine r_nil ?_ | with_reducible refine r_call ?_ | with_reducible refine r_cb ?_
  | with_reducible refine r_lst ?_ | with_reducible refine r_tup ?_ | with_reducible refine r_sub ?_ | with_reducible refine r_andV ?_ | with_reducible refine r_orV ?_ | with_reducible refine r_notV ?_
  | with_reducible refine r_and ?_ | with_reducible refine r_or ?_ | with_reducible refine r_not ?_ | with_reducible refine r_eqI ?_ | with_reducible refine r_neI ?_ | with_reducible refine r_aug rfl ?_ | with_reducible refine r_ipI ?_ | with_reducible refine r_un ?_
  | with_reducible refine r_bm ?_ | with_reducible refine r_bm0 ?_ | with_reducible refine r_yes ?_
  | with_reducible refine r_dnewT ?_ | with_reducible refine r_dget2 ?_ 
  | with_reducible refine r_U ?_ | with_reducible refine r_lit ?_
  | with_reducible refine r_fb ?_ | with_reducible refine r_m1 ?_ | with_reducible refine r_augS ?_ | with_reducible refine r_isNn ?_ | with_reducible refine r_notNn ?_ | with_reducible refine r_isNr ?_ | with_reducible refine r_notNr ?_ | with_reducible refine r_tru ?_ | with_reducible refine r_count ?_
  | with_reducible refine r_for ?_ | with_reducible refine r_dc ?_ | with_reducible refine r_lc ?_ | with_reducible refine r_sc ?_ | with_reducible refine r_zipN ?_ | with_reducible refine r_ifX ?_ | with_reducible refine r_zip3 ?_ | with_reducible refine r_rng1 ?_ | with_reducible refine r_rng2 ?_ | with_reducible refine r_ilist ?_ | with_reducible refine r_itup ?_ | with_reducible refine r_enum ?_
  | with_reducible refine r_sl ?_ | with_reducible refine r_nopart ?_ | with_reducible refine r_part ?_ | with_reducible refine r_int ?_ | with_reducible refine r_gcons ?_ | with_reducible refine r_gnil ?_ | with_reducible refine r_revT ?_
  | with_reducible refine r_intB (fun z hz z0 z1 => ?_) | with_reducible refine r_intI ?_ | with_reducible refine r_min2 ?_ | with_reducible refine r_max2 ?_ | with_reducible refine r_rng1V ?_ | with_reducible refine r_rng2V ?_
  | with_reducible refine r_dget ?_ | with_reducible refine r_disp ?_ | with_reducible refine r_pcons ?_ | with_reducible refine r_pnil ?_ | with_reducible refine r_enumT ?_ | with_reducible refine r_zip ?_ | with_reducible refine r_abs (fun z hz z0 => ?_)
  | with_reducible refine r_try ?_ | with_reducible refine r_try0 ?_ | with_reducible refine r_dropX ?_ | with_reducible refine r_setX ?_ | with_reducible refine r_callX ?_ | with_reducible refine r_methX ?_ | with_reducible refine r_raise ?_
  | with_reducible refine r_zipI ?_ | with_reducible refine r_zipT ?_ | with_reducible refine r_sfld ?_ | with_reducible refine r_fld ?_ | with_reducible refine r_meth ?_ | with_reducible refine r_make ?_ | with_reducible refine r_notC ?_ | with_reducible refine r_revS ?_ | with_reducible refine r_rev ?_ | with_reducible refine r_dputK ?_ | with_reducible refine r_chain4 ?_ | with_reducible refine r_chain3 ?_ | with_reducible refine r_chain ?_ | with_reducible refine r_din ?_ | with_reducible refine r_dnotin ?_ | with_reducible refine r_ifE ?_
  | ((with_reducible show cIsiR _ _ _ _ _); first | with_reducible refine r_itT (by first | assumption | exact upd_same) ?_ | with_reducible refine r_itL (by first | assumption | exact upd_same) ?_)
  | ((with_reducible show kDGet _ _ _ _); with_reducible refine pot_g (by first | assumption | exact upd_same) ?_) | ((with_reducible show kDGet _ _ _ _); with_reducible refine pot_s (by first | assumption | exact upd_same) ?_) | ((with_reducible show kDGet _ _ _ _); with_reducible refine pot_t (by first | assumption | exact upd_same) ?_)
  | ((with_reducible show kDPut _ _ _ _ _); with_reducible refine pot_pg (by first | assumption | exact upd_same) ?_) | ((with_reducible show kDPut _ _ _ _ _); with_reducible refine pot_pt (by first | assumption | exact upd_same) ?_)
  | with_reducible refine iteT ?_ | with_reducible refine iteF ?_ | with_reducible refine r_nf ?_ | with_reducible refine r_nt ?_
  | with_reducible refine r_ii ?_ | with_reducible refine r_ib ?_
  | ((with_reducible show rIxLF _ _ _ _); with_reducible refine r_ixL (by first | assumption | exact upd_same) rfl ?_)
  | ((with_reducible show rIxTF _ _ _ _); with_reducible refine r_ixT (by first | assumption | exact upd_same) rfl ?_)
  | ((with_reducible show rSetL _ _ _ _ _); with_reducible refine r_setL (by first | assumption | exact upd_same) rfl ?_)
  | ((with_reducible show cLen _ _ _); with_reducible refine r_len (by first | exact sqAt_lst (by assumption) | exact sqAt_tup (by assumption) | exact sqAt_lst upd_same | exact sqAt_tup upd_same) ?_)
  | ((with_reducible show rSlLF _ _ _ _ _); with_reducible refine r_slL (by first | assumption | exact upd_same) ?_)
  | ((with_reducible show gTupF _ _ _ _ _ _); with_reducible refine r_gtup (by first | assumption | exact upd_same) rfl ?_)
  | ((with_reducible show rI _ _ _ _ _ _); first | with_reducible refine r_mod (by omega) ?_ | with_reducible refine r_div (by omega) (by omega) ?_ | with_reducible refine r_mulL (by omega) (by omega) ?_ | with_reducible refine r_mulR (by omega) (by omega) ?_ | with_reducible refine r_pow (by omega) (by omega) (by decide) ?_))
local macro_rules | `(tactic| walk_at "rd") => `(tactic| repeat (first | walk_at "rd1" | (dsimp only; walk_at "rd1")))
theorem DSt.put {H0 H : Hp} {q l d t : Addr} {m n c e k : Nat} {qs : List Addr} (S : DSt H0 q l m n c e H) (dl : d ≠ l) (d0 : H0 d = none) (eq : H d = some (.lst (qs.map V.ref))) (lq : qs.length ≤ c) (tq : ∀ x ∈ qs, TupT m H x) (tt : TupT m H t) : DSt H0 q l m n c e (upd H d (.lst ((qs.map V.ref).set k (.ref t)))) := by
  rw [← List.map_set]
  refine S.setDay d0 dl eq (by rw [List.length_set]; exact lq) (Nat.le_refl _) fun y hy => ?_
  rcases List.mem_or_eq_of_mem_set hy with hy | rfl
  · exact tq y hy
  · exact tt
theorem flat_ne (x : Int) : ∀ b : List Int, (b.flatMap fun y => if y ≠ x then [y] else []) = b.filter fun y => decide (y ≠ x)
  | [] => rfl
  | y :: b => by
    rw [List.flatMap_cons, flat_ne x b, List.filter_cons]
    by_cases c : y ≠ x
    · rw [if_pos c, if_pos (decide_eq_true c)]; rfl
    · rw [if_neg c, if_neg (by rw [decide_eq_false c]; decide)]; rfl
theorem rise_filter {m : Nat} {b : List Int} (h : Rise2 m b) (f : Int → Bool) : Rise2 m (b.filter f) := ⟨h.1.filter f, fun x hx => h.2 x (List.mem_filter.mp hx).1⟩
theorem rise_add {m : Nat} {b c : List Int} {x : Int} (h : Rise2 m b) (x0 : 0 ≤ x) (x1 : x < (m : Int)) (n : x ∉ b) (p : c.Perm (b ++ [x])) (s : c.Pairwise (· ≤ ·)) : Rise2 m c := by
  have nb : b.Nodup := h.1.imp (fun {u v} (h : u < v) => by omega)
  have nd : (b ++ [x]).Nodup := List.nodup_append.mpr ⟨nb, by simp, fun u hu v hv => by
    rw [List.mem_singleton.mp hv]
    exact fun z => n (z ▸ hu)⟩
  have nc : c.Nodup := p.nodup_iff.mpr nd
  refine ⟨(s.and nc).imp fun {u v} h => ?_, fun y hy => ?_⟩
  · have h1 := h.1
    have h2 := h.2
    omega
  · rcases List.mem_append.mp (p.mem_iff.mp hy) with hy | hy
    · exact h.2 y hy
    · rw [List.mem_singleton.mp hy]; exact ⟨x0, x1⟩
def spOtherBlock : Sp := fun vs H Q _ => ∃ (H0 : Hp) (q l d : Addr) (m n c e : Nat) (qs : List Addr), vs = [.ref q, .int (m : Nat), .ref d] ∧ DSt H0 q l m n c e H ∧ n < 900000 ∧ c < 1000 ∧ 1 ≤ m ∧ m ≤ 40 ∧ d ≠ l ∧ H0 d = none ∧ H d = some (.lst (qs.map V.ref)) ∧ qs.length ≤ c ∧ (∀ x ∈ qs, TupT m H x) ∧
  ∀ H', DSt H0 q l m (n + 2) c e H' → Q .non H'
section
variable {P : Program} {w : World} {K : PySem.W.Frag} {mg : Str → Option Value} {base : Heap}
structure TxOtherBlock (P : Program) (w : World) (K : PySem.W.Frag) (mg : Str → Option Value) (base : Heap) : Prop where
  len : mg "len" = none
  tuple : mg "tuple" = none
  sorted : mg "sorted" = none
  _law_draw : Has P w K mg base 1 "_law_draw" ["_law_pot_here", "_law_many"] spDraw
abbrev sOtherBlock : Stmt := top 9
theorem scOtherBlock : FnScope ["_law_pot_here", "_law_many", "_law_day", "_law_place", "_law_thing", "_law_one"] ["_law_pot_here", "_law_many", "_law_day"] (defScope sOtherBlock) := ⟨rfl, rfl, rfl, by decide +kernel, rfl, by decide +kernel, by decide +kernel⟩
set_option maxHeartbeats 2000000 in
theorem has_otherblock (F : FunAt K mg "_law_other_block" sOtherBlock ["_law_pot_here", "_law_many", "_law_day"]) (T : TxOtherBlock P w K mg base) : Has P w K mg base 2 "_law_other_block" ["_law_pot_here", "_law_many", "_law_day"] spOtherBlock := by
  refine F.has scOtherBlock (fun vs H Q E h => ?_) (fun f cdv A outer s H vs Q E hr h => ?_)
  · obtain ⟨H0, q, l, d, m, n, c, e, qs, rfl, _⟩ := h
    rfl
  obtain ⟨H0, q, l, d, m, n, c, e, qs, rfl, S, n1, c1, m1, m40, dl, d0, eq, lq, tq, kk⟩ := h
  refine ⟨_, (pss_cons (ps_if (pt_cmpR (op_eqD hr.units) (pv 2) (pe_lst pa_nil) (nomark _))
    (pss_one ps_retN)
    pss_nil)
    (pss_cons (ps_set (i := 3) scOtherBlock.nd rfl (Or.inl rfl) (pcall T._law_draw hr (by decide) (by rfl) (pa_cons (pv 0) (pa_cons (pe_callB k_len (by rfl) T.len (by decide +kernel) (pa_cons (pv 2) pa_nil)) pa_nil))))
    (pss_cons (ps_set (i := 4) scOtherBlock.nd rfl (Or.inr rfl) (pcall T._law_draw hr (by decide) (by rfl) (pa_cons (pv 0) (pa_cons (pv 1) pa_nil))))
    (pss_one (ps_if (pt_cmpR op_inF (pv 4) (pe_ix ix_listF (pv 2) (pv 3) (fun _ _ => rfl)) rfl)
    (pss_one (ps_asg (pe_callTy k_tuple (by rfl) T.tuple (by decide +kernel) (pa_cons (pe_lc (own := [("_law_one", 5)]) (g := gName 5) (by rfl) scOtherBlock.nd (pi_tup (pe_ix ix_listF (pv 2) (pv 3) (fun _ _ => rfl))) (blkOk_by (own := [("_law_one", 5)]) (N := ["_law_pot_here", "_law_many", "_law_day", "_law_place", "_law_thing", "_law_one"]) (sc := defScope sOtherBlock) (by decide +kernel)) (fun _ _ _ _ _ => (pg_name (i := 5) scOtherBlock.nd rfl (Or.inl rfl))) (fun _ _ _ _ _ => pts_one (pt_cmpR op_ne (pv 5) (pv 4) (nomark _))) (fun _ _ _ _ _ => by exact (pv 5))) pa_nil)) (pg_sub (pv 2) (pv 3) set_list)))
    (pss_one (ps_asg (pe_callTy k_tuple (by rfl) T.tuple (by decide +kernel) (pa_cons (pe_callB k_sortA (by rfl) T.sorted (by decide +kernel) (pa_cons (pe_op op_catTF (pe_ix ix_listF (pv 2) (pv 3) (fun _ _ => rfl)) (pe_tup (pa_cons (pv 4) pa_nil))) pa_nil)) pa_nil)) (pg_sub (pv 2) (pv 3) set_list)))))))), ?_⟩
  walk_at "rd"
  refine ⟨Nat.le_of_ble_eq_true rfl, ?_⟩
  intro x1 hx1
  obtain ⟨H1, s1, e1, eq_x1⟩ : ∃ Hx, Same _ Hx ∧ Hx x1 = some _ ∧ upd _ x1 _ = Hx := ⟨_, Same.new hx1 _, upd_same, rfl⟩
  rw [eq_x1]; clear eq_x1
  refine r_eqE (s1 _ _ eq) (fun x hx => (tq x hx).same s1) e1 ?_
  have S1 := S.grow s1
  have eq1 := s1 _ _ eq
  have tq1 : ∀ x ∈ qs, TupT m H1 x := fun x hx => (tq x hx).same s1
  by_cases c0 : qs = []
  · rw [decide_eq_true c0]
    walk_at "rd"
    exact kk _ (S1.mono (by omega) (Nat.le_refl _) (Nat.le_refl _))
  rw [decide_eq_false c0]
  have qp := len_pos c0
  walk_at "rd"
  rw [List.length_map]
  refine ⟨q, (qs.length : Nat), _, rfl, S1.pot, by omega, by omega, by omega, fun j2 H2 j20 j21 p2 z2 => ?_⟩
  have S2 := S1.draw p2 z2
  have eq2 := z2 _ _ eq1 (fun z => by subst z; exact S1.pot.no_lst eq1)
  have tq2 : ∀ x ∈ qs, TupT m H2 x := fun x hx => (tq1 x hx).draw S1.pot z2
  walk_at "rd"
  refine ⟨q, (m : Nat), _, rfl, p2, by omega, by omega, by omega, fun j3 H3 j30 j31 p3 z3 => ?_⟩
  have S3 := S2.draw p3 z3
  have eq3 := z3 _ _ eq2 (fun z => by subst z; exact p2.no_lst eq2)
  have tq3 : ∀ x ∈ qs, TupT m H3 x := fun x hx => (tq2 x hx).draw p2 z3
  obtain ⟨k, rfl⟩ : ∃ k : Nat, j2 = (k : Int) := ⟨j2.toNat, by omega⟩
  obtain ⟨x, hx⟩ : ∃ d, qs[k]? = some d := ⟨_, List.getElem?_eq_getElem (by omega)⟩
  obtain ⟨b, eb, rb⟩ := tq3 x (List.mem_of_getElem? hx)
  have lb := rise_len rb
  have atx : atI (qs.map V.ref) (k : Int) = some (.ref x) := atI_nat (by rw [List.getElem?_map, hx]; rfl)
  walk_at "rd"
  refine r_ixL eq3 atx ?_
  refine r_inF (sqAt_tup eb) rfl (flat_ints _) ?_
  rw [if_neg (by decide), inV_int]
  have ix : ixN (qs.map V.ref).length (k : Int) = some k := by rw [ixN_of (by omega) (by rw [List.length_map]; omega)]; rfl
  by_cases c3 : b.contains j3 = true
  · rw [c3]
    walk_at "rd"
    refine r_ixL eq3 atx ?_
    walk_at "rd"
    refine ⟨x, rfl, ⟨_, SqT.of eb⟩, ?_⟩
    refine fun D hD => lcm_tup hD eInt (f := V.int) (l := b) (fun y => if y ≠ j3 then [y] else []) (fun y => by by_cases z : y ≠ j3; rw [if_pos z]; exact Nat.le_refl 1; rw [if_neg z]; exact Nat.zero_le 1) (by omega) (fun H4 s4 => SqT.of (s4 _ _ eb)) (fun i y H4 Qe Qn hy s4 hacc ke kn => ?_) (fun H4 ws s4 e4 pr => ?_)
    · refine r_name ⟨rfl, ?_⟩
      walk_at "rd"
      by_cases z : y = j3
      · rw [decide_eq_true z]
        exact kn _ (Same.refl _) (if_neg (fun h => h z))
      · rw [decide_eq_false z]
        walk_at "rd"
        exact ke _ _ y (Same.refl _) (if_pos z) rfl
    · rw [flat_ne] at pr
      have ew := Pd.ints pr
      subst ew
      walk_at "rd"
      refine r_tuple e4 fun t ht => ?_
      obtain ⟨H5, s5, e5, eq5⟩ : ∃ Hx, Same H4 Hx ∧ Hx t = some (.tup ((b.filter fun y => decide (y ≠ j3)).map V.int)) ∧ upd H4 t (.tup ((b.filter fun y => decide (y ≠ j3)).map V.int)) = Hx := ⟨_, Same.new ht _, upd_same, rfl⟩
      rw [eq5]; clear eq5
      have s35 := s4.trans s5
      walk_at "rd"
      refine r_setL (s35 _ _ eq3) ix ?_
      exact kk _ (((S3.grow s35).put dl d0 (s35 _ _ eq3) lq (fun x hx => (tq3 x hx).same s35) ⟨_, e5, rise_filter rb _⟩).mono (by omega) (Nat.le_refl _) (Nat.le_refl _))
  · rw [Bool.eq_false_iff.mpr c3]
    walk_at "rd"
    refine r_ixL eq3 atx ?_
    walk_at "rd"
    refine ⟨Nat.le_of_ble_eq_true rfl, ?_⟩
    intro x4 hx4
    obtain ⟨H4, s4, e4, eq_x4⟩ : ∃ Hx, Same _ Hx ∧ Hx x4 = some _ ∧ upd _ x4 _ = Hx := ⟨_, Same.new hx4 _, upd_same, rfl⟩
    rw [eq_x4]; clear eq_x4
    walk_at "rd"
    refine r_catTF (s4 _ _ eb) e4 (by rw [List.length_map]; show _ + 1 ≤ 16777216; omega) fun t5 H5 s5 e5 => ?_
    rw [show b.map V.int ++ [V.int j3] = (b ++ [j3]).map V.int by rw [List.map_append]; rfl] at e5
    walk_at "rd"
    refine ⟨t5, b ++ [j3], rfl, .inr e5, fun p6 H6 hp6 s6 e6 => ?_⟩
    walk_at "rd"
    refine r_tuple e6 fun t ht => ?_
    obtain ⟨H7, s7, e7, eq7⟩ : ∃ Hx, Same H6 Hx ∧ Hx t = some (.tup ((isort (b ++ [j3])).map V.int)) ∧ upd H6 t (.tup ((isort (b ++ [j3])).map V.int)) = Hx := ⟨_, Same.new ht _, upd_same, rfl⟩
    rw [eq7]; clear eq7
    have s37 := s4.trans (s5.trans (s6.trans s7))
    walk_at "rd"
    refine r_setL (s37 _ _ eq3) ix ?_
    have nm : j3 ∉ b := fun z => c3 (by simpa using z)
    exact kk _ (((S3.grow s37).put dl d0 (s37 _ _ eq3) lq (fun x hx => (tq3 x hx).same s37) ⟨_, e7, rise_add rb j30 j31 nm (isort_perm _) (isort_le _)⟩).mono (by omega) (Nat.le_refl _) (Nat.le_refl _))
end
end My
set_option Elab.async false
set_option linter.all false
set_option maxRecDepth 100000
namespace My
open PySem PySem.Spec L2
local macro_rules | `(tactic| walk_at "rd1") => `(tactic| first
  | with_reducible refine r_seq ?_ | with_reducible refine r_asg ?_ | with_reducible refine r_name ?_ | with_reducible refine r_ret ?_ | with_reducible refine r_drop ?_ | with_reducible refine r_ifs ?_ | with_reducible refine r_next ?_
  | with_reducible refine r_var rfl ?_ | with_reducible refine r_c ?_ | with_reducible refine r_op ?_ | with_reducible refine r_I0 ?_
  | with_reducible refine r_test ?_ | with_reducible refine r_b ?_ | with_reducible refine r_k ?_ | with_reducible refine r_cons ?_ | with_reducible refine r_nil ?_ | with_reducible refine r_call ?_ | with_reducible refine r_cb ?_
  | with_reducible refine r_lst ?_ | with_reducible refine r_tup ?_ | with_reducible refine r_sub ?_ | with_reducible refine r_andV ?_ | with_reducible refine r_orV ?_ | with_reducible refine r_notV ?_
  | with_reducible refine r_and ?_ | with_reducible refine r_or ?_ | with_reducible refine r_not ?_ | with_reducible refine r_eqI ?_ | with_reducible refine r_neI ?_ | with_reducible refine r_aug rfl ?_ | with_reducible refine r_ipI ?_ | with_reducible refine r_un ?_
  | with_reducible refine r_bm ?_ | with_reducible refine r_bm0 ?_ | with_reducible refine r_yes ?_
  | with_reducible refine r_dnewT ?_ | with_reducible refine r_dget2 ?_ 
  | with_reducible refine r_U ?_ | with_reducible refine r_lit ?_
  | with_reducible refine r_fb ?_ | with_reducible refine r_m1 ?_ | with_reducible refine r_augS ?_ | with_reducible refine r_isNn ?_ | with_reducible refine r_notNn ?_ | with_reducible refine r_isNr ?_ | with_reducible refine r_notNr ?_ | with_reducible refine r_tru ?_ | with_reducible refine r_count ?_
  | with_reducible refine r_for ?_ | with_reducible refine r_dc ?_ | with_reducible refine r_lc ?_ | with_reducible refine r_sc ?_ | with_reducible refine r_zipN ?_ | with_reducible refine r_ifX ?_ | with_reducible refine r_zip3 ?_ | with_reducible refine r_rng1 ?_ | with_reducible refine r_rng2 ?_ | with_reducible refine r_ilist ?_ | with_reducible refine r_itup ?_ | with_reducible refine r_enum ?_
  | with_reducible refine r_sl ?_ | with_reducible refine r_nopart ?_ | with_reducible refine r_part ?_ | with_reducible refine r_int ?_ | with_reducible refine r_gcons ?_ | with_reducible refine r_gnil ?_ | with_reducible refine r_revT ?_
  | with_reducible refine r_intB (fun z hz z0 z1 => ?_) | with_reducible refine r_intI ?_ | with_reducible refine r_min2 ?_ | with_reducible refine r_max2 ?_ | with_reducible refine r_rng1V ?_ | with_reducible refine r_rng2V ?_
  | with_reducible refine r_dget ?_ | with_reducible refine r_disp ?_ | with_reducible refine r_pcons ?_ | with_reducible refine r_pnil ?_ | with_reducible refine r_enumT ?_ | with_reducible refine r_zip ?_ | with_reducible refine r_abs (fun z hz z0 => ?_)
  | with_reducible refine r_try ?_ | with_reducible refine r_try0 ?_ | with_reducible refine r_dropX ?_ | with_reducible refine r_setX ?_ | with_reducible refine r_callX ?_ | with_reducible refine r_methX ?_ | with_reducible refine r_raise ?_
  | with_reducible refine r_zipI ?_ | with_reducible refine r_zipT ?_ | with_reducible refine r_sfld ?_ | with_reducible refine r_fld ?_ | with_reducible refine r_meth ?_ | with_reducible refine r_make ?_ | with_reducible refine r_notC ?_ | with_reducible refine r_revS ?_ | with_reducible refine r_rev ?_ | with_reducible refine r_dputK ?_ | with_reducible refine r_chain4 ?_ | with_reducible refine r_chain3 ?_ | with_reducible refine r_chain ?_ | with_reducible refine r_din ?_ | with_reducible refine r_dnotin ?_ | with_reducible refine r_ifE ?_
  | ((with_reducible show cIsiR _ _ _ _ _); first | with_reducible refine r_itT (by first | assumption | exact upd_same) ?_ | with_reducible refine r_itL (by first | assumption | exact upd_same) ?_)
  | ((with_reducible show kDGet _ _ _ _); with_reducible refine pot_g (by first | assumption | exact upd_same) ?_) | ((with_reducible show kDGet _ _ _ _); with_reducible refine pot_s (by first | assumption | exact upd_same) ?_) | ((with_reducible show kDGet _ _ _ _); with_reducible refine pot_t (by first | assumption | exact upd_same) ?_)
  | ((with_reducible show kDPut _ _ _ _ _); with_reducible refine pot_pg (by first | assumption | exact upd_same) ?_) | ((with_reducible show kDPut _ _ _ _ _); with_reducible refine pot_pt (by first | assumption | exact upd_same) ?_)
  | with_reducible refine iteT ?_ | with_reducible refine iteF ?_ | with_reducible refine r_nf ?_ | with_reducible refine r_nt ?_
  | with_reducible refine r_ii ?_ | with_reducible refine r_ib ?_
  | ((with_reducible show rIxLF _ _ _ _); with_reducible refine r_ixL (by first | assumption | exact upd_same) rfl ?_)
  | ((with_reducible show rIxTF _ _ _ _); with_reducible refine r_ixT (by first | assumption | exact upd_same) rfl ?_)
  | ((with_reducible show rSetL _ _ _ _ _); with_reducible refine r_setL (by first | assumption | exact upd_same) rfl ?_)
  | ((with_reducible show cLen _ _ _); with_reducible refine r_len (by first | exact sqAt_lst (by assumption) | exact sqAt_tup (by assumption) | exact sqAt_lst upd_same | exact sqAt_tup upd_same) ?_)
  | ((with_reducible show rSlLF _ _ _ _ _); with_reducible refine r_slL (by first | assumption | exact upd_same) ?_)
  | ((with_reducible show gTupF _ _ _ _ _ _); with_reducible refine r_gtup (by first | assumption | exact upd_same) rfl ?_)
  | ((with_reducible show rI _ _ _ _ _ _); first | with_reducible refine r_mod (by omega) ?_ | with_reducible refine r_div (by omega) (by omega) ?_ | with_reducible refine r_mulL (by omega) (by omega) ?_ | with_reducible refine r_mulR (by omega) (by omega) ?_ | with_reducible refine r_pow (by omega) (by omega) (by decide) ?_))
local macro_rules | `(tactic| walk_at "rd") => `(tactic| repeat (first | walk_at "rd1" | (dsimp only; walk_at "rd1")))
theorem days_lb {H0 H : Hp} {m c : Nat} : ∀ ps : List Addr, (∀ p ∈ ps, DayT H0 m c H p) → ∃ ds : List (List (List Int)), Paired (Blks H) ps ds ∧ (∀ d ∈ ds, d.length ≤ c) ∧ ∀ d ∈ ds, ∀ b ∈ d, Rise2 m b
  | [], _ => ⟨[], .nil, (fun d hd => by cases hd), (fun d hd => by cases hd)⟩
  | p :: ps, h => by
    obtain ⟨ds, pr, lc, rb⟩ := days_lb ps fun y hy => h y (List.mem_cons_of_mem _ hy)
    obtain ⟨_, qs, eq, lq, tq⟩ := h p List.mem_cons_self
    obtain ⟨bs, tb, rbs⟩ := tupT_all qs tq
    refine ⟨bs :: ds, .cons ⟨qs, eq, tb⟩ pr, fun d hd => ?_, fun d hd => ?_⟩
    · rcases List.mem_cons.mp hd with rfl | hd
      · rw [← tb.1]; exact lq
      · exact lc d hd
    · rcases List.mem_cons.mp hd with rfl | hd
      · exact rbs
      · exact rb d hd
theorem r_eqEL {K : PySem.W.Frag} {H0 H : Hp} {Q : VK} {a b : Addr} {m c : Nat} {ps : List Addr} (ha : H a = some (.lst (ps.map V.ref))) (t : ∀ p ∈ ps, DayT H0 m c H p) (hb : H b = some (.lst [])) (h : Q (.bl (decide (ps = []))) H) : rEqD K (.ref a) (.ref b) H Q := by
  obtain ⟨ds, pr, _⟩ := days_lb ps t
  have B1 : LB H a ds := ⟨ps, ha, pr⟩
  have B2 : LB H b [] := ⟨[], hb, .nil⟩
  have l := Pd.len pr
  have e : decide (ps = []) = decide (ds = []) := by
    cases ps <;> cases ds <;> simp at l <;> simp
  rw [e] at h
  exact ⟨_, _, dp_lb B1, dp_lb B2, sh_lb _, sh_lb _, by show Q (.bl (PyData.eqvAll (dL2 ds) (dL2 []))) H; rw [eqvA_lb]; exact h⟩
def spOtherwise : Sp := fun vs H Q _ => ∃ (H0 : Hp) (q l : Addr) (m n c e : Nat), vs = [.ref q, .int (m : Nat), .ref l] ∧ DSt H0 q l m n c e H ∧ n < 800000 ∧ c < 900 ∧ e < 900 ∧ 1 ≤ m ∧ m ≤ 40 ∧
  ∀ H', DSt H0 q l m (n + 12) (c + 2) (e + 1) H' → Q .non H'
section
variable {P : Program} {w : World} {K : PySem.W.Frag} {mg : Str → Option Value} {base : Heap}
structure TxOtherwise (P : Program) (w : World) (K : PySem.W.Frag) (mg : Str → Option Value) (base : Heap) : Prop where
  len : mg "len" = none
  _law_draw : Has P w K mg base 1 "_law_draw" ["_law_pot_here", "_law_many"] spDraw
  _law_other_day : Has P w K mg base 2 "_law_other_day" ["_law_pot_here", "_law_days"] spOtherDay
  _law_other_block : Has P w K mg base 2 "_law_other_block" ["_law_pot_here", "_law_many", "_law_day"] spOtherBlock
abbrev sOtherwise : Stmt := top 10
theorem scOtherwise : FnScope ["_law_pot_here", "_law_many", "_law_days", "_law_way", "_law_place"] ["_law_pot_here", "_law_many", "_law_days"] (defScope sOtherwise) := ⟨rfl, rfl, rfl, by decide +kernel, rfl, by decide +kernel, by decide +kernel⟩
set_option maxHeartbeats 2000000 in
theorem has_otherwise (F : FunAt K mg "_law_otherwise" sOtherwise ["_law_pot_here", "_law_many", "_law_days"]) (T : TxOtherwise P w K mg base) : Has P w K mg base 3 "_law_otherwise" ["_law_pot_here", "_law_many", "_law_days"] spOtherwise := by
  refine F.has scOtherwise (fun vs H Q E h => ?_) (fun f cdv A outer s H vs Q E hr h => ?_)
  · obtain ⟨H0, q, l, m, n, c, e, rfl, _⟩ := h
    rfl
  obtain ⟨H0, q, l, m, n, c, e, rfl, S, n1, c1, e1, m1, m40, kk⟩ := h
  refine ⟨_, (pss_cons (ps_set (i := 3) scOtherwise.nd rfl (Or.inl rfl) (pcall T._law_draw hr (by decide) (by rfl) (pa_cons (pv 0) (pa_cons pe_int pa_nil))))
    (pss_cons (ps_if (PW.pt (pw_or (pt_cmpR (op_eqD hr.units) (pv 2) (pe_lst pa_nil) (nomark _)) (pw_or1 (pt_cmpR op_eq (pv 3) pe_int (nomark _)))))
    (pss_cons (ps_expr (pe_bm PySem.F.plainAttrs_list PySem.F.slot_list_insert PySem.F.type_list_insert mt_insert (pv 2) (pa_cons (pcall T._law_draw hr (by decide) (by rfl) (pa_cons (pv 0) (pa_cons (pe_op op_add (pe_callB k_len (by rfl) T.len (by decide +kernel) (pa_cons (pv 2) pa_nil)) pe_int) pa_nil))) (pa_cons (pe_lst pa_nil) pa_nil))))
      (pss_one ps_retN))
    pss_nil)
    (pss_cons (ps_set (i := 4) scOtherwise.nd rfl (Or.inl rfl) (pcall T._law_draw hr (by decide) (by rfl) (pa_cons (pv 0) (pa_cons (pe_callB k_len (by rfl) T.len (by decide +kernel) (pa_cons (pv 2) pa_nil)) pa_nil))))
    (pss_one (ps_if (pt_cmpR op_lt (pv 3) pe_int (nomark _))
    (pss_one (ps_expr (pcall T._law_other_day hr (by decide) (by rfl) (pa_cons (pv 0) (pa_cons (pv 2) pa_nil)))))
    (pss_one (ps_if (pt_cmpR op_lt (pv 3) pe_int (nomark _))
      (pss_one (ps_expr (pcall T._law_other_block hr (by decide) (by rfl) (pa_cons (pv 0) (pa_cons (pv 1) (pa_cons (pe_ix ix_listF (pv 2) (pv 4) (fun _ _ => rfl)) pa_nil))))))
      (pss_one (ps_if (pt_cmpR op_eq (pv 3) pe_int (nomark _))
        (pss_one (ps_expr (pe_bm PySem.F.plainAttrs_list PySem.F.slot_list_pop PySem.F.type_list_pop mt_popAt (pv 2) (pa_cons (pv 4) pa_nil))))
        (pss_one (ps_if (PW.pt (pw_and (pt_cmpR op_eq (pv 3) pe_int (nomark _)) (pw_and1 (pt_cmpR (op_neD hr.units) (pe_ix ix_listF (pv 2) (pv 4) (fun _ _ => rfl)) (pe_lst pa_nil) (nomark _)))))
          (pss_one (ps_expr (pe_bm PySem.F.plainAttrs_list PySem.F.slot_list_pop PySem.F.type_list_pop mt_popAt (pe_ix ix_listF (pv 2) (pv 4) (fun _ _ => rfl)) (pa_cons (pcall T._law_draw hr (by decide) (by rfl) (pa_cons (pv 0) (pa_cons (pe_callB k_len (by rfl) T.len (by decide +kernel) (pa_cons (pe_ix ix_listF (pv 2) (pv 4) (fun _ _ => rfl)) pa_nil)) pa_nil))) pa_nil))))
          (pss_one (ps_if (pt_cmpR (op_neD hr.units) (pe_ix ix_listF (pv 2) (pv 4) (fun _ _ => rfl)) (pe_lst pa_nil) (nomark _))
            (pss_one (ps_expr (pe_bm PySem.F.plainAttrs_list PySem.F.slot_list_append PySem.F.type_list_append mt_append (pe_ix ix_listF (pv 2) (pv 4) (fun _ _ => rfl)) (pa_cons (pe_ix ix_listF (pe_ix ix_listF (pv 2) (pv 4) (fun _ _ => rfl)) (pcall T._law_draw hr (by decide) (by rfl) (pa_cons (pv 0) (pa_cons (pe_callB k_len (by rfl) T.len (by decide +kernel) (pa_cons (pe_ix ix_listF (pv 2) (pv 4) (fun _ _ => rfl)) pa_nil)) pa_nil))) (fun _ _ => rfl)) pa_nil))))
            pss_nil))))))))))))), ?_⟩
  walk_at "rd"
  refine ⟨q, _, _, rfl, S.pot, by omega, by omega, by omega, fun way H1 w0 w1 p1 z1 => ?_⟩
  have S1 := S.draw p1 z1
  obtain ⟨ps, el1, lp, r1⟩ := S1.ex
  walk_at "rd"
  refine ⟨Nat.le_of_ble_eq_true rfl, ?_⟩
  intro x2 hx2
  obtain ⟨H2, s2, e2, eq_x2⟩ : ∃ Hx, Same _ Hx ∧ Hx x2 = some _ ∧ upd _ x2 _ = Hx := ⟨_, Same.new hx2 _, upd_same, rfl⟩
  rw [eq_x2]; clear eq_x2
  have S2 := S1.grow s2
  have el2 := s2 _ _ el1
  refine r_eqEL el2 (fun p hp => (r1 p hp).2.same s2) e2 ?_
  have ins : ∀ {H3 H4 : Hp} {j : Int} {x : Addr}, DSt H0 q l m (n + 2) c e H3 → H3 l = some (.lst (ps.map V.ref)) → H3 x = none → Same H3 H4 → H4 x = some (.lst []) → DSt H0 q l m (n + 12) (c + 2) (e + 1) (upd H4 l (.lst ((ps.map V.ref).take j.toNat ++ V.ref x :: (ps.map V.ref).drop j.toNat))) := by
    intro H3 H4 j x S3 el3 hx s4 ex
    rw [← List.map_take, ← List.map_drop, ← List.map_cons, ← List.map_append]
    have S4 := S3.grow s4
    have x0 : H0 x = none := S3.same.free hx
    have xl : x ≠ l := fun z => by subst z; rw [el3] at hx; cases hx
    refine (S4.setDays (ps := ps.take j.toNat ++ x :: ps.drop j.toNat) (e' := e + 1) (by rw [List.length_append, List.length_cons, List.length_take, List.length_drop]; omega) (fun p hp => ?_)).mono (by omega) (by omega) (Nat.le_refl _)
    rcases List.mem_append.mp hp with hp | hp
    · obtain ⟨k, hk⟩ := List.getElem?_of_mem (List.mem_of_mem_take hp)
      exact S4.day (s4 _ _ el3) hk
    rcases List.mem_cons.mp hp with rfl | hp
    · exact ⟨xl, x0, [], ex, Nat.zero_le _, fun y hy => by cases hy⟩
    · obtain ⟨k, hk⟩ := List.getElem?_of_mem (List.mem_of_mem_drop hp)
      exact S4.day (s4 _ _ el3) hk
  by_cases c0 : ps = []
  · rw [decide_eq_true c0]
    walk_at "rd"
    refine ⟨.inl ⟨rfl, _, SqL.of el2⟩, ?_⟩
    walk_at "rd"
    rw [List.length_map]
    refine ⟨q, ((ps.length : Nat) : Int) + 1, _, rfl, S2.pot, by omega, by omega, by omega, fun j3 H3 j30 j31 p3 z3 => ?_⟩
    have S3 := S2.draw p3 z3
    have el3 := z3 _ _ el2 (fun z => by subst z; exact S2.pot.no_lst el2)
    walk_at "rd"
    refine ⟨Nat.le_of_ble_eq_true rfl, ?_⟩
    intro x4 hx4
    obtain ⟨H4, s4, e4, eq_x4⟩ : ∃ Hx, Same _ Hx ∧ Hx x4 = some _ ∧ upd _ x4 _ = Hx := ⟨_, Same.new hx4 _, upd_same, rfl⟩
    rw [eq_x4]; clear eq_x4
    refine r_insert (s4 _ _ el3) j30 (by omega) (by rw [List.length_map]; show _ < 16777216; omega) ?_
    walk_at "rd"
    exact kk _ (ins S3 el3 hx4 s4 e4)
  rw [decide_eq_false c0]
  have pp := len_pos c0
  walk_at "rd"
  by_cases cw : way = 0
  · rw [decide_eq_true cw]
    walk_at "rd"
    refine ⟨.inl ⟨rfl, _, SqL.of el2⟩, ?_⟩
    walk_at "rd"
    rw [List.length_map]
    refine ⟨q, ((ps.length : Nat) : Int) + 1, _, rfl, S2.pot, by omega, by omega, by omega, fun j3 H3 j30 j31 p3 z3 => ?_⟩
    have S3 := S2.draw p3 z3
    have el3 := z3 _ _ el2 (fun z => by subst z; exact S2.pot.no_lst el2)
    walk_at "rd"
    refine ⟨Nat.le_of_ble_eq_true rfl, ?_⟩
    intro x4 hx4
    obtain ⟨H4, s4, e4, eq_x4⟩ : ∃ Hx, Same _ Hx ∧ Hx x4 = some _ ∧ upd _ x4 _ = Hx := ⟨_, Same.new hx4 _, upd_same, rfl⟩
    rw [eq_x4]; clear eq_x4
    refine r_insert (s4 _ _ el3) j30 (by omega) (by rw [List.length_map]; show _ < 16777216; omega) ?_
    walk_at "rd"
    exact kk _ (ins S3 el3 hx4 s4 e4)
  rw [decide_eq_false cw]
  walk_at "rd"
  rw [List.length_map]
  refine ⟨q, (ps.length : Nat), _, rfl, S2.pot, by omega, by omega, by omega, fun j3 H3 j30 j31 p3 z3 => ?_⟩
  have S3 := S2.draw p3 z3
  have el3 := z3 _ _ el2 (fun z => by subst z; exact S2.pot.no_lst el2)
  obtain ⟨k, rfl⟩ : ∃ k : Nat, j3 = (k : Int) := ⟨j3.toNat, by omega⟩
  obtain ⟨d, hd⟩ : ∃ d, ps[k]? = some d := ⟨_, List.getElem?_eq_getElem (by omega)⟩
  have atd : atI (ps.map V.ref) (k : Int) = some (.ref d) := atI_nat (by rw [List.getElem?_map, hd]; rfl)
  obtain ⟨dl, d0, qs, eq, lq, tq⟩ := S3.day el3 hd
  walk_at "rd"
  refine r_if (fun c4 => ?_) (fun c4 => ?_)
  · walk_at "rd"
    refine ⟨H0, q, l, m, _, c, e, _, rfl, S3, by omega, by omega, by omega, el3, ?_, fun H4 S4 => ?_⟩
    · intro z
      exact c0 (List.map_eq_nil_iff.mp z)
    · walk_at "rd"
      exact kk _ (S4.mono (by omega) (by omega) (by omega))
  walk_at "rd"
  refine r_if (fun c5 => ?_) (fun c5 => ?_)
  · walk_at "rd"
    refine r_ixL el3 atd ?_
    walk_at "rd"
    refine ⟨H0, q, l, d, m, _, c, e, qs, rfl, S3, by omega, by omega, m1, m40, dl, d0, eq, lq, tq, fun H4 S4 => ?_⟩
    walk_at "rd"
    exact kk _ (S4.mono (by omega) (by omega) (by omega))
  walk_at "rd"
  refine r_if (fun c6 => ?_) (fun c6 => ?_)
  · walk_at "rd"
    refine ⟨.inl ⟨rfl, _, SqL.of el3⟩, ?_⟩
    walk_at "rd"
    refine r_popAt (y := .ref d) el3 (by omega) (by omega) (by rw [Int.toNat_natCast, List.getElem?_map, hd]; rfl) ?_
    rw [Int.toNat_natCast, erase_map]
    walk_at "rd"
    refine kk _ ((S3.setDays (ps := ps.eraseIdx k) (e' := e) ?_ (fun p hp => ?_)).mono (by omega) (by omega) (by omega))
    · have := List.length_eraseIdx_le ps k
      omega
    · obtain ⟨k', hk'⟩ := List.getElem?_of_mem (List.mem_of_mem_eraseIdx hp)
      exact S3.day el3 hk'
  walk_at "rd"
  by_cases c7 : way = 9
  · rw [decide_eq_true c7]
    walk_at "rd"
    refine r_ixL el3 atd ?_
    walk_at "rd"
    refine ⟨Nat.le_of_ble_eq_true rfl, ?_⟩
    intro x4 hx4
    obtain ⟨H4, s4, e4, eq_x4⟩ : ∃ Hx, Same _ Hx ∧ Hx x4 = some _ ∧ upd _ x4 _ = Hx := ⟨_, Same.new hx4 _, upd_same, rfl⟩
    rw [eq_x4]; clear eq_x4
    refine r_neE (s4 _ _ eq) (fun x hx => (tq x hx).same s4) e4 ?_
    have S4 := S3.grow s4
    have el4 := s4 _ _ el3
    have eq4 := s4 _ _ eq
    have tq4 : ∀ x ∈ qs, TupT m H4 x := fun x hx => (tq x hx).same s4
    by_cases c8 : qs = []
    · rw [decide_eq_true c8]
      walk_at "rd"
      refine r_ixL el4 atd ?_
      walk_at "rd"
      refine ⟨Nat.le_of_ble_eq_true rfl, ?_⟩
      intro x5 hx5
      obtain ⟨H5, s5, e5, eq_x5⟩ : ∃ Hx, Same _ Hx ∧ Hx x5 = some _ ∧ upd _ x5 _ = Hx := ⟨_, Same.new hx5 _, upd_same, rfl⟩
      rw [eq_x5]; clear eq_x5
      refine r_neE (s5 _ _ eq4) (fun x hx => (tq4 x hx).same s5) e5 ?_
      rw [decide_eq_true c8]
      walk_at "rd"
      exact kk _ ((S4.grow s5).mono (by omega) (by omega) (by omega))
    rw [decide_eq_false c8]
    have qp := len_pos c8
    walk_at "rd"
    refine r_ixL el4 atd ?_
    refine ⟨.inl ⟨rfl, _, SqL.of eq4⟩, ?_⟩
    walk_at "rd"
    refine r_ixL el4 atd ?_
    walk_at "rd"
    rw [List.length_map]
    refine ⟨q, (qs.length : Nat), _, rfl, S4.pot, by omega, by omega, by omega, fun j5 H5 j50 j51 p5 z5 => ?_⟩
    have S5 := S4.draw p5 z5
    have eq5 := z5 _ _ eq4 (fun z => by subst z; exact S4.pot.no_lst eq4)
    have tq5 : ∀ x ∈ qs, TupT m H5 x := fun x hx => (tq4 x hx).draw S4.pot z5
    obtain ⟨k5, rfl⟩ : ∃ k : Nat, j5 = (k : Int) := ⟨j5.toNat, by omega⟩
    obtain ⟨x1, hx1⟩ : ∃ d, qs[k5]? = some d := ⟨_, List.getElem?_eq_getElem (by omega)⟩
    walk_at "rd"
    refine r_popAt (y := .ref x1) eq5 (by omega) (by omega) (by rw [Int.toNat_natCast, List.getElem?_map, hx1]; rfl) ?_
    rw [Int.toNat_natCast, erase_map]
    have er : (qs.eraseIdx k5).length ≤ c := by
      have := List.length_eraseIdx_le qs k5
      omega
    walk_at "rd"
    exact kk _ ((S5.setDay (qs := qs.eraseIdx k5) d0 dl eq5 er (Nat.le_refl _) (fun x hx => tq5 x (List.mem_of_mem_eraseIdx hx))).mono (by omega) (by omega) (by omega))
  rw [decide_eq_false c7]
  walk_at "rd"
  refine r_ixL el3 atd ?_
  walk_at "rd"
  refine ⟨Nat.le_of_ble_eq_true rfl, ?_⟩
  intro x4 hx4
  obtain ⟨H4, s4, e4, eq_x4⟩ : ∃ Hx, Same _ Hx ∧ Hx x4 = some _ ∧ upd _ x4 _ = Hx := ⟨_, Same.new hx4 _, upd_same, rfl⟩
  rw [eq_x4]; clear eq_x4
  refine r_neE (s4 _ _ eq) (fun x hx => (tq x hx).same s4) e4 ?_
  have S4 := S3.grow s4
  have el4 := s4 _ _ el3
  have eq4 := s4 _ _ eq
  have tq4 : ∀ x ∈ qs, TupT m H4 x := fun x hx => (tq x hx).same s4
  by_cases c8 : qs = []
  · rw [decide_eq_true c8]
    walk_at "rd"
    exact kk _ (S4.mono (by omega) (by omega) (by omega))
  rw [decide_eq_false c8]
  have qp := len_pos c8
  walk_at "rd"
  refine r_ixL el4 atd ?_
  refine ⟨.inl ⟨rfl, _, SqL.of eq4⟩, ?_⟩
  walk_at "rd"
  refine r_ixL el4 atd ?_
  walk_at "rd"
  refine r_ixL el4 atd ?_
  walk_at "rd"
  rw [List.length_map]
  refine ⟨q, (qs.length : Nat), _, rfl, S4.pot, by omega, by omega, by omega, fun j5 H5 j50 j51 p5 z5 => ?_⟩
  have S5 := S4.draw p5 z5
  have eq5 := z5 _ _ eq4 (fun z => by subst z; exact S4.pot.no_lst eq4)
  have tq5 : ∀ x ∈ qs, TupT m H5 x := fun x hx => (tq4 x hx).draw S4.pot z5
  obtain ⟨k5, rfl⟩ : ∃ k : Nat, j5 = (k : Int) := ⟨j5.toNat, by omega⟩
  obtain ⟨x1, hx1⟩ : ∃ d, qs[k5]? = some d := ⟨_, List.getElem?_eq_getElem (by omega)⟩
  walk_at "rd"
  refine r_ixL (v := .ref x1) eq5 (atI_nat (by rw [List.getElem?_map, hx1]; rfl)) ?_
  walk_at "rd"
  refine r_append eq5 (by rw [List.length_map]; show _ < 16777216; omega) ?_
  exact kk _ ((S5.push dl d0 eq5 lq tq5 (tq5 x1 (List.mem_of_getElem? hx1))).mono (by omega) (by omega) (by omega))
end
end My
set_option Elab.async false
set_option linter.all false
set_option maxRecDepth 100000
namespace My
open PySem PySem.Spec L2
local macro_rules | `(tactic| walk_at "rd1") => `(tactic| first
  | with_reducible refine r_seq ?_ | with_reducible refine r_asg ?_ | with_reducible refine r_name ?_ | with_reducible refine r_ret ?_ | with_reducible refine r_drop ?_ | with_reducible refine r_ifs ?_ | with_reducible refine r_next ?_
  | with_reducible refine r_var rfl ?_ | with_reducible refine r_c ?_ | with_reducible refine r_op ?_ | with_reducible refine r_I0 ?_
  | with_reducible refine r_test ?_ | with_reducible refine r_b ?_ | with_reducible refine r_k ?_ | with_reducible refine r_cons ?_ | with_reducible refine r_nil ?_ | with_reducible refine r_call ?_ | with_reducible refine r_cb ?_
  | with_reducible refine r_lst ?_ | with_reducible refine r_tup ?_ | with_reducible refine r_sub ?_ | with_reducible refine r_andV ?_ | with_reducible refine r_orV ?_ | with_reducible refine r_notV ?_
  | with_reducible refine r_and ?_ | with_reducible refine r_or ?_ | with_reducible refine r_not ?_ | with_reducible refine r_eqI ?_ | with_reducible refine r_neI ?_ | with_reducible refine r_aug rfl ?_ | with_reducible refine r_ipI ?_ | with_reducible refine r_un ?_
  | with_reducible refine r_bm ?_ | with_reducible refine r_bm0 ?_ | with_reducible refine r_yes ?_
  | with_reducible refine r_dnewT ?_ | with_reducible refine r_dget2 ?_ 
  | with_reducible refine r_U ?_ | with_reducible refine r_lit ?_
  | with_reducible refine r_fb ?_ | with_reducible refine r_m1 ?_ | with_reducible refine r_augS ?_ | with_reducible refine r_isNn ?_ | with_reducible refine r_notNn ?_ | with_reducible refine r_isNr ?_ | with_reducible refine r_notNr ?_ | with_reducible refine r_tru ?_ | with_reducible refine r_count ?_
  | with_reducible refine r_for ?_ | with_reducible refine r_dc ?_ | with_reducible refine r_lc ?_ | with_reducible refine r_sc ?_ | with_reducible refine r_zipN ?_ | with_reducible refine r_ifX ?_ | with_reducible refine r_zip3 ?_ | with_reducible refine r_rng1 ?_ | with_reducible refine r_rng2 ?_ | with_reducible refine r_ilist ?_ | with_reducible refine r_itup ?_ | with_reducible refine r_enum ?_
  | with_reducible refine r_sl ?_ | with_reducible refine r_nopart ?_ | with_reducible refine r_part ?_ | with_reducible refine r_int ?_ | with_reducible refine r_gcons ?_ | with_reducible refine r_gnil ?_ | with_reducible refine r_revT ?_
  | with_reducible refine r_intB (fun z hz z0 z1 => ?_) | with_reducible refine r_intI ?_ | with_reducible refine r_min2 ?_ | with_reducible refine r_max2 ?_ | with_reducible refine r_rng1V ?_ | with_reducible refine r_rng2V ?_
  | with_reducible refine r_dget ?_ | with_reducible refine r_disp ?_ | with_reducible refine r_pcons ?_ | with_reducible refine r_pnil ?_ | with_reducible refine r_enumT ?_ | with_reducible refine r_zip ?_ | with_reducible refine r_abs (fun z hz z0 => ?_)
  | with_reducible refine r_try ?_ | with_reducible refine r_try0 ?_ | with_reducible refine r_dropX ?_ | with_reducible refine r_setX ?_ | with_reducible refine r_callX ?_ | with_reducible refine r_methX ?_ | with_reducible refine r_raise ?_
  | with_reducible refine r_zipI ?_ | with_reducible refine r_zipT ?_ | with_reducible refine r_sfld ?_ | with_reducible refine r_fld ?_ | with_reducible refine r_meth ?_ | with_reducible refine r_make ?_ | with_reducible refine r_notC ?_ | with_reducible refine r_revS ?_ | with_reducible refine r_rev ?_ | with_reducible refine r_dputK ?_ | with_reducible refine r_chain4 ?_ | with_reducible refine r_chain3 ?_ | with_reducible refine r_chain ?_ | with_reducible refine r_din ?_ | with_reducible refine r_dnotin ?_ | with_reducible refine r_ifE ?_
  | ((with_reducible show cIsiR _ _ _ _ _); first | with_reducible refine r_itT (by first | assumption | exact upd_same) ?_ | with_reducible refine r_itL (by first | assumption | exact upd_same) ?_)
  | ((with_reducible show kDGet _ _ _ _); with_reducible refine pot_g (by first | assumption | exact upd_same) ?_) | ((with_reducible show kDGet _ _ _ _); with_reducible refine pot_s (by first | assumption | exact upd_same) ?_) | ((with_reducible show kDGet _ _ _ _); with_reducible refine pot_t (by first | assumption | exact upd_same) ?_)
  | ((with_reducible show kDPut _ _ _ _ _); with_reducible refine pot_pg (by first | assumption | exact upd_same) ?_) | ((with_reducible show kDPut _ _ _ _ _); with_reducible refine pot_pt (by first | assumption | exact upd_same) ?_)
  | with_reducible refine iteT ?_ | with_reducible refine iteF ?_ | with_reducible refine r_nf ?_ | with_reducible refine r_nt ?_
  | with_reducible refine r_ii ?_ | with_reducible refine r_ib ?_
  | ((with_reducible show rIxLF _ _ _ _); with_reducible refine r_ixL (by first | assumption | exact upd_same) rfl ?_)
  | ((with_reducible show rIxTF _ _ _ _); with_reducible refine r_ixT (by first | assumption | exact upd_same) rfl ?_)
  | ((with_reducible show rSetL _ _ _ _ _); with_reducible refine r_setL (by first | assumption | exact upd_same) rfl ?_)
  | ((with_reducible show cLen _ _ _); with_reducible refine r_len (by first | exact sqAt_lst (by assumption) | exact sqAt_tup (by assumption) | exact sqAt_lst upd_same | exact sqAt_tup upd_same) ?_)
  | ((with_reducible show rSlLF _ _ _ _ _); with_reducible refine r_slL (by first | assumption | exact upd_same) ?_)
  | ((with_reducible show gTupF _ _ _ _ _ _); with_reducible refine r_gtup (by first | assumption | exact upd_same) rfl ?_)
  | ((with_reducible show rI _ _ _ _ _ _); first | with_reducible refine r_mod (by omega) ?_ | with_reducible refine r_div (by omega) (by omega) ?_ | with_reducible refine r_mulL (by omega) (by omega) ?_ | with_reducible refine r_mulR (by omega) (by omega) ?_ | with_reducible refine r_pow (by omega) (by omega) (by decide) ?_))
local macro_rules | `(tactic| walk_at "rd") => `(tactic| repeat (first | walk_at "rd1" | (dsimp only; walk_at "rd1")))
theorem tups_T {m : Nat} {H : Hp} {xs : List Addr} {bs : List (List Int)} (h : TupsAt H xs bs) (r : ∀ b ∈ bs, Rise2 m b) : ∀ x ∈ xs, TupT m H x := fun x hx => by
  obtain ⟨i, hi⟩ := List.getElem?_of_mem hx
  obtain ⟨b, hb, e⟩ := h.get hi
  exact ⟨b, e, r b (List.mem_of_getElem? hb)⟩
def spMixed : Sp := fun vs H Q _ => ∃ (q b : Addr) (m n : Nat) (xs : List Addr), vs = [.ref q, .ref b] ∧ PotAt n H q ∧ n < 800000 ∧ H b = some (.lst (xs.map V.ref)) ∧ xs.length ≤ 1000 ∧ (∀ x ∈ xs, TupT m H x) ∧
  ∀ r (ys : List Addr) H', H r = none → Sam1 q H H' → PotAt (n + 1000) H' q → H' r = some (.lst (ys.map V.ref)) → ys.length = xs.length → (∀ y ∈ ys, TupT m H' y) → Q (.ref r) H'
section
variable {P : Program} {w : World} {K : PySem.W.Frag} {mg : Str → Option Value} {base : Heap}
structure TxMixed (P : Program) (w : World) (K : PySem.W.Frag) (mg : Str → Option Value) (base : Heap) : Prop where
  len : mg "len" = none
  list : mg "list" = none
  range : mg "range" = none
  _law_draw : Has P w K mg base 1 "_law_draw" ["_law_pot_here", "_law_many"] spDraw
abbrev sMixedUp : Stmt := top 7
theorem scMixedUp : FnScope ["_law_pot_here", "_law_blocks", "_law_some", "_law_k"] ["_law_pot_here", "_law_blocks"] (defScope sMixedUp) := ⟨rfl, rfl, rfl, by decide +kernel, rfl, by decide +kernel, by decide +kernel⟩
set_option maxHeartbeats 2000000 in
theorem has_mixed (F : FunAt K mg "_law_mixed_up" sMixedUp ["_law_pot_here", "_law_blocks"]) (T : TxMixed P w K mg base) : Has P w K mg base 2 "_law_mixed_up" ["_law_pot_here", "_law_blocks"] spMixed := by
  refine F.has scMixedUp (fun vs H Q E h => ?_) (fun f cdv A outer s H vs Q E hr h => ?_)
  · obtain ⟨q, b, m, n, xs, rfl, _⟩ := h
    rfl
  obtain ⟨q, b, m, n, xs, rfl, po, n1, eb, lx, tx, kk⟩ := h
  refine ⟨_, (pss_cons (ps_set (i := 2) scMixedUp.nd rfl (Or.inr rfl) (pe_callTy k_list (by rfl) T.list (by decide +kernel) (pa_cons (pv 1) pa_nil)))
    (pss_one (ps_ret (pe_lc (own := [("_law_k", 3)]) (g := gName 3) (by rfl) scMixedUp.nd (pi_range1 (by rfl) T.range (pa_cons (pe_callB k_len (by rfl) T.len (by decide +kernel) (pa_cons (pv 2) pa_nil)) pa_nil)) (blkOk_by (own := [("_law_k", 3)]) (N := ["_law_pot_here", "_law_blocks", "_law_some", "_law_k"]) (sc := defScope sMixedUp) (by decide +kernel)) (fun _ _ _ _ _ => (pg_name (i := 3) scMixedUp.nd rfl (Or.inl rfl))) (fun _ _ _ _ _ => pts_nil) (fun _ _ _ _ _ => by exact (pe_bmK K rfl PySem.F.plainAttrs_list PySem.F.slot_list_pop PySem.F.type_list_pop mt_popAt (pv 2) (pa_cons (pcall T._law_draw hr (by decide) (by rfl) (pa_cons (pv 0) (pa_cons (pe_callB k_len (by rfl) T.len (by decide +kernel) (pa_cons (pv 2) pa_nil)) pa_nil))) pa_nil))))))), ?_⟩
  walk_at "rd"
  refine r_list (sqAt_lst eb) ?_
  intro s1 hs1
  obtain ⟨H1, z1, e1, eq_s1⟩ : ∃ Hx, Same _ Hx ∧ Hx s1 = some _ ∧ upd _ s1 _ = Hx := ⟨_, Same.new hs1 _, upd_same, rfl⟩
  rw [eq_s1]; clear eq_s1
  walk_at "rd"
  rw [List.length_map]
  refine ⟨(xs.length : Nat), rfl, by omega, by omega, ?_⟩
  rw [show ((xs.length : Nat) : Int).toNat = xs.length by omega]
  refine fun D hD => ?_
  have hDH : H D = none := z1.free hD
  have ne : D ≠ s1 := fun z => by subst z; rw [e1] at hD; cases hD
  have po1 : PotAt n H1 q := po.keep fun _ _ _ e => z1 _ _ e
  have qD : q ≠ D := fun z => by subst z; obtain ⟨_, _, _, e, _⟩ := po1; rw [e] at hD; cases hD
  refine lc_range (fun i H' => ∃ (us ys : List Addr), H' D = some (.lst (us.map V.ref)) ∧ us.length = i ∧ (∀ y ∈ us, TupT m H' y) ∧ H' s1 = some (.lst (ys.map V.ref)) ∧ ys.length + i = xs.length ∧ (∀ y ∈ ys, TupT m H' y) ∧ PotAt (n + i) H' q ∧ Sam1 q H H') ?_ ?_ ?_
  · have zD : Same H1 (upd H1 D (.lst [])) := Same.new hD _
    exact ⟨[], xs, upd_same, rfl, (fun y hy => by cases hy), zD _ _ e1, rfl, fun y hy => ((tx y hy).same z1).same zD, po1.keep fun _ _ _ e => zD _ _ e, fun a o e _ => (z1.trans zD) a o e⟩
  · rintro i H2 hi ⟨us, ys, eD, lu, tu, es, ly, ty, p2, g2⟩
    refine r_name ⟨rfl, ?_⟩
    have qs : s1 ≠ q := fun z => by subst z; exact p2.no_lst es
    have qD2 : D ≠ q := fun z => qD z.symm
    have yp : 0 < ys.length := by omega
    walk_at "rd"
    refine ⟨.inl ⟨rfl, _, SqL.of es⟩, ?_⟩
    walk_at "rd"
    rw [List.length_map]
    refine ⟨q, (ys.length : Nat), _, rfl, p2, by omega, by omega, by omega, fun j H3 j0 j1 p3 z3 => ?_⟩
    have es3 := z3 _ _ es qs
    have eD3 := z3 _ _ eD qD2
    have tu3 : ∀ y ∈ us, TupT m H3 y := fun y hy => (tu y hy).draw p2 z3
    have ty3 : ∀ y ∈ ys, TupT m H3 y := fun y hy => (ty y hy).draw p2 z3
    have g3 := g2.trans z3
    obtain ⟨k, rfl⟩ : ∃ k : Nat, j = (k : Int) := ⟨j.toNat, by omega⟩
    obtain ⟨y, hy⟩ : ∃ d, ys[k]? = some d := ⟨_, List.getElem?_eq_getElem (by omega)⟩
    walk_at "rd"
    refine r_popAt (y := .ref y) es3 (by omega) (by omega) (by rw [Int.toNat_natCast, List.getElem?_map, hy]; rfl) ?_
    rw [Int.toNat_natCast, erase_map]
    have hs1H : H s1 = none := hs1
    refine ⟨us.map V.ref, by rw [upd_ne ne]; exact eD3, by rw [List.length_map]; show _ < 16777216; omega, us ++ [y], ys.eraseIdx k, ?_, by rw [List.length_append, List.length_singleton]; omega, fun u hu => ?_, by rw [upd_ne ne.symm, upd_same], ?_, fun u hu => ?_, ?_, ?_⟩
    · rw [upd_same, List.map_append]; rfl
    · have t1 : TupT m H3 u := by
        rcases List.mem_append.mp hu with hu | hu
        · exact tu3 u hu
        · rw [List.mem_singleton.mp hu]; exact ty3 y (List.mem_of_getElem? hy)
      exact (t1.upd es3).upd (xs := us.map V.ref) (by rw [upd_ne ne]; exact eD3)
    · rw [List.length_eraseIdx_of_lt (by omega)]; omega
    · exact ((ty3 u (List.mem_of_mem_eraseIdx hu)).upd es3).upd (xs := us.map V.ref) (by rw [upd_ne ne]; exact eD3)
    · refine PotAt.mono (n := n + i + 1) (p3.keep fun _ _ _ e => ?_) (by omega)
      rw [upd_ne qD, upd_ne qs.symm]; exact e
    · exact (g3.late hs1H _).late hDH _
  · rintro H2 ⟨us, ys, eD, lu, tu, es, ly, ty, p2, g2⟩
    walk_at "rd"
    exact kk D us H2 hDH g2 (p2.mono (by omega)) eD lu tu
def GrpT (m t : Nat) (H0 H : Hp) (p : Addr) : Prop := H0 p = none ∧ ∃ ns : List Int, H p = some (.lst (ns.map V.int)) ∧ ns.length ≤ t ∧ Rise2 m ns ∧ ∀ x ∈ ns, x < (t : Int)
theorem GrpT.draw {m t n : Nat} {H0 H H' : Hp} {p q : Addr} (h : GrpT m t H0 H p) (po : PotAt n H q) (s : Sam1 q H H') : GrpT m t H0 H' p := by
  obtain ⟨a, ns, e, l, r, b⟩ := h
  exact ⟨a, ns, s _ _ e (fun z => by subst z; exact po.no_lst e), l, r, b⟩
theorem GrpT.same {m t : Nat} {H0 H H' : Hp} {p : Addr} (h : GrpT m t H0 H p) (s : Same H H') : GrpT m t H0 H' p := by
  obtain ⟨a, ns, e, l, r, b⟩ := h
  exact ⟨a, ns, s _ _ e, l, r, b⟩
theorem GrpT.ge {m t t' : Nat} {H0 H : Hp} {p : Addr} (h : GrpT m t H0 H p) (l' : t ≤ t') : GrpT m t' H0 H p := by
  obtain ⟨a, ns, e, l, r, b⟩ := h
  exact ⟨a, ns, e, by omega, r, fun x hx => by have := b x hx; omega⟩
def spParted : Sp := fun vs H Q _ => ∃ (q : Addr) (m n : Nat), vs = [.ref q, .int (m : Nat)] ∧ PotAt n H q ∧ n < 800000 ∧ 1 ≤ m ∧ m ≤ 40 ∧
  ∀ d (qs : List Addr) H', H d = none → Sam1 q H H' → PotAt (n + 50) H' q → H' d = some (.lst (qs.map V.ref)) → qs.length ≤ 41 → (∀ x ∈ qs, TupT m H' x) → Q (.ref d) H'
structure TxParted (P : Program) (w : World) (K : PySem.W.Frag) (mg : Str → Option Value) (base : Heap) : Prop where
  len : mg "len" = none
  tuple : mg "tuple" = none
  range : mg "range" = none
  _law_draw : Has P w K mg base 1 "_law_draw" ["_law_pot_here", "_law_many"] spDraw
abbrev sParted : Stmt := top 6
theorem scParted : FnScope ["_law_pot_here", "_law_many", "_law_groups", "_law_thing", "_law_day", "_law_k", "_law_group"] ["_law_pot_here", "_law_many"] (defScope sParted) := ⟨rfl, rfl, rfl, by decide +kernel, rfl, by decide +kernel, by decide +kernel⟩
set_option maxHeartbeats 2000000 in
theorem has_parted (F : FunAt K mg "_law_parted" sParted ["_law_pot_here", "_law_many"]) (T : TxParted P w K mg base) : Has P w K mg base 2 "_law_parted" ["_law_pot_here", "_law_many"] spParted := by
  refine F.has scParted (fun vs H Q E h => ?_) (fun f cdv A outer s H vs Q E hr h => ?_)
  · obtain ⟨q, m, n, rfl, _⟩ := h
    rfl
  obtain ⟨q, m, n, rfl, po, n1, m1, m40, kk⟩ := h
  refine ⟨_, (pss_cons (ps_setLc (i := 2) (own := [("_law_k", 5)]) (g := gName 5) (by rfl) scParted.nd rfl rfl (sw_true rfl rfl rfl (by decide +kernel)) (pi_range1 (by rfl) T.range (pa_cons (pe_op op_add pe_int (pcall T._law_draw hr (by decide) (by rfl) (pa_cons (pv 0) (pa_cons (pv 1) pa_nil)))) pa_nil)) (blkOk_by (own := [("_law_k", 5)]) (N := ["_law_pot_here", "_law_many", "_law_groups", "_law_thing", "_law_day", "_law_k", "_law_group"]) (sc := defScope sParted) (by decide +kernel)) (fun _ _ _ _ _ => (pg_name (i := 5) scParted.nd rfl (Or.inl rfl))) (fun _ _ _ _ _ => pts_nil) (fun _ _ _ _ _ => by exact (pe_lst pa_nil)))
    (pss_cons (ps_for PassesOwn.never rfl (pi_range1 (by rfl) T.range (pa_cons (pv 1) pa_nil)) (pg_name (i := 3) scParted.nd rfl (Or.inl rfl))
    (pss_one (ps_expr (pe_bm PySem.F.plainAttrs_list PySem.F.slot_list_append PySem.F.type_list_append mt_append (pe_ix ix_listF (pv 2) (pcall T._law_draw hr (by decide) (by rfl) (pa_cons (pv 0) (pa_cons (pe_callB k_len (by rfl) T.len (by decide +kernel) (pa_cons (pv 2) pa_nil)) pa_nil))) (fun _ _ => rfl)) (pa_cons (pv 3) pa_nil)))))
    (pss_cons (ps_setLc (i := 4) (own := [("_law_group", 6)]) (g := gName 6) (by rfl) scParted.nd rfl rfl (sw_true rfl rfl rfl (by decide +kernel)) (pi_list (pv 2)) (blkOk_by (own := [("_law_group", 6)]) (N := ["_law_pot_here", "_law_many", "_law_groups", "_law_thing", "_law_day", "_law_k", "_law_group"]) (sc := defScope sParted) (by decide +kernel)) (fun _ _ _ _ _ => (pg_name (i := 6) scParted.nd rfl (Or.inl rfl))) (fun _ _ _ _ _ => pts_one (pt_cmpR op_gt (pe_callB k_len (by rfl) T.len (by decide +kernel) (pa_cons (pv 6) pa_nil)) pe_int (nomark _))) (fun _ _ _ _ _ => by exact (pe_callTy k_tuple (by rfl) T.tuple (by decide +kernel) (pa_cons (pv 6) pa_nil))))
    (pss_cons (ps_if (pt_cmpR op_eq (pcall T._law_draw hr (by decide) (by rfl) (pa_cons (pv 0) (pa_cons pe_int pa_nil))) pe_int (nomark _))
    (pss_one (ps_expr (pe_bm PySem.F.plainAttrs_list PySem.F.slot_list_append PySem.F.type_list_append mt_append (pv 4) (pa_cons (pe_tup pa_nil) pa_nil))))
    pss_nil)
    (pss_one (ps_ret (pv 4))))))), ?_⟩
  walk_at "rd"
  refine ⟨q, (m : Nat), n, rfl, po, by omega, by omega, by omega, fun j1 H1 j10 j11 p1 z1 => ?_⟩
  walk_at "rd"
  obtain ⟨g, hg⟩ : ∃ g : Nat, 1 + j1 = (g : Int) := ⟨(1 + j1).toNat, by omega⟩
  have g1 : 1 ≤ g := by omega
  have gm : g ≤ 40 := by omega
  rw [hg]
  refine ⟨(g : Int), rfl, by omega, by omega, ?_⟩
  rw [show ((g : Nat) : Int).toNat = g by omega]
  refine fun D hD => ?_
  have qD : q ≠ D := fun z => by subst z; obtain ⟨_, _, _, e, _⟩ := p1; rw [e] at hD; cases hD
  have hDH : H D = none := z1.free hD qD.symm
  refine lc_range (fun i H' => ∃ ps : List Addr, H' D = some (.lst (ps.map V.ref)) ∧ ps.length = i ∧ PotAt (n + 1) H' q ∧ Sam1 q H H' ∧ ∀ p ∈ ps, p ≠ D ∧ GrpT m 0 H H' p) ?_ ?_ ?_
  · refine ⟨[], upd_same, rfl, p1.keep fun _ _ _ e => by rw [upd_ne qD]; exact e, z1.late hDH _, fun p hp => by cases hp⟩
  · rintro i H2 hi ⟨ps, eD, lp, p2, g2, r2⟩
    refine r_name ⟨rfl, ?_⟩
    walk_at "rd"
    refine ⟨Nat.le_of_ble_eq_true rfl, ?_⟩
    intro x3 hx3
    obtain ⟨H3, s3, e3, eq_x3⟩ : ∃ Hx, Same _ Hx ∧ Hx x3 = some _ ∧ upd _ x3 _ = Hx := ⟨_, Same.new hx3 _, upd_same, rfl⟩
    rw [eq_x3]; clear eq_x3
    have eD3 := s3 _ _ eD
    have xD : x3 ≠ D := fun z => by subst z; rw [eD] at hx3; cases hx3
    have xq : x3 ≠ q := fun z => by subst z; obtain ⟨_, _, _, e, _⟩ := p2; rw [e] at hx3; cases hx3
    have x0 : H x3 = none := g2.free hx3 xq
    refine ⟨ps.map V.ref, eD3, by rw [List.length_map]; show _ < 16777216; omega, ps ++ [x3], by rw [upd_same, List.map_append]; rfl, by rw [List.length_append, List.length_singleton]; omega, p2.keep fun _ _ _ e => by rw [upd_ne qD]; exact s3 _ _ e, (g2.trans (fun a o e _ => s3 a o e)).late hDH _, fun p hp => ?_⟩
    have up : ∀ {p : Addr}, p ≠ D → GrpT m 0 H H3 p → GrpT m 0 H (upd H3 D (.lst (ps.map V.ref ++ [V.ref x3]))) p := by
      rintro p nD ⟨a, ns, e, l, r, b⟩
      exact ⟨a, ns, by rw [upd_ne nD]; exact e, l, r, b⟩
    rcases List.mem_append.mp hp with hp | hp
    · exact ⟨(r2 p hp).1, up (r2 p hp).1 ((r2 p hp).2.same s3)⟩
    · rw [List.mem_singleton.mp hp]
      exact ⟨xD, up xD ⟨x0, [], e3, Nat.le_refl _, ⟨List.Pairwise.nil, (fun x hx => by cases hx)⟩, (fun x hx => by cases hx)⟩⟩
  rintro H2 ⟨ps, eD, lp, p2, g2, r2⟩
  walk_at "rd"
  refine ⟨(m : Int), rfl, by omega, by omega, ?_⟩
  rw [show ((m : Nat) : Int).toNat = m by omega]
  refine for_range (n := m) (fun t σ H' => ∃ v3, σ = [some (.ref q), some (.int (m : Nat)), some (.ref D), v3, none, none, none] ∧ H' D = some (.lst (ps.map V.ref)) ∧ PotAt (n + 1 + t) H' q ∧ Sam1 q H H' ∧ ∀ p ∈ ps, p ≠ D ∧ GrpT m t H H' p) ?_ ?_ ?_
  · exact ⟨_, rfl, eD, p2, g2, r2⟩
  · rintro t σ H3 ht ⟨v3, rfl, eD3, p3, g3, r3⟩
    rw [show (0 + (t : Int)) = (t : Int) by omega]
    walk_at "rd"
    rw [List.length_map]
    refine ⟨q, (ps.length : Nat), _, rfl, p3, by omega, by omega, by omega, fun j4 H4 j40 j41 p4 z4 => ?_⟩
    have qDs : D ≠ q := fun z => qD z.symm
    have eD4 := z4 _ _ eD3 qDs
    obtain ⟨k, rfl⟩ : ∃ k : Nat, j4 = (k : Int) := ⟨j4.toNat, by omega⟩
    obtain ⟨p, hp⟩ : ∃ d, ps[k]? = some d := ⟨_, List.getElem?_eq_getElem (by omega)⟩
    obtain ⟨pD, gp⟩ := r3 p (List.mem_of_getElem? hp)
    obtain ⟨p0, ns, ep, ln, rn, bn⟩ := gp.draw p3 z4
    have pq : p ≠ q := fun z => by subst z; exact p4.no_lst ep
    walk_at "rd"
    refine r_ixL (v := .ref p) eD4 (atI_nat (by rw [List.getElem?_map, hp]; rfl)) ?_
    refine ⟨.inl ⟨rfl, _, SqL.of ep⟩, ?_⟩
    walk_at "rd"
    refine r_append ep (by rw [List.length_map]; show _ < 16777216; omega) ?_
    rw [show ns.map V.int ++ [V.int (t : Int)] = (ns ++ [(t : Int)]).map V.int by rw [List.map_append]; rfl]
    refine ⟨_, rfl, by rw [upd_ne pD.symm]; exact eD4, ?_, (g3.trans z4).late p0 _, fun u hu => ⟨(r3 u hu).1, ?_⟩⟩
    · refine PotAt.mono (n := n + 1 + t + 1) (p4.keep fun _ _ _ e => ?_) (by omega)
      rw [upd_ne pq.symm]; exact e
    · by_cases z : u = p
      · subst z
        refine ⟨p0, _, upd_same, by rw [List.length_append, List.length_singleton]; omega, ⟨List.pairwise_append.mpr ⟨rn.1, List.pairwise_singleton _ _, fun x hx y hy => ?_⟩, fun x hx => ?_⟩, fun x hx => ?_⟩
        · rw [List.mem_singleton.mp hy]; exact bn x hx
        · rcases List.mem_append.mp hx with hx | hx
          · exact rn.2 x hx
          · rw [List.mem_singleton.mp hx]; omega
        · rcases List.mem_append.mp hx with hx | hx
          · have := bn x hx; omega
          · rw [List.mem_singleton.mp hx]; omega
      · obtain ⟨a, ns', e', l', r', b'⟩ := ((r3 u hu).2.draw p3 z4).ge (Nat.le_succ t)
        exact ⟨a, ns', by rw [upd_ne z]; exact e', l', r', b'⟩
  rintro σ H3 ⟨v3, rfl, eD3, p3, g3, r3⟩
  walk_at "rd"
  refine ⟨D, rfl, ⟨_, SqL.of eD3⟩, fun D2 hD2 => ?_⟩
  have q2 : q ≠ D2 := fun z => by subst z; obtain ⟨_, _, _, e, _⟩ := p3; rw [e] at hD2; cases hD2
  have h2H : H D2 = none := g3.free hD2 q2.symm
  refine lc_list (xs := ps.map V.ref) (fun i H' => ∃ us : List Addr, H' D2 = some (.lst (us.map V.ref)) ∧ us.length ≤ i ∧ Same H3 H' ∧ ∀ u ∈ us, TupT m H' u) ?_ ?_ ?_ ?_
  · exact ⟨[], upd_same, Nat.le_refl _, Same.new hD2 _, fun u hu => by cases hu⟩
  · rintro i H4 _ ⟨us, _, _, s4, _⟩
    exact SqL.of (s4 _ _ eD3)
  · rintro i y H4 hy ⟨us, e4, lu, s4, tu⟩
    obtain ⟨p, rfl, hp⟩ := nth_refs hy
    obtain ⟨pD, p0, ns, ep, ln, rn, bn⟩ := r3 p (List.mem_of_getElem? hp)
    have hi := (List.getElem?_eq_some_iff.mp hp).1
    have ep4 := s4 _ _ ep
    refine r_name ⟨rfl, ?_⟩
    walk_at "rd"
    by_cases c : (0 : Int) < ((ns.map V.int).length : Nat)
    · rw [decide_eq_true c]
      walk_at "rd"
      refine r_tuple ep4 fun u hu => ?_
      have uD : u ≠ D2 := fun z => by subst z; rw [e4] at hu; cases hu
      obtain ⟨H5, s5, e5, eq5⟩ : ∃ Hx, Same H4 Hx ∧ Hx u = some (.tup (ns.map V.int)) ∧ upd H4 u (.tup (ns.map V.int)) = Hx := ⟨_, Same.new hu _, upd_same, rfl⟩
      rw [eq5]; clear eq5
      have e45 := s5 _ _ e4
      refine ⟨us.map V.ref, e45, by rw [List.length_map]; show _ < 16777216; omega, us ++ [u], by rw [upd_same, List.map_append]; rfl, by rw [List.length_append, List.length_singleton]; omega, (s4.trans s5).late hD2 _, fun v hv => ?_⟩
      rcases List.mem_append.mp hv with hv | hv
      · exact ((tu v hv).same s5).upd e45
      · rw [List.mem_singleton.mp hv]
        exact TupT.upd ⟨ns, e5, rn⟩ e45
    · rw [decide_eq_false c]
      walk_at "rd"
      exact ⟨us, e4, by omega, s4, tu⟩
  rintro H4 ⟨us, e4, lu, s4, tu⟩
  rw [List.length_map] at lu
  have p4 : PotAt (n + 1 + m) H4 q := p3.keep fun _ _ _ e => s4 _ _ e
  have D2q : D2 ≠ q := fun z => q2 z.symm
  walk_at "rd"
  refine ⟨q, _, _, rfl, p4, by omega, by omega, by omega, fun j5 H5 j50 j51 p5 z5 => ?_⟩
  have e5 := z5 _ _ e4 D2q
  have tu5 : ∀ u ∈ us, TupT m H5 u := fun u hu => (tu u hu).draw p4 z5
  have g5 : Sam1 q H H5 := fun a o e nq => z5 _ _ (s4 _ _ (g3 a o e nq)) nq
  walk_at "rd"
  refine r_if (fun c => ?_) (fun c => ?_)
  · walk_at "rd"
    refine ⟨.inl ⟨rfl, _, SqL.of e5⟩, ?_⟩
    walk_at "rd"
    refine ⟨Nat.le_of_ble_eq_true rfl, ?_⟩
    intro x6 hx6
    obtain ⟨H6, s6, e6, eq_x6⟩ : ∃ Hx, Same _ Hx ∧ Hx x6 = some _ ∧ upd _ x6 _ = Hx := ⟨_, Same.new hx6 _, upd_same, rfl⟩
    rw [eq_x6]; clear eq_x6
    walk_at "rd"
    refine r_append (s6 _ _ e5) (by rw [List.length_map]; show _ < 16777216; omega) ?_
    walk_at "rd"
    refine kk D2 (us ++ [x6]) _ h2H ((g5.trans fun a o e _ => s6 a o e).late h2H _) ?_ (by rw [upd_same, List.map_append]; rfl) (by rw [List.length_append, List.length_singleton]; omega) (fun v hv => ?_)
    · exact PotAt.mono (n := n + 1 + m + 1) (p5.keep fun _ _ _ e => by rw [upd_ne q2]; exact s6 _ _ e) (by omega)
    · rcases List.mem_append.mp hv with hv | hv
      · exact ((tu5 v hv).same s6).upd (s6 _ _ e5)
      · rw [List.mem_singleton.mp hv]
        exact TupT.upd ⟨[], e6, List.Pairwise.nil, (fun x hx => by cases hx)⟩ (s6 _ _ e5)
  · walk_at "rd"
    exact kk D2 us _ h2H g5 (p5.mono (by omega)) e5 (by omega) tu5
end
end My
set_option Elab.async false
set_option linter.all false
set_option maxRecDepth 100000
namespace My
open PySem PySem.Spec L2
local macro_rules | `(tactic| walk_at "rd1") => `(tactic| first
  | with_reducible refine r_seq ?_ | with_reducible refine r_asg ?_ | with_reducible refine r_name ?_ | with_reducible refine r_ret ?_ | with_reducible refine r_drop ?_ | with_reducible refine r_ifs ?_ | with_reducible refine r_next ?_
  | with_reducible refine r_var rfl ?_ | with_reducible refine r_c ?_ | with_reducible refine r_op ?_ | with_reducible refine r_I0 ?_
  | with_reducible refine r_test ?_ | with_reducible refine r_b ?_ | with_reducible refine r_k ?_ | with_reducible refine r_cons ?_ | with_reducible refine r_nil ?_ | with_reducible refine r_call ?_ | with_reducible refine r_cb ?_
  | with_reducible refine r_lst ?_ | with_reducible refine r_tup ?_ | with_reducible refine r_sub ?_ | with_reducible refine r_andV ?_ | with_reducible refine r_orV ?_ | with_reducible refine r_notV ?_
  | with_reducible refine r_and ?_ | with_reducible refine r_or ?_ | with_reducible refine r_not ?_ | with_reducible refine r_eqI ?_ | with_reducible refine r_neI ?_ | with_reducible refine r_aug rfl ?_ | with_reducible refine r_ipI ?_ | with_reducible refine r_un ?_
  | with_reducible refine r_bm ?_ | with_reducible refine r_bm0 ?_ | with_reducible refine r_yes ?_
  | with_reducible refine r_dnewT ?_ | with_reducible refine r_dget2 ?_ 
  | with_reducible refine r_U ?_ | with_reducible refine r_lit ?_
  | with_reducible refine r_fb ?_ | with_reducible refine r_m1 ?_ | with_reducible refine r_augS ?_ | with_reducible refine r_isNn ?_ | with_reducible refine r_notNn ?_ | with_reducible refine r_isNr ?_ | with_reducible refine r_notNr ?_ | with_reducible refine r_tru ?_ | with_reducible refine r_count ?_
  | with_reducible refine r_for ?_ | with_reducible refine r_dc ?_ | with_reducible refine r_lc ?_ | with_reducible refine r_sc ?_ | with_reducible refine r_zipN ?_ | with_reducible refine r_ifX ?_ | with_reducible refine r_zip3 ?_ | with_reducible refine r_rng1 ?_ | with_reducible refine r_rng2 ?_ | with_reducible refine r_ilist ?_ | with_reducible refine r_itup ?_ | with_reducible refine r_enum ?_
  | with_reducible refine r_sl ?_ | with_reducible refine r_nopart ?_ | with_reducible refine r_part ?_ | with_reducible refine r_int ?_ | with_reducible refine r_gcons ?_ | with_reducible refine r_gnil ?_ | with_reducible refine r_revT ?_
  | with_reducible refine r_intB (fun z hz z0 z1 => ?_) | with_reducible refine r_intI ?_ | with_reducible refine r_min2 ?_ | with_reducible refine r_max2 ?_ | with_reducible refine r_rng1V ?_ | with_reducible refine r_rng2V ?_
  | with_reducible refine r_dget ?_ | with_reducible refine r_disp ?_ | with_reducible refine r_pcons ?_ | with_reducible refine r_pnil ?_ | with_reducible refine r_enumT ?_ | with_reducible refine r_zip ?_ | with_reducible refine r_abs (fun z hz z0 => ?_)
  | with_reducible refine r_try ?_ | with_reducible refine r_try0 ?_ | with_reducible refine r_dropX ?_ | with_reducible refine r_setX ?_ | with_reducible refine r_callX ?_ | with_reducible refine r_methX ?_ | with_reducible refine r_raise ?_
  | with_reducible refine r_zipI ?_ | with_reducible refine r_zipT ?_ | with_reducible refine r_sfld ?_ | with_reducible refine r_fld ?_ | with_reducible refine r_meth ?_ | with_reducible refine r_make ?_ | with_reducible refine r_notC ?_ | with_reducible refine r_revS ?_ | with_reducible refine r_rev ?_ | with_reducible refine r_dputK ?_ | with_reducible refine r_chain4 ?_ | with_reducible refine r_chain3 ?_ | with_reducible refine r_chain ?_ | with_reducible refine r_din ?_ | with_reducible refine r_dnotin ?_ | with_reducible refine r_ifE ?_
  | ((with_reducible show cIsiR _ _ _ _ _); first | with_reducible refine r_itT (by first | assumption | exact upd_same) ?_ | with_reducible refine r_itL (by first | assumption | exact upd_same) ?_)
  | ((with_reducible show kDGet _ _ _ _); with_reducible refine pot_g (by first | assumption | exact upd_same) ?_) | ((with_reducible show kDGet _ _ _ _); with_reducible refine pot_s (by first | assumption | exact upd_same) ?_) | ((with_reducible show kDGet _ _ _ _); with_reducible refine pot_t (by first | assumption | exact upd_same) ?_)
  | ((with_reducible show kDPut _ _ _ _ _); with_reducible refine pot_pg (by first | assumption | exact upd_same) ?_) | ((with_reducible show kDPut _ _ _ _ _); with_reducible refine pot_pt (by first | assumption | exact upd_same) ?_)
  | with_reducible refine iteT ?_ | with_reducible refine iteF ?_ | with_reducible refine r_nf ?_ | with_reducible refine r_nt ?_
  | with_reducible refine r_ii ?_ | with_reducible refine r_ib ?_
  | ((with_reducible show rIxLF _ _ _ _); with_reducible refine r_ixL (by first | assumption | exact upd_same) rfl ?_)
  | ((with_reducible show rIxTF _ _ _ _); with_reducible refine r_ixT (by first | assumption | exact upd_same) rfl ?_)
  | ((with_reducible show rSetL _ _ _ _ _); with_reducible refine r_setL (by first | assumption | exact upd_same) rfl ?_)
  | ((with_reducible show cLen _ _ _); with_reducible refine r_len (by first | exact sqAt_lst (by assumption) | exact sqAt_tup (by assumption) | exact sqAt_lst upd_same | exact sqAt_tup upd_same) ?_)
  | ((with_reducible show rSlLF _ _ _ _ _); with_reducible refine r_slL (by first | assumption | exact upd_same) ?_)
  | ((with_reducible show gTupF _ _ _ _ _ _); with_reducible refine r_gtup (by first | assumption | exact upd_same) rfl ?_)
  | ((with_reducible show rI _ _ _ _ _ _); first | with_reducible refine r_mod (by omega) ?_ | with_reducible refine r_div (by omega) (by omega) ?_ | with_reducible refine r_mulL (by omega) (by omega) ?_ | with_reducible refine r_mulR (by omega) (by omega) ?_ | with_reducible refine r_pow (by omega) (by omega) (by decide) ?_))
local macro_rules | `(tactic| walk_at "rd") => `(tactic| repeat (first | walk_at "rd1" | (dsimp only; walk_at "rd1")))
def spLaw (K : PySem.W.Frag) : Sp := fun vs H Q _ => ∃ (a : Addr) (ns : List Int), vs = [.ref a] ∧ SqL K H a (ns.map V.int) ∧ ns.length ≤ 63 ∧ ∀ H', Q (.bl true) H'
theorem DSt.at {H0 H : Hp} {q l : Addr} {m n c e : Nat} (S : DSt H0 q l m n c e H) (c50 : c ≤ 50) (e12 : e ≤ 12) (m40 : m ≤ 40) : ∃ D, DaysAt H l m D := by
  obtain ⟨ps, el, lp, r⟩ := S.ex
  obtain ⟨ds, pr, lc, rb⟩ := days_lb ps fun p hp => (r p hp).2
  exact ⟨ds, ⟨ps, el, pr⟩, rb, by rw [← Pd.len pr]; omega, fun d hd => by have := lc d hd; omega, m40⟩
theorem DSt.frame {H0 H H' : Hp} {q l b : Addr} {m n c e : Nat} {xs : List Addr} (S : DSt H0 q l m n c e H) (hb : H b = none) (s : Same H H') (eb : H' b = some (.lst (xs.map V.ref))) (tx : ∀ x ∈ xs, TupT m H' x) :
    ∃ H1 : Hp, DSt H1 q l m n c e H' ∧ Same H0 H1 ∧ H1 b = some (.lst (xs.map V.ref)) ∧ ∀ x ∈ xs, TupT m H1 x := by
  have S' := S.grow s
  obtain ⟨sm, q0, po, l0, ps, el, lp, r⟩ := S
  obtain ⟨sm', _, po', _, ps', el', lp', r'⟩ := S'
  have e' := s _ _ el
  rw [el'] at e'
  have := ref_inj (HO.lst.inj (Option.some.inj e'))
  subst this
  have nb : ∀ {x : Addr}, H x ≠ none → x ≠ b := fun h z => h (z ▸ hb)
  have nx : ∀ {x : Addr} {ys : List V}, H' x = some (.lst ys) → x ∉ xs := fun e hx => by
    obtain ⟨_, e2, _⟩ := tx _ hx
    rw [e] at e2
    cases e2
  let H1 : Hp := fun x => if x = b ∨ x ∈ xs then H' x else H0 x
  have i1 : ∀ {x : Addr}, x = b ∨ x ∈ xs → H1 x = H' x := fun h => if_pos h
  have i2 : ∀ {x : Addr}, x ≠ b → x ∉ xs → H1 x = H0 x := fun h1 h2 => if_neg (fun z => z.elim h1 h2)
  have qb : q ≠ b := nb (by obtain ⟨_, _, _, e, _⟩ := po; rw [e]; exact fun z => by cases z)
  have qx : q ∉ xs := fun hx => by
    obtain ⟨_, e2, _⟩ := tx _ hx
    exact po'.no_tup e2
  refine ⟨H1, ⟨fun a o e => ?_, by rw [i2 qb qx]; exact q0, po', by rw [i2 (nb (by rw [el]; exact fun z => by cases z)) (nx el')]; exact l0, ps', el', lp', fun p hp => ?_⟩, fun a o e => ?_, by rw [i1 (.inl rfl)]; exact eb, fun x hx => ?_⟩
  · by_cases z : a = b ∨ a ∈ xs
    · rw [i1 z] at e; exact e
    · rw [i2 (fun y => z (.inl y)) (fun y => z (.inr y))] at e
      exact sm' _ _ e
  · obtain ⟨pl, p0, qs, eq, lq, tq⟩ := r' p hp
    obtain ⟨_, _, qs2, eq2, _⟩ := r p hp
    exact ⟨pl, by rw [i2 (nb (by rw [eq2]; exact fun z => by cases z)) (nx eq)]; exact p0, qs, eq, lq, tq⟩
  · by_cases z : a = b ∨ a ∈ xs
    · rw [i1 z]; exact sm' _ _ e
    · rw [i2 (fun y => z (.inl y)) (fun y => z (.inr y))]; exact e
  · obtain ⟨c, ec, rc⟩ := tx x hx
    exact ⟨c, by rw [i1 (.inr hx)]; exact ec, rc⟩
def dH (m : Int) (bs : List (List Int)) (D : List (List (List Int))) : PyData := .tuple [.tuple [.int m, .list (dB bs)], dLB D]
theorem sh_H (m : Int) (bs : List (List Int)) (D : List (List (List Int))) : SeqAt.shaped (dH m bs D) = true := by
  unfold SeqAt.shaped
  rw [Bool.and_eq_true]
  constructor
  · show ((PyData.canLayAll0 (dB bs) && true) && (PyData.canLayAll0 (dL2 D) && true)) = true
    rw [lay_blks, lay_lb]; rfl
  · have h1 := dep_blks bs
    have h2 := dep_lb D
    refine decide_eq_true ?_
    show max (max 0 (max (PyData.depthAll (dB bs) + 1) 0) + 1) (max (PyData.depthAll (dL2 D) + 1) 0) + 1 ≤ 64
    omega
theorem r_neH {K : PySem.W.Frag} {H : Hp} {Q : VK} {h t c d h' t' c' d' : Addr} {m : Int} {bs : List (List Int)} {D : List (List (List Int))} (e1 : H h = some (.tup [.ref t, .ref d])) (e2 : H t = some (.tup [.int m, .ref c])) (e3 : Blks H c bs) (e4 : LB H d D)
    (e1' : H h' = some (.tup [.ref t', .ref d'])) (e2' : H t' = some (.tup [.int m, .ref c'])) (e3' : Blks H c' bs) (e4' : LB H d' D) (q : Q (.bl false) H) : rNeD K (.ref h) (.ref h') H Q := by
  refine ⟨dH m bs D, dH m bs D, .tup (SqT.of e1) (.cons (.tup (SqT.of e2) (.cons (.int m) (.cons (dp_blks e3) .nil))) (.cons (dp_lb e4) .nil)), .tup (SqT.of e1') (.cons (.tup (SqT.of e2') (.cons (.int m) (.cons (dp_blks e3') .nil))) (.cons (dp_lb e4') .nil)), sh_H _ _ _, sh_H _ _ _, ?_⟩
  have : PyData.eqv (dH m bs D) (dH m bs D) = true := by
    show (((m == m) && (PyData.eqvAll (dB bs) (dB bs) && true)) && (PyData.eqvAll (dL2 D) (dL2 D) && true)) = true
    rw [eqvA_blks, eqvA_lb]
    simp
  rw [this]
  exact q
section
variable {P : Program} {w : World} {K : PySem.W.Frag} {mg : Str → Option Value} {base : Heap}
structure TxLaw (P : Program) (w : World) (K : PySem.W.Frag) (mg : Str → Option Value) (base : Heap) : Prop where
  len : mg "len" = none
  range : mg "range" = none
  list : mg "list" = none
  max : mg "max" = none
  _law_pot : Has P w K mg base 1 "_law_pot" ["_law_script", "_law_at"] (spPot K)
  _law_draw : Has P w K mg base 1 "_law_draw" ["_law_pot_here", "_law_many"] spDraw
  _law_parted : Has P w K mg base 2 "_law_parted" ["_law_pot_here", "_law_many"] spParted
  _law_joined : Has P w K mg base 1 "_law_joined" ["_law_days"] spJoined
  _law_otherwise : Has P w K mg base 3 "_law_otherwise" ["_law_pot_here", "_law_many", "_law_days"] spOtherwise
  _law_mixed_up : Has P w K mg base 2 "_law_mixed_up" ["_law_pot_here", "_law_blocks"] spMixed
  _law_due : Has P w K mg base 2 "_law_due" ["_law_many", "_law_blocks", "_law_days"] spDueDays
  _law_same : Has P w K mg base 1 "_law_same" ["_law_found", "_law_due_here"] spSameF
  fault_of_days : Has P w K mg base 2 "fault_of_days" ["plan", "days"] spFaultDays
abbrev sLaw : Stmt := top 14
theorem scLaw : FnScope ["_law_script", "_law_at", "_law_pot_here", "_law_many", "_law_days", "_law_blocks", "_law_k", "_law_due_here", "_law_handed", "_law_turn", "_law_day"] ["_law_script"] (defScope sLaw) := ⟨rfl, rfl, rfl, by decide +kernel, rfl, by decide +kernel, by decide +kernel⟩
set_option maxHeartbeats 4000000 in
theorem has_law (F : FunAt K mg "law" sLaw ["_law_script"]) (T : TxLaw P w K mg base) : Has P w K mg base 4 "law" ["_law_script"] (spLaw K) := by
  refine F.has scLaw (fun vs H Q E h => ?_) (fun f cdv A outer s H vs Q E hr h => ?_)
  · obtain ⟨a, ns, rfl, _⟩ := h
    rfl
  obtain ⟨a, ns, rfl, hS, ln, kk⟩ := h
  refine ⟨_, (pss_cons (ps_for PassesOwn.never rfl (pi_range1 (by rfl) T.range (pa_cons (pe_callB (k_max rfl) (by rfl) T.max (by decide +kernel) (pa_cons pe_int (pa_cons (pe_callB k_len (by rfl) T.len (by decide +kernel) (pa_cons (pe_slice sl_list (pv 0) po_none (po_some pe_int)) pa_nil)) pa_nil))) pa_nil)) (pg_name (i := 1) scLaw.nd rfl (Or.inl rfl))
    (pss_cons (ps_set (i := 2) scLaw.nd rfl (Or.inr rfl) (pcall T._law_pot hr (by decide) (by rfl) (pa_cons (pv 0) (pa_cons (pv 1) pa_nil))))
      (pss_cons (ps_set (i := 3) scLaw.nd rfl (Or.inr rfl) (pe_op op_add pe_int (pcall T._law_draw hr (by decide) (by rfl) (pa_cons (pv 2) (pa_cons pe_int pa_nil)))))
      (pss_cons (ps_cut (ps_if (pt_cmpR op_eq (pcall T._law_draw hr (by decide) (by rfl) (pa_cons (pv 2) (pa_cons pe_int pa_nil))) pe_int (nomark _))
      (pss_one (ps_set (i := 3) scLaw.nd rfl (Or.inr rfl) (pe_op op_add pe_int (pcall T._law_draw hr (by decide) (by rfl) (pa_cons (pv 2) (pa_cons pe_int pa_nil))))))
      pss_nil))
      (pss_cons (ps_setLc (i := 4) (own := [("_law_k", 6)]) (g := gName 6) (by rfl) scLaw.nd rfl rfl (sw_true rfl rfl rfl (by decide +kernel)) (pi_range1 (by rfl) T.range (pa_cons (pcall T._law_draw hr (by decide) (by rfl) (pa_cons (pv 2) (pa_cons pe_int pa_nil))) pa_nil)) (blkOk_by (own := [("_law_k", 6)]) (N := ["_law_script", "_law_at", "_law_pot_here", "_law_many", "_law_days", "_law_blocks", "_law_k", "_law_due_here", "_law_handed", "_law_turn", "_law_day"]) (sc := defScope sLaw) (by decide +kernel)) (fun _ _ _ _ _ => (pg_name (i := 6) scLaw.nd rfl (Or.inl rfl))) (fun _ _ _ _ _ => pts_nil) (fun _ _ _ _ _ => by exact (pcall T._law_parted hr (by decide) (by rfl) (pa_cons (pv 2) (pa_cons (pv 3) pa_nil)))))
      (pss_cons (ps_set (i := 5) scLaw.nd rfl (Or.inl rfl) (pcall T._law_joined hr (by decide) (by rfl) (pa_cons (pv 4) pa_nil)))
      (pss_cons (ps_for PassesOwn.never rfl (pi_range1 (by rfl) T.range (pa_cons (pe_ix ix_listF (pe_lst (pa_cons pe_int (pa_cons pe_int (pa_cons pe_int (pa_cons pe_int pa_nil))))) (pcall T._law_draw hr (by decide) (by rfl) (pa_cons (pv 2) (pa_cons pe_int pa_nil))) (fun _ _ => rfl)) pa_nil)) (pg_name (i := 6) scLaw.nd rfl (Or.inl rfl))
      (pss_one (ps_expr (pcall T._law_otherwise hr (by decide) (by rfl) (pa_cons (pv 2) (pa_cons (pv 3) (pa_cons (pv 4) pa_nil)))))))
      (pss_cons (ps_cut (ps_if (pt_cmpR op_gt (pcall T._law_draw hr (by decide) (by rfl) (pa_cons (pv 2) (pa_cons pe_int pa_nil))) pe_int (nomark _))
      (pss_one (ps_set (i := 5) scLaw.nd rfl (Or.inl rfl) (pcall T._law_joined hr (by decide) (by rfl) (pa_cons (pv 4) pa_nil))))
      pss_nil))
      (pss_cons (ps_set (i := 5) scLaw.nd rfl (Or.inl rfl) (pcall T._law_mixed_up hr (by decide) (by rfl) (pa_cons (pv 2) (pa_cons (pv 5) pa_nil))))
      (pss_cons (ps_set (i := 7) scLaw.nd rfl (Or.inl rfl) (pcall T._law_due hr (by decide) (by rfl) (pa_cons (pv 3) (pa_cons (pv 5) (pa_cons (pv 4) pa_nil)))))
      (pss_cons (ps_set (i := 8) scLaw.nd rfl (Or.inl rfl) (pe_tup (pa_cons (pe_tup (pa_cons (pv 3) (pa_cons (pe_callTy k_list (by rfl) T.list (by decide +kernel) (pa_cons (pv 5) pa_nil)) pa_nil))) (pa_cons (pe_lc (own := [("_law_day", 10)]) (g := gName 10) (by rfl) scLaw.nd (pi_list (pv 4)) (blkOk_by (own := [("_law_day", 10)]) (N := ["_law_script", "_law_at", "_law_pot_here", "_law_many", "_law_days", "_law_blocks", "_law_k", "_law_due_here", "_law_handed", "_law_turn", "_law_day"]) (sc := defScope sLaw) (by decide +kernel)) (fun _ _ _ _ _ => (pg_name (i := 10) scLaw.nd rfl (Or.inl rfl))) (fun _ _ _ _ _ => pts_nil) (fun _ _ _ _ _ => by exact (pe_callTy k_list (by rfl) T.list (by decide +kernel) (pa_cons (pv 10) pa_nil)))) pa_nil))))
      (pss_one (ps_for PassesOwn.never rfl (pi_range1 (by rfl) T.range (pa_cons pe_int pa_nil)) (pg_name (i := 9) scLaw.nd rfl (Or.inl rfl))
      (pss_cons (ps_if (pt_not (pt_val (pcall T._law_same hr (by decide) (by rfl) (pa_cons (pcall T.fault_of_days hr (by decide) (by rfl) (pa_cons (pe_ix ix_tupF (pv 8) pe_int (fun _ _ => rfl)) (pa_cons (pe_ix ix_tupF (pv 8) pe_int (fun _ _ => rfl)) pa_nil))) (pa_cons (pv 7) pa_nil)))))
        (pss_one (ps_ret pe_bl))
        pss_nil)
        (pss_one (ps_if (pt_cmpR (op_neD hr.units) (pv 8) (pe_tup (pa_cons (pe_tup (pa_cons (pv 3) (pa_cons (pv 5) pa_nil))) (pa_cons (pv 4) pa_nil))) (nomark _))
        (pss_one (ps_ret pe_bl))
        pss_nil))))))))))))))))
    (pss_one (ps_ret pe_bl))), ?_⟩
  walk_at "rd"
  refine ⟨a, _, rfl, hS, fun p hp => ?_⟩
  walk_at "rd"
  have g1 := Same.new hp (.lst (cutV (ns.map V.int) none (some 8)))
  generalize upd H p (.lst (cutV (ns.map V.int) none (some 8))) = H1 at g1
  obtain ⟨ts, ets, _, lts⟩ := cut_ints ns none (some 8)
  rw [ets, List.length_map]
  obtain ⟨mx, hmx⟩ : ∃ mx : Int, mx = (if (ts.length : Int) > 1 then (ts.length : Int) else 1) := ⟨_, rfl⟩
  have mx1 : 1 ≤ mx ∧ mx ≤ 63 := by rw [hmx]; split <;> omega
  rw [← hmx]
  refine ⟨mx, rfl, by omega, by omega, ?_⟩
  refine for_range (fun i σ H2 => ∃ v1 v2 v3 v4 v5 v6 v7 v8 v9 v10, σ = [some (.ref a), v1, v2, v3, v4, v5, v6, v7, v8, v9, v10] ∧ Same H H2) ?_ ?_ ?_
  · exact ⟨_, _, _, _, _, _, _, _, _, _, rfl, g1⟩
  · rintro i σ H2 hi ⟨v1, v2, v3, v4, v5, v6, v7, v8, v9, v10, rfl, s2⟩
    walk_at "rd"
    refine ⟨a, 0 + (i : Int), ns, rfl, s2.seq hS, by omega, by omega, fun q H3 hq s3 p3 => ?_⟩
    have hqn := s2.free hq
    have s3 := s2.trans s3
    walk_at "rd"
    refine ⟨q, 12, 0, rfl, p3, by decide, by decide, by decide, fun r1 H4 r10 r11 p4 s4 => ?_⟩
    walk_at "rd"
    refine r_cut (fun σ' H' => ∃ (m : Nat), σ' = [some (.ref a), some (.int (0 + (i : Int))), some (.ref q), some (.int (m : Nat)), v4, v5, v6, v7, v8, v9, v10] ∧ PotAt 3 H' q ∧ Same H H' ∧ 1 ≤ m ∧ m ≤ 40) ?_ ?_
    · walk_at "rd"
      refine ⟨q, 8, 1, rfl, p4, by decide, by decide, by decide, fun r2 H5 r20 r21 p5 s5 => ?_⟩
      walk_at "rd"
      refine r_if (fun c => ?_) (fun c => ?_)
      · walk_at "rd"
        refine ⟨q, 40, 2, rfl, p5, by decide, by decide, by decide, fun r3 H6 r30 r31 p6 s6 => ?_⟩
        walk_at "rd"
        exact ⟨(1 + r3).toNat, by rw [Int.toNat_of_nonneg (by omega)]; rfl, p6, s3.sam1 hqn ((s4.trans s5).trans s6), by omega, by omega⟩
      · walk_at "rd"
        exact ⟨(1 + r1).toNat, by rw [Int.toNat_of_nonneg (by omega)]; rfl, p5.mono (by decide), s3.sam1 hqn (s4.trans s5), by omega, by omega⟩
    rintro σ' H5 ⟨m, rfl, p5, s5, m1, m40⟩
    walk_at "rd"
    refine ⟨q, 9, 3, rfl, p5, by decide, by decide, by decide, fun r6 H6 r60 r61 p6 z6 => ?_⟩
    have s6 : Same H H6 := s5.sam1 hqn z6
    obtain ⟨g, rfl⟩ : ∃ g : Nat, r6 = (g : Int) := ⟨r6.toNat, by omega⟩
    walk_at "rd"
    refine ⟨(g : Int), rfl, by omega, by omega, ?_⟩
    rw [show ((g : Nat) : Int).toNat = g by omega]
    refine fun D hD => ?_
    have qD : q ≠ D := fun z => by subst z; obtain ⟨_, _, _, e, _⟩ := p6; rw [e] at hD; cases hD
    have hDH : H D = none := s6.free hD
    refine lc_range (fun i H' => ∃ ps : List Addr, H' D = some (.lst (ps.map V.ref)) ∧ ps.length = i ∧ PotAt (4 + 50 * i) H' q ∧ Same H H' ∧ ∀ p ∈ ps, p ≠ D ∧ DayT H m 41 H' p) ?_ ?_ ?_
    · exact ⟨[], upd_same, rfl, p6.keep fun _ _ _ e => by rw [upd_ne qD]; exact e, s6.late hDH _, fun p hp => by cases hp⟩
    · rintro i' H7 hi' ⟨ps, eD, lp, p7, s7, r7⟩
      refine r_name ⟨rfl, ?_⟩
      walk_at "rd"
      refine ⟨q, m, _, rfl, p7, by omega, m1, m40, fun d qs H8 hd z8 p8 e8 lq tq => ?_⟩
      have eD8 := z8 _ _ eD qD.symm
      have dD : d ≠ D := fun z => by subst z; rw [eD] at hd; cases hd
      have dq : d ≠ q := fun z => by subst z; obtain ⟨_, _, _, e, _⟩ := p7; rw [e] at hd; cases hd
      refine ⟨ps.map V.ref, eD8, by rw [List.length_map]; show _ < 16777216; omega, ps ++ [d], by rw [upd_same, List.map_append]; rfl, by rw [List.length_append, List.length_singleton]; omega, ?_, (s7.sam1 hqn z8).late hDH _, fun p hp => ?_⟩
      · exact PotAt.mono (n := 4 + 50 * i' + 50) (p8.keep fun _ _ _ e => by rw [upd_ne qD]; exact e) (by omega)
      · have up : ∀ {p : Addr}, p ≠ D → DayT H m 41 H8 p → DayT H m 41 (upd H8 D (.lst (ps.map V.ref ++ [V.ref d]))) p := by
          rintro p nD ⟨a, qs, e, l, t⟩
          exact ⟨a, qs, by rw [upd_ne nD]; exact e, l, fun x hx => (t x hx).upd eD8⟩
        rcases List.mem_append.mp hp with hp | hp
        · exact ⟨(r7 p hp).1, up (r7 p hp).1 ((r7 p hp).2.draw p7 z8)⟩
        · rw [List.mem_singleton.mp hp]
          exact ⟨dD, up dD ⟨s7.free hd, qs, e8, lq, tq⟩⟩
    rintro H7 ⟨ps, eD, lp, p7, s7, r7⟩
    have S7 : DSt H q D m (4 + 50 * g) 41 9 H7 := ⟨s7, hqn, p7, hDH, ps, eD, by omega, r7⟩
    walk_at "rd"
    obtain ⟨Dd, DA⟩ := S7.at (by decide) (by decide) m40
    refine ⟨D, m, Dd, rfl, DA, fun b H8 hb s8 B8 => ?_⟩
    obtain ⟨xs, eb, tb⟩ := B8
    have lf := flat_len Dd DA.each
    have l12 := Nat.mul_le_mul_right 50 DA.len
    have lxs := tb.1
    have tx : ∀ x ∈ xs, TupT m H8 x := tups_T tb fun c hc => by
      obtain ⟨d, hd, hcd⟩ := List.mem_flatten.mp hc
      exact DA.rb d hd c hcd
    obtain ⟨H0, S8, f0, fb, fx⟩ := S7.frame hb s8 eb tx
    walk_at "rd"
    refine ⟨Nat.le_of_ble_eq_true rfl, ?_⟩
    intro l9 hl9
    obtain ⟨H9, s9, e9, eq_l9⟩ : ∃ Hx, Same _ Hx ∧ Hx l9 = some _ ∧ upd _ l9 _ = Hx := ⟨_, Same.new hl9 _, upd_same, rfl⟩
    rw [eq_l9]; clear eq_l9
    have S9 := S8.grow s9
    have l9q : l9 ≠ q := fun z => by subst z; exact S9.pot.no_lst e9
    walk_at "rd"
    refine ⟨q, 4, _, rfl, S9.pot, by omega, by decide, by decide, fun j H10 j0 j1 p10 z10 => ?_⟩
    have S10 := S9.draw p10 z10
    have e10 := z10 _ _ e9 l9q
    obtain ⟨v, hv, v2⟩ : ∃ v : Nat, atI [V.int 0, V.int 1, V.int 1, V.int 2] j = some (.int (v : Nat)) ∧ v ≤ 2 := by
      have : j = 0 ∨ j = 1 ∨ j = 2 ∨ j = 3 := by omega
      rcases this with rfl | rfl | rfl | rfl
      · exact ⟨0, rfl, by decide⟩
      · exact ⟨1, rfl, by decide⟩
      · exact ⟨1, rfl, by decide⟩
      · exact ⟨2, rfl, by decide⟩
    walk_at "rd"
    refine r_ixL e10 hv ?_
    walk_at "rd"
    refine ⟨(v : Int), rfl, by omega, by omega, ?_⟩
    rw [show ((v : Nat) : Int).toNat = v by omega]
    refine for_range (fun i' σ H' => ∃ w6, σ = [some (.ref a), some (.int (0 + (i : Int))), some (.ref q), some (.int (m : Nat)), some (.ref D), some (.ref b), w6, v7, v8, v9, v10] ∧ DSt H0 q D m (1000 + 12 * i') (41 + 2 * i') (9 + i') H') ?_ ?_ ?_
    · exact ⟨_, rfl, S10.mono (by omega) (by omega) (by omega)⟩
    · rintro i' σ H11 hi' ⟨w6, rfl, S11⟩
      walk_at "rd"
      refine ⟨H0, q, D, m, _, _, _, rfl, S11, by omega, by omega, by omega, m1, m40, fun H12 S12 => ?_⟩
      walk_at "rd"
      exact ⟨_, rfl, S12.mono (by omega) (by omega) (by omega)⟩
    rintro σ H11 ⟨w6, rfl, S11⟩
    have S11 := S11.mono (n' := 1100) (c' := 50) (e' := 12) (by omega) (by omega) (by omega)
    refine r_cut (fun σ' H' => ∃ (b : Addr) (xs : List Addr), σ' = [some (.ref a), some (.int (0 + (i : Int))), some (.ref q), some (.int (m : Nat)), some (.ref D), some (.ref b), w6, v7, v8, v9, v10] ∧ DSt H0 q D m 1101 50 12 H' ∧ H' b = some (.lst (xs.map V.ref)) ∧ xs.length ≤ 600 ∧ ∀ x ∈ xs, TupT m H' x) ?_ ?_
    · walk_at "rd"
      refine ⟨q, 3, _, rfl, S11.pot, by omega, by decide, by decide, fun j5 H12 j50 j51 p12 z12 => ?_⟩
      have S12 := S11.draw p12 z12
      walk_at "rd"
      refine r_if (fun c => ?_) (fun c => ?_)
      · obtain ⟨De, DE⟩ := S12.at (by decide) (by decide) m40
        have lf2 := flat_len De DE.each
        have l122 := Nat.mul_le_mul_right 50 DE.len
        walk_at "rd"
        refine ⟨D, m, De, rfl, DE, fun b2 H13 hb2 s13 B13 => ?_⟩
        obtain ⟨xs2, eb2, tb2⟩ := B13
        have lx2 := tb2.1
        walk_at "rd"
        exact ⟨b2, xs2, rfl, S12.grow s13, eb2, by omega, tups_T tb2 fun c hc => by
          obtain ⟨d, hd, hcd⟩ := List.mem_flatten.mp hc
          exact DE.rb d hd c hcd⟩
      · walk_at "rd"
        exact ⟨b, xs, rfl, S12, S12.same _ _ fb, by omega, fun x hx => (fx x hx).same S12.same⟩
    rintro σ' H12 ⟨b, xs, rfl, S12, eb, lx, tx⟩
    walk_at "rd"
    refine ⟨q, b, m, _, xs, rfl, S12.pot, by omega, eb, by omega, tx, fun r ys H13 hr13 z13 p13 er ly ty => ?_⟩
    have S13 := S12.draw p13 z13
    have H13s : Same H H13 := f0.trans S13.same
    obtain ⟨D3, DA3⟩ := S13.at (by decide) (by decide) m40
    obtain ⟨bs, tbs, _⟩ := tupT_all ys ty
    have B13 : Blks H13 r bs := ⟨ys, er, tbs⟩
    have lbs : bs.length ≤ 1000 := by rw [← tbs.1]; omega
    clear S7 S8 S9 S10 S11 S12 S13
    walk_at "rd"
    refine ⟨r, D, m, bs, D3, rfl, B13, lbs, DA3, fun dv df H14 s14 fa af => ?_⟩
    have er14 := s14 _ _ er
    walk_at "rd"
    refine r_list (sqAt_lst er14) ?_
    intro c1 hc1
    obtain ⟨H15, s15, e15, eq_c1⟩ : ∃ Hx, Same _ Hx ∧ Hx c1 = some _ ∧ upd _ c1 _ = Hx := ⟨_, Same.new hc1 _, upd_same, rfl⟩
    rw [eq_c1]; clear eq_c1
    walk_at "rd"
    refine ⟨Nat.le_of_ble_eq_true rfl, ?_⟩
    intro t16 ht16
    obtain ⟨H16, s16, e16, eq_t16⟩ : ∃ Hx, Same _ Hx ∧ Hx t16 = some _ ∧ upd _ t16 _ = Hx := ⟨_, Same.new ht16 _, upd_same, rfl⟩
    rw [eq_t16]; clear eq_t16
    walk_at "rd"
    have s36 := s14.trans (s15.trans s16)
    have DA6 := DA3.same s36
    obtain ⟨ps6, el6, pr6⟩ := id DA6.ex
    have l6 := Pd.len pr6
    have l12 := DA6.len
    refine ⟨D, rfl, ⟨_, SqL.of el6⟩, ?_⟩
    refine fun D17 hD17 => lcm_listN hD17 nBlks (f := V.ref) (l := ps6) (fun i d => D3[i]? = some d) (by omega) (fun H s => SqL.of (s _ _ el6)) (fun i' p H17 Qe Qn hp s17 ke => ?_) (fun H17 as s17 N la has => ?_)
    · obtain ⟨d, hd, us, eu, tu⟩ := Pd.get pr6 hp
      have eu17 := s17 _ _ eu
      refine r_name ⟨rfl, ?_⟩
      walk_at "rd"
      refine r_list (sqAt_lst eu17) ?_
      intro x18 hx18
      obtain ⟨H18, s18, e18, eq_x18⟩ : ∃ Hx, Same _ Hx ∧ Hx x18 = some _ ∧ upd _ x18 _ = Hx := ⟨_, Same.new hx18 _, upd_same, rfl⟩
      rw [eq_x18]; clear eq_x18
      exact ke x18 H18 d hx18 s18 hd ⟨us, e18, tu.same (s17.trans s18)⟩
    have eas : as = D3 := by
      apply List.ext_getElem?
      intro j
      by_cases hj : j < as.length
      · rw [has j as[j] (List.getElem?_eq_getElem hj), List.getElem?_eq_getElem hj]
      · rw [List.getElem?_eq_none (by omega), List.getElem?_eq_none (by omega)]
    subst eas
    have LB17 : LB H17 D17 as := N.lb
    have DA17 : DaysAt H17 D17 m as := ⟨LB17, DA3.rb, DA3.len, DA3.each, m40⟩
    walk_at "rd"
    refine ⟨Nat.le_of_ble_eq_true rfl, ?_⟩
    intro hd hhd
    obtain ⟨H18, s18, e18, eq_hd⟩ : ∃ Hx, Same _ Hx ∧ Hx hd = some _ ∧ upd _ hd _ = Hx := ⟨_, Same.new hhd _, upd_same, rfl⟩
    rw [eq_hd]; clear eq_hd
    have s68 := s17.trans s18
    have e16 := s68 _ _ e16
    have B15 : Blks H18 c1 bs := ⟨ys, (s16.trans s68) _ _ e15, tbs.same (s36.trans s68)⟩
    have B18 : Blks H18 r bs := B13.same (s36.trans s68)
    have DA18 := DA17.same s18
    have DAD := DA6.same s68
    have fa := fa.same ((s15.trans s16).trans s68)
    have g18 : Same H H18 := H13s.trans (s36.trans s68)
    walk_at "rd"
    refine ⟨2, rfl, by decide, by decide, ?_⟩
    refine for_range (n := 2) (fun i' σ H' => ∃ w9, σ = [some (.ref a), some (.int (0 + (i : Int))), some (.ref q), some (.int (m : Nat)), some (.ref D), some (.ref r), w6, some dv, some (.ref hd), w9, v10] ∧ Same H18 H') ?_ ?_ ?_
    · exact ⟨_, rfl, Same.refl _⟩
    · rintro i' σ H19 hi' ⟨w9, rfl, s19⟩
      have e19 := s19 _ _ e18
      walk_at "rd"
      refine ⟨t16, c1, D17, m, bs, as, rfl, s19 _ _ e16, B15.same s19, lbs, DA18.same s19, fun v ft H20 s20 fa2 af2 => ?_⟩
      have eft := af2.one af
      subst eft
      walk_at "rd"
      refine ⟨v, dv, ft, rfl, fa2, fa.same (s19.trans s20), fun H21 s21 => ?_⟩
      have s1921 := s19.trans (s20.trans s21)
      refine ⟨true, rfl, ?_⟩
      walk_at "rd"
      refine ⟨Nat.le_of_ble_eq_true rfl, ?_⟩
      intro x22 hx22
      obtain ⟨H22, s22, e22, eq_x22⟩ : ∃ Hx, Same _ Hx ∧ Hx x22 = some _ ∧ upd _ x22 _ = Hx := ⟨_, Same.new hx22 _, upd_same, rfl⟩
      rw [eq_x22]; clear eq_x22
      walk_at "rd"
      refine ⟨Nat.le_of_ble_eq_true rfl, ?_⟩
      intro x23 hx23
      obtain ⟨H23, s23, e23, eq_x23⟩ : ∃ Hx, Same _ Hx ∧ Hx x23 = some _ ∧ upd _ x23 _ = Hx := ⟨_, Same.new hx23 _, upd_same, rfl⟩
      rw [eq_x23]; clear eq_x23
      have s23' := s1921.trans (s22.trans s23)
      refine r_neH (s23' _ _ e18) (s23' _ _ e16) (B15.same s23') (LB.same DA18.ex s23') e23 (s23 _ _ e22) (B18.same s23') (LB.same DAD.ex s23') ?_
      walk_at "rd"
      exact ⟨_, rfl, s23'⟩
    · rintro σ H19 ⟨w9, rfl, s19⟩
      exact ⟨_, _, _, _, _, _, _, _, _, _, rfl, g18.trans s19⟩
  · rintro σ H2 ⟨v1, v2, v3, v4, v5, v6, v7, v8, v9, v10, rfl, s2⟩
    walk_at "rd"
    exact kk _
end
set_option maxHeartbeats 4000000 in
theorem all_mk {l : PySem.W.OpenLaw} {w : World} {K : PySem.W.Frag} {h : Heap} {mg : Str → Option Value} {fa f1 f2 f3 f4 f5 f6 f7 f8 f9 f10 f11 f12 f13 : Addr} (X : K.In h) (G : h.Ns mainGlobals mg) (hfa : mg "law" = some (.ref fa))
    {od1 an1 od2 an2 od3 an3 od4 an4 od5 an5 od6 an6 od7 an7 od8 an8 od9 an9 od10 an10 od11 an11 od12 an12 od13 an13 : Option Addr} {sl1 sl2 sl3 sl4 sl5 sl6 sl7 sl8 sl9 sl10 sl11 sl12 sl13 : Array (Option Value)} {oc1 kV1 dc1 pm1 cd1 ct1 oc2 kV2 dc2 pm2 cd2 ct2 oc3 kV3 dc3 pm3 cd3 ct3 oc4 kV4 dc4 pm4 cd4 ct4 oc5 kV5 dc5 pm5 cd5 ct5 oc6 kV6 dc6 pm6 cd6 ct6 oc7 kV7 dc7 pm7 cd7 ct7 oc8 kV8 dc8 pm8 cd8 ct8 oc9 kV9 dc9 pm9 cd9 ct9 oc10 kV10 dc10 pm10 cd10 ct10 oc11 kV11 dc11 pm11 cd11 ct11 oc12 kV12 dc12 pm12 cd12 ct12 oc13 kV13 dc13 pm13 cd13 ct13 : Value}
    (a1 : PySem.W.nsIn K mainGlobals "_law_draw" = some (some (.ref f1))) (l1 : K.lookup f1 = some ⟨oc1, od1, .func (PySem.W.fnOf "_law_draw" "_law_draw" (defArgs sDraw) (defBody sDraw) (defScope sDraw) .none kV1 dc1 pm1 an1 cd1 ct1), sl1⟩) (c1 : PySem.W.codeIn K cd1 "_law_draw" = true) (k1 : PySem.W.keepIn K (.ref f1) = true)
    (a2 : PySem.W.nsIn K mainGlobals "_law_pot" = some (some (.ref f2))) (l2 : K.lookup f2 = some ⟨oc2, od2, .func (PySem.W.fnOf "_law_pot" "_law_pot" (defArgs sPot) (defBody sPot) (defScope sPot) .none kV2 dc2 pm2 an2 cd2 ct2), sl2⟩) (c2 : PySem.W.codeIn K cd2 "_law_pot" = true) (k2 : PySem.W.keepIn K (.ref f2) = true)
    (a3 : PySem.W.nsIn K mainGlobals "fault_of_day" = some (some (.ref f3))) (l3 : K.lookup f3 = some ⟨oc3, od3, .func (PySem.W.fnOf "fault_of_day" "fault_of_day" (defArgs sFaultOfDay) (defBody sFaultOfDay) (defScope sFaultOfDay) .none kV3 dc3 pm3 an3 cd3 ct3), sl3⟩) (c3 : PySem.W.codeIn K cd3 "fault_of_day" = true) (k3 : PySem.W.keepIn K (.ref f3) = true)
    (a4 : PySem.W.nsIn K mainGlobals "fault_of_days" = some (some (.ref f4))) (l4 : K.lookup f4 = some ⟨oc4, od4, .func (PySem.W.fnOf "fault_of_days" "fault_of_days" (defArgs sFaultOfDays) (defBody sFaultOfDays) (defScope sFaultOfDays) .none kV4 dc4 pm4 an4 cd4 ct4), sl4⟩) (c4 : PySem.W.codeIn K cd4 "fault_of_days" = true) (k4 : PySem.W.keepIn K (.ref f4) = true)
    (a5 : PySem.W.nsIn K mainGlobals "_law_joined" = some (some (.ref f5))) (l5 : K.lookup f5 = some ⟨oc5, od5, .func (PySem.W.fnOf "_law_joined" "_law_joined" (defArgs sJoined) (defBody sJoined) (defScope sJoined) .none kV5 dc5 pm5 an5 cd5 ct5), sl5⟩) (c5 : PySem.W.codeIn K cd5 "_law_joined" = true) (k5 : PySem.W.keepIn K (.ref f5) = true)
    (a6 : PySem.W.nsIn K mainGlobals "_law_due" = some (some (.ref f6))) (l6 : K.lookup f6 = some ⟨oc6, od6, .func (PySem.W.fnOf "_law_due" "_law_due" (defArgs sDue) (defBody sDue) (defScope sDue) .none kV6 dc6 pm6 an6 cd6 ct6), sl6⟩) (c6 : PySem.W.codeIn K cd6 "_law_due" = true) (k6 : PySem.W.keepIn K (.ref f6) = true)
    (a7 : PySem.W.nsIn K mainGlobals "_law_same" = some (some (.ref f7))) (l7 : K.lookup f7 = some ⟨oc7, od7, .func (PySem.W.fnOf "_law_same" "_law_same" (defArgs sSame) (defBody sSame) (defScope sSame) .none kV7 dc7 pm7 an7 cd7 ct7), sl7⟩) (c7 : PySem.W.codeIn K cd7 "_law_same" = true) (k7 : PySem.W.keepIn K (.ref f7) = true)
    (a8 : PySem.W.nsIn K mainGlobals "_law_other_day" = some (some (.ref f8))) (l8 : K.lookup f8 = some ⟨oc8, od8, .func (PySem.W.fnOf "_law_other_day" "_law_other_day" (defArgs sOtherDay) (defBody sOtherDay) (defScope sOtherDay) .none kV8 dc8 pm8 an8 cd8 ct8), sl8⟩) (c8 : PySem.W.codeIn K cd8 "_law_other_day" = true) (k8 : PySem.W.keepIn K (.ref f8) = true)
    (a9 : PySem.W.nsIn K mainGlobals "_law_other_block" = some (some (.ref f9))) (l9 : K.lookup f9 = some ⟨oc9, od9, .func (PySem.W.fnOf "_law_other_block" "_law_other_block" (defArgs sOtherBlock) (defBody sOtherBlock) (defScope sOtherBlock) .none kV9 dc9 pm9 an9 cd9 ct9), sl9⟩) (c9 : PySem.W.codeIn K cd9 "_law_other_block" = true) (k9 : PySem.W.keepIn K (.ref f9) = true)
    (a10 : PySem.W.nsIn K mainGlobals "_law_otherwise" = some (some (.ref f10))) (l10 : K.lookup f10 = some ⟨oc10, od10, .func (PySem.W.fnOf "_law_otherwise" "_law_otherwise" (defArgs sOtherwise) (defBody sOtherwise) (defScope sOtherwise) .none kV10 dc10 pm10 an10 cd10 ct10), sl10⟩) (c10 : PySem.W.codeIn K cd10 "_law_otherwise" = true) (k10 : PySem.W.keepIn K (.ref f10) = true)
    (a11 : PySem.W.nsIn K mainGlobals "_law_mixed_up" = some (some (.ref f11))) (l11 : K.lookup f11 = some ⟨oc11, od11, .func (PySem.W.fnOf "_law_mixed_up" "_law_mixed_up" (defArgs sMixedUp) (defBody sMixedUp) (defScope sMixedUp) .none kV11 dc11 pm11 an11 cd11 ct11), sl11⟩) (c11 : PySem.W.codeIn K cd11 "_law_mixed_up" = true) (k11 : PySem.W.keepIn K (.ref f11) = true)
    (a12 : PySem.W.nsIn K mainGlobals "_law_parted" = some (some (.ref f12))) (l12 : K.lookup f12 = some ⟨oc12, od12, .func (PySem.W.fnOf "_law_parted" "_law_parted" (defArgs sParted) (defBody sParted) (defScope sParted) .none kV12 dc12 pm12 an12 cd12 ct12), sl12⟩) (c12 : PySem.W.codeIn K cd12 "_law_parted" = true) (k12 : PySem.W.keepIn K (.ref f12) = true)
    (a13 : PySem.W.nsIn K mainGlobals "law" = some (some (.ref f13))) (l13 : K.lookup f13 = some ⟨oc13, od13, .func (PySem.W.fnOf "law" "law" (defArgs sLaw) (defBody sLaw) (defScope sLaw) .none kV13 dc13 pm13 an13 cd13 ct13), sl13⟩) (c13 : PySem.W.codeIn K cd13 "law" = true) (k13 : PySem.W.keepIn K (.ref f13) = true)
    (z1 : PySem.W.nsIn K mainGlobals "len" = some none)
    (z2 : PySem.W.nsIn K mainGlobals "abs" = some none)
    (z3 : PySem.W.nsIn K mainGlobals "int" = some none)
    (z4 : PySem.W.nsIn K mainGlobals "list" = some none)
    (z5 : PySem.W.nsIn K mainGlobals "range" = some none)
    (z6 : PySem.W.nsIn K mainGlobals "sorted" = some none)
    (z7 : PySem.W.nsIn K mainGlobals "tuple" = some none)
    (z8 : PySem.W.nsIn K mainGlobals "max" = some none)
    (z9 : PySem.W.nsIn K mainGlobals "all" = some none)
    (z10 : PySem.W.nsIn K mainGlobals "isinstance" = some none)
    (z11 : PySem.W.nsIn K mainGlobals "bool" = some none)
    (z12 : PySem.W.nsIn K mainGlobals "enumerate" = some none) :
    ∃ fd : FuncData, (∀ (s : Shared) (v : Value), BindsTo s fd ⟨[v], []⟩ [("_law_script", v)]) ∧ ∀ base : Heap, K.In base → base.Ns mainGlobals mg → FnOk l.prog w K mg base CX0 4 fa fd ["_law_script"] (spLaw K) := by
  have e := hfa.symm.trans (PySem.W.mg_of X G a13)
  cases e
  have F__law_draw : FunAt K mg "_law_draw" sDraw ["_law_pot_here", "_law_many"] := at_mk X G a1 l1 c1 k1 fun _ _ _ _ _ _ us hl => match us, hl with | [_, _], _ => rfl
  have F__law_pot : FunAt K mg "_law_pot" sPot ["_law_script", "_law_at"] := at_mk X G a2 l2 c2 k2 fun _ _ _ _ _ _ us hl => match us, hl with | [_, _], _ => rfl
  have F_fault_of_day : FunAt K mg "fault_of_day" sFaultOfDay ["many", "number", "day"] := at_mk X G a3 l3 c3 k3 fun _ _ _ _ _ _ us hl => match us, hl with | [_, _, _], _ => rfl
  have F_fault_of_days : FunAt K mg "fault_of_days" sFaultOfDays ["plan", "days"] := at_mk X G a4 l4 c4 k4 fun _ _ _ _ _ _ us hl => match us, hl with | [_, _], _ => rfl
  have F__law_joined : FunAt K mg "_law_joined" sJoined ["_law_days"] := at_mk X G a5 l5 c5 k5 fun _ _ _ _ _ _ us hl => match us, hl with | [_], _ => rfl
  have F__law_due : FunAt K mg "_law_due" sDue ["_law_many", "_law_blocks", "_law_days"] := at_mk X G a6 l6 c6 k6 fun _ _ _ _ _ _ us hl => match us, hl with | [_, _, _], _ => rfl
  have F__law_same : FunAt K mg "_law_same" sSame ["_law_found", "_law_due_here"] := at_mk X G a7 l7 c7 k7 fun _ _ _ _ _ _ us hl => match us, hl with | [_, _], _ => rfl
  have F__law_other_day : FunAt K mg "_law_other_day" sOtherDay ["_law_pot_here", "_law_days"] := at_mk X G a8 l8 c8 k8 fun _ _ _ _ _ _ us hl => match us, hl with | [_, _], _ => rfl
  have F__law_other_block : FunAt K mg "_law_other_block" sOtherBlock ["_law_pot_here", "_law_many", "_law_day"] := at_mk X G a9 l9 c9 k9 fun _ _ _ _ _ _ us hl => match us, hl with | [_, _, _], _ => rfl
  have F__law_otherwise : FunAt K mg "_law_otherwise" sOtherwise ["_law_pot_here", "_law_many", "_law_days"] := at_mk X G a10 l10 c10 k10 fun _ _ _ _ _ _ us hl => match us, hl with | [_, _, _], _ => rfl
  have F__law_mixed_up : FunAt K mg "_law_mixed_up" sMixedUp ["_law_pot_here", "_law_blocks"] := at_mk X G a11 l11 c11 k11 fun _ _ _ _ _ _ us hl => match us, hl with | [_, _], _ => rfl
  have F__law_parted : FunAt K mg "_law_parted" sParted ["_law_pot_here", "_law_many"] := at_mk X G a12 l12 c12 k12 fun _ _ _ _ _ _ us hl => match us, hl with | [_, _], _ => rfl
  have F_law : FunAt K mg "law" sLaw ["_law_script"] := at_mk X G a13 l13 c13 k13 fun _ _ _ _ _ _ us hl => match us, hl with | [_], _ => rfl
  have y_len : mg "len" = none := PySem.W.mg_none_of X G z1
  have y_abs : mg "abs" = none := PySem.W.mg_none_of X G z2
  have y_int : mg "int" = none := PySem.W.mg_none_of X G z3
  have y_list : mg "list" = none := PySem.W.mg_none_of X G z4
  have y_range : mg "range" = none := PySem.W.mg_none_of X G z5
  have y_sorted : mg "sorted" = none := PySem.W.mg_none_of X G z6
  have y_tuple : mg "tuple" = none := PySem.W.mg_none_of X G z7
  have y_max : mg "max" = none := PySem.W.mg_none_of X G z8
  have y_all : mg "all" = none := PySem.W.mg_none_of X G z9
  have y_isinstance : mg "isinstance" = none := PySem.W.mg_none_of X G z10
  have y_bool : mg "bool" = none := PySem.W.mg_none_of X G z11
  have y_enumerate : mg "enumerate" = none := PySem.W.mg_none_of X G z12
  refine ⟨PySem.W.fnOf "law" "law" (defArgs sLaw) (defBody sLaw) (defScope sLaw) .none kV13 dc13 pm13 an13 cd13 ct13, fun s v => .of_eq rfl, fun base _ _ => ?_⟩
  have g__law_draw := has_draw (P := l.prog) (w := w) (base := base) F__law_draw 
  have g__law_pot := has_pot (P := l.prog) (w := w) (base := base) F__law_pot ⟨y_len, y_abs⟩
  have g_fault_of_day := has_faultday (P := l.prog) (w := w) (base := base) F_fault_of_day ⟨y_range⟩
  have g_fault_of_days := has_faultdays (P := l.prog) (w := w) (base := base) F_fault_of_days ⟨y_sorted, y_enumerate, g_fault_of_day⟩
  have g__law_joined := has_joined (P := l.prog) (w := w) (base := base) F__law_joined 
  have g__law_due := has_duedays (P := l.prog) (w := w) (base := base) F__law_due ⟨y_sorted, y_enumerate, y_range, y_len, y_int, g__law_joined⟩
  have g__law_same := has_sameF (P := l.prog) (w := w) (base := base) F__law_same ⟨y_isinstance, y_tuple, y_int, y_bool, y_all⟩
  have g__law_other_day := has_otherday (P := l.prog) (w := w) (base := base) F__law_other_day ⟨y_len, g__law_draw⟩
  have g__law_other_block := has_otherblock (P := l.prog) (w := w) (base := base) F__law_other_block ⟨y_len, y_tuple, y_sorted, g__law_draw⟩
  have g__law_otherwise := has_otherwise (P := l.prog) (w := w) (base := base) F__law_otherwise ⟨y_len, g__law_draw, g__law_other_day, g__law_other_block⟩
  have g__law_mixed_up := has_mixed (P := l.prog) (w := w) (base := base) F__law_mixed_up ⟨y_len, y_list, y_range, g__law_draw⟩
  have g__law_parted := has_parted (P := l.prog) (w := w) (base := base) F__law_parted ⟨y_len, y_tuple, y_range, g__law_draw⟩
  have g_law := has_law (P := l.prog) (w := w) (base := base) F_law ⟨y_len, y_range, y_list, y_max, g__law_pot, g__law_draw, g__law_parted, g__law_joined, g__law_otherwise, g__law_mixed_up, g__law_due, g__law_same, g_fault_of_days⟩
  exact law_ok (fun_mk (st := sLaw) l13 c13 k13) (PySem.W.mg_of X G a13) g_law
theorem walk {l : PySem.W.OpenLaw} {q : Program} {loose : List Str} {XP : (Str → Option Value) → Heap → Prop} {YP : World → Heap → Prop} {d : DefRec} {K : Params → PySem.W.Frag} (hn : l.most = some 63) (hdf : d.params.defaults = [])
    (hY : ∀ (w : World) (h : Heap), YP w h → (K w.params).In h)
    (F : ∀ (w : World) (mg : Str → Option Value) (fa : Addr) (h : Heap), (K w.params).In h → h.Ns mainGlobals mg → mg d.name = some (.ref fa) →
      ∃ fd : FuncData, (∀ (s : Shared) (u : Value), BindsTo s fd ⟨[u], []⟩ [("_law_script", u)]) ∧ ∀ base : Heap, (K w.params).In base → base.Ns mainGlobals mg → FnOk l.prog w (K w.params) mg base CX0 4 fa fd ["_law_script"] (spLaw (K w.params))) :
    PySem.W.WalkO q loose XP YP l.row.toRowW d [] (fun f vs => PySem.call f vs) :=
  L2.walk_of (n := 63) (k := 4) (x := "_law_script") (CX := fun _ => CX0) (sp := fun w => spLaw (K w.params)) hn (by decide) hdf ⟨rfl, by decide, by decide⟩ hY F (fun _ _ a ns hl _ hS => ⟨a, ns, rfl, hS, hl, fun _ => rfl⟩) fun _ _ _ _ _ z => z
end My
open PySem PySem.W PyProof.Rows
set_option maxRecDepth 100000 in
set_option maxHeartbeats 0 in
theorem PySem.Challenge.cw_evenblocks_k50_faults_of_days_holds : PySem.Challenge.rw_evenblocks_k50_faults_of_days.Holds := by
  w_on; o_law; k_head; (case hw => w_witness2)
  k_fill
  refine My.walk (l := PySem.Challenge.rw_evenblocks_k50_faults_of_days) rfl rfl (fun w h Y => PySem.W.kIn_of Y) ?F
  case F =>
    intro w mg fa h KX G hmg
    refine' My.all_mk KX G hmg ?a1 ?l1 ?c1 ?k1 ?a2 ?l2 ?c2 ?k2 ?a3 ?l3 ?c3 ?k3 ?a4 ?l4 ?c4 ?k4 ?a5 ?l5 ?c5 ?k5 ?a6 ?l6 ?c6 ?k6 ?a7 ?l7 ?c7 ?k7 ?a8 ?l8 ?c8 ?k8 ?a9 ?l9 ?c9 ?k9 ?a10 ?l10 ?c10 ?k10 ?a11 ?l11 ?c11 ?k11 ?a12 ?l12 ?c12 ?k12 ?a13 ?l13 ?c13 ?k13 ?z1 ?z2 ?z3 ?z4 ?z5 ?z6 ?z7 ?z8 ?z9 ?z10 ?z11 ?z12  
    (case a1 => k_is); (case l1 => k_is); (case c1 => k_is); (case k1 => k_is)
    (case a2 => k_is); (case l2 => k_is); (case c2 => k_is); (case k2 => k_is)
    (case a3 => k_is); (case l3 => k_is); (case c3 => k_is); (case k3 => k_is)
    (case a4 => k_is); (case l4 => k_is); (case c4 => k_is); (case k4 => k_is)
    (case a5 => k_is); (case l5 => k_is); (case c5 => k_is); (case k5 => k_is)
    (case a6 => k_is); (case l6 => k_is); (case c6 => k_is); (case k6 => k_is)
    (case a7 => k_is); (case l7 => k_is); (case c7 => k_is); (case k7 => k_is)
    (case a8 => k_is); (case l8 => k_is); (case c8 => k_is); (case k8 => k_is)
    (case a9 => k_is); (case l9 => k_is); (case c9 => k_is); (case k9 => k_is)
    (case a10 => k_is); (case l10 => k_is); (case c10 => k_is); (case k10 => k_is)
    (case a11 => k_is); (case l11 => k_is); (case c11 => k_is); (case k11 => k_is)
    (case a12 => k_is); (case l12 => k_is); (case c12 => k_is); (case k12 => k_is)
    (case a13 => k_is); (case l13 => k_is); (case c13 => k_is); (case k13 => k_is)
    (case z1 => k_is)
    (case z2 => k_is)
    (case z3 => k_is)
    (case z4 => k_is)
    (case z5 => k_is)
    (case z6 => k_is)
    (case z7 => k_is)
    (case z8 => k_is)
    (case z9 => k_is)
    (case z10 => k_is)
    (case z11 => k_is)
    (case z12 => k_is)
#print axioms PySem.Challenge.cw_evenblocks_k50_faults_of_days_holds
