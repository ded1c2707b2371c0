import PyProof.Rows.All
import Wide.All
import OpenK.AllK
import Wide.FinOn
import Lean
import PyProof.EqAt
import PyProof.EqKinds
import PyProof.TupleCall
import PySem.Challenge.RW_placechange_k09_whole_joined_and_met
set_option Elab.async false
set_option linter.all false
set_option maxRecDepth 100000
namespace L2
open PySem PySem.Spec PyProof.Rows
abbrev Key := Sum Int Str
def keyIs : Key → Value → Bool
  | .inl k, v => Value.isInt k v
  | .inr x, v => Value.isStrOf x v
def keyH (w : World) : Key → Int
  | .inl k => hashInt k
  | .inr x => hashStr w x
theorem keyIs_shape : ∀ {k : Key} {v : Value}, keyIs k v = true → (∃ i t, k = Sum.inl i ∧ v = Value.int i t) ∨ (∃ x t, k = Sum.inr x ∧ v = Value.str x t)
  | .inl i, v, h => by
    obtain ⟨t, e⟩ := Value.isInt_shape (k := i) (v := v) h
    exact .inl ⟨i, t, rfl, e⟩
  | .inr x, v, h => by
    obtain ⟨t, e⟩ := Value.isStrOf_shape (x := x) (v := v) h
    exact .inr ⟨x, t, rfl, e⟩
theorem keyIs_int (i : Int) (t : Tok) : keyIs (.inl i) (.int i t) = true := by simp [keyIs, Value.isInt]
theorem keyIs_str (x : Str) (t : Tok) : keyIs (.inr x) (.str x t) = true := by simp [keyIs, Value.isStrOf]
theorem key_ll (a b : Int) : decide ((Sum.inl a : Key) = Sum.inl b) = (a == b) := by
  by_cases e : a = b
  · subst e; simp
  · have h : ¬ (Sum.inl a : Key) = Sum.inl b := fun q => e (Sum.inl.inj q)
    rw [decide_eq_false h]
    exact (beq_eq_false_iff_ne.mpr e).symm
theorem key_rr (a b : Str) : decide ((Sum.inr a : Key) = Sum.inr b) = decide (a = b) := by
  by_cases e : a = b
  · subst e; simp
  · have h : ¬ (Sum.inr a : Key) = Sum.inr b := fun q => e (Sum.inr.inj q)
    rw [decide_eq_false h, decide_eq_false e]
theorem key_lr (a : Int) (b : Str) : decide ((Sum.inl a : Key) = Sum.inr b) = false := decide_eq_false (fun q => nomatch q)
theorem key_rl (a : Str) (b : Int) : decide ((Sum.inr a : Key) = Sum.inl b) = false := decide_eq_false (fun q => nomatch q)
def mixKind (prog : Program) (w : World) : PySem.KeyKind prog w Key where
  is := keyIs
  hash := keyH w
  inj := fun v a b ha hb => by
    rcases keyIs_shape ha with ⟨i, t, rfl, rfl⟩ | ⟨x, t, rfl, rfl⟩
    · rcases keyIs_shape hb with ⟨j, u, rfl, e⟩ | ⟨y, u, rfl, e⟩
      · injection e with e1 _; rw [e1]
      · exact nomatch e
    · rcases keyIs_shape hb with ⟨j, u, rfl, e⟩ | ⟨y, u, rfl, e⟩
      · exact nomatch e
      · injection e with e1 _; rw [e1]
  byValue := fun k v h => by
    rcases keyIs_shape h with ⟨i, t, rfl, rfl⟩ | ⟨x, t, rfl, rfl⟩ <;> rfl
  pyHash := fun hv h => by
    rcases keyIs_shape hv with ⟨i, t, rfl, rfl⟩ | ⟨x, t, rfl, rfl⟩
    · exact wpAny_pyHash_int h
    · exact wpAny_pyHash_str h
  eqBool := fun hu hv h => by
    rcases keyIs_shape hu with ⟨i, t, rfl, rfl⟩ | ⟨x, t, rfl, rfl⟩
    · rcases keyIs_shape hv with ⟨j, u, rfl, rfl⟩ | ⟨y, u, rfl, rfl⟩
      · rw [key_ll] at h; exact wpAny_eqBool_int h
      · rw [key_lr] at h; exact SeqAt.EqAt.int_str i t y u _ _ _ _ h
    · rcases keyIs_shape hv with ⟨j, u, rfl, rfl⟩ | ⟨y, u, rfl, rfl⟩
      · rw [key_rl] at h; exact SeqAt.EqAt.str_int x t j u _ _ _ _ h
      · rw [key_rr] at h; exact wpAny_eqBool_str h
  «strs» := fun k x t v h => by
    rcases keyIs_shape h with ⟨i, u, rfl, e⟩ | ⟨y, u, rfl, e⟩
    · exact nomatch e
    · injection e with e1 _
      subst e1
      cases v <;> rfl
theorem mixKind_int (prog : Program) (w : World) (i : Int) (t : Tok) : (mixKind prog w).is (.inl i) (.int i t) = true := keyIs_int i t
theorem mixKind_str (prog : Program) (w : World) (x : Str) (t : Tok) : (mixKind prog w).is (.inr x) (.str x t) = true := keyIs_str x t
end L2
namespace L2
open PySem PySem.Spec PyProof.Rows
inductive V where
  | non | bl (b : Bool) | int (i : Int) | str (x : Str) | byt (b : Array UInt8) | flt (b : UInt64) | ref (a : Addr) | ty (n : String)
  deriving DecidableEq
def RelV : V → Value → Prop
  | .non, u => u = Value.none
  | .bl b, u => u = Value.bool b
  | .int i, u => ∃ t, u = Value.int i t
  | .str x, u => ∃ t, u = Value.str x t
  | .byt b, u => ∃ t, u = Value.bytes b t
  | .flt b, u => ∃ t, u = Value.float b t
  | .ref a, u => u = Value.ref a
  | .ty n, u => u = Value.type n
abbrev Vals : List V → List Value → Prop := Paired RelV
theorem Vals.length {xs : List V} {us : List Value} (r : Vals xs us) : xs.length = us.length := Paired.length r
theorem Vals.get : ∀ {xs : List V} {us : List Value} {i : Nat} {x : V}, Vals xs us → xs[i]? = some x → ∃ u, us[i]? = some u ∧ RelV x u
  | _, _, _, _, .nil, e => by simp at e
  | _, _, 0, _, .cons r _, e => by simp at e; subst e; exact ⟨_, rfl, r⟩
  | _, _, i + 1, x, .cons _ t, e => by
    obtain ⟨u, h1, h2⟩ := Vals.get (i := i) (x := x) t (by simpa using e)
    exact ⟨u, by simpa using h1, h2⟩
theorem Vals.set {x : V} {u : Value} (r : RelV x u) : ∀ {xs : List V} {us : List Value} (i : Nat), Vals xs us → Vals (xs.set i x) (us.set i u)
  | _, _, _, .nil => .nil
  | _, _, 0, .cons _ t => .cons r t
  | _, _, i + 1, .cons q t => .cons q (Vals.set r i t)
theorem Vals.append : ∀ {xs ys : List V} {us ws : List Value}, Vals xs us → Vals ys ws → Vals (xs ++ ys) (us ++ ws)
  | _, _, _, _, .nil, s => s
  | _, _, _, _, .cons r t, s => .cons r (Vals.append t s)
theorem Vals.take : ∀ {xs : List V} {us : List Value} (n : Nat), Vals xs us → Vals (xs.take n) (us.take n)
  | _, _, 0, _ => .nil
  | _, _, _ + 1, .nil => .nil
  | _, _, n + 1, .cons r t => .cons r (Vals.take n t)
theorem Vals.drop : ∀ {xs : List V} {us : List Value} (n : Nat), Vals xs us → Vals (xs.drop n) (us.drop n)
  | _, _, 0, r => r
  | _, _, _ + 1, .nil => .nil
  | _, _, n + 1, .cons _ t => Vals.drop n t
def RelO : Option V → Option Value → Prop
  | some v, some u => RelV v u
  | none, none => True
  | _, _ => False
def KV {κ : Type} : List (κ × V) → List (κ × Value) → Prop := Paired fun (p : κ × V) (q : κ × Value) => p.1 = q.1 ∧ RelV p.2 q.2
def kV : Key → V
  | .inl i => .int i
  | .inr x => .str x
inductive HO where
  | lst (xs : List V)
  | tup (xs : List V)
  | dK (kvs : List (Key × V)) | dT (kvs : List (List Key × V))
  | set (S : Int → Bool) (n : Nat)
  | ins (C dx : Addr) (fs : List (Str × V))
  | own (x : Addr)
  | xd (fs : List (Str × V))
  | met (f x : Addr)
  | rng (lo hi : Int)
  | frz (o : Obj) (u : HO)
  | tbl (ps : Array Value)
  | ext (φ : Heap → Prop)
abbrev Hp := Addr → Option HO
def upd (H : Hp) (a : Addr) (o : HO) : Hp := fun b => if b = a then some o else H b
theorem upd_same {H : Hp} {a : Addr} {o : HO} : upd H a o a = some o := by unfold upd; rw [if_pos rfl]
theorem upd_ne {H : Hp} {a b : Addr} {o : HO} (h : b ≠ a) : upd H a o b = H b := by unfold upd; rw [if_neg h]
theorem ne_of {H : Hp} {a b : Addr} {o u : HO} (h : H a = some o) (h' : H b = some u) (d : o ≠ u) : a ≠ b := by
  intro e; subst e; rw [h] at h'; exact d (Option.some.inj h')
theorem ne_of_none {H : Hp} {a b : Addr} {o : HO} (h : H a = some o) (h' : H b = none) : a ≠ b := by
  intro e; subst e; rw [h] at h'; cases h'
section
variable (P : Program) (w : World)
def ObjOk (H : Hp) (h : Heap) (a : Addr) : HO → Prop
  | .lst xs => xs.length ≤ sizeLine ∧ ∃ (its : List Value) (n : Nat), Vals xs its ∧ h.get? a = some { cls := .type "list", data := .seq its.toArray n }
  | .tup xs => xs.length ≤ sizeLine ∧ ∃ its : List Value, Vals xs its ∧ IsTup h a its.toArray
  | .dK kvs => kvs.length ≤ sizeLine ∧ (a == sysModules) = false ∧ ∃ vs, KV kvs vs ∧ h.DictOf (mixKind P w) a vs
  | .dT kvs => kvs.length ≤ sizeLine ∧ (a == sysModules) = false ∧ ∃ xs : List (List Key × Addr × Value),
      Paired (fun (p : List Key × V) (q : List Key × Addr × Value) => p.1 = q.1 ∧ H q.2.1 = some (.tup (p.1.map kV)) ∧ RelV p.2 q.2.2) kvs xs ∧
      ∃ o es ep, h.get? a = some o ∧ o.ExactDict ∧ o.data = .dict es ep ∧ es.toList = xs.map (entryOfKey (tupleKind (mixKind P w))) ∧ (xs.map (·.1)).Nodup
  | .set S n => h.SetOf (intKind P w) a S n
  | .ins C dx fs => H dx = some (.own a) ∧ fs.length ≤ 1000 ∧ dx ≠ a ∧ h.get? a = some (PySem.W.instObj C dx) ∧
      ∃ mA, h.Ns1 dx mA ∧ (∀ f, RelO (fs.lookup f) (mA f)) ∧ PySem.Within mA (fs.map (·.1))
  | .own _ => ∃ o, h.get? a = some o
  | .xd fs => ∃ mA, h.Ns1 a mA ∧ ∀ f, RelO (fs.lookup f) (mA f)
  | .rng lo hi => ∃ t u v, h.get? a = some { cls := .type "range", data := .fields #[.int lo t, .int hi u, .int 1 v] }
  | .frz o u => h.get? a = some o ∧ ObjOk H h a u
  | .tbl ps => h.get? a = some { cls := .none, data := .fields ps }
  | .met f x => h.get? a = some (PySem.W.methodObj (.ref f) (.ref x))
  | .ext φ => φ h ∧ (∃ o, h.get? a = some o) ∧ ∀ h1 h2 : Heap, φ h1 → (∀ o, h1.get? a = some o → h2.get? a = some o) → φ h2
def HOk (H : Hp) (h : Heap) : Prop := ∀ a o, H a = some o → ObjOk P w H h a o
end
section
variable {P : Program} {w : World} {H H' : Hp} {h h' : Heap} {a : Addr} {o : HO}
theorem ObjOk.lt (x : ObjOk P w H h a o) : a < h.objs.size := by
  cases o with
  | lst xs => obtain ⟨_, _, _, _, e⟩ := x; exact Heap.lt_size e
  | tup xs => obtain ⟨_, _, _, p⟩ := x; exact p.lt
  | dK kvs => obtain ⟨_, _, _, _, o, _, _, e, _⟩ := x; exact Heap.lt_size e
  | dT kvs => obtain ⟨_, _, _, _, o, _, _, e, _⟩ := x; exact Heap.lt_size e
  | set S n => obtain ⟨o, _, _, _, e, _⟩ := x; exact Heap.lt_size e
  | ins C dx fs => obtain ⟨_, _, _, e, _⟩ := x; exact Heap.lt_size e
  | own y => obtain ⟨_, e⟩ := x; exact Heap.lt_size e
  | xd fs => obtain ⟨_, ⟨_, _, _, e, _⟩, _⟩ := x; exact Heap.lt_size e
  | rng lo hi => obtain ⟨_, _, _, e⟩ := x; exact Heap.lt_size e
  | frz ob u => obtain ⟨e, _⟩ := x; exact Heap.lt_size e
  | tbl ps => exact Heap.lt_size (show h.get? a = some _ from x)
  | met f y => exact Heap.lt_size (show h.get? a = some _ from x)
  | ext φ => obtain ⟨_, ⟨_, e⟩, _⟩ := x; exact Heap.lt_size e
theorem Paired.mapP {α β : Type} {F G : α → β → Prop} : ∀ {l₁ : List α} {l₂ : List β}, Paired F l₁ l₂ → (∀ a b, F a b → G a b) → Paired G l₁ l₂
  | _, _, .nil, _ => .nil
  | _, _, .cons r t, f => .cons (f _ _ r) (Paired.mapP t f)
theorem ObjOk.stay (x : ObjOk P w H h a o) (k : ∀ b u, (b = a ∨ H b = some (.own a)) → h.get? b = some u → h'.get? b = some u)
    (ho : ∀ b, H b = some (.own a) → H' b = some (.own a)) (ht : ∀ b xs, H b = some (.tup xs) → H' b = some (.tup xs)) : ObjOk P w H' h' a o := by
  induction o with
  | lst xs => obtain ⟨z, its, n, r, e⟩ := x; exact ⟨z, its, n, r, k _ _ (.inl rfl) e⟩
  | tup xs => obtain ⟨z, its, r, ob, e, c⟩ := x; exact ⟨z, its, r, ob, k _ _ (.inl rfl) e, c⟩
  | dK kvs => obtain ⟨z, y, vs, r, ob, es, ep, e, c⟩ := x; exact ⟨z, y, vs, r, ob, es, ep, k _ _ (.inl rfl) e, c⟩
  | dT kvs =>
    obtain ⟨z, y, xs, r, ob, es, ep, e, c⟩ := x
    exact ⟨z, y, xs, Paired.mapP r fun p q z => ⟨z.1, ht _ _ z.2.1, z.2.2⟩, ob, es, ep, k _ _ (.inl rfl) e, c⟩
  | set S n => obtain ⟨ob, es, ep, t, e, c⟩ := x; exact ⟨ob, es, ep, t, k _ _ (.inl rfl) e, c⟩
  | ins C dx fs =>
    obtain ⟨d, z, ne, e, mA, ⟨od, es, ep, e2, c⟩, r⟩ := x
    exact ⟨ho _ d, z, ne, k _ _ (.inl rfl) e, mA, ⟨od, es, ep, k _ _ (.inr d) e2, c⟩, r⟩
  | own y => obtain ⟨ob, e⟩ := x; exact ⟨ob, k _ _ (.inl rfl) e⟩
  | xd fs => obtain ⟨mA, ⟨od, es, ep, e, c⟩, r⟩ := x; exact ⟨mA, ⟨od, es, ep, k _ _ (.inl rfl) e, c⟩, r⟩
  | rng lo hi => obtain ⟨t, u, v, e⟩ := x; exact ⟨t, u, v, k _ _ (.inl rfl) e⟩
  | frz ob u ih => obtain ⟨e, q⟩ := x; exact ⟨k _ _ (.inl rfl) e, ih q⟩
  | tbl ps =>
    have e : h.get? a = some { cls := .none, data := .fields ps } := x
    show h'.get? a = some { cls := .none, data := .fields ps }
    exact k a _ (.inl rfl) e
  | met f y =>
    have e : h.get? a = some (PySem.W.methodObj (.ref f) (.ref y)) := x
    show h'.get? a = some (PySem.W.methodObj (.ref f) (.ref y))
    exact k a _ (.inl rfl) e
  | ext φ => obtain ⟨p, ⟨o, e⟩, st⟩ := x; exact ⟨st _ _ p fun o q => k _ _ (.inl rfl) q, ⟨o, k _ _ (.inl rfl) e⟩, st⟩
theorem HOk.lt (x : HOk P w H h) (e : H a = some o) : a < h.objs.size := (x a o e).lt
theorem HOk.fresh (x : HOk P w H h) (e : h.objs.size ≤ a) : H a = none := by
  cases q : H a with
  | none => rfl
  | some u => exact absurd (Nat.lt_of_lt_of_le (x.lt q) e) (Nat.lt_irrefl _)
theorem HOk.kept (x : HOk P w H h) (k : ∀ b u, h.get? b = some u → h'.get? b = some u) : HOk P w H h' := fun a o e =>
  (x a o e).stay (fun b u _ q => k b u q) (fun _ q => q) fun _ _ q => q
theorem HOk.laid (x : HOk P w H h) (k : ∀ b u, h.get? b = some u → h'.get? b = some u) (hp : h.objs.size ≤ a) (new : ObjOk P w (upd H a o) h' a o) : HOk P w (upd H a o) h' := fun b u e => by
  have hn := x.fresh hp
  by_cases hb : b = a
  · subst hb; rw [upd_same] at e; cases e; exact new
  · rw [upd_ne hb] at e
    exact (x b u e).stay (fun c v _ q => k c v q) (fun c q => by rw [upd_ne (ne_of_none q hn)]; exact q) fun c xs q => by rw [upd_ne (ne_of_none q hn)]; exact q
end
def Rd (H : Hp) (a : Addr) (u : HO) : Prop := H a = some u ∨ ∃ o, H a = some (.frz o u)
theorem Rd.of {H : Hp} {a : Addr} {u : HO} (h : H a = some u) : Rd H a u := .inl h
theorem Rd.ok {P : Program} {w : World} {H : Hp} {h : Heap} {a : Addr} {u : HO} (r : Rd H a u) (x : HOk P w H h) : ObjOk P w H h a u := by
  rcases r with r | ⟨o, r⟩
  · exact x a u r
  · obtain ⟨_, q⟩ := x a _ r
    exact q
def Mut : Option HO → Prop
  | some (.lst _) => True
  | some (.dK _) => True
  | some (.dT _) => True
  | some (.set _ _) => True
  | some (.ins _ _ _) => True
  | some (.ext _) => True
  | _ => False
section
variable {P : Program} {w : World} {H : Hp} {h h' : Heap} {x e : Addr} {o' : HO}
theorem HOk.write (ok : HOk P w H h) (mu : Mut (H x)) (he : e = x ∨ H e = some (.own x)) (k : ∀ b u, b ≠ e → h.get? b = some u → h'.get? b = some u) (heo : ∃ u, h'.get? e = some u)
    (new : ObjOk P w (upd H x o') h' x o') : HOk P w (upd H x o') h' := fun b u q => by
  have nown : ∀ c y, H c = some (.own y) → c ≠ x := fun c y r z => by subst z; rw [r] at mu; exact mu
  have ntup : ∀ c xs, H c = some (.tup xs) → c ≠ x := fun c xs r z => by subst z; rw [r] at mu; exact mu
  by_cases hb : b = x
  · subst hb; rw [upd_same] at q; cases q; exact new
  · rw [upd_ne hb] at q
    by_cases hbe : b = e
    · have q' : H b = some (.own x) := by
        rcases he with z | z
        · exact absurd (hbe.trans z) hb
        · rw [hbe]; exact z
      rw [q] at q'; cases q'
      obtain ⟨v, hv⟩ := heo
      exact ⟨v, by rw [hbe]; exact hv⟩
    · refine (ok b u q).stay (fun c v hc r => k c v ?_ r) (fun c r => by rw [upd_ne (nown c b r)]; exact r) fun c xs r => by rw [upd_ne (ntup c xs r)]; exact r
      rcases hc with rfl | hc
      · exact hbe
      · rintro rfl
        rcases he with z | z
        · exact nown c b hc z
        · rw [hc] at z; cases z; exact hb rfl
end
structure Un (fs ex : List Addr) (H H' : Hp) (h h' : Heap) : Prop where
  keep : ∀ b o, h.get? b = some o → H b = none → b ∉ fs → b ∉ ex → h'.get? b = some o
  slot : ∀ b o, h.get? b = some o → H b = none → b ∈ fs → b ∉ ex → ∃ sl, h'.get? b = some { o with slots := sl }
  free : ∀ b o, h.get? b = some o → H b = none → b ∉ ex → H' b = none
  there : ∀ b o, h.get? b = some o → b ∉ ex → ∃ o', h'.get? b = some o'
  tups : ∀ b xs, H b = some (.tup xs) → H' b = some (.tup xs)
  frzs : ∀ b o u, H b = some (.frz o u) → H' b = some (.frz o u)
  tbls : ∀ b ps, H b = some (.tbl ps) → ∃ more, H' b = some (.tbl (ps ++ more))
section
variable {fs fs' ex ex' : List Addr} {H H1 H2 : Hp} {h h1 h2 h' : Heap} {a x e : Addr} {o : HO}
theorem Un.any (u : Un fs ex H H1 h h1) {b : Addr} {ob : Obj} (q : h.get? b = some ob) (n : H b = none) (hx : b ∉ ex) : ∃ sl, h1.get? b = some { ob with slots := sl } := by
  by_cases hb : b ∈ fs
  · exact u.slot b ob q n hb hx
  · exact ⟨ob.slots, u.keep b ob q n hb hx⟩
theorem Un.trans (a : Un fs ex H H1 h h1) (b : Un fs ex H1 H2 h1 h2) : Un fs ex H H2 h h2 where
  keep := fun c ob q n hc hx => b.keep c ob (a.keep c ob q n hc hx) (a.free c ob q n hx) hc hx
  slot := fun c ob q n hc hx => by
    obtain ⟨sl, e1⟩ := a.slot c ob q n hc hx
    obtain ⟨sl', e2⟩ := b.slot c _ e1 (a.free c ob q n hx) hc hx
    exact ⟨sl', e2⟩
  free := fun c ob q n hx => by
    obtain ⟨o', e1⟩ := a.there c ob q hx
    exact b.free c o' e1 (a.free c ob q n hx) hx
  there := fun c ob q hx => by
    obtain ⟨o', e1⟩ := a.there c ob q hx
    exact b.there c o' e1 hx
  tups := fun c xs q => b.tups c xs (a.tups c xs q)
  frzs := fun c ob xs q => b.frzs c ob xs (a.frzs c ob xs q)
  tbls := fun c ps q => by
    obtain ⟨m1, e1⟩ := a.tbls c ps q
    obtain ⟨m2, e2⟩ := b.tbls c _ e1
    exact ⟨m1 ++ m2, by rw [e2, Array.append_assoc]⟩
theorem Un.kept (k : ∀ b u, h.get? b = some u → h'.get? b = some u) : Un fs ex H H h h' :=
  ⟨fun b ob q _ _ _ => k b ob q, fun b ob q _ _ _ => ⟨ob.slots, k b ob q⟩, fun _ _ _ n _ => n, fun b ob q _ => ⟨ob, k b ob q⟩, fun _ _ q => q, fun _ _ _ q => q, fun _ ps q => ⟨#[], by rw [q]; simp⟩⟩
theorem Un.refl : Un fs ex H H h h := Un.kept fun _ _ q => q
theorem Un.laid (k : ∀ b u, h.get? b = some u → h'.get? b = some u) (hp : h.objs.size ≤ a) (hn : H a = none) : Un fs ex H (upd H a o) h h' where
  keep := fun b u q _ _ _ => k b u q
  slot := fun b u q _ _ _ => ⟨u.slots, k b u q⟩
  free := fun b u q n _ => by rw [upd_ne (Nat.ne_of_lt (Nat.lt_of_lt_of_le (Heap.lt_size q) hp))]; exact n
  there := fun b u q _ => ⟨u, k b u q⟩
  tups := fun b xs q => by rw [upd_ne (ne_of_none q hn)]; exact q
  frzs := fun b u xs q => by rw [upd_ne (ne_of_none q hn)]; exact q
  tbls := fun b ps q => ⟨#[], by rw [upd_ne (ne_of_none q hn), q]; simp⟩
theorem Un.write (mu : Mut (H x)) (he : e = x ∨ H e = some (.own x)) (k : ∀ b u, b ≠ e → h.get? b = some u → h'.get? b = some u) (heo : ∃ u, h'.get? e = some u) : Un fs ex H (upd H x o) h h' := by
  have hx : ∀ b, H b = none → b ≠ x := fun b n z => by subst z; rw [n] at mu; exact mu
  have hb : ∀ b, H b = none → b ≠ e := fun b n z => by
    subst z
    rcases he with r | r
    · exact hx b n r
    · rw [n] at r; cases r
  have hm : ∀ b u, H b = some u → ¬ Mut (some u) → b ≠ x := fun b u q nm z => by subst z; rw [q] at mu; exact nm mu
  refine ⟨fun b u q n _ _ => k b u (hb b n) q, fun b u q n _ _ => ⟨u.slots, k b u (hb b n) q⟩, fun b u q n _ => by rw [upd_ne (hx b n)]; exact n, fun b u q _ => ?_,
    fun b xs q => by rw [upd_ne (hm b _ q fun z => z)]; exact q, fun b u xs q => by rw [upd_ne (hm b _ q fun z => z)]; exact q, fun b ps q => ⟨#[], by rw [upd_ne (hm b _ q fun z => z), q]; simp⟩⟩
  by_cases hbe : b = e
  · subst hbe; exact heo
  · exact ⟨u, k b u hbe q⟩
theorem Un.mono (u : Un fs ex H H1 h h1) (hs : ∀ b ∈ fs, b ∈ fs') (hx : ∀ b ∈ ex, b ∈ ex') : Un fs' ex' H H1 h h1 :=
  ⟨fun b ob q n hb he => u.keep b ob q n (fun z => hb (hs b z)) fun z => he (hx b z), fun _ _ q n _ he => u.any q n fun z => he (hx _ z), fun b ob q n he => u.free b ob q n fun z => he (hx b z), fun b ob q he => u.there b ob q fun z => he (hx b z), u.tups, u.frzs, u.tbls⟩
end
def trk (h : Heap) (H : Hp) : List Addr := (List.range h.objs.size).filter fun a => (H a).isSome
def hidT (h : Heap) (H : Hp) : Heap := PySem.W.hideAll h (trk h H)
theorem hidT_size (h : Heap) (H : Hp) : (hidT h H).objs.size = h.objs.size := PySem.W.hideAll_size _ _
theorem hidT_get {h : Heap} {H : Hp} {b : Addr} {o : Obj} (e : h.get? b = some o) (n : H b = none) : (hidT h H).get? b = some o :=
  PySem.W.hideAll_get _ e fun hm => by
    have q : (H b).isSome = true := (List.mem_filter.mp hm).2
    rw [n] at q; simp at q
theorem of_hidT {h : Heap} {H : Hp} {b : Addr} {o : Obj} (e : (hidT h H).get? b = some o) : h.get? b = some o ∧ H b = none := by
  have e' : h.get? b = some o := PySem.W.of_hideAll (trk h H) e
  refine ⟨e', ?_⟩
  cases q : H b with
  | none => rfl
  | some x =>
    have hm : b ∈ trk h H := List.mem_filter.mpr ⟨List.mem_range.mpr (Heap.lt_size e'), by simp [q]⟩
    have z : (hidT h H).get? b = none := PySem.W.hideAll_none (trk h H) hm
    rw [z] at e; cases e
def allNews (g h : Heap) (L : Addr) : List (Addr × Obj) := (List.range h.objs.size).filterMap fun a => if a = L ∨ (g.get? a).isSome = true then none else (h.get? a).map fun o => (a, o)
def rest (g h : Heap) (L d : Addr) : List (Addr × Obj) := (allNews g h L).filter fun p => decide (p.1 ≠ d)
end L2
namespace L2
open PySem PySem.Spec PyProof.Rows
structure Mod (K : PySem.W.Frag) (mg : Str → Option Value) (base : Heap) : Prop where
  kin : K.In base
  glob : base.Ns mainGlobals mg
  blt : ∃ mb, base.Ns builtinsNs mb ∧ ∀ x : Str, x ≠ "__name__" → mb x = bootBuiltins x
  nolimit : base.NoLimit
structure Cx where
  prog : Program
  w : World
  K : PySem.W.Frag
  mg : Str → Option Value
  base : Heap
  A : Around
  N : List Str
  s₀ : Shared
  H₀ : Hp
  env : Env
  outer : List Env
  stack : List Env
  ex : List Addr
  fn : Str → Bool
  calm : Bool
  pn : List (Addr × Obj)
  xe : Value → Shared → Prop
def frs (l : List Env) : List Addr := l.filterMap (·.frame)
abbrev Cx.fs (X : Cx) : List Addr := frs X.outer
def Vis (sc : Scope) (x : Str) : Prop := sc.names.lookup x = some .local ∨ sc.names.lookup x = some .cell ∨ sc.names.lookup x = some .free
def Loc (sc : Scope) (x : Str) : Prop := sc.names.lookup x = some .local ∨ sc.names.lookup x = some .cell
def Look (env : Env) (h : Heap) (m : Str → Option Value) (x : Str) (u : Value) : Prop :=
  (env.kindOf x = some .local ∧ m x = some u) ∨ ((env.kindOf x = some .cell ∨ env.kindOf x = some .free) ∧ ∃ c, env.cells.lookup x = some c ∧ h.IsCell c (some u))
structure Cx.Ok (X : Cx) : Prop where
  mod : Mod X.K X.mg X.base
  kind : X.env.scope.kind = .function
  glob : X.env.globals = mainGlobals
  blt : X.env.builtins = builtinsNs
  above : X.s₀.heap.objs.size ≤ X.env.locals
  inj : ∀ x y c, X.env.cells.lookup x = some c → X.env.cells.lookup y = some c → x = y
  has : ∀ x, (X.env.kindOf x = some .cell ∨ X.env.kindOf x = some .free) → ∃ c, X.env.cells.lookup x = some c
  cab : ∀ x c, X.fn x = true → X.env.cells.lookup x = some c → X.s₀.heap.objs.size ≤ c
  hd : X.calm = true → X.A.handled = none
  frames : X.A.frames = some X.stack
  stk : X.stack = X.outer ∨ (X.stack = X.env :: X.outer ∧ X.env.frame = some X.env.locals)
  exf : ∀ b ∈ X.ex, b ≠ X.env.locals ∧ ∀ x c, X.env.cells.lookup x = some c → c ≠ b
  bs : ∀ b o, X.base.get? b = some o → X.s₀.heap.get? b = some o ∧ X.H₀ b = none
  bsz : X.base.objs.size ≤ X.s₀.heap.objs.size
  noex : ∀ b o, X.base.get? b = some o → b ∉ X.ex
  exfs : ∀ b ∈ X.ex, b ∉ X.fs
  funs : X.s₀.heap.FunFrames X.base X.outer
  frf : ∀ b ∈ X.fs, X.H₀ b = none
structure Inv (X : Cx) (pins : List (Addr × Obj)) (σ : List (Option V)) (H : Hp) (s : Shared) : Prop where
  ok : X.Ok
  os : s.os = X.s₀.os
  bare : AllBare s.gens
  base : Un X.fs X.ex X.H₀ H X.s₀.heap s.heap
  loc : ∃ m, s.heap.Ns X.env.locals m ∧ ∀ (i : Nat) (x : Str) (v : V), X.N[i]? = some x → σ[i]? = some (some v) → Vis X.env.scope x → ∃ u, RelV v u ∧ Look X.env s.heap m x u
  cell : ∀ x c, X.env.cells.lookup x = some c → ∃ v, s.heap.IsCell c v
  free : H X.env.locals = none
  freeC : ∀ x c, X.env.cells.lookup x = some c → H c = none
  pin : ∀ p ∈ X.pn ++ pins, s.heap.get? p.1 = some p.2 ∧ H p.1 = none ∧ p.1 ≠ X.env.locals ∧ p.1 ∉ X.fs ∧ ∀ v, p.2.data ≠ .cell v
  hok : HOk X.prog X.w H s.heap
  len : σ.length = X.N.length
section
variable {X : Cx} {pins : List (Addr × Obj)} {σ : List (Option V)} {H H' : Hp} {s : Shared} {h' : Heap}
theorem Cx.Ok.nofr (ok : X.Ok) {b : Addr} {o : Obj} (e : X.base.get? b = some o) : b ∉ X.fs := fun hb => by
  have := (ok.funs.mem hb).1
  rw [e] at this; cases this
theorem Inv.bs (I : Inv X pins σ H s) : ∀ b o, X.base.get? b = some o → s.heap.get? b = some o ∧ H b = none := fun b o e =>
  ⟨I.base.keep b o (I.ok.bs b o e).1 (I.ok.bs b o e).2 (I.ok.nofr e) (I.ok.noex b o e), I.base.free b o (I.ok.bs b o e).1 (I.ok.bs b o e).2 (I.ok.noex b o e)⟩
theorem Inv.bk (I : Inv X pins σ H s) : ∀ b o, X.base.get? b = some o → s.heap.get? b = some o := fun b o e => (I.bs b o e).1
theorem Inv.mod (I : Inv X pins σ H s) : Mod X.K X.mg X.base := I.ok.mod
theorem Inv.kIn (I : Inv X pins σ H s) : X.K.In s.heap := I.ok.mod.kin.keeps I.bk
theorem Inv.nolimit (I : Inv X pins σ H s) : s.heap.NoLimit := I.ok.mod.nolimit.keeps I.bk
theorem Inv.fr (I : Inv X pins σ H s) : ∃ m, Fr X.base X.env.locals s.heap m :=
  let ⟨m, hn, _⟩ := I.loc
  ⟨m, hn, I.bk, Nat.le_trans I.ok.bsz I.ok.above⟩
theorem Inv.lt (I : Inv X pins σ H s) : X.env.locals < s.heap.objs.size := let ⟨_, hn, _⟩ := I.loc; hn.lt
theorem Inv.sz (I : Inv X pins σ H s) : X.s₀.heap.objs.size ≤ s.heap.objs.size := Nat.le_trans I.ok.above (Nat.le_of_lt I.lt)
theorem Inv.nofs (I : Inv X pins σ H s) {a : Addr} (h : s.heap.objs.size ≤ a) : a ∉ X.fs := fun hb => by
  obtain ⟨_, o, ho, _⟩ := I.ok.funs.mem hb
  exact absurd (Nat.lt_of_lt_of_le (Heap.lt_size ho) (Nat.le_trans I.sz h)) (Nat.lt_irrefl _)
theorem Inv.cne (I : Inv X pins σ H s) : ∀ x c, X.env.cells.lookup x = some c → c ≠ X.env.locals := fun x c e z => by
  obtain ⟨v, o, ho, hd⟩ := I.cell x c e
  obtain ⟨m, ⟨o', es, ep, ho', hd', _⟩, _⟩ := I.loc
  rw [z, ho'] at ho; cases ho; rw [hd'] at hd; cases hd
theorem Inv.funs (I : Inv X pins σ H s) : s.heap.FunFrames X.base X.outer := by
  have all : ∀ (l : List Env), (∀ b ∈ frs l, b ∈ X.fs) → X.s₀.heap.FunFrames X.base l → s.heap.FunFrames X.base l := by
    intro l
    induction l with
    | nil => intro _ _; trivial
    | cons env r ih =>
      intro hs hl
      obtain ⟨hk, ⟨L, o, hf, hn, ho, hd⟩, hr⟩ := hl
      have hL : L ∈ X.fs := hs L (by unfold frs; rw [List.filterMap_cons, hf]; exact List.mem_cons_self)
      obtain ⟨sl, e⟩ := I.base.slot L o ho (I.ok.frf L hL) hL fun z => I.ok.exfs L z hL
      exact ⟨hk, ⟨L, _, hf, hn, e, hd⟩, ih (fun b hb => hs b (by unfold frs; rw [List.filterMap_cons, hf]; exact List.mem_cons_of_mem _ hb)) hr⟩
  exact all X.outer (fun _ hb => hb) I.ok.funs
theorem Inv.stack (I : Inv X pins σ H s) : s.heap.FunFrames X.base X.stack := by
  rcases I.ok.stk with e | ⟨e, hf⟩
  · rw [e]; exact I.funs
  · rw [e]
    obtain ⟨m, hn, _⟩ := I.loc
    refine .cons (by rw [I.ok.kind]; decide) hf hn ?_ I.funs
    exact Heap.get?_none_of_le (Nat.le_trans I.ok.bsz I.ok.above)
theorem Inv.stkSub (I : Inv X pins σ H s) : ∀ b ∈ frs X.stack, b ∈ X.env.locals :: X.fs := fun b hb => by
  rcases I.ok.stk with e | ⟨e, hf⟩
  · rw [e] at hb; exact List.mem_cons_of_mem _ hb
  · rw [e] at hb
    unfold frs at hb
    rw [List.filterMap_cons, hf] at hb
    exact hb
theorem Inv.stkFree (I : Inv X pins σ H s) : ∀ b ∈ frs X.stack, H b = none := fun b hb => by
  rcases List.mem_cons.mp (I.stkSub b hb) with e | hb
  · rw [e]; exact I.free
  · obtain ⟨_, o, ho, _⟩ := I.ok.funs.mem hb
    exact I.base.free b o ho (I.ok.frf b hb) fun z => I.ok.exfs b z hb
theorem Inv.step {g' : Array GenState} {t' : Nat} {d' : Drawn} {ch : List Addr} (I : Inv X pins σ H s)
    (hch : ∀ b ∈ ch, (b ∈ X.ex ∨ X.s₀.heap.objs.size ≤ b) ∧ b ≠ X.env.locals ∧ (∀ x c, X.env.cells.lookup x = some c → c ≠ b) ∧ ∀ p ∈ X.pn ++ pins, p.1 ≠ b)
    (keep : ∀ b o, b ≠ X.env.locals → b ∉ X.fs → b ∉ ch → s.heap.get? b = some o → H b = none → h'.get? b = some o)
    (slot : ∀ b o, b ≠ X.env.locals → b ∈ X.fs → b ∉ ch → s.heap.get? b = some o → H b = none → ∃ sl, h'.get? b = some { o with slots := sl }) (free : ∀ b o, b ∉ ch → s.heap.get? b = some o → H b = none → H' b = none)
    (there : ∀ b o, b ∉ ch → s.heap.get? b = some o → ∃ o', h'.get? b = some o')
    (tups : ∀ b xs, H b = some (.tup xs) → H' b = some (.tup xs)) (frzs : ∀ b o u, H b = some (.frz o u) → H' b = some (.frz o u)) (tbls : ∀ b ps, H b = some (.tbl ps) → ∃ more, H' b = some (.tbl (ps ++ more)))
    (ns : ∀ m, s.heap.Ns X.env.locals m → h'.Ns X.env.locals m) (hok : HOk X.prog X.w H' h') (hg : AllBare g') :
    Inv X pins σ H' { s with heap := h', gens := g', drawn := d', toks := t' } := by
  have neL : ∀ b o, X.s₀.heap.get? b = some o → b ≠ X.env.locals := fun b o e => Nat.ne_of_lt (Nat.lt_of_lt_of_le (Heap.lt_size e) I.ok.above)
  have neC : ∀ b o, X.s₀.heap.get? b = some o → b ∉ X.ex → b ∉ ch := fun b o e hx hb => by
    rcases (hch b hb).1 with z | z
    · exact hx z
    · exact absurd (Nat.lt_of_lt_of_le (Heap.lt_size e) z) (Nat.lt_irrefl _)
  have cellK : ∀ x c, X.env.cells.lookup x = some c → ∀ v, s.heap.IsCell c v → h'.IsCell c v := fun x c e v ⟨o, ho, hd⟩ => by
    have nch : c ∉ ch := fun z => (hch c z).2.2.1 x c e rfl
    by_cases hc : c ∈ X.fs
    · obtain ⟨sl, q⟩ := slot c o (I.cne x c e) hc nch ho (I.freeC x c e)
      exact ⟨_, q, hd⟩
    · exact ⟨o, keep c o (I.cne x c e) hc nch ho (I.freeC x c e), hd⟩
  refine ⟨I.ok, I.os, hg, ⟨fun b o e n hb hx => ?_, fun b o e n hb hx => ?_, fun b o e n hx => ?_, fun b o e hx => ?_, fun b xs e => tups b xs (I.base.tups b xs e), fun b o xs e => frzs b o xs (I.base.frzs b o xs e), fun b ps e => ?_⟩, ?_, fun x c e => ?_, ?_, fun x c e => ?_, fun p hp => ?_, hok, I.len⟩
  · exact keep b o (neL b o e) hb (neC b o e hx) (I.base.keep b o e n hb hx) (I.base.free b o e n hx)
  · obtain ⟨sl, e1⟩ := I.base.slot b o e n hb hx
    obtain ⟨sl', e2⟩ := slot b _ (neL b o e) hb (neC b o e hx) e1 (I.base.free b o e n hx)
    exact ⟨sl', e2⟩
  · obtain ⟨o', e1⟩ := I.base.there b o e hx
    exact free b o' (neC b o e hx) e1 (I.base.free b o e n hx)
  · obtain ⟨o', e1⟩ := I.base.there b o e hx
    exact there b o' (neC b o e hx) e1
  · obtain ⟨m1, e1⟩ := I.base.tbls b ps e
    obtain ⟨m2, e2⟩ := tbls b _ e1
    exact ⟨m1 ++ m2, by rw [e2, Array.append_assoc]⟩
  · obtain ⟨m, hn, hl⟩ := I.loc
    refine ⟨m, ns m hn, fun i x v e1 e2 e3 => ?_⟩
    obtain ⟨u, r, l⟩ := hl i x v e1 e2 e3
    refine ⟨u, r, ?_⟩
    rcases l with l | ⟨k, c, e, z⟩
    · exact .inl l
    · exact .inr ⟨k, c, e, cellK x c e _ z⟩
  · obtain ⟨v, z⟩ := I.cell x c e
    exact ⟨v, cellK x c e v z⟩
  · obtain ⟨m, ⟨o, _, _, ho, _⟩, _⟩ := I.loc
    exact free _ o (fun z => (hch _ z).2.1 rfl) ho I.free
  · obtain ⟨v, o, ho, hd⟩ := I.cell x c e
    exact free c o (fun z => (hch c z).2.2.1 x c e rfl) ho (I.freeC x c e)
  · obtain ⟨e, n, ne, nf, d⟩ := I.pin p hp
    have nch : p.1 ∉ ch := fun z => (hch p.1 z).2.2.2 p hp rfl
    exact ⟨keep p.1 p.2 ne nf nch e n, free p.1 p.2 nch e n, ne, nf, d⟩
theorem Inv.un {t' : Nat} (I : Inv X pins σ H s) (u : Un X.fs [] H H' s.heap h') (hok : HOk X.prog X.w H' h') : Inv X pins σ H' { s with heap := h', toks := t' } := by
  obtain ⟨m, ⟨o, es, ep, ho, r⟩, _⟩ := id I.loc
  obtain ⟨sl, hL⟩ := u.any ho I.free (by simp)
  exact I.step (g' := s.gens) (d' := s.drawn) (ch := []) (fun _ z => nomatch z) (fun b o _ hb _ e n => u.keep b o e n hb (by simp)) (fun b o _ hb _ e n => u.slot b o e n hb (by simp)) (fun b o _ e n => u.free b o e n (by simp)) (fun b o _ e => u.there b o e (by simp)) u.tups u.frzs u.tbls (fun m' hm => by
    obtain ⟨o', es', ep', ho', r'⟩ := hm
    rw [ho] at ho'; cases ho'
    exact ⟨_, es', ep', hL, r'⟩) hok I.bare
theorem Inv.call {g' : Array GenState} {t' : Nat} {d' : Drawn} {ch : List Addr} (I : Inv X pins σ H s) (u : Un (frs X.stack) ch H H' s.heap h') (hok : HOk X.prog X.w H' h') (hg : AllBare g')
    (hch : ∀ b ∈ ch, (b ∈ X.ex ∨ X.s₀.heap.objs.size ≤ b) ∧ b ≠ X.env.locals ∧ (∀ x c, X.env.cells.lookup x = some c → c ≠ b) ∧ ∀ p ∈ X.pn ++ pins, p.1 ≠ b) :
    Inv X pins σ H' { s with heap := h', gens := g', drawn := d', toks := t' } := by
  obtain ⟨m, ⟨o, es, ep, ho, r⟩, _⟩ := id I.loc
  obtain ⟨sl, hL⟩ := u.any ho I.free fun z => (hch _ z).2.1 rfl
  exact I.step (ch := ch) hch (fun b o hL hb hc e n => u.keep b o e n (fun z => (List.mem_cons.mp (I.stkSub b z)).elim hL hb) hc) (fun b o _ _ hc e n => u.any e n hc) (fun b o hc e n => u.free b o e n hc) (fun b o hc e => u.there b o e hc) u.tups u.frzs u.tbls (fun m' hm => by
    obtain ⟨o', es', ep', ho', r'⟩ := hm
    rw [ho] at ho'; cases ho'
    exact ⟨_, es', ep', hL, r'⟩) hok hg
theorem Inv.turned {t' : Nat} {it : Addr} (I : Inv X pins σ H s) (k : ∀ b o, b ≠ it → s.heap.get? b = some o → h'.get? b = some o) (hn : H it = none) (hL : it ≠ X.env.locals)
    (h1 : it ∈ X.ex ∨ X.s₀.heap.objs.size ≤ it) (h2 : ∀ x c, X.env.cells.lookup x = some c → c ≠ it) (h3 : ∀ p ∈ X.pn ++ pins, p.1 ≠ it) : Inv X pins σ H { s with heap := h', toks := t' } := by
  have nit : ∀ b u, H b = some u → b ≠ it := fun b u e z => by rw [z, hn] at e; cases e
  refine I.step (g' := s.gens) (d' := s.drawn) (ch := [it]) (fun b hb => ?_) (fun b o _ _ hc e _ => k b o (fun z => hc (by simp [z])) e) (fun b o _ _ hc e _ => ⟨o.slots, k b o (fun z => hc (by simp [z])) e⟩) (fun _ _ _ _ n => n)
    (fun b o hc e => ⟨o, k b o (fun z => hc (by simp [z])) e⟩) (fun _ _ e => e) (fun _ _ _ e => e) (fun b ps e => ⟨#[], by rw [e]; simp⟩) (fun m hm => ?_) (fun b u e => ?_) I.bare
  · have e : b = it := by simpa using hb
    subst e
    exact ⟨h1, hL, h2, h3⟩
  · obtain ⟨o, es, ep, ho, r⟩ := hm
    exact ⟨o, es, ep, k _ o (Ne.symm hL) ho, r⟩
  · refine (I.hok b u e).stay (fun c v hc q => k c v ?_ q) (fun _ q => q) fun _ _ q => q
    rcases hc with z | z
    · rw [z]; exact nit b u e
    · exact nit c _ z
theorem Inv.tok (I : Inv X pins σ H s) (t : Nat) : Inv X pins σ H { s with toks := t } := I.un (h' := s.heap) (t' := t) Un.refl I.hok
theorem Inv.kept {t' : Nat} (I : Inv X pins σ H s) (k : ∀ b u, s.heap.get? b = some u → h'.get? b = some u) : Inv X pins σ H { s with heap := h', toks := t' } := I.un (Un.kept k) (I.hok.kept k)
theorem Inv.laid {a : Addr} {o : HO} {t' : Nat} (I : Inv X pins σ H s) (k : ∀ b u, s.heap.get? b = some u → h'.get? b = some u) (hp : s.heap.objs.size ≤ a) (new : ObjOk X.prog X.w (upd H a o) h' a o) :
    Inv X pins σ (upd H a o) { s with heap := h', toks := t' } := I.un (Un.laid k hp (I.hok.fresh hp)) (I.hok.laid k hp new)
theorem Inv.write {x e : Addr} {o : HO} {t' : Nat} (I : Inv X pins σ H s) (mu : Mut (H x)) (he : e = x ∨ H e = some (.own x)) (k : ∀ b u, b ≠ e → s.heap.get? b = some u → h'.get? b = some u) (heo : ∃ u, h'.get? e = some u)
    (new : ObjOk X.prog X.w (upd H x o) h' x o) : Inv X pins σ (upd H x o) { s with heap := h', toks := t' } := I.un (Un.write mu he k heo) (I.hok.write mu he k heo new)
theorem Inv.weak {σ' : List (Option V)} (I : Inv X pins σ H s) (hl : σ'.length = σ.length) (w : ∀ (i : Nat) v, σ'[i]? = some (some v) → σ[i]? = some (some v)) : Inv X pins σ' H s :=
  ⟨I.ok, I.os, I.bare, I.base, let ⟨m, hn, hl'⟩ := I.loc; ⟨m, hn, fun i x v e1 e2 e3 => hl' i x v e1 (w i v e2) e3⟩, I.cell, I.free, I.freeC, I.pin, I.hok, hl.trans I.len⟩
theorem Inv.pins_of {pins' : List (Addr × Obj)} (I : Inv X pins σ H s) (h : ∀ p ∈ pins', s.heap.get? p.1 = some p.2 ∧ H p.1 = none ∧ p.1 ≠ X.env.locals ∧ p.1 ∉ X.fs ∧ ∀ v, p.2.data ≠ .cell v) : Inv X pins' σ H s :=
  ⟨I.ok, I.os, I.bare, I.base, I.loc, I.cell, I.free, I.freeC, fun p hp => (List.mem_append.mp hp).elim (fun z => I.pin p (List.mem_append_left _ z)) (h p), I.hok, I.len⟩
theorem nodup_ix {N : List Str} (hN : N.Nodup) {i j : Nat} {x : Str} (a : N[i]? = some x) (b : N[j]? = some x) : i = j := by
  obtain ⟨h1, e1⟩ := List.getElem?_eq_some_iff.mp a
  obtain ⟨h2, e2⟩ := List.getElem?_eq_some_iff.mp b
  exact (List.getElem_inj hN).mp (e1.trans e2.symm)
theorem store_ok2 {M : Model} {A : Around} {E : Value → Shared → Prop} {i : Nat} {x : Str} {v : V} {u : Value} {Q : Unit → Shared → Prop} (I : Inv X pins σ H s) (hN : X.N.Nodup) (hi : X.N[i]? = some x) (hx : Loc X.env.scope x) (r : RelV v u)
    (h : ∀ s', Inv X pins (σ.set i (some v)) H s' → (∃ a, Heap.SameBut a s.heap s'.heap ∧ (a = X.env.locals ∨ X.env.cells.lookup x = some a)) → Q () s') (hf : X.fn x = true ∨ X.env.scope.names.lookup x = some .local := by first | exact .inl rfl | exact .inr rfl | assumption) : wpAny M A (storeName X.env x u) Q E s := by
  obtain ⟨m, hn, hl⟩ := id I.loc
  have hcls : (X.env.scope.kind == .class || (X.env.scope.kind == .module && X.env.locals != X.env.globals)) = false := by rw [I.ok.kind]; rfl
  have hiσ : i < σ.length := by rw [I.len]; exact (List.getElem?_eq_some_iff.mp hi).1
  have cne := I.cne
  have tracked : ∀ {a : Addr} {h' : Heap}, (∃ o, s.heap.get? a = some o ∧ H a = none) → Heap.SameBut a s.heap h' → HOk X.prog X.w H h' := fun {a h'} ha hs b ob e => by
    obtain ⟨_, _, hfree⟩ := ha
    refine (I.hok b ob e).stay (fun c w' hc q => (hs.2 c ?_).trans q) (fun _ q => q) fun _ _ q => q
    rintro rfl
    rcases hc with rfl | hc
    · rw [hfree] at e; cases e
    · rw [hfree] at hc; cases hc
  rcases hx with hk | hk
  · refine wpAny_storeName_local hk hn (fun h' hn' hs => ?_) hcls
    obtain ⟨oL, _, _, hoL, _⟩ := id hn
    refine h _ ⟨I.ok, I.os, I.bare, ⟨fun b o e n hb hx => ?_, fun b o e n hb hx => ?_, I.base.free, fun b o e hx => ?_, I.base.tups, I.base.frzs, I.base.tbls⟩, ⟨_, hn', fun j y v' e1 e2 e3 => ?_⟩, fun y c e => ?_, I.free, I.freeC, fun p hp => ?_, tracked ⟨oL, hoL, I.free⟩ hs, by simpa using I.len⟩ ⟨_, hs, .inl rfl⟩
    · exact (hs.2 b (Nat.ne_of_lt (Nat.lt_of_lt_of_le (Heap.lt_size e) I.ok.above))).trans (I.base.keep b o e n hb hx)
    · obtain ⟨sl, e1⟩ := I.base.slot b o e n hb hx
      exact ⟨sl, (hs.2 b (Nat.ne_of_lt (Nat.lt_of_lt_of_le (Heap.lt_size e) I.ok.above))).trans e1⟩
    · obtain ⟨o', e1⟩ := I.base.there b o e hx
      exact ⟨o', (hs.2 b (Nat.ne_of_lt (Nat.lt_of_lt_of_le (Heap.lt_size e) I.ok.above))).trans e1⟩
    · by_cases hj : j = i
      · subst hj
        rw [hi] at e1; cases e1
        rw [List.getElem?_set_self hiσ] at e2
        cases e2
        exact ⟨u, r, .inl ⟨hk, by simp⟩⟩
      · rw [List.getElem?_set_ne (Ne.symm hj)] at e2
        obtain ⟨u', r', q⟩ := hl j y v' e1 e2 e3
        refine ⟨u', r', ?_⟩
        rcases q with ⟨k, e⟩ | ⟨k, c, e, z⟩
        · refine .inl ⟨k, ?_⟩
          have : y ≠ x := fun e => hj (nodup_ix hN e1 (e ▸ hi))
          simp [this, e]
        · exact .inr ⟨k, c, e, z.sameBut hs (cne y c e)⟩
    · obtain ⟨w', z⟩ := I.cell y c e
      exact ⟨w', z.sameBut hs (cne y c e)⟩
    · obtain ⟨e, n, ne, nf, d⟩ := I.pin p hp
      exact ⟨(hs.2 p.1 ne).trans e, n, ne, nf, d⟩
  · have hfn : X.fn x = true := by
      rcases hf with z | z
      · exact z
      · rw [z] at hk; cases hk
    obtain ⟨c, hc⟩ := I.ok.has x (.inl hk)
    obtain ⟨w', z⟩ := I.cell x c hc
    refine wpAny_storeName_cell I.ok.kind hk hc z (fun h' hc' hs => ?_)
    obtain ⟨oc, hoc, hocd⟩ := id z
    refine h { s with heap := h' } ⟨I.ok, I.os, I.bare, ⟨fun b o e n hb hx => ?_, fun b o e n hb hx => ?_, I.base.free, fun b o e hx => ?_, I.base.tups, I.base.frzs, I.base.tbls⟩, ⟨m, hn.sameBut hs (Ne.symm (cne x c hc)), fun j y v' e1 e2 e3 => ?_⟩, fun y c' e => ?_, I.free, I.freeC, fun p hp => ?_, tracked ⟨oc, hoc, I.freeC x c hc⟩ hs, by simpa using I.len⟩ ⟨c, hs, .inr hc⟩
    · exact (hs.2 b (Nat.ne_of_lt (Nat.lt_of_lt_of_le (Heap.lt_size e) (I.ok.cab x c hfn hc)))).trans (I.base.keep b o e n hb hx)
    · obtain ⟨sl, e1⟩ := I.base.slot b o e n hb hx
      exact ⟨sl, (hs.2 b (Nat.ne_of_lt (Nat.lt_of_lt_of_le (Heap.lt_size e) (I.ok.cab x c hfn hc)))).trans e1⟩
    · obtain ⟨o', e1⟩ := I.base.there b o e hx
      exact ⟨o', (hs.2 b (Nat.ne_of_lt (Nat.lt_of_lt_of_le (Heap.lt_size e) (I.ok.cab x c hfn hc)))).trans e1⟩
    · by_cases hj : j = i
      · subst hj
        rw [hi] at e1; cases e1
        rw [List.getElem?_set_self hiσ] at e2
        cases e2
        exact ⟨u, r, .inr ⟨.inl hk, c, hc, hc'⟩⟩
      · rw [List.getElem?_set_ne (Ne.symm hj)] at e2
        obtain ⟨u', r', q⟩ := hl j y v' e1 e2 e3
        refine ⟨u', r', ?_⟩
        rcases q with q | ⟨k, c', e, z'⟩
        · exact .inl q
        · refine .inr ⟨k, c', e, z'.sameBut hs ?_⟩
          rintro rfl
          exact hj (nodup_ix hN e1 (I.ok.inj _ _ _ e hc ▸ hi))
    · by_cases hcc : c' = c
      · subst hcc; exact ⟨_, hc'⟩
      · obtain ⟨w2, z2⟩ := I.cell y c' e
        exact ⟨w2, z2.sameBut hs hcc⟩
    · obtain ⟨e, n, ne, nf, d⟩ := I.pin p hp
      refine ⟨(hs.2 p.1 ?_).trans e, n, ne, nf, d⟩
      intro q
      rw [q, hoc] at e
      have q' : oc = p.2 := Option.some.inj e
      exact d w' (by rw [← q']; exact hocd)
theorem store_ok {M : Model} {A : Around} {E : Value → Shared → Prop} {i : Nat} {x : Str} {v : V} {u : Value} {Q : Unit → Shared → Prop} (I : Inv X pins σ H s) (hN : X.N.Nodup) (hi : X.N[i]? = some x) (hx : Loc X.env.scope x) (r : RelV v u)
    (h : ∀ s', Inv X pins (σ.set i (some v)) H s' → Q () s') (hf : X.fn x = true ∨ X.env.scope.names.lookup x = some .local := by first | exact .inl rfl | exact .inr rfl | assumption) : wpAny M A (storeName X.env x u) Q E s :=
  store_ok2 I hN hi hx r (fun s' I' _ => h s' I') hf
theorem Inv.call' {s' : Shared} {ch : List Addr} (I : Inv X pins σ H s) (ho : s'.os = s.os) (u : Un (frs X.stack) ch H H' s.heap s'.heap) (hok : HOk X.prog X.w H' s'.heap) (hg : AllBare s'.gens)
    (hch : ∀ b ∈ ch, (b ∈ X.ex ∨ X.s₀.heap.objs.size ≤ b) ∧ b ≠ X.env.locals ∧ (∀ x c, X.env.cells.lookup x = some c → c ≠ b) ∧ ∀ p ∈ X.pn ++ pins, p.1 ≠ b) : Inv X pins σ H' s' := by
  obtain ⟨h', g', d', t', o'⟩ := s'
  have e : o' = s.os := ho
  subst e
  exact I.call (g' := g') (t' := t') (d' := d') u hok hg hch
end
abbrev XK := Value → Option Addr → Hp → Prop
abbrev St := List (Option V)
abbrev VK := V → Hp → Prop
abbrev TE := St → Hp → VK → Prop
abbrev TT := St → Hp → (Bool → Hp → Prop) → Prop
abbrev TA := St → Hp → (List V → Hp → Prop) → Prop
structure Ends where
  nx : St → Hp → Prop
  rt : VK
  bk : St → Hp → Prop := fun _ _ => False
  ct : St → Hp → Prop := fun _ _ => False
abbrev TS := Ends → St → Hp → Prop
def EP (X : Cx) (pins : List (Addr × Obj)) (σ : St) (Q : VK) (u : Value) (s' : Shared) : Prop := ∃ v H', Inv X pins σ H' s' ∧ RelV v u ∧ Q v H'
def TP (X : Cx) (pins : List (Addr × Obj)) (σ : St) (Q : Bool → Hp → Prop) (b : Bool) (s' : Shared) : Prop := ∃ H', Inv X pins σ H' s' ∧ Q b H'
def AP (X : Cx) (pins : List (Addr × Obj)) (σ : St) (Q : List V → Hp → Prop) (us : List Value) (s' : Shared) : Prop := ∃ vs H', Inv X pins σ H' s' ∧ Vals vs us ∧ Q vs H'
def SP (X : Cx) (pins : List (Addr × Obj)) (D : Ends) (f : Flow) (s' : Shared) : Prop :=
  match f with
  | .next => ∃ σ' H', Inv X pins σ' H' s' ∧ D.nx σ' H'
  | .brk => ∃ σ' H', Inv X pins σ' H' s' ∧ D.bk σ' H'
  | .cont => ∃ σ' H', Inv X pins σ' H' s' ∧ D.ct σ' H'
  | .ret u => ∃ v σ' H', Inv X pins σ' H' s' ∧ RelV v u ∧ D.rt v H'
def PE (X : Cx) (e : Expr) (t : TE) : Prop :=
  ∀ (pins : List (Addr × Obj)) (s : Shared) (σ : St) (H : Hp) (Q : VK), Inv X pins σ H s → t σ H Q → wpAny (model X.prog X.w) X.A (eval e X.env) (EP X pins σ Q) X.xe s
def PT (X : Cx) (e : Expr) (t : TT) : Prop :=
  ∀ (pins : List (Addr × Obj)) (s : Shared) (σ : St) (H : Hp) (Q : Bool → Hp → Prop), Inv X pins σ H s → t σ H Q → wpAny (model X.prog X.w) X.A (isTrue e X.env (eval e X.env)) (TP X pins σ Q) X.xe s
def PW (X : Cx) (e : Expr) (t : TT) : Prop :=
  ∀ (whole : Sem Value) (pins : List (Addr × Obj)) (s : Shared) (σ : St) (H : Hp) (Q : Bool → Hp → Prop), Inv X pins σ H s → t σ H Q → wpAny (model X.prog X.w) X.A (isTrue e X.env whole) (TP X pins σ Q) X.xe s
theorem PW.pt {X : Cx} {e : Expr} {t : TT} (h : PW X e t) : PT X e t := h _
def PA (X : Cx) (es : List Expr) (t : TA) : Prop :=
  ∀ (pos : Pos) (pins : List (Addr × Obj)) (s : Shared) (σ : St) (H : Hp) (Q : List V → Hp → Prop), Inv X pins σ H s → t σ H Q → wpAny (model X.prog X.w) X.A (spliced (backTo pos (starEach es X.env))) (AP X pins σ Q) X.xe s
def PS (X : Cx) (st : Stmt) (t : TS) : Prop :=
  ∀ (pins : List (Addr × Obj)) (s : Shared) (σ : St) (H : Hp) (D : Ends), Inv X pins σ H s → t D σ H → wpAny (model X.prog X.w) X.A (exec st X.env) (SP X pins D) X.xe s
def PSs (X : Cx) (st : List Stmt) (t : TS) : Prop :=
  ∀ (pins : List (Addr × Obj)) (s : Shared) (σ : St) (H : Hp) (D : Ends), Inv X pins σ H s → t D σ H → wpAny (model X.prog X.w) X.A (execs st X.env) (SP X pins D) X.xe s
theorem thn {α : Type} {t : Sem α} {Q Q' : α → Shared → Prop} {M : Model} {A : Around} {E : Value → Shared → Prop} {s : Shared} (h : wpAny M A t Q E s) (hQ : ∀ a s, Q a s → Q' a s) : wpAny M A t Q' E s := wpAny_mono h hQ fun _ _ x => x
end L2
namespace L2
open PySem PySem.Spec PyProof.Rows
section
variable {X : Cx}
def tVar (i : Nat) : TE := fun σ H Q => ∃ v, σ[i]? = some (some v) ∧ Q v H
def tC (v : V) : TE := fun _ H Q => Q v H
theorem pe_var {i : Nat} {x : Str} {pos : Pos} (hN : X.N[i]? = some x) (hv : Vis X.env.scope x) (hd : (x == ("__debug__" : Str)) = false := by decide) (hcd : (x == ("__classdict__" : Str)) = false := by decide) : PE X (.Name x pos) (tVar i) := by
  intro pins s σ H Q I h
  obtain ⟨v, e, h⟩ := h
  obtain ⟨m, hn, hl⟩ := I.loc
  obtain ⟨u, r, l⟩ := hl i x v hN e hv
  have fin : EP X pins σ Q u s := ⟨v, H, I, r, h⟩
  rcases l with ⟨hk, hm⟩ | ⟨hk, c, hc, hcell⟩
  · exact wpAny_Name (wpAny_loadName_local I.ok.kind hk hn hm fin) hd
  · rcases hk with hk | hk
    · exact wpAny_Name (wpAny_loadName_cell I.ok.kind hk hc hcell fin) hd
    · exact wpAny_Name (wpAny_loadName_free I.ok.kind hk hc hcell fin hcd) hd
theorem pe_int {i j pos} : PE X (.Constant (.int i) j pos) (tC (.int i)) := fun _ _ _ H _ I h => wpAny_Constant_int ⟨.int i, H, I.tok _, ⟨_, rfl⟩, h⟩
theorem pe_bl {b j pos} : PE X (.Constant (.bool b) j pos) (tC (.bl b)) := fun _ _ _ H _ I h => Constant_bool ⟨.bl b, H, I, rfl, h⟩
def Gl (X : Cx) (x : Str) : Prop := X.env.kindOf x = some .globalImplicit
theorem ld_glob {E : Value → Shared → Prop} {pins : List (Addr × Obj)} {s : Shared} {σ : St} {H : Hp} {x : Str} {u : Value} {pos : Pos} {Q : Value → Shared → Prop} (I : Inv X pins σ H s) (hg : Gl X x) (hm : X.mg x = some u) (h : Q u s)
    (hd : (x == ("__debug__" : Str)) = false := by decide) : wpAny (model X.prog X.w) X.A (eval (.Name x pos) X.env) Q E s :=
  Calls.Name_function_global I.ok.kind hg (Calls.loadGlobal_global (by rw [I.ok.glob]; exact I.mod.glob.keeps I.bk) hm h) hd
theorem ld_blt {E : Value → Shared → Prop} {pins : List (Addr × Obj)} {s : Shared} {σ : St} {H : Hp} {x : Str} {u : Value} {pos : Pos} {Q : Value → Shared → Prop} (I : Inv X pins σ H s) (hg : Gl X x) (hm : X.mg x = none) (hv : bootBuiltins x = some u) (h : Q u s)
    (hn : x ≠ "__name__" := by decide) (hd : (x == ("__debug__" : Str)) = false := by decide) : wpAny (model X.prog X.w) X.A (eval (.Name x pos) X.env) Q E s := by
  obtain ⟨mb, h1, h2⟩ := I.mod.blt
  exact Calls.Name_function_global I.ok.kind hg (Calls.loadGlobal_builtin (by rw [I.ok.glob]; exact I.mod.glob.keeps I.bk) hm (by rw [I.ok.blt]; exact h1.keeps I.bk) ((h2 x hn).trans hv) h) hd
theorem pe_glob {x : Str} {v : V} {u : Value} {pos : Pos} (hg : Gl X x) (hm : X.mg x = some u) (r : RelV v u) (hd : (x == ("__debug__" : Str)) = false := by decide) : PE X (.Name x pos) (tC v) :=
  fun _ _ _ H _ I h => ld_glob I hg hm ⟨v, H, I, r, h⟩ hd
theorem pe_bltn {x : Str} {v : V} {u : Value} {pos : Pos} (hg : Gl X x) (hm : X.mg x = none) (hv : bootBuiltins x = some u) (r : RelV v u) (hn : x ≠ "__name__" := by decide) (hd : (x == ("__debug__" : Str)) = false := by decide) : PE X (.Name x pos) (tC v) :=
  fun _ _ _ H _ I h => ld_blt I hg hm hv ⟨v, H, I, r, h⟩ hn hd
variable {a b : Expr} {ta tb : TE} {pos : Pos}
def PC (X : Cx) (op : CmpOp) (a b : Expr) (t : TE) : Prop :=
  ∀ (pins : List (Addr × Obj)) (s : Shared) (σ : St) (H : Hp) (Q : VK), Inv X pins σ H s → t σ H Q →
    wpAny (model X.prog X.w) X.A (eval a X.env) (fun v s₁ => wpAny (model X.prog X.w) X.A (eval b X.env) (fun u s₂ => wpAny (model X.prog X.w) X.A (compareOp op v u) (EP X pins σ Q) X.xe s₂) X.xe s₁) X.xe s
theorem nobehind (b : Expr) {op : CmpOp} (h : op ≠ .In) (h2 : op ≠ .NotIn) : behindInMarks op b = false := by
  have e1 : (op == CmpOp.In) = false := by cases op <;> first | rfl | exact absurd rfl h
  have e2 : (op == CmpOp.NotIn) = false := by cases op <;> first | rfl | exact absurd rfl h2
  cases b <;> simp [behindInMarks, e1, e2]
def tB (t : TE) : TT := fun σ H Q => t σ H fun x H1 => ∃ c, x = .bl c ∧ Q c H1
theorem pt_cmp {op : CmpOp} {t : TE} (h : PC X op a b t) (h1 : behindInMarks op b = false := by first | exact nobehind _ (by decide) (by decide) | rfl) : PT X (.Compare a [op] [b] pos) (tB t) := by
  intro pins s σ H Q I hw
  refine wpAny_isTrue_Compare1 (thn (h pins s σ H _ I hw) fun v s1 h1 => thn h1 fun u s2 h2 => thn h2 fun c s3 ⟨x, H1, I1, r1, q1⟩ => ?_) h1
  obtain ⟨d, rfl, q⟩ := q1
  cases r1
  exact wpAny_truthy_bool ⟨H1, I1, q⟩
theorem pt_val {e : Expr} {t : TE} (h : PE X e t) (he : ∀ whole, isTrue e X.env whole = (do let v ← whole; standAt e.pos; holding [v] (truthy v)) := by intro _; rfl) : PT X e (tB t) := by
  intro pins s σ H Q I hw
  refine isTrue_plain (thn (h pins s σ H _ I hw) fun v s1 ⟨x, H1, I1, r1, q1⟩ => ?_) (he _)
  obtain ⟨d, rfl, q⟩ := q1
  cases r1
  exact wpAny_truthy_bool ⟨H1, I1, q⟩
variable {tA tB' : TT} {rest : List Expr}
def tAnd (t u : TT) : TT := fun σ H Q => t σ H fun c H1 => if c = true then u σ H1 Q else Q false H1
def tOr (t u : TT) : TT := fun σ H Q => t σ H fun c H1 => if c = true then Q true H1 else u σ H1 Q
def tNot (t : TT) : TT := fun σ H Q => t σ H fun c H1 => Q (!c) H1
theorem pw_and1 (ha : PT X a tA) : PW X (.BoolOp .And [a] pos) tA := by
  intro wh pins s σ H Q I h
  refine isTrue_and (thn (ha pins s σ H Q I h) fun c s1 e => ?_)
  cases c with
  | true => exact isTrue_and_nil e
  | false => exact e
theorem pw_or1 (ha : PT X a tA) : PW X (.BoolOp .Or [a] pos) tA := by
  intro wh pins s σ H Q I h
  refine isTrue_or (thn (ha pins s σ H Q I h) fun c s1 e => ?_)
  cases c with
  | false => exact isTrue_or_nil e
  | true => exact e
theorem pw_and (ha : PT X a tA) (hb : PW X (.BoolOp .And (b :: rest) pos) tB') : PW X (.BoolOp .And (a :: b :: rest) pos) (tAnd tA tB') := by
  intro wh pins s σ H Q I h
  refine isTrue_and (thn (ha pins s σ H _ I h) fun c s1 ⟨H1, I1, q1⟩ => ?_)
  cases c with
  | true => exact hb wh pins s1 σ H1 Q I1 q1
  | false => exact ⟨H1, I1, q1⟩
theorem pw_or (ha : PT X a tA) (hb : PW X (.BoolOp .Or (b :: rest) pos) tB') : PW X (.BoolOp .Or (a :: b :: rest) pos) (tOr tA tB') := by
  intro wh pins s σ H Q I h
  refine isTrue_or (thn (ha pins s σ H _ I h) fun c s1 ⟨H1, I1, q1⟩ => ?_)
  cases c with
  | true => exact ⟨H1, I1, q1⟩
  | false => exact hb wh pins s1 σ H1 Q I1 q1
theorem pt_not (ha : PT X a tA) : PT X (.UnaryOp .Not a pos) (tNot tA) := by
  intro pins s σ H Q I h
  exact isTrue_not (ha pins s σ H (fun c H1 => Q (!c) H1) I h)
def tAndV (ta tb : TE) : TE := fun σ H Q => ta σ H fun x H1 => ∃ c, x = .bl c ∧ if c = true then tb σ H1 Q else Q (.bl false) H1
def tNotV (ta : TE) : TE := fun σ H Q => ta σ H fun x H1 => ∃ c, x = .bl c ∧ Q (.bl (!c)) H1
theorem pe_one {op} {t : TE} (h : PE X a t) : PE X (.BoolOp op [a] pos) t := fun pins s σ H Q I hw => BoolOp_one (h pins s σ H Q I hw)
theorem pe_and (ha : PE X a ta) (hb : PE X (.BoolOp .And (b :: rest) pos) tb) : PE X (.BoolOp .And (a :: b :: rest) pos) (tAndV ta tb) := by
  intro pins s σ H Q I h
  refine BoolOp_and (thn (ha pins s σ H _ I h) fun v s1 ⟨x, H1, I1, r1, q1⟩ => ?_)
  obtain ⟨c, rfl, q1⟩ := q1
  cases r1
  refine wpAny_truthy_bool ?_
  cases c with
  | true => exact hb pins s1 σ H1 Q I1 q1
  | false => exact ⟨.bl false, H1, I1, rfl, q1⟩
theorem pe_not (ha : PE X a ta) : PE X (.UnaryOp .Not a pos) (tNotV ta) := by
  intro pins s σ H Q I h
  refine UnaryOp_ (thn (ha pins s σ H _ I h) fun v s1 ⟨x, H1, I1, r1, q1⟩ => ?_)
  obtain ⟨c, rfl, q1⟩ := q1
  cases r1
  exact not_of (wpAny_truthy_bool ⟨.bl (!c), H1, I1, rfl, q1⟩)
end
end L2
namespace L2
open PySem PySem.Spec PyProof.Rows
def SqL (K : PySem.W.Frag) (H : Hp) (a : Addr) (xs : List V) : Prop :=
  Rd H a (.lst xs) ∨
    ∃ (o : Obj) (its : Array Value) (n : Nat), K.lookup a = some o ∧ o.cls = .type "list" ∧ o.dict = none ∧ o.data = .seq its n ∧ its.size ≤ sizeLine ∧ Vals xs its.toList
def SqT (K : PySem.W.Frag) (H : Hp) (a : Addr) (xs : List V) : Prop :=
  Rd H a (.tup xs) ∨
    ∃ (o : Obj) (its : Array Value) (n : Nat), K.lookup a = some o ∧ o.cls = .type "tuple" ∧ o.data = .seq its n ∧ its.size ≤ sizeLine ∧ Vals xs its.toList
def absV : Value → Option V
  | .none => some .non
  | .bool b => some (.bl b)
  | .int i _ => some (.int i)
  | .str x _ => some (.str x)
  | .bytes b _ => some (.byt b)
  | .float b _ => some (.flt b)
  | .ref a => some (.ref a)
  | .type n => some (.ty n)
  | _ => none
theorem RelV.abs {x : V} {u : Value} (r : RelV x u) : absV u = some x := by
  cases x with
  | non => cases r; rfl
  | bl _ => cases r; rfl
  | int _ => obtain ⟨t, rfl⟩ := r; rfl
  | str _ => obtain ⟨t, rfl⟩ := r; rfl
  | byt _ => obtain ⟨t, rfl⟩ := r; rfl
  | flt _ => obtain ⟨t, rfl⟩ := r; rfl
  | ref _ => cases r; rfl
  | ty _ => cases r; rfl
theorem RelV.inj {x y : V} {u : Value} (r : RelV x u) (q : RelV y u) : x = y := Option.some.inj (r.abs.symm.trans q.abs)
theorem Vals.inj : ∀ {xs ys : List V} {us : List Value}, Vals xs us → Vals ys us → xs = ys
  | _, _, _, .nil, .nil => rfl
  | _, _, _, .cons r t, .cons r' t' => by rw [r.inj r', Vals.inj t t']
section
variable {X : Cx} {pins : List (Addr × Obj)} {σ : St} {H : Hp} {s : Shared} {a : Addr} {xs ys : List V}
theorem SqL.of {K : PySem.W.Frag} (h : H a = some (.lst xs)) : SqL K H a xs := .inl (.inl h)
theorem SqT.of {K : PySem.W.Frag} (h : H a = some (.tup xs)) : SqT K H a xs := .inl (.inl h)
theorem Inv.list (I : Inv X pins σ H s) (h : SqL X.K H a xs) : ∃ its : List Value, Vals xs its ∧ PlainL s.heap a its.toArray ∧ xs.length ≤ sizeLine := by
  rcases h with h | ⟨o, its, n, hk, hc, hd, hs, hz, r⟩
  · obtain ⟨z, its, n, r, e⟩ := h.ok I.hok
    exact ⟨its, r, ⟨_, n, e, rfl, rfl, rfl⟩, z⟩
  · refine ⟨its.toList, r, ⟨o, n, I.kIn a o hk, hc, hd, by simpa using hs⟩, ?_⟩
    have e := r.length
    simp only [Array.length_toList] at e
    omega
theorem Inv.tuple (I : Inv X pins σ H s) (h : SqT X.K H a xs) : ∃ its : List Value, Vals xs its ∧ IsTup s.heap a its.toArray ∧ xs.length ≤ sizeLine := by
  rcases h with h | ⟨o, its, n, hk, hc, hs, hz, r⟩
  · obtain ⟨z, its, r, p⟩ := h.ok I.hok
    exact ⟨its, r, p, z⟩
  · refine ⟨its.toList, r, ⟨o, I.kIn a o hk, hc, n, by simpa using hs⟩, ?_⟩
    have e := r.length
    simp only [Array.length_toList] at e
    omega
theorem Inv.list_inj (I : Inv X pins σ H s) (h : SqL X.K H a xs) (h' : SqL X.K H a ys) : xs = ys := by
  obtain ⟨its, r, ⟨o, n, e, _, _, d⟩, _⟩ := I.list h
  obtain ⟨its', r', ⟨o', n', e', _, _, d'⟩, _⟩ := I.list h'
  rw [e] at e'; cases e'
  rw [d] at d'
  injection d' with d1 _
  have : its = its' := by simpa using congrArg Array.toList d1
  subst this
  exact r.inj r'
end
abbrev Cx.wish (X : Cx) (E : Value → Shared → Prop) : Cx := { X with xe := E }
abbrev Cx.nox (X : Cx) : Cx := X.wish fun _ _ => False
theorem Cx.Ok.wish {X : Cx} (ok : X.Ok) (E : Value → Shared → Prop) : (X.wish E).Ok :=
  ⟨ok.mod, ok.kind, ok.glob, ok.blt, ok.above, ok.inj, ok.has, ok.cab, ok.hd, ok.frames, ok.stk, ok.exf, ok.bs, ok.bsz, ok.noex, ok.exfs, ok.funs, ok.frf⟩
theorem Cx.Ok.unwish {X : Cx} {E : Value → Shared → Prop} (ok : (X.wish E).Ok) : X.Ok :=
  ⟨ok.mod, ok.kind, ok.glob, ok.blt, ok.above, ok.inj, ok.has, ok.cab, ok.hd, ok.frames, ok.stk, ok.exf, ok.bs, ok.bsz, ok.noex, ok.exfs, ok.funs, ok.frf⟩
section
variable {X : Cx} {pins : List (Addr × Obj)} {σ : St} {H : Hp} {s : Shared} {E : Value → Shared → Prop}
theorem Inv.wish (I : Inv X pins σ H s) (E : Value → Shared → Prop) : Inv (X.wish E) pins σ H s := ⟨I.ok.wish E, I.os, I.bare, I.base, I.loc, I.cell, I.free, I.freeC, I.pin, I.hok, I.len⟩
theorem Inv.unwish (I : Inv (X.wish E) pins σ H s) : Inv X pins σ H s := ⟨I.ok.unwish, I.os, I.bare, I.base, I.loc, I.cell, I.free, I.freeC, I.pin, I.hok, I.len⟩
theorem SP.unwish {D : Ends} {f : Flow} {s' : Shared} (h : SP (X.wish E) pins D f s') : SP X pins D f s' := by
  cases f with
  | next => obtain ⟨σ', H', I, q⟩ := h; exact ⟨σ', H', I.unwish, q⟩
  | brk => obtain ⟨σ', H', I, q⟩ := h; exact ⟨σ', H', I.unwish, q⟩
  | cont => obtain ⟨σ', H', I, q⟩ := h; exact ⟨σ', H', I.unwish, q⟩
  | ret u => obtain ⟨v, σ', H', I, r, q⟩ := h; exact ⟨v, σ', H', I.unwish, r, q⟩
theorem PE.nox {e : Expr} {t : TE} (h : PE X.nox e t) : PE X e t := fun pins s σ H Q I hw =>
  wpAny_mono (h pins s σ H Q (I.wish _) hw) (fun _ _ ⟨v, H', I', r, q⟩ => ⟨v, H', I'.unwish, r, q⟩) fun _ _ z => False.elim z
theorem PT.nox {e : Expr} {t : TT} (h : PT X.nox e t) : PT X e t := fun pins s σ H Q I hw =>
  wpAny_mono (h pins s σ H Q (I.wish _) hw) (fun _ _ ⟨H', I', q⟩ => ⟨H', I'.unwish, q⟩) fun _ _ z => False.elim z
theorem PSs.nox {st : List Stmt} {t : TS} (h : PSs X.nox st t) : PSs X st t := fun pins s σ H D I hw =>
  wpAny_mono (h pins s σ H D (I.wish _) hw) (fun _ _ q => q.unwish) fun _ _ z => False.elim z
end
section
variable {X : Cx} {st : Stmt} {rest : List Stmt} {t u : TS} {e : Expr} {te : TE} {pos : Pos}
def tNext : TS := fun D σ H => D.nx σ H
def tSeq (t u : TS) : TS := fun D σ H => t { D with nx := u D } σ H
theorem pss_nil : PSs X [] tNext := fun _ _ σ H _ I h => wpAny_execs_nil ⟨σ, H, I, h⟩
theorem pss_cons (h1 : PS X st t) (h2 : PSs X rest u) : PSs X (st :: rest) (tSeq t u) := by
  intro pins s σ H D I h
  refine wpAny_execs_cons (thn (h1 pins s σ H { D with nx := u D } I h) fun f s1 q => ?_)
  cases f with
  | next =>
    obtain ⟨σ', H', I', q⟩ := q
    exact h2 pins s1 σ' H' D I' q
  | ret v => exact q
  | brk => exact q
  | cont => exact q
theorem pss_one (h1 : PS X st t) : PSs X [st] t := by
  intro pins s σ H D I h
  refine wpAny_execs_cons (thn (h1 pins s σ H D I h) fun f s1 q => ?_)
  cases f with
  | next => exact wpAny_execs_nil q
  | ret v => exact q
  | brk => exact q
  | cont => exact q
theorem Inv.quiet {pins : List (Addr × Obj)} {σ : St} {H : Hp} {s : Shared} (I : Inv X pins σ H s) : interactive X.env = false := by simp [interactive, I.ok.kind]
def tDrop (te : TE) : TS := fun D σ H => te σ H fun _ H1 => D.nx σ H1
theorem ps_expr (he : PE X e te) (hs : swapsWith e none pos.line X.env = pure false := by rfl) : PS X (.Expr e pos) (tDrop te) := by
  intro pins s σ H D I h
  exact wpAny_Expr_any (thn (he pins s σ H _ I h) fun v s1 ⟨x, H1, I1, r1, q1⟩ => ⟨σ, H1, I1, q1⟩) I.quiet hs
def tRet (te : TE) : TS := fun D σ H => te σ H D.rt
theorem ps_ret (he : PE X e te) : PS X (.Return (some e) pos) (tRet te) := by
  intro pins s σ H D I h
  exact wpAny_Return_some (thn (he pins s σ H _ I h) fun v s1 ⟨x, H1, I1, r1, q1⟩ => ⟨x, σ, H1, I1, r1, q1⟩)
def tIfS (c : TT) (t u : TS) : TS := fun D σ H => c σ H fun b H1 => if b = true then t D σ H1 else u D σ H1
theorem ps_if {c : Expr} {a b : List Stmt} {tc : TT} (hc : PT X c tc) (ha : PSs X a t) (hb : PSs X b u) : PS X (.If c a b pos) (tIfS tc t u) := by
  intro pins s σ H D I h
  refine wpAny_If (thn (hc pins s σ H _ I h) fun d s1 ⟨H1, I1, q1⟩ => ?_)
  cases d with
  | true => exact ha pins s1 σ H1 D I1 q1
  | false => exact hb pins s1 σ H1 D I1 q1
def tNever : TS := fun _ _ _ => False
theorem ps_never : PS X st tNever := fun _ _ _ _ _ _ h => h.elim
end
abbrev TG := V → St → Hp → (St → Hp → Prop) → Prop
abbrev TGs := List V → St → Hp → (St → Hp → Prop) → Prop
def PG (X : Cx) (target : Expr) (t : TG) : Prop :=
  ∀ (pins : List (Addr × Obj)) (s : Shared) (σ : St) (H : Hp) (v : V) (u : Value) (Q : St → Hp → Prop), Inv X pins σ H s → RelV v u → t v σ H Q →
    wpAny (model X.prog X.w) X.A (assign target X.env u) (fun _ s' => ∃ σ' H', Inv X pins σ' H' s' ∧ Q σ' H') X.xe s
def PGs (X : Cx) (ts : List Expr) (t : TGs) : Prop :=
  ∀ (pins : List (Addr × Obj)) (s : Shared) (σ : St) (H : Hp) (vs : List V) (us : List Value) (Q : St → Hp → Prop), Inv X pins σ H s → Vals vs us → t vs σ H Q →
    wpAny (model X.prog X.w) X.A (assignInOrder ((assignEach ts X.env).map (·.2)) us) (fun _ s' => ∃ σ' H', Inv X pins σ' H' s' ∧ Q σ' H') X.xe s
abbrev TSet := V → V → V → Hp → (Hp → Prop) → Prop
def PSet (X : Cx) (t : TSet) : Prop :=
  ∀ (pins : List (Addr × Obj)) (s : Shared) (σ : St) (H : Hp) (o i v : V) (ov iv u : Value) (Q : Hp → Prop), Inv X pins σ H s → RelV o ov → RelV i iv → RelV v u → t o i v H Q →
    wpAny (model X.prog X.w) X.A (setItem ov iv u) (fun _ s' => ∃ H', Inv X pins σ H' s' ∧ Q H') X.xe s
section
variable {X : Cx} {pos : Pos}
def gName (i : Nat) : TG := fun v σ H Q => Q (σ.set i (some v)) H
theorem pg_name {i : Nat} {x : Str} (hN : X.N.Nodup) (hi : X.N[i]? = some x) (hx : Loc X.env.scope x) (hf : X.fn x = true ∨ X.env.scope.names.lookup x = some .local := by first | exact .inl rfl | exact .inr rfl | assumption) : PG X (.Name x pos) (gName i) := by
  intro pins s σ H v u Q I r h
  exact wpAny_assign_Name (store_ok I hN hi hx r (fun s' I' => ⟨_, H, I', h⟩) hf)
def gNil : TGs := fun vs σ H Q => vs = [] ∧ Q σ H
def gCons (t : TG) (u : TGs) : TGs := fun vs σ H Q => ∃ v r, vs = v :: r ∧ t v σ H fun σ' H' => u r σ' H' Q
theorem pgs_nil : PGs X [] gNil := by
  intro pins s σ H vs us Q I r h
  obtain ⟨e, h⟩ := h
  subst e
  cases r
  exact assignInOrder_nil ⟨σ, H, I, h⟩
theorem pgs_cons {e : Expr} {es : List Expr} {t : TG} {u : TGs} (h1 : PG X e t) (h2 : PGs X es u)
    (hs : (assignEach (e :: es) X.env).map (·.2) = assign e X.env :: (assignEach es X.env).map (·.2) := by rfl) : PGs X (e :: es) (gCons t u) := by
  intro pins s σ H vs us Q I r h
  obtain ⟨v, vr, e1, h⟩ := h
  subst e1
  cases r with
  | cons r rr =>
    rw [hs]
    refine assignInOrder_cons (thn (h1 pins s σ H _ _ _ I r h) fun _ s1 ⟨σ1, H1, I1, q1⟩ => ?_)
    exact h2 pins s1 σ1 H1 _ _ Q I1 rr q1
def gTup (K : PySem.W.Frag) (n : Nat) (t : TGs) : TG := fun v σ H Q => ∃ a xs, v = .ref a ∧ SqT K H a xs ∧ xs.length = n ∧ t xs σ H Q
theorem pg_tup {es : List Expr} {k : Nat} {t : TGs} {n : Nat} (hc : X.calm = true) (h : PGs X es t)
    (hn : (assignEach es X.env).length = n := by rfl) (hst : (assignEach es X.env).findIdx? (·.1) = none := by rfl) : PG X (.Tuple es k pos) (gTup X.K n t) := by
  intro pins s σ H v u Q I r hw
  obtain ⟨a, xs, e1, hq, hl, hw⟩ := hw
  subst e1
  cases r
  obtain ⟨its, rv, ht, hz⟩ := I.tuple hq
  refine assign_Tuple_tuple (I.ok.hd hc) ht (by simp [hn, ← hl, rv.length]) hst fun h' hx => ?_
  have I1 : Inv X pins σ H { s with heap := h' } := I.kept (t' := s.toks) fun b o e => hx b o (Nat.ne_of_lt (Heap.lt_size e)) e
  exact h pins _ σ H xs _ Q I1 (by simpa using rv) hw
def gSub (to ti : TE) (t : TSet) : TG := fun v σ H Q => to σ H fun o H1 => ti σ H1 fun i H2 => t o i v H2 fun H3 => Q σ H3
theorem pg_sub {o i : Expr} {to ti : TE} {t : TSet} (ho : PE X o to) (hi : PE X i ti) (hs : PSet X t)
    (ha : ∀ v, assign (.Subscript o i pos) X.env v = (do
      let ov ← holding [v] (eval o X.env)
      let iv ← holding [v, ov] (eval i X.env)
      standAt pos
      holding [v, ov, iv] (setItem ov iv v)
      release [v, ov, iv] []) := by intro _; rfl) : PG X (.Subscript o i pos) (gSub to ti t) := by
  intro pins s σ H v u Q I r h
  rw [ha]
  refine wpAny_bind (wpAny_holding (thn (ho pins s σ H _ I h) fun ov s1 ⟨x, H1, I1, r1, q1⟩ => ?_))
  refine wpAny_bind (wpAny_holding (thn (hi pins s1 σ H1 _ I1 q1) fun iv s2 ⟨y, H2, I2, r2, q2⟩ => ?_))
  refine wpAny_bind (wpAny_standAt (wpAny_bind (wpAny_holding (thn (hs pins s2 σ H2 x y v ov iv u _ I2 r1 r2 r q2) fun _ s3 ⟨H3, I3, q3⟩ => ?_))))
  exact wpAny_release ⟨σ, H3, I3, q3⟩
def tAsg (te : TE) (g : TG) : TS := fun D σ H => te σ H fun x H1 => g x σ H1 D.nx
theorem ps_asg {tg e : Expr} {te : TE} {g : TG} (he : PE X e te) (hg : PG X tg g) (hs : swapsWithSole [tg] e pos.line X.env = pure false := by rfl) (hw : swappedStores [tg] e X.env = pure none := by rfl)
    (h1 : (assignEach [tg] X.env).map (·.2) = [assign tg X.env] := by rfl) : PS X (.Assign [tg] e pos) (tAsg te g) := by
  intro pins s σ H D I h
  refine wpAny_Assign_stores (thn (he pins s σ H _ I h) fun v s1 ⟨x, H1, I1, r1, q1⟩ => ?_) hs hw
  rw [h1]
  exact thn (hg pins s1 σ H1 x v _ I1 r1 q1) fun _ s2 q => q
theorem ps_set {i : Nat} {x : Str} {e : Expr} {te : TE} {pos' : Pos} (hN : X.N.Nodup) (hi : X.N[i]? = some x) (hx : Loc X.env.scope x) (he : PE X e te) (hs : swapsWith e (some (.Name x pos')) pos.line X.env = pure false := by rfl) (hf : X.fn x = true ∨ X.env.scope.names.lookup x = some .local := by first | exact .inl rfl | exact .inr rfl | assumption) :
    PS X (.Assign [.Name x pos'] e pos) (tAsg te (gName i)) := by
  intro pins s σ H D I h
  refine wpAny_Assign_Name (thn (he pins s σ H _ I h) fun v s1 ⟨y, H1, I1, r1, q1⟩ => ?_) hs
  exact store_ok I1 hN hi hx r1 (fun s2 I2 => ⟨_, H1, I2, q1⟩) hf
def tPar (i j : Nat) (ta : TA) : TS := fun D σ H => ta σ H fun vs H1 => ∃ v w, vs = [v, w] ∧ D.nx ((σ.set i (some v)).set j (some w)) H1
theorem ps_par {i j : Nat} {x y : Str} {a b : Expr} {ta : TA} {px py pt : Pos} {kt k2 pt2} (hc : X.calm = true) (hN : X.N.Nodup) (hi : X.N[i]? = some x) (hj : X.N[j]? = some y) (hij : i ≠ j)
    (hx : X.env.scope.names.lookup x = some .local) (hy : X.env.scope.names.lookup y = some .local) (ha : PA X [a, b] ta)
    (hw : swappedStores [.Tuple [.Name x px, .Name y py] kt pt] (.Tuple [a, b] k2 pt2) X.env = pure (some [x, y]))
    (hs : swapsWithSole [.Tuple [.Name x px, .Name y py] kt pt] (.Tuple [a, b] k2 pt2) pos.line X.env = pure false := by rfl) :
    PS X (.Assign [.Tuple [.Name x px, .Name y py] kt pt] (.Tuple [a, b] k2 pt2) pos) (tPar i j ta) := by
  intro pins s σ H D I h
  rw [exec_Assign_arm]
  refine wpAny_bind (wpAny_standAt ?_)
  rw [hs]
  refine wpAny_bind (wpAny_pure ?_)
  rw [if_neg (by decide)]
  refine wpAny_bind (Tuple_ (thn (ha _ pins s σ H _ I h) fun us s1 ⟨vs, H1, I1, r1, q1⟩ => ?_))
  obtain ⟨v, w, e1, q1⟩ := q1
  subst e1
  obtain ⟨u1, u2, rfl, rv, rw'⟩ : ∃ u1 u2, us = [u1, u2] ∧ RelV v u1 ∧ RelV w u2 := by
    cases r1 with
    | cons p q =>
      cases q with
      | cons p' q' =>
        cases q'
        exact ⟨_, _, rfl, p, p'⟩
  refine wpAny_newObj_type ?_ (by show 2 ≤ sizeLine; decide)
  have I2 : Inv X pins σ H1 { s1 with heap := s1.heap.push { cls := .type "tuple", data := .seq [u1, u2].toArray } } := I1.kept (t' := s1.toks) fun b o e => Heap.get?_push_of_some _ e
  rw [hw]
  refine wpAny_bind (wpAny_pure ?_)
  show wpAny (model X.prog X.w) X.A (do rule "assign.swapped-stores"; let items ← unpackItems (.ref s1.heap.objs.size) 2 none; assignInOrder [fun v => bindName X.env y v, fun v => bindName X.env x v] items.reverse; pure Flow.next) _ _ _
  refine wpAny_bind (wpAny_rule (wpAny_bind (unpackItems_tuple (items := #[u1, u2]) (I.ok.hd hc) (IsTup.new s1.heap _) fun h' hx' => ?_)))
  have I3 := I2.kept (h' := h') (t' := s1.toks) fun b o e => hx' b o (Nat.ne_of_lt (Heap.lt_size e)) e
  show wpAny _ _ (assignInOrder [fun v => bindName X.env y v, fun v => bindName X.env x v] [u2, u1] >>= fun _ => pure Flow.next) _ _ _
  refine wpAny_bind (assignInOrder_cons (wpAny_bindName (store_ok I3 hN hj (.inl hy) rw' (fun s2 I4 => ?_) (.inr hy))))
  refine assignInOrder_cons (wpAny_bindName (store_ok I4 hN hi (.inl hx) rv (fun s3 I5 => assignInOrder_nil (wpAny_pure ?_)) (.inr hx)))
  rw [List.set_comm _ _ (Ne.symm hij)] at I5
  exact ⟨_, H1, I5, q1⟩
end
section
variable {X : Cx} {pos : Pos}
def tWhile (c : TT) (tb : TS) : TS := fun D σ H => ∃ W : Nat → St → Hp → Prop, (∃ m, W m σ H) ∧ ∀ m σ H, W m σ H →
  c σ H fun b H1 => if b = true then ∃ N : St → Hp → Prop, (∀ σ' H', N σ' H' → ∃ m', m' < m ∧ W m' σ' H') ∧ tb { D with nx := N, ct := N, bk := D.nx } σ H1 else D.nx σ H1
theorem ps_while {c : Expr} {body : List Stmt} {tc : TT} {tb : TS} (hp : PassesOwn (model X.prog X.w) X.A X.env X.xe) (hc : PT X c tc) (hb : PSs X body tb) : PS X (.While c body [] pos) (tWhile tc tb) := by
  intro pins s σ H D I h
  obtain ⟨W, ⟨m0, w0⟩, turn⟩ := h
  refine wpAny_While (codeAny_whileLoop (fun n s' => ∃ σ' H', Inv X pins σ' H' s' ∧ W n σ' H') ?_ m0 ⟨σ, H, I, w0⟩)
  rintro n s1 ⟨σ1, H1, I1, w1⟩
  refine wpAny_passesOwn hp (thn (hc pins s1 σ1 H1 _ I1 (turn n σ1 H1 w1)) fun b s2 ⟨H2, I2, q2⟩ => ?_)
  cases b with
  | true =>
    obtain ⟨N, hN, q2⟩ := q2
    rw [if_pos rfl]
    refine wpAny_passesOwn hp (thn (hb pins s2 σ1 H2 _ I2 q2) fun f s3 q3 => ?_)
    cases f with
    | next =>
      obtain ⟨σ3, H3, I3, n3⟩ := q3
      obtain ⟨m', hm, w3⟩ := hN σ3 H3 n3
      exact ⟨m', hm, σ3, H3, I3, w3⟩
    | cont =>
      obtain ⟨σ3, H3, I3, n3⟩ := q3
      obtain ⟨m', hm, w3⟩ := hN σ3 H3 n3
      exact ⟨m', hm, σ3, H3, I3, w3⟩
    | brk => exact q3
    | ret v => exact q3
  | false =>
    rw [if_neg Bool.false_ne_true]
    exact wpAny_execs_nil ⟨σ1, H2, I2, q2⟩
end
structure It where
  go : Nat → Hp → Prop
  yld : Nat → Hp → V → Hp → Prop
  stop : Nat → Hp → Prop
def FpOk (X : Cx) (pins : List (Addr × Obj)) (H : Hp) (b : Addr) : Prop :=
  H b = none ∧ b ≠ X.env.locals ∧ b ∉ X.fs ∧ (b ∈ X.ex ∨ X.s₀.heap.objs.size ≤ b) ∧ (∀ x c, X.env.cells.lookup x = some c → c ≠ b) ∧ ∀ p ∈ X.pn ++ pins, p.1 ≠ b
theorem Inv.fpOk {X : Cx} {pins : List (Addr × Obj)} {σ : St} {H H' : Hp} {s : Shared} {b : Addr} (I : Inv X pins σ H s) (hb : s.heap.objs.size ≤ b) (hn : H' b = none) : FpOk X pins H' b := by
  refine ⟨hn, Nat.ne_of_gt (Nat.lt_of_lt_of_le I.lt hb), I.nofs hb, .inr (Nat.le_trans I.sz hb), fun x c e z => ?_, fun p hp z => ?_⟩
  · obtain ⟨v, q⟩ := I.cell x c e
    exact absurd (Nat.lt_of_lt_of_le q.lt (by rw [z]; exact hb)) (Nat.lt_irrefl _)
  · exact absurd (Nat.lt_of_lt_of_le (Heap.lt_size (I.pin p hp).1) (by rw [z]; exact hb)) (Nat.lt_irrefl _)
structure Turn (P : Program) (w : World) (K : PySem.W.Frag) (tg : Expr) (J : It) (fp : List Addr) (it : Addr) (tn : Nat → Heap → Prop) : Prop where
  mem : it ∈ fp
  obj : ∀ i h, tn i h → ∀ b ∈ fp, ∃ o, h.get? b = some o ∧ ∀ v, o.data ≠ .cell v
  keep : ∀ i h h', tn i h → (∀ b ∈ fp, ∀ o, h.get? b = some o → h'.get? b = some o) → tn i h'
  item : ∀ (X : Cx), X.prog = P → X.w = w → X.K = K → X.calm = true → ∀ (i : Nat) (pins : List (Addr × Obj)) (s : Shared) (σ : St) (H : Hp) (E : Value → Shared → Prop), Inv X pins σ H s → (∀ b ∈ fp, FpOk X pins H b) → tn i s.heap → J.go i H →
    wpAny (model P w) X.A (pyNext (.ref it)) (fun r s1 => ∃ u, r = some u ∧
      wpAny (model P w) X.A (letOwnedTupleGo tg (.ref it) u) (fun _ s2 => ∃ x H', Inv X pins σ H' s2 ∧ RelV x u ∧ J.yld i H x H' ∧ tn (i + 1) s2.heap ∧ ∀ b ∈ fp, H' b = none) E s1) E s
  done : ∀ (X : Cx), X.prog = P → X.w = w → X.K = K → X.calm = true → ∀ (i : Nat) (pins : List (Addr × Obj)) (s : Shared) (σ : St) (H : Hp) (E : Value → Shared → Prop), Inv X pins σ H s → (∀ b ∈ fp, FpOk X pins H b) → tn i s.heap → J.stop i H →
    wpAny (model P w) X.A (pyNext (.ref it)) (fun r s1 => r = none ∧ Inv X pins σ H s1) E s
  self : ∀ (A : Around) (i : Nat) (s : Shared) (Q : Value → Shared → Prop) (E : Value → Shared → Prop), tn i s.heap → Q (.ref it) s → wpAny (model P w) A (pyIter (.ref it)) Q E s
abbrev TI := St → Hp → (It → Hp → Prop) → Prop
def PIE (X : Cx) (pins : List (Addr × Obj)) (σ : St) (tg : Expr) (R : It → Hp → Prop) (itv : Value) (s2 : Shared) : Prop :=
  ∃ (it : Addr) (fp : List Addr) (tn : Nat → Heap → Prop) (J : It) (H' : Hp), itv = .ref it ∧ Inv X pins σ H' s2 ∧ Turn X.prog X.w X.K tg J fp it tn ∧ tn 0 s2.heap ∧ (∀ b ∈ fp, FpOk X pins H' b) ∧ R J H'
def PI (X : Cx) (tg iter : Expr) (wi : TI) : Prop :=
  ∀ (pins : List (Addr × Obj)) (s : Shared) (σ : St) (H : Hp) (R : It → Hp → Prop), Inv X pins σ H s → wi σ H R →
    wpAny (model X.prog X.w) X.A (eval iter X.env) (fun v s1 => wpAny (model X.prog X.w) X.A (pyIter v) (PIE X pins σ tg R) X.xe s1) X.xe s
theorem go_of {M : Model} {A : Around} {E : Value → Shared → Prop} {s : Shared} {tg : Expr} {it : Addr} {u : Value} {o : Obj} {n : String} {vs : Array Value} {Q : Unit → Shared → Prop} (ho : s.heap.get? it = some o) (hc : o.cls = .type n) (hd : o.data = .fields vs)
    (hn : ["enumerate", "zip", "dict_itemiterator", "dict_reverseitemiterator", "odict_iterator", "itertools.zip_longest", "itertools.pairwise"].contains n = false) (hQ : Q () s) : wpAny M A (letOwnedTupleGo tg (.ref it) u) Q E s := by
  unfold letOwnedTupleGo
  cases tg <;> first
    | exact wpAny_pure hQ
    | (cases u <;> first
        | exact wpAny_pure hQ
        | (refine wpAny_bind (wpAny_load ho ?_)
           rw [hc, hd]
           show wpAny M A (if (["enumerate", "zip", "dict_itemiterator", "dict_reverseitemiterator", "odict_iterator", "itertools.zip_longest", "itertools.pairwise"].contains n && vs[0]? == some (rawInt _)) = true then _ else _) Q E s
           rw [if_neg (by intro h; rw [hn, Bool.false_and] at h; cases h)]
           exact wpAny_pure hQ))
def Itl (K : PySem.W.Frag) (a : Addr) : It :=
  ⟨fun i H => ∃ xs x, SqL K H a xs ∧ xs[i]? = some x, fun i H x H' => H' = H ∧ ∀ xs, SqL K H a xs → xs[i]? = some x, fun i H => ∃ xs, SqL K H a xs ∧ xs.length ≤ i⟩
def Itr (lo : Int) (n : Nat) : It := ⟨fun i _ => i < n, fun i H x H' => H' = H ∧ x = .int (lo + i), fun i _ => n ≤ i⟩
theorem turn_list {P : Program} {w : World} {K : PySem.W.Frag} {tg : Expr} (a it : Addr) : Turn P w K tg (Itl K a) [it] it (fun i h => h.IsListIter it a i) where
  mem := by simp
  obj := fun i h st b hb => by
    have e : b = it := by simpa using hb
    subst e
    obtain ⟨o, e, c, d⟩ := st
    exact ⟨o, e, fun v z => by rw [d] at z; cases z⟩
  keep := fun i h h' st k => st.at fun o e => k it (by simp) o e
  item := by
    intro X hP hw hK hc i pins s σ H E I hf st hg
    subst hP hw hK
    obtain ⟨xs, x, hq, hx⟩ := hg
    obtain ⟨its, rv, p, hz⟩ := I.list hq
    obtain ⟨u, hu, ru⟩ := rv.get hx
    obtain ⟨f0, f1, f2, f3, f4, f5⟩ := hf it (by simp)
    refine wpAny_pyNext_list_item st p.isList (x := u) (by simpa using hu) fun h' st' sb => ?_
    have I1 : Inv X pins σ H { s with heap := h' } := I.turned (t' := s.toks) (fun b o hb e => (sb.2 b hb).trans e) f0 f1 f3 f4 f5
    obtain ⟨o, e, c, d⟩ := id st'
    exact ⟨u, rfl, go_of (s := { s with heap := h' }) e c d (by decide) ⟨x, H, I1, ru, ⟨rfl, fun ys hy => by rw [I.list_inj hy hq]; exact hx⟩, st', fun b hb => (hf b hb).1⟩⟩
  done := by
    intro X hP hw hK hc i pins s σ H E I hf st hg
    subst hP hw hK
    obtain ⟨xs, hq, hx⟩ := hg
    obtain ⟨its, rv, p, hz⟩ := I.list hq
    obtain ⟨f0, f1, f2, f3, f4, f5⟩ := hf it (by simp)
    have hl := rv.length
    exact wpAny_pyNext_list_end (I.ok.hd hc) st p.isList (by simp; omega) fun h' eb => ⟨rfl, I.turned (t' := s.toks) (fun b o hb e => eb b o hb e) f0 f1 f3 f4 f5⟩
  self := fun _ _ _ _ _ st h => wpAny_pyIter_listiter st h
theorem turn_range {P : Program} {w : World} {K : PySem.W.Frag} {tg : Expr} (it : Addr) (lo : Int) (n : Nat) : Turn P w K tg (Itr lo n) [it] it (fun i h => IsRangeIter h it (lo + (i : Nat) * 1) ((n : Int) - (i : Nat)) 1) where
  mem := by simp
  obj := fun i h st b hb => by
    have e : b = it := by simpa using hb
    subst e
    exact ⟨_, st, fun v z => by
      have z' : Data.fields _ = Data.cell v := z
      cases z'⟩
  keep := fun i h h' st k => k it (by simp) _ st
  item := by
    intro X hP hw hK hc i pins s σ H E I hf st hg
    subst hP hw hK
    obtain ⟨f0, f1, f2, f3, f4, f5⟩ := hf it (by simp)
    have W := Walks.range (prog := X.prog) (w := X.w) (I.ok.hd hc) it lo 1 n
    refine W.item i s _ _ hg st fun v h' tk hv st' kk => ?_
    obtain ⟨t, rfl⟩ := hv
    have I1 : Inv X pins σ H { s with heap := h', toks := tk } := I.turned (fun b o hb e => kk b o (by simpa using hb) e) f0 f1 f3 f4 f5
    refine ⟨_, rfl, go_of (s := { s with heap := h', toks := tk }) (n := "range_iterator") st' rfl rfl (by decide) ⟨.int (lo + i), H, I1, ⟨t, ?_⟩, ⟨rfl, rfl⟩, st', fun b hb => (hf b hb).1⟩⟩
    rw [Int.mul_one]
  done := by
    intro X hP hw hK hc i pins s σ H E I hf st hg
    subst hP hw hK
    obtain ⟨f0, f1, f2, f3, f4, f5⟩ := hf it (by simp)
    exact wpAny_pyNext_range_end (I.ok.hd hc) st (by have : n ≤ i := hg; omega) fun h' eb => ⟨rfl, I.turned (t' := s.toks) (fun b o hb e => eb b o hb e) f0 f1 f3 f4 f5⟩
  self := fun _ _ _ _ _ st h => wpAny_pyIter_rangeiter st h
end L2
namespace L2
open PySem PySem.Spec PyProof.Rows
section
variable {X : Cx} {tg : Expr}
def iList (K : PySem.W.Frag) (tl : TE) : TI := fun σ H R => tl σ H fun x H1 => ∃ a, x = .ref a ∧ (∃ xs, SqL K H1 a xs) ∧ R (Itl K a) H1
theorem pi_list {l : Expr} {tl : TE} (hl : PE X l tl) : PI X tg l (iList X.K tl) := by
  intro pins s σ H R I h
  refine thn (hl pins s σ H _ I h) fun v s1 ⟨x, H1, I1, r1, q1⟩ => ?_
  obtain ⟨a, e, ⟨xs, hq⟩, q⟩ := q1
  subst e
  cases r1
  obtain ⟨its, rv, p, hz⟩ := I1.list hq
  refine wpAny_pyIter_list p.isList ?_
  refine ⟨s1.heap.objs.size, [s1.heap.objs.size], _, _, H1, rfl, I1.kept (t' := s1.toks) fun b o e => Heap.get?_push_of_some _ e, turn_list a _, ⟨_, Heap.get?_push_size _ rfl, rfl, rfl⟩, fun b hb => ?_, q⟩
  have e : b = s1.heap.objs.size := by simpa using hb
  subst e
  exact I1.fpOk (Nat.le_refl _) (I1.hok.fresh (Nat.le_refl _))
theorem range_it {pins : List (Addr × Obj)} {σ : St} {H : Hp} {s : Shared} {R : It → Hp → Prop} {E : Value → Shared → Prop} {lo hi : Int} {t u v : Tok} {tk : Nat} (I : Inv X pins σ H s) (h1 : -(2 ^ 62) ≤ lo) (h2 : lo < 2 ^ 62) (h3 : -(2 ^ 62) ≤ hi) (h4 : hi < 2 ^ 62)
    (q : R (Itr lo (hi - lo).toNat) H) : wpAny (model X.prog X.w) X.A (pyIter (.ref s.heap.objs.size)) (PIE X pins σ tg R) E { s with heap := s.heap.push { cls := .type "range", data := .fields #[.int lo t, .int hi u, .int 1 v] }, toks := tk } := by
  refine wpAny_pyIter_range (IsRange.new ..) (small_one h1 h2 h3 h4) ?_
  have I1 : Inv X pins σ H { s with heap := s.heap.push { cls := .type "range", data := .fields #[.int lo t, .int hi u, .int 1 v] }, toks := tk } := I.kept fun b o e => Heap.get?_push_of_some _ e
  refine ⟨(s.heap.push { cls := .type "range", data := .fields #[.int lo t, .int hi u, .int 1 v] }).objs.size, [(s.heap.push { cls := .type "range", data := .fields #[.int lo t, .int hi u, .int 1 v] }).objs.size], _, _, H, rfl,
    I1.kept (t' := tk) fun b o e => Heap.get?_push_of_some _ e, turn_range _ lo (hi - lo).toNat, ?_, fun b hb => ?_, q⟩
  · have e1 : lo + ((0 : Nat) : Int) * 1 = lo := by simp
    have e2 : (((hi - lo).toNat : Nat) : Int) - ((0 : Nat) : Int) = Builtin.Range.rangeSize lo hi 1 := by rw [rangeSize_one]; split <;> omega
    show IsRangeIter _ _ (lo + ((0 : Nat) : Int) * 1) ((((hi - lo).toNat : Nat) : Int) - ((0 : Nat) : Int)) 1
    rw [e1, e2]
    exact Heap.get?_push_size _ rfl
  · have e : b = (s.heap.push { cls := .type "range", data := .fields #[.int lo t, .int hi u, .int 1 v] }).objs.size := by simpa using hb
    subst e
    exact I1.fpOk (Nat.le_refl _) (I1.hok.fresh (Nat.le_refl _))
def iRng1 (ta : TA) : TI := fun σ H R => ta σ H fun vs H1 => ∃ j : Int, vs = [.int j] ∧ -(2 ^ 62) ≤ j ∧ j < 2 ^ 62 ∧ R (Itr 0 j.toNat) H1
def iRng2 (ta : TA) : TI := fun σ H R => ta σ H fun vs H1 => ∃ i j : Int, vs = [.int i, .int j] ∧ (-(2 ^ 62) ≤ i ∧ i < 2 ^ 62 ∧ -(2 ^ 62) ≤ j ∧ j < 2 ^ 62) ∧ R (Itr i (j - i).toNat) H1
theorem pi_range1 {a : Expr} {ta : TA} {p pos : Pos} (hg : Gl X "range") (hm : X.mg "range" = none) (ha : PA X [a] ta) (hs : starEach [a] X.env = [(false, eval a X.env)] := by rfl) : PI X tg (.Call (.Name "range" p) [a] [] pos) (iRng1 ta) := by
  intro pins s σ H R I h
  refine Call_ (ld_blt I hg hm boot_range (PyProof.Rows.callWith_type1 (thn (ha pos pins s σ H _ I h) fun us s1 ⟨vs, H1, I1, r1, q1⟩ => ?_) hs rfl))
  obtain ⟨j, e, q1, q2, q⟩ := q1
  subst e
  cases r1 with
  | cons r rr =>
    cases rr
    obtain ⟨t, rfl⟩ := r
    exact call_range_1 (range_it I1 (by omega) (by omega) q1 q2 (by simpa using q))
theorem pi_range2 {a b : Expr} {ta : TA} {p pos : Pos} (hg : Gl X "range") (hm : X.mg "range" = none) (ha : PA X [a, b] ta) (hs : starEach [a, b] X.env = [(false, eval a X.env), (false, eval b X.env)] := by rfl) (hs2 : starEach [b] X.env = [(false, eval b X.env)] := by rfl) :
    PI X tg (.Call (.Name "range" p) [a, b] [] pos) (iRng2 ta) := by
  intro pins s σ H R I h
  refine Call_ (ld_blt I hg hm boot_range (PyProof.Rows.callWith_type1 (thn (ha pos pins s σ H _ I h) fun us s1 ⟨vs, H1, I1, r1, q1⟩ => ?_) (by rw [hs, hs2]) (by rw [hs2]; rfl)))
  obtain ⟨i, j, e, ⟨q1, q2, q3, q4⟩, q⟩ := q1
  subst e
  cases r1 with
  | cons r rr =>
    cases rr with
    | cons r' rr =>
      cases rr
      obtain ⟨t, rfl⟩ := r
      obtain ⟨t', rfl⟩ := r'
      exact call_range_2 (range_it I1 q1 q2 q3 q4 q)
def tFor (wi : TI) (g : TG) (tb : TS) : TS := fun D σ H => wi σ H fun J H1 => ∃ W : Nat → Nat → St → Hp → Prop, (∃ m, W 0 m σ H1) ∧ ∀ i m σ H, W i m σ H →
  (J.stop i H ∧ D.nx σ H) ∨ (J.go i H ∧ ∃ N : St → Hp → Prop, (∀ σ' H', N σ' H' → ∃ m', m' < m ∧ W (i + 1) m' σ' H') ∧ ∀ x H', J.yld i H x H' → g x σ H' fun σ2 H2 => tb { D with nx := N, ct := N, bk := D.nx } σ2 H2)
def pinsAt (fp : List Addr) (h : Heap) : List (Addr × Obj) := fp.filterMap fun b => (h.get? b).map fun o => (b, o)
theorem mem_pinsAt {fp : List Addr} {h : Heap} {b : Addr} {o : Obj} (hb : b ∈ fp) (e : h.get? b = some o) : (b, o) ∈ pinsAt fp h := List.mem_filterMap.mpr ⟨b, hb, by rw [e]; rfl⟩
theorem of_pinsAt {fp : List Addr} {h : Heap} {p : Addr × Obj} (hp : p ∈ pinsAt fp h) : p.1 ∈ fp ∧ h.get? p.1 = some p.2 := by
  obtain ⟨b, hb, e⟩ := List.mem_filterMap.mp hp
  cases q : h.get? b with
  | none => rw [q] at e; cases e
  | some o =>
    rw [q] at e
    have e' : (b, o) = p := Option.some.inj e
    subst e'
    exact ⟨hb, q⟩
theorem Inv.pinned {pins : List (Addr × Obj)} {σ : St} {H : Hp} {s : Shared} {fp : List Addr} (I : Inv X pins σ H s) (hf : ∀ b ∈ fp, FpOk X pins H b) (ho : ∀ b ∈ fp, ∃ o, s.heap.get? b = some o ∧ ∀ v, o.data ≠ .cell v) : Inv X (pins ++ pinsAt fp s.heap) σ H s :=
  I.pins_of fun p hp => (List.mem_append.mp hp).elim (fun z => I.pin p (List.mem_append_right _ z)) fun z => by
    obtain ⟨hb, e⟩ := of_pinsAt z
    obtain ⟨f0, f1, f2, _⟩ := hf p.1 hb
    obtain ⟨o, e', d⟩ := ho p.1 hb
    rw [e] at e'; cases e'
    exact ⟨e, f0, f1, f2, d⟩
theorem Inv.unpinned {pins pl : List (Addr × Obj)} {σ : St} {H : Hp} {s : Shared} (I : Inv X (pins ++ pl) σ H s) : Inv X pins σ H s := I.pins_of fun p hp => I.pin p (List.mem_append_right _ (List.mem_append_left _ hp))
theorem ps_for {iter : Expr} {body : List Stmt} {wi : TI} {g : TG} {tb : TS} {pos : Pos} (hp : PassesOwn (model X.prog X.w) X.A X.env X.xe) (hc : X.calm = true) (hi : PI X tg iter wi) (hg : PG X tg g) (hb : PSs X body tb)
    (hs : ∀ x, foldedSetIterable iter X.env x = pure x := by intro _; rfl) : PS X (.For tg iter body [] pos) (tFor wi g tb) := by
  intro pins s σ H D I h
  refine wpAny_For (thn (hi pins s σ H _ I h) fun v s1 h1 => thn h1 fun itv s2 h2 => ?_) hs
  obtain ⟨it, fp, tn, J, H2, e, I2, T, st2, f2, W, ⟨m0, w0⟩, turn⟩ := h2
  subst e
  -- what stays true of the iterator's objects through the loop
  have stat : ∀ {H' : Hp}, (∀ b ∈ fp, H' b = none) → ∀ b ∈ fp, FpOk X pins H' b := fun hn b hb => ⟨hn b hb, (f2 b hb).2⟩
  refine codeAny_forLoop_any (fun n s' => ∃ i σ' H', Inv X pins σ' H' s' ∧ tn i s'.heap ∧ (∀ b ∈ fp, H' b = none) ∧ W i n σ' H') ?_ m0 ⟨0, σ, H2, I2, st2, fun b hb => (f2 b hb).1, w0⟩
  rintro n s3 ⟨i, σ3, H3, I3, st3, fr3, w3⟩
  rcases turn i n σ3 H3 w3 with ⟨stop, qn⟩ | ⟨go, N, hN, step⟩
  · refine wpAny_passesOwn hp (thn (T.done X rfl rfl rfl hc i pins s3 σ3 H3 X.xe I3 (stat fr3) st3 stop) fun r s4 ⟨hr, I4⟩ => ?_)
    subst hr
    exact wpAny_execs_nil ⟨σ3, H3, I4, qn⟩
  · refine wpAny_passesOwn hp (thn (T.item X rfl rfl rfl hc i pins s3 σ3 H3 X.xe I3 (stat fr3) st3 go) fun r s4 ⟨u, hr, h4⟩ => ?_)
    subst hr
    refine wpAny_passesOwn hp (thn h4 fun _ s5 ⟨x, H5, I5, r5, y5, st5, fr5⟩ => ?_)
    have I5' := I5.pinned (stat fr5) (T.obj _ _ st5)
    refine wpAny_passesOwn hp (thn (hg _ s5 σ3 H5 x u _ I5' r5 (step x H5 y5)) fun _ s6 ⟨σ6, H6, I6, q6⟩ => ?_)
    refine wpAny_passesOwn hp (thn (hb _ s6 σ6 H6 _ I6 q6) fun f s7 q7 => ?_)
    have again : ∀ {σ7 : St} {H7 : Hp}, Inv X (pins ++ pinsAt fp s5.heap) σ7 H7 s7 → N σ7 H7 → ∃ m, m < n ∧ ∃ i σ' H', Inv X pins σ' H' s7 ∧ tn i s7.heap ∧ (∀ b ∈ fp, H' b = none) ∧ W i m σ' H' := fun {σ7 H7} I7 n7 => by
      obtain ⟨m', hm, w7⟩ := hN σ7 H7 n7
      refine ⟨m', hm, i + 1, σ7, H7, I7.unpinned, T.keep _ _ _ st5 fun b hb o e => (I7.pin (b, o) (List.mem_append_right _ (List.mem_append_right _ (mem_pinsAt hb e)))).1, fun b hb => ?_, w7⟩
      obtain ⟨o, e, d⟩ := T.obj _ _ st5 b hb
      exact (I7.pin (b, o) (List.mem_append_right _ (List.mem_append_right _ (mem_pinsAt hb e)))).2.1
    cases f with
    | next => obtain ⟨σ7, H7, I7, n7⟩ := q7; exact again I7 n7
    | cont => obtain ⟨σ7, H7, I7, n7⟩ := q7; exact again I7 n7
    | brk => obtain ⟨σ7, H7, I7, q7⟩ := q7; exact ⟨σ7, H7, I7.unpinned, q7⟩
    | ret v => obtain ⟨x7, σ7, H7, I7, r7, q7⟩ := q7; exact ⟨x7, σ7, H7, I7.unpinned, r7, q7⟩
end
theorem for_list {K : PySem.W.Frag} {a : Addr} {xs : List V} {g : TG} {tb : TS} {D : Ends} {σ : St} {H : Hp} (Pv : Nat → St → Hp → Prop) (h0 : Pv 0 σ H) (hl : ∀ i σ H, i ≤ xs.length → Pv i σ H → SqL K H a xs)
    (hs : ∀ i x σ H, xs[i]? = some x → Pv i σ H → g x σ H fun σ2 H2 => tb { D with nx := Pv (i + 1), ct := Pv (i + 1), bk := D.nx } σ2 H2) (hd : ∀ σ H, Pv xs.length σ H → D.nx σ H) :
    ∃ W : Nat → Nat → St → Hp → Prop, (∃ m, W 0 m σ H) ∧ ∀ i m σ H, W i m σ H →
      ((Itl K a).stop i H ∧ D.nx σ H) ∨ ((Itl K a).go i H ∧ ∃ N : St → Hp → Prop, (∀ σ' H', N σ' H' → ∃ m', m' < m ∧ W (i + 1) m' σ' H') ∧ ∀ x H', (Itl K a).yld i H x H' → g x σ H' fun σ2 H2 => tb { D with nx := N, ct := N, bk := D.nx } σ2 H2) := by
  refine ⟨fun i m σ H => m = xs.length - i ∧ i ≤ xs.length ∧ Pv i σ H, ⟨xs.length, by simp, Nat.zero_le _, h0⟩, ?_⟩
  rintro i m σ H ⟨rfl, hi, p⟩
  have q := hl i σ H hi p
  by_cases hlt : i < xs.length
  · refine .inr ⟨⟨xs, xs[i], q, by simp [hlt]⟩, Pv (i + 1), fun σ' H' p' => ⟨xs.length - (i + 1), by omega, rfl, hlt, p'⟩, fun x H' y => ?_⟩
    obtain ⟨e, y⟩ := y
    subst e
    exact hs i x σ _ (y xs q) p
  · have e : i = xs.length := by omega
    subst e
    exact .inl ⟨⟨xs, q, Nat.le_refl _⟩, hd σ H p⟩
theorem for_range {lo : Int} {n : Nat} {g : TG} {tb : TS} {D : Ends} {σ : St} {H : Hp} (Pv : Nat → St → Hp → Prop) (h0 : Pv 0 σ H)
    (hs : ∀ i σ H, i < n → Pv i σ H → g (.int (lo + i)) σ H fun σ2 H2 => tb { D with nx := Pv (i + 1), ct := Pv (i + 1), bk := D.nx } σ2 H2) (hd : ∀ σ H, Pv n σ H → D.nx σ H) :
    ∃ W : Nat → Nat → St → Hp → Prop, (∃ m, W 0 m σ H) ∧ ∀ i m σ H, W i m σ H →
      ((Itr lo n).stop i H ∧ D.nx σ H) ∨ ((Itr lo n).go i H ∧ ∃ N : St → Hp → Prop, (∀ σ' H', N σ' H' → ∃ m', m' < m ∧ W (i + 1) m' σ' H') ∧ ∀ x H', (Itr lo n).yld i H x H' → g x σ H' fun σ2 H2 => tb { D with nx := N, ct := N, bk := D.nx } σ2 H2) := by
  refine ⟨fun i m σ H => m = n - i ∧ i ≤ n ∧ Pv i σ H, ⟨n, by simp, Nat.zero_le _, h0⟩, ?_⟩
  rintro i m σ H ⟨rfl, hi, p⟩
  by_cases hlt : i < n
  · refine .inr ⟨hlt, Pv (i + 1), fun σ' H' p' => ⟨n - (i + 1), by omega, rfl, hlt, p'⟩, fun x H' y => ?_⟩
    obtain ⟨e, y⟩ := y
    subst e y
    exact hs i σ _ hlt p
  · have e : i = n := by omega
    subst e
    exact .inl ⟨Nat.le_refl _, hd σ H p⟩
end L2
namespace L2
open PySem PySem.Spec PyProof.Rows
abbrev R2 := V → V → Hp → VK → Prop
def OpR (X : Cx) (f : Value → Value → Sem Value) (r : R2) : Prop :=
  ∀ (pins : List (Addr × Obj)) (s : Shared) (σ : St) (H : Hp) (x y : V) (v u : Value) (Q : VK), Inv X pins σ H s → RelV x v → RelV y u → r x y H Q →
    wpAny (model X.prog X.w) X.A (f v u) (EP X pins σ Q) X.xe s
def UnR (X : Cx) (f : Value → Sem Value) (r : V → Hp → VK → Prop) : Prop :=
  ∀ (pins : List (Addr × Obj)) (s : Shared) (σ : St) (H : Hp) (x : V) (v : Value) (Q : VK), Inv X pins σ H s → RelV x v → r x H Q →
    wpAny (model X.prog X.w) X.A (f v) (EP X pins σ Q) X.xe s
def CallR (X : Cx) (f : Value) (r : List V → Hp → VK → Prop) : Prop :=
  ∀ (pins : List (Addr × Obj)) (s : Shared) (σ : St) (H : Hp) (xs : List V) (us : List Value) (Q : VK), Inv X pins σ H s → Vals xs us → r xs H Q →
    wpAny (model X.prog X.w) X.A (call f us) (EP X pins σ Q) X.xe s
def tOp (r : R2) (ta tb : TE) : TE := fun σ H Q => ta σ H fun x H1 => tb σ H1 fun y H2 => r x y H2 Q
def tUn (r : V → Hp → VK → Prop) (ta : TE) : TE := fun σ H Q => ta σ H fun x H1 => r x H1 Q
def rI (C : Int → Int → Prop) (g : Int → Int → V) : R2 := fun x y H Q => ∃ i j, x = .int i ∧ y = .int j ∧ C i j ∧ Q (g i j) H
def rI0 (g : Int → Int → V) : R2 := fun x y H Q => ∃ i j, x = .int i ∧ y = .int j ∧ Q (g i j) H
def rU (g : Int → V) : V → Hp → VK → Prop := fun x H Q => ∃ i, x = .int i ∧ Q (g i) H
section
variable {X : Cx} {a b c : Expr} {ta tb tc : TE} {pos : Pos}
theorem binT (ha : PE X a ta) (hb : PE X b tb) {pins : List (Addr × Obj)} {s : Shared} {σ : St} {H : Hp} {R : V → V → Hp → Prop} (I : Inv X pins σ H s)
    (h : ta σ H fun x H1 => tb σ H1 fun y H2 => R x y H2) {Q : Value → Shared → Prop} {f : Value → Value → Sem Value}
    (hf : ∀ v u s2 x y H2, Inv X pins σ H2 s2 → RelV x v → RelV y u → R x y H2 → wpAny (model X.prog X.w) X.A (f v u) Q X.xe s2) :
    wpAny (model X.prog X.w) X.A (eval a X.env) (fun v s₁ => wpAny (model X.prog X.w) X.A (eval b X.env) (fun u s₂ => wpAny (model X.prog X.w) X.A (f v u) Q X.xe s₂) X.xe s₁) X.xe s := by
  refine thn (ha pins s σ H _ I h) fun v s1 ⟨x, H1, I1, r1, q1⟩ => ?_
  refine thn (hb pins s1 σ H1 _ I1 q1) fun u s2 ⟨y, H2, I2, r2, q2⟩ => ?_
  exact hf v u s2 x y H2 I2 r1 r2 q2
theorem pe_op {op : Operator} {r : R2} (ho : OpR X (binaryOp op) r) (ha : PE X a ta) (hb : PE X b tb) : PE X (.BinOp a op b pos) (tOp r ta tb) := by
  intro pins s σ H Q I h
  exact wpAny_BinOp (binT ha hb I h fun v u s2 x y H2 I2 rx ry q => ho pins s2 σ H2 x y v u Q I2 rx ry q)
theorem pe_un {op : UnaryOp} {r : V → Hp → VK → Prop} (ho : UnR X (unaryOp op) r) (ha : PE X a ta) : PE X (.UnaryOp op a pos) (tUn r ta) := by
  intro pins s σ H Q I h
  exact UnaryOp_ (thn (ha pins s σ H _ I h) fun v s1 ⟨x, H1, I1, r1, q1⟩ => ho pins s1 σ H1 x v Q I1 r1 q1)
theorem opI {f : Value → Value → Sem Value} {C : Int → Int → Prop} {g : Int → Int → Int}
    (rule : ∀ (i j : Int) (t u : Tok) (s : Shared) (Q : Value → Shared → Prop) (E : Value → Shared → Prop), C i j → Q (.int (g i j) s.toks) { s with toks := s.toks + 1 } → wpAny (model X.prog X.w) X.A (f (.int i t) (.int j u)) Q E s) :
    OpR X f (rI C fun i j => .int (g i j)) := by
  intro pins s σ H x y v u Q I rx ry h
  obtain ⟨i, j, rfl, rfl, hc, q⟩ := h
  obtain ⟨t, rfl⟩ := rx
  obtain ⟨t', rfl⟩ := ry
  exact rule i j t t' s _ _ hc ⟨.int (g i j), H, I.tok _, ⟨_, rfl⟩, q⟩
theorem opI0 {f : Value → Value → Sem Value} {g : Int → Int → Int}
    (rule : ∀ (i j : Int) (t u : Tok) (s : Shared) (Q : Value → Shared → Prop) (E : Value → Shared → Prop), Q (.int (g i j) s.toks) { s with toks := s.toks + 1 } → wpAny (model X.prog X.w) X.A (f (.int i t) (.int j u)) Q E s) :
    OpR X f (rI0 fun i j => .int (g i j)) := by
  intro pins s σ H x y v u Q I rx ry h
  obtain ⟨i, j, rfl, rfl, q⟩ := h
  obtain ⟨t, rfl⟩ := rx
  obtain ⟨t', rfl⟩ := ry
  exact rule i j t t' s _ _ ⟨.int (g i j), H, I.tok _, ⟨_, rfl⟩, q⟩
theorem opB0 {f : Value → Value → Sem Value} {g : Int → Int → Bool}
    (rule : ∀ (i j : Int) (t u : Tok) (s : Shared) (Q : Value → Shared → Prop) (E : Value → Shared → Prop), Q (.bool (g i j)) s → wpAny (model X.prog X.w) X.A (f (.int i t) (.int j u)) Q E s) :
    OpR X f (rI0 fun i j => .bl (g i j)) := by
  intro pins s σ H x y v u Q I rx ry h
  obtain ⟨i, j, rfl, rfl, q⟩ := h
  obtain ⟨t, rfl⟩ := rx
  obtain ⟨t', rfl⟩ := ry
  exact rule i j t t' s _ _ ⟨.bl (g i j), H, I, rfl, q⟩
def CDiv (i j : Int) : Prop := 0 < j ∧ j < 1073741824
def CMul (i j : Int) : Prop := (-(2 ^ 64) < i ∧ i < 2 ^ 64) ∨ (-(2 ^ 64) < j ∧ j < 2 ^ 64)
theorem CMul.ok {i j : Int} (h : CMul i j) : IntMulOk i j := by
  rcases h with ⟨h1, h2⟩ | ⟨h1, h2⟩
  · exact .of_left (intBits_le_64 h1 h2)
  · exact .of_right (intBits_le_64 h1 h2)
theorem op_add : OpR X (binaryOp .Add) (rI0 fun i j => .int (i + j)) := opI0 fun _ _ _ _ _ _ _ q => add_int q
theorem op_sub : OpR X (binaryOp .Sub) (rI0 fun i j => .int (i - j)) := opI0 fun _ _ _ _ _ _ _ q => sub_int q
theorem op_mul : OpR X (binaryOp .Mult) (rI CMul fun i j => .int (i * j)) := opI fun _ _ _ _ _ _ _ hc q => mul_int q hc.ok
theorem op_fdiv : OpR X (binaryOp .FloorDiv) (rI CDiv fun i j => .int (i / j)) := opI fun i j _ _ _ _ _ hc q => by
  have h1 : (0 : Int) < j := hc.1
  have h2 : j < 1073741824 := hc.2
  exact floordiv_int (by omega) (by rw [Int.fdiv_eq_ediv_of_nonneg i (by omega)]; exact q) (.inl (PyProof.noPylong_small (by omega)))
theorem op_mod : OpR X (binaryOp .Mod) (rI (fun _ j => 0 < j) fun i j => .int (i % j)) := opI fun i j _ _ _ _ _ hc q => by
  have h1 : (0 : Int) < j := hc
  exact mod_int' (by omega) (by rw [Int.fmod_eq_emod_of_nonneg i (by omega)]; exact q)
theorem unI {f : Value → Sem Value} {g : Int → Int}
    (rule : ∀ (i : Int) (t : Tok) (s : Shared) (Q : Value → Shared → Prop) (E : Value → Shared → Prop), Q (.int (g i) s.toks) { s with toks := s.toks + 1 } → wpAny (model X.prog X.w) X.A (f (.int i t)) Q E s) :
    UnR X f (rU fun i => .int (g i)) := by
  intro pins s σ H x v Q I rx h
  obtain ⟨i, rfl, q⟩ := h
  obtain ⟨t, rfl⟩ := rx
  exact rule i t s _ _ ⟨.int (g i), H, I.tok _, ⟨_, rfl⟩, q⟩
theorem un_neg : UnR X (unaryOp .USub) (rU fun i => .int (-i)) := unI fun _ _ _ _ _ q => neg_int q
end
def scal : V → V → Bool
  | .non, .non => true | .non, .int _ => true | .int _, .non => true | .non, .bl _ => true | .bl _, .non => true | .non, .str _ => true | .str _, .non => true
  | .int _, .int _ => true | .bl _, .bl _ => true | .str _, .str _ => true | .byt _, .byt _ => true
  | .int _, .str _ => true | .str _, .int _ => true | .bl _, .str _ => true | .str _, .bl _ => true
  | _, _ => false
def rEq : R2 := fun x y H Q => scal x y = true ∧ Q (.bl (decide (x = y))) H
def rNe : R2 := fun x y H Q => scal x y = true ∧ Q (.bl (!decide (x = y))) H
theorem dec_int {i j : Int} : decide (V.int i = V.int j) = (i == j) := by
  rw [Bool.eq_iff_iff]
  simp
theorem dec_bl {i j : Bool} : decide (V.bl i = V.bl j) = (i == j) := by
  rw [Bool.eq_iff_iff]
  simp
theorem dec_str {i j : Str} : decide (V.str i = V.str j) = (i == j) := by
  rw [Bool.eq_iff_iff]
  simp
theorem dec_byt {i j : Array UInt8} : decide (V.byt i = V.byt j) = (i.toList == j.toList) := by
  rw [Bool.eq_iff_iff]
  cases i
  cases j
  simp
section
variable {X : Cx} {a b c : Expr} {ta tb tc : TE} {pos : Pos}
theorem fin_bl {pins : List (Addr × Obj)} {σ : St} {H : Hp} {s : Shared} {Q : VK} {k k' : Bool} (I : Inv X pins σ H s) (q : Q (.bl k) H) (e : k = k') : EP X pins σ Q (.bool k') s := by
  subst e
  exact ⟨.bl k, H, I, rfl, q⟩
theorem op_eq : OpR X (compareOp .Eq) rEq := by
  intro pins s σ H x y v u Q I rx ry h
  obtain ⟨hs, q⟩ := h
  cases x with
  | non =>
    cases rx
    cases y with
    | non => cases ry; exact PySem.EqNone.eq_none_none (fin_bl I q (by simp))
    | bl j => cases ry; exact PySem.EqNone.eq_none_bool (fin_bl I q (by simp))
    | int j => obtain ⟨t', rfl⟩ := ry; exact PySem.EqNone.eq_none_int (fin_bl I q (by simp))
    | str j => obtain ⟨t', rfl⟩ := ry; exact PySem.EqNone.eq_none_str (fin_bl I q (by simp))
    | _ => exact absurd (show false = true from hs) Bool.false_ne_true
  | bl i =>
    cases rx
    cases y with
    | non => cases ry; exact PySem.EqNone.eq_bool_none (fin_bl I q (by simp))
    | bl j => cases ry; exact eq_bool (fin_bl I q dec_bl)
    | str j => obtain ⟨t', rfl⟩ := ry; exact PySem.EqMixed.eq_bool_str (fin_bl I q (by simp))
    | _ => exact absurd (show false = true from hs) Bool.false_ne_true
  | int i =>
    obtain ⟨t, rfl⟩ := rx
    cases y with
    | non => cases ry; exact PySem.EqNone.eq_int_none (fin_bl I q (by simp))
    | int j => obtain ⟨t', rfl⟩ := ry; exact eq_int (fin_bl I q dec_int)
    | str j => obtain ⟨t', rfl⟩ := ry; exact PySem.EqMixed.eq_int_str (fin_bl I q (by simp))
    | _ => exact absurd (show false = true from hs) Bool.false_ne_true
  | str i =>
    obtain ⟨t, rfl⟩ := rx
    cases y with
    | non => cases ry; exact PySem.EqNone.eq_str_none (fin_bl I q (by simp))
    | bl j => cases ry; exact PySem.EqMixed.eq_str_bool (fin_bl I q (by simp))
    | int j => obtain ⟨t', rfl⟩ := ry; exact PySem.EqMixed.eq_str_int (fin_bl I q (by simp))
    | str j => obtain ⟨t', rfl⟩ := ry; exact eq_str (fin_bl I q dec_str)
    | _ => exact absurd (show false = true from hs) Bool.false_ne_true
  | byt i =>
    obtain ⟨t, rfl⟩ := rx
    cases y with
    | byt j => obtain ⟨t', rfl⟩ := ry; exact PySem.W.eq_bytes (fin_bl I q dec_byt)
    | _ => exact absurd (show false = true from hs) Bool.false_ne_true
  | _ => cases y <;> exact absurd (show false = true from hs) Bool.false_ne_true
theorem op_ne : OpR X (compareOp .NotEq) rNe := by
  intro pins s σ H x y v u Q I rx ry h
  obtain ⟨hs, q⟩ := h
  cases x with
  | non =>
    cases rx
    cases y with
    | non => cases ry; exact PySem.EqNone.ne_none_none (fin_bl I q (by simp))
    | bl j => cases ry; exact PySem.EqNone.ne_none_bool (fin_bl I q (by simp))
    | int j => obtain ⟨t', rfl⟩ := ry; exact PySem.EqNone.ne_none_int (fin_bl I q (by simp))
    | str j => obtain ⟨t', rfl⟩ := ry; exact PySem.EqNone.ne_none_str (fin_bl I q (by simp))
    | _ => exact absurd (show false = true from hs) Bool.false_ne_true
  | bl i =>
    cases rx
    cases y with
    | non => cases ry; exact PySem.EqNone.ne_bool_none (fin_bl I q (by simp))
    | bl j => cases ry; exact ne_bool (fin_bl I q (congrArg not dec_bl))
    | str j => obtain ⟨t', rfl⟩ := ry; exact PySem.EqMixed.ne_bool_str (fin_bl I q (by simp))
    | _ => exact absurd (show false = true from hs) Bool.false_ne_true
  | int i =>
    obtain ⟨t, rfl⟩ := rx
    cases y with
    | non => cases ry; exact PySem.EqNone.ne_int_none (fin_bl I q (by simp))
    | int j => obtain ⟨t', rfl⟩ := ry; exact ne_int (fin_bl I q (congrArg not dec_int))
    | str j => obtain ⟨t', rfl⟩ := ry; exact PySem.EqMixed.ne_int_str (fin_bl I q (by simp))
    | _ => exact absurd (show false = true from hs) Bool.false_ne_true
  | str i =>
    obtain ⟨t, rfl⟩ := rx
    cases y with
    | non => cases ry; exact PySem.EqNone.ne_str_none (fin_bl I q (by simp))
    | bl j => cases ry; exact PySem.EqMixed.ne_str_bool (fin_bl I q (by simp))
    | int j => obtain ⟨t', rfl⟩ := ry; exact PySem.EqMixed.ne_str_int (fin_bl I q (by simp))
    | str j => obtain ⟨t', rfl⟩ := ry; exact ne_str (fin_bl I q (congrArg not dec_str))
    | _ => exact absurd (show false = true from hs) Bool.false_ne_true
  | byt i =>
    obtain ⟨t, rfl⟩ := rx
    cases y with
    | byt j => obtain ⟨t', rfl⟩ := ry; exact PySem.W.ne_bytes (fin_bl I q (congrArg not dec_byt))
    | _ => exact absurd (show false = true from hs) Bool.false_ne_true
  | _ => cases y <;> exact absurd (show false = true from hs) Bool.false_ne_true
theorem op_lt : OpR X (compareOp .Lt) (rI0 fun i j => .bl (decide (i < j))) := opB0 fun _ _ _ _ _ _ _ q => lt_int q
theorem op_le : OpR X (compareOp .LtE) (rI0 fun i j => .bl (decide (i ≤ j))) := opB0 fun _ _ _ _ _ _ _ q => le_int q
theorem op_gt : OpR X (compareOp .Gt) (rI0 fun i j => .bl (decide (j < i))) := opB0 fun _ _ _ _ _ _ _ q => gt_int q
theorem nomark (b : Expr) {op : CmpOp} (h : op ≠ .In := by decide) (h2 : op ≠ .NotIn := by decide) : behindInMarks op b = false := by
  have e1 : (op == CmpOp.In) = false := by cases op <;> first | rfl | exact absurd rfl h
  have e2 : (op == CmpOp.NotIn) = false := by cases op <;> first | rfl | exact absurd rfl h2
  cases b <;> simp [behindInMarks, e1, e2]
theorem pe_cmpR {op : CmpOp} {r : R2} (ho : OpR X (compareOp op) r) (ha : PE X a ta) (hb : PE X b tb) (hm : behindInMarks op b = false) : PE X (.Compare a [op] [b] pos) (tOp r ta tb) := by
  intro pins s σ H Q I h
  exact wpAny_Compare1 (binT ha hb I h fun v u s2 x y H2 I2 rx ry q => ho pins s2 σ H2 x y v u Q I2 rx ry q) hm
def tTest (t : TE) : TT := fun σ H Q => t σ H fun x H' => ∃ k, x = .bl k ∧ Q k H'
theorem pt_cmpR {op : CmpOp} {r : R2} (ho : OpR X (compareOp op) r) (ha : PE X a ta) (hb : PE X b tb) (hm : behindInMarks op b = false) : PT X (.Compare a [op] [b] pos) (tTest (tOp r ta tb)) := by
  intro pins s σ H Q I h
  refine wpAny_isTrue_Compare1 (thn (ha pins s σ H _ I h) fun v s1 ⟨x, H1, I1, r1, q1⟩ => thn (hb pins s1 σ H1 _ I1 q1) fun u s2 ⟨y, H2, I2, r2, q2⟩ =>
    thn (ho pins s2 σ H2 x y v u _ I2 r1 r2 q2) fun c s3 ⟨z, H3, I3, r3, k, e, q3⟩ => ?_) hm
  subst e
  cases r3
  exact wpAny_truthy_bool ⟨H3, I3, q3⟩
def tChain (r r' : R2) (ta tb tc : TE) : TE := fun σ H Q => ta σ H fun x H1 => tb σ H1 fun y H2 => r x y H2 fun z H3 => ∃ k, z = .bl k ∧
  (if k = true then tc σ H3 fun w' H4 => r' y w' H4 Q else Q (.bl false) H3)
theorem pe_chain {op op' : CmpOp} {r r' : R2} (ho : OpR X (compareOp op) r) (ho' : OpR X (compareOp op') r') (ha : PE X a ta) (hb : PE X b tb) (hc : PE X c tc)
    (hm : lastMarks [op, op'] [b, c] = false := by with_unfolding_all rfl) : PE X (.Compare a [op, op'] [b, c] pos) (tChain r r' ta tb tc) := by
  intro pins s σ H Q I h
  refine Compare_chain (thn (ha pins s σ H _ I h) fun v s1 ⟨x, H1, I1, r1, q1⟩ => chain_link (thn (hb pins s1 σ H1 _ I1 q1) fun u s2 ⟨y, H2, I2, r2, q2⟩ =>
    thn (ho pins s2 σ H2 x y v u _ I2 r1 r2 q2) fun d s3 ⟨z, H3, I3, r3, k, e, q3⟩ => ?_)) hm
  subst e
  cases r3
  refine wpAny_truthy_bool ?_
  cases k with
  | false => exact ite_ff ⟨.bl false, H3, I3, rfl, q3⟩
  | true => exact ite_tt (chain_last (thn (hc pins s3 σ H3 _ I3 q3) fun w' s4 ⟨z', H4, I4, r4, q4⟩ => ho' pins s4 σ H4 y z' u w' Q I4 r2 r4 q4))
theorem line63 : (sizeLine : Nat) < 2 ^ 63 := by rw [sizeLine_eq]; decide
theorem vals1 {x : V} {us : List Value} (r : Vals [x] us) : ∃ u, us = [u] ∧ RelV x u := by
  cases r with
  | cons r1 r2 => cases r2; exact ⟨_, rfl, r1⟩
theorem vals2 {x y : V} {us : List Value} (r : Vals [x, y] us) : ∃ u w', us = [u, w'] ∧ RelV x u ∧ RelV y w' := by
  cases r with
  | cons r1 r2 =>
    cases r2 with
    | cons r3 r4 => cases r4; exact ⟨_, _, rfl, r1, r3⟩
end
end L2
namespace L2
open PySem PySem.Spec PyProof.Rows
structure ObjM (h : Heap) (x dx C : Addr) (mA : Str → Option Value) : Prop where
  obj : h.get? x = some (PySem.W.instObj C dx)
  ns : h.Ns1 dx mA
  ne : dx ≠ x
theorem lookIn_ns {h : Heap} {dx : Addr} {mA : Str → Option Value} (n : h.Ns1 dx mA) : ∃ od, h.get? dx = some od ∧ ∀ name, PySem.W.lookIn name od = some (mA name) := by
  obtain ⟨o, es, ep, ho, hd, hk, _, hm⟩ := n
  refine ⟨o, ho, fun name => ?_⟩
  have e := hm name
  unfold nsFind findBy at e
  rw [← Array.find?_toList] at e
  unfold PySem.W.lookIn
  rw [hd]
  dsimp only
  split
  · rename_i y q
    rw [q] at e
    exact congrArg some e
  · rename_i q
    rw [q] at e
    have a : es.toList.any (·.refKey) = false := by
      rw [List.any_eq_false]
      intro y hy
      obtain ⟨z, t, hkey⟩ := hk y (Array.mem_toList_iff.mp hy)
      simp [DictEntry.refKey, hkey]
    have a' : ¬ es.toList.any (·.refKey) = true := by rw [a]; exact Bool.false_ne_true
    rw [if_neg a']
    exact congrArg some e
theorem ObjM.look {h : Heap} {x dx C : Addr} {mA : Str → Option Value} (I : ObjM h x dx C mA) : ∃ od, PySem.W.InstAt h x (PySem.W.instObj C dx) C (some od) ∧ ∀ name, PySem.W.lookIn name od = some (mA name) :=
  let ⟨od, ho, hl⟩ := lookIn_ns I.ns
  ⟨od, ⟨I.obj, rfl, rfl, ho⟩, hl⟩
section
variable {prog : Program} {w : World} {A : Around} {E : Value → Shared → Prop} {s : Shared} {K : PySem.W.Frag} {x dx C f : Addr} {mA : Str → Option Value} {name : Str} {v : Value}
end
section
variable {P : Program} {w : World} {H H' : Hp} {h h' : Heap} {a C dx : Addr} {fs fs' : List (Str × V)}
theorem ins_get (hok : HOk P w H h) (e : H a = some (.ins C dx fs)) : ∃ mA, ObjM h a dx C mA ∧ (∀ f, RelO (fs.lookup f) (mA f)) ∧ PySem.Within mA (fs.map (·.1)) ∧ fs.length ≤ 1000 ∧ H dx = some (.own a) := by
  obtain ⟨d, z, ne, ob, mA, n, r, q⟩ := (show ObjOk P w H h a (.ins C dx fs) from hok a _ e)
  exact ⟨mA, ⟨ob, n, ne⟩, r, q, z, d⟩
end
structure Cls (K : PySem.W.Frag) (C : Addr) : Prop where
  pg : PySem.W.plainGet K C Str.empty = true
  hd : PySem.W.hasDictIn K C = true
  po : PySem.W.plainOver K C = true
  sa : PySem.W.findIn K (.ref C) "__setattr__" = some (some (.builtin "object.__setattr__"))
theorem Cls.get {K : PySem.W.Frag} {C : Addr} (c : Cls K C) (f : Str) : PySem.W.plainGet K C f = true := c.pg
structure Con (K : PySem.W.Frag) (C : Addr) (f : Str) (v : V) (u : Value) : Prop where
  at_ : PySem.W.findIn K (.ref C) f = some (some u)
  rel : RelV v u
  get : PySem.W.specialIn K u "__get__" = some none
  cp : PySem.W.copiedNames.contains f = false
structure Meth (K : PySem.W.Frag) (C : Addr) (m : Str) (f : Addr) : Prop where
  at_ : PySem.W.findIn K (.ref C) m = some (some (.ref f))
  fn : PySem.W.isFn K (.ref f) = true
  kp : PySem.W.keepIn K (.ref f) = true
section
variable {X : Cx} {pins : List (Addr × Obj)} {σ : St} {H : Hp} {s : Shared} {a C dx : Addr} {fs : List (Str × V)} {f : Str} {v : V} {A : Around} {E : Value → Shared → Prop}
theorem Inv.made (I : Inv X pins σ H s) : Inv X pins σ (upd (upd H s.heap.objs.size (.own (s.heap.objs.size + 1))) (s.heap.objs.size + 1) (.ins C s.heap.objs.size []))
    { s with heap := (s.heap.push PySem.W.emptyDict).push (PySem.W.instObj C s.heap.objs.size) } := by
  have e1 : (s.heap.push PySem.W.emptyDict).get? s.heap.objs.size = some PySem.W.emptyDict := Heap.get?_push_size s.heap rfl
  have e2 : ((s.heap.push PySem.W.emptyDict).push (PySem.W.instObj C s.heap.objs.size)).get? (s.heap.objs.size + 1) = some (PySem.W.instObj C s.heap.objs.size) := by
    have := Heap.get?_push_size (s.heap.push PySem.W.emptyDict) (o := PySem.W.instObj C s.heap.objs.size) rfl
    rwa [Heap.size_push] at this
  have e3 : (s.heap.push PySem.W.emptyDict).Ns s.heap.objs.size (fun _ => none) := ⟨PySem.W.emptyDict, #[], _, e1, rfl, (fun e he => absurd he (by simp)), fun _ => rfl⟩
  have I1 := I.laid (a := s.heap.objs.size) (o := .own (s.heap.objs.size + 1)) (h' := s.heap.push PySem.W.emptyDict) (t' := s.toks) (fun b u q => Heap.get?_push_of_some _ q) (Nat.le_refl _) ⟨_, e1⟩
  refine I1.laid (a := s.heap.objs.size + 1) (o := .ins C s.heap.objs.size []) (t' := s.toks) (fun b u q => Heap.get?_push_of_some _ q) (Nat.le_of_eq (Heap.size_push _ _)) ?_
  have ne : s.heap.objs.size ≠ s.heap.objs.size + 1 := Nat.ne_of_lt (Nat.lt_succ_self _)
  refine ⟨by rw [upd_ne ne, upd_same], Nat.zero_le _, ne, e2, fun _ => none, (Heap.Ns1.of_empty e3).at fun o q => Heap.get?_push_of_some _ q, fun _ => True.intro, fun y hy => absurd rfl hy⟩
end
section
variable {X : Cx} {o e value : Expr} {f : Str} {pos pos' tpos : Pos} {ta tv : TE}
end
section
variable {X : Cx} {pins : List (Addr × Obj)} {σ : St} {H : Hp} {s : Shared} {A : Around} {E : Value → Shared → Prop} {Q : Value → Shared → Prop} {c : Value} {b : Bool}
inductive TyOf (K : PySem.W.Frag) (H : Hp) : V → Value → Prop where
  | non : TyOf K H .non (.type "NoneType")
  | bl (x : Bool) : TyOf K H (.bl x) (.type "bool")
  | int (i : Int) : TyOf K H (.int i) (.type "int")
  | str (x : Str) : TyOf K H (.str x) (.type "str")
  | flt (x : UInt64) : TyOf K H (.flt x) (.type "float")
  | lst {a : Addr} {xs : List V} (e : H a = some (.lst xs)) : TyOf K H (.ref a) (.type "list")
  | frz {a : Addr} {o : Obj} {xs : List V} (e : H a = some (.frz o (.lst xs))) : TyOf K H (.ref a) (.type "list")
  | tup {a : Addr} {xs : List V} (e : H a = some (.tup xs)) : TyOf K H (.ref a) (.type "tuple")
  | dK {a : Addr} {kvs : List (Key × V)} (e : H a = some (.dK kvs)) : TyOf K H (.ref a) (.type "dict")
  | dT {a : Addr} {kvs : List (List Key × V)} (e : H a = some (.dT kvs)) : TyOf K H (.ref a) (.type "dict")
  | ins {a C dx : Addr} {fs : List (Str × V)} (e : H a = some (.ins C dx fs)) (cl : Cls K C) (ha : PySem.W.findIn K (.ref C) "__class__" = some (some (.builtin "object.__class__")))
      (hn : PySem.W.specialIn K (.builtin "object.__class__") "__get__" = some (some (.builtin "getset_descriptor.__get__"))) (htk : PySem.W.takesIn K (.builtin "object.__class__") = some true)
      (hm : PySem.W.mroIn K C (.type "object") = some true) : TyOf K H (.ref a) (.ref C)
theorem isinst_ok {x : V} {u t : Value} (I : Inv X pins σ H s) (rx : RelV x u) (ty : TyOf X.K H x t) (e : PySem.W.kitOne X.K t c = some b) (h : ∀ tk, Q (.bool b) { s with toks := tk }) :
    wpAny (model X.prog X.w) A (call (.builtin "isinstance") [u, c]) Q E s := by
  cases ty with
  | non => cases (show u = Value.none from rx); exact PySem.W.kia_one PySem.W.kitx_none I.kIn True.intro e (fun z => nomatch z) h
  | bl y => cases (show u = Value.bool y from rx); exact PySem.W.kia_one PySem.W.kitx_bool I.kIn True.intro e (fun z => nomatch z) h
  | int i => obtain ⟨t, q⟩ := (show ∃ t, u = Value.int i t from rx); cases q; exact PySem.W.kia_one PySem.W.kitx_int I.kIn True.intro e (fun z => nomatch z) h
  | str y => obtain ⟨t, q⟩ := (show ∃ t, u = Value.str y t from rx); cases q; exact PySem.W.kia_one PySem.W.kitx_str I.kIn True.intro e (fun z => nomatch z) h
  | flt y => obtain ⟨t, q⟩ := (show ∃ t, u = Value.float y t from rx); cases q; exact PySem.W.kia_one PySem.W.kitx_float I.kIn True.intro e (fun z => nomatch z) h
  | @lst a xs ea =>
    cases (show u = Value.ref a from rx)
    obtain ⟨_, _, n, _, h1⟩ := (show ObjOk X.prog X.w H s.heap a (.lst xs) from I.hok a _ ea)
    exact PySem.W.kia_one PySem.W.kitx_list I.kIn ⟨_, h1, rfl⟩ e (fun z => nomatch z) h
  | @frz a ob xs ea =>
    cases (show u = Value.ref a from rx)
    obtain ⟨_, _, _, n, _, h1⟩ := (show ObjOk X.prog X.w H s.heap a (.frz ob (.lst xs)) from I.hok a _ ea)
    exact PySem.W.kia_one PySem.W.kitx_list I.kIn ⟨_, h1, rfl⟩ e (fun z => nomatch z) h
  | @tup a xs ea =>
    cases (show u = Value.ref a from rx)
    obtain ⟨_, _, _, p⟩ := (show ObjOk X.prog X.w H s.heap a (.tup xs) from I.hok a _ ea)
    obtain ⟨o, h1, h2, _⟩ := p
    exact PySem.W.kia_one PySem.W.kitx_tuple I.kIn ⟨o, h1, h2⟩ e (fun z => nomatch z) h
  | @dK a kvs ea =>
    cases (show u = Value.ref a from rx)
    obtain ⟨_, _, vs, _, p⟩ := (show ObjOk X.prog X.w H s.heap a (.dK kvs) from I.hok a _ ea)
    obtain ⟨o, es, ep, h1, h2, _⟩ := p
    exact PySem.W.kia_one PySem.W.kitx_dict I.kIn ⟨o, h1, h2.1⟩ e (fun z => nomatch z) h
  | @dT a kvs ea =>
    cases (show u = Value.ref a from rx)
    obtain ⟨_, _, xs, _, o, es, ep, h1, h2, _⟩ := (show ObjOk X.prog X.w H s.heap a (.dT kvs) from I.hok a _ ea)
    exact PySem.W.kia_one PySem.W.kitx_dict I.kIn ⟨o, h1, h2.1⟩ e (fun z => nomatch z) h
  | @ins a C dx fs ea cl ha hn htk hm =>
    cases (show u = Value.ref a from rx)
    obtain ⟨mA, O, _⟩ := ins_get I.hok ea
    obtain ⟨od, J, _⟩ := O.look
    exact PySem.W.kia_one (PySem.W.kitx_own (cl.get _) cl.hd ha hn htk hm) I.kIn J e (fun z => nomatch z) h
end
end L2
namespace L2
open PySem PySem.Spec PyProof.Rows
structure Room (k : Nat) (A : Around) : Prop where
  hd : A.handled = none
  dp : A.depth + 3 * k + 5 < recursionLimit
  un : A.units + 16 * k + 200 < cLine
theorem Room.mono {j k : Nat} {A : Around} (r : Room k A) (h : j ≤ k) : Room j A := ⟨r.hd, by have := r.dp; omega, by have := r.un; omega⟩
theorem Room.deeper {k : Nat} {A : Around} (r : Room (k + 1) A) (env : Env) : Room k (A.deeper env) :=
  ⟨r.hd, by have := r.dp; show A.depth + 1 + 3 * k + 5 < _; omega, by have := r.un; show A.units + 3 + 16 * k + 200 < _; omega⟩
theorem Room.in1 {k : Nat} {A : Around} (r : Room (k + 1) A) : Room k A.in1 :=
  ⟨r.hd, by have := r.dp; show A.depth + 3 * k + 5 < _; omega, by have := r.un; show A.units + 1 + 16 * k + 200 < _; omega⟩
theorem Room.depth {k : Nat} {A : Around} (r : Room k A) : A.depth < recursionLimit := by have := r.dp; omega
theorem Room.units {k : Nat} {A : Around} (r : Room k A) : A.units + 64 < cLine := by have := r.un; omega
def tNil : TA := fun _ H Q => Q [] H
def tCons (ta : TE) (tr : TA) : TA := fun σ H Q => ta σ H fun x H1 => tr σ H1 fun xs H2 => Q (x :: xs) H2
section
variable {X : Cx} {e : Expr} {es : List Expr} {te : TE} {t : TA} {pos : Pos}
theorem pa_nil : PA X [] tNil := fun _ _ _ _ H Q I h => Calls.spliced_nil ⟨[], H, I, .nil, h⟩
theorem pa_cons (ha : PE X e te) (hr : PA X es t) (hs : starEach (e :: es) X.env = (false, eval e X.env) :: starEach es X.env := by rfl) : PA X (e :: es) (tCons te t) := by
  intro pos pins s σ H Q I h
  rw [hs]
  show wpAny _ _ (spliced ((false, eval e X.env) :: backTo pos (starEach es X.env))) _ _ s
  refine Calls.spliced_cons (thn (ha pins s σ H _ I h) fun u s1 ⟨x, H1, I1, r1, q1⟩ => ?_)
  exact thn (hr pos pins s1 σ H1 _ I1 q1) fun us s2 ⟨xs, H2, I2, r2, q2⟩ => ⟨x :: xs, H2, I2, .cons r1 r2, q2⟩
def tTup (t : TA) : TE := fun σ H Q => t σ H fun xs H1 => xs.length ≤ sizeLine ∧ ∀ p, H1 p = none → Q (.ref p) (upd H1 p (.tup xs))
def tLst (t : TA) : TE := fun σ H Q => t σ H fun xs H1 => xs.length ≤ sizeLine ∧ ∀ p, H1 p = none → Q (.ref p) (upd H1 p (.lst xs))
theorem pe_tup {x1} (h : PA X es t) : PE X (.Tuple es x1 pos) (tTup t) := by
  intro pins s σ H Q I hq
  refine wpAny_Tuple_spliced (thn (h pos pins s σ H _ I hq) fun us s1 ⟨xs, H1, I1, r, z, q⟩ => ⟨by rw [← r.length]; exact z, ?_⟩)
  have hf : H1 s1.heap.objs.size = none := I1.hok.fresh (Nat.le_refl _)
  refine ⟨.ref s1.heap.objs.size, upd H1 s1.heap.objs.size (.tup xs), I1.laid (t' := s1.toks) (fun b u e => Heap.get?_push_of_some _ e) (Nat.le_refl _) ?_, rfl, q _ hf⟩
  exact ⟨z, us, r, ⟨_, Heap.get?_push_size _ rfl, rfl, _, rfl⟩⟩
theorem pe_lst (h : PA X es t) : PE X (.List es pos) (tLst t) := by
  intro pins s σ H Q I hq
  refine wpAny_List_spliced (thn (h pos pins s σ H _ I hq) fun us s1 ⟨xs, H1, I1, r, z, q⟩ => ⟨by rw [← r.length]; exact z, ?_⟩)
  have hf : H1 s1.heap.objs.size = none := I1.hok.fresh (Nat.le_refl _)
  refine ⟨.ref s1.heap.objs.size, upd H1 s1.heap.objs.size (.lst xs), I1.laid (t' := s1.toks) (fun b u e => Heap.get?_push_of_some _ e) (Nat.le_refl _) ?_, rfl, q _ hf⟩
  exact ⟨z, us, 0, r, Heap.get?_push_size _ rfl⟩
end
abbrev Sp := List V → Hp → VK → XK → Prop
abbrev CXT := List Env → Hp → Shared → XK → Value → Shared → Prop
structure Env0 (P : Program) (w : World) (K : PySem.W.Frag) (mg : Str → Option Value) (base : Heap) (A : Around) (outer : List Env) (s : Shared) (H : Hp) : Prop where
  frames : A.frames = some outer
  mod : Mod K mg base
  bs : ∀ b o, base.get? b = some o → s.heap.get? b = some o ∧ H b = none
  bsz : base.objs.size ≤ s.heap.objs.size
  funs : s.heap.FunFrames base outer
  frf : ∀ b ∈ frs outer, H b = none
  hok : HOk P w H s.heap
  bare : AllBare s.gens
def CE (outer : List Env) (P : Program) (w : World) (H : Hp) (s : Shared) (Q : VK) (u : Value) (s' : Shared) : Prop :=
  ∃ v H', s'.os = s.os ∧ AllBare s'.gens ∧ Un (frs outer) [] H H' s.heap s'.heap ∧ HOk P w H' s'.heap ∧ RelV v u ∧ Q v H'
def CR (CX : CXT) (outer : List Env) (P : Program) (w : World) (H : Hp) (s : Shared) (Q : VK) (E : XK) (r : Result) (s' : Shared) : Prop :=
  match r with
  | .ok (.ret u) => CE outer P w H s Q u s'
  | .ok _ => False
  | .error e => CX outer H s E e s'
structure FnOk (P : Program) (w : World) (K : PySem.W.Frag) (mg : Str → Option Value) (base : Heap) (CX : CXT) (k : Nat) (f : Addr) (fd : FuncData) (ps : List Str) (sp : Sp) : Prop where
  len : ∀ vs H Q E, sp vs H Q E → vs.length = ps.length
  run : ∀ (A : Around) (outer : List Env) (s : Shared) (H : Hp) (args : Args) (us : List Value) (vs : List V) (Q : VK) (E : XK), Room k A → Env0 P w K mg base A outer s H → BindsTo s fd args (ps.zip us) → Vals vs us → sp vs H Q E →
    codeAny (model P w) A (.call (.ref f) args) (CR CX outer P w H s Q E) s
theorem FnOk.mono {P : Program} {w : World} {K : PySem.W.Frag} {mg : Str → Option Value} {base : Heap} {CX : CXT} {j k : Nat} {f : Addr} {fd : FuncData} {ps : List Str} {sp : Sp} (F : FnOk P w K mg base CX j f fd ps sp) (h : j ≤ k) :
    FnOk P w K mg base CX k f fd ps sp := ⟨F.len, fun A outer s H args us vs Q E hr => F.run A outer s H args us vs Q E (hr.mono h)⟩
theorem FnOk.imp {P : Program} {w : World} {K : PySem.W.Frag} {mg : Str → Option Value} {base : Heap} {CX : CXT} {k : Nat} {f : Addr} {fd : FuncData} {ps : List Str} {sp sp' : Sp} (F : FnOk P w K mg base CX k f fd ps sp)
    (h : ∀ vs H Q E, sp' vs H Q E → sp vs H Q E) : FnOk P w K mg base CX k f fd ps sp' :=
  ⟨fun vs H Q E q => F.len vs H Q E (h _ _ _ _ q), fun A outer s H args us vs Q E hr he hb hv hs => F.run A outer s H args us vs Q E hr he hb hv (h _ _ _ _ hs)⟩
theorem Env0.in1 {P : Program} {w : World} {K : PySem.W.Frag} {mg : Str → Option Value} {base : Heap} {A : Around} {outer : List Env} {s : Shared} {H : Hp} (e : Env0 P w K mg base A outer s H) :
    Env0 P w K mg base A.in1 outer s H := ⟨e.frames, e.mod, e.bs, e.bsz, e.funs, e.frf, e.hok, e.bare⟩
section
variable {X : Cx} {pins : List (Addr × Obj)} {σ : St} {H : Hp} {s s' : Shared}
theorem Inv.env0 (I : Inv X pins σ H s) : Env0 X.prog X.w X.K X.mg X.base X.A X.stack s H :=
  ⟨I.ok.frames, I.ok.mod, I.bs, Nat.le_trans I.ok.bsz I.sz, I.stack, I.stkFree, I.hok, I.bare⟩
theorem Inv.after {Q : VK} {u : Value} (I : Inv X pins σ H s) (h : CE X.stack X.prog X.w H s Q u s') : EP X pins σ Q u s' := by
  obtain ⟨v, H', os, bare, un, hok, r, q⟩ := h
  obtain ⟨hh, g, d, t, os'⟩ := s'
  obtain rfl : os' = s.os := os
  exact ⟨v, H', I.call (h' := hh) (g' := g) (d' := d) (t' := t) (ch := []) un hok bare (fun b z => absurd z (by simp)), r, q⟩
end
def tCall (sp : Sp) (dvs : List V) (E : XK) (t : TA) : TE := fun σ H Q => t σ H fun vs H1 => sp (vs ++ dvs) H1 Q E
def Binds (K : PySem.W.Frag) (fd : FuncData) (ps : List Str) (ds : List Value) : Prop :=
  ∀ (s : Shared) (us : List Value), K.In s.heap → (us ++ ds).length = ps.length → BindsTo s fd ⟨us, []⟩ (ps.zip (us ++ ds))
theorem Binds.all {K : PySem.W.Frag} {fd : FuncData} {ps : List Str} (h : ∀ us : List Value, us.length = ps.length → bindArgs fd ⟨us, []⟩ = pure (ps.zip us)) : Binds K fd ps [] := fun s us _ hl => by
  rw [List.append_nil] at hl ⊢
  exact .of_eq (h us hl)
def Passes (CX : CXT) (X : Cx) (E : XK) : Prop := ∀ (pins : List (Addr × Obj)) (σ : St) (H : Hp) (s : Shared) (e : Value) (s' : Shared), Inv X pins σ H s → CX X.stack H s E e s' → X.xe e s'
section
variable {X : Cx} {CX : CXT} {k : Nat} {f C : Addr} {fd : FuncData} {ps : List Str} {sp : Sp} {dvs : List V} {ds : List Value} {E : XK} {x m : Str} {p pos apos : Pos} {e o : Expr} {es : List Expr} {ta : TE} {t : TA}
theorem run_fn {pins : List (Addr × Obj)} {σ : St} {H : Hp} {s : Shared} {Q : VK} {us : List Value} {vs : List V} (F : FnOk X.prog X.w X.K X.mg X.base CX k f fd ps sp) (hr : Room k X.A) (hb : Binds X.K fd ps ds) (hd : Vals dvs ds) (hx : Passes CX X E)
    (I : Inv X pins σ H s) (r : Vals vs us) (h : sp (vs ++ dvs) H Q E) : wpAny (model X.prog X.w) X.A (call (.ref f) us) (EP X pins σ Q) X.xe s := by
  have r2 : Vals (vs ++ dvs) (us ++ ds) := r.append hd
  have hl : (us ++ ds).length = ps.length := by rw [← r2.length]; exact F.len _ _ _ _ h
  refine wpAny_call (codeAny_mono (F.run X.A X.stack s H ⟨us, []⟩ (us ++ ds) (vs ++ dvs) Q E hr I.env0 (hb s us I.kIn hl) r2 h) fun r s' hq => ?_)
  cases r with
  | error e => exact hx pins σ H s e s' I hq
  | ok fl =>
    cases fl with
    | ret u => exact I.after hq
    | next => exact False.elim hq
    | brk => exact False.elim hq
    | cont => exact False.elim hq
theorem pe_call (F : FnOk X.prog X.w X.K X.mg X.base CX k f fd ps sp) (hr : Room k X.A) (hg : Gl X x) (hm : X.mg x = some (.ref f)) (hk : PySem.W.keepIn X.K (.ref f) = true) (hb : Binds X.K fd ps ds) (hd : Vals dvs ds) (hx : Passes CX X E)
    (ha : PA X (e :: es) t) (hdb : (x == ("__debug__" : Str)) = false := by decide) (he : starEach (e :: es) X.env = (false, eval e X.env) :: starEach es X.env := by rfl) (hpl : (backTo pos (starEach es X.env)).any (·.1) = false := by rfl) :
    PE X (.Call (.Name x p) (e :: es) [] pos) (tCall sp dvs E t) := by
  intro pins s σ H Q I h
  refine wpAny_Call_Name_kw (ld_glob I hg hm ?_ hdb)
  refine PySem.W.callWith_K (h₀ := X.base) I.ok.mod.kin hk (thn (ha pos pins s σ H _ I h) fun us s1 ⟨vs, H1, I1, r, q⟩ => ⟨I1.kIn, ?_⟩) he hpl
  exact run_fn F hr hb hd hx I1 r q
structure Mk (K : PySem.W.Frag) (C f : Addr) : Prop where
  makes : PySem.W.makesIn K C = true
  init : PySem.W.findIn K (.ref C) "__init__" = some (some (.ref f))
  fn : PySem.W.isFn K (.ref f) = true
  kp : PySem.W.keepIn K (.ref C) = true
end
section
variable {X : Cx} {CX : CXT} {k : Nat} {f C : Addr} {fd : FuncData} {ps ks : List Str} {sp : Sp} {E : XK} {x m : Str} {p pos apos kpos : Pos} {e o : Expr} {es : List Expr} {kws : List Keyword} {te ta : TE} {t tk : TA} {nm : Option Str}
structure KBinds (K : PySem.W.Frag) (fd : FuncData) (ps ks : List Str) (g : List Value → List Value → List Value) (gV : List V → List V → List V) : Prop where
  to : ∀ (s : Shared) (us ws : List Value), K.In s.heap → (g us ws).length = ps.length → BindsTo s fd ⟨us, ks.zip ws⟩ (ps.zip (g us ws))
  rel : ∀ {vs : List V} {us : List Value} {zs : List V} {ws : List Value}, Vals vs us → Vals zs ws → Vals (gV vs zs) (g us ws)
variable {g : List Value → List Value → List Value} {gV : List V → List V → List V}
end
structure FnScope (N P : List Str) (sc : Scope) : Prop where
  kind : sc.kind = .function
  co : sc.isCoroutine = false
  gen : sc.isGenerator = false
  nd : N.Nodup
  pre : N.take P.length = P
  par : ∀ x ∈ P, sc.names.lookup x = some .local ∨ sc.names.lookup x = some .cell
  nofree : ∀ y ∈ sc.names, y.2 ≠ .free
theorem bindL_out {kindOf : Str → Option NameKind} {x : Str} : ∀ {binds : List (Str × Value)} {m : Str → Option Value}, (∀ v, (x, v) ∉ binds) → bindL kindOf binds m x = m x
  | [], _, _ => rfl
  | (n, v) :: r, m, h => by
    unfold bindL
    rw [bindL_out fun w hw => h w (List.mem_cons_of_mem _ hw)]
    split
    · have : x ≠ n := by rintro rfl; exact h v List.mem_cons_self
      simp [this]
    · rfl
theorem bindC_out {kindOf : Str → Option NameKind} {x : Str} : ∀ {binds : List (Str × Value)} {m : Str → Option Value}, (∀ v, (x, v) ∉ binds) → bindC kindOf binds m x = m x
  | [], _, _ => rfl
  | (n, v) :: r, m, h => by
    unfold bindC
    rw [bindC_out fun w hw => h w (List.mem_cons_of_mem _ hw)]
    split
    · rfl
    · have : x ≠ n := by rintro rfl; exact h v List.mem_cons_self
      simp [this]
theorem bindL_get {kindOf : Str → Option NameKind} {x : Str} {v : Value} : ∀ {P : List Str} {vs : List Value} {i : Nat} {m : Str → Option Value}, P.Nodup → P[i]? = some x → vs[i]? = some v → kindOf x = some .local →
    bindL kindOf (P.zip vs) m x = some v
  | [], _, _, _, _, h, _, _ => by simp at h
  | _ :: _, [], _, _, _, _, h, _ => by simp at h
  | p :: P, w :: vs, 0, m, nd, h1, h2, hk => by
    simp at h1 h2; subst h1; subst h2
    show bindL kindOf ((p, w) :: P.zip vs) m p = _
    unfold bindL
    rw [bindL_out fun v hv => (List.nodup_cons.mp nd).1 (List.of_mem_zip hv).1, if_pos hk]
    simp
  | p :: P, w :: vs, i + 1, m, nd, h1, h2, hk => by
    show bindL kindOf ((p, w) :: P.zip vs) m x = _
    unfold bindL
    exact bindL_get (i := i) (List.nodup_cons.mp nd).2 (by simpa using h1) (by simpa using h2) hk
theorem bindC_get {kindOf : Str → Option NameKind} {x : Str} {v : Value} : ∀ {P : List Str} {vs : List Value} {i : Nat} {m : Str → Option Value}, P.Nodup → P[i]? = some x → vs[i]? = some v → kindOf x ≠ some .local →
    bindC kindOf (P.zip vs) m x = some v
  | [], _, _, _, _, h, _, _ => by simp at h
  | _ :: _, [], _, _, _, _, h, _ => by simp at h
  | p :: P, w :: vs, 0, m, nd, h1, h2, hk => by
    simp at h1 h2; subst h1; subst h2
    show bindC kindOf ((p, w) :: P.zip vs) m p = _
    unfold bindC
    rw [bindC_out fun v hv => (List.nodup_cons.mp nd).1 (List.of_mem_zip hv).1, if_neg hk]
    simp
  | p :: P, w :: vs, i + 1, m, nd, h1, h2, hk => by
    show bindC kindOf ((p, w) :: P.zip vs) m x = _
    unfold bindC
    exact bindC_get (i := i) (List.nodup_cons.mp nd).2 (by simpa using h1) (by simpa using h2) hk
def start (N : List Str) (vs : List V) : St := vs.map some ++ List.replicate (N.length - vs.length) none
def cxOf (CX : CXT) (P : Program) (w : World) (K : PySem.W.Frag) (mg : Str → Option Value) (base : Heap) (N : List Str) (qual : Str) (scope : Scope) (f : Addr) (cd : Value) (A : Around) (outer : List Env) (s : Shared) (H : Hp) (E : XK) : Cx where
  prog := P
  w := w
  K := K
  mg := mg
  base := base
  A := A.deeper (envOfC qual scope s.heap.objs.size f cd)
  N := N
  s₀ := s
  H₀ := H
  env := envOfC qual scope s.heap.objs.size f cd
  outer := outer
  stack := envOfC qual scope s.heap.objs.size f cd :: outer
  ex := []
  calm := true
  fn := fun _ => true
  pn := []
  xe := fun e s' => wpAny (model P w) (A.deeper (envOfC qual scope s.heap.objs.size f cd)) (leaving (envOfC qual scope s.heap.objs.size f cd) e) (fun _ s'' => CX outer H s E e s'') (fun e' s'' => CX outer H s E e' s'') s'
theorem cell_has {sc : Scope} {n : Nat} {x : Str} (h : sc.names.lookup x = some .cell) : ∃ c, (cellsFrom n sc.names []).lookup x = some c := by
  have q := PySem.W.cellsFrom_some sc.names n [] (.inl h)
  exact Option.isSome_iff_exists.mp q
theorem inv_start {CX : CXT} {P : Program} {w : World} {K : PySem.W.Frag} {mg : Str → Option Value} {base : Heap} {N ps : List Str} {qual : Str} {scope : Scope} {f : Addr} {cd : Value} {A : Around} {outer : List Env} {s s1 : Shared} {H : Hp} {E : XK} {us : List Value} {vs : List V}
    (S : FnScope N ps scope) (hd : A.handled = none) (e0 : Env0 P w K mg base A outer s H) (hl : vs.length = ps.length) (r : Vals vs us)
    (x : InCallC s s.heap.objs.size (bindL (envOfC qual scope s.heap.objs.size f cd).kindOf (ps.zip us) fun _ => none) (cellsFrom (s.heap.objs.size + 1) scope.names []) (bindC (envOfC qual scope s.heap.objs.size f cd).kindOf (ps.zip us) fun _ => none) s1) :
    Inv (cxOf CX P w K mg base N qual scope f cd A outer s H E) [] (start N vs) H s1 := by
  have hpl : ps.length ≤ N.length := by have := congrArg List.length S.pre; rw [List.length_take] at this; omega
  obtain ⟨h1, tk, rfl, hk⟩ := x.done
  have noA : ∀ b : Addr, b ∉ (cxOf CX P w K mg base N qual scope f cd A outer s H E).ex := fun b z => absurd (show b ∈ ([] : List Addr) from z) (by simp)
  refine ⟨⟨e0.mod, S.kind, rfl, rfl, Nat.le_refl _, fun y z c h1 h2 => ?_, fun y hy => ?_, fun y c _ h => ?_, fun _ => hd, Around.frames_deeper e0.frames, .inr ⟨rfl, rfl⟩, fun b z => absurd z (noA b), e0.bs, e0.bsz, fun b _ _ => noA b, fun b z => absurd z (noA b), e0.funs, e0.frf⟩,
    rfl, e0.bare, Un.kept hk, ⟨_, x.toInCall.ns, fun i y v h1 h2 h3 => ?_⟩, fun y c h => ⟨_, x.cell y c h⟩, e0.hok.fresh (Nat.le_refl _), fun y c h => ?_, fun p hp => absurd (show p ∈ ([] : List (Addr × Obj)) from hp) (by simp), e0.hok.kept hk, ?_⟩
  · exact name_of_addr x.apart (PySem.mem_of_lookup h1) (PySem.mem_of_lookup h2)
  · have hy : scope.names.lookup y = some .cell ∨ scope.names.lookup y = some .free := hy
    rcases hy with hy | hy
    · exact cell_has hy
    · exact absurd rfl (S.nofree _ (PySem.mem_of_lookup hy))
  · exact Nat.le_of_lt (x.above y c (PySem.mem_of_lookup h))
  · have hi : i < vs.length := by
      unfold start at h2
      by_cases hi : i < vs.length
      · exact hi
      · rw [List.getElem?_append_right (by simpa using hi)] at h2
        rw [List.getElem?_replicate] at h2
        split at h2 <;> cases h2
    have ha : vs[i]? = some v := by
      unfold start at h2
      rw [List.getElem?_append_left (by simpa using hi), List.getElem?_map] at h2
      cases e : vs[i]? with
      | none => rw [e] at h2; cases h2
      | some a => rw [e] at h2; cases h2; rfl
    obtain ⟨u, hu, rv⟩ := r.get ha
    have hp : ps[i]? = some y := by
      rw [← S.pre, List.getElem?_take_of_lt (by omega)]; exact h1
    have ndP : ps.Nodup := by rw [← S.pre]; exact S.nd.sublist (List.take_sublist _ _)
    refine ⟨u, rv, ?_⟩
    rcases S.par y (List.mem_of_getElem? hp) with k | k
    · exact .inl ⟨k, bindL_get ndP hp hu k⟩
    · obtain ⟨c, e⟩ := cell_has (n := s.heap.objs.size + 1) k
      refine .inr ⟨.inl k, c, e, ?_⟩
      have q := x.cell y c e
      rw [bindC_get ndP hp hu (by show scope.names.lookup y ≠ _; rw [k]; decide)] at q
      exact q
  · exact e0.hok.fresh (Nat.le_of_lt (x.above y c (PySem.mem_of_lookup h)))
  · unfold start
    show _ = N.length
    rw [List.length_append, List.length_map, List.length_replicate]
    omega
theorem fn_of {CX : CXT} {P : Program} {w : World} {K : PySem.W.Frag} {mg : Str → Option Value} {base : Heap} {k : Nat} {f : Addr} {name qual : Str} {params : Arguments} {body : List Stmt} {scope : Scope} {dV kV doc pm cdv ct oc : Value} {an od : Option Addr}
    {osl : Array (Option Value)} {N ps : List Str} {sp : Sp} (lk : K.lookup f = some ⟨oc, od, .func (PySem.W.fnOf name qual params body scope dV kV doc pm an cdv ct), osl⟩) (hcd : PySem.W.codeIn K cdv qual = true) (S : FnScope N ps scope)
    (len : ∀ vs H Q E, sp vs H Q E → vs.length = ps.length)
    (hbody : ∀ (A : Around) (outer : List Env) (s : Shared) (H : Hp) (vs : List V) (Q : VK) (E : XK), Room k (A.deeper (envOfC qual scope s.heap.objs.size f cdv)) → sp vs H Q E →
      ∃ t, PSs (cxOf CX P w K mg base N qual scope f cdv A outer s H E) body t ∧ t { nx := fun _ H' => Q .non H', rt := Q } (start N vs) H) :
    FnOk P w K mg base CX (k + 1) f (PySem.W.fnOf name qual params body scope dV kV doc pm an cdv ct) ps sp := by
  refine ⟨len, fun A outer s H args us vs Q E hr e0 hb r hsp => ?_⟩
  have hl := len _ _ _ _ hsp
  have KX : K.In s.heap := e0.mod.kin.keeps fun b o e => (e0.bs b o e).1
  have lim : s.heap.NoLimit := e0.mod.nolimit.keeps fun b o e => (e0.bs b o e).1
  have hkind : ∀ y ∈ ps.zip us, scope.names.lookup y.1 = some .local ∨ (scope.names.lookup y.1 = some .cell ∧ ((cellsFrom (s.heap.objs.size + 1) scope.names []).lookup y.1).isSome = true) := fun ⟨n, v⟩ hy => by
    rcases S.par n (List.of_mem_zip hy).1 with q | q
    · exact .inl q
    · exact .inr ⟨q, PySem.W.cellsFrom_some _ _ _ (.inl q)⟩
  refine codeAny_call_function hr.depth (KX _ _ lk) rfl S.co S.gen rfl (PySem.W.codeRec_of KX hcd) (hb _ _ _ _ ?_)
  refine wpAny_newFunctionEnv_cells S.kind hkind fun env he s1 x => ?_
  subst he
  refine ⟨lim.keeps x.toInCall.keep, codeAny_func ?_⟩
  obtain ⟨t, ht, hq⟩ := hbody A outer s H vs Q E (hr.deeper _) hsp
  have I : Inv (cxOf CX P w K mg base N qual scope f cdv A outer s H E) [] (start N vs) H s1 := inv_start S hr.hd e0 hl r x
  refine wpAny_mono (ht [] s1 (start N vs) H _ I hq) (fun fl s' hs => ?_) fun e s' hs => hs
  have fin : ∀ {σ' : St} {H' : Hp} {v : V} {u : Value}, Inv (cxOf CX P w K mg base N qual scope f cdv A outer s H E) [] σ' H' s' → RelV v u → Q v H' → CE outer P w H s Q u s' :=
    fun {σ' H' v u} J rv q => ⟨v, H', J.os, J.bare, J.base, J.hok, rv, q⟩
  cases fl with
  | ret u =>
    obtain ⟨v, σ', H', J, rv, q⟩ := hs
    exact fin J rv q
  | next =>
    obtain ⟨σ', H', J, q⟩ := hs
    exact fin (v := V.non) (u := Value.none) J rfl q
  | brk =>
    obtain ⟨_, _, _, q⟩ := hs
    exact False.elim q
  | cont =>
    obtain ⟨_, _, _, q⟩ := hs
    exact False.elim q
end L2
namespace L2
open PySem PySem.Spec PyProof.Rows
section
variable {X : Cx} {x : Str} {p pos : Pos} {e : Expr} {es : List Expr} {t : TA} {id T : String} {r : List V → Hp → VK → Prop}
def tCB (r : List V → Hp → VK → Prop) (t : TA) : TE := fun σ H Q => t σ H fun vs H1 => r vs H1 Q
theorem pe_callB (hc : CallR X (.builtin id) r) (hg : Gl X x) (hm : X.mg x = none) (hv : bootBuiltins x = some (.builtin id)) (ha : PA X (e :: es) t) (hn : x ≠ "__name__" := by decide) (hdb : (x == ("__debug__" : Str)) = false := by decide)
    (he : starEach (e :: es) X.env = (false, eval e X.env) :: starEach es X.env := by rfl) (hpl : (backTo pos (starEach es X.env)).any (·.1) = false := by rfl) : PE X (.Call (.Name x p) (e :: es) [] pos) (tCB r t) := by
  intro pins s σ H Q I h
  refine wpAny_Call_Name_kw (ld_blt I hg hm hv ?_ hn hdb)
  exact PyProof.Rows.callWith_builtin1 (thn (ha pos pins s σ H _ I h) fun us s1 ⟨vs, H1, I1, r1, q1⟩ => hc pins s1 σ H1 vs us Q I1 r1 q1) he hpl
theorem pe_callTy (hc : CallR X (.type T) r) (hg : Gl X x) (hm : X.mg x = none) (hv : bootBuiltins x = some (.type T)) (ha : PA X (e :: es) t) (hn : x ≠ "__name__" := by decide) (hdb : (x == ("__debug__" : Str)) = false := by decide)
    (he : starEach (e :: es) X.env = (false, eval e X.env) :: starEach es X.env := by rfl) (hpl : (backTo pos (starEach es X.env)).any (·.1) = false := by rfl) : PE X (.Call (.Name x p) (e :: es) [] pos) (tCB r t) := by
  intro pins s σ H Q I h
  refine wpAny_Call_Name_kw (ld_blt I hg hm hv ?_ hn hdb)
  exact PyProof.Rows.callWith_type1 (thn (ha pos pins s σ H _ I h) fun us s1 ⟨vs, H1, I1, r1, q1⟩ => hc pins s1 σ H1 vs us Q I1 r1 q1) he hpl
end
end L2
namespace HT
open PySem PyProof.Rows
section
open PySem.SeqAt
open PySem.AutoSeq1 (wpAny_loadPart')
open PySem.MeetsSeq PySem.MeetsSeq2 PySem.MeetsSeq3
end
section
variable {prog : Program} {w : World} {A : Around} {E : Value → Shared → Prop} {s : Shared}
def sIx (n d : Nat) : Option Int → Nat
  | none => d
  | some v => if v < 0 then (v + (n : Int)).toNat else min v.toNat n
theorem sIx_none (n d : Nat) : sIx n d none = d := rfl
theorem sIx_nat (n d k : Nat) : sIx n d (some (k : Int)) = min k n := by
  show (if (k : Int) < 0 then ((k : Int) + (n : Int)).toNat else min (k : Int).toNat n) = min k n
  rw [if_neg (by omega), Int.toNat_natCast]
end
end HT
namespace L2
open PySem PySem.Spec PyProof.Rows
abbrev TO := St → Hp → (Option Int → Hp → Prop) → Prop
def PO (X : Cx) (e : Option Expr) (t : TO) : Prop :=
  ∀ (pins : List (Addr × Obj)) (s : Shared) (σ : St) (H : Hp) (Q : Option Int → Hp → Prop), Inv X pins σ H s → t σ H Q →
    wpAny (model X.prog X.w) X.A (evalPart e X.env) (fun u s' => ∃ o H', Inv X pins σ H' s' ∧ IsPart u o ∧ Q o H') X.xe s
def tNoPart : TO := fun _ H Q => Q none H
def tPart (t : TE) : TO := fun σ H Q => t σ H fun x H1 => ∃ i, x = .int i ∧ Q (some i) H1
theorem intsAre_of {ns : List Int} : ∀ {us : List Value}, Vals (ns.map V.int) us → IntsAre us ns := by
  induction ns with
  | nil => intro us r; rw [List.map_nil] at r; cases r; exact .nil
  | cons n ns ih =>
    intro us r
    rw [List.map_cons] at r
    cases r with
    | cons r1 r2 =>
      obtain ⟨t, e⟩ := r1
      subst e
      exact .cons n t (ih r2)
section
variable {X : Cx} {e : Expr} {te : TE} {lo hi : Option Expr} {tl th : TO} {pos p2 : Pos}
theorem po_none : PO X none tNoPart := by
  intro pins s σ H Q I h
  rw [evalPart_none]
  exact wpAny_pure ⟨none, H, I, .none, h⟩
theorem po_some (h : PE X e te) : PO X (some e) (tPart te) := by
  intro pins s σ H Q I hw
  rw [evalPart_some]
  refine thn (h pins s σ H _ I hw) fun u s1 ⟨x, H1, I1, r1, q1⟩ => ?_
  obtain ⟨i, rfl, q⟩ := q1
  obtain ⟨t, rfl⟩ := r1
  exact ⟨some i, H1, I1, .int i t, q⟩
def SlR (X : Cx) (r : V → Option Int → Option Int → Hp → VK → Prop) : Prop :=
  ∀ (pins : List (Addr × Obj)) (s : Shared) (σ : St) (H : Hp) (x : V) (v vl vu : Value) (lo hi : Option Int) (sl : Addr) (Q : VK), Inv X pins σ H s → RelV x v → s.heap.IsSliceOf sl vl vu .none → IsPart vl lo → IsPart vu hi → r x lo hi H Q →
    ∃ T id, typeLookup (.type T) "__getitem__" = pure (some (.builtin id)) ∧ s.TypeIs v T ∧ wpAny (model X.prog X.w) X.A (getItem v (.ref sl)) (EP X pins σ Q) X.xe s
def tSl (r : V → Option Int → Option Int → Hp → VK → Prop) (te : TE) (tl th : TO) : TE := fun σ H Q => te σ H fun x H1 => tl σ H1 fun l H2 => th σ H2 fun u H3 => r x l u H3 Q
theorem pe_slice {r : V → Option Int → Option Int → Hp → VK → Prop} (hr : SlR X r) (he : PE X e te) (hl : PO X lo tl) (hu : PO X hi th) : PE X (.Subscript e (.Slice lo hi none p2) pos) (tSl r te tl th) := by
  intro pins s σ H Q I h
  refine Subscript_ (thn (he pins s σ H _ I h) fun v s1 ⟨x, H1, I1, r1, q1⟩ => ?_)
  refine wpAny_Slice (thn (hl pins s1 σ H1 _ I1 q1) fun vl s2 ⟨l, H2, I2, pl, q2⟩ => thn (hu pins s2 σ H2 _ I2 q2) fun vu s3 ⟨u, H3, I3, pu, q3⟩ => ?_)
  rw [evalPart_none]
  refine wpAny_pure ?_
  have I4 : Inv X pins σ H3 { s3 with heap := s3.heap.push { cls := .type "slice", data := .fields #[vl, vu, .none] } } := I3.kept (t' := s3.toks) fun b ob q => Heap.get?_push_of_some _ q
  obtain ⟨T, id, hT, ht, hg⟩ := hr pins { s3 with heap := s3.heap.push { cls := .type "slice", data := .fields #[vl, vu, .none] } } σ H3 x v vl vu l u s3.heap.objs.size Q I4 r1 (Heap.IsSliceOf.new ..) pl pu q3
  show wpAny (model X.prog X.w) X.A (subscriptTail e (.Slice lo hi none p2) v (.ref s3.heap.objs.size)) (EP X pins σ Q) X.xe { s3 with heap := s3.heap.push { cls := .type "slice", data := .fields #[vl, vu, .none] } }
  exact tail_any (ops := [.ref s3.heap.objs.size, v]) ht hT hg (by with_unfolding_all rfl)
def cutV (xs : List V) (lo hi : Option Int) : List V := (xs.drop (HT.sIx xs.length 0 lo)).take (HT.sIx xs.length xs.length hi - HT.sIx xs.length 0 lo)
theorem cutV_length (xs : List V) (lo hi : Option Int) : (cutV xs lo hi).length ≤ xs.length := by
  unfold cutV
  rw [List.length_take, List.length_drop]
  omega
end
end L2
namespace L2
open PySem PySem.Spec PyProof.Rows
def ixN (n : Nat) (i : Int) : Option Nat := if 0 ≤ i then (if i < n then some i.toNat else none) else if -(n : Int) ≤ i then some (i + n).toNat else none
def atI {α : Type} (xs : List α) (i : Int) : Option α := (ixN xs.length i).bind fun j => xs[j]?
theorem ixN_seq {n : Nat} {i : Int} {j : Nat} (h : ixN n i = some j) : seqIndex? i n = some j ∧ j < n ∧ -(n : Int) ≤ i ∧ i < n := by
  unfold ixN at h
  by_cases h0 : 0 ≤ i
  · rw [if_pos h0] at h
    by_cases h1 : i < n
    · rw [if_pos h1] at h
      have e : i.toNat = j := Option.some.inj h
      exact ⟨by rw [seqIndex_of h0 h1, e], by omega, by omega, h1⟩
    · rw [if_neg h1] at h; cases h
  · rw [if_neg h0] at h
    by_cases h1 : -(n : Int) ≤ i
    · rw [if_pos h1] at h
      have e : (i + n).toNat = j := Option.some.inj h
      exact ⟨by rw [seqIndex_neg (by omega) h1, e], by omega, h1, by omega⟩
    · rw [if_neg h1] at h; cases h
theorem atI_get {α : Type} {xs : List α} {i : Int} {v : α} (h : atI xs i = some v) : ∃ j, seqIndex? i xs.length = some j ∧ xs[j]? = some v ∧ j < xs.length ∧ -(xs.length : Int) ≤ i ∧ i < xs.length := by
  unfold atI at h
  cases e : ixN xs.length i with
  | none => rw [e] at h; cases h
  | some j =>
    rw [e] at h
    obtain ⟨h1, h2, h3, h4⟩ := ixN_seq e
    exact ⟨j, h1, h, h2, h3, h4⟩
theorem atI_nat {α : Type} {xs : List α} {j : Nat} {v : α} (h : xs[j]? = some v) : atI xs (j : Int) = some v := by
  have hj : j < xs.length := (List.getElem?_eq_some_iff.mp h).1
  have e : ixN xs.length (j : Int) = some j := by
    unfold ixN
    rw [if_pos (by omega), if_pos (by omega)]; simp
  unfold atI; rw [e]; exact h
def PlainIx (b : Expr) : Prop := ∀ o i, subscripted b false o i = operate [o, i] (getItem o i)
def IxR (X : Cx) (r : R2) : Prop :=
  ∀ (value slice : Expr) (pins : List (Addr × Obj)) (s : Shared) (σ : St) (H : Hp) (x y : V) (v u : Value) (Q : VK), Inv X pins σ H s → RelV x v → RelV y u → r x y H Q →
    subscripted slice false v u = operate [v, u] (getItem v u) → wpAny (model X.prog X.w) X.A (subscriptTail value slice v u) (EP X pins σ Q) X.xe s
def MtR (X : Cx) (id : String) (r : V → List V → Hp → VK → Prop) : Prop :=
  ∀ (pins : List (Addr × Obj)) (s : Shared) (σ : St) (H : Hp) (x : V) (xs : List V) (v : Value) (us : List Value) (Q : VK), Inv X pins σ H s → RelV x v → Vals xs us → r x xs H Q →
    wpAny (model X.prog X.w) X.A (call (.builtin id) (v :: us)) (EP X pins σ Q) X.xe s
section
variable {X : Cx} {a b : Expr} {ta tb : TE} {pos : Pos}
theorem pe_ix {r : R2} (hr : IxR X r) (ha : PE X a ta) (hb : PE X b tb) (hs : PlainIx b) : PE X (.Subscript a b pos) (tOp r ta tb) := by
  intro pins s σ H Q I h
  exact Subscript_ (binT ha hb I h fun v u s2 x y H2 I2 rx ry q => hr a b pins s2 σ H2 x y v u Q I2 rx ry q (hs _ _))
def rIxL (K : PySem.W.Frag) : R2 := fun x y H Q => ∃ p xs i v, x = .ref p ∧ y = .int i ∧ SqL K H p xs ∧ atI xs i = some v ∧ Q v H
theorem ix_list : IxR X (rIxL X.K) := by
  intro value slice pins s σ H x y v u Q I rx ry h hs
  obtain ⟨p, xs, i, z, rfl, rfl, hq, he, q⟩ := h
  cases rx
  obtain ⟨t, rfl⟩ := ry
  obtain ⟨its, r, pl, hz⟩ := I.list hq
  obtain ⟨j, h1, h2, h3, h4, h5⟩ := atI_get he
  obtain ⟨w, ew, rw'⟩ := r.get h2
  have hl := r.length
  have hn := line63
  have fin : EP X pins σ Q w s := ⟨z, H, I, rw', q⟩
  by_cases h0 : 0 ≤ i
  · have hj : i.toNat = j := by
      rw [seqIndex_of h0 h5] at h1
      exact Option.some.inj h1
    exact item_listR pl.isList h0 (by omega) (by rw [hj]; simpa using ew) fin hs
  · have hj : (i + (its.toArray.size : Int)).toNat = j := by
      rw [seqIndex_neg (by omega) h4] at h1
      rw [List.size_toArray, ← hl]
      exact Option.some.inj h1
    exact subscriptTail_builtinR (x := w) pl.isList.typeIs slot_list_getitem.lookup
      (wpAny_getItem_list_neg (Q := fun r s' => r = w ∧ EP X pins σ Q r s') pl.isList (by omega) (by rw [List.size_toArray] <;> omega) (by omega) (by rw [hj]; simpa using ew) ⟨rfl, fin⟩) hs
theorem mapSeq_set (its : List Value) (n j : Nat) (u : Value) : Obj.mapSeq (·.setIfInBounds j u) { cls := .type "list", data := .seq its.toArray n } = { cls := .type "list", data := .seq (its.set j u).toArray n } := by
  simp [Obj.mapSeq]
theorem Inv.lst {pins : List (Addr × Obj)} {σ : St} {H : Hp} {s : Shared} {p : Addr} {xs : List V} (I : Inv X pins σ H s) (h : H p = some (.lst xs)) :
    ∃ (its : List Value) (n : Nat), Vals xs its ∧ s.heap.get? p = some { cls := .type "list", data := .seq its.toArray n } ∧ xs.length ≤ sizeLine := by
  obtain ⟨z, its, n, r, e⟩ := I.hok p _ h
  exact ⟨its, n, r, e, z⟩
theorem Inv.lstUpd {pins : List (Addr × Obj)} {σ : St} {H : Hp} {s : Shared} {p : Addr} {xs ys : List V} {its its' : List Value} {n n' : Nat} {f : Obj → Obj} (I : Inv X pins σ H s) (h : H p = some (.lst xs))
    (ho : s.heap.get? p = some { cls := .type "list", data := .seq its.toArray n }) (hf : f { cls := .type "list", data := .seq its.toArray n } = { cls := .type "list", data := .seq its'.toArray n' }) (r : Vals ys its') (hz : ys.length ≤ sizeLine) (t : Nat) :
    Inv X pins σ (upd H p (.lst ys)) { s with heap := s.heap.update p f, toks := t } := by
  have e : (s.heap.update p f).get? p = some { cls := .type "list", data := .seq its'.toArray n' } := by
    rw [Heap.get?_update_self f ho (by rw [hf] <;> rfl), hf]
  refine I.write (x := p) (e := p) (by rw [h]; trivial) (.inl rfl) (fun b u hb q => (Heap.get?_update_other _ _ (Ne.symm hb)).trans q) ⟨_, e⟩ ?_
  exact ⟨hz, its', n', r, e⟩
def rSetL : V → V → V → Hp → (Hp → Prop) → Prop := fun o i v H Q => ∃ p xs k j, o = .ref p ∧ i = .int k ∧ H p = some (.lst xs) ∧ ixN xs.length k = some j ∧ Q (upd H p (.lst (xs.set j v)))
theorem set_list : PSet X rSetL := by
  intro pins s σ H o i v ov iv u Q I ro ri rv h
  obtain ⟨p, xs, k, j, rfl, rfl, hp, hj, q⟩ := h
  cases ro
  obtain ⟨t, rfl⟩ := ri
  obtain ⟨its, n, r, ho, hz⟩ := I.lst hp
  obtain ⟨h1, h2, h3, h4⟩ := ixN_seq hj
  have hl := r.length
  have hn := line63
  have I' : Inv X pins σ (upd H p (.lst (xs.set j v))) { s with heap := s.heap.update p (Obj.mapSeq (·.setIfInBounds j u)) } :=
    I.lstUpd hp ho (mapSeq_set its n j u) (r.set rv j) (by rw [List.length_set]; exact hz) s.toks
  by_cases h0 : 0 ≤ k
  · have hk : k.toNat = j := by
      rw [seqIndex_of h0 h4] at h1
      exact Option.some.inj h1
    exact PySem.W.ki_setAt ho h0 (by omega) (by rw [List.size_toArray, ← hl]; exact h4) (by rw [hk]; exact ⟨_, I', q⟩)
  · have hk : (k + (its.toArray.size : Int)).toNat = j := by
      rw [seqIndex_neg (by omega) h3] at h1
      rw [List.size_toArray, ← hl]
      exact Option.some.inj h1
    exact PySem.W.ki_setBack ho (by omega) (by rw [List.size_toArray, ← hl]; exact h3) (by omega) (by rw [hk]; exact ⟨_, I', q⟩)
theorem slice_bounds (lo hi : Option Int) (n : Nat) : (sliceBounds lo hi none n).1 = ((HT.sIx n 0 lo : Nat) : Int) ∧ (sliceBounds lo hi none n).2.1 = ((HT.sIx n n hi : Nat) : Int) ∧ (sliceBounds lo hi none n).2.2 = 1 := by
  refine ⟨?_, ?_, rfl⟩
  · cases lo with
    | none => simp [sliceBounds, HT.sIx]
    | some i =>
      simp only [sliceBounds, HT.sIx, Option.getD_none, show (1 : Int) > 0 by decide, if_true]
      by_cases h : i < 0
      · simp only [h, if_true] <;> omega
      · simp only [h, if_false] <;> omega
  · cases hi with
    | none => simp [sliceBounds, HT.sIx]
    | some i =>
      simp only [sliceBounds, HT.sIx, Option.getD_none, show (1 : Int) > 0 by decide, if_true]
      by_cases h : i < 0
      · simp only [h, if_true] <;> omega
      · simp only [h, if_false] <;> omega
theorem slicePick_cut (its : List Value) (lo hi : Option Int) : slicePick its.toArray lo hi none = ((its.drop (HT.sIx its.length 0 lo)).take (HT.sIx its.length its.length hi - HT.sIx its.length 0 lo)).toArray := by
  obtain ⟨h1, h2, h3⟩ := slice_bounds lo hi its.toArray.size
  unfold slicePick
  rw [h1, h2, h3]
  simp only [sliceRange_one, pick_run, List.size_toArray] <;> rfl
def rSlL (K : PySem.W.Frag) : V → Option Int → Option Int → Hp → VK → Prop := fun x lo hi H Q => ∃ a xs, x = .ref a ∧ SqL K H a xs ∧ ∀ p, H p = none → Q (.ref p) (upd H p (.lst (cutV xs lo hi)))
theorem sl_list : SlR X (rSlL X.K) := by
  intro pins s σ H x v vl vu lo hi sl Q I rx hs pl pu h
  obtain ⟨a, xs, rfl, hx, q⟩ := h
  cases rx
  obtain ⟨its, r, ht, hz⟩ := I.list hx
  have hlen := r.length
  refine ⟨"list", _, slot_list_getitem.lookup, ht.isList.typeIs, ?_⟩
  refine wpAny_getItem_list_slice ht.isList hs pl pu .none (by simp) ?_ (by rw [List.size_toArray] <;> omega)
  rw [slicePick_cut, ← hlen]
  refine ⟨.ref s.heap.objs.size, _, I.laid (t' := s.toks) (o := .lst (cutV xs lo hi)) (fun b ob q => Heap.get?_push_of_some _ q) (Nat.le_refl _) ?_, rfl, q _ (I.hok.fresh (Nat.le_refl _))⟩
  exact ⟨Nat.le_trans (cutV_length xs lo hi) hz, _, 0, (r.drop (HT.sIx xs.length 0 lo)).take (HT.sIx xs.length xs.length hi - HT.sIx xs.length 0 lo), Heap.get?_push_size _ rfl⟩
def flatV : V → Bool
  | .non => true
  | .bl _ => true
  | .int _ => true
  | .str _ => true
  | _ => false
def eqV : V → V → Bool
  | .non, .non => true
  | .bl a, .bl b => a == b
  | .bl a, .int b => (if a then 1 else 0) == b
  | .int a, .bl b => a == (if b then 1 else 0)
  | .int a, .int b => a == b
  | .str a, .str b => a == b
  | _, _ => false
theorem eqAt_V {A : Around} {s : Shared} {y x : V} {u v : Value} (ry : RelV y u) (rx : RelV x v) (fy : flatV y = true) (fx : flatV x = true) : SeqAt.EqAt A s u v (eqV y x) := by
  cases y with
  | non =>
    cases ry
    cases x with
    | non => cases rx; exact SeqAt.EqAt.same _
    | bl b => cases rx; exact SeqAt.EqAt.none_bool b
    | int b => obtain ⟨t, rfl⟩ := rx; exact SeqAt.EqAt.none_int b t
    | str b => obtain ⟨t, rfl⟩ := rx; exact SeqAt.EqAt.none_str b t
    | _ => exact absurd (show false = true from fx) Bool.false_ne_true
  | bl a =>
    cases ry
    cases x with
    | non => cases rx; exact SeqAt.EqAt.bool_none a
    | bl b => cases rx; exact SeqAt.EqAt.bool_bool a b
    | int b => obtain ⟨t, rfl⟩ := rx; exact SeqAt.EqAt.bool_int a b t
    | str b => obtain ⟨t, rfl⟩ := rx; exact SeqAt.EqAt.bool_str a b t
    | _ => exact absurd (show false = true from fx) Bool.false_ne_true
  | int a =>
    obtain ⟨t', rfl⟩ := ry
    cases x with
    | non => cases rx; exact SeqAt.EqAt.int_none a t'
    | bl b => cases rx; exact SeqAt.EqAt.int_bool a t' b
    | int b => obtain ⟨t, rfl⟩ := rx; exact SeqAt.EqAt.int_int a t' b t
    | str b => obtain ⟨t, rfl⟩ := rx; exact SeqAt.EqAt.int_str a t' b t
    | _ => exact absurd (show false = true from fx) Bool.false_ne_true
  | str a =>
    obtain ⟨t', rfl⟩ := ry
    cases x with
    | non => cases rx; exact SeqAt.EqAt.str_none a t'
    | bl b => cases rx; exact SeqAt.EqAt.str_bool a t' b
    | int b => obtain ⟨t, rfl⟩ := rx; exact SeqAt.EqAt.str_int a t' b t
    | str b => obtain ⟨t, rfl⟩ := rx; exact SeqAt.EqAt.str_str a t' b t
    | _ => exact absurd (show false = true from fx) Bool.false_ne_true
  | _ => exact absurd (show false = true from fy) Bool.false_ne_true
def eqU (x : V) (u : Value) : Bool := match u with
  | .none => eqV .non x
  | .bool b => eqV (.bl b) x
  | .int i _ => eqV (.int i) x
  | .str z _ => eqV (.str z) x
  | _ => false
theorem eqU_of {x y : V} {u : Value} (r : RelV y u) (f : flatV y = true) : eqU x u = eqV y x := by
  cases y with
  | non => cases r; rfl
  | bl b => cases r; rfl
  | int i => obtain ⟨t, rfl⟩ := r; rfl
  | str z => obtain ⟨t, rfl⟩ := r; rfl
  | _ => exact absurd (show false = true from f) Bool.false_ne_true
theorem any_eqU {x : V} : ∀ {xs : List V} {us : List Value}, Vals xs us → xs.all flatV = true → us.any (eqU x) = xs.any fun y => eqV y x
  | _, _, .nil, _ => rfl
  | y :: xs, u :: us, .cons r t, f => by
    rw [List.all_cons, Bool.and_eq_true] at f
    rw [List.any_cons, List.any_cons, eqU_of r f.1, any_eqU t f.2]
theorem mem_eqAt {A : Around} {s : Shared} {x : V} {v : Value} (rx : RelV x v) (fx : flatV x = true) : ∀ {xs : List V} {us : List Value}, Vals xs us → xs.all flatV = true → ∀ u ∈ us, SeqAt.EqAt A s u v (eqU x u)
  | _, _, .nil, _ => fun u hu => by cases hu
  | y :: xs, u :: us, .cons r t, f => fun u' hu => by
    rw [List.all_cons, Bool.and_eq_true] at f
    rcases List.mem_cons.mp hu with rfl | hu
    · rw [eqU_of r f.1]; exact eqAt_V r rx f.1 fx
    · exact mem_eqAt rx fx t f.2 u' hu
def inV (x : V) (xs : List V) : Bool := xs.any fun y => eqV y x
def rIn (K : PySem.W.Frag) (neg : Bool) : R2 := fun x y H Q => ∃ p xs, y = .ref p ∧ (SqL K H p xs ∨ SqT K H p xs) ∧ flatV x = true ∧ xs.all flatV = true ∧ Q (.bl (if neg then !inV x xs else inV x xs)) H
theorem op_notIn_seq : OpR X (compareOp .NotIn) (rIn X.K true) := by
  intro pins s σ H x y v u Q I rx ry h
  obtain ⟨p, xs, rfl, hq, fx, fs, q⟩ := h
  cases ry
  rcases hq with hq | hq
  · obtain ⟨its, r, pl, hz⟩ := I.list hq
    refine SeqAt.notIn_listAt (eqU x) pl.isList (fun w hw => mem_eqAt rx fx r fs w (by simpa using hw)) ⟨.bl _, H, I, rfl, ?_⟩
    rw [show its.toArray.any (eqU x) = its.any (eqU x) by simp, any_eqU r fs]
    exact q
  · obtain ⟨its, r, pl, hz⟩ := I.tuple hq
    refine SeqAt.notIn_tupleAt (eqU x) pl (fun w hw => mem_eqAt rx fx r fs w (by simpa using hw)) ⟨.bl _, H, I, rfl, ?_⟩
    rw [show its.toArray.any (eqU x) = its.any (eqU x) by simp, any_eqU r fs]
    exact q
theorem call_len_seq : CallR X (.builtin "len") (fun xs H Q => ∃ p ys, xs = [.ref p] ∧ (SqL X.K H p ys ∨ SqT X.K H p ys) ∧ Q (.int ys.length) H) := by
  intro pins s σ H xs us Q I r h
  obtain ⟨p, ys, rfl, hq, q⟩ := h
  obtain ⟨u, rfl, rx⟩ := vals1 r
  cases rx
  have hn := line63
  rcases hq with hq | hq
  · obtain ⟨its, r', pl, hz⟩ := I.list hq
    have hlen := r'.length
    exact Calls.call_len_list pl.isList (by simp only [List.size_toArray] <;> omega) ⟨.int ys.length, H, I.tok _, ⟨s.toks + 1, by rw [List.size_toArray, hlen]⟩, q⟩
  · obtain ⟨its, r', pl, hz⟩ := I.tuple hq
    have hlen := r'.length
    exact len_tuple pl (by simp only [List.size_toArray] <;> omega) ⟨.int ys.length, H, I.tok _, ⟨s.toks + 1, by rw [List.size_toArray, hlen]⟩, q⟩
theorem call_list_of : CallR X (.type "list") (fun xs H Q => ∃ p ys, xs = [.ref p] ∧ (SqL X.K H p ys ∨ SqT X.K H p ys) ∧ ∀ l, H l = none → Q (.ref l) (upd H l (.lst ys))) := by
  intro pins s σ H xs us Q I r h
  obtain ⟨p, ys, rfl, hq, q⟩ := h
  obtain ⟨u, rfl, rx⟩ := vals1 r
  cases rx
  have fin : ∀ (its : List Value), Vals ys its → ys.length ≤ sizeLine → ∀ (h' : Heap) (c' : Nat), (∀ b o', s.heap.get? b = some o' → h'.get? b = some o') →
      h'.get? s.heap.objs.size = some { cls := .type "list", dict := none, data := .seq its.toArray c', slots := #[] } → EP X pins σ Q (.ref s.heap.objs.size) { s with heap := h' } := fun its r' hz h' c' kp e =>
    ⟨.ref s.heap.objs.size, _, I.laid (t' := s.toks) kp (Nat.le_refl _) (show ObjOk X.prog X.w _ h' _ (.lst ys) from ⟨hz, its, c', r', e⟩), rfl, q _ (I.hok.fresh (Nat.le_refl _))⟩
  rcases hq with hq | hq
  · obtain ⟨its, r', pl, hz⟩ := I.list hq
    have hlen := r'.length
    obtain ⟨o, ho, hc, n, hd⟩ := pl.isList
    exact call_list_seq p (.inl rfl) ho hc hd (fun h' c' kp e => fin its r' hz h' c' kp e) (by simp only [List.size_toArray] <;> omega)
  · obtain ⟨its, r', pl, hz⟩ := I.tuple hq
    have hlen := r'.length
    obtain ⟨o, ho, hc, n, hd⟩ := pl
    exact call_list_seq p (.inr rfl) ho hc hd (fun h' c' kp e => fin its r' hz h' c' kp e) (by simp only [List.size_toArray] <;> omega)
def tyV (K : PySem.W.Frag) (T : String) (x : V) (H : Hp) : Prop := match x with
  | .str _ => T = "str"
  | .int _ => T = "int"
  | .ref p => (T = "list" ∧ ∃ xs, SqL K H p xs) ∨ (T = "tuple" ∧ ∃ o, K.lookup p = some o ∧ o.cls = .type "tuple" ∧ o.dict = none) ∨
      (T = "dict" ∧ ((∃ kvs, H p = some (.dK kvs)) ∨ ∃ kvs, H p = some (.dT kvs))) ∨ (T = "set" ∧ ∃ S n, H p = some (.set S n))
  | _ => False
theorem tyV_is {pins : List (Addr × Obj)} {σ : St} {H : Hp} {s : Shared} {T : String} {x : V} {v : Value} (I : Inv X pins σ H s) (r : RelV x v) (ty : tyV X.K T x H) :
    s.TypeIs v T ∧ ∀ a, v = .ref a → ∃ ob, s.heap.get? a = some ob ∧ ob.dict = none := by
  cases x with
  | str z =>
    obtain ⟨t, rfl⟩ := r
    cases (show T = "str" from ty)
    exact ⟨typeIs_str s z t, fun _ e => nomatch e⟩
  | int i =>
    obtain ⟨t, rfl⟩ := r
    cases (show T = "int" from ty)
    exact ⟨typeIs_int s i t, fun _ e => nomatch e⟩
  | ref p =>
    cases r
    rcases ty with ⟨rfl, xs, hq⟩ | ⟨rfl, o, hk, hc, hd⟩ | ⟨rfl, hk⟩ | ⟨rfl, S, n, hk⟩
    · obtain ⟨its, _, pl, _⟩ := I.list hq
      refine ⟨pl.isList.typeIs, fun a e => ?_⟩
      cases e
      obtain ⟨o, n, e, c, hd, _⟩ := pl
      exact ⟨o, e, hd⟩
    · refine ⟨⟨o, I.kIn p o hk, hc⟩, fun a e => ?_⟩
      cases e
      exact ⟨o, I.kIn _ o hk, hd⟩
    · have z : ∃ o, s.heap.get? p = some o ∧ o.ExactDict := by
        rcases hk with ⟨kvs, hk⟩ | ⟨kvs, hk⟩
        · obtain ⟨_, _, _, _, o, _, _, e, ex, _⟩ := I.hok p _ hk
          exact ⟨o, e, ex⟩
        · obtain ⟨_, _, _, _, o, _, _, e, ex, _⟩ := I.hok p _ hk
          exact ⟨o, e, ex⟩
      obtain ⟨o, e, ex⟩ := z
      refine ⟨⟨o, e, ex.1⟩, fun a e2 => ?_⟩
      cases e2
      exact ⟨o, e, ex.2.1⟩
    · obtain ⟨o, _, _, _, e, ex, _⟩ := I.hok p _ hk
      refine ⟨⟨o, e, ex.1⟩, fun a e2 => ?_⟩
      cases e2
      exact ⟨o, e, ex.2.1⟩
  | _ => exact False.elim ty
def tBM (K : PySem.W.Frag) (T : String) (r : V → List V → Hp → VK → Prop) (to : TE) (t : TA) : TE := fun σ H Q => to σ H fun x H1 => tyV K T x H1 ∧ t σ H1 fun xs H2 => r x xs H2 Q
variable {o e : Expr} {es : List Expr} {to : TE} {t : TA} {name : Str} {apos cpos : Pos} {T id : String} {r : V → List V → Hp → VK → Prop}
theorem pe_bm (pa : PlainAttrs T) (slot : Slot T name id) (hty : typeOf (.builtin id) = pure (.type "method_descriptor")) (hm : MtR X id r) (ho : PE X o to) (ha : PA X (e :: es) t)
    (hbase : attributeBase o name X.env (eval o X.env) = eval o X.env := by rfl)
    (hfew : ((backTo cpos (starEach (e :: es) X.env)).all (fun x => !x.1) && (backToKw cpos (keywordEach [] X.env)).all (fun x => x.1.isSome)
      && decide ((e :: es).length + ([] : List Keyword).length + (if ([] : List Keyword).isEmpty then 0 else 1) < 30)) = true := by rfl)
    (hline : (apos.endLine == cpos.line) = true := by rfl) (hs : starEach (e :: es) X.env = (false, eval e X.env) :: starEach es X.env := by rfl) (hplain : (backTo cpos (starEach es X.env)).any (·.1) = false := by rfl) :
    PE X (.Call (.Attribute o name apos) (e :: es) [] cpos) (tBM X.K T r to t) := by
  intro pins s σ H Q I h
  refine wpAny_Call_method_late hbase hfew hline rfl (thn (ho pins s σ H _ I h) fun v s1 ⟨x, H1, I1, r1, ty, q1⟩ => ?_)
  obtain ⟨h1, h2⟩ := tyV_is I1 r1 ty
  refine ⟨T, id, pa, slot, hty, h1, h2, ?_⟩
  have hA := ha cpos pins s1 σ H1 _ I1 q1
  rw [hs] at hA ⊢
  refine Calls.callWith_builtin (by show (false || (backTo cpos (starEach es X.env)).any (·.1)) = false; rw [hplain] <;> rfl) (Calls.evalArgs_plain ?_)
  exact thn hA fun us s2 ⟨vs, H2, I2, r2, q2⟩ => hm pins s2 σ H2 x vs v us Q I2 r1 r2 q2
end
end L2
namespace L2
open PySem PySem.Spec PyProof.Rows
def MtM (X : Cx) (id : String) (r : V → List V → Hp → VK → Prop) : Prop :=
  ∀ (pins : List (Addr × Obj)) (s : Shared) (σ : St) (H : Hp) (x : V) (xs : List V) (v : Value) (us : List Value) (Q : VK), Inv X pins σ H s → RelV x v → Vals xs us → r x xs H Q →
    wpAny (model X.prog X.w) X.A (call (.builtin id) (v :: us)) (EP X pins σ Q) X.xe s
theorem Vals.one : ∀ {x : V} {us : List Value}, Vals [x] us → ∃ u, us = [u] ∧ RelV x u
  | _, _, .cons r .nil => ⟨_, rfl, r⟩
theorem Vals.zero : ∀ {us : List Value}, Vals [] us → us = []
  | _, .nil => rfl
theorem Vals.eraseIdx : ∀ {xs : List V} {us : List Value} (i : Nat), Vals xs us → Vals (xs.eraseIdx i) (us.eraseIdx i)
  | _, _, _, .nil => .nil
  | _, _, 0, .cons _ t => t
  | _, _, i + 1, .cons r t => .cons r (Vals.eraseIdx i t)
theorem Vals.reverse {xs : List V} {us : List Value} (h : Vals xs us) : Vals xs.reverse us.reverse := by
  induction h with
  | nil => exact .nil
  | cons r t ih => rw [List.reverse_cons, List.reverse_cons]; exact Vals.append ih (.cons r .nil)
theorem len_erase {α : Type} : ∀ (l : List α) (i : Nat), (l.eraseIdx i).length ≤ l.length
  | [], _ => Nat.le_refl _
  | _ :: _, 0 => Nat.le_succ _
  | _ :: r, i + 1 => Nat.succ_le_succ (len_erase r i)
section
variable {X : Cx} {pins : List (Addr × Obj)} {σ : St} {H : Hp} {s : Shared} {l b : Addr} {xs ys zs : List V}
theorem Inv.lset {its its' : List Value} {n : Nat} {f : Array Value → Array Value} {t' : Nat} (I : Inv X pins σ H s) (hH : H l = some (.lst xs))
    (e : s.heap.get? l = some { cls := .type "list", data := .seq its.toArray n }) (hf : f its.toArray = its'.toArray) (hv : Vals ys its') (hz : ys.length ≤ sizeLine) :
    Inv X pins σ (upd H l (.lst ys)) { s with heap := s.heap.update l (Obj.mapSeq f), toks := t' } := by
  have q := PySem.IsL.update e f
  rw [hf] at q
  refine I.write (x := l) (e := l) (by rw [hH]; exact trivial) (.inl rfl) (fun b' u hb hu => (Heap.get?_update_other s.heap (Obj.mapSeq f) (Ne.symm hb)).trans hu) ⟨_, q⟩ ?_
  exact ⟨hz, its', _, hv, q⟩
theorem Inv.lnew {its : List Value} {t' : Nat} (I : Inv X pins σ H s) (hv : Vals ys its) (hz : ys.length ≤ sizeLine) :
    Inv X pins σ (upd H s.heap.objs.size (.lst ys)) { s with heap := s.heap.push { cls := .type "list", data := .seq its.toArray }, toks := t' } :=
  I.laid (fun _ _ q => Heap.get?_push_of_some _ q) (Nat.le_refl _) ⟨hz, its, 0, hv, Heap.get?_push_size _ rfl⟩
theorem Inv.fresh (I : Inv X pins σ H s) : H s.heap.objs.size = none := I.hok.fresh (Nat.le_refl _)
theorem Inv.lstM (I : Inv X pins σ H s) (hH : H l = some (.lst xs)) : xs.length ≤ sizeLine ∧ ∃ (its : List Value) (n : Nat), Vals xs its ∧ xs.length = its.length ∧ s.heap.get? l = some { cls := .type "list", data := .seq its.toArray n } := by
  obtain ⟨z, its, n, r, e⟩ := I.hok l _ hH
  exact ⟨z, its, n, r, r.length, e⟩
end
section
variable {X : Cx}
def rAppend : V → List V → Hp → VK → Prop := fun x vs H Q => ∃ l xs y, x = .ref l ∧ vs = [y] ∧ H l = some (.lst xs) ∧ xs.length < sizeLine ∧ Q .non (upd H l (.lst (xs ++ [y])))
theorem mt_append : MtM X "list.append" rAppend := by
  intro pins s σ H x vs v us Q I rx rv h
  obtain ⟨l, xs, y, rfl, rfl, hH, hz, q⟩ := h
  cases rx
  obtain ⟨u, rfl, ru⟩ := rv.one
  obtain ⟨z, its, n, r, hl, e⟩ := I.lstM hH
  refine call_meets F.slot_list_append ⟨_, e, rfl⟩ F.entry_list_append (F.args_list_append_2 _ _) (PySem.list_append l its.toArray n u (by rw [List.size_toArray]; omega)) ⟨e, ?_⟩
  refine ⟨.non, _, I.lset (its' := its ++ [u]) hH e (by simp) (r.append (.cons ru .nil)) ?_, rfl, q⟩
  rw [List.length_append, List.length_singleton]
  omega
def rPopAt : V → List V → Hp → VK → Prop := fun x vs H Q => ∃ l xs i k y, x = .ref l ∧ vs = [.int i] ∧ H l = some (.lst xs) ∧ -(2 ^ 63) ≤ i ∧ i < 2 ^ 63 ∧ seqIndex? i xs.length = some k ∧ xs[k]? = some y ∧ Q y (upd H l (.lst (xs.eraseIdx k)))
theorem mt_popAt : MtM X "list.pop" rPopAt := by
  intro pins s σ H x vs v us Q I rx rv h
  obtain ⟨l, xs, i, k, y, rfl, rfl, hH, h1, h2, hk, hy, q⟩ := h
  cases rx
  obtain ⟨u, rfl, ru⟩ := rv.one
  obtain ⟨t, rfl⟩ := ru
  obtain ⟨z, its, n, r, hl, e⟩ := I.lstM hH
  obtain ⟨w, hw, rw'⟩ := r.get hy
  refine call_meets F.slot_list_pop ⟨_, e, rfl⟩ F.entry_list_pop (F.args_list_pop_2 _ _)
    (MeetsSeq.list_pop_at l its.toArray n i t k w (fitsIndex_both h1 h2) (by rw [List.size_toArray, ← hl]; exact hk) (by rw [← Array.getElem?_toList]; exact hw) (by rw [List.size_toArray]; omega)) ⟨e, ?_⟩
  refine ⟨y, _, I.lset (its' := its.eraseIdx k) hH e ?_ (r.eraseIdx k) ?_, rw', q⟩
  · show its.toArray.eraseIdxIfInBounds k = (its.eraseIdx k).toArray
    rw [List.eraseIdxIfInBounds_toArray]
  · have := len_erase xs k
    omega
def rCat : R2 := fun x y H Q => ∃ l b xs zs, x = .ref l ∧ y = .ref b ∧ H l = some (.lst xs) ∧ H b = some (.lst zs) ∧ xs.length + zs.length ≤ sizeLine ∧ ∀ p, H p = none → Q (.ref p) (upd H p (.lst (xs ++ zs)))
theorem op_cat : OpR X (binaryOp .Add) rCat := by
  intro pins s σ H x y v u Q I rx ry h
  obtain ⟨l, b, xs, zs, rfl, rfl, hH, hB, hz, q⟩ := h
  cases rx
  cases ry
  obtain ⟨z, its, n, r, hl, e⟩ := I.lstM hH
  obtain ⟨z2, its2, n2, r2, hl2, e2⟩ := I.lstM hB
  refine PySem.P.add_list e e2 ?_ (by rw [List.size_toArray, List.size_toArray]; omega)
  have ea : its.toArray ++ its2.toArray = (its ++ its2).toArray := by simp
  rw [ea]
  exact ⟨.ref _, _, I.lnew (t' := s.toks) (r.append r2) (by rw [List.length_append]; omega), rfl, q _ I.fresh⟩
end
section
variable {prog : Program} {w : World} {A : Around} {E : Value → Shared → Prop} {s : Shared}
set_option maxRecDepth 100000 in
end
section
variable {X : Cx}
end
end L2
namespace L2
open PySem PySem.Spec PyProof.Rows
section
variable {κ : Type} [DecidableEq κ]
def valV (kvs : List (κ × V)) (k : κ) : Option V := (kvs.find? fun kv => decide (kv.1 = k)).map (·.2)
def putK (kvs : List (κ × V)) (k : κ) (v : V) : List (κ × V) :=
  if (kvs.any fun kv => decide (kv.1 = k)) = true then kvs.map (fun kv => if kv.1 = k then (kv.1, v) else kv) else kvs ++ [(k, v)]
def dropK (kvs : List (κ × V)) (k : κ) : List (κ × V) := kvs.filter fun kv => decide (kv.1 ≠ k)
theorem valV_nil {k : κ} : valV ([] : List (κ × V)) k = none := rfl
theorem valV_pos {p : κ × V} {r : List (κ × V)} {k : κ} (e : p.1 = k) : valV (p :: r) k = some p.2 := by simp [valV, List.find?_cons, e]
theorem valV_neg {p : κ × V} {r : List (κ × V)} {k : κ} (e : ¬ p.1 = k) : valV (p :: r) k = valV r k := by simp [valV, List.find?_cons, e]
theorem valV_any (k : κ) : ∀ kvs : List (κ × V), (kvs.any fun kv => decide (kv.1 = k)) = (valV kvs k).isSome
  | [] => rfl
  | p :: r => by
    rw [List.any_cons]
    by_cases e : p.1 = k
    · simp only [valV_pos e, decide_eq_true e, Bool.true_or, Option.isSome_some]
    · rw [valV_neg e, decide_eq_false e, Bool.false_or]; exact valV_any k r
theorem valV_map (k j : κ) (y : V) : ∀ kvs : List (κ × V), valV (kvs.map fun kv => if kv.1 = k then (kv.1, y) else kv) j = (valV kvs j).map fun x => if j = k then y else x
  | [] => rfl
  | p :: r => by
    have ih := valV_map k j y r
    rw [List.map_cons]
    by_cases h : p.1 = k
    · rw [if_pos h]
      by_cases e : p.1 = j
      · rw [valV_pos (p := (p.1, y)) e, valV_pos e, Option.map_some, if_pos (e.symm.trans h)]
      · rw [valV_neg (p := (p.1, y)) e, valV_neg e, ih]
    · rw [if_neg h]
      by_cases e : p.1 = j
      · rw [valV_pos (p := p) e, valV_pos e, Option.map_some, if_neg (fun z => h (e.trans z))]
      · rw [valV_neg (p := p) e, valV_neg e, ih]
theorem valV_snoc (k j : κ) (y : V) : ∀ kvs : List (κ × V), valV kvs k = none → valV (kvs ++ [(k, y)]) j = if j = k then some y else valV kvs j
  | [], _ => by
    by_cases e : k = j
    · rw [if_pos e.symm]; exact valV_pos (p := (k, y)) e
    · rw [if_neg (fun z => e z.symm)]; exact valV_neg (p := (k, y)) e
  | p :: r, hn => by
    rw [List.cons_append]
    have hk : ¬ p.1 = k := fun z => by rw [valV_pos z] at hn; cases hn
    rw [valV_neg hk] at hn
    have ih := valV_snoc k j y r hn
    by_cases e : p.1 = j
    · rw [valV_pos e, valV_pos e, if_neg (fun z => hk (e.trans z))]
    · rw [valV_neg e, valV_neg e, ih]
theorem valV_put (kvs : List (κ × V)) (k j : κ) (y : V) : valV (putK kvs k y) j = if j = k then some y else valV kvs j := by
  unfold putK
  by_cases a : (kvs.any fun kv => decide (kv.1 = k)) = true
  · rw [if_pos a, valV_map]
    rw [valV_any] at a
    by_cases e : j = k
    · obtain ⟨x, hx⟩ := Option.isSome_iff_exists.mp a
      rw [if_pos e, e, hx, Option.map_some, if_pos rfl]
    · rw [if_neg e]
      cases valV kvs j with
      | none => rfl
      | some x => rw [Option.map_some, if_neg e]
  · rw [if_neg a]
    refine valV_snoc k j y kvs ?_
    rw [valV_any] at a
    cases q : valV kvs k with
    | none => rfl
    | some x => rw [q] at a; exact (a rfl).elim
theorem length_putK (kvs : List (κ × V)) (k : κ) (v : V) : (putK kvs k v).length ≤ kvs.length + 1 := by
  unfold putK
  split
  · rw [List.length_map]; omega
  · rw [List.length_append, List.length_cons, List.length_nil]; omega
theorem RelO.isSome_eq {o : Option V} {u : Option Value} (r : RelO o u) : o.isSome = u.isSome := by
  cases o with
  | none => cases u with
    | none => rfl
    | some _ => exact (show False from r).elim
  | some _ => cases u with
    | none => exact (show False from r).elim
    | some _ => rfl
theorem RelO.getD {o : Option V} {u : Option Value} {d : V} {d' : Value} (r : RelO o u) (rd : RelV d d') : RelV (o.getD d) (u.getD d') := by
  cases o with
  | none => cases u with
    | none => exact rd
    | some _ => exact (show False from r).elim
  | some _ => cases u with
    | none => exact (show False from r).elim
    | some _ => exact r
theorem KV.val {kvs : List (κ × V)} {vs : List (κ × Value)} (r : KV kvs vs) (k : κ) : RelO (valV kvs k) (valueAt vs k) := by
  unfold KV at r
  induction r with
  | nil => exact True.intro
  | @cons p q ps qs h t ih =>
    obtain ⟨h1, h2⟩ := h
    by_cases e : p.1 = k
    · have e' : q.1 = k := h1.symm.trans e
      have b : valueAt (q :: qs) k = some q.2 := by simp [valueAt, List.find?_cons, e']
      rw [valV_pos e, b]; exact h2
    · have e' : ¬ q.1 = k := fun z => e (h1.trans z)
      have b : valueAt (q :: qs) k = valueAt qs k := by simp [valueAt, List.find?_cons, e']
      rw [valV_neg e, b]; exact ih
theorem KV.any {kvs : List (κ × V)} {vs : List (κ × Value)} (r : KV kvs vs) (k : κ) : (kvs.any fun kv => decide (kv.1 = k)) = vs.any fun kv => decide (kv.1 = k) := by
  unfold KV at r
  induction r with
  | nil => rfl
  | cons h t ih => rw [List.any_cons, List.any_cons, ih, h.1]
theorem KV.repl {kvs : List (κ × V)} {vs : List (κ × Value)} (r : KV kvs vs) (k : κ) {y : V} {u : Value} (ry : RelV y u) :
    KV (kvs.map fun kv => if kv.1 = k then (kv.1, y) else kv) (vs.map fun kv => if kv.1 = k then (kv.1, u) else kv) := by
  unfold KV at r ⊢
  induction r with
  | nil => exact .nil
  | @cons p q ps qs h t ih =>
    rw [List.map_cons, List.map_cons]
    refine .cons ?_ ih
    obtain ⟨h1, h2⟩ := h
    by_cases e : p.1 = k
    · rw [if_pos e, if_pos (h1.symm.trans e)]; exact ⟨h1, ry⟩
    · rw [if_neg e, if_neg (fun z => e (h1.trans z))]; exact ⟨h1, h2⟩
theorem KV.put {kvs : List (κ × V)} {vs : List (κ × Value)} (r : KV kvs vs) (k : κ) {y : V} {u : Value} (ry : RelV y u) : KV (putK kvs k y) (stored vs k u) := by
  unfold putK stored
  rw [r.any k]
  by_cases e : (vs.any fun kv => decide (kv.1 = k)) = true
  · rw [if_pos e, if_pos e]; exact r.repl k ry
  · rw [if_neg e, if_neg e]; exact Paired.snoc r ⟨rfl, ry⟩
theorem KV.drop {kvs : List (κ × V)} {vs : List (κ × Value)} (r : KV kvs vs) (k : κ) : KV (dropK kvs k) (without vs k) := by
  unfold KV at r ⊢
  unfold dropK without
  induction r with
  | nil => exact .nil
  | @cons p q ps qs h t ih =>
    obtain ⟨h1, h2⟩ := h
    rw [List.filter_cons, List.filter_cons]
    by_cases e : p.1 = k
    · have a : ¬ decide (p.1 ≠ k) = true := by simp [e]
      have b : ¬ decide (q.1 ≠ k) = true := by simp [h1.symm.trans e]
      rw [if_neg a, if_neg b]; exact ih
    · have e' : ¬ q.1 = k := fun z => e (h1.trans z)
      have a : decide (p.1 ≠ k) = true := by simp [e]
      have b : decide (q.1 ≠ k) = true := by simp [e']
      rw [if_pos a, if_pos b]; exact .cons ⟨h1, h2⟩ ih
theorem KV.length {kvs : List (κ × V)} {vs : List (κ × Value)} (r : KV kvs vs) : kvs.length = vs.length := Paired.length r
end
theorem kV_is {P : Program} {w : World} {k : Key} {u : Value} (r : RelV (kV k) u) : (mixKind P w).is k u = true := by
  cases k with
  | inl i => obtain ⟨t, e⟩ := (show ∃ t, u = Value.int i t from r); subst e; exact mixKind_int P w i t
  | inr x => obtain ⟨t, e⟩ := (show ∃ t, u = Value.str x t from r); subst e; exact mixKind_str P w x t
theorem items_are {P : Program} {w : World} : ∀ {ks : List Key} {us : List Value}, Vals (ks.map kV) us → ItemsAre (mixKind P w) ks us
  | [], _, r => by rw [List.map_nil] at r; cases r; exact .nil
  | k :: ks, _, r => by
    rw [List.map_cons] at r
    cases r with
    | cons h t => exact .cons (kV_is h) (items_are t)
abbrev KT (H : Hp) : List (List Key × V) → List (List Key × Addr × Value) → Prop := Paired fun p q => p.1 = q.1 ∧ H q.2.1 = some (.tup (p.1.map kV)) ∧ RelV p.2 q.2.2
theorem KT.val {H : Hp} {kvs : List (List Key × V)} {xs : List (List Key × Addr × Value)} (r : KT H kvs xs) (k : List Key) : RelO (valV kvs k) ((atKey xs k).map (·.2)) := by
  induction r with
  | nil => exact True.intro
  | @cons p q ps qs h t ih =>
    obtain ⟨h1, _, h2⟩ := h
    by_cases e : p.1 = k
    · have e' : q.1 = k := h1.symm.trans e
      have b : atKey (q :: qs) k = some q.2 := by simp [atKey, List.find?_cons, e']
      rw [valV_pos e, b]; exact h2
    · have e' : ¬ q.1 = k := fun z => e (h1.trans z)
      have b : atKey (q :: qs) k = atKey qs k := by simp [atKey, List.find?_cons, e']
      rw [valV_neg e, b]; exact ih
theorem KT.repl {H : Hp} {kvs : List (List Key × V)} {xs : List (List Key × Addr × Value)} (r : KT H kvs xs) (k : List Key) {y : V} {u : Value} (ry : RelV y u) :
    KT H (kvs.map fun kv => if kv.1 = k then (kv.1, y) else kv) (xs.map (putAt k u)) := by
  induction r with
  | nil => exact .nil
  | @cons p q ps qs h t ih =>
    rw [List.map_cons, List.map_cons]
    refine .cons ?_ ih
    obtain ⟨h1, h2, h3⟩ := h
    unfold putAt
    by_cases e : p.1 = k
    · rw [if_pos e, if_pos (h1.symm.trans e)]; exact ⟨h1, h2, ry⟩
    · rw [if_neg e, if_neg (fun z => e (h1.trans z))]; exact ⟨h1, h2, h3⟩
theorem KT.put {H : Hp} {kvs : List (List Key × V)} {xs : List (List Key × Addr × Value)} (r : KT H kvs xs) (k : List Key) {b : Addr} {y : V} {u : Value} (hb : H b = some (.tup (k.map kV))) (ry : RelV y u) :
    KT H (putK kvs k y) (storedH xs k b u) := by
  have e : (kvs.any fun kv => decide (kv.1 = k)) = (atKey xs k).isSome := by
    rw [valV_any, (r.val k).isSome_eq, Option.isSome_map]
  unfold putK storedH
  rw [e]
  by_cases q : (atKey xs k).isSome = true
  · rw [if_pos q, if_pos q]; exact r.repl k ry
  · rw [if_neg q, if_neg q]; exact Paired.snoc r ⟨rfl, hb, ry⟩
theorem KT.keeps {H H' : Hp} {kvs : List (List Key × V)} {xs : List (List Key × Addr × Value)} (r : KT H kvs xs) (ht : ∀ b ys, H b = some (.tup ys) → H' b = some (.tup ys)) : KT H' kvs xs :=
  Paired.mapP r fun _ _ z => ⟨z.1, ht _ _ z.2.1, z.2.2⟩
section
variable {P : Program} {w : World} {H : Hp} {h : Heap} {a : Addr}
theorem rd_of {u : HO} (ok : HOk P w H h) (e : Rd H a u) : ObjOk P w H h a u := e.ok ok
theorem dk_rd {kvs : List (Key × V)} (ok : HOk P w H h) (e : Rd H a (.dK kvs)) : kvs.length ≤ sizeLine ∧ (a == sysModules) = false ∧ ∃ vs, KV kvs vs ∧ h.DictOf (mixKind P w) a vs :=
  show ObjOk P w H h a (.dK kvs) from rd_of ok e
theorem dk_of {kvs : List (Key × V)} (ok : HOk P w H h) (e : H a = some (.dK kvs)) : kvs.length ≤ sizeLine ∧ (a == sysModules) = false ∧ ∃ vs, KV kvs vs ∧ h.DictOf (mixKind P w) a vs := dk_rd ok (.inl e)
theorem key_of {ks : List Key} (ok : HOk P w H h) (e : H a = some (.tup (ks.map kV))) : (tupleKind (mixKind P w)).is h ks a := by
  obtain ⟨_, its, r, o, h1, h2, n, h3⟩ := (show ObjOk P w H h a (.tup (ks.map kV)) from ok a _ e)
  exact ⟨o, its.toArray, n, h1, h2, h3, by simpa using items_are r⟩
theorem dt_rd {kvs : List (List Key × V)} (ok : HOk P w H h) (e : Rd H a (.dT kvs)) : kvs.length ≤ sizeLine ∧ (a == sysModules) = false ∧
    ∃ xs, KT H kvs xs ∧ h.DictOfH (tupleKind (mixKind P w)) a xs := by
  obtain ⟨z, y, xs, r, o, es, ep, h1, h2, h3, h4, h5⟩ := (show ObjOk P w H h a (.dT kvs) from rd_of ok e)
  refine ⟨z, y, xs, r, o, es, ep, h1, h2, h3, h4, fun x hx => ?_, h5⟩
  have all : ∀ {l : List (List Key × V)} {m : List (List Key × Addr × Value)}, KT H l m → ∀ x ∈ m, (tupleKind (mixKind P w)).is h x.1 x.2.1 := by
    intro l m q
    induction q with
    | nil => intro x hx; exact nomatch hx
    | @cons p q ps qs hq t ih =>
      intro x hx
      rcases List.mem_cons.mp hx with e | hx
      · subst e
        exact key_of ok (by rw [← hq.1]; exact hq.2.1)
      · exact ih x hx
  exact all r x hx
theorem dt_of {kvs : List (List Key × V)} (ok : HOk P w H h) (e : H a = some (.dT kvs)) : kvs.length ≤ sizeLine ∧ (a == sysModules) = false ∧
    ∃ xs, KT H kvs xs ∧ h.DictOfH (tupleKind (mixKind P w)) a xs := dt_rd ok (.inl e)
end
def DGet (H : Hp) (a : Addr) (y : V) (r : Option V) : Prop :=
  (∃ kvs k, Rd H a (.dK kvs) ∧ y = kV k ∧ r = valV kvs k) ∨ ∃ kvs k b, Rd H a (.dT kvs) ∧ y = .ref b ∧ H b = some (.tup (k.map kV)) ∧ r = valV kvs k
def DPut (H : Hp) (a : Addr) (y v : V) (H' : Hp) : Prop :=
  (∃ kvs k, H a = some (.dK kvs) ∧ y = kV k ∧ kvs.length < sizeLine ∧ H' = upd H a (.dK (putK kvs k v))) ∨
  ∃ kvs k b, H a = some (.dT kvs) ∧ y = .ref b ∧ H b = some (.tup (k.map kV)) ∧ kvs.length < sizeLine ∧ H' = upd H a (.dT (putK kvs k v))
theorem DGet.k {H : Hp} {a : Addr} {kvs : List (Key × V)} {k : Key} (e : H a = some (.dK kvs)) : DGet H a (kV k) (valV kvs k) := .inl ⟨kvs, k, .inl e, rfl, rfl⟩
theorem DGet.t {H : Hp} {a b : Addr} {kvs : List (List Key × V)} {k : List Key} (e : H a = some (.dT kvs)) (eb : H b = some (.tup (k.map kV))) : DGet H a (.ref b) (valV kvs k) := .inr ⟨kvs, k, b, .inl e, rfl, eb, rfl⟩
theorem DPut.k {H : Hp} {a : Addr} {kvs : List (Key × V)} {k : Key} {v : V} (e : H a = some (.dK kvs)) (hl : kvs.length < sizeLine) : DPut H a (kV k) v (upd H a (.dK (putK kvs k v))) := .inl ⟨kvs, k, e, rfl, hl, rfl⟩
theorem DPut.t {H : Hp} {a b : Addr} {kvs : List (List Key × V)} {k : List Key} {v : V} (e : H a = some (.dT kvs)) (eb : H b = some (.tup (k.map kV))) (hl : kvs.length < sizeLine) :
    DPut H a (.ref b) v (upd H a (.dT (putK kvs k v))) := .inr ⟨kvs, k, b, e, rfl, eb, hl, rfl⟩
section
variable {X : Cx} {pins : List (Addr × Obj)} {σ : St} {H : Hp} {s : Shared} {a : Addr} {y v : V} {u r : Value} {o : Option V} {A : Around} {E : Value → Shared → Prop}
theorem Inv.big (I : Inv X pins σ H s) : sysModules < s.heap.objs.size := by
  have h : mainGlobals < s.heap.objs.size := (I.mod.glob.keeps I.bk).lt
  exact Nat.lt_trans (by decide) h
theorem d_in {Q : Value → Shared → Prop} (hu : A.units + 1 < cLine) (I : Inv X pins σ H s) (g : DGet H a y o) (ry : RelV y u) (h : ∀ s', Inv X pins σ H s' → Q (.bool o.isSome) s') :
    wpAny (model X.prog X.w) A (compareOp .In u (.ref a)) Q E s := by
  rcases g with ⟨kvs, k, e, ey, l⟩ | ⟨kvs, k, b, e, ey, eb, l⟩
  · subst ey
    obtain ⟨z, hd, vs, rel, dd⟩ := dk_rd I.hok e
    refine wpAny_in_of (kV_is ry) hd dd.mapOf ?_
    rw [← (rel.val k).isSome_eq, ← l]
    exact h _ (I.tok _)
  · subst ey
    cases (show u = Value.ref b from ry)
    obtain ⟨z, hd, xs, rel, dd⟩ := dt_rd I.hok e
    refine wpAny_in_heap (tupleKind_room_in1 hu) (key_of I.hok eb) hd dd ?_
    have q := (rel.val k).isSome_eq
    rw [Option.isSome_map] at q
    rw [← q, ← l]
    exact h _ (I.tok _)
theorem d_notIn {Q : Value → Shared → Prop} (hu : A.units + 1 < cLine) (I : Inv X pins σ H s) (g : DGet H a y o) (ry : RelV y u) (h : ∀ s', Inv X pins σ H s' → Q (.bool (!o.isSome)) s') :
    wpAny (model X.prog X.w) A (compareOp .NotIn u (.ref a)) Q E s := by
  rcases g with ⟨kvs, k, e, ey, l⟩ | ⟨kvs, k, b, e, ey, eb, l⟩
  · subst ey
    obtain ⟨z, hd, vs, rel, dd⟩ := dk_rd I.hok e
    refine wpAny_notIn_of (kV_is ry) hd dd.mapOf ?_
    rw [← (rel.val k).isSome_eq, ← l]
    exact h _ (I.tok _)
  · subst ey
    cases (show u = Value.ref b from ry)
    obtain ⟨z, hd, xs, rel, dd⟩ := dt_rd I.hok e
    refine wpAny_notIn_heap (tupleKind_room_in1 hu) (key_of I.hok eb) hd dd ?_
    have q := (rel.val k).isSome_eq
    rw [Option.isSome_map] at q
    rw [← q, ← l]
    exact h _ (I.tok _)
theorem d_write {h' : Heap} {t' : Nat} {ob : HO} (I : Inv X pins σ H s) (mu : Mut (H a)) (hs : Heap.SameBut a s.heap h') (he : ∃ q, h'.get? a = some q) (new : ObjOk X.prog X.w (upd H a ob) h' a ob) :
    Inv X pins σ (upd H a ob) { s with heap := h', toks := t' } :=
  I.write (x := a) (e := a) mu (.inl rfl) (fun b q hb z => (hs.2 b hb).trans z) he new
theorem dk_new {P : Program} {w : World} {H' : Hp} {h' : Heap} {kvs : List (Key × V)} {vs : List (Key × Value)} (z : kvs.length ≤ sizeLine) (hd : (a == sysModules) = false) (rel : KV kvs vs) (dd : h'.DictOf (mixKind P w) a vs) :
    ObjOk P w H' h' a (.dK kvs) := ⟨z, hd, vs, rel, dd⟩
theorem d_setItem {H' : Hp} {Q : Unit → Shared → Prop} (hu : A.units + 1 < cLine) (I : Inv X pins σ H s) (g : DPut H a y v H') (ry : RelV y u) (rv : RelV v r) (h : ∀ s', Inv X pins σ H' s' → Q () s') :
    wpAny (model X.prog X.w) A (setItem (.ref a) u r) Q E s := by
  rcases g with ⟨kvs, k, e, ey, l, eH⟩ | ⟨kvs, k, b, e, ey, eb, l, eH⟩
  · subst ey eH
    obtain ⟨z, hd, vs, rel, dd⟩ := dk_of I.hok e
    have hz : vs.length ≤ sizeLine := by rw [← rel.length]; exact z
    have hl : (putK kvs k v).length ≤ sizeLine := by have := length_putK kvs k v; omega
    refine wpAny_setItem_pairs (hsz := hz) (kV_is ry) dd fun h' dd' hs => h _ ?_
    have he : ∃ q, h'.get? a = some q := let ⟨q, _, _, hq, _⟩ := dd'; ⟨q, hq⟩
    exact d_write I (by rw [e]; exact True.intro) hs he (dk_new hl hd (rel.put k rv) dd')
  · subst ey eH
    cases (show u = Value.ref b from ry)
    obtain ⟨z, hd, xs, rel, dd⟩ := dt_of I.hok e
    have hz : xs.length ≤ sizeLine := by rw [← Paired.length rel]; exact z
    have hl : (putK kvs k v).length ≤ sizeLine := by have := length_putK kvs k v; omega
    refine wpAny_setItem_heap (hsz := hz) (tupleKind_room_in1 hu) (key_of I.hok eb) dd fun h' dd' hs => h _ ?_
    obtain ⟨q, es, ep, hq, h2, h3, h4, _, h5⟩ := dd'
    refine d_write I (by rw [e]; exact True.intro) hs ⟨q, hq⟩ ⟨hl, hd, _, (rel.put k eb rv).keeps fun c ys ec => ?_, q, es, ep, hq, h2, h3, h4, h5⟩
    rw [upd_ne (ne_of ec e (fun z => nomatch z))]
    exact ec
end
section
variable {X : Cx} {pins : List (Addr × Obj)} {σ : St} {H : Hp} {s : Shared} {a : Addr} {kvs : List (Key × V)} {k : Key} {u : Value} {A : Around} {E : Value → Shared → Prop}
end
def tDIn (ty td : TE) : TE := fun σ H Q => ty σ H fun y H1 => td σ H1 fun x H2 => ∃ a o, x = .ref a ∧ DGet H2 a y o ∧ Q (.bl o.isSome) H2
def tDNotIn (ty td : TE) : TE := fun σ H Q => ty σ H fun y H1 => td σ H1 fun x H2 => ∃ a o, x = .ref a ∧ DGet H2 a y o ∧ Q (.bl (!o.isSome)) H2
def sDPut (td ty tv : TE) : TS := fun D σ H => tv σ H fun v H1 => td σ H1 fun x H2 => ty σ H2 fun y H3 => ∃ a H4, x = .ref a ∧ DPut H3 a y v H4 ∧ D.nx σ H4
section
variable {X : Cx} {o i e value : Expr} {pos pos' tpos : Pos} {td ty tv : TE}
theorem pc_din (hu : X.A.units + 1 < cLine) (hi : PE X i ty) (ho : PE X o td) : PC X .In i o (tDIn ty td) := by
  intro pins s σ H Q I h
  refine thn (hi pins s σ H _ I h) fun iv s1 ⟨y, H1, I1, ry, q1⟩ => thn (ho pins s1 σ H1 _ I1 q1) fun u s2 ⟨x, H2, I2, rx, a, ov, ex, g, q2⟩ => ?_
  subst ex
  obtain rfl : u = Value.ref a := rx
  exact d_in hu I2 g ry fun s3 I3 => ⟨.bl ov.isSome, H2, I3, rfl, q2⟩
theorem pc_dnotin (hu : X.A.units + 1 < cLine) (hi : PE X i ty) (ho : PE X o td) : PC X .NotIn i o (tDNotIn ty td) := by
  intro pins s σ H Q I h
  refine thn (hi pins s σ H _ I h) fun iv s1 ⟨y, H1, I1, ry, q1⟩ => thn (ho pins s1 σ H1 _ I1 q1) fun u s2 ⟨x, H2, I2, rx, a, ov, ex, g, q2⟩ => ?_
  subst ex
  obtain rfl : u = Value.ref a := rx
  exact d_notIn hu I2 g ry fun s3 I3 => ⟨.bl (!ov.isSome), H2, I3, rfl, q2⟩
theorem ps_dput (hu : X.A.units + 1 < cLine) (ho : PE X o td) (hi : PE X i ty) (hv : PE X value tv) (hs : swapsWith value (some (.Subscript o i pos')) pos.line X.env = pure false) :
    PS X (.Assign [.Subscript o i pos'] value pos) (sDPut td ty tv) := by
  intro pins s σ H D I h
  refine wpAny_Assign_Subscript (thn (hv pins s σ H _ I h) fun r s1 ⟨v, H1, I1, rv, q1⟩ => thn (ho pins s1 σ H1 _ I1 q1) fun u s2 ⟨x, H2, I2, rx, q2⟩ => thn (hi pins s2 σ H2 _ I2 q2) fun iv s3 ⟨y, H3, I3, ry, a, H4, ex, g, q3⟩ => ?_) hs
  subst ex
  obtain rfl : u = Value.ref a := rx
  exact d_setItem hu I3 g ry rv fun s4 I4 => ⟨σ, H4, I4, q3⟩
end
theorem dt_empty {P : Program} {w : World} {H : Hp} (h : Heap) (hb : sysModules < h.objs.size) : ObjOk P w H (h.push { cls := .type "dict", data := .dict #[] }) h.objs.size (.dT []) :=
  ⟨Nat.zero_le _, beq_eq_false_iff_ne.mpr (Ne.symm (Nat.ne_of_lt hb)), [], .nil, _, #[], 0, Heap.get?_push_size _ rfl, ⟨rfl, rfl, rfl⟩, rfl, rfl, List.nodup_nil⟩
def tDNewT : TE := fun _ H Q => ∀ p, H p = none → Q (.ref p) (upd H p (.dT []))
section
variable {X : Cx} {pos : Pos}
theorem pe_dnewT : PE X (.Dict [] [] pos) tDNewT := fun pins s σ H Q I h =>
  wpAny_Dict_empty ⟨.ref s.heap.objs.size, _, I.laid (a := s.heap.objs.size) (o := .dT []) (t' := s.toks) (fun _ _ q => Heap.get?_push_of_some _ q) (Nat.le_refl _) (dt_empty s.heap I.big), rfl, h _ (I.hok.fresh (Nat.le_refl _))⟩
end
structure M1 (X : Cx) (o : Expr) (m : Str) (apos : Pos) (e : Expr) (cpos : Pos) : Prop where
  base : attributeBase o m X.env (eval o X.env) = eval o X.env
  few : ((backTo cpos (starEach [e] X.env)).all (fun x => !x.1) && (backToKw cpos (keywordEach [] X.env)).all (fun x => x.1.isSome)
    && decide (([e] : List Expr).length + ([] : List Keyword).length + (if ([] : List Keyword).isEmpty then 0 else 1) < 30)) = true
  line : (apos.endLine == cpos.line) = true
  trees : backTo cpos (starEach [e] X.env) = [(false, eval e X.env)]
structure M2 (X : Cx) (o : Expr) (m : Str) (apos : Pos) (e f : Expr) (cpos : Pos) : Prop where
  base : attributeBase o m X.env (eval o X.env) = eval o X.env
  few : ((backTo cpos (starEach [e, f] X.env)).all (fun x => !x.1) && (backToKw cpos (keywordEach [] X.env)).all (fun x => x.1.isSome)
    && decide (([e, f] : List Expr).length + ([] : List Keyword).length + (if ([] : List Keyword).isEmpty then 0 else 1) < 30)) = true
  line : (apos.endLine == cpos.line) = true
  trees : backTo cpos (starEach [e, f] X.env) = [(false, eval e X.env), (false, eval f X.env)]
section
variable {X : Cx} {pins : List (Addr × Obj)} {σ : St} {H : Hp} {s : Shared} {a : Addr} {y d : V} {u r : Value} {o : Option V} {A : Around} {E : Value → Shared → Prop}
end
section
variable {X : Cx} {o e f : Expr} {apos cpos : Pos} {td ty tx : TE}
end
section
variable {X : Cx} {pins : List (Addr × Obj)} {σ : St} {H : Hp} {s : Shared} {a : Addr} {kvs : List (Key × V)} {A : Around} {E : Value → Shared → Prop}
end
section
variable {X : Cx} {pins : List (Addr × Obj)} {σ : St} {H : Hp} {s : Shared} {a : Addr} {y : V} {u : Value} {A : Around} {E : Value → Shared → Prop}
end
end L2
namespace Att
open PySem PySem.W PySem.Calls PyProof.Rows
theorem ints_of_wellAll {P : Params} {h : Heap} : ∀ (ns : List Int) (vs : List Value), WellAll P h vs (ns.map WData.int) → IntsAre vs ns := by
  intro ns
  induction ns with
  | nil =>
    intro vs w
    rw [List.map_nil] at w
    cases w
    exact .nil
  | cons n ns ih =>
    intro vs w
    rw [List.map_cons] at w
    cases w with
    | cons a b =>
      cases a
      exact .cons _ _ (ih _ b)
theorem script_of {l : OpenLaw} {n : Nat} (hn : l.most = some n) {P : Params} {h : Heap} {args : List WData} {vals : List Value}
    (hpre : l.row.toRowW.claim.pre args = true) (hwl : WellAll P h vals args) :
    ∃ a vs ns, vals = [Value.ref a] ∧ args = [WData.list (ns.map WData.int)] ∧ h.get? a = some { cls := .type "list", data := .seq vs.toArray } ∧ IntsAre vs ns ∧ ns.length ≤ n := by
  have hsh : WShape.hasAll [] args [.list .int] = true := (pre_splitW hpre).1
  have hc : l.pre.holds [] { args := args } = true := (pre_splitW hpre).2
  obtain ⟨d, r, rfl, h1, h2⟩ := hasAllW_cons hsh
  obtain rfl := hasAllW_nil h2
  obtain ⟨xs, rfl, h3⟩ := hasW_list h1
  obtain ⟨ns, rfl⟩ := items_int h3
  have hlen : ns.length ≤ n := by
    unfold OpenLaw.pre at hc
    have h4 : (WTm.not (.lt (.lit (.int (n : Int))) (.len (.arg 0)))).holds [] { args := [.list (ns.map .int)] } = true := by
      have h4 := (holds_andW hc).1
      rw [hn] at h4
      exact h4
    have h5 := condW_of h4 (w_not (w_lt w_lit (w_len_list (w_arg rfl))))
    rw [List.length_map] at h5
    refine Nat.le_of_not_lt fun q => ?_
    have q' : (n : Int) < ((ns.length : Nat) : Int) := by omega
    first
      | (rw [decide_eq_true q'] at h5; exact absurd h5 (by decide))
      | (simp at h5; omega)
  cases hwl with
  | cons w1 w2 =>
    cases w2
    cases w1 with
    | list ho hall => exact ⟨_, _, ns, rfl, rfl, ho, ints_of_wellAll ns _ hall, hlen⟩
theorem post_true (l : OpenLaw) (args : List WData) : l.row.toRowW.claim.post args (.bool true) args = true :=
  postW_of (r := l.row.toRowW) (X := (true == true))
    (show WShape.has [] (.bool true) .bool = true by first | rfl | decide | simp [WShape.has, WShape.arms, WShape.armsAll])
    (show (WTm.eq .res (.lit (.bool true))).value [] { args := args, res := some (.bool true), after := args } = some (.bool (true == true)) from w_eq_bool (w_res rfl) w_lit) rfl
theorem attach_call {l : OpenLaw} {n : Nat} {q : Program} {loose : List Str} {XP : (Str → Option Value) → Heap → Prop} {YP : World → Heap → Prop} {d : DefRec}
    (hn : l.most = some n) (hdf : d.params.defaults = [])
    (call : ∀ (w : World) (s₀ s₁ : Shared) (mg mb : Str → Option Value) (fa : Addr) (o : Obj) (pm cd doc : Value) (a : Addr) (vs : List Value) (ns : List Int),
      Ground q loose [] XP w s₀ mg mb s₁.heap → YP w s₁.heap →
      s₁.heap.get? fa = some o → o.data = .func (docDef d.name d.params d.body d.scope pm cd doc) → s₁.heap.CodeRec cd d.name → mg d.name = some (.ref fa) →
      s₁.heap.get? a = some { cls := .type "list", data := .seq vs.toArray } → IntsAre vs ns → ns.length ≤ n → s₁.gens = #[] →
      codeAny (model l.prog w) callerA (.call (.ref fa) ⟨[.ref a], []⟩) (fun r s' => r = .ok (.ret (.bool true)) ∧ OldK s₁.heap s'.heap ∧ s'.os = s₁.os ∧ AllBare s'.gens) s₁) :
    WalkO q loose XP YP l.row.toRowW d [] (fun f vs => PySem.call f vs) := by
  intro w s₀ s₁ mg mb G Y fa o pm cd doc dV kV ho hd hcd hD hmg hg args vals as hpre hlay hrd hwl hlo
  obtain rfl : dV = .none := Dflts.none hD hdf
  obtain rfl : kV = .none := Dflts.noKw hD
  obtain ⟨a, vs, ns, rfl, rfl, hobj, hints, hlen⟩ := script_of hn hpre hwl
  refine enter_call (codeAny_mono (call w s₀ s₁ mg mb fa o pm cd doc a vs ns G Y ho (fd_plain hd) hcd hmg hobj hints hlen hg) fun r s' hq => ?_)
  obtain ⟨rfl, h2, h3, h4⟩ := hq
  exact ⟨.inl ⟨.bool true, .bool true, [], rfl, fun _ => rfl, .bool true, post_true l _, fun _ => ⟨List.Pairwise.nil, fun _ hm => (nomatch hm)⟩⟩, h2, h3, h4⟩
section
variable {prog : Program} {w : World} {A : Around} {E : Value → Shared → Prop} {s : Shared} {K : Frag}
end
end Att
namespace L2
open PySem PySem.Spec PyProof.Rows
theorem vals_ints : ∀ {vs : List Value} {ns : List Int}, IntsAre vs ns → Vals (ns.map V.int) vs
  | _, _, .nil => .nil
  | _, _, .cons n t h => .cons ⟨t, rfl⟩ (vals_ints h)
def Only (H : Hp) : Prop := ∀ b, H b = none ∨ ∃ o xs, H b = some (.frz o (.lst xs))
theorem law_call {P : Program} {w : World} {K : PySem.W.Frag} {mg mb : Str → Option Value} {CX : CXT} {k : Nat} {fa a : Addr} {fd : FuncData} {x : Str} {sp : Sp} {s₁ : Shared} {vs : List Value} {ns : List Int}
    (KX : K.In s₁.heap) (hns : s₁.heap.Ns mainGlobals mg) (hb : s₁.heap.Ns builtinsNs mb) (hbb : ∀ x : Str, x ≠ "__name__" → mb x = bootBuiltins x) (hlim : s₁.heap.NoLimit) (hg : s₁.gens = #[])
    (ha : s₁.heap.get? a = some { cls := .type "list", data := .seq vs.toArray }) (hi : IntsAre vs ns) (hl : ns.length ≤ sizeLine) (hr : Room k callerA)
    (F : ∀ base : Heap, K.In base → base.Ns mainGlobals mg → FnOk P w K mg base CX k fa fd [x] sp) (hbind : ∀ (s : Shared) (u : Value), BindsTo s fd ⟨[u], []⟩ [(x, u)])
    (hsp : ∀ H : Hp, Only H → SqL K H a (ns.map V.int) → sp [.ref a] H (fun v _ => v = .bl true) fun _ _ _ => False)
    (hCX : ∀ H e s', CX [] H s₁ (fun _ _ _ => False) e s' → False) :
    codeAny (model P w) callerA (.call (.ref fa) ⟨[.ref a], []⟩) (fun r s' => r = .ok (.ret (.bool true)) ∧ OldK s₁.heap s'.heap ∧ s'.os = s₁.os ∧ AllBare s'.gens) s₁ := by
  have rv := vals_ints hi
  have lenV := hi.length
  -- from an abstract heap in which nothing but the script may be tracked
  have core : ∀ H : Hp, Only H → SqL K H a (ns.map V.int) → HOk P w H s₁.heap → (∀ b, H b ≠ none → b = a) → (H a ≠ none → K.lookup a = none) →
      codeAny (model P w) callerA (.call (.ref fa) ⟨[.ref a], []⟩) (fun r s' => r = .ok (.ret (.bool true)) ∧ OldK s₁.heap s'.heap ∧ s'.os = s₁.os ∧ AllBare s'.gens) s₁ := by
    intro H hO hS hok hA hK
    have base_of : ∀ {b : Addr} {o : Obj}, s₁.heap.get? b = some o → H b = none → (hidT s₁.heap H).get? b = some o := fun e n => hidT_get e n
    have noA : ∀ {b : Addr} {o : Obj} {es : Array DictEntry} {ep : Nat}, s₁.heap.get? b = some o → o.data = .dict es ep → H b = none := fun {b o es ep} e d => by
      cases q : H b with
      | none => rfl
      | some u =>
        have e' : b = a := hA b (by rw [q]; simp)
        subst e'
        rw [ha] at e; cases e
        have d' : Data.seq vs.toArray _ = Data.dict es ep := d
        cases d'
    have nsK : ∀ {b : Addr} {m : Str → Option Value}, s₁.heap.Ns b m → (hidT s₁.heap H).Ns b m := fun {b m} ⟨o, es, ep, e, d, r⟩ => ⟨o, es, ep, base_of e (noA e d), d, r⟩
    have hKb : K.In (hidT s₁.heap H) := fun b o e => base_of (KX b o e) (by
      cases q : H b with
      | none => rfl
      | some u =>
        have e' : b = a := hA b (by rw [q]; simp)
        subst e'
        rw [hK (by rw [q]; simp)] at e; cases e)
    have hM : Mod K mg (hidT s₁.heap H) := ⟨hKb, nsK hns, ⟨mb, nsK hb, hbb⟩, let ⟨mc, h1, h2⟩ := hlim; ⟨mc, nsK h1, h2⟩⟩
    have e0 : Env0 P w K mg (hidT s₁.heap H) callerA [] s₁ H := ⟨rfl, hM, fun b o e => of_hidT e, Nat.le_of_eq (hidT_size _ _), trivial, fun b hb => absurd (show b ∈ ([] : List Addr) from hb) (by simp), hok, .of_eq hg⟩
    refine codeAny_mono ((F _ hKb (nsK hns)).run callerA [] s₁ H ⟨[.ref a], []⟩ [.ref a] [.ref a] _ _ hr e0 (hbind s₁ (.ref a)) (.cons rfl .nil) (hsp H hO hS)) fun r s' h => ?_
    cases r with
    | error e => exact (hCX H e s' h).elim
    | ok fl =>
      cases fl with
      | next => exact False.elim h
      | brk => exact False.elim h
      | cont => exact False.elim h
      | ret u =>
        obtain ⟨v, H', os, bare, un, hok', r', q⟩ := h
        have q' : v = .bl true := q
        subst q'
        obtain rfl : u = Value.bool true := r'
        refine ⟨rfl, OldK.of_keep fun b o e => ?_, os, bare⟩
        cases q : H b with
        | none => exact un.keep b o e q (by intro z; exact absurd (show b ∈ ([] : List Addr) from z) (by simp)) (by simp)
        | some u =>
          rcases hO b with z | ⟨ob, xs, z⟩
          · rw [q] at z; cases z
          · have z2 := un.frzs b ob _ z
            obtain ⟨e1, _⟩ := hok b _ z
            obtain ⟨e2, _⟩ := hok' b _ z2
            rw [e] at e1; cases e1
            exact e2
  cases hk : K.lookup a with
  | some o =>
    -- the script is one of the module's own objects
    have e := KX a o hk
    rw [ha] at e
    cases e
    refine core (fun _ => none) (fun _ => .inl rfl) (.inr ⟨_, vs.toArray, _, hk, rfl, rfl, rfl, by rw [List.size_toArray, lenV]; exact hl, by simpa using rv⟩) (fun b u z => by have z' : (none : Option HO) = some u := z; cases z') (fun b z => absurd rfl z) fun z => absurd rfl z
  | none =>
    refine core (fun b => if b = a then some (.frz { cls := .type "list", data := .seq vs.toArray } (.lst (ns.map V.int))) else none) (fun b => ?_) (.inl (.inr ⟨{ cls := .type "list", data := .seq vs.toArray }, if_pos rfl⟩)) (fun b u z => ?_) (fun b z => ?_) fun _ => hk
    · by_cases hb : b = a
      · exact .inr ⟨_, _, if_pos hb⟩
      · exact .inl (if_neg hb)
    · by_cases hb : b = a
      · have z' := (if_pos hb).symm.trans z
        cases z'
        subst hb
        exact ⟨ha, by rw [List.length_map]; exact hl, vs, _, rv, ha⟩
      · have z' := (if_neg hb).symm.trans z
        cases z'
    · by_cases hb : b = a
      · exact hb
      · exact absurd (if_neg hb) z
end L2
namespace L2
open PySem PySem.Spec PyProof.Rows
theorem walk_of {l : PySem.W.OpenLaw} {n k : Nat} {q : Program} {loose : List Str} {XP : (Str → Option Value) → Heap → Prop} {YP : World → Heap → Prop} {d : DefRec} {K : Params → PySem.W.Frag} {CX : World → CXT} {sp : World → Sp} {x : Str}
    (hn : l.most = some n) (hn2 : n ≤ sizeLine) (hdf : d.params.defaults = []) (hr : Room k callerA)
    (hY : ∀ (w : World) (h : Heap), YP w h → (K w.params).In h)
    (F : ∀ (w : World) (mg : Str → Option Value) (fa : Addr) (h : Heap), (K w.params).In h → h.Ns mainGlobals mg → mg d.name = some (.ref fa) →
      ∃ fd : FuncData, (∀ (s : Shared) (u : Value), BindsTo s fd ⟨[u], []⟩ [(x, u)]) ∧
        ∀ base : Heap, (K w.params).In base → base.Ns mainGlobals mg → FnOk l.prog w (K w.params) mg base (CX w) k fa fd [x] (sp w))
    (hsp : ∀ (w : World) (H : Hp) (a : Addr) (ns : List Int), ns.length ≤ n → Only H → SqL (K w.params) H a (ns.map V.int) → sp w [.ref a] H (fun v _ => v = .bl true) fun _ _ _ => False)
    (hCX : ∀ (w : World) (H : Hp) (s : Shared) (e : Value) (s' : Shared), CX w [] H s (fun _ _ _ => False) e s' → False) :
    PySem.W.WalkO q loose XP YP l.row.toRowW d [] (fun f vs => PySem.call f vs) := by
  refine Att.attach_call hn hdf fun w s₀ s₁ mg mb fa o pm cd doc a vs ns G Y ho hd hcd hmg hobj hints hlen hg => ?_
  have KX := hY w _ Y
  obtain ⟨fd, hb, hF⟩ := F w mg fa _ KX G.T.g hmg
  exact law_call KX G.T.g G.T.b G.T.builtins G.T.nolimit hg hobj hints (Nat.le_trans hlen hn2) hr hF hb (fun H hO hS => hsp w H a ns hlen hO hS) fun H e s' => hCX w H s₁ e s'
end L2
namespace L2
open PySem PySem.Spec PyProof.Rows
def defArgs (s : Stmt) : Arguments := match s with
  | .FunctionDef _ a _ _ _ _ _ _ _ _ => a
  | _ => { posonlyargs := [], args := [], vararg := none, kwonlyargs := [], kw_defaults := [], kwarg := none, defaults := [] }
def defBody (s : Stmt) : List Stmt := match s with
  | .FunctionDef _ _ b _ _ _ _ _ _ _ => b
  | _ => []
def defScope (s : Stmt) : Scope := match s with
  | .FunctionDef _ _ _ _ _ _ sc _ _ _ => sc
  | _ => { kind := .function, names := [], isGenerator := false, isCoroutine := false }
abbrev CX0 : CXT := fun _ _ _ _ _ _ => False
abbrev E0 : XK := fun _ _ _ => False
theorem pass0 {X : Cx} : Passes CX0 X E0 := fun _ _ _ _ _ _ _ h => h.elim
structure Fun (K : PySem.W.Frag) (x qual : Str) (st : Stmt) (f : Addr) (fd : FuncData) : Prop where
  ex : ∃ (oc : Value) (od : Option Addr) (kV doc pm : Value) (an : Option Addr) (cdv ct : Value) (osl : Array (Option Value)),
    fd = PySem.W.fnOf x qual (defArgs st) (defBody st) (defScope st) .none kV doc pm an cdv ct ∧ K.lookup f = some ⟨oc, od, .func fd, osl⟩ ∧ PySem.W.codeIn K cdv qual = true
  kp : PySem.W.keepIn K (.ref f) = true
section
variable {P : Program} {w : World} {K : PySem.W.Frag} {mg : Str → Option Value} {base : Heap}
theorem Fun.ok {x qual : Str} {st : Stmt} {f : Addr} {fd : FuncData} {N ps : List Str} {k : Nat} {sp : Sp} (F : Fun K x qual st f fd) (S : FnScope N ps (defScope st)) (len : ∀ vs H Q E, sp vs H Q E → vs.length = ps.length)
    (hbody : ∀ (cdv : Value) (A : Around) (outer : List Env) (s : Shared) (H : Hp) (vs : List V) (Q : VK) (E : XK), Room k (A.deeper (envOfC qual (defScope st) s.heap.objs.size f cdv)) → sp vs H Q E →
      ∃ t, PSs (cxOf CX0 P w K mg base N qual (defScope st) f cdv A outer s H E).nox (defBody st) t ∧ t { nx := fun _ H' => Q .non H', rt := Q } (start N vs) H) : FnOk P w K mg base CX0 (k + 1) f fd ps sp := by
  obtain ⟨oc, od, kV, doc, pm, an, cdv, ct, osl, rfl, lk, hcd⟩ := F.ex
  refine fn_of lk hcd S len fun A outer s H vs Q E hr hsp => ?_
  obtain ⟨t, h, q⟩ := hbody cdv A outer s H vs Q E hr hsp
  exact ⟨t, h.nox, q⟩
theorem Fun.binds {x qual : Str} {st : Stmt} {f : Addr} {fd : FuncData} {ps : List Str} (F : Fun K x qual st f fd)
    (h : ∀ (kV doc pm : Value) (an : Option Addr) (cdv ct : Value) (us : List Value), us.length = ps.length → bindArgs (PySem.W.fnOf x qual (defArgs st) (defBody st) (defScope st) .none kV doc pm an cdv ct) ⟨us, []⟩ = pure (ps.zip us)) : Binds K fd ps [] := by
  obtain ⟨oc, od, kV, doc, pm, an, cdv, ct, osl, rfl, lk, hcd⟩ := F.ex
  exact .all (h kV doc pm an cdv ct)
theorem fun_mk {x qual : Str} {st : Stmt} {f : Addr} {oc : Value} {od an : Option Addr} {osl : Array (Option Value)} {kV doc pm cdv ct : Value} (l : K.lookup f = some ⟨oc, od, .func (PySem.W.fnOf x qual (defArgs st) (defBody st) (defScope st) .none kV doc pm an cdv ct), osl⟩)
    (c : PySem.W.codeIn K cdv qual = true) (k : PySem.W.keepIn K (.ref f) = true) : Fun K x qual st f (PySem.W.fnOf x qual (defArgs st) (defBody st) (defScope st) .none kV doc pm an cdv ct) := ⟨⟨oc, od, kV, doc, pm, an, cdv, ct, osl, rfl, l, c⟩, k⟩
end
theorem hu_of {A : Around} {k : Nat} (hr : Room k A) : A.units + 1 < cLine := Nat.lt_of_le_of_lt (Nat.add_le_add_left (by decide : 1 ≤ 64) _) hr.units
theorem small1000 {n : Nat} (h : n ≤ 1000) : n < sizeLine := Nat.lt_of_le_of_lt h (by decide)
section
variable {X : Cx}
theorem pv (i : Nat) {x : Str} {pos : Pos} (hN : X.N[i]? = some x := by rfl) (hv : Vis X.env.scope x := by first | exact Or.inl rfl | exact Or.inr (Or.inl rfl) | exact Or.inr (Or.inr rfl)) (hd : (x == ("__debug__" : Str)) = false := by decide)
    (hcd : (x == ("__classdict__" : Str)) = false := by decide) : PE X (.Name x pos) (tVar i) := pe_var hN hv hd hcd
end
theorem iteF {A B : Prop} (h : B) : if false = true then A else B := by
  rw [if_neg Bool.false_ne_true]
  exact h
theorem iteT {A B : Prop} (h : A) : if true = true then A else B := by
  rw [if_pos rfl]
  exact h
theorem ite2 {c A B : Prop} [Decidable c] (h1 : c → A) (h2 : ¬ c → B) : if c then A else B := by
  by_cases h : c
  · rw [if_pos h]
    exact h1 h
  · rw [if_neg h]
    exact h2 h
def Same (H H' : Hp) : Prop := ∀ b o, H b = some o → H' b = some o
theorem Same.refl (H : Hp) : Same H H := fun _ _ h => h
theorem Same.trans {H H1 H2 : Hp} (a : Same H H1) (b : Same H1 H2) : Same H H2 := fun c o h => b c o (a c o h)
theorem Same.free {H H' : Hp} (e : Same H H') {l : Addr} (h : H' l = Option.none) : H l = Option.none := by
  cases q : H l with
  | none => rfl
  | some o =>
    rw [e l o q] at h
    cases h
theorem Same.seq {K : PySem.W.Frag} {H H' : Hp} {a : Addr} {xs : List V} (e : Same H H') (h : SqL K H a xs) : SqL K H' a xs := by
  rcases h with (h | ⟨o, h⟩) | h
  · exact .inl (.inl (e _ _ h))
  · exact .inl (.inr ⟨o, e _ _ h⟩)
  · exact .inr h
section
variable {κ : Type} [DecidableEq κ]
end
end L2
set_option maxRecDepth 100000
set_option linter.all false
set_option Elab.async false
namespace Pc
def swp {α : Type} : List α → Nat → List α
  | a :: b :: r, 0 => b :: a :: r
  | a :: r, s + 1 => a :: swp r s
  | xs, _ => xs
theorem swp_nil {α : Type} (s : Nat) : swp ([] : List α) s = [] := by cases s <;> rfl
theorem swp_one {α : Type} (a : α) : ∀ s : Nat, swp [a] s = [a]
  | 0 => rfl
  | s + 1 => by show a :: swp [] s = [a]; rw [swp_nil]
theorem swp_succ {α : Type} (a : α) (r : List α) (s : Nat) : swp (a :: r) (s + 1) = a :: swp r s := by cases r <;> rfl
theorem swp_perm {α : Type} : ∀ (xs : List α) (s : Nat), (swp xs s).Perm xs
  | [], s => by rw [swp_nil]
  | [a], s => by rw [swp_one]
  | a :: b :: r, 0 => List.Perm.swap a b r
  | a :: b :: r, s + 1 => (swp_perm (b :: r) s).cons a
theorem swp_map {α β : Type} (f : α → β) : ∀ (xs : List α) (s : Nat), swp (xs.map f) s = (swp xs s).map f
  | [], s => by rw [swp_nil]; exact swp_nil s
  | [a], s => by rw [swp_one]; exact swp_one (f a) s
  | a :: b :: r, 0 => rfl
  | a :: b :: r, s + 1 => by
    show f a :: swp ((b :: r).map f) s = f a :: (swp (b :: r) s).map f
    rw [swp_map f (b :: r) s]
theorem swp_swp {α : Type} : ∀ (xs : List α) (s : Nat), swp (swp xs s) s = xs
  | [], s => by rw [swp_nil, swp_nil]
  | [a], s => by rw [swp_one, swp_one]
  | a :: b :: r, 0 => rfl
  | a :: b :: r, s + 1 => by
    rw [swp_succ, swp_succ, swp_swp (b :: r) s]
def dn {α : Type} (xs : List α) (w : List Int) : List α := w.foldl (fun r s => swp r s.toNat) xs
theorem dn_cons {α : Type} (xs : List α) (s : Int) (w : List Int) : dn xs (s :: w) = dn (swp xs s.toNat) w := rfl
theorem dn_append {α : Type} (xs : List α) (u w : List Int) : dn xs (u ++ w) = dn (dn xs u) w := by unfold dn; rw [List.foldl_append]
theorem dn_snoc {α : Type} (xs : List α) (w : List Int) (s : Int) : dn xs (w ++ [s]) = swp (dn xs w) s.toNat := by rw [dn_append]; rfl
theorem dn_perm {α : Type} : ∀ (w : List Int) (xs : List α), (dn xs w).Perm xs
  | [], _ => .refl _
  | s :: w, xs => (dn_perm w _).trans (swp_perm xs _)
theorem dn_map {α β : Type} (f : α → β) : ∀ (w : List Int) (xs : List α), dn (xs.map f) w = (dn xs w).map f
  | [], _ => rfl
  | s :: w, xs => by rw [dn_cons, dn_cons, swp_map, dn_map f w]
theorem dn_rev {α : Type} : ∀ (w : List Int) (xs : List α), dn (dn xs w) w.reverse = xs
  | [], _ => rfl
  | s :: w, xs => by rw [dn_cons, List.reverse_cons, dn_snoc, dn_rev w, swp_swp]
def inv : List Int → Nat
  | [] => 0
  | x :: r => (r.countP fun y => decide (y < x)) + inv r
def fst (n : Nat) : List Int := (List.range n).map fun (i : Nat) => (i : Int)
theorem fst_length (n : Nat) : (fst n).length = n := by simp [fst]
theorem fst_get {n i : Nat} (h : i < n) : (fst n)[i]? = some (i : Int) := by
  unfold fst; rw [List.getElem?_map, List.getElem?_range h]; rfl
theorem fst_sorted (n : Nat) : (fst n).Pairwise (· ≤ ·) := by
  unfold fst
  rw [List.pairwise_map]
  exact List.Pairwise.imp (fun h => by omega) List.pairwise_lt_range
theorem mem_fst {n : Nat} {x : Int} : x ∈ fst n ↔ 0 ≤ x ∧ x < n := by
  unfold fst
  rw [List.mem_map]
  constructor
  · rintro ⟨i, hi, rfl⟩
    have := List.mem_range.mp hi
    omega
  · rintro ⟨h1, h2⟩
    exact ⟨x.toNat, List.mem_range.mpr (by omega), by omega⟩
abbrev Ord (n : Nat) (o : List Int) : Prop := o.Perm (fst n)
theorem Ord.length {n : Nat} {o : List Int} (h : Ord n o) : o.length = n := by rw [List.Perm.length_eq h, fst_length]
theorem sorted_eq {n : Nat} {o : List Int} (h : Ord n o) (s : o.Pairwise (· ≤ ·)) : o = fst n :=
  List.Perm.eq_of_pairwise (fun a b _ _ h1 h2 => Int.le_antisymm h1 h2) s (fst_sorted n) h
theorem Ord.dn {n : Nat} {o : List Int} (h : Ord n o) (w : List Int) : Ord n (dn o w) := (dn_perm w o).trans h
theorem Ord.swp {n : Nat} {o : List Int} (h : Ord n o) (s : Nat) : Ord n (swp o s) := (swp_perm o s).trans h
def via (o : List Int) (i : Int) : Int := o.getD i.toNat 0
theorem via_fst {n : Nat} {o : List Int} (h : o.length = n) : (fst n).map (via o) = o := by
  apply List.ext_getElem?
  intro i
  rw [List.getElem?_map]
  by_cases hi : i < n
  · rw [fst_get hi]
    have : o[i]? = some o[i] := List.getElem?_eq_getElem (by omega)
    rw [this]
    show some (o.getD (i : Int).toNat 0) = some o[i]
    rw [Int.toNat_natCast, List.getD_eq_getElem?_getD, this]; rfl
  · rw [List.getElem?_eq_none (by rw [fst_length]; omega), List.getElem?_eq_none (by omega)]; rfl
theorem dn_via {n : Nat} {o : List Int} (h : o.length = n) (w : List Int) : Pc.dn o w = (Pc.dn (fst n) w).map (via o) := by
  rw [← dn_map, via_fst h]
end Pc
set_option maxRecDepth 100000
set_option linter.all false
set_option Elab.async false
namespace Pc
def insAll {α : Type} (x : α) : List α → List (List α)
  | [] => [[x]]
  | y :: r => (x :: y :: r) :: (insAll x r).map (y :: ·)
def perms {α : Type} : List α → List (List α)
  | [] => [[]]
  | x :: r => (perms r).flatMap (insAll x)
theorem mem_insAll {α : Type} (x : α) : ∀ (a b : List α), a ++ x :: b ∈ insAll x (a ++ b)
  | [], [] => List.mem_singleton.mpr rfl
  | [], y :: b => List.mem_cons_self
  | y :: a, b => List.mem_cons_of_mem _ (List.mem_map.mpr ⟨_, mem_insAll x a b, rfl⟩)
theorem mem_perms {α : Type} : ∀ (l' l : List α), l.Perm l' → l ∈ perms l'
  | [], l, h => by rw [List.Perm.eq_nil h]; exact List.mem_singleton.mpr rfl
  | x :: r, l, h => by
    have hx : x ∈ l := h.mem_iff.mpr List.mem_cons_self
    obtain ⟨a, b, rfl⟩ := List.append_of_mem hx
    have h2 : (a ++ b).Perm r := by
      have h3 : (x :: (a ++ b)).Perm (x :: r) := (List.perm_middle.symm).trans h
      exact List.Perm.cons_inv h3
    exact List.mem_flatMap.mpr ⟨a ++ b, mem_perms r _ h2, mem_insAll x a b⟩
theorem ord_nat {n : Nat} {o : List Int} (h : Ord n o) : ∃ on : List Nat, o = on.map (fun (i : Nat) => (i : Int)) ∧ on ∈ perms (List.range n) := by
  refine ⟨o.map Int.toNat, ?_, ?_⟩
  · rw [List.map_map]
    have : ∀ x ∈ o, ((fun (i : Nat) => (i : Int)) ∘ Int.toNat) x = id x := fun x hx => by
      have := (mem_fst.mp ((List.Perm.mem_iff h).mp hx)).1
      show ((x.toNat : Nat) : Int) = x
      omega
    rw [List.map_congr_left this, List.map_id]
  · refine mem_perms _ _ ?_
    have := h.map Int.toNat
    unfold fst at this
    rw [List.map_map] at this
    have e : (List.range n).map (Int.toNat ∘ fun (i : Nat) => (i : Int)) = List.range n := by
      have : ∀ x ∈ List.range n, (Int.toNat ∘ fun (i : Nat) => (i : Int)) x = id x := fun x _ => by simp
      rw [List.map_congr_left this, List.map_id]
    rw [e] at this
    exact this
def cntN (x : Nat) : List Nat → Nat
  | [] => 0
  | y :: r => bif Nat.blt y x then cntN x r + 1 else cntN x r
def invN : List Nat → Nat
  | [] => 0
  | x :: r => cntN x r + invN r
def idxN (x : Nat) : List Nat → Nat
  | [] => 0
  | y :: r => bif Nat.beq y x then 0 else idxN x r + 1
def backN (n : Nat) (o : List Nat) : List Nat := (List.range n).map fun d => idxN d o
def pairsIn (p : Nat) (o : List Nat) : List Nat → Nat
  | [] => 0
  | b :: r => bif Nat.blt (idxN b o) p then pairsIn p o r + 1 else pairsIn p o r
def pairsN (n : Nat) (o : List Nat) : Nat → Nat
  | 0 => 0
  | a + 1 => pairsN n o a + pairsIn (idxN a o) o (List.range' (a + 1) (n - (a + 1)))
def chk (n : Nat) : Bool := (perms (List.range n)).all fun o => (Nat.beq (invN o + invN (backN n o).reverse) (n * (n - 1) / 2)).and (Nat.beq (pairsN n o n) (invN o))
theorem cnt_cast (x : Nat) : ∀ l : List Nat, (l.map fun (i : Nat) => (i : Int)).countP (fun y => decide (y < (x : Int))) = cntN x l
  | [] => rfl
  | y :: r => by
    rw [List.map_cons, List.countP_cons, cnt_cast x r, cntN]
    cases h : Nat.blt y x with
    | true =>
      have : y < x := by simpa [Nat.blt_eq] using h
      simp [this]
    | false =>
      have : ¬ y < x := by intro z; rw [Nat.blt_eq.mpr z] at h; cases h
      simp [this]
theorem inv_cast : ∀ l : List Nat, inv (l.map fun (i : Nat) => (i : Int)) = invN l
  | [] => rfl
  | x :: r => by
    show ((r.map fun (i : Nat) => (i : Int)).countP fun y => decide (y < (x : Int))) + inv (r.map fun (i : Nat) => (i : Int)) = _
    rw [cnt_cast, inv_cast r]; rfl
def idx (x : Int) : List Int → Nat
  | [] => 0
  | y :: r => if y = x then 0 else idx x r + 1
theorem idx_cast (x : Nat) : ∀ l : List Nat, idx (x : Int) (l.map fun (i : Nat) => (i : Int)) = idxN x l
  | [] => rfl
  | y :: r => by
    show (if (y : Int) = (x : Int) then 0 else idx (x : Int) (r.map fun (i : Nat) => (i : Int)) + 1) = _
    rw [idx_cast x r, idxN]
    cases h : Nat.beq y x with
    | true =>
      have : y = x := Nat.eq_of_beq_eq_true h
      simp [this]
    | false =>
      have : y ≠ x := Nat.ne_of_beq_eq_false h
      rw [if_neg (by omega)]; rfl
theorem idx_get : ∀ (l : List Int) (x : Int), x ∈ l → l[idx x l]? = some x
  | [], x, h => by simp at h
  | y :: r, x, h => by
    unfold idx
    by_cases e : y = x
    · rw [if_pos e, e]; rfl
    · rw [if_neg e, List.getElem?_cons_succ]
      refine idx_get r x ?_
      rcases List.mem_cons.mp h with z | z
      · exact absurd z.symm e
      · exact z
theorem idx_first : ∀ (l : List Int) (x : Int) (m : Nat), m < idx x l → l[m]? ≠ some x
  | [], x, m, h => by simp [idx] at h
  | y :: r, x, m, h => by
    unfold idx at h
    by_cases e : y = x
    · rw [if_pos e] at h; omega
    · rw [if_neg e] at h
      cases m with
      | zero => simpa using e
      | succ m => rw [List.getElem?_cons_succ]; exact idx_first r x m (by omega)
def prs (o : List Int) (n : Nat) : Nat → List (Int × Int)
  | 0 => []
  | a + 1 => prs o n a ++ ((List.range' (a + 1) (n - (a + 1))).filter fun (b : Nat) => decide (idx (b : Int) o < idx (a : Int) o)).map fun (b : Nat) => ((a : Int), (b : Int))
theorem prs_in (o : List Nat) (p : Nat) : ∀ l : List Nat, (l.filter fun (b : Nat) => decide (idx (b : Int) (o.map fun (i : Nat) => (i : Int)) < p)).length = pairsIn p o l
  | [] => rfl
  | b :: r => by
    rw [List.filter_cons, idx_cast, pairsIn]
    cases h : Nat.blt (idxN b o) p with
    | true =>
      have : idxN b o < p := by simpa [Nat.blt_eq] using h
      rw [if_pos (decide_eq_true this), List.length_cons, prs_in o p r]; rfl
    | false =>
      have : ¬ idxN b o < p := by intro z; rw [Nat.blt_eq.mpr z] at h; cases h
      rw [if_neg (by simp [this]), prs_in o p r]; rfl
theorem prs_len (o : List Nat) (n : Nat) : ∀ a : Nat, (prs (o.map fun (i : Nat) => (i : Int)) n a).length = pairsN n o a
  | 0 => rfl
  | a + 1 => by
    rw [prs, List.length_append, List.length_map, prs_len o n a, idx_cast a o, prs_in, pairsN]
theorem chk0 : chk 0 = true := by decide +kernel
theorem chk1 : chk 1 = true := by decide +kernel
theorem chk2 : chk 2 = true := by decide +kernel
theorem chk3 : chk 3 = true := by decide +kernel
theorem chk4 : chk 4 = true := by decide +kernel
theorem chk5 : chk 5 = true := by decide +kernel
theorem chk6 : chk 6 = true := by decide +kernel
theorem chk7 : chk 7 = true := by decide +kernel
theorem chk_all {n : Nat} (h : n ≤ 7) : chk n = true := by
  match n, h with
  | 0, _ => exact chk0
  | 1, _ => exact chk1
  | 2, _ => exact chk2
  | 3, _ => exact chk3
  | 4, _ => exact chk4
  | 5, _ => exact chk5
  | 6, _ => exact chk6
  | 7, _ => exact chk7
def bck (n : Nat) (o : List Int) : List Int := (List.range n).map fun (d : Nat) => ((idx (d : Int) o : Nat) : Int)
theorem bck_cast (n : Nat) (o : List Nat) : bck n (o.map fun (i : Nat) => (i : Int)) = (backN n o).map fun (i : Nat) => (i : Int) := by
  unfold bck backN
  rw [List.map_map]
  exact List.map_congr_left fun d _ => by show _ = ((idxN d o : Nat) : Int); rw [idx_cast]
theorem two_facts {n : Nat} {o : List Int} (hn : n ≤ 7) (h : Ord n o) : inv o + inv (bck n o).reverse = n * (n - 1) / 2 ∧ (prs o n n).length = inv o := by
  obtain ⟨on, rfl, hm⟩ := ord_nat h
  have := List.all_eq_true.mp (chk_all hn) on hm
  rw [Bool.and_eq_true] at this
  rw [bck_cast, ← List.map_reverse, inv_cast, inv_cast, prs_len]
  exact ⟨Nat.eq_of_beq_eq_true this.1, Nat.eq_of_beq_eq_true this.2⟩
theorem bck_length (n : Nat) (o : List Int) : (bck n o).length = n := by simp [bck]
theorem bck_get {n d : Nat} {o : List Int} (h : d < n) : (bck n o)[d]? = some ((idx (d : Int) o : Nat) : Int) := by
  unfold bck; rw [List.getElem?_map, List.getElem?_range h]; rfl
theorem nodup_fst (n : Nat) : (fst n).Nodup := by
  unfold fst
  refine List.Pairwise.map _ (fun a b (h : a ≠ b) => ?_) List.nodup_range
  omega
theorem Ord.nodup {n : Nat} {o : List Int} (h : Ord n o) : o.Nodup := (List.Perm.nodup_iff h).mpr (nodup_fst n)
theorem Ord.mem {n : Nat} {o : List Int} (h : Ord n o) {x : Int} : x ∈ o ↔ 0 ≤ x ∧ x < n := (List.Perm.mem_iff h).trans mem_fst
theorem get_inj {o : List Int} (h : o.Nodup) {i j : Nat} {x : Int} (hi : o[i]? = some x) (hj : o[j]? = some x) : i = j := by
  obtain ⟨h1, e1⟩ := List.getElem?_eq_some_iff.mp hi
  obtain ⟨h2, e2⟩ := List.getElem?_eq_some_iff.mp hj
  exact (List.getElem_inj h).mp (e1.trans e2.symm)
theorem idx_of_get {o : List Int} (h : o.Nodup) {i : Nat} {x : Int} (hi : o[i]? = some x) : idx x o = i :=
  get_inj h (idx_get o x (List.mem_of_getElem? hi)) hi
theorem bck_unique {n : Nat} {o p : List Int} (h : Ord n o) (hp : ∀ x ∈ p, 0 ≤ x ∧ x < n) (e : p.map (via o) = fst n) : p = bck n o := by
  have hl : p.length = n := by have := congrArg List.length e; rw [List.length_map, fst_length] at this; exact this
  apply List.ext_getElem?
  intro d
  by_cases hd : d < n
  · rw [bck_get hd]
    have hx : p[d]? = some p[d] := List.getElem?_eq_getElem (by omega)
    have hb := hp _ (List.getElem_mem (by omega : d < p.length))
    rw [hx]
    have e2 := congrArg (·[d]?) e
    simp only [List.getElem?_map, hx, fst_get hd, Option.map_some, Option.some.injEq] at e2
    have hlt : p[d].toNat < o.length := by rw [h.length]; omega
    have e3 : o[p[d].toNat]? = some (d : Int) := by
      unfold via at e2
      rw [List.getD_eq_getElem?_getD, List.getElem?_eq_getElem hlt] at e2
      rw [List.getElem?_eq_getElem hlt]
      exact congrArg some e2
    rw [idx_of_get h.nodup e3]
    congr 1
    omega
  · rw [List.getElem?_eq_none (by omega), List.getElem?_eq_none (by rw [bck_length]; omega)]
theorem bck_dance {n : Nat} {o w : List Int} (h : Ord n o) (hw : Pc.dn (fst n) w = o) : Pc.dn (fst n) w.reverse = bck n o := by
  refine bck_unique h (fun x hx => mem_fst.mp ((List.Perm.mem_iff (dn_perm w.reverse (fst n))).mp hx)) ?_
  rw [← dn_via h.length, ← hw, dn_rev]
theorem Ord.bck {n : Nat} {o w : List Int} (h : Ord n o) (hw : Pc.dn (fst n) w = o) : Ord n (bck n o) := by
  rw [← bck_dance h hw]; exact dn_perm _ _
end Pc
set_option maxRecDepth 100000
set_option linter.all false
set_option Elab.async false
namespace Pc
def pr (x y : Int) : Int × Int := (min x y, max x y)
def Steps (n : Nat) (w : List Int) : Prop := ∀ s ∈ w, 0 ≤ s ∧ s + 1 < n
theorem Steps.cons {n : Nat} {s : Int} {w : List Int} : Steps n (s :: w) ↔ (0 ≤ s ∧ s + 1 < n) ∧ Steps n w := by
  unfold Steps
  simp [List.mem_cons]
theorem Steps.append {n : Nat} {u w : List Int} : Steps n (u ++ w) ↔ Steps n u ∧ Steps n w := by
  unfold Steps
  constructor
  · intro h
    exact ⟨fun s hs => h s (List.mem_append_left _ hs), fun s hs => h s (List.mem_append_right _ hs)⟩
  · rintro ⟨h1, h2⟩ s hs
    rcases List.mem_append.mp hs with z | z
    · exact h1 s z
    · exact h2 s z
theorem getD_some {r : List Int} {i : Nat} (h : i < r.length) : r[i]? = some (r.getD i 0) := by
  rw [List.getD_eq_getElem?_getD, List.getElem?_eq_getElem h]; rfl
end Pc
set_option maxRecDepth 100000
set_option linter.all false
set_option Elab.async false
namespace Pc
end Pc
set_option maxRecDepth 100000
set_option linter.all false
set_option Elab.async false
namespace Pc
end Pc
set_option maxRecDepth 100000
set_option linter.all false
set_option Elab.async false
namespace Pc
end Pc
set_option maxRecDepth 100000
set_option linter.all false
set_option Elab.async false
namespace Pc
def crP (o : List Int) : Nat → List (Int × Int)
  | 0 => []
  | i + 1 => crP o i ++ ((o.drop (i + 1)).filter fun b => decide (b < o.getD i 0)).map fun b => (b, o.getD i 0)
def pkey (p : Int × Int) : Int := 1000 * p.1 + p.2
theorem crP_len (o : List Int) : ∀ i, (crP o i).length ≤ i * o.length
  | 0 => Nat.zero_le _
  | i + 1 => by
    have h1 := crP_len o i
    have h2 : ((o.drop (i + 1)).filter fun b => decide (b < o.getD i 0)).length ≤ o.length := Nat.le_trans (List.length_filter_le _ _) (by rw [List.length_drop]; omega)
    show (crP o i ++ _).length ≤ _
    rw [List.length_append, List.length_map, Nat.succ_mul]
    omega
theorem mem_crP {o : List Int} {b a : Int} : ∀ {m : Nat}, (b, a) ∈ crP o m ↔ ∃ i j : Nat, i < m ∧ i < j ∧ o[j]? = some b ∧ o.getD i 0 = a ∧ b < a
  | 0 => by
    constructor
    · intro h; cases h
    · rintro ⟨i, j, h, _⟩; omega
  | m + 1 => by
    show (b, a) ∈ crP o m ++ _ ↔ _
    rw [List.mem_append, mem_crP (m := m), List.mem_map]
    constructor
    · rintro (⟨i, j, h1, h2⟩ | ⟨x, hx, e⟩)
      · exact ⟨i, j, by omega, h2⟩
      · rw [List.mem_filter] at hx
        obtain ⟨k, hk⟩ := List.mem_iff_getElem?.mp hx.1
        rw [List.getElem?_drop] at hk
        injection e with e1 e2
        subst e1
        exact ⟨m, m + 1 + k, by omega, by omega, hk, e2, e2 ▸ of_decide_eq_true hx.2⟩
    · rintro ⟨i, j, h1, h2, h3, h4, h5⟩
      by_cases e : i < m
      · exact .inl ⟨i, j, e, h2, h3, h4, h5⟩
      · have : i = m := by omega
        subst this
        refine .inr ⟨b, List.mem_filter.mpr ⟨List.mem_iff_getElem?.mpr ⟨j - (i + 1), ?_⟩, ?_⟩, by rw [h4]⟩
        · rw [List.getElem?_drop, show i + 1 + (j - (i + 1)) = j by omega]; exact h3
        · rw [h4]; exact decide_eq_true h5
theorem crP_nodup {o : List Int} (nd : o.Nodup) : ∀ {m : Nat}, m ≤ o.length → (crP o m).Nodup
  | 0, _ => by simp [crP]
  | m + 1, h => by
    show (crP o m ++ _).Nodup
    rw [List.nodup_append]
    refine ⟨crP_nodup nd (by omega), ?_, ?_⟩
    · have nf : ((o.drop (m + 1)).filter fun b => decide (b < o.getD m 0)).Nodup := (nd.sublist (List.drop_sublist _ _)).sublist List.filter_sublist
      exact List.Pairwise.map _ (fun x y hxy z => hxy (by injection z)) nf
    · rintro ⟨b, a⟩ h1 p h2 rfl
      obtain ⟨i, j, x1, _, _, x4, _⟩ := mem_crP.mp h1
      obtain ⟨y, _, e⟩ := List.mem_map.mp h2
      injection e with _ e2
      have g1 := getD_some (r := o) (i := i) (by omega)
      have g2 := getD_some (r := o) (i := m) (by omega)
      rw [x4] at g1
      rw [e2] at g2
      have := get_inj nd g1 g2
      omega
theorem mem_prs {o : List Int} {n : Nat} {x y : Int} : ∀ {m : Nat}, (x, y) ∈ prs o n m ↔ ∃ a b : Nat, a < m ∧ a < b ∧ b < n ∧ x = a ∧ y = b ∧ idx (b : Int) o < idx (a : Int) o
  | 0 => by
    constructor
    · intro h; cases h
    · rintro ⟨a, b, h, _⟩; omega
  | m + 1 => by
    show (x, y) ∈ prs o n m ++ _ ↔ _
    rw [List.mem_append, mem_prs (m := m), List.mem_map]
    constructor
    · rintro (⟨a, b, h1, h2⟩ | ⟨b, hb, e⟩)
      · exact ⟨a, b, by omega, h2⟩
      · rw [List.mem_filter, List.mem_range'_1] at hb
        injection e with e1 e2
        exact ⟨m, b, by omega, by omega, by omega, e1.symm, e2.symm, of_decide_eq_true hb.2⟩
    · rintro ⟨a, b, h1, h2, h3, rfl, rfl, h6⟩
      by_cases e : a < m
      · exact .inl ⟨a, b, e, h2, h3, rfl, rfl, h6⟩
      · have : a = m := by omega
        subst this
        exact .inr ⟨b, List.mem_filter.mpr ⟨List.mem_range'_1.mpr (by omega), decide_eq_true h6⟩, rfl⟩
theorem prs_rise {o : List Int} {n : Nat} (hn : n ≤ 1000) : ∀ {m : Nat}, (prs o n m).Pairwise fun a b => pkey a < pkey b
  | 0 => .nil
  | m + 1 => by
    show (prs o n m ++ _).Pairwise _
    rw [List.pairwise_append]
    refine ⟨prs_rise hn, ?_, ?_⟩
    · rw [List.pairwise_map]
      refine (List.Pairwise.filter _ (List.pairwise_lt_range' (pos := Nat.one_pos))).imp fun {a b} h => ?_
      unfold pkey
      dsimp only
      omega
    · rintro ⟨x, y⟩ h1 p h2
      obtain ⟨a, b, x1, x2, x3, rfl, rfl, _⟩ := mem_prs.mp h1
      obtain ⟨c, hc, rfl⟩ := List.mem_map.mp h2
      unfold pkey
      dsimp only
      omega
theorem crossed_perm {n : Nat} {o : List Int} (hn : n ≤ 1000) (ho : Ord n o) : (crP o n).Perm (prs o n n) := by
  refine (List.perm_ext_iff_of_nodup (crP_nodup ho.nodup (by rw [ho.length]; exact Nat.le_refl _)) ((prs_rise hn).imp fun h e => by rw [e] at h; exact Int.lt_irrefl _ h)).mpr ?_
  rintro ⟨b, a⟩
  rw [mem_crP, mem_prs]
  have ol := ho.length
  constructor
  · rintro ⟨i, j, h1, h2, h3, h4, h5⟩
    have gi := getD_some (r := o) (i := i) (by omega)
    rw [h4] at gi
    have mb := ho.mem.mp (List.mem_of_getElem? h3)
    have ma := ho.mem.mp (List.mem_of_getElem? gi)
    refine ⟨b.toNat, a.toNat, by omega, by omega, by omega, by omega, by omega, ?_⟩
    rw [show ((a.toNat : Nat) : Int) = a by omega, show ((b.toNat : Nat) : Int) = b by omega, idx_of_get ho.nodup gi, idx_of_get ho.nodup h3]
    exact h2
  · rintro ⟨x, y, h1, h2, h3, rfl, rfl, h6⟩
    have g1 := idx_get o (x : Int) (ho.mem.mpr (by omega))
    have g2 := idx_get o (y : Int) (ho.mem.mpr (by omega))
    have := (List.getElem?_eq_some_iff.mp g2).1
    refine ⟨_, _, by omega, h6, g1, ?_, by omega⟩
    rw [List.getD_eq_getElem?_getD, g2]; rfl
theorem prs_in_bounds {n : Nat} {o : List Int} (hn : n ≤ 1000) : ∀ p ∈ prs o n n, 0 ≤ p.2 ∧ p.2 < 1000 := by
  rintro ⟨x, y⟩ h
  obtain ⟨a, b, h1, h2, h3, rfl, rfl, _⟩ := mem_prs.mp h
  dsimp only
  omega
theorem crossed_eq {n : Nat} {o : List Int} {ps : List (Int × Int)} (hn : n ≤ 1000) (ho : Ord n o) (pm : ps.Perm (crP o n)) (so : ps.Pairwise fun a b => 1000 * a.1 + a.2 ≤ 1000 * b.1 + b.2) : ps = prs o n n := by
  have pe := pm.trans (crossed_perm hn ho)
  refine List.Perm.eq_of_pairwise (fun a b ha hb h1 h2 => ?_) so ((prs_rise hn).imp fun h => Int.le_of_lt h) pe
  have x := prs_in_bounds hn _ (pe.mem_iff.mp ha)
  have y := prs_in_bounds hn _ hb
  exact Prod.ext (by omega) (by omega)
end Pc
set_option Elab.async false
set_option linter.all false
set_option maxRecDepth 100000
set_option maxHeartbeats 4000000
namespace L2
open PySem PySem.Spec PyProof.Rows
section
variable {prog : Program} {w : World} {A : Around} {R : Result → Shared → Prop} {s : Shared}
abbrev NoE : Value → Shared → Prop := fun _ _ => False
theorem compLoop_any {elt target iter : Expr} {ifs : List Expr} {scope : Scope} {pos : Pos} {it acc : Value} {env : Env} (I : Nat → Shared → Prop)
    (turn : ∀ n s, I n s → wpAny (model prog w) A (pyNext it) (fun r s₁ => match r with
      | none => R (.ok .next) s₁
      | some v => wpAny (model prog w) A (letOwnedTupleGo target it v) (fun _ s₀ => wpAny (model prog w) A (assign target env v) (fun _ s₂ =>
          wpAny (model prog w) A (forIn ifs true fun c r => if r = true then do let ok ← isTrue c env (eval c env); pure (ForInStep.yield ok) else pure (ForInStep.yield r)) (fun ok s₃ =>
            if ok = true then wpAny (model prog w) A (eval elt env) (fun x s₄ =>
              wpAny (model prog w) A (call (.builtin "list.append") [acc, x]) (fun _ s₅ => ∃ m, m < n ∧ I m s₅) NoE s₄) NoE s₃
            else ∃ m, m < n ∧ I m s₃) NoE s₂) NoE s₀) NoE s₁) NoE s)
    (n : Nat) (h : I n s) :
    codeAny (model prog w) A (.compLoop (.ListComp elt [⟨target, iter, ifs, 0⟩] scope pos) 0 it acc env) R s := by
  refine codeAny_loop rfl I (fun n s hI => ?_) n h
  show wpAny _ A ((compTurn (.ListComp elt [⟨target, iter, ifs, 0⟩] scope pos) 0 it acc env).onRaise (fun x => do noteFrame x env; theTreesLotGoes x)) _ _ s
  refine wpAny_noted ?_
  rw [compTurn_list]
  refine wpAny_bind (wpAny_standAt (wpAny_bind (wpAny_mono (turn n s hI) (fun r s₁ h₁ => ?_) fun _ _ h' => h'.elim)))
  cases r with
  | none => exact wpAny_pure h₁
  | some v =>
    refine wpAny_bind (wpAny_mono h₁ (fun _ s₀ h₀ => ?_) fun _ _ h' => h'.elim)
    refine wpAny_bind (wpAny_mono h₀ (fun _ s₂ h₂ => wpAny_bind (wpAny_mono h₂ (fun ok s₃ h₃ => ?_) fun _ _ h' => h'.elim)) fun _ _ h' => h'.elim)
    cases ok with
    | false => exact wpAny_pure ⟨rfl, h₃⟩
    | true =>
      exact wpAny_bind (wpAny_bind (wpAny_mono h₃ (fun x s₄ h₄ => wpAny_bind (wpAny_mono h₄ (fun _ s₅ h₅ => wpAny_pure (wpAny_pure ⟨rfl, h₅⟩)) fun _ _ h' => h'.elim)) fun _ _ h' => h'.elim))
end
def closGo (cells : List (Str × Addr)) : List (Str × NameKind) → List (Str × Addr) → List (Str × Addr)
  | [], acc => acc
  | (n, k) :: r, acc => closGo cells r (if k == .free then (n, (cells.lookup n).getD 0) :: acc else acc)
theorem closGo_from (cells : List (Str × Addr)) : ∀ (l : List (Str × NameKind)) (acc : List (Str × Addr)) (x : Str) (c : Addr), (closGo cells l acc).lookup x = some c →
    acc.lookup x = some c ∨ ((x, NameKind.free) ∈ l ∧ (cells.lookup x).getD 0 = c)
  | [], acc, x, c, h => .inl h
  | (n, k) :: r, acc, x, c, h => by
    have ih := closGo_from cells r _ x c h
    by_cases hk : (k == NameKind.free) = true
    · rw [if_pos hk] at ih
      have ek : k = .free := by simpa using hk
      subst ek
      rcases ih with ih | ⟨h1, h2⟩
      · cases hx : x == n with
        | true =>
          have e : x = n := by simpa using hx
          subst e
          simp only [List.lookup_cons, beq_self_eq_true] at ih
          exact .inr ⟨List.mem_cons_self, Option.some.inj ih⟩
        | false =>
          simp only [List.lookup_cons, hx] at ih
          exact .inl ih
      · exact .inr ⟨List.mem_cons_of_mem _ h1, h2⟩
    · rw [if_neg hk] at ih
      rcases ih with ih | ⟨h1, h2⟩
      · exact .inl ih
      · exact .inr ⟨List.mem_cons_of_mem _ h1, h2⟩
theorem closGo_mono (cells : List (Str × Addr)) : ∀ (l : List (Str × NameKind)) (acc : List (Str × Addr)) (x : Str), (acc.lookup x).isSome = true → ((closGo cells l acc).lookup x).isSome = true
  | [], acc, x, h => h
  | (n, k) :: r, acc, x, h => by
    refine closGo_mono cells r _ x ?_
    by_cases hk : (k == NameKind.free) = true
    · rw [if_pos hk]
      cases hx : x == n with
      | true => simp [List.lookup_cons, hx]
      | false => simp only [List.lookup_cons, hx]; exact h
    · rw [if_neg hk]; exact h
theorem closGo_has (cells : List (Str × Addr)) : ∀ (l : List (Str × NameKind)) (acc : List (Str × Addr)) (x : Str), (x, NameKind.free) ∈ l → ((closGo cells l acc).lookup x).isSome = true
  | [], acc, x, h => by simp at h
  | (n, k) :: r, acc, x, h => by
    rcases List.mem_cons.mp h with e | h
    · obtain ⟨e1, e2⟩ := Prod.mk.inj e
      subst e1; subst e2
      refine closGo_mono cells r _ x ?_
      simp [List.lookup_cons]
    · exact closGo_has cells r _ x h
theorem closureFor_go {env : Env} {scope : Scope} (h : ∀ n, (n, NameKind.free) ∈ scope.names → (env.cells.lookup n).isSome = true) : closureFor scope env = pure (closGo env.cells scope.names []) := by
  have gen : ∀ (l : List (Str × NameKind)) (acc : List (Str × Addr)), (∀ n, (n, NameKind.free) ∈ l → (env.cells.lookup n).isSome = true) →
      (forIn l acc (fun (x : Str × NameKind) (r : List (Str × Addr)) => (if (x.2 == NameKind.free) = true then do let __do_lift ← cellOf env x.1; pure (ForInStep.yield ((x.1, __do_lift) :: r)) else pure (ForInStep.yield r) : Sem (ForInStep (List (Str × Addr)))))) = pure (closGo env.cells l acc) := by
    intro l
    induction l with
    | nil => intro acc _; rfl
    | cons p r ih =>
      intro acc h
      obtain ⟨n, k⟩ := p
      rw [List.forIn_cons]
      by_cases hk : (k == NameKind.free) = true
      · have ek : k = .free := by simpa using hk
        subst ek
        have hs := h n List.mem_cons_self
        obtain ⟨c, hc⟩ := Option.isSome_iff_exists.mp hs
        have e1 : cellOf env n = pure c := by unfold cellOf; rw [hc]
        simp only [beq_self_eq_true, if_true, e1, pure_bind]
        rw [ih _ fun m hm => h m (List.mem_cons_of_mem _ hm)]
        simp [closGo, hc]
      · simp only [hk, if_false, pure_bind, Bool.false_eq_true]
        rw [ih _ fun m hm => h m (List.mem_cons_of_mem _ hm)]
        simp [closGo, hk]
  unfold closureFor
  simp only [bind_pure]
  exact gen scope.names [] h
def clr (ks : List Nat) (σ : St) : St := ks.foldl (fun s k => s.set k none) σ
theorem clr_length : ∀ (ks : List Nat) (σ : St), (clr ks σ).length = σ.length
  | [], σ => rfl
  | k :: r, σ => by
    have := clr_length r (σ.set k none)
    unfold clr at this ⊢
    rw [List.foldl_cons, this, List.length_set]
theorem clr_get : ∀ (ks : List Nat) (σ : St) (i : Nat) (v : V), (clr ks σ)[i]? = some (some v) → i ∉ ks ∧ σ[i]? = some (some v)
  | [], σ, i, v, h => ⟨by simp, h⟩
  | k :: r, σ, i, v, h => by
    have h' : (clr r (σ.set k none))[i]? = some (some v) := h
    obtain ⟨h1, h2⟩ := clr_get r _ i v h'
    by_cases e : k = i
    · subst e
      rw [List.getElem?_set_self'] at h2
      cases q : σ[k]? with
      | none => rw [q] at h2; cases h2
      | some z => rw [q] at h2; cases h2
    · rw [List.getElem?_set_ne e] at h2
      refine ⟨?_, h2⟩
      intro hm
      rcases List.mem_cons.mp hm with z | z
      · exact e z.symm
      · exact h1 z
def compOk (N : List Str) (ks : List Nat) (scope outer : Scope) : Bool :=
  scope.kind == .function && scope.names.all (fun y => y.2 != .cell && (y.2 != .free || outer.names.lookup y.1 == some .cell || outer.names.lookup y.1 == some .free) && (y.2 != .local || scope.names.lookup y.1 == some .local)) &&
  (List.range N.length).all (fun i => match N[i]? with | some x => scope.names.lookup x != some .local || ks.contains i | none => true)
def compCx (X : Cx) (scope : Scope) (C : Addr) (s : Shared) (H : Hp) (fp : List Addr) (pins : List (Addr × Obj)) : Cx :=
  { X with env := compEnvC scope (closGo X.env.cells scope.names []) C X.env, s₀ := s, H₀ := H, outer := X.stack, ex := fp, fn := fun _ => false, pn := X.pn ++ pins, xe := NoE }
def Sub (σ σ' : St) : Prop := σ'.length = σ.length ∧ ∀ (i : Nat) (v : V), σ[i]? = some (some v) → σ'[i]? = some (some v)
def CompW (ks : List Nat) (g : TG) (tc : TT) (te : TE) (σ : St) (Q : VK) (J : It) (H1 : Hp) : Prop := ∀ D, H1 D = none →
  ∃ W : Nat → Nat → List V → Hp → Prop, (∃ m, W 0 m [] (upd H1 D (.lst []))) ∧ ∀ i m ys H, W i m ys H → H D = some (.lst ys) ∧
    ((J.stop i H ∧ Q (.ref D) H) ∨ (J.go i H ∧ ys.length < sizeLine ∧ ∀ x H', J.yld i H x H' → g x (clr ks σ) H' fun σ2 H2 => Sub (clr ks σ) σ2 ∧ tc σ2 H2 fun b H3 =>
      if b = true then te σ2 H3 fun y H4 => H4 D = some (.lst ys) ∧ ∃ m', m' < m ∧ W (i + 1) m' (ys ++ [y]) (upd H4 D (.lst (ys ++ [y]))) else ∃ m', m' < m ∧ W (i + 1) m' ys H3))
def tComp (wi : TI) (ks : List Nat) (g : TG) (tc : TT) (te : TE) : TE := fun σ H Q => wi σ H (CompW ks g tc te σ Q)
def PTs (X : Cx) (ifs : List Expr) (t : TT) : Prop :=
  ∀ (pins : List (Addr × Obj)) (s : Shared) (σ : St) (H : Hp) (Q : Bool → Hp → Prop), Inv X pins σ H s → t σ H Q →
    wpAny (model X.prog X.w) X.A (forIn ifs true fun c r => if r = true then do let ok ← isTrue c X.env (eval c X.env); pure (ForInStep.yield ok) else pure (ForInStep.yield r)) (TP X pins σ Q) X.xe s
def tTrue : TT := fun _ H Q => Q true H
theorem pts_nil {X : Cx} : PTs X [] tTrue := fun _ _ _ H _ I h => wpAny_pure ⟨H, I, h⟩
theorem pts_one {X : Cx} {c : Expr} {t : TT} (h : PT X c t) : PTs X [c] t := fun pins s σ H Q I q => wpAny_tests_one (h pins s σ H Q I q)
theorem lookup_relabel {scope : Scope} {env : Env} {x : Str} {k : NameKind} (h : (relabel scope env).names.lookup x = some k) : ∃ k', scope.names.lookup x = some k' ∧ (k = k' ∨ (k = .cell ∧ k' = .free)) := by
  have gen : ∀ (l : List (Str × NameKind)), (l.map fun (n, k) => if (k == NameKind.free && env.scope.kind == .function && env.kindOf n == some .cell) then (n, NameKind.cell) else (n, k)).lookup x = some k →
      ∃ k', l.lookup x = some k' ∧ (k = k' ∨ (k = .cell ∧ k' = .free)) := by
    intro l
    induction l with
    | nil => intro h; simp at h
    | cons p r ih =>
      obtain ⟨n, j⟩ := p
      intro h
      rw [List.map_cons] at h
      dsimp only at h
      by_cases hc : (j == NameKind.free && env.scope.kind == .function && env.kindOf n == some .cell) = true
      · rw [if_pos hc] at h
        cases hx : x == n with
        | true =>
          simp only [List.lookup_cons, hx] at h ⊢
          have ej : j = .free := by
            simp only [Bool.and_eq_true] at hc
            simpa using hc.1.1
          exact ⟨j, rfl, .inr ⟨(Option.some.inj h).symm, ej⟩⟩
        | false =>
          simp only [List.lookup_cons, hx] at h ⊢
          exact ih h
      · rw [if_neg hc] at h
        cases hx : x == n with
        | true =>
          simp only [List.lookup_cons, hx] at h ⊢
          exact ⟨j, rfl, .inl (Option.some.inj h).symm⟩
        | false =>
          simp only [List.lookup_cons, hx] at h ⊢
          exact ih h
  exact gen scope.names h
section
variable {X : Cx} {scope : Scope} {C : Addr} {s : Shared} {H : Hp} {fp : List Addr} {pins : List (Addr × Obj)} {σ : St} {ks : List Nat}
theorem clos_sub (I : Inv X pins σ H s) (hok : compOk X.N ks scope X.env.scope = true) {x : Str} {c : Addr} (h : (closGo X.env.cells scope.names []).lookup x = some c) :
    (x, NameKind.free) ∈ scope.names ∧ X.env.cells.lookup x = some c := by
  rcases closGo_from _ _ _ _ _ h with z | ⟨h1, h2⟩
  · simp at z
  · refine ⟨h1, ?_⟩
    have hf : X.env.kindOf x = some .cell ∨ X.env.kindOf x = some .free := by
      unfold compOk at hok
      simp only [Bool.and_eq_true, List.all_eq_true] at hok
      have := (hok.1.2 _ h1).1.2
      simp only [bne_self_eq_false, Bool.false_or, Bool.or_eq_true, beq_iff_eq] at this
      exact this
    obtain ⟨c', hc'⟩ := I.ok.has x hf
    rw [hc'] at h2 ⊢
    exact congrArg some h2
theorem comp_free (I : Inv X pins σ H s) (hok : compOk X.N ks scope X.env.scope = true) : closureFor scope X.env = pure (closGo X.env.cells scope.names []) := by
  refine closureFor_go fun n hn => ?_
  have hf : X.env.kindOf n = some .cell ∨ X.env.kindOf n = some .free := by
    unfold compOk at hok
    simp only [Bool.and_eq_true, List.all_eq_true] at hok
    have := (hok.1.2 _ hn).1.2
    simp only [bne_self_eq_false, Bool.false_or, Bool.or_eq_true, beq_iff_eq] at this
    exact this
  obtain ⟨c', hc'⟩ := I.ok.has n hf
  rw [hc']; rfl
theorem compOk_kind (hok : compOk X.N ks scope X.env.scope = true) : scope.kind = .function := by
  unfold compOk at hok
  simp only [Bool.and_eq_true] at hok
  simpa using hok.1.1
theorem compOk_nocell (hok : compOk X.N ks scope X.env.scope = true) : ∀ y ∈ scope.names, y.2 ≠ .cell := fun y hy => by
  unfold compOk at hok
  simp only [Bool.and_eq_true, List.all_eq_true] at hok
  have := (hok.1.2 _ hy).1.1
  simpa using this
theorem compOk_local (hok : compOk X.N ks scope X.env.scope = true) : ∀ y ∈ scope.names, y.2 = .local → scope.names.lookup y.1 = some .local := fun y hy e => by
  unfold compOk at hok
  simp only [Bool.and_eq_true, List.all_eq_true] at hok
  have := (hok.1.2 _ hy).2
  rw [e] at this
  simpa using this
theorem compOk_slot (hok : compOk X.N ks scope X.env.scope = true) {i : Nat} {x : Str} (hN : X.N[i]? = some x) (hl : scope.names.lookup x = some .local) : i ∈ ks := by
  unfold compOk at hok
  simp only [Bool.and_eq_true, List.all_eq_true] at hok
  have hi : i < X.N.length := (List.getElem?_eq_some_iff.mp hN).1
  have := hok.2 i (List.mem_range.mpr hi)
  rw [hN] at this
  simp only [hl, bne_self_eq_false, Bool.false_or] at this
  simpa using this
end
end L2
set_option Elab.async false
set_option linter.all false
set_option maxRecDepth 100000
set_option maxHeartbeats 4000000
namespace L2
open PySem PySem.Spec PyProof.Rows
section
variable {X : Cx} {scope : Scope} {s : Shared} {H : Hp} {fp : List Addr} {pins : List (Addr × Obj)} {σ : St} {ks : List Nat}
theorem kind_of_free (hok : compOk X.N ks scope X.env.scope = true) {x : Str} (hx : (x, NameKind.free) ∈ scope.names) : X.env.kindOf x = some .cell ∨ X.env.kindOf x = some .free := by
  unfold compOk at hok
  simp only [Bool.and_eq_true, List.all_eq_true] at hok
  have := (hok.1.2 _ hx).1.2
  simp only [bne_self_eq_false, Bool.false_or, Bool.or_eq_true, beq_iff_eq] at this
  exact this
theorem free_of_kind (hok : compOk X.N ks scope X.env.scope = true) {x : Str} (h : (relabel scope X.env).names.lookup x = some .cell ∨ (relabel scope X.env).names.lookup x = some .free) : (x, NameKind.free) ∈ scope.names := by
  rcases h with h | h
  · obtain ⟨k', h1, h2⟩ := lookup_relabel h
    rcases h2 with e | ⟨_, e⟩
    · subst e
      exact absurd rfl (compOk_nocell hok _ (PySem.mem_of_lookup h1))
    · subst e; exact PySem.mem_of_lookup h1
  · obtain ⟨k', h1, h2⟩ := lookup_relabel h
    rcases h2 with e | ⟨e, _⟩
    · subst e; exact PySem.mem_of_lookup h1
    · cases e
theorem comp_cx_ok (I : Inv X pins σ H s) (hok : compOk X.N ks scope X.env.scope = true) (hf : ∀ b ∈ fp, FpOk X pins H b) (hlt : ∀ b ∈ fp, b < s.heap.objs.size) :
    (compCx X scope (s.heap.objs.size + 1) s H fp pins).Ok where
  mod := I.ok.mod
  kind := show scope.kind = .function from compOk_kind hok
  glob := I.ok.glob
  blt := I.ok.blt
  above := Nat.le_succ _
  inj := fun x y c h1 h2 => I.ok.inj x y c (clos_sub I hok h1).2 (clos_sub I hok h2).2
  has := fun x hx => by
    have h1 := free_of_kind hok (x := x) hx
    obtain ⟨c, hc⟩ := Option.isSome_iff_exists.mp (closGo_has X.env.cells scope.names [] x h1)
    exact ⟨c, hc⟩
  cab := fun x c h _ => by cases h
  hd := I.ok.hd
  frames := I.ok.frames
  stk := .inl rfl
  exf := fun b hb => ⟨Nat.ne_of_lt (Nat.lt_succ_of_lt (hlt b hb)), fun x c h => (hf b hb).2.2.2.2.1 x c (clos_sub I hok h).2⟩
  bs := I.bs
  bsz := Nat.le_trans I.ok.bsz I.sz
  noex := fun b o e hb => by
    rcases (hf b hb).2.2.2.1 with z | z
    · exact I.ok.noex b o e z
    · exact absurd (Nat.lt_of_lt_of_le (Heap.lt_size e) (Nat.le_trans I.ok.bsz z)) (Nat.lt_irrefl _)
  exfs := fun b hb hz => by
    rcases List.mem_cons.mp (I.stkSub b hz) with e | e
    · exact (hf b hb).2.1 e
    · exact (hf b hb).2.2.1 e
  funs := I.stack
  frf := I.stkFree
theorem comp_start (I : Inv X pins σ H s) (hok : compOk X.N ks scope X.env.scope = true) (hf : ∀ b ∈ fp, FpOk X pins H b) (hlt : ∀ b ∈ fp, b < s.heap.objs.size) {h' : Heap} {tk : Nat} {m : Str → Option Value}
    (hns : h'.Ns (s.heap.objs.size + 1) m) (keep : ∀ b o, s.heap.get? b = some o → h'.get? b = some o) (hD : ∃ n, h'.get? s.heap.objs.size = some { cls := .type "list", data := .seq ([] : List Value).toArray n }) :
    Inv (compCx X scope (s.heap.objs.size + 1) s H fp pins) [] (clr ks σ) (upd H s.heap.objs.size (.lst [])) { s with heap := h', toks := tk } where
  ok := comp_cx_ok I hok hf hlt
  os := rfl
  bare := I.bare
  base := Un.laid keep (Nat.le_refl _) (I.hok.fresh (Nat.le_refl _))
  loc := ⟨m, hns, fun i x v e1 e2 e3 => by
    obtain ⟨n1, n2⟩ := clr_get ks σ i v e2
    have fr : (x, NameKind.free) ∈ scope.names := by
      rcases e3 with e | e | e
      · obtain ⟨k', h1, h2⟩ := lookup_relabel (scope := scope) (env := X.env) e
        rcases h2 with z | ⟨z, _⟩
        · subst z; exact absurd (compOk_slot hok e1 h1) n1
        · cases z
      · exact free_of_kind hok (.inl e)
      · exact free_of_kind hok (.inr e)
    have kd := kind_of_free hok fr
    obtain ⟨m0, _, hl⟩ := I.loc
    obtain ⟨u, r, l⟩ := hl i x v e1 n2 (.inr kd)
    rcases l with ⟨l, _⟩ | ⟨_, c, e, z⟩
    · rcases kd with k | k
      · rw [k] at l; cases l
      · rw [k] at l; cases l
    · refine ⟨u, r, .inr ⟨?_, c, ?_, ?_⟩⟩
      · rcases e3 with e | e | e
        · obtain ⟨k', h1, h2⟩ := lookup_relabel (scope := scope) (env := X.env) e
          rcases h2 with z | ⟨z, _⟩
          · subst z; exact absurd (compOk_slot hok e1 h1) n1
          · cases z
        · exact .inl e
        · exact .inr e
      · obtain ⟨c', hc'⟩ := Option.isSome_iff_exists.mp (closGo_has X.env.cells scope.names [] x fr)
        have := (clos_sub I hok hc').2
        rw [e] at this
        cases this
        exact hc'
      · obtain ⟨o, ho, hd⟩ := z
        exact ⟨o, keep c o ho, hd⟩⟩
  cell := fun x c h => by
    obtain ⟨v, o, ho, hd⟩ := I.cell x c (clos_sub I hok h).2
    exact ⟨v, o, keep c o ho, hd⟩
  free := by
    show upd H s.heap.objs.size (.lst []) (s.heap.objs.size + 1) = none
    rw [upd_ne (Nat.ne_of_gt (Nat.lt_succ_self _))]
    exact I.hok.fresh (Nat.le_succ _)
  freeC := fun x c h => by
    have h2 := (clos_sub I hok h).2
    obtain ⟨v, q⟩ := I.cell x c h2
    rw [upd_ne (Nat.ne_of_lt q.lt)]
    exact I.freeC x c h2
  pin := fun p hp => by
    have hp' : p ∈ X.pn ++ pins := by
      have z : p ∈ (X.pn ++ pins) ++ [] := hp
      simpa using z
    obtain ⟨e, n, ne, nf, d⟩ := I.pin p hp'
    have lt := Heap.lt_size e
    refine ⟨keep _ _ e, ?_, Nat.ne_of_lt (Nat.lt_succ_of_lt lt), fun z => ?_, d⟩
    · rw [upd_ne (Nat.ne_of_lt lt)]; exact n
    · rcases List.mem_cons.mp (I.stkSub p.1 z) with e | e
      · exact ne e
      · exact nf e
  hok := I.hok.laid keep (Nat.le_refl _) (by
    obtain ⟨n, e⟩ := hD
    exact ⟨Nat.zero_le _, [], n, .nil, e⟩)
  len := (clr_length ks σ).trans I.len
end
section
variable {X : Cx}
theorem Sub.refl (σ : St) : Sub σ σ := ⟨rfl, fun _ _ h => h⟩
theorem Sub.set {σ : St} {k : Nat} {o : Option V} (h : σ[k]? = some none) : Sub σ (σ.set k o) := by
  refine ⟨List.length_set, fun i v e => ?_⟩
  by_cases z : k = i
  · subst z; rw [h] at e; cases e
  · rw [List.getElem?_set_ne z]; exact e
theorem comp_core {elt tg iter : Expr} {ifs : List Expr} {scope : Scope} {pos : Pos} {g : TG} {tc : TT} {te : TE} {J : It} {pins : List (Addr × Obj)} {σ : St} {H2 : Hp} {s2 : Shared} {it : Addr} {fp : List Addr} {tn : Nat → Heap → Prop} {Q : VK} {E : Value → Shared → Prop}
    {RR : Value → Addr → Result → Shared → Prop} (hc : X.calm = true) (ks : List Nat)
    (hb : ∀ C s H fp pins, PG (compCx X scope C s H fp pins) tg g ∧ PTs (compCx X scope C s H fp pins) ifs tc ∧ PE (compCx X scope C s H fp pins) elt te)
    (hok : compOk X.N ks scope X.env.scope = true) (I2 : Inv X pins σ H2 s2) (T : Turn X.prog X.w X.K tg J fp it tn) (st2 : tn 0 s2.heap) (f2 : ∀ b ∈ fp, FpOk X pins H2 b)
    (q2 : CompW ks g tc te σ Q J H2)
    (fin : ∀ s4 H3 m, Inv X pins σ H3 s4 → s4.heap.Ns (s2.heap.objs.size + 1) m → FpOk X pins H3 (s2.heap.objs.size + 1) → Q (.ref s2.heap.objs.size) H3 → RR (.ref s2.heap.objs.size) (s2.heap.objs.size + 1) (.ok .next) s4) :
    wpAny (model X.prog X.w) X.A (newList []) (fun acc s3 => wpAny (model X.prog X.w) X.A (newFunctionEnv scope X.env.globals (closGo X.env.cells scope.names []) [] X.env.qual none .none (some X.env)) (fun cenv s4 =>
      codeAny (model X.prog X.w) X.A (.compStart (.ListComp elt [⟨tg, iter, ifs, 0⟩] scope pos) 0 (.ref it) acc { cenv with scope := relabel scope X.env }) (RR acc cenv.locals) s4) E s3) E s2 := by
  obtain ⟨W, ⟨m0, w0⟩, turn⟩ := q2 s2.heap.objs.size (I2.hok.fresh (Nat.le_refl _))
  refine wpAny_newObj_type (wpAny_newFunctionEnv (compOk_nocell hok) (by intro y hy; simp at hy) (fun h₁ hns₁ hsb₁ => ?_) (compOk_kind hok))
  dsimp only at hns₁ hsb₁ ⊢
  have hlt : ∀ b ∈ fp, b < s2.heap.objs.size := fun b hb => by
    obtain ⟨o, e, _⟩ := T.obj _ _ st2 b hb
    exact Heap.lt_size e
  generalize hH2 : s2.heap.push { cls := .type "list", dict := none, data := .seq ([] : List Value).toArray } = G2 at hns₁ hsb₁ ⊢
  have hC : G2.objs.size = s2.heap.objs.size + 1 := by rw [← hH2, Heap.size_push]
  have hDC : s2.heap.objs.size ≠ G2.objs.size := by rw [hC]; exact Nat.ne_of_lt (Nat.lt_succ_self _)
  have old : ∀ b o, s2.heap.get? b = some o → h₁.get? b = some o := fun b o e =>
    hsb₁.extBut b o (by rw [hC]; exact Nat.ne_of_lt (Nat.lt_succ_of_lt (Heap.lt_size e))) (Heap.get?_push_of_some _ (hH2 ▸ Heap.get?_push_of_some _ e))
  have hacc : h₁.get? s2.heap.objs.size = some { cls := .type "list", data := .seq ([] : List Value).toArray 0 } :=
    hsb₁.extBut _ _ hDC (Heap.get?_push_of_some _ (hH2 ▸ Heap.get?_push_size _ rfl))
  rw [hC] at hns₁ hsb₁ ⊢
  have loop : ∀ s3 : Shared, s3 = { s2 with heap := h₁, toks := s2.toks + ([] : List (Str × Value)).length } →
      codeAny (model X.prog X.w) X.A (.compLoop (.ListComp elt [⟨tg, iter, ifs, 0⟩] scope pos) 0 (.ref it) (.ref s2.heap.objs.size) (compCx X scope (s2.heap.objs.size + 1) s2 H2 fp pins).env)
        (RR (.ref s2.heap.objs.size) (s2.heap.objs.size + 1)) s3 := by
    rintro s3 rfl
    have I3 := comp_start (tk := s2.toks + ([] : List (Str × Value)).length) I2 hok f2 hlt hns₁ old ⟨0, hacc⟩
    obtain ⟨hPG, hPT, hPE⟩ := hb (s2.heap.objs.size + 1) s2 H2 fp pins
    generalize eX : compCx X scope (s2.heap.objs.size + 1) s2 H2 fp pins = X' at I3 hPG hPT hPE ⊢
    have e1 : X'.prog = X.prog := by rw [← eX]; rfl
    have e2 : X'.w = X.w := by rw [← eX]; rfl
    have e3 : X'.K = X.K := by rw [← eX]; rfl
    have e4 : X'.calm = true := by rw [← eX]; exact hc
    have e5 : X'.A = X.A := by rw [← eX]; rfl
    have e6 : X'.xe = NoE := by rw [← eX]; rfl
    have e7 : X'.env.locals = s2.heap.objs.size + 1 := by rw [← eX]; rfl
    have e8 : X'.pn = X.pn ++ pins := by rw [← eX]; rfl
    have e9 : X'.ex = fp := by rw [← eX]; rfl
    have stat : ∀ {H' : Hp}, (∀ b ∈ fp, H' b = none) → ∀ b ∈ fp, FpOk X' [] H' b := fun hn b hb => by
      refine ⟨hn b hb, by rw [e7]; exact Nat.ne_of_lt (Nat.lt_succ_of_lt (hlt b hb)), fun z => ?_, .inl (by rw [e9]; exact hb), fun x c e => ?_, fun p hp => ?_⟩
      · exact I3.ok.exfs b (by rw [e9]; exact hb) z
      · exact (I3.ok.exf b (by rw [e9]; exact hb)).2 x c e
      · rw [e8, List.append_nil] at hp
        exact (f2 b hb).2.2.2.2.2 p hp
    refine compLoop_any (fun n s' => ∃ i σ' H' ys, Inv X' [] σ' H' s' ∧ Sub (clr ks σ) σ' ∧ tn i s'.heap ∧ (∀ b ∈ fp, H' b = none) ∧ W i n ys H') ?_ m0
      ⟨0, clr ks σ, _, [], I3, Sub.refl _, T.keep _ _ _ st2 fun b _ o e => old b o e, fun b hb => by rw [upd_ne (Nat.ne_of_lt (hlt b hb))]; exact (f2 b hb).1, w0⟩
    rintro n s3 ⟨i, σ3, H3, ys, J3, sub3, st3, fr3, w3⟩
    obtain ⟨hD3, hw⟩ := turn i n ys H3 w3
    have J3w : Inv X' [] (clr ks σ) H3 s3 := J3.weak sub3.1.symm fun i v e => sub3.2 i v e
    rcases hw with ⟨stop, q⟩ | ⟨go, hlen, step⟩
    · have dn := T.done X' e1 e2 e3 e4 i [] s3 σ3 H3 NoE J3 (stat fr3) st3 stop
      rw [e5] at dn
      refine thn dn fun r s4 ⟨hr, I4⟩ => ?_
      subst hr
      obtain ⟨m, hn, _⟩ := id I4.loc
      rw [e7] at hn
      have base4 : Un (frs X.stack) fp H2 H3 s2.heap s4.heap := by
        have := I4.base
        rw [← eX] at this
        exact this
      have hok4 : HOk X.prog X.w H3 s4.heap := by
        have := I4.hok
        rw [e1, e2] at this
        exact this
      have os4 : s4.os = s2.os := by
        have := I4.os
        rw [← eX] at this
        exact this
      have J1 : Inv X pins σ H3 s4 := I2.call' os4 base4 hok4 I4.bare fun b hb => ⟨(f2 b hb).2.2.2.1, (f2 b hb).2.1, (f2 b hb).2.2.2.2.1, (f2 b hb).2.2.2.2.2⟩
      have fC : H3 (s2.heap.objs.size + 1) = none := by
        have := I4.free
        rw [e7] at this
        exact this
      have fk := I2.fpOk (H' := H3) (Nat.le_succ _) fC
      exact fin s4 H3 m J1 hn fk q
    · have itm := T.item X' e1 e2 e3 e4 i [] s3 (clr ks σ) H3 NoE J3w (stat fr3) st3 go
      rw [e5] at itm
      refine thn itm fun r s4 ⟨u, hr, h4⟩ => ?_
      subst hr
      refine thn h4 fun _ s5 ⟨x, H5, I5, r5, y5, st5, fr5⟩ => ?_
      have I5' := I5.pinned (stat fr5) (T.obj _ _ st5)
      have a1 := hPG _ s5 (clr ks σ) H5 x u _ I5' r5 (step x H5 y5)
      rw [e1, e2, e5, e6] at a1
      refine thn a1 fun _ s6 ⟨σ6, H6, I6, sub6, q6⟩ => ?_
      have a2 := hPT _ s6 σ6 H6 _ I6 q6
      rw [e1, e2, e5, e6] at a2
      refine thn a2 fun ok s7 ⟨H7, I7, q7⟩ => ?_
      have again : ∀ {H8 : Hp} {s8 : Shared} {ys' : List V}, Inv X' ([] ++ pinsAt fp s5.heap) σ6 H8 s8 → (∃ m', m' < n ∧ W (i + 1) m' ys' H8) → ∃ m, m < n ∧ ∃ i σ' H' ys, Inv X' [] σ' H' s8 ∧ Sub (clr ks σ) σ' ∧ tn i s8.heap ∧ (∀ b ∈ fp, H' b = none) ∧ W i m ys H' := fun {H8 s8 ys'} I8 n8 => by
        obtain ⟨m', hm, w8⟩ := n8
        refine ⟨m', hm, i + 1, σ6, H8, ys', I8.unpinned, sub6, T.keep _ _ _ st5 fun b hb o e => (I8.pin (b, o) (List.mem_append_right _ (List.mem_append_right _ (mem_pinsAt hb e)))).1, fun b hb => ?_, w8⟩
        obtain ⟨o, e, d⟩ := T.obj _ _ st5 b hb
        exact (I8.pin (b, o) (List.mem_append_right _ (List.mem_append_right _ (mem_pinsAt hb e)))).2.1
      cases ok with
      | false =>
        rw [if_neg (by simp)] at q7 ⊢
        exact again I7 q7
      | true =>
        rw [if_pos rfl] at q7 ⊢
        have a3 := hPE _ s7 σ6 H7 _ I7 q7
        rw [e1, e2, e5, e6] at a3
        refine thn a3 fun y s8 ⟨yv, H8, I8, r8, hD8, q8⟩ => ?_
        have a4 := mt_append (X := X') _ s8 σ6 H8 (.ref s2.heap.objs.size) [yv] (.ref s2.heap.objs.size) [y] (fun _ H9 => ∃ m', m' < n ∧ W (i + 1) m' (ys ++ [yv]) H9) I8 rfl (.cons r8 .nil) ⟨s2.heap.objs.size, ys, yv, rfl, rfl, hD8, hlen, q8⟩
        rw [e1, e2, e5, e6] at a4
        refine thn a4 fun _ s9 ⟨_, H9, I9, _, q9⟩ => ?_
        exact again I9 q9
  exact codeAny_compStart_list (loop _ rfl) (T.self _ 0 _ _ _ (T.keep _ _ _ st2 fun b _ o e => old b o e) (loop _ rfl))
theorem pe_comp {elt tg iter : Expr} {ifs : List Expr} {scope : Scope} {pos : Pos} {wi : TI} {g : TG} {tc : TT} {te : TE} (hc : X.calm = true) (ks : List Nat) (hi : PI X tg iter wi)
    (hb : ∀ C s H fp pins, PG (compCx X scope C s H fp pins) tg g ∧ PTs (compCx X scope C s H fp pins) ifs tc ∧ PE (compCx X scope C s H fp pins) elt te)
    (hok : compOk X.N ks scope X.env.scope = true := by rfl) (hs : ∀ x, foldedSetIterable iter X.env x = pure x := by intro _; rfl) :
    PE X (.ListComp elt [⟨tg, iter, ifs, 0⟩] scope pos) (tComp wi ks g tc te) := by
  intro pins s σ H Q I h
  rw [eval_ListComp]
  refine wpAny_comprehension_free (use := none) rfl hs (comp_free I hok) (compOk_kind hok) (compOk_local hok) ?_
  show wpAny _ _ (eval iter X.env) _ _ s
  refine thn (hi pins s σ H _ I h) fun v s1 h1 => thn h1 fun itv s2 h2 => ?_
  obtain ⟨it, fp, tn, J, H2, e, I2, T, st2, f2, q2⟩ := h2
  subst e
  refine comp_core (Q := Q) (RR := fun acc C => compPost (model X.prog X.w) X.A X.xe none (EP X pins σ Q) acc C) hc ks hb hok I2 T st2 f2 q2 ?_
  intro s4 H3 m J1 hn fk q
  refine ⟨m, hn, fun h' hs' => ?_⟩
  have J2 : Inv X pins σ H3 { s4 with heap := h' } := J1.turned (t' := s4.toks) (it := s2.heap.objs.size + 1) (fun b o hb e => hs'.extBut b o hb e) fk.1 fk.2.1 fk.2.2.2.1 fk.2.2.2.2.1 fk.2.2.2.2.2
  exact ⟨.ref s2.heap.objs.size, H3, J2, rfl, q⟩
theorem ps_setc {elt tg iter : Expr} {ifs : List Expr} {scope : Scope} {pos : Pos} {wi : TI} {g : TG} {tc : TT} {te : TE} (i : Nat) {x : Str} {pos' spos : Pos} (hc : X.calm = true) (ks : List Nat) (hN : X.N.Nodup) (hi : PI X tg iter wi)
    (hb : ∀ C s H fp pins, PG (compCx X scope C s H fp pins) tg g ∧ PTs (compCx X scope C s H fp pins) ifs tc ∧ PE (compCx X scope C s H fp pins) elt te)
    (hx : X.N[i]? = some x := by rfl) (hl : X.env.scope.names.lookup x = some .local := by rfl) (hsw : swapsWith (.ListComp elt [⟨tg, iter, ifs, 0⟩] scope pos) (some (.Name x pos')) spos.line X.env = pure true := by rfl)
    (hok : compOk X.N ks scope X.env.scope = true := by rfl) (hs : ∀ x, foldedSetIterable iter X.env x = pure x := by intro _; rfl) :
    PS X (.Assign [.Name x pos'] (.ListComp elt [⟨tg, iter, ifs, 0⟩] scope pos) spos) (tAsg (tComp wi ks g tc te) (gName i)) := by
  intro pins s σ H D I h
  rw [exec_Assign_Name_used _ _ _ _ hsw]
  refine wpAny_bind (wpAny_standAt (wpAny_bind ?_))
  show wpAny _ X.A (do let _ ← comprehension (.ListComp elt [⟨tg, iter, ifs, 0⟩] scope pos) scope X.env _ (newList []) false (eval iter X.env) (some (assign (.Name x pos') X.env))) _ _ s
  refine wpAny_bind (wpAny_mono (wpAny_comprehension_free (use := some (assign (.Name x pos') X.env)) (Q := fun _ s' => SP X pins D .next s') rfl hs (comp_free I hok) (compOk_kind hok) (compOk_local hok) ?_) (fun _ s' q => wpAny_pure (wpAny_pure q)) fun _ _ e => e)
  refine thn (hi pins s σ H _ I h) fun v s1 h1 => thn h1 fun itv s2 h2 => ?_
  obtain ⟨it, fp, tn, J, H2, e, I2, T, st2, f2, q2⟩ := h2
  subst e
  refine comp_core (Q := fun v H' => gName i v σ H' D.nx) (g := g) (tc := tc) (te := te) (RR := fun acc C => compPost (model X.prog X.w) X.A X.xe (some (assign (.Name x pos') X.env)) (fun _ s' => SP X pins D .next s') acc C) hc ks hb hok I2 T st2 f2 q2 ?_
  intro s4 H3 m J1 hn fk q
  obtain ⟨oC, es, ep, hoC, hdC, hrC⟩ := id hn
  have J1' : Inv X (pins ++ [(s2.heap.objs.size + 1, oC)]) σ H3 s4 := J1.pins_of fun p hp => (List.mem_append.mp hp).elim (fun z => J1.pin p (List.mem_append_right _ z)) fun z => by
    have e : p = (s2.heap.objs.size + 1, oC) := by simpa using z
    subst e
    exact ⟨hoC, fk.1, fk.2.1, fk.2.2.1, fun v z => by rw [hdC] at z; cases z⟩
  show wpAny _ _ (assign (.Name x pos') X.env (.ref s2.heap.objs.size)) _ _ s4
  refine wpAny_assign_Name (store_ok J1' hN hx (.inl hl) (v := .ref s2.heap.objs.size) rfl (fun s5 I5 => ?_) (.inr hl))
  have pc := (I5.pin (s2.heap.objs.size + 1, oC) (List.mem_append_right _ (List.mem_append_right _ (by simp)))).1
  refine ⟨m, ⟨oC, es, ep, pc, hdC, hrC⟩, fun h' hs' => ?_⟩
  have I6 : Inv X pins (σ.set i (some (.ref s2.heap.objs.size))) H3 s5 := I5.unpinned
  exact ⟨_, H3, I6.turned (t' := s5.toks) (it := s2.heap.objs.size + 1) (fun b o hb e => hs'.extBut b o hb e) fk.1 fk.2.1 fk.2.2.2.1 fk.2.2.2.2.1 fk.2.2.2.2.2, q⟩
end
end L2
set_option Elab.async false
set_option linter.all false
set_option maxRecDepth 100000
set_option maxHeartbeats 4000000
namespace L2
open PySem PySem.Spec PyProof.Rows
mutual
inductive Den (K : PySem.W.Frag) (H : Hp) : V → PyData → Prop
  | non : Den K H .non .none
  | bl (b : Bool) : Den K H (.bl b) (.bool b)
  | int (i : Int) : Den K H (.int i) (.int i)
  | str (x : Str) : Den K H (.str x) (.str x)
  | lst {a : Addr} {xs : List V} {ds : List PyData} : SqL K H a xs → DenAll K H xs ds → Den K H (.ref a) (.list ds)
  | tup {a : Addr} {xs : List V} {ds : List PyData} : SqT K H a xs → DenAll K H xs ds → Den K H (.ref a) (.tuple ds)
inductive DenAll (K : PySem.W.Frag) (H : Hp) : List V → List PyData → Prop
  | nil : DenAll K H [] []
  | cons {x : V} {d : PyData} {xs : List V} {ds : List PyData} : Den K H x d → DenAll K H xs ds → DenAll K H (x :: xs) (d :: ds)
end
theorem Same.seqT {K : PySem.W.Frag} {H H' : Hp} {a : Addr} {xs : List V} (e : Same H H') (h : SqT K H a xs) : SqT K H' a xs := by
  rcases h with (h | ⟨o, h⟩) | h
  · exact .inl (.inl (e _ _ h))
  · exact .inl (.inr ⟨o, e _ _ h⟩)
  · exact .inr h
mutual
theorem Den.mono {K : PySem.W.Frag} {H H' : Hp} (e : Same H H') : ∀ {x : V} {d : PyData}, Den K H x d → Den K H' x d
  | _, _, .non => .non
  | _, _, .bl b => .bl b
  | _, _, .int i => .int i
  | _, _, .str x => .str x
  | _, _, .lst h r => .lst (e.seq h) (DenAll.mono e r)
  | _, _, .tup h r => .tup (e.seqT h) (DenAll.mono e r)
theorem DenAll.mono {K : PySem.W.Frag} {H H' : Hp} (e : Same H H') : ∀ {xs : List V} {ds : List PyData}, DenAll K H xs ds → DenAll K H' xs ds
  | _, _, .nil => .nil
  | _, _, .cons h r => .cons (Den.mono e h) (DenAll.mono e r)
end
mutual
theorem Den.reads {X : Cx} {pins : List (Addr × Obj)} {σ : St} {H : Hp} {s : Shared} (I : Inv X pins σ H s) : ∀ {x : V} {d : PyData} {u : Value}, Den X.K H x d → RelV x u → ∃ as, Reads s.heap u d as
  | _, _, _, .non, r => by cases (show _ = Value.none from r); exact ⟨_, .none⟩
  | _, _, _, .bl b, r => by cases (show _ = Value.bool b from r); exact ⟨_, .bool b⟩
  | _, _, _, .int i, r => by obtain ⟨t, q⟩ := (show ∃ t, _ = Value.int i t from r); cases q; exact ⟨_, .int i t⟩
  | _, _, _, .str x, r => by obtain ⟨t, q⟩ := (show ∃ t, _ = Value.str x t from r); cases q; exact ⟨_, .str x t⟩
  | _, _, _, .lst (a := a) h q, r => by
    cases (show _ = Value.ref a from r)
    obtain ⟨its, rv, p, hz⟩ := I.list h
    obtain ⟨as, ra⟩ := DenAll.reads I q rv
    obtain ⟨o, e, c, n, d⟩ := p.isList
    exact ⟨_, .list e c d ra⟩
  | _, _, _, .tup (a := a) h q, r => by
    cases (show _ = Value.ref a from r)
    obtain ⟨its, rv, p, hz⟩ := I.tuple h
    obtain ⟨as, ra⟩ := DenAll.reads I q rv
    obtain ⟨o, e, c, n, d⟩ := p
    exact ⟨_, .tuple e c d ra⟩
theorem DenAll.reads {X : Cx} {pins : List (Addr × Obj)} {σ : St} {H : Hp} {s : Shared} (I : Inv X pins σ H s) : ∀ {xs : List V} {ds : List PyData} {us : List Value}, DenAll X.K H xs ds → Vals xs us → ∃ as, ReadsAll s.heap us ds as
  | _, _, _, .nil, .nil => ⟨_, .nil⟩
  | _, _, _, .cons h r, .cons ru rr => by
    obtain ⟨as, a⟩ := Den.reads I h ru
    obtain ⟨bs, b⟩ := DenAll.reads I r rr
    exact ⟨_, .cons a b⟩
end
theorem den_ints {K : PySem.W.Frag} {H : Hp} : ∀ ns : List Int, DenAll K H (ns.map V.int) (ns.map PyData.int)
  | [] => .nil
  | n :: r => .cons (.int n) (den_ints r)
theorem den_list {K : PySem.W.Frag} {H : Hp} {a : Addr} {ns : List Int} (h : SqL K H a (ns.map V.int)) : Den K H (.ref a) (.list (ns.map PyData.int)) := .lst h (den_ints ns)
section
variable {X : Cx}
def rEqD (K : PySem.W.Frag) : R2 := fun x y H Q => ∃ da db, Den K H x da ∧ Den K H y db ∧ da.canLay0 = true ∧ db.canLay0 = true ∧ da.depth ≤ 40 ∧ Q (.bl (PyData.eqv da db)) H
def rNeD (K : PySem.W.Frag) : R2 := fun x y H Q => ∃ da db, Den K H x da ∧ Den K H y db ∧ da.canLay0 = true ∧ db.canLay0 = true ∧ da.depth ≤ 40 ∧ Q (.bl (!PyData.eqv da db)) H
theorem op_eqD (hu : X.A.units + 64 < cLine) : OpR X (compareOp .Eq) (rEqD X.K) := by
  intro pins s σ H x y v u Q I rx ry h
  obtain ⟨da, db, d1, d2, l1, l2, dp, q⟩ := h
  obtain ⟨as, ra⟩ := d1.reads I rx
  obtain ⟨bs, rb⟩ := d2.reads I ry
  exact PySem.SeqAt.compareEq_reads ra rb l1 l2 (by omega) ⟨.bl _, H, I, rfl, q⟩
theorem op_neD (hu : X.A.units + 64 < cLine) : OpR X (compareOp .NotEq) (rNeD X.K) := by
  intro pins s σ H x y v u Q I rx ry h
  obtain ⟨da, db, d1, d2, l1, l2, dp, q⟩ := h
  obtain ⟨as, ra⟩ := d1.reads I rx
  obtain ⟨bs, rb⟩ := d2.reads I ry
  exact PySem.SeqAt.compareNe_reads ra rb l1 l2 (by omega) ⟨.bl _, H, I, rfl, q⟩
theorem call_isi : CallR X (.builtin "isinstance") (fun xs H Q => ∃ x T t b, xs = [x, .ty T] ∧ TyOf X.K H x t ∧ PySem.W.kitOne X.K t (.type T) = some b ∧ Q (.bl b) H) := by
  intro pins s σ H xs us Q I r h
  obtain ⟨x, T, t, b, rfl, ty, e, q⟩ := h
  obtain ⟨u, w', rfl, rx, rt⟩ := vals2 r
  cases (show w' = Value.type T from rt)
  exact isinst_ok I rx ty e fun tk => ⟨.bl b, H, I.tok tk, rfl, q⟩
theorem all_getD (bs : List Bool) : (List.range bs.length).all (fun i => bs.getD i false) = bs.all id := by
  rw [Bool.eq_iff_iff, List.all_eq_true, List.all_eq_true]
  constructor
  · intro h x hx
    obtain ⟨i, hi, e⟩ := List.getElem_of_mem hx
    have := h i (List.mem_range.mpr hi)
    rw [List.getD_eq_getElem?_getD, List.getElem?_eq_getElem hi] at this
    rw [← e]; exact this
  · intro h i hi
    have hi := List.mem_range.mp hi
    rw [List.getD_eq_getElem?_getD, List.getElem?_eq_getElem hi]
    exact h _ (List.getElem_mem hi)
theorem vals_at_bl {bs : List Bool} {its : List Value} (r : Vals (bs.map V.bl) its) {i : Nat} {v : Value} (h : its.toArray[i]? = some v) : v = .bool (bs.getD i false) := by
  have hl := r.length
  rw [List.length_map] at hl
  have h' : its[i]? = some v := by simpa using h
  have hi : i < bs.length := by
    have := (List.getElem?_eq_some_iff.mp h').1
    omega
  obtain ⟨u, hu, ru⟩ := r.get (i := i) (x := .bl bs[i]) (by rw [List.getElem?_map, List.getElem?_eq_getElem hi]; rfl)
  rw [h'] at hu; cases hu
  rw [List.getD_eq_getElem?_getD, List.getElem?_eq_getElem hi]
  exact ru
theorem vals_at_int {ns : List Int} {its : List Value} (r : Vals (ns.map V.int) its) {i : Nat} {v : Value} (h : its.toArray[i]? = some v) : ∃ t, v = .int (ns.getD i 0) t := by
  have hl := r.length
  rw [List.length_map] at hl
  have h' : its[i]? = some v := by simpa using h
  have hi : i < ns.length := by
    have := (List.getElem?_eq_some_iff.mp h').1
    omega
  obtain ⟨u, hu, ru⟩ := r.get (i := i) (x := .int ns[i]) (by rw [List.getElem?_map, List.getElem?_eq_getElem hi]; rfl)
  rw [h'] at hu; cases hu
  rw [List.getD_eq_getElem?_getD, List.getElem?_eq_getElem hi]
  exact ru
theorem call_allL (hc : X.calm = true) : CallR X (.builtin "all") (fun xs H Q => ∃ (p : Addr) (bs : List Bool), xs = [.ref p] ∧ SqL X.K H p (bs.map V.bl) ∧ Q (.bl (bs.all id)) H) := by
  intro pins s σ H xs us Q I r h
  obtain ⟨p, bs, rfl, hq, q⟩ := h
  obtain ⟨u, rfl, rx⟩ := vals1 r
  cases rx
  obtain ⟨its, r', pl, hz⟩ := I.list hq
  have hlen := r'.length
  rw [List.length_map] at hlen
  have hp : p < s.heap.objs.size := by obtain ⟨o, e, _⟩ := pl.isList; exact Heap.lt_size e
  refine call_all_walk (wpAny_pyIter_list pl.isList ?_)
  refine ⟨s.heap.objs.size, _, _, _, _, _, fun i => bs.getD i false, rfl, Walks.list (A := X.A.in1) (I.ok.hd hc) s.heap.objs.size p (Nat.ne_of_lt hp) its.toArray, ⟨⟨_, Heap.get?_push_size _ rfl, rfl, rfl⟩, pl.isList.at fun o e => Heap.get?_push_of_some _ e⟩, fun i v s' Q' E' hv hQ' => ?_, fun h' tk hk => ?_⟩
  · rw [vals_at_bl r' hv]
    exact wpAny_truthy_bool hQ'
  · refine ⟨.bl _, H, I.kept fun b o e => hk b o ?_ (Heap.get?_push_of_some _ e), rfl, ?_⟩
    · simp only [List.mem_singleton]; exact Nat.ne_of_lt (Heap.lt_size e)
    · rw [List.size_toArray, ← hlen, all_getD]; exact q
theorem call_sortedI : CallR X (.builtin "sorted") (fun xs H Q => ∃ (p : Addr) (ns : List Int), xs = [.ref p] ∧ SqL X.K H p (ns.map V.int) ∧ ns.length < 64 ∧
    ∀ (l : Addr) (ns' : List Int), H l = none → ns'.Perm ns → ns'.Pairwise (· ≤ ·) → Q (.ref l) (upd H l (.lst (ns'.map V.int)))) := by
  intro pins s σ H xs us Q I r h
  obtain ⟨p, ns, rfl, hq, h64, q⟩ := h
  obtain ⟨u, rfl, rx⟩ := vals1 r
  cases rx
  obtain ⟨its, r', pl, hz⟩ := I.list hq
  have hlen := r'.length
  rw [List.length_map] at hlen
  refine sorted_ints pl.isList (intsAre_of r') (by omega) fun out ns' a1 a2 a3 => ?_
  obtain ⟨e, he⟩ := sortedAll_at s.heap its out
  refine ⟨.ref (s.heap.objs.size + 1), _, I.laid (t' := s.toks) (fun b o z => sortedAll_old z) (Nat.le_succ _) (show ObjOk X.prog X.w _ _ _ (.lst (ns'.map V.int)) from ?_), rfl, q _ ns' (I.hok.fresh (Nat.le_succ _)) a2 a3⟩
  refine ⟨by rw [List.length_map, a2.length_eq]; rw [List.length_map] at hz; exact hz, out.toList, e, vals_ints a1, ?_⟩
  exact he
theorem vals_of : ∀ {xs : List V} {us : List Value}, xs.length = us.length → (∀ (i : Nat) x u, xs[i]? = some x → us[i]? = some u → RelV x u) → Vals xs us
  | [], [], _, _ => .nil
  | [], _ :: _, h, _ => by simp at h
  | _ :: _, [], h, _ => by simp at h
  | x :: xs, u :: us, h, f => .cons (f 0 x u rfl rfl) (vals_of (by simpa using h) fun i a b h1 h2 => f (i + 1) a b (by simpa using h1) (by simpa using h2))
theorem items_ints {f : Nat → Int} {n : Nat} {acc : Array Value} (h : ItemsOf (fun i v => ∃ t, v = .int (f i) t) acc n) : Vals (((List.range n).map f).map V.int) acc.toList := by
  obtain ⟨h1, h2⟩ := h
  refine vals_of (by simp [h1]) fun i x u hx hu => ?_
  obtain ⟨t, e⟩ := h2 i u (by simpa using hu)
  have hi : i < n := by
    have := (List.getElem?_eq_some_iff.mp hx).1
    simpa using this
  have : x = .int (f i) := by
    rw [List.getElem?_map, List.getElem?_map, List.getElem?_range hi] at hx
    exact (Option.some.inj hx).symm
  subst this
  exact ⟨t, e⟩
def upI (lo hi : Int) : List Int := (List.range (hi - lo).toNat).map fun (i : Nat) => lo + (i : Int)
theorem line24 : (1000 : Nat) ≤ sizeLine := Nat.le_of_lt (small1000 (Nat.le_refl _))
theorem listRange_ok {pins : List (Addr × Obj)} {σ : St} {H : Hp} {s : Shared} {Q : VK} {a b c : Int} {t u v : Tok} {tk n : Nat} {f : Nat → Int} (hc : X.calm = true) (I : Inv X pins σ H s)
    (hsm : Builtin.Range.small a b c = true) (hn : Builtin.Range.rangeSize a b c = n) (hlen : n ≤ 1000) (hf : ∀ i : Nat, a + i * c = f i) (q : ∀ l, H l = none → Q (.ref l) (upd H l (.lst (((List.range n).map f).map V.int)))) :
    wpAny (model X.prog X.w) X.A (call (.type "list") [.ref s.heap.objs.size]) (EP X pins σ Q) X.xe { s with heap := s.heap.push { cls := .type "range", data := .fields #[.int a t, .int b u, .int c v] }, toks := tk } := by
  have I1 : Inv X pins σ H { s with heap := s.heap.push { cls := .type "range", data := .fields #[.int a t, .int b u, .int c v] }, toks := tk } := I.kept fun b o e => Heap.get?_push_of_some _ e
  refine call_list_range (I.ok.hd hc) (IsRange.new ..) hsm hn (Nat.le_trans hlen (by decide)) fun h' tk' acc' c' kp e it => ?_
  refine ⟨.ref _, _, I1.laid (t' := tk') kp (Nat.le_refl _) (show ObjOk X.prog X.w _ _ _ (.lst (((List.range n).map f).map V.int)) from ?_), rfl, q _ (I1.hok.fresh (Nat.le_refl _))⟩
  refine ⟨by simp only [List.length_map, List.length_range]; exact Nat.le_trans hlen line24, acc'.toList, c', items_ints ⟨it.1, fun j w hj => ?_⟩, by simpa using e⟩
  obtain ⟨t', e'⟩ := it.2 j w hj
  exact ⟨t', by rw [← hf]; exact e'⟩
def tLR1 (ta : TA) : TE := fun σ H Q => ta σ H fun vs H1 => ∃ j : Int, vs = [.int j] ∧ -1000 ≤ j ∧ j ≤ 1000 ∧ ∀ l, H1 l = none → Q (.ref l) (upd H1 l (.lst ((upI 0 j).map V.int)))
theorem pe_listRange1 {a : Expr} {ta : TA} {p p' pos pos' : Pos} (hl : X.mg "list" = none) (hr : X.mg "range" = none) (ha : PA X [a] ta) (hc : X.calm = true := by rfl) (hg : Gl X "list" := by rfl) (hg' : Gl X "range" := by rfl)
    (hs : starEach [a] X.env = [(false, eval a X.env)] := by rfl) (hs2 : starEach [.Call (.Name "range" p') [a] [] pos'] X.env = [(false, eval (.Call (.Name "range" p') [a] [] pos') X.env)] := by rfl) :
    PE X (.Call (.Name "list" p) [.Call (.Name "range" p') [a] [] pos'] [] pos) (tLR1 ta) := by
  intro pins s σ H Q I h
  refine wpAny_Call_Name_kw (ld_blt I hg hl boot_list ?_)
  refine PyProof.Rows.callWith_type1 ?_ (by rw [hs2]; rfl) (by rfl)
  rw [hs2]
  show wpAny _ _ (spliced ((false, eval (.Call (.Name "range" p') [a] [] pos') X.env) :: [])) _ _ s
  refine Calls.spliced_cons (Call_ (ld_blt I hg' hr boot_range (PyProof.Rows.callWith_type1 (thn (ha pos' pins s σ H _ I h) fun us s1 ⟨vs, H1, I1, r1, q1⟩ => ?_) hs rfl)))
  obtain ⟨j, e, q1, q2, q⟩ := q1
  subst e
  obtain ⟨u, rfl, t, rfl⟩ := vals1 r1
  refine call_range_1 (Calls.spliced_nil ?_)
  exact listRange_ok (n := j.toNat) (f := fun i => (0 : Int) + i) hc I1 (small_one (by omega) (by omega) (by omega) (by omega)) (by rw [rangeSize_nat]; simp) (by omega) (fun i => by omega) (by simpa [upI] using q)
end
end L2
set_option Elab.async false
set_option linter.all false
set_option maxRecDepth 100000
set_option maxHeartbeats 4000000
namespace L2
open PySem PySem.Spec PyProof.Rows
section
variable {X : Cx}
theorem pgn (hN : X.N.Nodup) (i : Nat) {x : Str} {pos : Pos} (hi : X.N[i]? = some x := by rfl) (hx : Loc X.env.scope x := by first | exact Or.inl rfl | exact Or.inr rfl)
    (hf : X.fn x = true ∨ X.env.scope.names.lookup x = some .local := by first | exact .inl rfl | exact .inr rfl) : PG X (.Name x pos) (gName i) := pg_name hN hi hx hf
theorem pset (hN : X.N.Nodup) (i : Nat) {x : Str} {e : Expr} {te : TE} {pos pos' : Pos} (he : PE X e te) (hi : X.N[i]? = some x := by rfl) (hx : Loc X.env.scope x := by first | exact Or.inl rfl | exact Or.inr rfl)
    (hs : swapsWith e (some (.Name x pos')) pos.line X.env = pure false := by rfl) (hf : X.fn x = true ∨ X.env.scope.names.lookup x = some .local := by first | exact .inl rfl | exact .inr rfl) : PS X (.Assign [.Name x pos'] e pos) (tAsg te (gName i)) := ps_set (i := i) hN hi hx he hs hf
structure Fn (P : Program) (w : World) (K : PySem.W.Frag) (mg : Str → Option Value) (base : Heap) (CX : CXT) (k : Nat) (x : Str) (ps : List Str) (sp : Sp) : Prop where
  ex : ∃ (f : Addr) (fd : FuncData), FnOk P w K mg base CX k f fd ps sp ∧ Binds K fd ps [] ∧ PySem.W.keepIn K (.ref f) = true ∧ mg x = some (.ref f) ∧ ∃ oc od osl, K.lookup f = some ⟨oc, od, .func fd, osl⟩
def Df (K : PySem.W.Frag) (mg : Str → Option Value) (x : Str) (st : Stmt) (ps : List Str) : Prop := ∃ (f : Addr) (fd : FuncData), Fun K x x st f fd ∧ Binds K fd ps [] ∧ mg x = some (.ref f)
theorem pe_callF {k : Nat} {x : Str} {ps : List Str} {sp : Sp} {e : Expr} {es : List Expr} {t : TA} {p pos : Pos} (G : Fn X.prog X.w X.K X.mg X.base CX0 k x ps sp) (hr : Room k X.A) (ha : PA X (e :: es) t) (hg : Gl X x := by rfl)
    (hdb : (x == ("__debug__" : Str)) = false := by decide) (he : starEach (e :: es) X.env = (false, eval e X.env) :: starEach es X.env := by rfl) (hpl : (backTo pos (starEach es X.env)).any (·.1) = false := by rfl) :
    PE X (.Call (.Name x p) (e :: es) [] pos) (tCall sp [] E0 t) := by
  obtain ⟨f, fd, F, hb, hk, hm, _⟩ := G.ex
  exact pe_call F hr hg hm hk hb .nil pass0 ha hdb he hpl
theorem Fun.lk {K : PySem.W.Frag} {x qual : Str} {st : Stmt} {f : Addr} {fd : FuncData} (F : Fun K x qual st f fd) : ∃ oc od osl, K.lookup f = some ⟨oc, od, .func fd, osl⟩ := by
  obtain ⟨oc, od, _, _, _, _, _, _, osl, _, lk, _⟩ := F.ex
  exact ⟨oc, od, osl, lk⟩
theorem Fn.mono {P : Program} {w : World} {K : PySem.W.Frag} {mg : Str → Option Value} {base : Heap} {CX : CXT} {j k : Nat} {x : Str} {ps : List Str} {sp : Sp} (a : Fn P w K mg base CX j x ps sp) (h : j ≤ k) : Fn P w K mg base CX k x ps sp := by
  obtain ⟨f, fd, F, r⟩ := a.ex
  exact ⟨f, fd, F.mono h, r⟩
theorem Fn.any {P : Program} {w : World} {K : PySem.W.Frag} {mg : Str → Option Value} {base : Heap} {CX : CXT} {k : Nat} {x : Str} {ps : List Str} {sp : Sp} (a : Fn P w K mg base CX0 k x ps sp) : Fn P w K mg base CX k x ps sp := by
  obtain ⟨f, fd, F, r⟩ := a.ex
  refine ⟨f, fd, ⟨F.len, fun A outer s H args us vs Q E hr he hb hv hs => codeAny_mono (F.run A outer s H args us vs Q E hr he hb hv hs) fun r s' q => ?_⟩, r⟩
  cases r with
  | error e => exact False.elim q
  | ok fl => cases fl <;> exact q
theorem Df.fn {P : Program} {w : World} {K : PySem.W.Frag} {mg : Str → Option Value} {base : Heap} {x : Str} {st : Stmt} {N ps : List Str} {k : Nat} {sp : Sp} (F : Df K mg x st ps) (S : FnScope N ps (defScope st)) (len : ∀ vs H Q E, sp vs H Q E → vs.length = ps.length)
    (hbody : ∀ (f : Addr) (cdv : Value) (A : Around) (outer : List Env) (s : Shared) (H : Hp) (vs : List V) (Q : VK) (E : XK), Room k (A.deeper (envOfC x (defScope st) s.heap.objs.size f cdv)) → sp vs H Q E →
      ∃ t, PSs (cxOf CX0 P w K mg base N x (defScope st) f cdv A outer s H E).nox (defBody st) t ∧ t { nx := fun _ H' => Q .non H', rt := Q } (start N vs) H) : Fn P w K mg base CX0 (k + 1) x ps sp := by
  obtain ⟨f, fd, F, hb, hm⟩ := F
  exact ⟨f, fd, F.ok S len (fun cdv => hbody f cdv), hb, F.kp, hm, F.lk⟩
def tRev (K : PySem.W.Frag) (te : TE) : TE := fun σ H Q => te σ H fun x H1 => ∃ (a : Addr) (xs : List V), x = .ref a ∧ SqL K H1 a xs ∧ ∀ l, H1 l = none → Q (.ref l) (upd H1 l (.lst xs.reverse))
theorem pe_rev {e : Expr} {te : TE} {j : Nat} {p1 p2 p3 pos : Pos} (he : PE X e te) : PE X (.Subscript e (.Slice none none (some (.UnaryOp .USub (.Constant (.int 1) j p1) p3)) p2) pos) (tRev X.K te) := by
  intro pins s σ H Q I h
  refine Subscript_ (thn (he pins s σ H _ I h) fun v s1 ⟨x, H1, I1, r1, q1⟩ => ?_)
  obtain ⟨a, xs, rfl, hx, q⟩ := q1
  cases r1
  refine wpAny_Slice ?_
  rw [evalPart_none]
  refine wpAny_pure (wpAny_pure ?_)
  rw [evalPart_some]
  refine thn (pe_un un_neg (pe_int (X := X)) pins s1 σ H1 (fun y H2 => y = .int (-1) ∧ H2 = H1) I1 ⟨1, rfl, rfl, rfl⟩) fun w2 s2 ⟨y, H2, I2, r2, e1, e2⟩ => ?_
  subst e1 e2
  obtain ⟨t2, rfl⟩ := r2
  have I4 : Inv X pins σ H2 { s2 with heap := s2.heap.push { cls := .type "slice", data := .fields #[.none, .none, .int (-1) t2] } } := I2.kept (t' := s2.toks) fun b ob q => Heap.get?_push_of_some _ q
  obtain ⟨its, r, ht, hz⟩ := I4.list hx
  have hlen := r.length
  show wpAny (model X.prog X.w) X.A (subscriptTail e (.Slice none none (some (.UnaryOp .USub (.Constant (.int 1) j p1) p3)) p2) (.ref a) (.ref s2.heap.objs.size)) (EP X pins σ Q) X.xe { s2 with heap := s2.heap.push { cls := .type "slice", data := .fields #[.none, .none, .int (-1) t2] } }
  refine tail_any (ops := [.ref a, .ref s2.heap.objs.size]) ht.isList.typeIs slot_list_getitem.lookup ?_ (by with_unfolding_all rfl)
  refine wpAny_getItem_list_slice ht.isList (Heap.IsSliceOf.new ..) .none .none (.int (-1) t2) (by simp) ?_ (by rw [List.size_toArray]; omega)
  rw [PySem.W.krv_pick]
  refine ⟨.ref _, _, I4.laid (t' := s2.toks) (o := .lst xs.reverse) (fun b ob q => Heap.get?_push_of_some _ q) (Nat.le_refl _) ?_, rfl, q _ (I4.hok.fresh (Nat.le_refl _))⟩
  exact ⟨by rw [List.length_reverse]; exact hz, _, 0, by simpa using r.reverse, Heap.get?_push_size _ rfl⟩
def rIndex (K : PySem.W.Frag) : V → List V → Hp → VK → Prop := fun x vs H Q => ∃ (l : Addr) (ns : List Int) (i : Int) (j : Nat), x = .ref l ∧ vs = [.int i] ∧ SqL K H l (ns.map V.int) ∧ ns[j]? = some i ∧ (∀ m, m < j → ns[m]? ≠ some i) ∧ Q (.int (j : Nat)) H
theorem mt_index : MtM X "list.index" (rIndex X.K) := by
  intro pins s σ H x vs v us Q I rx rv h
  obtain ⟨l, ns, i, j, rfl, rfl, hH, hj, hno, q⟩ := h
  cases rx
  obtain ⟨u, rfl, t, rfl⟩ := rv.one
  obtain ⟨its, r, pl, hz⟩ := I.list hH
  have hlen := r.length
  rw [List.length_map] at hlen hz
  obtain ⟨⟨cls, dd, data, sl⟩, e, c, n, d⟩ := pl.isList
  simp only at c d
  subst c d
  have hji : j < ns.length := (List.getElem?_eq_some_iff.mp hj).1
  have hn := line63
  have at_ : ∀ (m : Nat) (hm : m < its.toArray.size), ∃ t, its.toArray[m] = .int (ns.getD m 0) t := fun m hm => vals_at_int r (Array.getElem?_eq_getElem hm)
  let ev : Value → Bool := fun y => match y with | .int k _ => k == i | _ => false
  refine call_meets F.slot_list_index ⟨_, e, rfl⟩ F.entry_list_index (F.args_list_index_2 _ _) (PySem.SeqAt.list_indexAt l its.toArray n dd sl (.int i t) ev j (by rw [List.size_toArray]; omega) (by omega) ?_ ?_) ⟨e, ?_, ?_⟩
  · obtain ⟨t', e'⟩ := at_ j (by rw [List.size_toArray]; omega)
    rw [e']
    show (ns.getD j 0 == i) = true
    rw [List.getD_eq_getElem?_getD, hj]; simp
  · intro m hm hlt
    obtain ⟨t', e'⟩ := at_ m hm
    rw [e']
    show (ns.getD m 0 == i) = false
    have hm' : m < ns.length := by omega
    have := hno m hlt
    rw [List.getElem?_eq_getElem hm'] at this
    rw [List.getD_eq_getElem?_getD, List.getElem?_eq_getElem hm']
    simp only [Option.getD_some, beq_eq_false_iff_ne, ne_eq]
    intro z; exact this (by rw [z])
  · intro y hy
    obtain ⟨m, hm, rfl⟩ := Array.getElem_of_mem hy
    obtain ⟨t', e'⟩ := at_ m hm
    rw [e']
    exact PySem.SeqAt.EqAt.int_int _ _ _ _
  · exact ⟨.int j, H, I.tok _, ⟨_, rfl⟩, q⟩
structure Feeds (J : It) (H0 : Hp) (n : Nat) (P : Nat → V → Hp → Prop) : Prop where
  go : ∀ i H, Same H0 H → i < n → J.go i H
  stop : ∀ H, Same H0 H → J.stop n H
  yld : ∀ i H x H', Same H0 H → i < n → J.yld i H x H' → Same H H' ∧ P i x H'
theorem feeds_list {K : PySem.W.Frag} {H0 : Hp} {a : Addr} {xs : List V} (h : SqL K H0 a xs) : Feeds (Itl K a) H0 xs.length (fun i x _ => xs[i]? = some x) where
  go := fun i H s hi => ⟨xs, xs[i], s.seq h, by simp [hi]⟩
  stop := fun H s => ⟨xs, s.seq h, Nat.le_refl _⟩
  yld := fun i H x H' s hi y => ⟨by rw [y.1]; exact Same.refl _, y.2 xs (s.seq h)⟩
theorem feeds_range {H0 : Hp} {lo : Int} {n : Nat} : Feeds (Itr lo n) H0 n (fun i x _ => x = .int (lo + i)) where
  go := fun i H s hi => hi
  stop := fun H s => Nat.le_refl _
  yld := fun i H x H' s hi y => ⟨by rw [y.1]; exact Same.refl _, y.2⟩
theorem Same.new {H : Hp} {p : Addr} {o : HO} (h : H p = none) : Same H (upd H p o) := fun b u q => by rw [upd_ne (ne_of_none q h)]; exact q
theorem Same.put {H0 H : Hp} {p : Addr} {o : HO} (s : Same H0 H) (h : H0 p = none) : Same H0 (upd H p o) := fun b u q => by rw [upd_ne (ne_of_none q h)]; exact s b u q
theorem comp_feed {J : It} {H1 : Hp} {n : Nat} {P : Nat → V → Hp → Prop} {σ : St} {k : Nat} {tc : TT} {te : TE} {Q : VK} (F : Feeds J H1 n P) (hn : n ≤ 1000) (b : Nat → Bool) (y : Nat → V) (hk : (clr [k] σ)[k]? = some none)
    (htest : ∀ i x H R, i < n → Same H1 H → P i x H → (∀ H', Same H H' → R (b i) H') → tc ((clr [k] σ).set k (some x)) H R)
    (helt : ∀ i x H R, i < n → Same H1 H → P i x H → b i = true → (∀ H', Same H H' → R (y i) H') → te ((clr [k] σ).set k (some x)) H R)
    (hP : ∀ i x H H', Same H H' → P i x H → P i x H')
    (q : ∀ D H', H1 D = none → Same H1 H' → H' D = some (.lst (((List.range n).filter b).map y)) → Q (.ref D) H') :
    CompW [k] (gName k) tc te σ Q J H1 := by
  intro D hD
  refine ⟨fun i m ys H => m = n - i ∧ i ≤ n ∧ Same H1 H ∧ ys = ((List.range i).filter b).map y ∧ H D = some (.lst ys), ⟨n, by simp, Nat.zero_le _, Same.new hD, by simp, upd_same⟩, ?_⟩
  rintro i m ys H ⟨rfl, hi, sm, eys, hDH⟩
  refine ⟨hDH, ?_⟩
  by_cases hlt : i < n
  · refine .inr ⟨F.go i H sm hlt, ?_, fun x H' hy => ?_⟩
    · have h1 : ys.length ≤ i := by
        rw [eys, List.length_map]
        have := List.length_filter_le b (List.range i)
        rw [List.length_range] at this
        exact this
      exact small1000 (by omega)
    · obtain ⟨s1, p1⟩ := F.yld i H x H' sm hlt hy
      refine ⟨Sub.set hk, htest i x H' _ hlt (sm.trans s1) p1 fun H2 s2 => ?_⟩
      have e1 : (List.range (i + 1)).filter b = (List.range i).filter b ++ if b i = true then [i] else [] := by
        rw [List.range_succ, List.filter_append]
        congr 1
        by_cases hb : b i = true
        · rw [if_pos hb]; simp [hb]
        · rw [if_neg hb]; simp [hb]
      by_cases hb : b i = true
      · rw [if_pos hb]
        refine helt i x H2 _ hlt (sm.trans (s1.trans s2)) (hP i x H' H2 s2 p1) hb fun H3 s3 => ?_
        refine ⟨s3 _ _ (s2 _ _ (s1 _ _ hDH)), n - (i + 1), by omega, rfl, hlt, ((sm.trans (s1.trans (s2.trans s3)))).put hD, ?_, upd_same⟩
        rw [e1, if_pos hb, List.map_append, ← eys]; rfl
      · rw [if_neg hb]
        refine ⟨n - (i + 1), by omega, rfl, hlt, sm.trans (s1.trans s2), ?_, s2 _ _ (s1 _ _ hDH)⟩
        rw [e1, if_neg hb, List.append_nil]; exact eys
  · have e : i = n := by omega
    subst e
    exact .inl ⟨F.stop H sm, q D H hD sm (by rw [← eys]; exact hDH)⟩
end
end L2
set_option Elab.async false
set_option linter.all false
set_option maxRecDepth 100000
set_option maxHeartbeats 4000000
namespace L2
open PySem PySem.Spec PyProof.Rows
section
variable {X : Cx}
theorem Inv.turnNew {pins : List (Addr × Obj)} {σ : St} {H : Hp} {s : Shared} {h' : Heap} {t' : Nat} {ch : List Addr} {o : HO} (I : Inv X pins σ H s) (hch : ∀ b ∈ ch, FpOk X pins H b) (k : ∀ b u, b ∉ ch → s.heap.get? b = some u → h'.get? b = some u)
    (new : ObjOk X.prog X.w (upd H s.heap.objs.size o) h' s.heap.objs.size o) (hold : ∀ b ∈ ch, ∃ u, h'.get? b = some u) : Inv X pins σ (upd H s.heap.objs.size o) { s with heap := h', toks := t' } := by
  have hT := I.fresh
  have nit : ∀ b u, H b = some u → b ∉ ch := fun b u e z => by rw [(hch b z).1] at e; cases e
  refine I.step (g' := s.gens) (d' := s.drawn) (ch := ch) (fun b hb => ⟨(hch b hb).2.2.2.1, (hch b hb).2.1, (hch b hb).2.2.2.2.1, (hch b hb).2.2.2.2.2⟩) (fun b u _ _ hc e _ => k b u hc e) (fun b u _ _ hc e _ => ⟨u.slots, k b u hc e⟩)
    (fun b u _ e n => by rw [upd_ne (Nat.ne_of_lt (Heap.lt_size e))]; exact n) (fun b u hc e => ⟨u, k b u hc e⟩) (fun b xs q => by rw [upd_ne (ne_of_none q hT)]; exact q) (fun b u xs q => by rw [upd_ne (ne_of_none q hT)]; exact q)
    (fun b ps q => ⟨#[], by rw [upd_ne (ne_of_none q hT), q]; simp⟩) (fun m hm => ?_) (fun b u e => ?_) I.bare
  · obtain ⟨ob, es, ep, ho, r⟩ := hm
    exact ⟨ob, es, ep, k _ ob (fun z => (hch _ z).2.1 rfl) ho, r⟩
  · by_cases hb : b = s.heap.objs.size
    · subst hb
      rw [upd_same] at e
      cases e
      exact new
    · rw [upd_ne hb] at e
      refine (I.hok b u e).stay (fun c v hc q => k c v ?_ q) (fun c q => by rw [upd_ne (ne_of_none q hT)]; exact q) fun c xs q => by rw [upd_ne (ne_of_none q hT)]; exact q
      rcases hc with z | z
      · rw [z]; exact nit b u e
      · exact nit c _ z
def Ite (K : PySem.W.Frag) (a : Addr) : It :=
  ⟨fun i H => ∃ xs x, SqL K H a xs ∧ xs[i]? = some x, fun i H v H' => ∃ p x, H p = none ∧ v = .ref p ∧ (∀ xs, SqL K H a xs → xs[i]? = some x) ∧ H' = upd H p (.tup [.int i, x]), fun i H => ∃ xs, SqL K H a xs ∧ xs.length ≤ i⟩
theorem turn_enum {P : Program} {w : World} {K : PySem.W.Frag} {elts : List Expr} {x1} {tpos : Pos} (a it e : Addr) (hei : e ≠ it) :
    Turn P w K (.Tuple elts x1 tpos) (Ite K a) [e, it] e (fun i h => (∃ old, IsEnum h e it i old) ∧ h.IsListIter it a i) where
  mem := by simp
  obj := fun i h st b hb => by
    obtain ⟨⟨old, he⟩, o, ho, hc, hd⟩ := st
    simp only [List.mem_cons, List.mem_nil_iff, or_false] at hb
    rcases hb with z | z
    · subst z
      exact ⟨_, he, fun v z => by
        have z' : Data.fields _ = Data.cell v := z
        cases z'⟩
    · subst z
      exact ⟨o, ho, fun v z => by rw [hd] at z; cases z⟩
  keep := fun i h h' st k => by
    obtain ⟨⟨old, he⟩, hit⟩ := st
    exact ⟨⟨old, k e (by simp) _ he⟩, hit.at fun o x => k it (by simp) o x⟩
  item := by
    intro X hP hw hK hc i pins s σ H E I hf st hg
    subst hP hw hK
    obtain ⟨xs, x, hq, hx⟩ := hg
    obtain ⟨⟨old, he⟩, hit⟩ := st
    obtain ⟨its, rv, p, hz⟩ := I.list hq
    obtain ⟨u, hu, ru⟩ := rv.get hx
    have hT := I.fresh
    have heH : e < s.heap.objs.size := Heap.lt_size he
    have hiH : it < s.heap.objs.size := by obtain ⟨_, y, _⟩ := hit; exact Heap.lt_size y
    refine wpAny_pyNext_enum_item he hit p.isList (x := u) (by simpa using hu) hei fun h₁ ho hit₁ ht₁ hz₁ hk₁ => ?_
    refine ⟨.ref s.heap.objs.size, rfl, wpAny_letOwnedTupleGo_enum ho fun h₂ he₂ hs₂ => ?_⟩
    replace hs₂ : Heap.SameBut e h₁ h₂ := hs₂
    have kk : ∀ b o, b ∉ [e, it] → s.heap.get? b = some o → h₂.get? b = some o := fun b o hb q =>
      hs₂.extBut b o (fun z => hb (by simp [z])) (hk₁ b o (fun z => hb (by simp [z])) (fun z => hb (by simp [z])) q)
    have tup2 : h₂.get? s.heap.objs.size = some { cls := .type "tuple", data := .seq #[.int i s.toks, u] } := (hs₂.2 _ (Nat.ne_of_gt heH)).trans ht₁
    have st₂ : (∃ old, IsEnum h₂ e it ((i + 1 : Nat) : Int) old) ∧ h₂.IsListIter it a (i + 1) := by
      refine ⟨⟨u, by have : ((i + 1 : Nat) : Int) = (i : Int) + 1 := by push_cast; rfl
                     rw [this]; exact he₂⟩, hit₁.extBut hs₂.extBut (Ne.symm hei)⟩
    have I1 := I.turnNew (t' := s.toks + 1) (o := .tup [.int i, x]) hf kk ⟨Nat.le_of_lt (small1000 (show ([V.int i, x] : List V).length ≤ 1000 from by show 2 ≤ 1000; omega)), [.int i s.toks, u], .cons ⟨_, rfl⟩ (.cons ru .nil), ⟨_, tup2, rfl, _, rfl⟩⟩ (fun b hb => by
      simp only [List.mem_cons, List.mem_nil_iff, or_false] at hb
      rcases hb with z | z
      · subst z; exact ⟨_, he₂⟩
      · subst z; obtain ⟨o, y, _⟩ := st₂.2; exact ⟨o, y⟩)
    refine ⟨.ref s.heap.objs.size, _, I1, rfl, ⟨_, x, hT, rfl, fun ys hy => by rw [I.list_inj hy hq]; exact hx, rfl⟩, st₂, fun b hb => ?_⟩
    have hb' : b < s.heap.objs.size := by
      simp only [List.mem_cons, List.mem_nil_iff, or_false] at hb
      rcases hb with z | z
      · rw [z]; exact heH
      · rw [z]; exact hiH
    rw [upd_ne (Nat.ne_of_lt hb')]
    exact (hf b hb).1
  done := by
    intro X hP hw hK hc i pins s σ H E I hf st hg
    subst hP hw hK
    obtain ⟨xs, hq, hx⟩ := hg
    obtain ⟨⟨old, he⟩, hit⟩ := st
    obtain ⟨its, rv, p, hz⟩ := I.list hq
    obtain ⟨f0, f1, f2, f3, f4, f5⟩ := hf it (by simp)
    have hl := rv.length
    exact wpAny_pyNext_enum_end (I.ok.hd hc) he hit p.isList (Array.getElem?_eq_none (by simp; omega)) fun h' eb => ⟨rfl, I.turned (t' := s.toks) (fun b o hb e => eb b o hb e) f0 f1 f3 f4 f5⟩
  self := fun _ _ _ _ _ st h => by
    obtain ⟨⟨old, he⟩, _⟩ := st
    exact wpAny_pyIter_enum he h
def iEnum (K : PySem.W.Frag) (ta : TA) : TI := fun σ H R => ta σ H fun vs H1 => ∃ a, vs = [.ref a] ∧ (∃ xs, SqL K H1 a xs) ∧ R (Ite K a) H1
theorem pi_enum {elts : List Expr} {x1} {tpos : Pos} {a : Expr} {ta : TA} {p pos : Pos} (hg : Gl X "enumerate") (hm : X.mg "enumerate" = none) (ha : PA X [a] ta) (hs : starEach [a] X.env = [(false, eval a X.env)] := by rfl) :
    PI X (.Tuple elts x1 tpos) (.Call (.Name "enumerate" p) [a] [] pos) (iEnum X.K ta) := by
  intro pins s σ H R I h
  refine Call_ (ld_blt I hg hm boot_enumerate (PyProof.Rows.callWith_type1 (thn (ha pos pins s σ H _ I h) fun us s1 ⟨vs, H1, I1, r1, q1⟩ => ?_) hs rfl))
  obtain ⟨b, e, ⟨xs, hq⟩, q⟩ := q1
  subst e
  obtain ⟨u, rfl, ru⟩ := vals1 r1
  cases ru
  obtain ⟨its, rv, pl, hz⟩ := I1.list hq
  refine call_enumerate_list pl.isList fun h' he hit hsz kp => ?_
  have I2 : Inv X pins σ H1 { s1 with heap := h' } := I1.kept (t' := s1.toks) kp
  refine wpAny_pyIter_enum he ?_
  refine ⟨s1.heap.objs.size + 1, [s1.heap.objs.size + 1, s1.heap.objs.size], _, _, H1, rfl, I2, turn_enum b s1.heap.objs.size (s1.heap.objs.size + 1) (Nat.succ_ne_self _), ⟨⟨_, he⟩, hit⟩, fun c hc => ?_, q⟩
  simp only [List.mem_cons, List.mem_nil_iff, or_false] at hc
  rcases hc with z | z
  · rw [z]; exact I1.fpOk (Nat.le_succ _) (I1.hok.fresh (Nat.le_succ _))
  · rw [z]; exact I1.fpOk (Nat.le_refl _) (I1.hok.fresh (Nat.le_refl _))
theorem for_enum {K : PySem.W.Frag} {a : Addr} {xs : List V} {g : TG} {tb : TS} {D : Ends} {σ : St} {H : Hp} (Pv : Nat → St → Hp → Prop) (h0 : Pv 0 σ H) (hl : ∀ i σ H, i ≤ xs.length → Pv i σ H → SqL K H a xs)
    (hs : ∀ i x σ H p, xs[i]? = some x → Pv i σ H → H p = none → g (.ref p) σ (upd H p (.tup [.int i, x])) fun σ2 H2 => tb { D with nx := Pv (i + 1), ct := Pv (i + 1), bk := D.nx } σ2 H2) (hd : ∀ σ H, Pv xs.length σ H → D.nx σ H) :
    ∃ W : Nat → Nat → St → Hp → Prop, (∃ m, W 0 m σ H) ∧ ∀ i m σ H, W i m σ H →
      ((Ite K a).stop i H ∧ D.nx σ H) ∨ ((Ite K a).go i H ∧ ∃ N : St → Hp → Prop, (∀ σ' H', N σ' H' → ∃ m', m' < m ∧ W (i + 1) m' σ' H') ∧ ∀ x H', (Ite K a).yld i H x H' → g x σ H' fun σ2 H2 => tb { D with nx := N, ct := N, bk := D.nx } σ2 H2) := by
  refine ⟨fun i m σ H => m = xs.length - i ∧ i ≤ xs.length ∧ Pv i σ H, ⟨xs.length, by simp, Nat.zero_le _, h0⟩, ?_⟩
  rintro i m σ H ⟨rfl, hi, p⟩
  have q := hl i σ H hi p
  by_cases hlt : i < xs.length
  · refine .inr ⟨⟨xs, xs[i], q, by simp [hlt]⟩, Pv (i + 1), fun σ' H' p' => ⟨xs.length - (i + 1), by omega, rfl, hlt, p'⟩, fun v H' y => ?_⟩
    obtain ⟨pa, x, hp, rfl, hx, rfl⟩ := y
    exact hs i x σ H pa (hx xs q) p hp
  · have e : i = xs.length := by omega
    subst e
    exact .inl ⟨⟨xs, q, Nat.le_refl _⟩, hd σ H p⟩
end
end L2
set_option Elab.async false
set_option linter.all false
set_option maxRecDepth 100000
set_option maxHeartbeats 4000000
namespace L2
open PySem PySem.Spec PyProof.Rows
section
variable {X : Cx}
theorem call_isi' (K : PySem.W.Frag) (h : X.K = K) : CallR X (.builtin "isinstance") (fun xs H Q => ∃ x T t b, xs = [x, .ty T] ∧ TyOf K H x t ∧ PySem.W.kitOne K t (.type T) = some b ∧ Q (.bl b) H) := by subst h; exact call_isi
theorem call_len_seq' (K : PySem.W.Frag) (h : X.K = K) : CallR X (.builtin "len") (fun xs H Q => ∃ p ys, xs = [.ref p] ∧ (SqL K H p ys ∨ SqT K H p ys) ∧ Q (.int ys.length) H) := by subst h; exact call_len_seq
theorem call_allL' (K : PySem.W.Frag) (h : X.K = K) (hc : X.calm = true) : CallR X (.builtin "all") (fun xs H Q => ∃ (p : Addr) (bs : List Bool), xs = [.ref p] ∧ SqL K H p (bs.map V.bl) ∧ Q (.bl (bs.all id)) H) := by subst h; exact call_allL hc
theorem call_sortedI' (K : PySem.W.Frag) (h : X.K = K) : CallR X (.builtin "sorted") (fun xs H Q => ∃ (p : Addr) (ns : List Int), xs = [.ref p] ∧ SqL K H p (ns.map V.int) ∧ ns.length < 64 ∧
    ∀ (l : Addr) (ns' : List Int), H l = none → ns'.Perm ns → ns'.Pairwise (· ≤ ·) → Q (.ref l) (upd H l (.lst (ns'.map V.int)))) := by subst h; exact call_sortedI
theorem call_list_of' (K : PySem.W.Frag) (h : X.K = K) : CallR X (.type "list") (fun xs H Q => ∃ p ys, xs = [.ref p] ∧ (SqL K H p ys ∨ SqT K H p ys) ∧ ∀ l, H l = none → Q (.ref l) (upd H l (.lst ys))) := by subst h; exact call_list_of
theorem ix_list' (K : PySem.W.Frag) (h : X.K = K) : IxR X (rIxL K) := by subst h; exact ix_list
theorem sl_list' (K : PySem.W.Frag) (h : X.K = K) : SlR X (rSlL K) := by subst h; exact sl_list
theorem op_eqD' (K : PySem.W.Frag) (h : X.K = K) (hu : X.A.units + 64 < cLine) : OpR X (compareOp .Eq) (rEqD K) := by subst h; exact op_eqD hu
theorem op_neD' (K : PySem.W.Frag) (h : X.K = K) (hu : X.A.units + 64 < cLine) : OpR X (compareOp .NotEq) (rNeD K) := by subst h; exact op_neD hu
theorem op_notIn_seq' (K : PySem.W.Frag) (h : X.K = K) : OpR X (compareOp .NotIn) (rIn K true) := by subst h; exact op_notIn_seq
theorem mt_index' (K : PySem.W.Frag) (h : X.K = K) : MtM X "list.index" (rIndex K) := by subst h; exact mt_index
theorem pe_rev' (K : PySem.W.Frag) (h : X.K = K) {e : Expr} {te : TE} {j : Nat} {p1 p2 p3 pos : Pos} (he : PE X e te) : PE X (.Subscript e (.Slice none none (some (.UnaryOp .USub (.Constant (.int 1) j p1) p3)) p2) pos) (tRev K te) := by subst h; exact pe_rev he
theorem pi_list' (K : PySem.W.Frag) (h : X.K = K) {tg l : Expr} {tl : TE} (hl : PE X l tl) : PI X tg l (iList K tl) := by subst h; exact pi_list hl
theorem pi_enum' (K : PySem.W.Frag) (h : X.K = K) {elts : List Expr} {x1} {tpos : Pos} {a : Expr} {ta : TA} {p pos : Pos} (hg : Gl X "enumerate") (hm : X.mg "enumerate" = none) (ha : PA X [a] ta) (hs : starEach [a] X.env = [(false, eval a X.env)] := by rfl) :
    PI X (.Tuple elts x1 tpos) (.Call (.Name "enumerate" p) [a] [] pos) (iEnum K ta) := by subst h; exact pi_enum hg hm ha hs
theorem pg_tup' (K : PySem.W.Frag) (h : X.K = K) {es : List Expr} {k : Nat} {t : TGs} {n : Nat} {pos : Pos} (hc : X.calm = true) (hp : PGs X es t)
    (hn : (assignEach es X.env).length = n := by rfl) (hst : (assignEach es X.env).findIdx? (·.1) = none := by rfl) : PG X (.Tuple es k pos) (gTup K n t) := by subst h; exact pg_tup hc hp hn hst
section
variable {o e : Expr} {es : List Expr} {to : TE} {t : TA} {name : Str} {apos cpos : Pos} {T id : String} {r : V → List V → Hp → VK → Prop}
theorem pe_bm' (K : PySem.W.Frag) (h : X.K = K) (pa : PlainAttrs T) (slot : Slot T name id) (hty : typeOf (.builtin id) = pure (.type "method_descriptor")) (hm : MtR X id r) (ho : PE X o to) (ha : PA X (e :: es) t)
    (hbase : attributeBase o name X.env (eval o X.env) = eval o X.env := by rfl)
    (hfew : ((backTo cpos (starEach (e :: es) X.env)).all (fun x => !x.1) && (backToKw cpos (keywordEach [] X.env)).all (fun x => x.1.isSome)
      && decide ((e :: es).length + ([] : List Keyword).length + (if ([] : List Keyword).isEmpty then 0 else 1) < 30)) = true := by rfl)
    (hline : (apos.endLine == cpos.line) = true := by rfl) (hs : starEach (e :: es) X.env = (false, eval e X.env) :: starEach es X.env := by rfl) (hplain : (backTo cpos (starEach es X.env)).any (·.1) = false := by rfl) :
    PE X (.Call (.Attribute o name apos) (e :: es) [] cpos) (tBM K T r to t) := by subst h; exact pe_bm pa slot hty hm ho ha hbase hfew hline hs hplain
end
end
end L2
set_option Elab.async false
set_option linter.all false
set_option maxRecDepth 100000
set_option maxHeartbeats 4000000
namespace L2
open PySem PySem.Spec PyProof.Rows
section
variable {X : Cx}
variable {a b c d : Expr} {ta tb tc td : TE} {pos : Pos}
end
end L2
set_option Elab.async false
set_option linter.all false
set_option maxRecDepth 100000
set_option maxHeartbeats 4000000
namespace L2
open PySem PySem.Spec PyProof.Rows
section
variable {X : Cx}
def rInD (K : PySem.W.Frag) (neg : Bool) : R2 := fun x y H Q => ∃ d xs, Den K H x d ∧ Den K H y (.list xs) ∧ d.canLay0 = true ∧ PyData.canLayAll0 xs = true ∧ d.depth ≤ 40 ∧ Q (.bl (if neg then !(xs.any fun z => PyData.eqv z d) else xs.any fun z => PyData.eqv z d)) H
theorem op_inD (hu : X.A.units + 64 < cLine) : OpR X (compareOp .In) (rInD X.K false) := by
  intro pins s σ H x y v u Q I rx ry h
  obtain ⟨d, xs, d1, d2, l1, l2, dp, q⟩ := h
  obtain ⟨as, ra⟩ := d1.reads I rx
  obtain ⟨bs, rb⟩ := d2.reads I ry
  exact PySem.SeqAt.in_list_reads rb ra l2 l1 (by have := Nat.min_le_right (PyData.depthAll xs) d.depth; omega) ⟨.bl _, H, I, rfl, q⟩
theorem op_notInD (hu : X.A.units + 64 < cLine) : OpR X (compareOp .NotIn) (rInD X.K true) := by
  intro pins s σ H x y v u Q I rx ry h
  obtain ⟨d, xs, d1, d2, l1, l2, dp, q⟩ := h
  obtain ⟨as, ra⟩ := d1.reads I rx
  obtain ⟨bs, rb⟩ := d2.reads I ry
  exact PySem.SeqAt.notIn_list_reads rb ra l2 l1 (by have := Nat.min_le_right (PyData.depthAll xs) d.depth; omega) ⟨.bl _, H, I, rfl, q⟩
theorem op_inD' (K : PySem.W.Frag) (h : X.K = K) (hu : X.A.units + 64 < cLine) : OpR X (compareOp .In) (rInD K false) := by subst h; exact op_inD hu
theorem op_notInD' (K : PySem.W.Frag) (h : X.K = K) (hu : X.A.units + 64 < cLine) : OpR X (compareOp .NotIn) (rInD K true) := by subst h; exact op_notInD hu
end
end L2
set_option Elab.async false
set_option linter.all false
set_option maxRecDepth 100000
set_option maxHeartbeats 4000000
namespace L2
open PySem PySem.W PyProof.Rows
section
variable {cmp : Nat → Nat → (Bool → Shared → Prop) → Shared → Prop} {s : Shared} {N : Nat} {k : Nat → Int}
def Asks (cmp : Nat → Nat → (Bool → Shared → Prop) → Shared → Prop) (N : Nat) (k : Nat → Int) (s : Shared) : Prop := ∀ i j (C : Bool → Shared → Prop), i < N → j < N → C (decide (k i < k j)) s → cmp i j C s
def Inn (N : Nat) (p : Array Nat) : Prop := 0 < N ∧ ∀ x ∈ p, x < N
theorem Inn.get {p : Array Nat} (h : Inn N p) (i : Nat) : p.getD i 0 < N := by
  by_cases hi : i < p.size
  · have e : p.getD i 0 = p[i] := by simp [Array.getD, hi]
    rw [e]; exact h.2 _ (Array.getElem_mem hi)
  · have e : p.getD i 0 = 0 := by simp [Array.getD, hi]
    rw [e]; exact h.1
theorem Inn.perm {p p' : Array Nat} (h : Inn N p) (e : p'.Perm p) : Inn N p' := ⟨h.1, fun x hx => h.2 x (by
  have := (Array.perm_iff_toList_perm.mp e).mem_iff (a := x)
  simpa using this.mp (by simpa using hx))⟩
abbrev ky (k : Nat → Int) (p : Array Nat) (i : Nat) : Int := k (p.getD i 0)
def Up (k : Nat → Int) (p : Array Nat) (m : Nat) : Prop := ∀ i j, i ≤ j → j < m → ky k p i ≤ ky k p j
def Dw (k : Nat → Int) (p : Array Nat) (m : Nat) : Prop := ∀ i j, i ≤ j → j < m → ky k p j ≤ ky k p i
def Lv (k : Nat → Int) (p : Array Nat) (n q : Nat) : Prop := ∀ i, n ≤ i + (q + 1) → i < n → ky k p i = ky k p (n - 1)
theorem ky_congr {p q : Array Nat} {i j : Nat} (h : p[i]? = q[j]?) : ky k p i = ky k q j := by
  unfold ky
  rw [Array.getD_eq_getD_getElem?, Array.getD_eq_getD_getElem?, h]
theorem ky_rev {p : Array Nat} {i j : Nat} (hj : j ≤ p.size) (t : Nat) : ky k (kas_rev p i j) t = if i ≤ t ∧ t < j then ky k p (i + j - 1 - t) else ky k p t := by
  have e := getElem?_mirror_all (i := i) hj t
  unfold kas_rev
  split
  · rename_i c; rw [if_pos c] at e; exact ky_congr e
  · rename_i c; rw [if_neg c] at e; exact ky_congr e
theorem ky_lv {p : Array Nat} {n q : Nat} (hn : n ≤ p.size) (hq : q + 1 ≤ n) (h : Lv k p n q) (t : Nat) : ky k (kas_rev p (n - (q + 1)) n) t = ky k p t := by
  rw [ky_rev hn]
  split
  · rw [h _ (by omega) (by omega), h t (by omega) (by omega)]
  · rfl
theorem Up.next {p : Array Nat} {n : Nat} (h : Up k p n) (h1 : 1 ≤ n) (c : ¬ ky k p n < ky k p (n - 1)) : Up k p (n + 1) := by
  intro i j hij hj
  by_cases e : j < n
  · exact h i j hij e
  · have ej : j = n := by omega
    subst ej
    by_cases e2 : i = j
    · rw [e2]; exact Int.le_refl _
    · have := h i (j - 1) (by omega) (by omega)
      omega
theorem Dw.next {p : Array Nat} {n : Nat} (h : Dw k p n) (h1 : 1 ≤ n) (c : ¬ ky k p (n - 1) < ky k p n) : Dw k p (n + 1) := by
  intro i j hij hj
  by_cases e : j < n
  · exact h i j hij e
  · have ej : j = n := by omega
    subst ej
    by_cases e2 : i = j
    · rw [e2]; exact Int.le_refl _
    · have := h i (j - 1) (by omega) (by omega)
      omega
theorem asc_wp (ha : Asks cmp N k s) {p : Array Nat} (hp : Inn N p) : ∀ (f n : Nat) (Q : Nat → Shared → Prop), 1 ≤ n → Up k p n →
    (∀ m, n ≤ m → m ≤ n + f → Up k p m → (m < n + f → ky k p m < ky k p (m - 1)) → Q m s) → (kas_asc p f n).kasWp cmp Q s
  | 0, n, Q, _, hu, q => q n (Nat.le_refl _) (Nat.le_refl _) hu fun z => absurd z (Nat.lt_irrefl _)
  | f + 1, n, Q, h1, hu, q => by
    refine ha _ _ _ (hp.get n) (hp.get (n - 1)) ?_
    by_cases c : ky k p n < ky k p (n - 1)
    · rw [decide_eq_true c]; simp only [if_true]
      exact q n (Nat.le_refl _) (by omega) hu fun _ => c
    · rw [decide_eq_false c]; simp only [Bool.false_eq_true, if_false]
      exact asc_wp ha hp f (n + 1) Q (by omega) (hu.next h1 c) fun m a1 a2 a3 a4 => q m (by omega) (by omega) a3 fun z => a4 (by omega)
theorem desc_wp (ha : Asks cmp N k s) : ∀ (f : Nat) (p : Array Nat) (n q : Nat) (Q : Array Nat × Nat × Nat → Shared → Prop), Inn N p → n + f ≤ p.size → q + 1 ≤ n → Dw k p n → Lv k p n q →
    (∀ p' n' q', p'.Perm p → n ≤ n' → n' ≤ n + f → q' + 1 ≤ n' → Dw k p' n' → Lv k p' n' q' → Q (p', n', q') s) → (kas_desc f p n q).kasWp cmp Q s
  | 0, p, n, q, Q, _, _, hq, hd, hl, h => h p n q (Array.Perm.refl _) (Nat.le_refl _) (Nat.le_refl _) hq hd hl
  | f + 1, p, n, q, Q, hp, hs, hq, hd, hl, h => by
    refine ha _ _ _ (hp.get n) (hp.get (n - 1)) ?_
    by_cases c : ky k p n < ky k p (n - 1)
    · rw [decide_eq_true c]; simp only [if_true]
      have lv0 : ∀ p', Lv k p' (n + 1) 0 := fun p' i a b => by
        have : i = n := by omega
        rw [this]; rfl
      split
      · have kr := ky_lv (show n ≤ p.size by omega) hq hl
        have pr : (kas_rev p (n - (q + 1)) n).Perm p := mirror_perm _ _ _ _
        refine desc_wp ha f _ (n + 1) 0 Q (hp.perm pr) (by rw [kas_rev_size]; omega) (by omega) ?_ (lv0 _) fun p' n' q' a1 a2 a3 a4 a5 a6 => h p' n' q' (a1.trans pr) (by omega) (by omega) a4 a5 a6
        refine Dw.next ?_ (by omega) ?_
        · intro i j hij hj
          rw [kr, kr]; exact hd i j hij hj
        · rw [kr, kr]; omega
      · exact desc_wp ha f p (n + 1) 0 Q hp (by omega) (by omega) (hd.next (by omega) (by omega)) (lv0 _) fun p' n' q' a1 a2 a3 a4 a5 a6 => h p' n' q' a1 (by omega) (by omega) a4 a5 a6
    · rw [decide_eq_false c]; simp only [Bool.false_eq_true, if_false]
      refine ha _ _ _ (hp.get (n - 1)) (hp.get n) ?_
      by_cases d : ky k p (n - 1) < ky k p n
      · rw [decide_eq_true d]; simp only [if_true]
        exact h p n q (Array.Perm.refl _) (Nat.le_refl _) (by omega) hq hd hl
      · rw [decide_eq_false d]; simp only [Bool.false_eq_true, if_false]
        refine desc_wp ha f p (n + 1) (q + 1) Q hp (by omega) (by omega) (hd.next (by omega) d) (fun i a b => ?_) fun p' n' q' a1 a2 a3 a4 a5 a6 => h p' n' q' a1 (by omega) (by omega) a4 a5 a6
        have e : ky k p (n + 1 - 1) = ky k p n := rfl
        rw [e]
        by_cases z : i = n
        · rw [z]
        · rw [hl i (by omega) (by omega)]; omega
theorem tail3_wp (ha : Asks cmp N k s) {p : Array Nat} {n nrem : Nat} {Q : Nat × Array Nat → Shared → Prop} (hp : Inn N p) (hn : nrem ≤ p.size) (h1 : 1 ≤ n) (hle : n ≤ nrem) (hd : Dw k p n)
    (h : ∀ m p', p'.Perm p → n ≤ m → m ≤ nrem → Up k p' m → Q (m, p') s) : (kas_tail3 n nrem p).kasWp cmp Q s := by
  unfold kas_tail3
  rw [KasT.kasWp_bind]
  have pr : (kas_rev p 0 n).Perm p := mirror_perm _ _ _ _
  refine asc_wp ha (hp.perm pr) _ _ _ h1 (fun i j hij hj => ?_) fun m a1 a2 a3 _ => h m _ pr a1 (by omega) a3
  rw [ky_rev (by omega), ky_rev (by omega), if_pos (by omega), if_pos (by omega)]
  exact hd _ _ (by omega) (by omega)
theorem descPart_wp (ha : Asks cmp N k s) {p : Array Nat} {n nrem : Nat} {Q : Nat × Array Nat → Shared → Prop} (hp : Inn N p) (hn : nrem ≤ p.size) (h1 : 1 ≤ n) (hlt : n < nrem) (hd : Dw k p (n + 1))
    (h : ∀ m p', p'.Perm p → 1 ≤ m → m ≤ nrem → Up k p' m → Q (m, p') s) : (kas_descPart n nrem p).kasWp cmp Q s := by
  unfold kas_descPart
  rw [KasT.kasWp_bind]
  refine desc_wp ha _ p (n + 1) 0 _ hp (by omega) (by omega) hd (fun i a b => ?_) fun p' n' q' a1 a2 a3 a4 a5 a6 => ?_
  · have : i = n := by omega
    rw [this]; rfl
  have sz := a1.size_eq
  dsimp only
  split
  · have kr := ky_lv (show n' ≤ p'.size by omega) a4 a6
    have pr : (kas_rev p' (n' - (q' + 1)) n').Perm p' := mirror_perm _ _ _ _
    refine tail3_wp ha ((hp.perm a1).perm pr) (by rw [kas_rev_size]; omega) (by omega) (by omega) (fun i j hij hj => ?_) fun m p2 b1 b2 b3 b4 => h m p2 ((b1.trans pr).trans a1) (by omega) b3 b4
    rw [kr, kr]; exact a5 i j hij hj
  · exact tail3_wp ha (hp.perm a1) (by omega) (by omega) (by omega) a5 fun m p2 b1 b2 b3 b4 => h m p2 (b1.trans a1) (by omega) b3 b4
theorem count_wp (ha : Asks cmp N k s) {p : Array Nat} {nrem : Nat} {Q : Nat × Array Nat → Shared → Prop} (hp : Inn N p) (hn : nrem ≤ p.size) (h1 : 1 ≤ nrem)
    (h : ∀ m p', p'.Perm p → 1 ≤ m → m ≤ nrem → Up k p' m → Q (m, p') s) : (kas_count nrem p).kasWp cmp Q s := by
  unfold kas_count
  rw [KasT.kasWp_bind]
  refine asc_wp ha hp _ _ _ (Nat.le_refl _) (fun i j hij hj => ?_) fun m a1 a2 a3 a4 => ?_
  · have : i = j := by omega
    rw [this]; exact Int.le_refl _
  show KasT.kasWp cmp (if (m == nrem) = true then _ else _) Q s
  by_cases e : m = nrem
  · rw [if_pos (by simp [e])]
    exact h m p (Array.Perm.refl _) a1 (by omega) a3
  · rw [if_neg (by simp [e])]
    have lt : ky k p m < ky k p (m - 1) := a4 (by omega)
    split
    · refine ha _ _ _ (hp.get 0) (hp.get (m - 1)) ?_
      by_cases c : ky k p 0 < ky k p (m - 1)
      · rw [decide_eq_true c]; simp only [if_true]
        exact h m p (Array.Perm.refl _) a1 (by omega) a3
      · rw [decide_eq_false c]; simp only [Bool.false_eq_true, if_false]
        have pr : (kas_rev p 0 m).Perm p := mirror_perm _ _ _ _
        have all : ∀ i, i < m → ky k p i = ky k p (m - 1) := fun i hi => by
          have x1 := a3 0 i (by omega) (by omega)
          have x2 := a3 i (m - 1) (by omega) (by omega)
          omega
        have kr : ∀ t, ky k (kas_rev p 0 m) t = ky k p t := fun t => by
          rw [ky_rev (by omega)]
          split
          · rw [all _ (by omega), all t (by omega)]
          · rfl
        refine descPart_wp ha (hp.perm pr) (by rw [kas_rev_size]; omega) (by omega) (by omega) ?_ fun m2 p2 b1 b2 b3 b4 => h m2 p2 (b1.trans pr) b2 b3 b4
        refine Dw.next (fun i j hij hj => ?_) (by omega) ?_
        · rw [kr, kr, all i (by omega), all j (by omega)]; exact Int.le_refl _
        · rw [kr, kr]; omega
    · have em : m = 1 := by omega
      subst em
      refine descPart_wp ha hp hn (by omega) (by omega) (Dw.next (fun i j hij hj => ?_) (by omega) (by omega)) h
      have : i = j := by omega
      rw [this]; exact Int.le_refl _
theorem place_wp (ha : Asks cmp N k s) {p : Array Nat} {e : Nat} (hp : Inn N p) (hu : Up k p e) : ∀ (f l r : Nat) (Q : Nat → Shared → Prop), r ≤ l + f → l ≤ r → r ≤ e → (∀ i, i < l → ky k p i ≤ ky k p e) → (∀ i, r ≤ i → i < e → ky k p e < ky k p i) →
    (∀ l', l' ≤ e → (∀ i, i < l' → ky k p i ≤ ky k p e) → (∀ i, l' ≤ i → i < e → ky k p e < ky k p i) → Q l' s) → (kas_place p e f l r).kasWp cmp Q s
  | 0, l, r, Q, h0, h1, h2, hl, hr, q => q l (by omega) hl fun i a b => hr i (by omega) b
  | f + 1, l, r, Q, h0, h1, h2, hl, hr, q => by
    unfold kas_place
    split
    · exact q l (by omega) hl fun i a b => hr i (by omega) b
    · rename_i nr
      refine ha _ _ _ (hp.get e) (hp.get ((l + r) / 2)) ?_
      by_cases c : ky k p e < ky k p ((l + r) / 2)
      · rw [decide_eq_true c]; simp only [if_true]
        refine place_wp ha hp hu f l ((l + r) / 2) Q (by omega) (by omega) (by omega) hl (fun i a b => ?_) q
        have := hu ((l + r) / 2) i a b
        omega
      · rw [decide_eq_false c]; simp only [Bool.false_eq_true, if_false]
        refine place_wp ha hp hu f ((l + r) / 2 + 1) r Q (by omega) (by omega) h2 (fun i a => ?_) hr q
        have := hu i ((l + r) / 2) (by omega) (by omega)
        omega
theorem ky_bubble {p : Array Nat} {e l : Nat} (he : e < p.size) (hl : l ≤ e) (t : Nat) : ky k (bubble p e (e - l)) t = if t = l then ky k p e else if l < t ∧ t ≤ e then ky k p (t - 1) else ky k p t := by
  have x := getElem?_bubble he (e - l) (by omega) t
  have el : e - (e - l) = l := by omega
  rw [el] at x
  split
  · rename_i c; rw [if_pos c] at x; exact ky_congr x
  · rename_i c
    rw [if_neg c] at x
    split
    · rename_i c2; rw [if_pos c2] at x; exact ky_congr x
    · rename_i c2; rw [if_neg c2] at x; exact ky_congr x
theorem bin_wp (ha : Asks cmp N k s) : ∀ (f : Nat) (p : Array Nat) (e : Nat) (Q : Array Nat → Shared → Prop), Inn N p → e + f = p.size → Up k p e → (∀ p', p'.Perm p → Up k p' (e + f) → Q p' s) → (kas_bin f p e).kasWp cmp Q s
  | 0, p, e, Q, _, _, hu, q => q p (Array.Perm.refl _) hu
  | f + 1, p, e, Q, hp, hs, hu, q => by
    unfold kas_bin
    rw [KasT.kasWp_bind]
    refine place_wp ha hp hu e 0 e _ (by omega) (by omega) (Nat.le_refl _) (fun i a => by omega) (fun i a b => by omega) fun l a1 a2 a3 => ?_
    have pr := bubble_perm p e (e - l)
    refine bin_wp ha f _ (e + 1) Q (hp.perm pr) (by rw [bubble_size]; omega) (fun i j hij hj => ?_) fun p' b1 b2 => q p' (b1.trans pr) ((show e + 1 + f = e + (f + 1) by omega) ▸ b2)
    rw [ky_bubble (by omega) a1, ky_bubble (by omega) a1]
    by_cases i1 : i = l
    · rw [if_pos i1]
      by_cases j1 : j = l
      · rw [if_pos j1]; exact Int.le_refl _
      · rw [if_neg j1, if_pos (by omega)]
        have := a3 (j - 1) (by omega) (by omega)
        omega
    · rw [if_neg i1]
      by_cases j1 : j = l
      · rw [if_pos j1, if_neg (by omega)]
        exact a2 i (by omega)
      · rw [if_neg j1]
        by_cases i2 : l < i ∧ i ≤ e
        · rw [if_pos i2, if_pos (by omega)]
          exact hu _ _ (by omega) (by omega)
        · rw [if_neg i2]
          by_cases j2 : l < j ∧ j ≤ e
          · rw [if_pos j2]
            exact hu _ _ (by omega) (by omega)
          · rw [if_neg j2]
            exact hu _ _ (by omega) (by omega)
theorem sort_wp (ha : Asks cmp N k s) (h2 : 1 ≤ N) {Q : Array Nat → Shared → Prop} (q : ∀ p : Array Nat, p.Perm (List.toArray (List.range N)) → Up k p N → Q p s) : (kas_sort N).kasWp cmp Q s := by
  unfold kas_sort
  rw [KasT.kasWp_bind]
  have hp : Inn N (List.toArray (List.range N)) := ⟨by omega, fun x hx => by simpa using hx⟩
  refine count_wp ha hp (by simp) h2 fun m p' a1 a2 a3 a4 => ?_
  have sz : p'.size = N := by rw [a1.size_eq]; simp
  dsimp only
  have em : max m 1 = m := by omega
  rw [em]
  split
  · refine bin_wp ha (N - m) p' m Q (hp.perm a1) (by omega) a4 fun p2 b1 b2 => q p2 (b1.trans a1) ?_
    have : m + (N - m) = N := by omega
    rw [this] at b2; exact b2
  · have : m = N := by omega
    rw [this] at a4
    exact q p' a1 a4
end
end L2
set_option Elab.async false
set_option linter.all false
set_option maxRecDepth 100000
set_option maxHeartbeats 4000000
namespace L2
open PySem PySem.Spec PySem.W PyProof.Rows
section
variable {prog : Program} {w : World} {A : Around} {E : Value → Shared → Prop} {s : Shared}
abbrev byPl (vs : List Value) (p : Array Nat) : Array Value := List.toArray (p.toList.map fun i => vs.getD i Value.none)
theorem byPl_all (vs : List Value) : (vs.toArray.zip vs.toArray).map (·.2) = byPl vs (List.toArray (List.range vs.length)) := by
  have hz : (vs.toArray.zip vs.toArray).size = vs.length := by simp
  have e := kas_range (vs.toArray.zip vs.toArray)
  rw [hz] at e
  have := kat_snds (ks := vs) (vs := vs) (st := SortSt.mk' general' (vs.toArray.zip vs.toArray) #[] 7 none) (p := List.toArray (List.range vs.length)) rfl e.symm
  exact this
theorem lsort_by {a : Addr} {vs : List Value} {n : Nat} {P : PySem.Fin → Shared → Prop} {key : Nat → Int} (ho : s.heap.get? a = some (seqObj "list" vs.toArray n)) (h64 : vs.length < 64)
    (hk : 2 ≤ vs.length → ∀ h' : Heap, (∀ b o, b ≠ a → s.heap.get? b = some o → h'.get? b = some o) →
      ∃ κ, (∀ (R : SortKind → Shared → Prop), R κ { s with heap := h' } → wpAny (model prog w) A (keyKind' vs.toArray) R E { s with heap := h' }) ∧ Asks (kas_ask prog w A κ vs) vs.length key { s with heap := h' })
    (h : ∀ p : Array Nat, p.Perm (List.toArray (List.range vs.length)) → Up key p vs.length → P (.done (.ret .none)) { s with heap := sortedHeap s.heap a vs (byPl vs p) }) :
    wpAny (model prog w) A (Builtin.«list.sort» ⟨[.ref a], []⟩) P E s := by
  have la := Heap.lt_size ho
  have fits : vs.length ≤ sizeLine := by rw [sizeLine_eq]; omega
  generalize eu : s.heap.update a (Obj.mapSeq fun _ => (#[] : Array Value)) = u
  have zu : u.objs.size = s.heap.objs.size := by rw [← eu, Heap.size_update]
  have ku : ∀ b o, b ≠ a → s.heap.get? b = some o → u.get? b = some o := fun b o nb e => by rw [← eu, Heap.get?_update_ne _ _ _ _ nb]; exact e
  obtain ⟨e1, o1⟩ : ∃ e1, u.get? a = some (seqObj "list" #[] e1) := by rw [← eu]; exact ⟨_, get?_update_seq ho fun _ => #[]⟩
  generalize eg : (u.push (seqObj "tuple" vs.toArray 0)).push (seqObj "list" #[] 0) = g
  have kg : ∀ b o, u.get? b = some o → g.get? b = some o := fun b o e => by rw [← eg]; exact Heap.get?_push_of_some _ (Heap.get?_push_of_some _ e)
  have og := kg _ _ o1
  have fine : ∀ out : Array Value, sortedHeap s.heap a vs out = g.update a (Obj.mapSeq fun _ => out) := fun out => by rw [← eg, ← eu]; rfl
  rw [list_sort_plain]
  refine wpAny_bind (listItems_at ho rfl (wpAny_bind (listUpdate_at ho rfl ?_ (by rw [List.size_toArray]; exact fits) (Nat.zero_le _))))
  show wpAny (model prog w) A _ P E { s with heap := s.heap.update a (Obj.mapSeq fun _ => (#[] : Array Value)) }
  rw [eu]
  refine wpAny_bind (seqEpoch_at o1 rfl (wpAny_bind (wpAny_newTuple (wpAny_bind (wpAny_newList (wpAny_holding ?_) (Nat.zero_le _))) (by show vs.length ≤ _; exact fits))))
  show wpAny (model prog w) A _ P E { s with heap := (u.push (seqObj "tuple" vs.toArray 0)).push (seqObj "list" #[] 0) }
  rw [eg]
  dsimp only
  by_cases h2 : vs.length < 2
  · have h2' : vs.toArray.size < 2 := by rw [List.size_toArray]; exact h2
    rw [if_pos h2', if_pos h2']
    refine wpAny_bind (wpAny_pure ?_)
    rw [StateT.run_pure]
    refine wpAny_bind (wpAny_pure (wpAny_bind (seqEpoch_at og rfl (wpAny_bind (listUpdate_at og rfl ?_ (Nat.zero_le _) ?_)))))
    · simp only [bne_self_eq_false, Bool.false_eq_true, if_false]
      refine wpAny_pure ?_
      have r := h (List.toArray (List.range vs.length)) (Array.Perm.refl _) fun i j hij hj => by
        have : i = j := by omega
        rw [this]; exact Int.le_refl _
      rw [fine, ← byPl_all] at r
      exact r
    · show ((vs.toArray.zip vs.toArray).map (·.2)).size ≤ _
      rw [byPl_all, List.size_toArray, List.length_map, Array.length_toList, List.size_toArray, List.length_range]
      omega
  · have h2' : ¬ vs.toArray.size < 2 := by rw [List.size_toArray]; exact h2
    rw [if_neg h2', if_neg h2']
    obtain ⟨κ, k1, k2⟩ := hk (by omega) g fun b o nb e => kg _ _ (ku b o nb e)
    refine wpAny_bind (k1 _ (wpAny_bind (wpAny_mono (kat_run (ks := vs) (vs := vs) (E := E) (Q := fun st' s' => s' = { s with heap := g } ∧ failedOf st' = none ∧ ∃ p : Array Nat, p.Perm (List.toArray (List.range vs.length)) ∧ Up key p vs.length ∧ (arrOf st').map (·.2) = byPl vs p)
      (G := fun p s' => s' = { s with heap := g } ∧ p.Perm (List.toArray (List.range vs.length)) ∧ Up key p vs.length) rfl (by omega) h64 (fun p st' s' _ b2 b3 b4 => ⟨b4.1, b3, p, b4.2.1, b4.2.2, kat_snds rfl b2⟩) (sort_wp k2 (by omega) fun p b1 b2 => ⟨rfl, b1, b2⟩)) ?_ fun _ _ x => x)))
    rintro ⟨⟨⟩, st'⟩ s' ⟨rfl, hf, p, b1, b2, b3⟩
    dsimp only
    rw [b3]
    refine wpAny_bind (seqEpoch_at og rfl (wpAny_bind (listUpdate_at og rfl ?_ (Nat.zero_le _) ?_)))
    · rw [hf]
      simp only [bne_self_eq_false, Bool.false_eq_true, if_false]
      have r := h p b1 b2
      rw [fine] at r
      exact wpAny_pure r
    · rw [List.size_toArray, List.length_map, Array.length_toList, b1.size_eq, List.size_toArray, List.length_range]
      omega
theorem sorted_by {l : Addr} {vs : List Value} {Q : Value → Shared → Prop} {key : Nat → Int} (hl : s.heap.IsList l vs.toArray) (h64 : vs.length < 64)
    (hk : 2 ≤ vs.length → ∀ (A' : Around) (E' : Value → Shared → Prop) (h' : Heap), (∀ b o, s.heap.get? b = some o → h'.get? b = some o) →
      ∃ κ, (∀ (R : SortKind → Shared → Prop), R κ { s with heap := h' } → wpAny (model prog w) A' (keyKind' vs.toArray) R E' { s with heap := h' }) ∧ Asks (kas_ask prog w A' κ vs) vs.length key { s with heap := h' })
    (h : ∀ p : Array Nat, p.Perm (List.toArray (List.range vs.length)) → Up key p vs.length → Q (.ref (s.heap.objs.size + 1)) { s with heap := sortedAll s.heap vs (byPl vs p) }) :
    wpAny (model prog w) A (call (.builtin "sorted") [.ref l]) Q E s := by
  have fits : vs.length ≤ sizeLine := by rw [sizeLine_eq]; omega
  refine Calls.call_function_entry kind_sorted plain_sorted entry_sorted (args_sorted1 _) ?_
  unfold Builtin.«sorted»
  refine wpAny_bind (m := checkCount "sorted" 1 1 _) (wpAny_pure (wpAny_bind (collect_list hl ?_ fits)))
  generalize ec : (s.heap.push (seqObj "list" #[] 0)).update s.heap.objs.size (Obj.mapSeq (· ++ vs.toArray)) = c
  have zc : c.objs.size = s.heap.objs.size + 1 := by rw [← ec, Heap.size_update, size_push']
  have kc : ∀ b o, s.heap.get? b = some o → c.get? b = some o := fun b o e => by
    rw [← ec, Heap.get?_update_ne _ _ _ _ (Nat.ne_of_lt (Heap.lt_size e))]
    exact Heap.get?_push_of_some _ e
  refine wpAny_bind (wpAny_newList ?_ fits)
  show wpAny _ _ _ _ _ { s with heap := c.push (seqObj "list" vs.toArray 0) }
  generalize ed : c.push (seqObj "list" vs.toArray 0) = d
  have kd : ∀ b o, s.heap.get? b = some o → d.get? b = some o := fun b o e => by rw [← ed]; exact Heap.get?_push_of_some _ (kc b o e)
  have od : d.get? (s.heap.objs.size + 1) = some (seqObj "list" vs.toArray 0) := by rw [← ed, ← zc]; exact Heap.get?_push_size _ rfl
  rw [zc]
  refine wpAny_bind (wpAny_holding (wpAny_call_entry slot_list_sort ⟨_, od, rfl⟩ entry_list_sort (lsort_by (s := { s with heap := d }) (key := key) od h64 (fun h2 h' k' => ?_) fun p b1 b2 => ⟨_, rfl, wpAny_pure ⟨_, rfl, ?_⟩⟩) (args_list_sort _)))
  · exact hk h2 _ _ h' fun b o e => k' b o (Nat.ne_of_lt (Nat.lt_succ_of_lt (Heap.lt_size e))) (kd b o e)
  · have r := h p b1 b2
    unfold sortedAll at r
    rw [ec, ed] at r
    exact r
abbrev TupAt (h : Heap) : Value → Int × Int → Prop := fun v p => ∃ a t u, v = .ref a ∧ IsTup h a #[.int p.1 t, .int p.2 u]
theorem tups_kat {h : Heap} : ∀ {vs : List Value} {ps : List (Int × Int)}, Paired (TupAt h) vs ps → ∃ fs, KatTups h vs fs ∧ fs.length = vs.length ∧ ∀ v ∈ fs, ∃ i t, v = Value.int i t
  | _, _, .nil => ⟨[], KatTups.nil, rfl, fun v hv => by simp at hv⟩
  | _, _, .cons x r => by
    obtain ⟨a, t, u, rfl, o, h1, h2, n, h3⟩ := x
    obtain ⟨fs, b1, b2, b3⟩ := tups_kat r
    refine ⟨_ :: fs, KatTups.cons h1 h2 h3 rfl b1, by rw [List.length_cons, List.length_cons, b2], fun v hv => ?_⟩
    rcases List.mem_cons.mp hv with z | z
    · exact ⟨_, _, z⟩
    · exact b3 v z
theorem paired_get {α β : Type} {F : α → β → Prop} : ∀ {l : List α} {m : List β} {i : Nat} {y : β}, Paired F l m → m[i]? = some y → ∃ x, l[i]? = some x ∧ F x y
  | _, _, _, _, .nil, h => by simp at h
  | _, _, 0, _, .cons a _, h => by simp at h; subst h; exact ⟨_, rfl, a⟩
  | _, _, i + 1, y, .cons _ t, h => by
    obtain ⟨x, h1, h2⟩ := paired_get (i := i) (y := y) t (by simpa using h)
    exact ⟨x, by simpa using h1, h2⟩
def pky (ps : List (Int × Int)) (i : Nat) : Int := 1000 * (ps.getD i (0, 0)).1 + (ps.getD i (0, 0)).2
theorem tups_ask {κ : SortKind} {vs : List Value} {ps : List (Int × Int)} (hp : Paired (TupAt s.heap) vs ps) (hb : ∀ p ∈ ps, 0 ≤ p.2 ∧ p.2 < 1000) : Asks (kas_ask prog w A (tuples' true) vs) vs.length (pky ps) s := by
  intro i j C hi hj c
  have hl := hp.length
  have gi : ps[i]? = some ps[i] := List.getElem?_eq_getElem (by omega)
  have gj : ps[j]? = some ps[j] := List.getElem?_eq_getElem (by omega)
  have bi := hb _ (List.getElem_mem (show i < ps.length by omega))
  have bj := hb _ (List.getElem_mem (show j < ps.length by omega))
  obtain ⟨x, ex, a, t1, u1, rfl, o, x1, x2, n, x3⟩ := paired_get hp gi
  obtain ⟨y, ey, b, t2, u2, rfl, o', y1, y2, n', y3⟩ := paired_get hp gj
  unfold pky at c
  rw [List.getD_eq_getElem?_getD, List.getD_eq_getElem?_getD, gi, gj] at c
  generalize ps[i] = pi at *
  generalize ps[j] = pj at *
  unfold kas_ask
  rw [List.getD_eq_getElem?_getD, List.getD_eq_getElem?_getD, ex, ey]
  refine kat_lt x1 x3 y1 y3 ?_
  have key : ∀ b1 : Bool, b1 = decide (1000 * pi.1 + pi.2 < 1000 * pj.1 + pj.2) → C b1 s := fun b1 e => by rw [e]; exact c
  refine kat_cons (wpAny_eqBool_int (kat_go (fun e1 => kat_yes (kat_cons (wpAny_eqBool_int (kat_go (fun e2 => kat_yes (kat_nil ?_)) fun e2 => kat_no (kat_one _ _ (PyProof.Rows.lt_int ?_)))))) fun e1 => kat_no (oneLt_int ?_)))
  · have z1 : pi.1 = pj.1 := by simpa using e1
    have z2 : pi.2 = pj.2 := by simpa using e2
    refine key _ ?_
    rw [decide_eq_false (show ¬ (1000 * pi.1 + pi.2 < 1000 * pj.1 + pj.2) by omega)]
    simp
  · have z1 : pi.1 = pj.1 := by simpa using e1
    refine key _ ?_
    rw [z1]
    exact decide_eq_decide.mpr (by omega)
  · have z1 : pi.1 ≠ pj.1 := by simpa using e1
    refine key _ ?_
    exact decide_eq_decide.mpr (by omega)
end
section
variable {X : Cx}
theorem vals_getD {us : List V} {its : List Value} (r : Vals us its) {i : Nat} (hi : i < us.length) : RelV (us.getD i .non) (its.getD i Value.none) := by
  obtain ⟨u, hu, ru⟩ := r.get (i := i) (x := us[i]) (List.getElem?_eq_getElem hi)
  rw [List.getD_eq_getElem?_getD, List.getD_eq_getElem?_getD, hu, List.getElem?_eq_getElem hi]
  exact ru
theorem vals_by {us : List V} {its : List Value} (r : Vals us its) : ∀ (l : List Nat), (∀ i ∈ l, i < us.length) → Vals (l.map fun i => us.getD i .non) (l.map fun i => its.getD i Value.none)
  | [], _ => .nil
  | i :: l, h => .cons (vals_getD r (h i (List.mem_cons_self ..))) (vals_by r l fun j hj => h j (List.mem_cons_of_mem _ hj))
theorem paired_by {α β : Type} {F : α → β → Prop} {us : List α} {ps : List β} {x : α} {y : β} (r : Paired F us ps) : ∀ (l : List Nat), (∀ i ∈ l, i < us.length) → Paired F (l.map fun i => us.getD i x) (l.map fun i => ps.getD i y)
  | [], _ => .nil
  | i :: l, h => by
    have hl := r.length
    have hi := h i (List.mem_cons_self ..)
    obtain ⟨v, hv, fv⟩ := paired_get r (List.getElem?_eq_getElem (show i < ps.length by omega))
    refine .cons ?_ (paired_by r l fun j hj => h j (List.mem_cons_of_mem _ hj))
    dsimp only
    rw [List.getD_eq_getElem?_getD, List.getD_eq_getElem?_getD, hv, List.getElem?_eq_getElem (show i < ps.length by omega)]
    exact fv
abbrev PrsAt (H : Hp) : List V → List (Int × Int) → Prop := Paired fun v p => ∃ a, v = .ref a ∧ H a = some (.tup [.int p.1, .int p.2])
theorem prs_tups {pins : List (Addr × Obj)} {σ : St} {H : Hp} {s : Shared} (I : Inv X pins σ H s) : ∀ {us : List V} {ps : List (Int × Int)} {its : List Value}, PrsAt H us ps → Vals us its → Paired (TupAt s.heap) its ps
  | _, _, _, .nil, .nil => .nil
  | _, _, _, .cons x r, .cons y q => by
    obtain ⟨a, rfl, h⟩ := x
    refine .cons ?_ (prs_tups I r q)
    cases y
    obtain ⟨its, rv, pt, _⟩ := I.tuple (SqT.of h)
    cases rv with
    | cons r1 rr =>
      cases rr with
      | cons r2 r3 =>
        cases r3
        obtain ⟨t, rfl⟩ := r1
        obtain ⟨u, rfl⟩ := r2
        exact ⟨a, t, u, rfl, pt⟩
theorem pmap_range {α : Type} (xs : List α) (y : α) : (List.range xs.length).map (fun i => xs.getD i y) = xs := by
  apply List.ext_getElem?
  intro i
  by_cases hi : i < xs.length
  · rw [List.getElem?_map, List.getElem?_range hi, List.getElem?_eq_getElem hi]
    simp [hi]
  · rw [List.getElem?_eq_none (by simp; omega), List.getElem?_eq_none (by omega)]
theorem call_sortedP : CallR X (.builtin "sorted") (fun xs H Q => ∃ (p : Addr) (us : List V) (ps : List (Int × Int)), xs = [.ref p] ∧ SqL X.K H p us ∧ PrsAt H us ps ∧ ps.length < 64 ∧ (∀ p ∈ ps, 0 ≤ p.2 ∧ p.2 < 1000) ∧
    ∀ (l : Addr) (us' : List V) (ps' : List (Int × Int)), H l = none → PrsAt H us' ps' → ps'.Perm ps → ps'.Pairwise (fun a b => 1000 * a.1 + a.2 ≤ 1000 * b.1 + b.2) → Q (.ref l) (upd H l (.lst us'))) := by
  intro pins s σ H xs us Q I r h
  obtain ⟨p, us, ps, rfl, hq, hP, h64, hb, q⟩ := h
  obtain ⟨u, rfl, rx⟩ := vals1 r
  cases rx
  obtain ⟨its, r', pl, hz⟩ := I.list hq
  have hlen := r'.length
  have plen := hP.length
  have tp := prs_tups I hP r'
  refine sorted_by (key := pky ps) pl.isList (by omega) (fun h2 A' E' h' kept => ?_) fun pm b1 b2 => ?_
  · have tp' : Paired (TupAt h') its ps := Paired.mapP tp fun v p ⟨a, t, u, e, x⟩ => ⟨a, t, u, e, x.keeps kept⟩
    obtain ⟨fs, f1, f2, f3⟩ := tups_kat tp'
    refine ⟨tuples' true, fun R hR => kat_kind (s := { s with heap := h' }) (T := .type "int") f1 (by omega) (fun v hv => ?_) rfl hR, tups_ask (κ := tuples' true) (s := { s with heap := h' }) tp' hb⟩
    obtain ⟨i, t, rfl⟩ := f3 v hv
    exact .now
  have mem : ∀ i ∈ pm.toList, i < us.length := fun i hi => by
    have := (Array.perm_iff_toList_perm.mp b1).mem_iff (a := i)
    have := this.mp hi
    simp at this
    omega
  obtain ⟨e, he⟩ := sortedAll_at s.heap its (byPl its pm)
  have pe : (pm.toList.map fun i => ps.getD i (0, 0)).Perm ps := by
    have := (Array.perm_iff_toList_perm.mp b1).map (fun i => ps.getD i (0, 0))
    rw [show its.length = ps.length by omega] at this
    rw [show (List.toArray (List.range ps.length)).toList = List.range ps.length by simp, pmap_range] at this
    exact this
  refine ⟨.ref (s.heap.objs.size + 1), _, I.laid (t' := s.toks) (fun b o z => sortedAll_old z) (Nat.le_succ _) (show ObjOk X.prog X.w _ _ _ (.lst (pm.toList.map fun i => us.getD i .non)) from ?_), rfl, q _ _ (pm.toList.map fun i => ps.getD i (0, 0)) (I.hok.fresh (Nat.le_succ _)) (paired_by hP _ mem) pe ?_⟩
  · refine ⟨?_, (byPl its pm).toList, e, vals_by r' _ mem, he⟩
    have := pe.length_eq
    rw [List.length_map] at this ⊢
    omega
  · rw [List.pairwise_iff_getElem]
    intro i j hi hj hij
    rw [List.length_map, Array.length_toList] at hi hj
    have sz : pm.size = its.length := by rw [b1.size_eq]; simp
    have := b2 i j (by omega) (by omega)
    unfold ky pky at this
    have e1 : pm.getD i 0 = pm.toList[i] := by simp [Array.getD, hi]
    have e2 : pm.getD j 0 = pm.toList[j] := by simp [Array.getD, hj]
    rw [e1, e2] at this
    simpa using this
theorem call_sortedP' (K : PySem.W.Frag) (h : X.K = K) : CallR X (.builtin "sorted") (fun xs H Q => ∃ (p : Addr) (us : List V) (ps : List (Int × Int)), xs = [.ref p] ∧ SqL K H p us ∧ PrsAt H us ps ∧ ps.length < 64 ∧ (∀ p ∈ ps, 0 ≤ p.2 ∧ p.2 < 1000) ∧
    ∀ (l : Addr) (us' : List V) (ps' : List (Int × Int)), H l = none → PrsAt H us' ps' → ps'.Perm ps → ps'.Pairwise (fun a b => 1000 * a.1 + a.2 ≤ 1000 * b.1 + b.2) → Q (.ref l) (upd H l (.lst us'))) := by subst h; exact call_sortedP
end
end L2
set_option maxRecDepth 100000
set_option linter.all false
set_option Elab.async false
namespace Pc
def Low (n : Nat) (S : Int → Int → Bool) : Prop := ∀ a b, S a b = true → 0 ≤ a ∧ a < b ∧ b < n
def W9 (S : Int → Int → Bool) : Nat → Int → Int → Bool
  | 0, a, b => S a b
  | k + 1, a, b => W9 S k a b || (W9 S k a (k : Int) && W9 S k (k : Int) b)
theorem W9_low {n : Nat} {S : Int → Int → Bool} (h : Low n S) : ∀ k, Low n (W9 S k)
  | 0 => h
  | k + 1 => by
    intro a b hab
    rw [W9, Bool.or_eq_true, Bool.and_eq_true] at hab
    rcases hab with z | ⟨z1, z2⟩
    · exact W9_low h k a b z
    · have h1 := W9_low h k _ _ z1
      have h2 := W9_low h k _ _ z2
      omega
theorem W9_mono {S : Int → Int → Bool} {k : Nat} {a b : Int} (h : W9 S k a b = true) : W9 S (k + 1) a b = true := by
  rw [W9, h]; rfl
theorem W9_base {S : Int → Int → Bool} {a b : Int} (h : S a b = true) : ∀ k, W9 S k a b = true
  | 0 => h
  | k + 1 => W9_mono (W9_base h k)
theorem W9_trans {n : Nat} {S : Int → Int → Bool} (h : Low n S) : ∀ (k : Nat) {a m b : Int}, m < k → W9 S k a m = true → W9 S k m b = true → W9 S k a b = true
  | 0, a, m, b, hm, h1, _ => by have := h a m h1; omega
  | k + 1, a, m, b, hm, h1, h2 => by
    have hl := W9_low h k
    by_cases e : m = k
    · subst e
      rw [W9, Bool.or_eq_true, Bool.and_eq_true] at h1 h2 ⊢
      have h1' : W9 S k a (k : Int) = true := by
        rcases h1 with z | ⟨z, _⟩ <;> exact z
      have h2' : W9 S k (k : Int) b = true := by
        rcases h2 with z | ⟨_, z⟩ <;> exact z
      exact .inr ⟨h1', h2'⟩
    · have hmk : m < k := by omega
      rw [W9, Bool.or_eq_true, Bool.and_eq_true] at h1 h2
      have h1' : W9 S k a m = true := by
        rcases h1 with z | ⟨_, z⟩
        · exact z
        · have := hl _ _ z; omega
      rcases h2 with z | ⟨z1, z2⟩
      · exact W9_mono (W9_trans h k hmk h1' z)
      · have := W9_trans h k hmk h1' z1
        rw [W9, this, z2]; simp
inductive Tc (S : Int → Int → Bool) : Int → Int → Prop
  | base {a b : Int} : S a b = true → Tc S a b
  | step {a m b : Int} : Tc S a m → Tc S m b → Tc S a b
theorem W9_tc {S : Int → Int → Bool} : ∀ (k : Nat) {a b : Int}, W9 S k a b = true → Tc S a b
  | 0, a, b, h => .base h
  | k + 1, a, b, h => by
    rw [W9, Bool.or_eq_true, Bool.and_eq_true] at h
    rcases h with z | ⟨z1, z2⟩
    · exact W9_tc k z
    · exact .step (W9_tc k z1) (W9_tc k z2)
theorem Tc.low {n : Nat} {S : Int → Int → Bool} (h : Low n S) {a b : Int} (t : Tc S a b) : 0 ≤ a ∧ a < b ∧ b < n := by
  induction t with
  | base z => exact h _ _ z
  | step _ _ i1 i2 => omega
theorem tc_W9 {n : Nat} {S : Int → Int → Bool} (h : Low n S) {a b : Int} (t : Tc S a b) : W9 S n a b = true := by
  induction t with
  | base z => exact W9_base z n
  | step t1 t2 i1 i2 => exact W9_trans h n (by have := t1.low h; omega) i1 i2
theorem tc_iff {n : Nat} {S : Int → Int → Bool} (h : Low n S) {a b : Int} : W9 S n a b = true ↔ Tc S a b := ⟨W9_tc n, tc_W9 h⟩
theorem Tc.within {S : Int → Int → Bool} {R : Int → Int → Prop} (hb : ∀ a b, S a b = true → R a b) (ht : ∀ a m b, R a m → R m b → R a b) {a b : Int} (t : Tc S a b) : R a b := by
  induction t with
  | base z => exact hb _ _ z
  | step _ _ i1 i2 => exact ht _ _ _ i1 i2
def Cot (S : Int → Int → Prop) : Prop := ∀ a b c, a < b → b < c → S a c → S a b ∨ S b c
theorem tc_cot {n : Nat} {S : Int → Int → Bool} (h : Low n S) (hc : ∀ a b c, a < b → b < c → S a c = true → Tc S a b ∨ Tc S b c) : Cot (Tc S) := by
  intro a b c hab hbc t
  induction t generalizing b with
  | base z => exact hc _ _ _ hab hbc z
  | @step a m c t1 t2 i1 i2 =>
    rcases Int.lt_trichotomy b m with z | z | z
    · rcases i1 b hab z with y | y
      · exact .inl y
      · exact .inr (.step y t2)
    · subst z; exact .inl t1
    · rcases i2 b z hbc with y | y
      · exact .inl (.step t1 y)
      · exact .inr y
def cro (n : Nat) (o : List Int) (a b : Int) : Bool := decide ((a, b) ∈ prs o n n)
theorem cro_iff {n : Nat} {o : List Int} {a b : Int} : cro n o a b = true ↔ 0 ≤ a ∧ a < b ∧ b < n ∧ idx b o < idx a o := by
  unfold cro
  rw [decide_eq_true_iff, mem_prs]
  constructor
  · rintro ⟨x, y, h1, h2, h3, rfl, rfl, h4⟩
    exact ⟨by omega, by omega, by omega, h4⟩
  · rintro ⟨h1, h2, h3, h4⟩
    refine ⟨a.toNat, b.toNat, by omega, by omega, by omega, by omega, by omega, ?_⟩
    rw [show ((a.toNat : Nat) : Int) = a by omega, show ((b.toNat : Nat) : Int) = b by omega]
    exact h4
theorem cro_low (n : Nat) (o : List Int) : Low n (cro n o) := fun a b h => by
  have := cro_iff.mp h; omega
theorem cro_trans {n : Nat} {o : List Int} {a m b : Int} (h1 : cro n o a m = true) (h2 : cro n o m b = true) : cro n o a b = true := by
  rw [cro_iff] at h1 h2 ⊢; omega
theorem idx_lt : ∀ {o : List Int} {x : Int}, x ∈ o → idx x o < o.length
  | [], x, h => by simp at h
  | y :: r, x, h => by
    unfold idx
    by_cases e : y = x
    · rw [if_pos e]; simp
    · rw [if_neg e]
      have := idx_lt (o := r) (x := x) (by
        rcases List.mem_cons.mp h with z | z
        · exact absurd z.symm e
        · exact z)
      simp; omega
theorem idx_inj {o : List Int} {x y : Int} (hx : x ∈ o) (hy : y ∈ o) (h : idx x o = idx y o) : x = y := by
  have h1 := idx_get o x hx
  have h2 := idx_get o y hy
  rw [h, h2] at h1
  exact (Option.some.inj h1).symm
theorem cro_cot {n : Nat} {o : List Int} (ho : Ord n o) {a b c : Int} (hab : a < b) (hbc : b < c) (h : cro n o a c = true) : cro n o a b = true ∨ cro n o b c = true := by
  rw [cro_iff] at h
  simp only [cro_iff]
  by_cases z : idx b o < idx a o
  · exact .inl ⟨by omega, hab, by omega, z⟩
  · exact .inr ⟨by omega, hbc, by omega, by omega⟩
theorem idx_rev {n : Nat} {o : List Int} (ho : Ord n o) {x : Int} (hx : x ∈ o) : idx x o.reverse = n - 1 - idx x o := by
  have hl := idx_lt hx
  have hn := ho.length
  refine idx_of_get ((List.Perm.nodup_iff (List.reverse_perm o)).mpr ho.nodup) ?_
  rw [List.getElem?_reverse (by omega), show o.length - 1 - (n - 1 - idx x o) = idx x o by omega]
  exact idx_get o x hx
theorem Ord.rev {n : Nat} {o : List Int} (h : Ord n o) : Ord n o.reverse := (List.reverse_perm o).trans h
theorem cro_rev {n : Nat} {o : List Int} (ho : Ord n o) {a b : Int} (h0 : 0 ≤ a) (hab : a < b) (hb : b < n) : cro n o.reverse a b = !cro n o a b := by
  have ha' : a ∈ o := ho.mem.mpr (by omega)
  have hb' : b ∈ o := ho.mem.mpr (by omega)
  have l1 := idx_lt ha'
  have l2 := idx_lt hb'
  have hn := ho.length
  have ne : idx a o ≠ idx b o := fun z => by have := idx_inj ha' hb' z; omega
  rw [Bool.eq_iff_iff, Bool.not_eq_true', ← Bool.not_eq_true, cro_iff, cro_iff, idx_rev ho ha', idx_rev ho hb']
  omega
def both (n : Nat) (p q : List Int) (a b : Int) : Bool := cro n p a b || cro n q a b
theorem both_low (n : Nat) (p q : List Int) : Low n (both n p q) := fun a b h => by
  unfold both at h
  rw [Bool.or_eq_true] at h
  rcases h with z | z
  · exact cro_low n p a b z
  · exact cro_low n q a b z
theorem both_comm (n : Nat) (p q : List Int) : both n p q = both n q p := by
  funext a b; unfold both; exact Bool.or_comm ..
theorem both_cot {n : Nat} {p q : List Int} (hp : Ord n p) (hq : Ord n q) : Cot (Tc (both n p q)) := by
  refine tc_cot (both_low n p q) fun a b c hab hbc h => ?_
  unfold both at h ⊢
  rw [Bool.or_eq_true] at h
  rcases h with z | z
  · rcases cro_cot hp hab hbc z with y | y
    · exact .inl (.base (by rw [y]; rfl))
    · exact .inr (.base (by rw [y]; rfl))
  · rcases cro_cot hq hab hbc z with y | y
    · exact .inl (.base (by rw [y]; simp))
    · exact .inr (.base (by rw [y]; simp))
def gA (n : Nat) (T : Int → Int → Bool) (d : Nat) : List Nat := (List.range' (d + 1) (n - (d + 1))).filter fun (g : Nat) => T (d : Int) (g : Int)
def lA (T : Int → Int → Bool) (d : Nat) : List Nat := (List.range d).filter fun (l : Nat) => !T (l : Int) (d : Int)
def pos9 (n : Nat) (T : Int → Int → Bool) (d : Nat) : Nat := (gA n T d).length + (lA T d).length
def ow9 (n : Nat) (T : Int → Int → Bool) : Nat → List Int
  | 0 => fst n
  | d + 1 => (ow9 n T d).set (pos9 n T d) (d : Int)
def ah (T : Int → Int → Bool) (x y : Nat) : Bool := (decide (x < y) && !T (x : Int) (y : Int)) || (decide (y < x) && T (y : Int) (x : Int))
theorem pos9_eq {n : Nat} {T : Int → Int → Bool} {d : Nat} (hd : d < n) : pos9 n T d = ((List.range n).filter fun x => ah T x d).length := by
  have e : List.range n = List.range d ++ (d :: List.range' (d + 1) (n - (d + 1))) := by
    rw [List.range_eq_range', List.range_eq_range', ← List.range'_succ]
    have := List.range'_append_1 (s := 0) (m := d) (n := n - (d + 1) + 1)
    rw [Nat.zero_add] at this
    rw [this]
    congr 1; omega
  rw [e, List.filter_append, List.filter_cons, List.length_append]
  have h0 : ah T d d = false := by simp [ah]
  rw [h0]
  have h1 : (List.range d).filter (fun x => ah T x d) = lA T d := by
    unfold lA
    refine List.filter_congr fun x hx => ?_
    have hx := List.mem_range.mp hx
    simp [ah, hx, show ¬ d < x by omega]
  have h2 : (List.range' (d + 1) (n - (d + 1))).filter (fun x => ah T x d) = gA n T d := by
    unfold gA
    refine List.filter_congr fun x hx => ?_
    have hx := List.mem_range'_1.mp hx
    simp [ah, show d < x by omega, show ¬ x < d by omega]
  rw [h1, h2]
  unfold pos9
  simp
  omega
theorem sub_len {α : Type} [BEq α] [LawfulBEq α] : ∀ {l m : List α}, l.Nodup → (∀ x ∈ l, x ∈ m) → l.length ≤ m.length
  | [], m, _, _ => Nat.zero_le _
  | x :: l, m, nd, h => by
    have hx := h x List.mem_cons_self
    have nd' := List.nodup_cons.mp nd
    have := sub_len (l := l) (m := m.erase x) nd'.2 fun y hy => by
      rw [List.mem_erase_of_ne (show y ≠ x from fun e => nd'.1 (e ▸ hy))]; exact h y (List.mem_cons_of_mem _ hy)
    rw [List.length_erase_of_mem hx] at this
    have := List.length_pos_of_mem hx
    simp; omega
theorem sub_perm {α : Type} [BEq α] [LawfulBEq α] : ∀ {l m : List α}, l.Nodup → (∀ x ∈ l, x ∈ m) → m.length ≤ l.length → l.Perm m
  | [], m, _, _, hl => by
    have : m = [] := List.length_eq_zero_iff.mp (by simpa using hl)
    rw [this]
  | x :: l, m, nd, h, hl => by
    have hx := h x List.mem_cons_self
    have nd' := List.nodup_cons.mp nd
    have h1 := List.length_pos_of_mem hx
    have := sub_perm (l := l) (m := m.erase x) nd'.2 (fun y hy => by
      rw [List.mem_erase_of_ne (show y ≠ x from fun e => nd'.1 (e ▸ hy))]; exact h y (List.mem_cons_of_mem _ hy)) (by
      rw [List.length_erase_of_mem hx]; simp at hl; omega)
    exact (this.cons x).trans (List.perm_cons_erase hx).symm
structure Clo (n : Nat) (T : Int → Int → Bool) : Prop where
  low : Low n T
  tr : ∀ a m b, T a m = true → T m b = true → T a b = true
  cot : ∀ a b c, a < b → b < c → T a c = true → T a b = true ∨ T b c = true
theorem ah_total {n : Nat} {T : Int → Int → Bool} {x y : Nat} (h : x ≠ y) : ah T x y = !ah T y x := by
  unfold ah
  rcases Nat.lt_or_gt_of_ne h with z | z
  · simp [z, show ¬ y < x by omega]
  · simp [z, show ¬ x < y by omega]
theorem ah_trans {n : Nat} {T : Int → Int → Bool} (c : Clo n T) {x y z : Nat} (h1 : ah T x y = true) (h2 : ah T y z = true) : ah T x z = true := by
  unfold ah at h1 h2 ⊢
  simp only [Bool.or_eq_true, Bool.and_eq_true, decide_eq_true_eq, Bool.not_eq_true'] at h1 h2 ⊢
  rcases h1 with ⟨a1, b1⟩ | ⟨a1, b1⟩ <;> rcases h2 with ⟨a2, b2⟩ | ⟨a2, b2⟩
  · refine .inl ⟨by omega, ?_⟩
    cases e : T (x : Int) (z : Int) with
    | false => rfl
    | true =>
      rcases c.cot x y z (by omega) (by omega) e with k | k
      · rw [k] at b1; cases b1
      · rw [k] at b2; cases b2
  · rcases Nat.lt_trichotomy x z with k | k | k
    · refine .inl ⟨k, ?_⟩
      cases e : T (x : Int) (z : Int) with
      | false => rfl
      | true => rw [c.tr _ _ _ e b2] at b1; cases b1
    · subst k; rw [b2] at b1; cases b1
    · refine .inr ⟨k, ?_⟩
      rcases c.cot z x y (by omega) (by omega) b2 with j | j
      · exact j
      · rw [j] at b1; cases b1
  · rcases Nat.lt_trichotomy x z with k | k | k
    · refine .inl ⟨k, ?_⟩
      cases e : T (x : Int) (z : Int) with
      | false => rfl
      | true => rw [c.tr _ _ _ b1 e] at b2; cases b2
    · subst k; rw [b2] at b1; cases b1
    · refine .inr ⟨k, ?_⟩
      rcases c.cot y z x (by omega) (by omega) b1 with j | j
      · rw [j] at b2; cases b2
      · exact j
  · exact .inr ⟨by omega, c.tr _ _ _ b2 b1⟩
theorem pos9_lt {n : Nat} {T : Int → Int → Bool} (c : Clo n T) {x y : Nat} (hx : x < n) (hy : y < n) (h : ah T x y = true) : pos9 n T x < pos9 n T y := by
  rw [pos9_eq hx, pos9_eq hy]
  have hs : ∀ z ∈ (List.range n).filter (fun z => ah T z x), z ∈ ((List.range n).filter fun z => ah T z y).erase x := by
    intro z hz
    rw [List.mem_filter] at hz
    have hne : z ≠ x := fun e => by rw [e] at hz; simp [ah] at hz
    rw [List.mem_erase_of_ne hne, List.mem_filter]
    exact ⟨hz.1, ah_trans c hz.2 h⟩
  have nd : ((List.range n).filter (fun z => ah T z x)).Nodup := List.Pairwise.filter _ List.nodup_range
  have le := sub_len nd hs
  have hm : x ∈ (List.range n).filter fun z => ah T z y := List.mem_filter.mpr ⟨List.mem_range.mpr hx, h⟩
  have := List.length_erase_of_mem hm
  have := List.length_pos_of_mem hm
  omega
theorem pos9_bound {n : Nat} {T : Int → Int → Bool} {x : Nat} (hx : x < n) : pos9 n T x < n := by
  rw [pos9_eq hx]
  have h1 : ((List.range n).filter fun z => ah T z x).length ≠ n := by
    intro e
    have e2 : (List.range n).filter (fun z => ah T z x) = List.range n := List.filter_eq_self.mpr (List.length_filter_eq_length_iff.mp (by rw [e, List.length_range]))
    have := List.filter_eq_self.mp e2 x (List.mem_range.mpr hx)
    simp [ah] at this
  have := List.length_filter_le (fun z => ah T z x) (List.range n)
  rw [List.length_range] at this
  omega
theorem pos9_inj {n : Nat} {T : Int → Int → Bool} (c : Clo n T) {x y : Nat} (hx : x < n) (hy : y < n) (h : pos9 n T x = pos9 n T y) : x = y := by
  by_cases e : x = y
  · exact e
  · cases z : ah T x y with
    | true => have := pos9_lt c hx hy z; omega
    | false =>
      rw [ah_total (n := n) e, Bool.not_eq_false'] at z
      have := pos9_lt c hy hx z; omega
theorem ow9_length (n : Nat) (T : Int → Int → Bool) : ∀ d, (ow9 n T d).length = n
  | 0 => fst_length n
  | d + 1 => by rw [ow9, List.length_set, ow9_length n T d]
theorem ow9_get {n : Nat} {T : Int → Int → Bool} (c : Clo n T) : ∀ {d : Nat}, d ≤ n → ∀ x : Nat, x < d → (ow9 n T d)[pos9 n T x]? = some (x : Int)
  | 0, _, x, h => by omega
  | d + 1, hd, x, hx => by
    rw [ow9]
    by_cases e : x = d
    · subst e
      rw [List.getElem?_set_self (by rw [ow9_length]; exact pos9_bound (by omega))]
    · rw [List.getElem?_set_ne (fun z => e (pos9_inj c (by omega) (by omega) z.symm))]
      exact ow9_get c (by omega) x (by omega)
theorem ow9_ord {n : Nat} {T : Int → Int → Bool} (c : Clo n T) : Ord n (ow9 n T n) := by
  have hs : ∀ x ∈ fst n, x ∈ ow9 n T n := fun x hx => by
    have := mem_fst.mp hx
    have h := ow9_get c (Nat.le_refl n) x.toNat (by omega)
    rw [show ((x.toNat : Nat) : Int) = x by omega] at h
    exact List.mem_of_getElem? h
  exact (sub_perm (nodup_fst n) hs (by rw [ow9_length, fst_length]; exact Nat.le_refl _)).symm
theorem ow9_idx {n : Nat} {T : Int → Int → Bool} (c : Clo n T) {x : Nat} (hx : x < n) : idx (x : Int) (ow9 n T n) = pos9 n T x :=
  idx_of_get (ow9_ord c).nodup (ow9_get c (Nat.le_refl n) x hx)
theorem ow9_cro {n : Nat} {T : Int → Int → Bool} (c : Clo n T) (a b : Int) : cro n (ow9 n T n) a b = T a b := by
  rw [Bool.eq_iff_iff, cro_iff]
  constructor
  · rintro ⟨h1, h2, h3, h4⟩
    have e1 : ((a.toNat : Nat) : Int) = a := by omega
    have e2 : ((b.toNat : Nat) : Int) = b := by omega
    rw [← e1, ← e2, ow9_idx c (by omega), ow9_idx c (by omega)] at h4
    cases z : T a b with
    | true => rfl
    | false =>
      have : ah T a.toNat b.toNat = true := by unfold ah; rw [e1, e2, z]; simp; omega
      have := pos9_lt c (by omega) (by omega) this
      omega
  · intro h
    have l := c.low a b h
    have e1 : ((a.toNat : Nat) : Int) = a := by omega
    have e2 : ((b.toNat : Nat) : Int) = b := by omega
    refine ⟨l.1, l.2.1, l.2.2, ?_⟩
    rw [← e1, ← e2, ow9_idx c (by omega), ow9_idx c (by omega)]
    refine pos9_lt c (by omega) (by omega) ?_
    unfold ah; rw [e1, e2, h]; simp; omega
theorem clo_both {n : Nat} {p q : List Int} (hp : Ord n p) (hq : Ord n q) : Clo n (W9 (both n p q) n) where
  low := W9_low (both_low n p q) n
  tr := fun a m b h1 h2 => tc_W9 (both_low n p q) (.step (W9_tc n h1) (W9_tc n h2))
  cot := fun a b c hab hbc h => by
    rcases both_cot hp hq a b c hab hbc (W9_tc n h) with z | z
    · exact .inl (tc_W9 (both_low n p q) z)
    · exact .inr (tc_W9 (both_low n p q) z)
def joi (n : Nat) (p q : List Int) : List Int := ow9 n (W9 (both n p q) n) n
def mee (n : Nat) (p q : List Int) : List Int := (joi n p.reverse q.reverse).reverse
theorem joi_comm (n : Nat) (p q : List Int) : joi n p q = joi n q p := by unfold joi; rw [both_comm]
theorem mee_comm (n : Nat) (p q : List Int) : mee n p q = mee n q p := by unfold mee; rw [joi_comm]
theorem joi_ord {n : Nat} {p q : List Int} (hp : Ord n p) (hq : Ord n q) : Ord n (joi n p q) := ow9_ord (clo_both hp hq)
theorem mee_ord {n : Nat} {p q : List Int} (hp : Ord n p) (hq : Ord n q) : Ord n (mee n p q) := (joi_ord hp.rev hq.rev).rev
theorem joi_cro {n : Nat} {p q : List Int} (hp : Ord n p) (hq : Ord n q) {a b : Int} : cro n (joi n p q) a b = true ↔ Tc (both n p q) a b := by
  unfold joi
  rw [ow9_cro (clo_both hp hq)]
  exact tc_iff (both_low n p q)
def Sub9 (n : Nat) (p q : List Int) : Prop := ∀ x ∈ prs p n n, x ∈ prs q n n
theorem sub9_iff {n : Nat} {p q : List Int} : Sub9 n p q ↔ ∀ a b, cro n p a b = true → cro n q a b = true := by
  unfold Sub9 cro
  constructor
  · intro h a b hab
    exact decide_eq_true (h _ (of_decide_eq_true hab))
  · rintro h ⟨a, b⟩ hx
    exact of_decide_eq_true (h a b (decide_eq_true hx))
theorem joi_l {n : Nat} {p q : List Int} (hp : Ord n p) (hq : Ord n q) : Sub9 n p (joi n p q) :=
  sub9_iff.mpr fun a b h => (joi_cro hp hq).mpr (.base (by unfold both; rw [h]; rfl))
theorem joi_r {n : Nat} {p q : List Int} (hp : Ord n p) (hq : Ord n q) : Sub9 n q (joi n p q) :=
  sub9_iff.mpr fun a b h => (joi_cro hp hq).mpr (.base (by unfold both; rw [h]; simp))
theorem joi_least {n : Nat} {p q r : List Int} (hp : Ord n p) (hq : Ord n q) (h1 : Sub9 n p r) (h2 : Sub9 n q r) : Sub9 n (joi n p q) r := by
  rw [sub9_iff] at h1 h2 ⊢
  intro a b h
  refine ((joi_cro hp hq).mp h).within (R := fun a b => cro n r a b = true) (fun a b z => ?_) fun a m b => cro_trans
  unfold both at z
  rw [Bool.or_eq_true] at z
  rcases z with z | z
  · exact h1 _ _ z
  · exact h2 _ _ z
theorem sub9_rev {n : Nat} {p q : List Int} (hp : Ord n p) (hq : Ord n q) (h : Sub9 n p q) : Sub9 n q.reverse p.reverse := by
  rw [sub9_iff] at h ⊢
  intro a b z
  have l := cro_low n _ a b z
  rw [cro_rev hq l.1 l.2.1 l.2.2, Bool.not_eq_true'] at z
  rw [cro_rev hp l.1 l.2.1 l.2.2, Bool.not_eq_true']
  cases e : cro n p a b with
  | false => rfl
  | true => rw [h a b e] at z; cases z
theorem mee_l {n : Nat} {p q : List Int} (hp : Ord n p) (hq : Ord n q) : Sub9 n (mee n p q) p := by
  have := sub9_rev hp.rev (joi_ord hp.rev hq.rev) (joi_l hp.rev hq.rev)
  rwa [List.reverse_reverse] at this
theorem mee_r {n : Nat} {p q : List Int} (hp : Ord n p) (hq : Ord n q) : Sub9 n (mee n p q) q := by
  have := sub9_rev hq.rev (joi_ord hp.rev hq.rev) (joi_r hp.rev hq.rev)
  rwa [List.reverse_reverse] at this
theorem mee_most {n : Nat} {p q r : List Int} (hp : Ord n p) (hq : Ord n q) (hr : Ord n r) (h1 : Sub9 n r p) (h2 : Sub9 n r q) : Sub9 n r (mee n p q) := by
  have h := joi_least hp.rev hq.rev (sub9_rev hr hp h1) (sub9_rev hr hq h2)
  have := sub9_rev (joi_ord hp.rev hq.rev) hr.rev h
  rwa [List.reverse_reverse] at this
def inS (L : List (Int × Int)) (a b : Int) : Bool := decide ((a, b) ∈ L)
theorem inS_iff {L : List (Int × Int)} {a b : Int} : inS L a b = true ↔ (a, b) ∈ L := by unfold inS; exact decide_eq_true_iff
def Lo (n : Nat) (L : List (Int × Int)) : Prop := ∀ p ∈ L, 0 ≤ p.1 ∧ p.1 < p.2 ∧ p.2 < n
theorem Lo.low {n : Nat} {L : List (Int × Int)} (h : Lo n L) : Low n (inS L) := fun a b z => h _ (inS_iff.mp z)
theorem lo_prs (n : Nat) (o : List Int) : Lo n (prs o n n) := fun ⟨a, b⟩ h => cro_low n o a b (decide_eq_true h)
theorem Lo.append {n : Nat} {L M : List (Int × Int)} (h : Lo n L) (g : Lo n M) : Lo n (L ++ M) := fun p hp => by
  rcases List.mem_append.mp hp with z | z
  · exact h p z
  · exact g p z
theorem inS_both (n : Nat) (p q : List Int) : inS (prs p n n ++ prs q n n) = both n p q := by
  funext a b
  unfold both
  rw [Bool.eq_iff_iff, inS_iff, Bool.or_eq_true, List.mem_append]
  unfold cro
  rw [decide_eq_true_iff, decide_eq_true_iff]
def Cov (S : Int → Int → Bool) (k : Nat) (F : List (Int × Int)) : Prop := ∀ a b, Tc S a b → b - a ≤ k → (a, b) ∈ F
theorem cov_start {n : Nat} {S : Int → Int → Bool} (h : Low n S) {F : List (Int × Int)} (hF : ∀ a b, S a b = true → (a, b) ∈ F) : Cov S 1 F := by
  intro a b t hk
  cases t with
  | base z => exact hF _ _ z
  | step t1 t2 =>
    have := t1.low h
    have := t2.low h
    omega
theorem cov_next {n : Nat} {S : Int → Int → Bool} (h : Low n S) {k : Nat} {X F : List (Int × Int)} (hX : Cov S k X) (hF : ∀ a b, S a b = true → (a, b) ∈ F) (hn : ∀ a m b, (a, m) ∈ X → (m, b) ∈ X → (a, b) ∈ F) : Cov S (k + 1) F := by
  intro a b t hk
  cases t with
  | base z => exact hF _ _ z
  | @step _ m _ t1 t2 =>
    have := t1.low h
    have := t2.low h
    exact hn a m b (hX _ _ t1 (by omega)) (hX _ _ t2 (by omega))
def all49 : List (Int × Int) := (fst 7).flatMap fun a => (fst 7).map fun b => (a, b)
theorem lo_len {n : Nat} {F : List (Int × Int)} (hn : n ≤ 7) (nd : F.Nodup) (h : Lo n F) : F.length ≤ 49 := by
  have := sub_len (m := all49) nd fun p hp => by
    have := h p hp
    refine List.mem_flatMap.mpr ⟨p.1, mem_fst.mpr (by omega), List.mem_map.mpr ⟨p.2, mem_fst.mpr (by omega), rfl⟩⟩
  have e : all49.length = 49 := by decide +kernel
  omega
structure Fol (n : Nat) (S : Int → Int → Bool) (F : List (Int × Int)) : Prop where
  nd : F.Nodup
  tc : ∀ a b, (a, b) ∈ F → Tc S a b
  sub : ∀ a b, S a b = true → (a, b) ∈ F
theorem Fol.lo {n : Nat} {S : Int → Int → Bool} {F : List (Int × Int)} (hS : Low n S) (h : Fol n S F) : Lo n F := fun p hp => (h.tc p.1 p.2 hp).low hS
theorem Fol.add {n : Nat} {S : Int → Int → Bool} {F : List (Int × Int)} (h : Fol n S F) {a m b : Int} (h1 : (a, m) ∈ F) (h2 : (m, b) ∈ F) (hn : (a, b) ∉ F) : Fol n S (F ++ [(a, b)]) where
  nd := by
    rw [List.nodup_append]
    refine ⟨h.nd, by simp, fun x hx y hy e => ?_⟩
    rw [List.mem_singleton] at hy
    rw [e, hy] at hx
    exact hn hx
  tc := fun x y hx => by
    rcases List.mem_append.mp hx with z | z
    · exact h.tc x y z
    · rw [List.mem_singleton] at z
      injection z with e1 e2
      rw [e1, e2]
      exact .step (h.tc _ _ h1) (h.tc _ _ h2)
  sub := fun x y hx => List.mem_append_left _ (h.sub x y hx)
theorem fol_end {n : Nat} {p q : List Int} {F ps : List (Int × Int)} (hn : n ≤ 7) (hp : Ord n p) (hq : Ord n q) (hF : Fol n (both n p q) F) (hc : Cov (both n p q) (n + 1) F) (pm : ps.Perm F) (so : ps.Pairwise fun a b => 1000 * a.1 + a.2 ≤ 1000 * b.1 + b.2) : prs (joi n p q) n n = ps := by
  have hl := hF.lo (both_low n p q)
  have pe : ps.Perm (prs (joi n p q) n n) := by
    refine pm.trans ((List.perm_ext_iff_of_nodup hF.nd ((prs_rise (by omega)).imp fun h e => by rw [e] at h; exact Int.lt_irrefl _ h)).mpr ?_)
    rintro ⟨a, b⟩
    have e : (a, b) ∈ prs (joi n p q) n n ↔ Tc (both n p q) a b := by
      rw [← joi_cro hp hq]; unfold cro; rw [decide_eq_true_iff]
    rw [e]
    constructor
    · exact hF.tc a b
    · intro t
      have := t.low (both_low n p q)
      exact hc a b t (by omega)
  refine (List.Perm.eq_of_pairwise (fun a b ha hb h1 h2 => ?_) so ((prs_rise (by omega)).imp fun h => Int.le_of_lt h) pe).symm
  have x := prs_in_bounds (by omega) _ (pe.mem_iff.mp ha)
  have y := prs_in_bounds (by omega) _ hb
  unfold pkey at h2
  refine Prod.ext ?_ ?_ <;> omega
def M9 (S : Int → Int → Bool) (k : Nat) (l g a b : Int) : Bool := W9 S k a b || ((decide (a < l) || (decide (a = l) && decide (b < g))) && (W9 S k a (k : Int) && W9 S k (k : Int) b))
theorem W9_irr {n : Nat} {S : Int → Int → Bool} (h : Low n S) (k : Nat) (a : Int) : W9 S k a a = false := by
  cases e : W9 S k a a with
  | false => rfl
  | true => have := W9_low h k _ _ e; omega
theorem M9_0 {n : Nat} {S : Int → Int → Bool} (h : Low n S) (k : Nat) (a b : Int) : M9 S k 0 ((k : Int) + 1) a b = W9 S k a b := by
  unfold M9
  cases e1 : W9 S k a (k : Int) <;> cases e2 : W9 S k (k : Int) b <;> simp
  have := W9_low h k _ _ e1
  have := W9_low h k _ _ e2
  intro z
  omega
theorem M9_l {n : Nat} {S : Int → Int → Bool} (h : Low n S) (k : Nat) (l g a : Int) : M9 S k l g a (k : Int) = W9 S k a (k : Int) := by
  unfold M9
  rw [W9_irr h k (k : Int)]; simp
theorem M9_r {n : Nat} {S : Int → Int → Bool} (h : Low n S) (k : Nat) (l g b : Int) : M9 S k l g (k : Int) b = W9 S k (k : Int) b := by
  unfold M9
  rw [W9_irr h k (k : Int)]; simp
theorem M9_put {S : Int → Int → Bool} {k : Nat} {l g : Int} (h1 : W9 S k l (k : Int) = true) (h2 : W9 S k (k : Int) g = true) (a b : Int) : (M9 S k l g a b || (decide (a = l) && decide (b = g))) = M9 S k l (g + 1) a b := by
  unfold M9
  by_cases ea : a = l
  · subst ea
    by_cases eb : b = g
    · subst eb
      simp [h1, h2, show b < b + 1 by omega]
    · have : decide (b < g + 1) = decide (b < g) := decide_eq_decide.mpr (by omega)
      rw [this]; simp [eb]
  · simp [ea]
theorem M9_skip {S : Int → Int → Bool} {k : Nat} {l g : Int} (h : ¬ (W9 S k l (k : Int) = true ∧ W9 S k (k : Int) g = true)) (a b : Int) : M9 S k l g a b = M9 S k l (g + 1) a b := by
  unfold M9
  by_cases ea : a = l
  · subst ea
    by_cases eb : b = g
    · subst eb
      have : (W9 S k a (k : Int) && W9 S k (k : Int) b) = false := by
        cases e1 : W9 S k a (k : Int) <;> cases e2 : W9 S k (k : Int) b <;> simp
        exact h ⟨e1, e2⟩
      rw [this]; simp
    · have : decide (b < g + 1) = decide (b < g) := decide_eq_decide.mpr (by omega)
      rw [this]
  · simp [ea]
theorem M9_row {n : Nat} {S : Int → Int → Bool} (h : Low n S) (k : Nat) (l : Int) (a b : Int) : M9 S k l (n : Int) a b = M9 S k (l + 1) ((k : Int) + 1) a b := by
  unfold M9
  cases e1 : W9 S k a (k : Int) <;> cases e2 : W9 S k (k : Int) b <;> simp
  have l1 := W9_low h k _ _ e1
  have l2 := W9_low h k _ _ e2
  congr 1
  rw [Bool.eq_iff_iff]
  simp only [Bool.or_eq_true, Bool.and_eq_true, decide_eq_true_eq]
  omega
theorem M9_end {n : Nat} {S : Int → Int → Bool} (h : Low n S) (k : Nat) (a b : Int) : M9 S k (k : Int) ((k : Int) + 1) a b = W9 S (k + 1) a b := by
  rw [W9]
  unfold M9
  cases e1 : W9 S k a (k : Int) <;> cases e2 : W9 S k (k : Int) b <;> simp
  have l1 := W9_low h k _ _ e1
  have l2 := W9_low h k _ _ e2
  right; left; omega
theorem inS_snoc {ps : List (Int × Int)} {i : Nat} {p : Int × Int} (h : ps[i]? = some p) (x y : Int) : (inS (ps.take i) x y || (decide (x = p.1) && decide (y = p.2))) = inS (ps.take (i + 1)) x y := by
  rw [Bool.eq_iff_iff, Bool.or_eq_true, Bool.and_eq_true, decide_eq_true_eq, decide_eq_true_eq, inS_iff, inS_iff, List.take_succ, h, List.mem_append]
  simp only [Option.toList_some, List.mem_singleton]
  constructor
  · rintro (z | ⟨z1, z2⟩)
    · exact .inl z
    · exact .inr (Prod.ext z1 z2)
  · rintro (z | z)
    · exact .inl z
    · rw [← z]; exact .inr ⟨rfl, rfl⟩
structure Pre (n t : Nat) (d : List Int) : Prop where
  len : d.length = t
  nd : d.Nodup
  inn : ∀ x ∈ d, 0 ≤ x ∧ x < n
theorem Pre.nil (n : Nat) : Pre n 0 [] := ⟨rfl, .nil, fun x h => by simp at h⟩
theorem Pre.ord {n : Nat} {d : List Int} (h : Pre n n d) : Ord n d := sub_perm h.nd (fun x hx => mem_fst.mpr (h.inn x hx)) (by rw [fst_length, h.len]; exact Nat.le_refl _)
theorem Pre.snoc {n t : Nat} {d : List Int} {x : Int} (h : Pre n t d) (hx : 0 ≤ x ∧ x < n) (hn : x ∉ d) : Pre n (t + 1) (d ++ [x]) where
  len := by rw [List.length_append, h.len]; rfl
  nd := by
    rw [List.nodup_append]
    refine ⟨h.nd, by simp, fun y hy z hz e => ?_⟩
    rw [List.mem_singleton] at hz
    rw [e, hz] at hy
    exact hn hy
  inn := fun y hy => by
    rcases List.mem_append.mp hy with z | z
    · exact h.inn y z
    · rw [List.mem_singleton] at z; rw [z]; exact hx
def sb9 (L M : List (Int × Int)) : Bool := L.all fun z => decide (z ∈ M)
theorem sb9_iff {L M : List (Int × Int)} : sb9 L M = true ↔ ∀ x ∈ L, x ∈ M := by
  unfold sb9
  rw [List.all_eq_true]
  exact ⟨fun h x hx => of_decide_eq_true (h x hx), fun h x hx => decide_eq_true (h x hx)⟩
theorem sb9_append {L L' M : List (Int × Int)} : sb9 (L ++ L') M = true ↔ (∀ x ∈ L, x ∈ M) ∧ ∀ x ∈ L', x ∈ M := by
  rw [sb9_iff]
  exact ⟨fun h => ⟨fun x hx => h x (List.mem_append_left _ hx), fun x hx => h x (List.mem_append_right _ hx)⟩, fun ⟨h1, h2⟩ x hx => by
    rcases List.mem_append.mp hx with z | z
    · exact h1 x z
    · exact h2 x z⟩
theorem fol_start {n : Nat} {L F : List (Int × Int)} (nd : F.Nodup) (h : ∀ x, x ∈ F ↔ x ∈ L) : Fol n (inS L) F where
  nd := nd
  tc := fun a b hx => .base (inS_iff.mpr ((h _).mp hx))
  sub := fun a b hx => (h _).mpr (inS_iff.mp hx)
end Pc
set_option Elab.async false
set_option linter.all false
set_option maxRecDepth 100000
set_option maxHeartbeats 4000000
namespace L2
open PySem PySem.Spec PyProof.Rows
section
variable {X : Cx}
end
end L2
set_option Elab.async false
set_option linter.all false
set_option maxRecDepth 100000
set_option maxHeartbeats 4000000
namespace L2
open PySem PySem.Spec PyProof.Rows
structure Ms (P : Program) (w : World) (K : PySem.W.Frag) (mg : Str → Option Value) (base : Heap) (k : Nat) (C : Addr) (m : Str) (ps : List Str) (sp : Sp) : Prop where
  ex : ∃ (f : Addr) (fd : FuncData), FnOk P w K mg base CX0 k f fd ps sp ∧ Binds K fd ps [] ∧ Meth K C m f
structure Mkr (P : Program) (w : World) (K : PySem.W.Frag) (mg : Str → Option Value) (base : Heap) (k : Nat) (C : Addr) (x : Str) (ps : List Str) (sp : Sp) : Prop where
  ex : ∃ (f : Addr) (fd : FuncData), FnOk P w K mg base CX0 k f fd ps sp ∧ Binds K fd ps [] ∧ Mk K C f ∧ mg x = some (.ref C)
def Dm (K : PySem.W.Frag) (C : Addr) (m qual : Str) (st : Stmt) (ps : List Str) : Prop := ∃ (f : Addr) (fd : FuncData), Fun K m qual st f fd ∧ Binds K fd ps [] ∧ Meth K C m f
def Di (K : PySem.W.Frag) (mg : Str → Option Value) (C : Addr) (x qual : Str) (st : Stmt) (ps : List Str) : Prop := ∃ (f : Addr) (fd : FuncData), Fun K "__init__" qual st f fd ∧ Binds K fd ps [] ∧ Mk K C f ∧ mg x = some (.ref C)
section
variable {X : Cx}
end
section
variable {P : Program} {w : World} {K : PySem.W.Frag} {mg : Str → Option Value} {base : Heap}
theorem Dm.ms {C : Addr} {m qual : Str} {st : Stmt} {N ps : List Str} {k : Nat} {sp : Sp} (F : Dm K C m qual st ps) (S : FnScope N ps (defScope st)) (len : ∀ vs H Q E, sp vs H Q E → vs.length = ps.length)
    (hbody : ∀ (f : Addr) (cdv : Value) (A : Around) (outer : List Env) (s : Shared) (H : Hp) (vs : List V) (Q : VK) (E : XK), Room k (A.deeper (envOfC qual (defScope st) s.heap.objs.size f cdv)) → sp vs H Q E →
      ∃ t, PSs (cxOf CX0 P w K mg base N qual (defScope st) f cdv A outer s H E).nox (defBody st) t ∧ t { nx := fun _ H' => Q .non H', rt := Q } (start N vs) H) : Ms P w K mg base (k + 1) C m ps sp := by
  obtain ⟨f, fd, F, hb, hm⟩ := F
  exact ⟨f, fd, F.ok S len (fun cdv => hbody f cdv), hb, hm⟩
theorem Di.mk {C : Addr} {x qual : Str} {st : Stmt} {N ps : List Str} {k : Nat} {sp : Sp} (F : Di K mg C x qual st ps) (S : FnScope N ps (defScope st)) (len : ∀ vs H Q E, sp vs H Q E → vs.length = ps.length)
    (hbody : ∀ (f : Addr) (cdv : Value) (A : Around) (outer : List Env) (s : Shared) (H : Hp) (vs : List V) (Q : VK) (E : XK), Room k (A.deeper (envOfC qual (defScope st) s.heap.objs.size f cdv)) → sp vs H Q E →
      ∃ t, PSs (cxOf CX0 P w K mg base N qual (defScope st) f cdv A outer s H E).nox (defBody st) t ∧ t { nx := fun _ H' => Q .non H', rt := Q } (start N vs) H) : Mkr P w K mg base (k + 1) C x ps sp := by
  obtain ⟨f, fd, F, hb, M, hm⟩ := F
  exact ⟨f, fd, F.ok S len (fun cdv => hbody f cdv), hb, M, hm⟩
end
section
variable {X : Cx}
end
end L2
set_option Elab.async false
set_option linter.all false
set_option maxRecDepth 100000
set_option maxHeartbeats 4000000
namespace L2
open PySem PySem.Spec PyProof.Rows
theorem lri_len : typeLookup (.type "list_reverseiterator") "__len__" = pure none := by rw [typeLookup_type, builtinLookup_eq_fast]; kernel_rfl
theorem lri_hint : typeLookup (.type "list_reverseiterator") "__length_hint__" = pure (some (.builtin "list_reverseiterator.__length_hint__")) := by rw [typeLookup_type, builtinLookup_eq_fast]; kernel_rfl
section
variable {prog : Program} {w : World} {A : Around} {E : Value → Shared → Prop} {s : Shared}
theorem ext_rev {R : Result → Shared → Prop} {it l S : Addr} {items : Array Value} {res : Value} {c₀ : Nat} (hh : A.handled = none) (hit : s.heap.IsRevIter it l ((items.size : Int) - 1)) (hl : s.heap.IsList l items) (hne : l ≠ it) (hn : items.size ≤ sizeLine)
    (hSl : S ≠ l) (hSi : S ≠ it) (hS : s.heap.get? S = some { cls := .type "list", data := .seq #[] c₀ })
    (hR : ∀ s' acc' c', Moved (S :: [it]) (fun a b => b = a) s s' → s'.heap.get? S = some { cls := .type "list", dict := none, data := .seq acc' c', slots := #[] } → ItemsOf (fun i v => items[items.size - 1 - i]? = some v) acc' items.size → R (.ok (.ret res)) s') :
    wpAny (model prog w) A.in1 (Builtin.List.listExtendWith (.ref S) (.ref it) res)
      (fun fin s' => match fin with | .done f => R (.ok f) s' | .again c' => c'.quiet = true ∧ codeAny (model prog w) A c' R s') (fun e s' => R (.error e) s') s := by
  have W := (Walks.listRev (prog := prog) (w := w) (A := A.in1) hh it l hne items).toS
  have hT : s.TypeIs (.ref it) "list_reverseiterator" := hit.typeIs
  have h1 : Builtin.List.listSameRef (.ref S) (.ref it) = false := by simp [Builtin.List.listSameRef, hSi]
  unfold Builtin.List.listExtendWith
  refine wpAny_bind (wpAny_typeOf hT ?_)
  rw [if_neg (by rw [h1]; decide)]
  refine wpAny_bind (wpAny_pyIter_revIter hit (wpAny_bind (wpAny_holding ?_)))
  unfold Builtin.List.listLengthHint
  refine wpAny_bind (wpAny_specialOf hT lri_len ?_)
  show wpAny _ A.in1 (specialOf (Value.ref it) (Str.ofString "__length_hint__") >>= _) _ _ _
  refine wpAny_bind (wpAny_specialOf hT lri_hint ?_)
  generalize eid : ("list_reverseiterator.__length_hint__" : String) = id1
  wp_delta
  rw [show splitId id1 = some ("list_reverseiterator", "__length_hint__") from by subst eid; decide +kernel]
  subst eid
  refine wpAny_bind (wpAny_isInstance (b := true) hT (by rw [isSubtype_type]; kernel_rfl) (wpAny_pure ?_))
  rw [if_neg (by decide)]
  have hSf : S ∉ [it, l] := by simp [hSl, hSi]
  refine wpAny_pure ⟨plainId_quiet F.plain_extend_loop _, codeAny_extend_loopS W hn S hSf res items.size 0 _ #[] c₀ rfl (Nat.zero_le _) ⟨Nat.zero_le _, by simpa using hit, hl⟩ hS (ItemsOf.nil _) hR⟩
theorem call_list_rev {Q : Value → Shared → Prop} {it l : Addr} {items : Array Value} (hh : A.handled = none) (hit : s.heap.IsRevIter it l ((items.size : Int) - 1)) (hl : s.heap.IsList l items) (hne : l ≠ it) (hn : items.size ≤ sizeLine)
    (hQ : ∀ s' acc' c', Moved (s.heap.objs.size :: [it]) (fun a b => b = a) { s with heap := s.heap.push { cls := .type "list", data := .seq #[] } } s' → s'.heap.get? s.heap.objs.size = some { cls := .type "list", dict := none, data := .seq acc' c', slots := #[] } →
      ItemsOf (fun i v => items[items.size - 1 - i]? = some v) acc' items.size → Q (.ref s.heap.objs.size) s') : wpAny (model prog w) A (call (.type "list") [.ref it]) Q E s := by
  have li : it < s.heap.objs.size := by obtain ⟨o, e, _⟩ := hit; exact Heap.lt_size e
  have ll : l < s.heap.objs.size := by obtain ⟨o, e, _⟩ := hl; exact Heap.lt_size e
  generalize ez : s.heap.objs.size = S at *
  refine callType_codes (Q₁ := fun obj s1 => obj = .ref S ∧ s1 = { s with heap := s.heap.push { cls := .type "list", data := .seq #[] } }) F.called_list (F.typeCall_list_1 _) F.entry_list_init (code_list_new _ ⟨by rw [ez], rfl⟩) fun obj s1 e1 => ?_
  obtain ⟨rfl, rfl⟩ := e1
  have oS : (s.heap.push { cls := .type "list", data := .seq #[] }).get? S = some { cls := .type "list", data := .seq #[] } := by rw [← ez]; exact Heap.get?_push_size _ rfl
  generalize eg : s.heap.push { cls := .type "list", data := .seq #[] } = g at *
  have kg : ∀ b o, s.heap.get? b = some o → g.get? b = some o := fun b o e => by rw [← eg]; exact Heap.get?_push_of_some _ e
  refine ⟨⟨_, oS, rfl⟩, F.args_list_init_2 _ _, ?_⟩
  show wpAny _ _ (do let old ← Builtin.List.listItems (.ref S); Builtin.List.listUpdate (.ref S) (fun _ => #[]); letGo old.toList.reverse; Builtin.List.listExtendWith (.ref S) (.ref it) .none) _ _ _
  refine wpAny_bind (listItems_at (s := { s with heap := g }) oS rfl (wpAny_bind (listUpdate_at (s := { s with heap := g }) oS rfl (wpAny_bind (wpAny_letGo ?_)) (Nat.zero_le _) (Nat.zero_le _))))
  generalize eu : g.update S (Obj.mapSeq fun _ => (#[] : Array Value)) = u
  obtain ⟨e1, oU⟩ : ∃ e1, u.get? S = some (seqObj "list" #[] e1) := by rw [← eu]; exact ⟨_, get?_update_seq oS fun _ => #[]⟩
  have ku : ∀ b o, b ≠ S → g.get? b = some o → u.get? b = some o := fun b o nb e => by rw [← eu, Heap.get?_update_ne _ _ _ _ nb]; exact e
  refine ext_rev (s := { s with heap := u }) (A := A.in1) hh ?_ ?_ hne hn (Ne.symm (Nat.ne_of_lt ll)) (Ne.symm (Nat.ne_of_lt li)) oU fun s' acc' c' hm hS' hacc => ⟨rfl, hQ s' acc' c' ?_ hS' hacc⟩
  · exact hit.at fun o e => ku _ _ (Nat.ne_of_lt li) (kg _ _ e)
  · exact hl.at fun o e => ku _ _ (Nat.ne_of_lt ll) (kg _ _ e)
  · exact ⟨fun b o nb e => hm.heap b o nb (ku _ _ (fun z => nb (z ▸ List.mem_cons_self ..)) e), hm.gens, hm.drawn, hm.os, hm.toks⟩
end
section
variable {X : Cx}
def tLRev (K : PySem.W.Frag) (ta : TA) : TE := fun σ H Q => ta σ H fun vs H1 => ∃ (p : Addr) (xs : List V), vs = [.ref p] ∧ SqL K H1 p xs ∧ ∀ l, H1 l = none → Q (.ref l) (upd H1 l (.lst xs.reverse))
theorem pe_listRev {a : Expr} {ta : TA} {p p' pos pos' : Pos} (hl : X.mg "list" = none) (hr : X.mg "reversed" = none) (ha : PA X [a] ta) (hc : X.calm = true := by rfl) (hg : Gl X "list" := by rfl) (hg' : Gl X "reversed" := by rfl)
    (hs : starEach [a] X.env = [(false, eval a X.env)] := by rfl) (hs2 : starEach [.Call (.Name "reversed" p') [a] [] pos'] X.env = [(false, eval (.Call (.Name "reversed" p') [a] [] pos') X.env)] := by rfl) :
    PE X (.Call (.Name "list" p) [.Call (.Name "reversed" p') [a] [] pos'] [] pos) (tLRev X.K ta) := by
  intro pins s σ H Q I h
  refine wpAny_Call_Name_kw (ld_blt I hg hl boot_list ?_)
  refine PyProof.Rows.callWith_type1 ?_ (by rw [hs2]; rfl) (by rfl)
  rw [hs2]
  show wpAny _ _ (spliced ((false, eval (.Call (.Name "reversed" p') [a] [] pos') X.env) :: [])) _ _ s
  refine Calls.spliced_cons (Call_ (ld_blt I hg' hr boot_reversed (PyProof.Rows.callWith_type1 (thn (ha pos' pins s σ H _ I h) fun us s1 ⟨vs, H1, I1, r1, q1⟩ => ?_) hs rfl)))
  obtain ⟨q0, xs, e, hx, q⟩ := q1
  subst e
  obtain ⟨u, rfl, rx⟩ := vals1 r1
  cases rx
  obtain ⟨its, r, pl, hz⟩ := I1.list hx
  have hlen := r.length
  refine call_reversed_list pl.isList (Calls.spliced_nil ?_)
  have lq : q0 < s1.heap.objs.size := by obtain ⟨o, e, _⟩ := pl.isList; exact Heap.lt_size e
  refine call_list_rev (l := q0) (items := its.toArray) (I.ok.hd hc) ⟨_, Heap.get?_push_size _ rfl, rfl, rfl⟩ (pl.isList.at fun o e => Heap.get?_push_of_some _ e) (Nat.ne_of_lt lq) (by rw [List.size_toArray]; omega) fun s' acc' c' hm hS' hacc => ?_
  rw [size_push'] at hm hS' ⊢
  have es := Moved.eq_with hm
  rw [es]
  refine ⟨.ref (s1.heap.objs.size + 1), _, I1.laid (h' := s'.heap) (a := s1.heap.objs.size + 1) (o := .lst xs.reverse) (t' := s'.toks) (fun b o e => ?_) (Nat.le_succ _) ?_, rfl, q _ (I1.hok.fresh (Nat.le_succ _))⟩
  · have lb := Heap.lt_size e
    refine hm.heap b o ?_ (Heap.get?_push_of_some _ (Heap.get?_push_of_some _ e))
    intro z
    rcases List.mem_cons.mp z with y | y
    · rw [y] at lb; exact absurd lb (Nat.not_lt.mpr (Nat.le_succ _))
    · rw [List.mem_singleton.mp y] at lb; exact absurd lb (Nat.lt_irrefl _)
  · refine ⟨by rw [List.length_reverse]; exact hz, acc'.toList, c', ?_, by simpa using hS'⟩
    refine vals_of (by rw [List.length_reverse]; have := hacc.1; simp at this ⊢; omega) fun i x u hxi hui => ?_
    have h1 := hacc.2 i u (by simpa using hui)
    have li : i < xs.length := by
      have := (List.getElem?_eq_some_iff.mp hxi).1
      simpa using this
    rw [List.getElem?_reverse li] at hxi
    rw [List.size_toArray, ← hlen] at h1
    obtain ⟨u2, hu2, ru⟩ := r.get hxi
    have h2 : its[xs.length - 1 - i]? = some u := by simpa using h1
    rw [h2] at hu2
    cases hu2
    exact ru
theorem pe_listRev' (K : PySem.W.Frag) (hK : X.K = K) {a : Expr} {ta : TA} {p p' pos pos' : Pos} (hl : X.mg "list" = none) (hr : X.mg "reversed" = none) (ha : PA X [a] ta) (hc : X.calm = true := by rfl) (hg : Gl X "list" := by rfl) (hg' : Gl X "reversed" := by rfl)
    (hs : starEach [a] X.env = [(false, eval a X.env)] := by rfl) (hs2 : starEach [.Call (.Name "reversed" p') [a] [] pos'] X.env = [(false, eval (.Call (.Name "reversed" p') [a] [] pos') X.env)] := by rfl) :
    PE X (.Call (.Name "list" p) [.Call (.Name "reversed" p') [a] [] pos'] [] pos) (tLRev K ta) := by subst hK; exact pe_listRev hl hr ha hc hg hg' hs hs2
end
end L2
set_option Elab.async false
set_option linter.all false
set_option maxRecDepth 100000
set_option maxHeartbeats 4000000
namespace L2
open PySem PySem.Spec PyProof.Rows
section
variable {X : Cx}
end
end L2
set_option Elab.async false
set_option linter.all false
set_option maxRecDepth 100000
set_option maxHeartbeats 4000000
namespace L2
open PySem PySem.Spec PyProof.Rows
section
variable {X : Cx}
end
end L2
set_option Elab.async false
set_option linter.all false
set_option maxRecDepth 100000
set_option maxHeartbeats 4000000
namespace L2
open PySem
abbrev Rise (xs : Array Nat) : Prop := xs.toList.Pairwise (· < ·)
theorem rise_lt {xs : Array Nat} (h : Rise xs) {i j x y : Nat} (hij : i < j) (hx : xs[i]? = some x) (hy : xs[j]? = some y) : x < y := by
  rw [← Array.getElem?_toList] at hx hy
  obtain ⟨hi, rfl⟩ := List.getElem?_eq_some_iff.mp hx
  obtain ⟨hj, rfl⟩ := List.getElem?_eq_some_iff.mp hy
  exact List.pairwise_iff_getElem.mp h i j hi hj hij
structure Below (xs : Array Nat) (j p : Nat) : Prop where
  le : p ≤ xs.size
  lo : ∀ (i x : Nat), i < p → xs[i]? = some x → x < j
  hi : ∀ (i x : Nat), p ≤ i → xs[i]? = some x → j ≤ x
theorem below_go {xs : Array Nat} (h : Rise xs) (j : Nat) : ∀ (f lo hi : Nat), hi - lo ≤ f → lo ≤ hi → hi ≤ xs.size → (∀ (i x : Nat), i < lo → xs[i]? = some x → x < j) → (∀ (i x : Nat), hi ≤ i → xs[i]? = some x → j ≤ x) → Below xs j (SetTable.below.go xs j f lo hi)
  | 0, lo, hi, hf, h1, h2, a, b => by
    have : lo = hi := by omega
    subst this
    exact ⟨h2, a, b⟩
  | f + 1, lo, hi, hf, h1, h2, a, b => by
    unfold SetTable.below.go
    by_cases hl : lo < hi
    · rw [if_pos hl]
      dsimp only
      have hm : (lo + hi) / 2 < xs.size := by omega
      have em : xs[(lo + hi) / 2]? = some xs[(lo + hi) / 2] := Array.getElem?_eq_getElem hm
      have gm : xs.getD ((lo + hi) / 2) j = xs[(lo + hi) / 2] := by simp [Array.getD, hm]
      by_cases c : xs.getD ((lo + hi) / 2) j < j
      · rw [if_pos c]
        refine below_go h j f _ hi (by omega) (by omega) h2 (fun i x hi' hx => ?_) b
        by_cases e : i = (lo + hi) / 2
        · subst e; rw [em] at hx; injection hx with hx; rw [← hx, ← gm]; exact c
        · have := rise_lt h (show i < (lo + hi) / 2 by omega) hx em
          rw [gm] at c; omega
      · rw [if_neg c]
        refine below_go h j f lo _ (by omega) (by omega) (by omega) a (fun i x hi' hx => ?_)
        by_cases e : i = (lo + hi) / 2
        · subst e; rw [em] at hx; injection hx with hx; rw [← hx, ← gm]; omega
        · have := rise_lt h (show (lo + hi) / 2 < i by omega) em hx
          rw [gm] at c; omega
    · rw [if_neg hl]
      have : lo = hi := by omega
      subst this
      exact ⟨h2, a, b⟩
theorem below_is {xs : Array Nat} (h : Rise xs) (j : Nat) : Below xs j (SetTable.below xs j) :=
  below_go h j _ 0 _ (by omega) (Nat.zero_le _) (Nat.le_refl _) (fun i x hi => by omega) fun i x hi hx => by
    rw [Array.getElem?_eq_none hi] at hx; cases hx
theorem below_one {xs : Array Nat} {j p q : Nat} (a : Below xs j p) (b : Below xs j q) : p = q := by
  rcases Nat.lt_trichotomy p q with c | c | c
  · have hp : p < xs.size := Nat.lt_of_lt_of_le c b.le
    have := a.hi p _ (Nat.le_refl _) (Array.getElem?_eq_getElem hp)
    have := b.lo p _ c (Array.getElem?_eq_getElem hp)
    omega
  · exact c
  · have hq : q < xs.size := Nat.lt_of_lt_of_le c a.le
    have := b.hi q _ (Nat.le_refl _) (Array.getElem?_eq_getElem hq)
    have := a.lo q _ c (Array.getElem?_eq_getElem hq)
    omega
theorem rise_insert {xs : Array Nat} (h : Rise xs) {j : Nat} (hn : xs[SetTable.below xs j]? ≠ some j) : Rise (SetTable.insertAt xs (SetTable.below xs j) j) := by
  have B := below_is h j
  generalize SetTable.below xs j = p at *
  have e : (SetTable.insertAt xs p j).toList = xs.toList.take p ++ j :: xs.toList.drop p := by
    simp [SetTable.insertAt, List.extract_eq_take_drop, List.take_of_length_le]
  unfold Rise
  rw [e]
  have hs := h
  unfold Rise at hs
  rw [← List.take_append_drop p xs.toList, List.pairwise_append] at hs
  have lo : ∀ a ∈ xs.toList.take p, a < j := fun a ha => by
    obtain ⟨i, hi, rfl⟩ := List.mem_iff_getElem.mp ha
    rw [List.length_take] at hi
    rw [List.getElem_take]
    exact B.lo i _ (by omega) (by rw [← Array.getElem?_toList]; exact List.getElem?_eq_getElem (by omega))
  have hi : ∀ b ∈ xs.toList.drop p, j < b := fun b hb => by
    obtain ⟨i, hi, rfl⟩ := List.mem_iff_getElem.mp hb
    rw [List.length_drop, Array.length_toList] at hi
    rw [List.getElem_drop]
    have g := B.hi (p + i) _ (by omega) (by rw [← Array.getElem?_toList]; exact List.getElem?_eq_getElem (by rw [Array.length_toList]; omega))
    have hp : p < xs.size := by omega
    have ep : xs[p]? = some xs[p] := Array.getElem?_eq_getElem hp
    have g0 := B.hi p _ (Nat.le_refl _) ep
    have n0 : xs[p] ≠ j := fun z => hn (by rw [ep, z])
    by_cases z : i = 0
    · subst z; simp at g ⊢; omega
    · have hl : p + i < xs.toList.length := by rw [Array.length_toList]; omega
      have := rise_lt h (show p < p + i by omega) ep (show xs[p + i]? = some xs.toList[p + i] by rw [← Array.getElem?_toList]; exact List.getElem?_eq_getElem hl)
      omega
  refine List.pairwise_append.mpr ⟨hs.1, List.pairwise_cons.mpr ⟨hi, hs.2.1⟩, fun a ha b hb => ?_⟩
  rcases List.mem_cons.mp hb with rfl | hb
  · exact lo a ha
  · exact Nat.lt_trans (lo a ha) (hi b hb)
structure Clean (t : SetTable) (led : Bool) : Prop where
  dum : t.dummies = #[]
  rise : Rise t.place
  led : t.led = led
theorem has_nil (j : Nat) : SetTable.has #[] j = false := rfl
theorem Clean.fresh (led : Bool) : Clean (.fresh 0 0 led) led := ⟨rfl, List.Pairwise.nil, rfl⟩
end L2
namespace L2
open PySem
def ival : Value → Int
  | .int i _ => i
  | _ => 0
abbrev setObj (es : Array (Int × Value)) (ep : Nat) (t : SetTable) : Obj := { cls := .type "set", dict := none, data := .set es ep t, slots := #[] }
structure SetAt (prog : Program) (w : World) (h : Heap) (a : Addr) (led : Bool) (ns : List Int) (es : Array (Int × Value)) (ep : Nat) (t : SetTable) : Prop where
  ob : h.get? a = some (setObj es ep t)
  el : ElemsOf (intKind prog w) es.toList
  vs : (es.toList.map fun e => ival e.2).Perm ns
  fi : t.fits es.size = true
  cl : Clean t led
def SetIs (prog : Program) (w : World) (h : Heap) (a : Addr) (led : Bool) (ns : List Int) : Prop := ∃ es ep t, SetAt prog w h a led ns es ep t
section
variable {prog : Program} {w : World} {A : Around} {E : Value → Shared → Prop} {s : Shared} {h h' : Heap} {a : Addr} {led : Bool} {ns : List Int} {es : Array (Int × Value)} {ep : Nat} {t : SetTable}
theorem SetAt.size (S : SetAt prog w h a led ns es ep t) : es.size = ns.length := by
  have := S.vs.length_eq
  rw [List.length_map, Array.length_toList] at this
  exact this
theorem SetIs.keeps (S : SetIs prog w h a led ns) (k : ∀ o, h.get? a = some o → h'.get? a = some o) : SetIs prog w h' a led ns := by
  obtain ⟨es, ep, t, S⟩ := S
  exact ⟨es, ep, t, k _ S.ob, S.el, S.vs, S.fi, S.cl⟩
theorem SetIs.perm {ms : List Int} (S : SetIs prog w h a led ns) (p : ns.Perm ms) : SetIs prog w h a led ms := by
  obtain ⟨es, ep, t, S⟩ := S
  exact ⟨es, ep, t, S.ob, S.el, S.vs.trans p, S.fi, S.cl⟩
theorem store_set {es' : Array (Int × Value)} {t' : SetTable} {Q : Unit → Shared → Prop} (ho : s.heap.get? a = some (setObj es ep t)) (hz : es'.size < scanBound)
    (q : ∀ h', Heap.SameBut a s.heap h' → h'.get? a = some (setObj es' (ep + 1) t') → Q () { s with heap := h' }) : wpAny (model prog w) A (storeSet a es' t') Q E s := by
  refine wpAny_storeSet_of ho rfl (q _ (Heap.SameBut.update ..) ?_) (fits_of_scanBound hz)
  exact Heap.get?_update_self (Obj.putSet es' t') ho rfl
end
theorem slot_seti_next : Slot "set_iterator" "__next__" "set_iterator.__next__" := .of (owner := "set_iterator") (n := "__next__") (by rw [typeLookup_type, builtinLookup_eq_fast]; kernel_rfl) (by decide +kernel) (by decide +kernel) (by decide +kernel) (by first | exact .inl (by decide +kernel) | exact .inr (by decide +kernel)) (by rw [isSubtype_type]; kernel_rfl)
theorem entry_seti_next : entryFor table "set_iterator.__next__" = some Builtin.«set_iterator.__next__» := entryFor_of_fast (by kernel_rfl)
theorem args_seti_next (a : Value) : argsOk "set_iterator.__next__" ⟨[a], []⟩ := by unfold argsOk; kernel_rfl
theorem slot_seti_iter : Slot "set_iterator" "__iter__" "set_iterator.__iter__" := .of (owner := "set_iterator") (n := "__iter__") (by rw [typeLookup_type, builtinLookup_eq_fast]; kernel_rfl) (by decide +kernel) (by decide +kernel) (by decide +kernel) (by first | exact .inl (by decide +kernel) | exact .inr (by decide +kernel)) (by rw [isSubtype_type]; kernel_rfl)
theorem entry_seti_iter : entryFor table "set_iterator.__iter__" = some Builtin.«dict_keyiterator.__iter__» := entryFor_alias (id' := "dict_keyiterator.__iter__") (by kernel_rfl) rfl (by decide +kernel) (by kernel_rfl)
theorem args_seti_iter (a : Value) : argsOk "set_iterator.__iter__" ⟨[a], []⟩ := by unfold argsOk; kernel_rfl
theorem seti_self {prog : Program} {w : World} {A : Around} {E : Value → Shared → Prop} {s : Shared} {I : Addr} {Q : Value → Shared → Prop} (hT : s.TypeIs (.ref I) "set_iterator") (h : Q (.ref I) s) : wpAny (model prog w) A (pyIter (.ref I)) Q E s := by
  refine wpAny_pyIter_slot hT slot_seti_iter (wpAny_call_entry slot_seti_iter hT entry_seti_iter ?_ (args_seti_iter _))
  show wpAny _ _ (ret (.ref I)) _ _ s
  exact wpAny_pure ⟨_, rfl, "set_iterator", _, hT, slot_seti_next.lookup, h⟩
abbrev itObj (f : Value) (i : Nat) (S : Addr) (n ep : Nat) : Obj := { cls := .type "set_iterator", dict := none, data := .fields #[f, .int i 0, .ref S, .int n 0, .int ep 0], slots := #[] }
section
variable {prog : Program} {w : World} {A : Around} {s : Shared}
theorem erase_perm {α : Type} : ∀ {l : List α} {i : Nat} (h : i < l.length), (l[i] :: l.eraseIdx i).Perm l
  | a :: l, 0, _ => .rfl
  | a :: l, i + 1, h => by
    have hi : i < l.length := by simpa using h
    have := erase_perm (l := l) (i := i) hi
    exact (List.Perm.swap a l[i] (l.eraseIdx i)).trans (List.Perm.cons a this)
theorem pickGo_perm {α : Type} (next : Nat → Nat) : ∀ (f k : Nat) (left : List α) (out : Array α), left.length = f → (pickOrder.go next f k left out).toList.Perm (out.toList ++ left)
  | 0, k, left, out, e => by
    unfold pickOrder.go
    rw [List.length_eq_zero_iff.mp e]
    simp
  | f + 1, k, left, out, e => by
    unfold pickOrder.go
    have hl : next k % left.length < left.length := Nat.mod_lt _ (by omega)
    rw [List.getElem?_eq_getElem hl]
    dsimp only
    refine (pickGo_perm next f _ _ _ (by rw [List.length_eraseIdx_of_lt hl]; omega)).trans ?_
    rw [Array.toList_push, List.append_assoc]
    refine List.Perm.append_left _ ?_
    exact erase_perm hl
theorem pick_perm {α : Type} (next : Nat → Nat) (xs : Array α) : (pickOrder next xs).toList.Perm xs.toList := by
  have := pickGo_perm next xs.size 0 xs.toList #[] (by simp)
  simpa [pickOrder] using this
theorem draw_perm {α : Type} {E : Value → Shared → Prop} : ∀ (n : Nat) (xs : List α) {s : Shared} {Q : List α → Shared → Prop}, xs.length = n → (∀ ys d, ys.Perm xs → Q ys { s with drawn := d }) → wpAny (model prog w) A (drawOrder n xs) Q E s
  | 0, xs, s, Q, e, q => by
    have := q [] s.drawn (by rw [List.length_eq_zero_iff.mp e])
    unfold drawOrder
    exact wpAny_pure this
  | n + 1, [], s, Q, e, q => by simp at e
  | n + 1, x :: xs, s, Q, e, q => by
    unfold drawOrder
    refine wpAny_bind (show wpAny (model prog w) A (choose .order (x :: xs).length) _ E s from fun Γ p hΓ => ?_)
    unfold choose
    rw [Sem.wp_choose]
    refine ⟨by simp, ?_⟩
    generalize hi : (model prog w).w.draws Source.order (s.drawn.get Source.order) % (x :: xs).length = i
    have hl : i < (x :: xs).length := by rw [← hi]; exact Nat.mod_lt _ (by simp)
    rw [Sem.wp_pure]
    rw [List.getElem?_eq_getElem hl]
    refine wpAny_bind (draw_perm n _ (by rw [List.length_eraseIdx_of_lt hl]; simp at e ⊢; omega) fun ys d p' => wpAny_pure (q _ d ?_))
    exact (List.Perm.cons _ p').trans (erase_perm hl)
theorem seti_stop {E : Value → Shared → Prop} {I : Addr} {f : Value} {i : Nat} {S : Addr} {n ep : Nat} {Q : Option Value → Shared → Prop} (hh : A.handled = none) (hi : s.heap.get? I = some (itObj f i S n ep))
    (hb : ∀ (E' : Value → Shared → Prop) (R : PySem.Fin → Shared → Prop), (∀ (e : Value) (h' : Heap), (∀ b o, b ≠ I → s.heap.get? b = some o → h'.get? b = some o) → Shared.TypeIs { s with heap := h' } e "StopIteration" → E' e { s with heap := h' }) →
      wpAny (model prog w) A.in1 (Builtin.«set_iterator.__next__» ⟨[.ref I], []⟩) R E' s)
    (q : ∀ h', (∀ b o, b ≠ I → s.heap.get? b = some o → h'.get? b = some o) → Q none { s with heap := h' }) : wpAny (model prog w) A (pyNext (.ref I)) Q E s := by
  have hT : s.TypeIs (.ref I) "set_iterator" := ⟨_, hi, rfl⟩
  unfold pyNext
  refine wpAny_bind (wpAny_attempt (wpAny_callSpecial?_slot (name := Str.ofString "__next__") hT slot_seti_next (wpAny_call_entry slot_seti_next hT entry_seti_next (hb _ _ fun e h' k ht => ?_) (args_seti_next _))))
  exact wpAny_bind (wpAny_isInstance (T := "StopIteration") (b := true) ht isSubtype_stop (wpAny_pure (q h' k)))
theorem stop_iter {A : Around} {E' : Value → Shared → Prop} {R : PySem.Fin → Shared → Prop} (hh : A.handled = none)
    (q : ∀ (e : Value) (h' : Heap), (∀ b o, s.heap.get? b = some o → h'.get? b = some o) → Shared.TypeIs { s with heap := h' } e "StopIteration" → E' e { s with heap := h' }) :
    wpAny (model prog w) A (newExc (.type "StopIteration") [] >>= fun e => (raiseNew e : Sem PySem.Fin)) R E' s := by
  refine wpAny_bind ?_
  simp only [newExc, newTuple]
  refine wpAny_bind (wpAny_newObj_type ?_ (by size_fits))
  refine wpAny_bind (m := firstArgMember _ _) (wpAny_of_eq (a := Value.none) (by first | rfl | (simp only [firstArgMember]; rfl)) ?_)
  refine wpAny_newObj_type ?_ (by size_fits)
  simp only [raiseNew]
  refine wpAny_bind (wpAny_handled ?_)
  rw [hh]
  refine wpAny_bind (wpAny_pure (wpAny_throw (q (.ref _) _ (fun b o e => Heap.get?_push_of_some _ (Heap.get?_push_of_some _ e)) ⟨_, Heap.get?_push_size _ rfl, rfl⟩)))
end
end L2
namespace L2
open PySem
section
variable {prog : Program} {w : World} {A : Around} {s : Shared}
def NextIs (prog : Program) (w : World) (S : Addr) (o : Obj) (ep : Nat) (sl : Nat → Nat) (vs : List Value) : Prop :=
  ∀ (A : Around) (E : Value → Shared → Prop) (s : Shared) (i : Nat) (Q : Option (Value × Nat) → Shared → Prop), s.heap.get? S = some o → i ≤ vs.length →
    Q (vs[i]?.map fun v => (v, sl (i + 1))) s → wpAny (model prog w) A (setNext S (sl i) i ep) Q E s
theorem it_set0 {f x : Value} {i : Nat} {S : Addr} {n ep : Nat} : (#[f, .int i 0, .ref S, .int n 0, .int ep 0] : Array Value).setIfInBounds 0 x = #[x, .int i 0, .ref S, .int n 0, .int ep 0] := by simp
theorem it_set1 {f : Value} {i : Nat} {S : Addr} {n ep : Nat} : (#[f, .int i 0, .ref S, .int n 0, .int ep 0] : Array Value).setIfInBounds 1 (rawInt ((i : Int) + 1)) = #[f, .int ((i + 1 : Nat) : Int) 0, .ref S, .int n 0, .int ep 0] := by simp [rawInt]
theorem walkI (hh : A.handled = none) (I S : Addr) (hne : S ≠ I) {es : Array (Int × Value)} {ep : Nat} {t : SetTable} (hf : t.fits es.size = true) {sl : Nat → Nat} {vs : List Value} (hl : vs.length = es.size)
    (hx : NextIs prog w S (setObj es ep t) ep sl vs) :
    Walks prog w A I [I, S] [I] vs.length (fun i v => vs[i]? = some v) (fun i h => h.get? I = some (itObj (.int (sl i) 0) i S es.size ep) ∧ h.get? S = some (setObj es ep t)) where
  sub := fun b hb => by simp at hb; simp [hb]
  frame := fun _ _ _ st hk => ⟨hk I (by simp) _ st.1, hk S (by simp) _ st.2⟩
  self := fun i s Q E st hQ => by
    exact seti_self ⟨_, st.1, rfl⟩ hQ
  item := fun i s Q E hi st hQ => by
    obtain ⟨h1, h2⟩ := st
    have hT : s.TypeIs (.ref I) "set_iterator" := ⟨_, h1, rfl⟩
    have e1 : vs[i]? = some vs[i] := List.getElem?_eq_getElem hi
    unfold pyNext
    refine wpAny_bind (wpAny_attempt (wpAny_callSpecial?_slot (name := Str.ofString "__next__") hT slot_seti_next (wpAny_call_entry slot_seti_next hT entry_seti_next ?_ (args_seti_next _))))
    unfold Builtin.«set_iterator.__next__»
    refine wpAny_bind (wpAny_pure (wpAny_bind (wpAny_fieldsOf h1 rfl ?_)))
    dsimp only
    refine wpAny_bind (wpAny_setEntries_of h2 rfl hf ?_)
    rw [if_neg (by simp)]
    refine wpAny_bind ?_
    rw [Int.toNat_natCast, Int.toNat_natCast, Int.toNat_natCast]
    refine hx _ _ _ i _ h2 (by omega) ?_
    rw [e1]
    dsimp only [Option.map]
    refine wpAny_bind (wpAny_setField_rec h1 (by simp) fun h' g' sb' => wpAny_bind (wpAny_setField_rec (s := { s with heap := h' }) g' (by simp) fun h'' g'' sb'' => wpAny_pure ⟨_, rfl, wpAny_pure ?_⟩))
    refine hQ _ h'' s.toks e1 ⟨?_, ?_⟩ fun b o nb e => ?_
    · rw [it_set0, it_set1] at g''; exact g''
    · exact sb''.extBut S _ hne (sb'.extBut S _ hne h2)
    · have : b ≠ I := fun z => nb (by simp [z])
      exact sb''.extBut b _ this (sb'.extBut b _ this e)
  done := fun s Q E st hQ => by
    obtain ⟨h1, h2⟩ := st
    refine seti_stop hh h1 (fun E' R q => ?_) fun h' k => hQ h' s.toks fun b o nb e => k b o (fun z => nb (by simp [z])) e
    unfold Builtin.«set_iterator.__next__»
    refine wpAny_bind (wpAny_pure (wpAny_bind (wpAny_fieldsOf h1 rfl ?_)))
    dsimp only
    refine wpAny_bind (wpAny_setEntries_of h2 rfl hf ?_)
    rw [if_neg (by simp)]
    refine wpAny_bind ?_
    rw [Int.toNat_natCast, Int.toNat_natCast, Int.toNat_natCast]
    refine hx _ _ _ vs.length _ h2 (Nat.le_refl _) ?_
    rw [List.getElem?_eq_none (Nat.le_refl _)]
    dsimp only [Option.map]
    refine wpAny_bind (wpAny_setField_rec h1 (by simp) fun h' g' sb' => ?_)
    refine stop_iter (s := { s with heap := h' }) (by simpa using hh) fun e h'' k ht => q e h'' (fun b o nb z => k b o (sb'.extBut b _ nb z)) ht
theorem walkD (hh : A.handled = none) (I S T : Addr) (hne : S ≠ I) (hnt : T ≠ I) {es : Array (Int × Value)} {ep : Nat} {t : SetTable} (hf : t.fits es.size = true) {ps : List Nat} (hl : ps.length = es.size) (hp : ∀ p ∈ ps, p < es.size) :
    Walks prog w A I [I, S, T] [I] ps.length (fun i v => (ps.map fun p => (es.getD p (0, .none)).2)[i]? = some v) (fun i h => h.get? I = some (itObj (.ref T) i S es.size ep) ∧ h.get? S = some (setObj es ep t) ∧
      ∃ o n, h.get? T = some o ∧ o.data = .seq (List.toArray (ps.map fun (i : Nat) => rawInt i)) n) where
  sub := fun b hb => by simp at hb; simp [hb]
  frame := fun _ _ _ st hk => ⟨hk I (by simp) _ st.1, hk S (by simp) _ st.2.1, let ⟨o, n, a, b⟩ := st.2.2; ⟨o, n, hk T (by simp) _ a, b⟩⟩
  self := fun i s Q E st hQ => by
    exact seti_self ⟨_, st.1, rfl⟩ hQ
  item := fun i s Q E hi st hQ => by
    obtain ⟨h1, h2, o, n, h3, h4⟩ := st
    have hT : s.TypeIs (.ref I) "set_iterator" := ⟨_, h1, rfl⟩
    have e1 : ps[i]? = some ps[i] := List.getElem?_eq_getElem hi
    have e2 := hp _ (List.getElem_mem hi)
    unfold pyNext
    refine wpAny_bind (wpAny_attempt (wpAny_callSpecial?_slot (name := Str.ofString "__next__") hT slot_seti_next (wpAny_call_entry slot_seti_next hT entry_seti_next ?_ (args_seti_next _))))
    unfold Builtin.«set_iterator.__next__»
    refine wpAny_bind (wpAny_pure (wpAny_bind (wpAny_fieldsOf h1 rfl ?_)))
    dsimp only
    refine wpAny_bind (wpAny_setEntries_of h2 rfl hf ?_)
    rw [if_neg (by simp)]
    refine wpAny_bind (wpAny_seqItems h3 h4 ?_)
    dsimp only
    have e3 : (List.toArray (ps.map fun (i : Nat) => rawInt i))[((i : Nat) : Int).toNat]? = some (.int (ps[i] : Nat) 0) := by
      rw [Int.toNat_natCast]
      simp [e1, rawInt]
    rw [e3]
    dsimp only
    refine wpAny_bind ?_
    rw [Int.toNat_natCast, Int.toNat_natCast]
    unfold setNextDrawn
    refine wpAny_bind (wpAny_setState_of h2 rfl hf ?_)
    dsimp only
    rw [if_neg (by simp)]
    rw [Array.getElem?_eq_getElem e2]
    refine wpAny_pure ?_
    refine wpAny_bind (wpAny_setField_rec h1 (by simp) fun h' g' sb' => wpAny_pure ⟨_, rfl, wpAny_pure ?_⟩)
    refine hQ _ h' s.toks ?_ ⟨?_, ?_, o, n, ?_, h4⟩ fun b o nb e => ?_
    · simp [e1, Array.getD, e2]
    · rw [it_set1] at g'; exact g'
    · exact sb'.extBut S _ hne h2
    · exact sb'.extBut T _ hnt h3
    · exact sb'.extBut b _ (fun z => nb (by simp [z])) e
  done := fun s Q E st hQ => by
    obtain ⟨h1, h2, o, n, h3, h4⟩ := st
    refine seti_stop hh h1 (fun E' R q => ?_) fun h' k => hQ h' s.toks fun b o nb e => k b o (fun z => nb (by simp [z])) e
    unfold Builtin.«set_iterator.__next__»
    refine wpAny_bind (wpAny_pure (wpAny_bind (wpAny_fieldsOf h1 rfl ?_)))
    dsimp only
    refine wpAny_bind (wpAny_setEntries_of h2 rfl hf ?_)
    rw [if_neg (by simp)]
    refine wpAny_bind (wpAny_seqItems h3 h4 ?_)
    dsimp only
    have e3 : (List.toArray (ps.map fun (i : Nat) => rawInt i))[((ps.length : Nat) : Int).toNat]? = none := by
      rw [Int.toNat_natCast]
      simp
    rw [e3]
    dsimp only
    refine wpAny_bind (wpAny_setField_rec h1 (by simp) fun h' g' sb' => wpAny_bind (wpAny_setField_rec (s := { s with heap := h' }) g' (by simp) fun h2' g2 sb2 => ?_))
    refine stop_iter (s := { s with heap := h2' }) (by simpa using hh) fun e h'' k ht => q e h'' (fun b o nb z => k b o (sb2.extBut b _ nb (sb'.extBut b _ nb z))) ht
theorem next_text {S : Addr} {es : Array (Int × Value)} {ep : Nat} {t : SetTable} (hf : t.fits es.size = true) (ht : w.params.followText "set-order" = true) :
    NextIs prog w S (setObj es ep t) ep (fun _ => 0) ((pickOrder (w.params.setOrder S ep) es).toList.map (·.2)) := by
  intro A E s i Q h hi q
  unfold setNext
  refine wpAny_bind (wpAny_setState_of h rfl hf ?_)
  dsimp only
  unfold setsByText
  refine wpAny_bind (wpAny_bind (wpAny_askSetting (wpAny_pure ?_)))
  show wpAny _ _ (if w.params.followText "set-order" = true then _ else _) _ _ _
  rw [if_pos ht, if_neg (by simp)]
  unfold setWalk
  refine wpAny_bind (wpAny_bind (wpAny_setState_of h rfl hf ?_))
  dsimp only
  unfold setsByText
  refine wpAny_bind (wpAny_bind (wpAny_askSetting (wpAny_pure ?_)))
  show wpAny _ _ (if w.params.followText "set-order" = true then _ else _) _ _ _
  rw [if_pos ht]
  refine wpAny_bind (wpAny_askSetting (wpAny_pure (wpAny_pure ?_)))
  rw [List.getElem?_map, Array.getElem?_toList] at q
  dsimp only at q ⊢
  show Q (((pickOrder (w.params.setOrder S ep) es)[i]?).map fun e => (e.2, 0)) s
  cases hc : (pickOrder (w.params.setOrder S ep) es)[i]? with
  | none => rw [hc] at q; exact q
  | some e => rw [hc] at q; exact q
def slotOf (t : SetTable) : Nat → Nat
  | 0 => 0
  | i + 1 => t.place.getD i 0 + 1
theorem next_place {S : Addr} {es : Array (Int × Value)} {ep : Nat} {t : SetTable} (hf : t.fits es.size = true) (cl : Clean t true) (ht : w.params.followText "set-order" = false) (hd : (!t.plain && decide (es.size > 1)) = false) :
    NextIs prog w S (setObj es ep t) ep (slotOf t) (es.toList.map (·.2)) := by
  intro A E s i Q h hi q
  have sz : t.place.size = es.size := by
    simp only [SetTable.fits, Bool.and_eq_true, beq_iff_eq] at hf
    exact hf.1
  rw [List.length_map, Array.length_toList] at hi
  have hb : SetTable.below t.place (slotOf t i) = i := by
    refine below_one (below_is cl.rise _) ⟨by omega, fun j x hj hx => ?_, fun j x hj hx => ?_⟩
    · cases i with
      | zero => omega
      | succ i =>
        have hi' : i < t.place.size := by omega
        have ei : t.place[i]? = some (t.place.getD i 0) := by simp [Array.getD, hi']
        show x < t.place.getD i 0 + 1
        by_cases z : j = i
        · rw [z, ei] at hx; injection hx with hx; omega
        · have := rise_lt cl.rise (show j < i by omega) hx ei
          omega
    · cases i with
      | zero => exact Nat.zero_le _
      | succ i =>
        have hi' : i < t.place.size := by omega
        have ei : t.place[i]? = some (t.place.getD i 0) := by simp [Array.getD, hi']
        show t.place.getD i 0 + 1 ≤ x
        exact rise_lt cl.rise (show i < j by omega) ei hx
  unfold setNext
  refine wpAny_bind (wpAny_setState_of h rfl hf ?_)
  dsimp only
  unfold setsByText
  refine wpAny_bind (wpAny_bind (wpAny_askSetting (wpAny_pure ?_)))
  show wpAny _ _ (if w.params.followText "set-order" = true then _ else _) _ _ _
  rw [if_neg (by rw [ht]; simp)]
  show wpAny _ _ (if (!t.plain && decide (es.size > 1)) = true then _ else _) _ _ _
  rw [if_neg (by rw [hd]; simp)]
  refine wpAny_bind ?_
  show wpAny _ _ (if (!t.led && !es.isEmpty) = true then _ else _) _ _ _
  rw [if_neg (by rw [cl.led]; simp)]
  refine wpAny_pure ?_
  rw [hb]
  rw [List.getElem?_map, Array.getElem?_toList] at q
  by_cases hlt : i < es.size
  · rw [Array.getElem?_eq_getElem hlt] at q ⊢
    have ei : t.place[i]? = some (t.place.getD i 0) := by simp [Array.getD, show i < t.place.size by omega]
    rw [ei]
    exact wpAny_pure q
  · rw [Array.getElem?_eq_none (by omega)] at q ⊢
    exact wpAny_pure q
end
end L2
namespace L2
open PySem PyProof.Rows
theorem entry_set_iter : entryFor table "set.__iter__" = some Builtin.«frozenset.__iter__» := entryFor_alias (id' := "frozenset.__iter__") (by kernel_rfl) rfl (by decide +kernel) (by kernel_rfl)
structure SetWalk (prog : Program) (w : World) (I : Addr) (fp : List Addr) (vs : List Value) (ns : List Int) (St : Nat → Heap → Prop) : Prop where
  walk : ∀ A : Around, A.handled = none → Walks prog w A I fp [I] vs.length (fun i v => vs[i]? = some v) St
  intz : ∃ l : List Int, IntsAre vs l ∧ l.Perm ns
  inn : I ∈ fp
section
variable {prog : Program} {w : World} {A : Around} {s : Shared} {E : Value → Shared → Prop}
end
end L2
namespace L2
open PySem PyProof.Rows
section
variable {prog : Program} {w : World} {A : Around} {s : Shared} {E : Value → Shared → Prop}
theorem silent_set : splitId "set.__len__" = some ("set", "__len__") := by decide +kernel
theorem sub_set_set : isSubtype (.type "set") (.type "set") = pure true := by rw [isSubtype_type]; kernel_rfl
theorem hint_set {S : Addr} {Q : Bool → Shared → Prop} (hT : s.TypeIs (.ref S) "set") (q : Q false s) : wpAny (model prog w) A (Builtin.List.listLengthHint (.ref S)) Q E s := by
  unfold Builtin.List.listLengthHint
  refine wpAny_bind (wpAny_specialOf hT PySem.F.slot_set_len.lookup ?_)
  dsimp only
  rw [silent_set]
  dsimp only
  refine wpAny_bind (wpAny_isInstance hT sub_set_set ?_)
  simp only [Bool.not_true, Bool.false_eq_true, ↓reduceIte]
  show wpAny _ _ (do
    let .ref _ ← typeOf (.ref S) | return false
    _) _ _ _
  refine wpAny_bind (wpAny_typeOf hT ?_)
  exact wpAny_pure q
theorem items_all {vs : List Value} {acc : Array Value} (h : ItemsOf (fun i v => vs[i]? = some v) acc vs.length) : acc.toList = vs := by
  apply List.ext_getElem?
  intro i
  by_cases hi : i < vs.length
  · have hs : i < acc.size := by rw [h.1]; exact hi
    have := h.2 i acc[i] (Array.getElem?_eq_getElem hs)
    rw [this, Array.getElem?_toList]
    exact Array.getElem?_eq_getElem hs
  · have z := h.1
    rw [List.getElem?_eq_none (by rw [Array.length_toList]; omega), List.getElem?_eq_none (by omega)]
theorem sortHeap_at {h : Heap} {a : Addr} {vs : List Value} {n : Nat} (ho : h.get? a = some (seqObj "list" vs.toArray n)) (out : Array Value) : ∃ e, (sortedHeap h a vs out).get? a = some (seqObj "list" out e) := by
  unfold sortedHeap
  have la := Heap.lt_size ho
  have z : (h.update a (Obj.mapSeq fun _ => #[])).objs.size = h.objs.size := Heap.size_update ..
  have h1 := get?_update_seq ho fun _ => (#[] : Array Value)
  have h3 : (((h.update a (Obj.mapSeq fun _ => #[])).push (seqObj "tuple" vs.toArray 0)).push (seqObj "list" #[] 0)).get? a = _ := Heap.get?_push_of_some _ (Heap.get?_push_of_some _ h1)
  exact ⟨_, get?_update_seq h3 fun _ => out⟩
theorem sortHeap_old {h : Heap} {a : Addr} {vs : List Value} {out : Array Value} {b : Addr} {o : Obj} (nb : b ≠ a) (e : h.get? b = some o) : (sortedHeap h a vs out).get? b = some o := by
  unfold sortedHeap
  rw [Heap.get?_update_ne _ _ _ _ nb]
  refine Heap.get?_push_of_some _ (Heap.get?_push_of_some _ ?_)
  rw [Heap.get?_update_ne _ _ _ _ nb]
  exact e
end
end L2
namespace L2
open PySem PyProof.Rows
section
variable {prog : Program} {w : World} {A : Around} {E : Value → Shared → Prop} {s : Shared}
abbrev ledOf (w : World) : Bool := !w.params.followText "set-order"
theorem new_set (a : Value) {Q : Value → Shared → Prop} (q : Q (.ref s.heap.objs.size) { s with heap := s.heap.push (setObj #[] 0 (.fresh 0 0 (ledOf w))) }) :
    codeAny (model prog w) A (.call (.builtin "set.__new__") ⟨[.type "set", a], []⟩) (wants Q E) s := by
  refine codeAny_of_tree (show wpAny _ A.in1 (do checkBuiltinCall "set.__new__" ⟨[.type "set", a], []⟩; again (.builtin "set.__new__" ⟨[.type "set", a], []⟩)) _ _ s from ?_)
  refine wpAny_bind (wpAny_of_eq (PySem.F.newCall_set_1 a) (wpAny_pure ⟨plainId_quiet PySem.F.plain_set_new _, codeAny_builtin PySem.F.entry_set_new ?_⟩))
  rw [Around.under_plainId PySem.F.plain_set_new _]
  unfold Builtin.«set.__new__» Builtin.Frozenset.newClass
  have sub := sub_set_self
  obtain ⟨hp, g, d, tk, os⟩ := s
  dsimp only
  wp_walk
  refine wpAny_askSetting (wpAny_pure ?_)
  simp only [newObj]
  exact wpAny_bind (wpAny_alloc (wpAny_pure (wpAny_pure q)))
end
section
variable {prog : Program} {w : World} {A : Around} {R : Result → Shared → Prop} {I : Addr} {fp wr : List Addr} {G : Array GenState → Array GenState → Prop} {n : Nat} {P : Nat → Value → Prop} {St : Nat → Shared → Prop}
end
section
variable {prog : Program} {w : World} {A : Around} {E : Value → Shared → Prop} {s : Shared}
end
end L2
namespace L2
open PySem PySem.Spec PySem.W PyProof.Rows
section
variable {X : Cx}
theorem Inv.like {pins : List (Addr × Obj)} {σ : St} {H : Hp} {s s' : Shared} (I : Inv X pins σ H s) (h : s'.heap = s.heap) (g : s'.gens = s.gens) (o : s'.os = s.os) : Inv X pins σ H s' := by
  obtain ⟨hp, gs, d, t, os⟩ := s'
  simp only at h g o
  subst h; subst g; subst o
  exact ⟨I.ok, I.os, I.bare, I.base, I.loc, I.cell, I.free, I.freeC, I.pin, I.hok, I.len⟩
end
end L2
set_option Elab.async false
set_option linter.all false
set_option maxRecDepth 100000
set_option maxHeartbeats 4000000
namespace L2
open PySem
def runs (mask : Nat) : Nat → Nat → Nat → List Nat
  | 0, _, _ => []
  | f + 1, i, p => List.range' i (SetTable.runEnd mask i + 1 - i) ++ runs mask f (SetTable.leap mask i p).1 (SetTable.leap mask i p).2
def pth (mask : Nat) (h : Int) : List Nat := runs mask (SetTable.turns mask) (SetTable.bits h % (mask + 1)) (SetTable.bits h)
def itr (t : SetTable) : Nat → SetTable.Probe → SetTable.Probe
  | 0, p => p
  | n + 1, p => itr t n (t.advance p)
theorem itr_add (t : SetTable) : ∀ (m n : Nat) (p : SetTable.Probe), itr t (m + n) p = itr t n (itr t m p)
  | 0, n, p => by rw [Nat.zero_add]; rfl
  | m + 1, n, p => by
    rw [show m + 1 + n = (m + n) + 1 by omega]
    exact itr_add t m n (t.advance p)
theorem itr_run (t : SetTable) : ∀ (k j more i p : Nat), k ≤ more → itr t k ⟨j, more, i, p, none⟩ = ⟨j + k, more - k, i, p, none⟩
  | 0, j, more, i, p, _ => rfl
  | k + 1, j, more, i, p, h => by
    show itr t k (t.advance ⟨j, more, i, p, none⟩) = _
    have e : t.advance ⟨j, more, i, p, none⟩ = ⟨j + 1, more - 1, i, p, none⟩ := by
      unfold SetTable.advance
      rw [if_pos (show more > 0 by omega)]
    rw [e, itr_run t k _ _ _ _ (by omega)]
    congr 1 <;> omega
abbrev prb (mask i p : Nat) : SetTable.Probe := ⟨i, SetTable.runEnd mask i - i, i, p, none⟩
theorem itr_leap (t : SetTable) (i p : Nat) : itr t (SetTable.runEnd t.mask i - i + 1) (prb t.mask i p) = prb t.mask (SetTable.leap t.mask i p).1 (SetTable.leap t.mask i p).2 := by
  rw [itr_add, itr_run t _ _ _ _ _ (Nat.le_refl _), Nat.sub_self]
  show t.advance ⟨_, 0, i, p, none⟩ = _
  unfold SetTable.advance
  rw [if_neg (show ¬ (0 > 0) by omega)]
theorem runEnd_ge (m i : Nat) : i ≤ SetTable.runEnd m i := by unfold SetTable.runEnd; split <;> omega
theorem runEnd_le (m i : Nat) : SetTable.runEnd m i ≤ i + 9 := by unfold SetTable.runEnd; split <;> omega
theorem runEnd_in {m i : Nat} (h : i ≤ m) : SetTable.runEnd m i ≤ m := by unfold SetTable.runEnd; split <;> omega
theorem runs_len (m : Nat) : ∀ f i p, (runs m f i p).length ≤ 10 * f
  | 0, _, _ => Nat.le_refl _
  | f + 1, i, p => by
    rw [runs, List.length_append, List.length_range']
    have := runs_len m f (SetTable.leap m i p).1 (SetTable.leap m i p).2
    have := runEnd_le m i
    omega
theorem runs_in (m : Nat) : ∀ f i p, i ≤ m → ∀ x ∈ runs m f i p, x ≤ m
  | 0, _, _, _, x, h => by cases h
  | f + 1, i, p, hi, x, h => by
    rw [runs, List.mem_append, List.mem_range'_1] at h
    rcases h with h | h
    · have := runEnd_in hi
      omega
    · refine runs_in m f _ _ ?_ x h
      show (i * 5 + 1 + p / 32) % (m + 1) ≤ m
      exact Nat.le_of_lt_succ (Nat.mod_lt _ (Nat.succ_pos _))
theorem pth_in {m : Nat} {h : Int} {x : Nat} (hx : x ∈ pth m h) : x ≤ m := runs_in m _ _ _ (Nat.le_of_lt_succ (Nat.mod_lt _ (Nat.succ_pos _))) x hx
theorem runs_get (t : SetTable) : ∀ (f i p n : Nat) (x : Nat), (runs t.mask f i p)[n]? = some x → (itr t n (prb t.mask i p)).j = x ∧ (itr t n (prb t.mask i p)).dummy = none
  | 0, i, p, n, x, h => by simp [runs] at h
  | f + 1, i, p, n, x, h => by
    have ge := runEnd_ge t.mask i
    rw [runs] at h
    by_cases c : n < SetTable.runEnd t.mask i + 1 - i
    · rw [List.getElem?_append_left (by rw [List.length_range']; exact c), List.getElem?_range' c] at h
      rw [itr_run t n _ _ _ _ (by omega)]
      simp at h
      exact ⟨h, rfl⟩
    · rw [List.getElem?_append_right (by rw [List.length_range']; omega), List.length_range'] at h
      have := runs_get t f _ _ _ x h
      rw [← itr_leap, ← itr_add] at this
      rw [show SetTable.runEnd t.mask i - i + 1 + (n - (SetTable.runEnd t.mask i + 1 - i)) = n by omega] at this
      exact this
theorem go_skip (t : SetTable) (hs : Nat → Int) (h : Int) : ∀ (n F : Nat) (p : SetTable.Probe), n ≤ F → (∀ k, k < n → ∃ i, t.slot (itr t k p).j = .live i ∧ (hs i == h) = false) → SetTable.probe.go t hs h F p = SetTable.probe.go t hs h (F - n) (itr t n p)
  | 0, F, p, _, _ => rfl
  | n + 1, F, p, hF, hk => by
    obtain ⟨F, rfl⟩ : ∃ G, F = G + 1 := ⟨F - 1, by omega⟩
    obtain ⟨i, h1, h2⟩ := hk 0 (by omega)
    have e : SetTable.probe.go t hs h (F + 1) p = SetTable.probe.go t hs h F (t.advance p) := by
      rw [SetTable.probe.go]
      have h1' : t.slot p.j = .live i := h1
      rw [h1']
      dsimp only
      rw [h2]; rfl
    rw [e, go_skip t hs h n F _ (by omega) fun k hk' => hk (k + 1) (by omega)]
    rw [show F + 1 - (n + 1) = F - n by omega]
    rfl
theorem probe_at {t : SetTable} {hs : Nat → Int} {h : Int} {pre suf : List Nat} {j : Nat} (e : pth t.mask h = pre ++ j :: suf) (hp : ∀ x ∈ pre, ∃ i, t.slot x = .live i ∧ (hs i == h) = false) :
    ∃ F p, SetTable.probe t hs h (t.probeStart h) = SetTable.probe.go t hs h (F + 1) p ∧ p.j = j ∧ p.dummy = none := by
  have hl := runs_len t.mask (SetTable.turns t.mask) (SetTable.bits h % (t.mask + 1)) (SetTable.bits h)
  have e' : runs t.mask (SetTable.turns t.mask) (SetTable.bits h % (t.mask + 1)) (SetTable.bits h) = pre ++ j :: suf := e
  rw [e', List.length_append, List.length_cons] at hl
  have g := runs_get t (SetTable.turns t.mask) (SetTable.bits h % (t.mask + 1)) (SetTable.bits h)
  rw [e'] at g
  have sk := go_skip t hs h pre.length (10 * SetTable.turns t.mask) (t.probeStart h) (by omega) fun k hk => by
    have := (g k pre[k] (by rw [List.getElem?_append_left hk, List.getElem?_eq_getElem hk])).1
    have e2 : (itr t k (t.probeStart h)).j = pre[k] := this
    rw [e2]
    exact hp _ (List.getElem_mem hk)
  have gj := g pre.length j (by rw [List.getElem?_append_right (Nat.le_refl _), Nat.sub_self]; rfl)
  refine ⟨10 * SetTable.turns t.mask - pre.length - 1, itr t pre.length (t.probeStart h), ?_, gj.1, gj.2⟩
  rw [show 10 * SetTable.turns t.mask - pre.length - 1 + 1 = 10 * SetTable.turns t.mask - pre.length by omega]
  exact sk
theorem slot_live {t : SetTable} {led : Bool} (c : Clean t led) {i j : Nat} (h : t.place[i]? = some j) : t.slot j = .live i := by
  have B := below_is c.rise j
  have hi : i < t.place.size := by
    rcases Nat.lt_or_ge i t.place.size with z | z
    · exact z
    · rw [Array.getElem?_eq_none z] at h; cases h
  have e : SetTable.below t.place j = i := by
    rcases Nat.lt_trichotomy (SetTable.below t.place j) i with z | z | z
    · have hp : SetTable.below t.place j < t.place.size := by omega
      have h1 := B.hi _ _ (Nat.le_refl _) (Array.getElem?_eq_getElem hp)
      have h2 := rise_lt c.rise z (Array.getElem?_eq_getElem hp) h
      omega
    · exact z
    · have := B.lo i j z h
      omega
  unfold SetTable.slot
  dsimp only
  rw [e, h]
  simp
theorem slot_not {t : SetTable} {led : Bool} (c : Clean t led) {j : Nat} (h : j ∉ t.place.toList) : t.slot j = .empty := by
  unfold SetTable.slot
  dsimp only
  rw [if_neg, c.dum, has_nil]
  · rfl
  · intro z
    have z : t.place[SetTable.below t.place j]? = some j := by simpa using z
    rw [← Array.getElem?_toList] at z
    exact h (List.mem_of_getElem? z)
theorem slot_in {t : SetTable} {led : Bool} (c : Clean t led) {j : Nat} (h : j ∈ t.place.toList) : ∃ i, t.slot j = .live i ∧ t.place[i]? = some j := by
  obtain ⟨i, hi, e⟩ := List.mem_iff_getElem.mp h
  have : t.place[i]? = some j := by rw [← Array.getElem?_toList, List.getElem?_eq_getElem hi, e]
  exact ⟨i, slot_live c this, this⟩
theorem len_sub {α : Type} [BEq α] [LawfulBEq α] : ∀ {l m : List α}, l.Nodup → (∀ x ∈ l, x ∈ m) → l.length ≤ m.length
  | [], m, _, _ => Nat.zero_le _
  | x :: l, m, nd, h => by
    have hx := h x List.mem_cons_self
    have nd' := List.nodup_cons.mp nd
    have := len_sub (l := l) (m := m.erase x) nd'.2 fun y hy => by
      rw [List.mem_erase_of_ne (show y ≠ x from fun e => nd'.1 (e ▸ hy))]; exact h y (List.mem_cons_of_mem _ hy)
    rw [List.length_erase_of_mem hx] at this
    have := List.length_pos_of_mem hx
    simp; omega
structure Tab (t : SetTable) (led : Bool) (es : Array (Int × Value)) : Prop where
  cl : Clean t led
  fit : t.place.size = es.size
  msk : t.mask = 7 ∨ t.mask = 31 ∨ t.mask = 127
  le : ∀ j ∈ t.place.toList, j ≤ t.mask
  few : es.size * 5 < t.mask * 3
  reach : ∀ (i j : Nat) (e : Int × Value), t.place[i]? = some j → es[i]? = some e → ∃ pre suf, pth t.mask e.1 = pre ++ j :: suf ∧ ∀ x ∈ pre, x ∈ t.place.toList
def Cv (h : Int) : Prop := ∀ m, m = 7 ∨ m = 31 ∨ m = 127 → ∀ j, j ≤ m → j ∈ pth m h
theorem first_of {l : List Nat} {p : Nat → Bool} {x : Nat} (hx : x ∈ l) (hp : p x = true) : ∃ a y b, l = a ++ y :: b ∧ p y = true ∧ ∀ z ∈ a, p z = false := by
  cases e : l.find? p with
  | none => rw [List.find?_eq_none] at e; exact absurd hp (e x hx)
  | some y =>
    obtain ⟨h1, a, b, h2, h3⟩ := List.find?_eq_some_iff_append.mp e
    exact ⟨a, y, b, h2, h1, fun z hz => by have := h3 z hz; simpa using this⟩
def shash (es : Array (Int × Value)) (i : Nat) : Int := (es[i]?.map (·.1)).getD 0
theorem shash_at {es : Array (Int × Value)} {i : Nat} {e : Int × Value} (h : es[i]? = some e) : shash es i = e.1 := by unfold shash; rw [h]; rfl
section
variable {t : SetTable} {led : Bool} {es : Array (Int × Value)}
theorem Tab.get (T : Tab t led es) {i j : Nat} (h : t.place[i]? = some j) : ∃ e, es[i]? = some e := by
  have hi : i < t.place.size := by
    rcases Nat.lt_or_ge i t.place.size with z | z
    · exact z
    · rw [Array.getElem?_eq_none z] at h; cases h
  exact ⟨_, Array.getElem?_eq_getElem (by rw [← T.fit]; exact hi)⟩
theorem Tab.there (T : Tab t led es) {i : Nat} {e : Int × Value} (hi : es[i]? = some e) : ∃ i' j e' next, SetTable.probe t (shash es) e.1 (t.probeStart e.1) = some (.candidate j i' next) ∧ es[i']? = some e' ∧ e'.1 = e.1 := by
  have lt : i < es.size := by
    rcases Nat.lt_or_ge i es.size with z | z
    · exact z
    · rw [Array.getElem?_eq_none z] at hi; cases hi
  obtain ⟨j0, hj⟩ : ∃ j0, t.place[i]? = some j0 := ⟨_, Array.getElem?_eq_getElem (by rw [T.fit]; exact lt)⟩
  obtain ⟨pre, suf, h1, h2⟩ := T.reach i _ e hj hi
  have sl := slot_live T.cl hj
  let p : Nat → Bool := fun x => match t.slot x with | .live k => shash es k == e.1 | _ => false
  have pj : p j0 = true := by
    show (match t.slot j0 with | .live k => shash es k == e.1 | _ => false) = true
    rw [sl]; dsimp only; rw [shash_at hi]; simp
  obtain ⟨a, y, b, e1, py, pa⟩ := first_of (l := pre ++ [j0]) (List.mem_append_right _ (List.mem_singleton.mpr rfl)) pj
  have inP : ∀ x ∈ pre ++ [j0], x ∈ t.place.toList := fun x hx => by
    rcases List.mem_append.mp hx with z | z
    · exact h2 x z
    · rw [List.mem_singleton] at z
      rw [z]
      rw [← Array.getElem?_toList] at hj
      exact List.mem_of_getElem? hj
  obtain ⟨k, s1, s2⟩ := slot_in T.cl (inP y (by rw [e1]; simp))
  have hk : (shash es k == e.1) = true := by
    have : (match t.slot y with | .live k => shash es k == e.1 | _ => false) = true := py
    rw [s1] at this; exact this
  have e2 : pth t.mask e.1 = a ++ y :: (b ++ suf) := by
    rw [h1, show pre ++ j0 :: suf = (pre ++ [j0]) ++ suf by simp, e1]; simp
  obtain ⟨F, q, g1, g2, g3⟩ := probe_at (hs := shash es) e2 fun x hx => by
    obtain ⟨kx, x1, x2⟩ := slot_in T.cl (inP x (by rw [e1]; exact List.mem_append_left _ hx))
    refine ⟨kx, x1, ?_⟩
    have : (match t.slot x with | .live k => shash es k == e.1 | _ => false) = false := pa x hx
    rw [x1] at this; exact this
  obtain ⟨e', he'⟩ := T.get s2
  refine ⟨k, y, e', t.advance q, ?_, he', ?_⟩
  · rw [g1, SetTable.probe.go, g2, s1]
    dsimp only
    rw [if_pos hk]
  · rw [shash_at he'] at hk
    simpa using hk
theorem Tab.free (T : Tab t led es) {h : Int} (cv : Cv h) (hn : ∀ (i : Nat) (e : Int × Value), es[i]? = some e → e.1 ≠ h) :
    ∃ j pre suf, SetTable.probe t (shash es) h (t.probeStart h) = some (.empty j none) ∧ pth t.mask h = pre ++ j :: suf ∧ (∀ x ∈ pre, x ∈ t.place.toList) ∧ j ∉ t.place.toList := by
  have ex : ∃ j, j ≤ t.mask ∧ j ∉ t.place.toList := by
    by_cases z : ∃ j, j ≤ t.mask ∧ j ∉ t.place.toList
    · exact z
    · exfalso
      have := len_sub (l := List.range (t.mask + 1)) (m := t.place.toList) List.nodup_range fun x hx => by
        have hx := List.mem_range.mp hx
        exact Classical.not_not.mp fun y => z ⟨x, by omega, y⟩
      rw [List.length_range, Array.length_toList, T.fit] at this
      have := T.few
      omega
  obtain ⟨j0, l0, n0⟩ := ex
  obtain ⟨a, y, b, e1, py, pa⟩ := first_of (l := pth t.mask h) (p := fun x => !decide (x ∈ t.place.toList)) (cv _ T.msk j0 l0) (by simpa using n0)
  have ny : y ∉ t.place.toList := by simpa using py
  have ia : ∀ x ∈ a, x ∈ t.place.toList := fun x hx => by have := pa x hx; simpa using this
  obtain ⟨F, q, g1, g2, g3⟩ := probe_at (hs := shash es) e1 fun x hx => by
    obtain ⟨kx, x1, x2⟩ := slot_in T.cl (ia x hx)
    obtain ⟨e', he'⟩ := T.get x2
    refine ⟨kx, x1, ?_⟩
    rw [shash_at he']
    simpa using hn _ _ he'
  refine ⟨y, a, b, ?_, e1, ia, ny⟩
  rw [g1, SetTable.probe.go, g2, slot_not T.cl ny, g3]
theorem insertAt_list {α : Type} (xs : Array α) {p : Nat} (x : α) : (SetTable.insertAt xs p x).toList = xs.toList.take p ++ x :: xs.toList.drop p := by
  simp [SetTable.insertAt, List.extract_eq_take_drop, List.take_of_length_le]
theorem insertAt_size {α : Type} (xs : Array α) {p : Nat} (x : α) : (SetTable.insertAt xs p x).size = xs.size + 1 := by
  rw [← Array.length_toList, insertAt_list, List.length_append, List.length_cons, ← Nat.add_assoc, ← List.length_append, List.take_append_drop, Array.length_toList]
theorem insertAt_perm {α : Type} (xs : Array α) {p : Nat} (x : α) : (SetTable.insertAt xs p x).toList.Perm (x :: xs.toList) := by
  rw [insertAt_list]
  refine List.perm_middle.trans ?_
  rw [List.take_append_drop]
theorem insert_get {α : Type} (xs : List α) {p : Nat} (hp : p ≤ xs.length) (x : α) (i : Nat) : (xs.take p ++ x :: xs.drop p)[i]? = if i < p then xs[i]? else if i = p then some x else xs[i - 1]? := by
  by_cases h1 : i < p
  · rw [if_pos h1, List.getElem?_append_left (by rw [List.length_take]; omega), List.getElem?_take_of_lt h1]
  · rw [if_neg h1, List.getElem?_append_right (by rw [List.length_take]; omega), List.length_take, Nat.min_eq_left hp]
    by_cases h2 : i = p
    · rw [if_pos h2, h2, Nat.sub_self]; rfl
    · rw [if_neg h2]
      obtain ⟨k, hk⟩ : ∃ k, i - p = k + 1 := ⟨i - p - 1, by omega⟩
      rw [hk, List.getElem?_cons_succ, List.getElem?_drop]
      congr 1; omega
theorem Tab.put (T : Tab t led es) {h : Int} {x : Value} {j : Nat} {pre suf : List Nat} (e : pth t.mask h = pre ++ j :: suf) (hp : ∀ y ∈ pre, y ∈ t.place.toList) (hj : j ∉ t.place.toList) :
    Clean (t.put j).1 led ∧ (t.put j).1.place.size = (SetTable.insertAt es (t.put j).2 (h, x)).size ∧ (∀ y ∈ (t.put j).1.place.toList, y ≤ t.mask) ∧ (t.put j).1.mask = t.mask ∧ (t.put j).1.dummies = #[] ∧
    ∀ (i k : Nat) (e : Int × Value), (t.put j).1.place[i]? = some k → (SetTable.insertAt es (t.put j).2 (h, x))[i]? = some e → ∃ pre suf, pth t.mask e.1 = pre ++ k :: suf ∧ ∀ y ∈ pre, y ∈ (t.put j).1.place.toList := by
  have hn : t.place[SetTable.below t.place j]? ≠ some j := fun z => by
    rw [← Array.getElem?_toList] at z
    exact hj (List.mem_of_getElem? z)
  have B := below_is T.cl.rise j
  have ep : (t.put j).1.place = SetTable.insertAt t.place (SetTable.below t.place j) j := rfl
  have e2 : (t.put j).2 = SetTable.below t.place j := rfl
  have ed : (t.put j).1.dummies = #[] := by
    show (if SetTable.has t.dummies j then _ else t.dummies) = #[]
    rw [T.cl.dum, has_nil]; rfl
  have mono : ∀ y, y ∈ t.place.toList → y ∈ (t.put j).1.place.toList := fun y hy => by
    rw [ep]; exact (insertAt_perm ..).mem_iff.mpr (List.mem_cons_of_mem _ hy)
  refine ⟨⟨ed, rise_insert T.cl.rise hn, T.cl.led⟩, by rw [ep, insertAt_size, insertAt_size, T.fit], fun y hy => ?_, rfl, ed, fun i k e' h1 h2 => ?_⟩
  · rw [ep] at hy
    rcases List.mem_cons.mp ((insertAt_perm ..).mem_iff.mp hy) with z | z
    · rw [z]; exact pth_in (h := h) (by rw [e]; simp)
    · exact T.le y z
  · rw [ep, ← Array.getElem?_toList, insertAt_list, insert_get _ (by rw [Array.length_toList]; exact B.le)] at h1
    rw [e2, ← Array.getElem?_toList, insertAt_list, insert_get _ (by rw [Array.length_toList, ← T.fit]; exact B.le)] at h2
    have old : ∀ i', t.place.toList[i']? = some k → es.toList[i']? = some e' → ∃ pre suf, pth t.mask e'.1 = pre ++ k :: suf ∧ ∀ y ∈ pre, y ∈ (t.put j).1.place.toList := fun i' g1 g2 => by
      rw [Array.getElem?_toList] at g1 g2
      obtain ⟨pre', suf', r1, r2⟩ := T.reach i' k e' g1 g2
      exact ⟨pre', suf', r1, fun y hy => mono y (r2 y hy)⟩
    by_cases c1 : i < SetTable.below t.place j
    · rw [if_pos c1] at h1 h2; exact old i h1 h2
    · rw [if_neg c1] at h1 h2
      by_cases c2 : i = SetTable.below t.place j
      · rw [if_pos c2] at h1 h2
        injection h1 with h1
        injection h2 with h2
        subst h1; subst h2
        exact ⟨pre, suf, e, fun y hy => mono y (hp y hy)⟩
      · rw [if_neg c2] at h1 h2; exact old _ h1 h2
end
theorem free_runs (mask : Nat) (owner : Array (Option Nat)) : ∀ f i p, SetTable.layClean.free mask owner f i p = (runs mask f i p).find? fun j => (owner.getD j (some 0)).isNone
  | 0, i, p => rfl
  | f + 1, i, p => by
    rw [SetTable.layClean.free, runs, List.find?_append, List.range'_eq_map_range, List.find?_map]
    have e : ((fun j => (owner.getD j (some 0)).isNone) ∘ fun x => i + x) = fun k => (owner.getD (i + k) (some 0)).isNone := rfl
    rw [e]
    cases h : (List.range (SetTable.runEnd mask i + 1 - i)).find? fun k => (owner.getD (i + k) (some 0)).isNone with
    | some k => rfl
    | none =>
      dsimp only
      rw [free_runs mask owner f]
      rfl
structure Own (mask : Nat) (hs : List Int) (owner : Array (Option Nat)) : Prop where
  sz : owner.size = mask + 1
  lt : ∀ (j k : Nat), owner[j]? = some (some k) → k < hs.length
  inj : ∀ (j j' k : Nat), owner[j]? = some (some k) → owner[j']? = some (some k) → j = j'
  at' : ∀ (k : Nat) (h : Int), hs[k]? = some h → ∃ j pre suf, owner[j]? = some (some k) ∧ pth mask h = pre ++ j :: suf ∧ ∀ x ∈ pre, ∃ k' : Nat, owner[x]? = some (some k')
theorem own_start (mask : Nat) : Own mask [] (Array.replicate (mask + 1) none) where
  sz := by simp
  lt := fun j k h => by simp [Array.getElem?_replicate] at h
  inj := fun j j' k h => by simp [Array.getElem?_replicate] at h
  at' := fun k h e => by simp at e
theorem own_room {mask : Nat} {hs : List Int} {owner : Array (Option Nat)} (O : Own mask hs owner) (hl : hs.length ≤ mask) : ∃ x : Nat, x ≤ mask ∧ owner[x]? = some none := by
  by_cases z : ∃ x : Nat, x ≤ mask ∧ owner[x]? = some none
  · exact z
  exfalso
  have all : ∀ x : Nat, x ≤ mask → ∃ k : Nat, owner[x]? = some (some k) := fun x hx => by
    have hs : x < owner.size := by rw [O.sz]; omega
    cases e : owner[x] with
    | none => exact absurd ⟨x, hx, by rw [Array.getElem?_eq_getElem hs, e]⟩ z
    | some k => exact ⟨k, by rw [Array.getElem?_eq_getElem hs, e]⟩
  have nd : ((List.range (mask + 1)).map fun x => (owner.getD x none).getD 0).Nodup := by
    refine List.Pairwise.map (R := fun a b => a ≤ mask ∧ b ≤ mask ∧ a ≠ b) _ (fun a b h e => ?_) ?_
    · obtain ⟨ka, ha⟩ := all a h.1
      obtain ⟨kb, hb⟩ := all b h.2.1
      have g1 : (owner.getD a none).getD 0 = ka := by simp [Array.getD_eq_getD_getElem?, ha]
      have g2 : (owner.getD b none).getD 0 = kb := by simp [Array.getD_eq_getD_getElem?, hb]
      rw [g1, g2] at e
      subst e
      exact h.2.2 (O.inj a b ka ha hb)
    · refine (List.nodup_range (n := mask + 1)).imp_of_mem fun ha hb h => ?_
      have := List.mem_range.mp ha
      have := List.mem_range.mp hb
      exact ⟨by omega, by omega, h⟩
  have := len_sub (m := List.range hs.length) nd fun y hy => by
    obtain ⟨x, hx, rfl⟩ := List.mem_map.mp hy
    obtain ⟨k, hk⟩ := all x (by have := List.mem_range.mp hx; omega)
    have g : (owner.getD x none).getD 0 = k := by simp [Array.getD_eq_getD_getElem?, hk]
    rw [g]
    exact List.mem_range.mpr (O.lt x k hk)
  rw [List.length_map, List.length_range, List.length_range] at this
  omega
theorem own_next {mask : Nat} {hs : List Int} {owner : Array (Option Nat)} {h : Int} (O : Own mask hs owner) (hl : hs.length ≤ mask) (hm : mask = 7 ∨ mask = 31 ∨ mask = 127) (cv : Cv h) :
    ∃ j, SetTable.layClean.free mask owner (SetTable.turns mask) (SetTable.bits h % (mask + 1)) (SetTable.bits h) = some j ∧ Own mask (hs ++ [h]) (owner.setIfInBounds j (some hs.length)) := by
  obtain ⟨x0, l0, e0⟩ := own_room O hl
  obtain ⟨a, j, b, e1, pj, pa⟩ := first_of (l := pth mask h) (p := fun j => (owner.getD j (some 0)).isNone) (cv _ hm x0 l0) (by simp [Array.getD_eq_getD_getElem?, e0])
  have lj : j ≤ mask := pth_in (h := h) (by rw [e1]; simp)
  have sj : j < owner.size := by rw [O.sz]; omega
  have oj : owner[j]? = some none := by
    have : (owner.getD j (some 0)).isNone = true := pj
    rw [Array.getD_eq_getD_getElem?, Array.getElem?_eq_getElem sj] at this
    rw [Array.getElem?_eq_getElem sj]
    simpa using this
  refine ⟨j, ?_, ?_⟩
  · rw [free_runs]
    show List.find? _ (pth mask h) = _
    rw [e1, List.find?_append, List.find?_cons_of_pos (p := fun j => (owner.getD j (some 0)).isNone) pj]
    have : List.find? (fun j => (owner.getD j (some 0)).isNone) a = none := List.find?_eq_none.mpr fun z hz => by rw [pa z hz]; simp
    rw [this]; rfl
  · have gs : ∀ y : Nat, (owner.setIfInBounds j (some hs.length))[y]? = if y = j then some (some hs.length) else owner[y]? := fun y => by
      rw [Array.getElem?_setIfInBounds]
      by_cases c : j = y
      · subst c; simp [sj]
      · rw [if_neg c, if_neg (fun z => c z.symm)]
    have live : ∀ y k : Nat, owner[y]? = some (some k) → (owner.setIfInBounds j (some hs.length))[y]? = some (some k) := fun y k e => by
      rw [gs, if_neg]
      · exact e
      · intro z; rw [z, oj] at e; cases e
    refine ⟨by rw [Array.size_setIfInBounds, O.sz], fun y k e => ?_, fun y y' k e e' => ?_, fun k g e => ?_⟩
    · rw [List.length_append, List.length_singleton]
      rw [gs] at e
      by_cases c : y = j
      · rw [if_pos c] at e; injection e with e; injection e with e; omega
      · rw [if_neg c] at e; have := O.lt y k e; omega
    · rw [gs] at e e'
      by_cases c : y = j
      · by_cases c' : y' = j
        · rw [c, c']
        · rw [if_pos c] at e; rw [if_neg c'] at e'
          injection e with e; injection e with e
          have := O.lt y' k e'
          omega
      · rw [if_neg c] at e
        by_cases c' : y' = j
        · rw [if_pos c'] at e'
          injection e' with e'; injection e' with e'
          have := O.lt y k e
          omega
        · rw [if_neg c'] at e'; exact O.inj y y' k e e'
    · by_cases c : k < hs.length
      · rw [List.getElem?_append_left c] at e
        obtain ⟨jj, pre, suf, f1, f2, f3⟩ := O.at' k g e
        refine ⟨jj, pre, suf, live _ _ f1, f2, fun x hx => ?_⟩
        obtain ⟨k', hk'⟩ := f3 x hx
        exact ⟨k', live _ _ hk'⟩
      · have ek : k = hs.length := by
          have := (List.getElem?_eq_some_iff.mp e).1
          rw [List.length_append, List.length_singleton] at this
          omega
        subst ek
        rw [List.getElem?_append_right (Nat.le_refl _), Nat.sub_self] at e
        injection e with e
        subst e
        refine ⟨j, a, b, by rw [gs, if_pos rfl], e1, fun x hx => ?_⟩
        have hx' : x ≤ mask := pth_in (h := h) (by rw [e1]; exact List.mem_append_left _ hx)
        have sx : x < owner.size := by rw [O.sz]; omega
        have := pa x hx
        simp only [Array.getD_eq_getD_getElem?, Array.getElem?_eq_getElem sx, Option.getD_some] at this
        cases ex : owner[x] with
        | none => rw [ex] at this; cases this
        | some k' => exact ⟨k', live _ _ (by rw [Array.getElem?_eq_getElem sx, ex])⟩
theorem own_all {mask : Nat} (hm : mask = 7 ∨ mask = 31 ∨ mask = 127) : ∀ (rest done : List Int) (owner : Array (Option Nat)), Own mask done owner → (∀ h ∈ rest, Cv h) → done.length + rest.length ≤ mask →
    ∃ owner', rest.foldl (fun (acc : Option (Array (Option Nat) × Nat)) h => do
      let (owner, k) ← acc
      let j ← SetTable.layClean.free mask owner (SetTable.turns mask) (SetTable.bits h % (mask + 1)) (SetTable.bits h)
      pure (owner.setIfInBounds j (some k), k + 1)) (some (owner, done.length)) = some (owner', done.length + rest.length) ∧ Own mask (done ++ rest) owner'
  | [], done, owner, O, _, _ => ⟨owner, rfl, by rw [List.append_nil]; exact O⟩
  | h :: rest, done, owner, O, cv, hl => by
    rw [List.length_cons] at hl
    obtain ⟨j, e, O'⟩ := own_next O (by omega) hm (cv h List.mem_cons_self)
    obtain ⟨owner', e2, O2⟩ := own_all hm rest (done ++ [h]) _ O' (fun g hg => cv g (List.mem_cons_of_mem _ hg)) (by rw [List.length_append, List.length_singleton]; omega)
    refine ⟨owner', ?_, by rw [List.append_assoc] at O2; exact O2⟩
    rw [List.foldl_cons]
    have : (do
      let (owner, k) ← some (owner, done.length)
      let j ← SetTable.layClean.free mask owner (SetTable.turns mask) (SetTable.bits h % (mask + 1)) (SetTable.bits h)
      pure (owner.setIfInBounds j (some k), k + 1)) = some (owner.setIfInBounds j (some done.length), (done ++ [h]).length) := by
      simp only [Option.bind_eq_bind, Option.bind_some, e, List.length_append, List.length_singleton]
      rfl
    rw [this, e2, List.length_append, List.length_singleton, List.length_cons]
    congr 2; omega
theorem own_lay {mask : Nat} (hm : mask = 7 ∨ mask = 31 ∨ mask = 127) (hashes : Array Int) (cv : ∀ h ∈ hashes.toList, Cv h) (hl : hashes.size ≤ mask) : ∃ owner, SetTable.layClean mask hashes = some owner ∧ Own mask hashes.toList owner := by
  obtain ⟨owner, e, O⟩ := own_all hm hashes.toList [] _ (own_start mask) cv (by rw [Array.length_toList]; simpa using hl)
  refine ⟨owner, ?_, O⟩
  unfold SetTable.layClean
  rw [← Array.foldl_toList]
  have e' := e
  rw [List.length_nil] at e'
  rw [e']
  rfl
theorem filterMap_map {α β : Type} {f : α → Option β} {g : α → β} : ∀ (l : List α), (∀ x ∈ l, f x = some (g x)) → l.filterMap f = l.map g
  | [], _ => rfl
  | x :: l, h => by
    rw [List.filterMap_cons, h x List.mem_cons_self]
    dsimp only
    rw [filterMap_map l fun y hy => h y (List.mem_cons_of_mem _ hy), List.map_cons]
theorem Tab.relaid {t : SetTable} {led : Bool} {es : Array (Int × Value)} {mask : Nat} {m : Nat} {pl : Bool} {fg : Nat} (hm : mask = 7 ∨ mask = 31 ∨ mask = 127) (cv : ∀ e ∈ es.toList, Cv e.1) (few : es.size * 5 < mask * 3) :
    ∃ t2 order, SetTable.laid mask fg m led pl (es.map (·.1)) = some (t2, order) ∧ (order.filterMap (es[·]?)).size = es.size ∧ (order.filterMap (es[·]?)).toList.Perm es.toList ∧ t2.mask = mask ∧ t2.moves = m ∧ t2.plain = pl ∧ Tab t2 led (order.filterMap (es[·]?)) := by
  obtain ⟨owner, eo, O⟩ := own_lay hm (es.map (·.1)) (fun h hh => by
    rw [Array.toList_map] at hh
    obtain ⟨e, he, rfl⟩ := List.mem_map.mp hh
    exact cv e he) (by rw [Array.size_map]; omega)
  have ol : (es.map (·.1)).toList.length = es.size := by rw [Array.length_toList, Array.size_map]
  unfold SetTable.laid
  rw [eo]
  simp only [Option.bind_eq_bind, Option.bind_some]
  generalize elv : (List.range (mask + 1)).filterMap (fun j => (owner.getD j none).map (j, ·)) = live
  have mem : ∀ j k : Nat, (j, k) ∈ live ↔ owner[j]? = some (some k) := fun j k => by
    rw [← elv, List.mem_filterMap]
    constructor
    · rintro ⟨x, hx, e⟩
      cases g : owner.getD x none with
      | none => rw [g] at e; cases e
      | some k' =>
        rw [g] at e
        simp only [Option.map_some, Option.some.injEq, Prod.mk.injEq] at e
        obtain ⟨rfl, rfl⟩ := e
        have sx : x < owner.size := by rw [O.sz]; exact List.mem_range.mp hx
        rw [Array.getD_eq_getD_getElem?, Array.getElem?_eq_getElem sx] at g
        rw [Array.getElem?_eq_getElem sx]
        simpa using g
    · intro e
      have sj : j < owner.size := by
        rcases Nat.lt_or_ge j owner.size with z | z
        · exact z
        · rw [Array.getElem?_eq_none z] at e; cases e
      refine ⟨j, List.mem_range.mpr (by rw [← O.sz]; exact sj), ?_⟩
      rw [Array.getD_eq_getD_getElem?, e]; rfl
  have rise : (live.map (·.1)).Pairwise (· < ·) := by
    rw [← elv, List.map_filterMap]
    refine List.Pairwise.filterMap _ (fun a a' h b hb b' hb' => ?_) List.pairwise_lt_range
    cases h1 : owner.getD a none with
    | none => rw [h1] at hb; simp at hb
    | some k1 =>
      cases h2 : owner.getD a' none with
      | none => rw [h2] at hb'; simp at hb'
      | some k2 =>
        rw [h1] at hb; rw [h2] at hb'
        simp at hb hb'
        omega
  have nd2 : (live.map (·.2)).Nodup := by
    have nl : live.Nodup := by
      have := List.Pairwise.of_map (S := (· < ·)) (R := fun a b : Nat × Nat => a ≠ b) (·.1) (fun a b h e => by rw [e] at h; exact Nat.lt_irrefl _ h) rise
      exact this
    refine List.Pairwise.map (R := fun a b => a ∈ live ∧ b ∈ live ∧ a ≠ b) _ (fun a b h e => ?_) (nl.imp_of_mem fun ha hb h => ⟨ha, hb, h⟩)
    obtain ⟨a1, a2⟩ := a
    obtain ⟨b1, b2⟩ := b
    dsimp only at e
    subst e
    have := O.inj a1 b1 a2 ((mem _ _).mp h.1) ((mem _ _).mp h.2.1)
    exact h.2.2 (by rw [this])
  have klt : ∀ j k, (j, k) ∈ live → k < es.size := fun j k h => by rw [← ol]; exact O.lt j k ((mem _ _).mp h)
  have d0 : Int × Value := (0, .none)
  have fm : ((live.map (·.2)).toArray.filterMap (es[·]?)).toList = live.map fun jk => es.getD jk.2 d0 := by
    rw [Array.toList_filterMap]
    show (live.map (·.2)).filterMap (es[·]?) = _
    rw [filterMap_map (g := fun k => es.getD k d0) _ fun k hk => ?_, List.map_map]
    · rfl
    · obtain ⟨⟨j, k'⟩, h1, rfl⟩ := List.mem_map.mp hk
      have := klt j k' h1
      simp [Array.getD_eq_getD_getElem?, this]
  have pr : (live.map (·.2)).Perm (List.range es.size) := by
    refine (List.perm_ext_iff_of_nodup nd2 List.nodup_range).mpr fun k => ?_
    rw [List.mem_range]
    constructor
    · intro hk
      obtain ⟨⟨j, k'⟩, h1, rfl⟩ := List.mem_map.mp hk
      exact klt j k' h1
    · intro hk
      obtain ⟨j, pre, suf, h1, _⟩ := O.at' k ((es.map (·.1)).toList[k]'(by rw [ol]; exact hk)) (List.getElem?_eq_getElem _)
      exact List.mem_map.mpr ⟨(j, k), (mem _ _).mpr h1, rfl⟩
  have re : (List.range es.size).map (fun k => es.getD k d0) = es.toList := by
    apply List.ext_getElem
    · simp
    · intro i h1 h2
      simp at h1
      simp [Array.getD_eq_getD_getElem?, h1]
  have pe : ((live.map (·.2)).toArray.filterMap (es[·]?)).toList.Perm es.toList := by
    rw [fm]
    have : (live.map fun jk => es.getD jk.2 d0) = (live.map (·.2)).map fun k => es.getD k d0 := by rw [List.map_map]; rfl
    rw [this, ← re]
    exact pr.map _
  have sz : ((live.map (·.2)).toArray.filterMap (es[·]?)).size = es.size := by
    rw [← Array.length_toList, pe.length_eq, Array.length_toList]
  refine ⟨_, _, rfl, sz, pe, rfl, rfl, rfl, ⟨rfl, rise, rfl⟩, ?_, hm, ?_, by rw [sz]; exact few, ?_⟩
  · rw [sz]
    show (live.map (·.1)).toArray.size = _
    have := pr.length_eq
    rw [List.length_map, List.length_range] at this
    simp [this]
  · intro j hj
    have hj : j ∈ live.map (·.1) := hj
    obtain ⟨⟨j', k⟩, h1, rfl⟩ := List.mem_map.mp hj
    rw [← elv, List.mem_filterMap] at h1
    obtain ⟨x, hx, e⟩ := h1
    have := List.mem_range.mp hx
    cases g : owner.getD x none with
    | none => rw [g] at e; cases e
    | some k' =>
      rw [g] at e
      simp only [Option.map_some, Option.some.injEq, Prod.mk.injEq] at e
      dsimp only
      omega
  · intro i j e h1 h2
    have h1 : (live.map (·.1)).toArray[i]? = some j := h1
    rw [← Array.getElem?_toList, fm, List.getElem?_map] at h2
    have h1 : (live.map (·.1))[i]? = some j := by simpa using h1
    rw [List.getElem?_map] at h1
    cases g : live[i]? with
    | none => rw [g] at h1; cases h1
    | some jk =>
      rw [g] at h1 h2
      obtain ⟨j', k⟩ := jk
      simp only [Option.map_some, Option.some.injEq] at h1 h2
      subst h1
      have hm' := List.mem_of_getElem? g
      have hk := klt _ _ hm'
      have ee : es[k] = e := by rw [← h2]; simp [Array.getD_eq_getD_getElem?, hk]
      obtain ⟨j0, pre, suf, f1, f2, f3⟩ := O.at' k e.1 (by
        rw [List.getElem?_eq_getElem (by rw [ol]; exact hk)]
        simp [ee])
      have : j0 = j' := O.inj _ _ _ f1 ((mem _ _).mp hm')
      subst this
      refine ⟨pre, suf, f2, fun x hx => ?_⟩
      obtain ⟨k', hk'⟩ := f3 x hx
      exact List.mem_map.mpr ⟨(x, k'), (mem _ _).mpr hk', rfl⟩
end L2
set_option Elab.async false
set_option linter.all false
set_option maxRecDepth 100000
set_option maxHeartbeats 4000000
namespace L2
open PySem
def cvm (mask : Nat) : Nat → Nat → Nat → Nat → Nat
  | 0, _, _, acc => acc
  | f + 1, i, p, acc => cvm mask f (SetTable.leap mask i p).1 (SetTable.leap mask i p).2 (acc ||| ((2 ^ (SetTable.runEnd mask i + 1 - i) - 1) <<< i))
theorem cvm_bit (mask : Nat) (j : Nat) : ∀ f i p acc, (cvm mask f i p acc).testBit j = true → acc.testBit j = true ∨ j ∈ runs mask f i p
  | 0, i, p, acc, h => .inl h
  | f + 1, i, p, acc, h => by
    rcases cvm_bit mask j f _ _ _ h with z | z
    · rw [Nat.testBit_or, Bool.or_eq_true] at z
      rcases z with z | z
      · exact .inl z
      · right
        rw [Nat.testBit_shiftLeft, Nat.testBit_two_pow_sub_one] at z
        rw [runs, List.mem_append, List.mem_range'_1]
        left
        simp at z
        omega
    · right
      rw [runs, List.mem_append]
      exact .inr z
def cvs (h : Int) : Bool := [7, 31, 127].all fun m => Nat.beq (cvm m (SetTable.turns m) (SetTable.bits h % (m + 1)) (SetTable.bits h) 0) (2 ^ (m + 1) - 1)
theorem cv_of {h : Int} (c : cvs h = true) : Cv h := by
  intro m hm j hj
  have hm' : m ∈ [7, 31, 127] := by simp; omega
  have e := Nat.eq_of_beq_eq_true (List.all_eq_true.mp c m hm')
  have b : (cvm m (SetTable.turns m) (SetTable.bits h % (m + 1)) (SetTable.bits h) 0).testBit j = true := by
    rw [e, Nat.testBit_two_pow_sub_one]; simp; omega
  rcases cvm_bit m j _ _ _ _ b with z | z
  · simp at z
  · exact z
def phash (p : Int × Int) : Int := reduceHash (Builtin.Tuple.tupleHashOf [hashInt p.1, hashInt p.2])
def pairs7 : List (Int × Int) := (List.range 7).flatMap fun (a : Nat) => (List.range 7).map fun (b : Nat) => ((a : Int), (b : Int))
theorem cvs7 : (pairs7.all fun p => cvs (phash p)) = true := by decide +kernel
theorem inj7 : (pairs7.all fun p => pairs7.all fun q => decide (phash p = phash q → p = q)) = true := by decide +kernel
theorem mem7 {p : Int × Int} (h : 0 ≤ p.1 ∧ p.1 < 7 ∧ 0 ≤ p.2 ∧ p.2 < 7) : p ∈ pairs7 := by
  refine List.mem_flatMap.mpr ⟨p.1.toNat, List.mem_range.mpr (by omega), List.mem_map.mpr ⟨p.2.toNat, List.mem_range.mpr (by omega), ?_⟩⟩
  refine Prod.ext ?_ ?_
  · show ((p.1.toNat : Nat) : Int) = p.1; omega
  · show ((p.2.toNat : Nat) : Int) = p.2; omega
theorem phash_cv {p : Int × Int} (h : 0 ≤ p.1 ∧ p.1 < 7 ∧ 0 ≤ p.2 ∧ p.2 < 7) : Cv (phash p) := cv_of (List.all_eq_true.mp cvs7 p (mem7 h))
theorem phash_inj {p q : Int × Int} (h : 0 ≤ p.1 ∧ p.1 < 7 ∧ 0 ≤ p.2 ∧ p.2 < 7) (g : 0 ≤ q.1 ∧ q.1 < 7 ∧ 0 ≤ q.2 ∧ q.2 < 7) (e : phash p = phash q) : p = q :=
  of_decide_eq_true (List.all_eq_true.mp (List.all_eq_true.mp inj7 p (mem7 h)) q (mem7 g)) e
end L2
set_option Elab.async false
set_option linter.all false
set_option maxRecDepth 100000
set_option maxHeartbeats 4000000
namespace L2
open PySem PySem.Spec PySem.W PyProof.Rows
abbrev IsT (prog : Program) (w : World) (h : Heap) (p : Int × Int) (b : Addr) : Prop := IsTupleKey (L2.mixKind prog w) h [.inl p.1, .inl p.2] b
abbrev P7 (p : Int × Int) : Prop := 0 ≤ p.1 ∧ p.1 < 7 ∧ 0 ≤ p.2 ∧ p.2 < 7
abbrev ent (q : (Int × Int) × Addr) : Int × Value := (phash q.1, .ref q.2)
structure SetPAt (F : Int × Int → Addr → Prop) (h : Heap) (a : Addr) (led : Bool) (qs : List ((Int × Int) × Addr)) (es : Array (Int × Value)) (ep : Nat) (t : SetTable) : Prop where
  ob : h.get? a = some (setObj es ep t)
  tab : Tab t led es
  el : es.toList = qs.map ent
  ok : ∀ q ∈ qs, P7 q.1 ∧ F q.1 q.2
  nd : (qs.map (·.1)).Nodup
def SetP (F : Int × Int → Addr → Prop) (h : Heap) (a : Addr) (led : Bool) (ps : List (Int × Int)) : Prop := ∃ qs es ep t, SetPAt F h a led qs es ep t ∧ (qs.map (·.1)).Perm ps
section
variable {prog : Program} {w : World} {A : Around} {E : Value → Shared → Prop} {s : Shared} {h0 h h' : Heap} {a b : Addr} {led : Bool} {p : Int × Int} {F : Int × Int → Addr → Prop}
theorem IsT.keeps (x : IsT prog w h p b) (k : ∀ o, h.get? b = some o → h'.get? b = some o) : IsT prog w h' p b := by
  obtain ⟨o, items, n, ho, r⟩ := x
  exact ⟨o, items, n, k o ho, r⟩
theorem items2 {x y : Key} {l : List Value} (h : ItemsAre (L2.mixKind prog w) [x, y] l) : ∃ v u, l = [v, u] ∧ keyIs x v = true ∧ keyIs y u = true := by
  cases h with
  | @cons _ v _ _ h1 r =>
    cases r with
    | @cons _ u _ _ h2 r2 =>
      cases r2
      exact ⟨v, u, rfl, h1, h2⟩
theorem IsT.ints (x : IsT prog w h p b) : ∃ o t u n, h.get? b = some o ∧ o.cls = .type "tuple" ∧ o.data = .seq #[.int p.1 t, .int p.2 u] n := by
  obtain ⟨o, items, n, ho, hc, hd, hi⟩ := x
  obtain ⟨v, u, e, h1, h2⟩ := items2 hi
  obtain rfl : items = #[v, u] := by
    have := congrArg List.toArray e
    simpa using this
  rcases keyIs_shape h1 with ⟨i, t, e1, rfl⟩ | ⟨x, t, e1, e2⟩
  · rcases keyIs_shape h2 with ⟨j, u, e3, rfl⟩ | ⟨x, u, e3, e4⟩
    · injection e1 with e1
      injection e3 with e3
      subst e1; subst e3
      exact ⟨o, t, u, n, ho, hc, hd⟩
    · cases e3
  · cases e1
theorem Tab.fits {t : SetTable} {es : Array (Int × Value)} (T : Tab t led es) : t.fits es.size = true := by
  unfold SetTable.fits SetTable.fill
  rw [T.cl.dum, T.fit]
  have := T.few
  simp
  omega
theorem ofA_tuple {Q : Bool → Shared → Prop} (hx : IsT prog w s.heap p b) (q : Q false s) : wpAny (model prog w) A (ofAClassStatement 8 (.ref b)) Q E s := by
  have hT := hx.typeIs
  obtain ⟨o, t, u, n, ho, hc, hd⟩ := hx.ints
  unfold ofAClassStatement
  refine wpAny_bind (wpAny_typeOf hT ?_)
  dsimp only
  rw [if_pos (show ("tuple" == "tuple") = true from by decide)]
  refine wpAny_bind (wpAny_pure ?_)
  simp only [Bool.not_true, Bool.false_eq_true, if_false]
  refine wpAny_bind (wpAny_seqItems ho hd ?_)
  dsimp only
  refine wpAny_bind ?_
  show wpAny _ _ (forIn #[Value.int p.1 t, Value.int p.2 u] _ _) _ _ s
  rw [← Array.forIn_toList]
  refine wpAny_forIn_list _ (fun rest r s' => r.1 = none ∧ s' = s ∧ ∀ v ∈ rest, ∃ i t, v = Value.int i t) _ ?_ ?_ _ _ ⟨rfl, rfl, ?_⟩
  · rintro v rest r s' ⟨hr, rfl, hall⟩
    obtain ⟨i, t', rfl⟩ := hall v List.mem_cons_self
    refine (show wpAny _ _ (pure false >>= _) _ _ s' from wpAny_bind (wpAny_pure ?_))
    simp only [Bool.false_eq_true, if_false]
    exact wpAny_pure ⟨rfl, rfl, fun u hu' => hall u (List.mem_cons_of_mem _ hu')⟩
  · rintro ⟨r1, r2⟩ s' ⟨hr, rfl, _⟩
    simp only at hr
    subst hr
    exact wpAny_pure q
  · intro v hv
    simp only [List.mem_cons, List.not_mem_nil, or_false] at hv
    rcases hv with z | z
    · exact ⟨_, _, z⟩
    · exact ⟨_, _, z⟩
theorem byValue_tuple {Q : Bool → Shared → Prop} (hx : IsT prog w s.heap p b) (q : Q true s) : wpAny (model prog w) A (hashByValue 8 (.ref b)) Q E s := by
  have hT := hx.typeIs
  obtain ⟨o, t, u, n, ho, hc, hd⟩ := hx.ints
  unfold hashByValue
  refine wpAny_bind (wpAny_specialOf hT F.slot_tuple_hash.lookup ?_)
  dsimp only
  refine wpAny_bind (wpAny_seqItems ho hd ?_)
  refine wpAny_bind ?_
  show wpAny _ _ (forIn #[Value.int p.1 t, Value.int p.2 u] _ _) _ _ s
  rw [← Array.forIn_toList]
  refine wpAny_forIn_list _ (fun rest r s' => r.1 = none ∧ s' = s ∧ ∀ v ∈ rest, ∃ i t, v = Value.int i t) _ ?_ ?_ _ _ ⟨rfl, rfl, ?_⟩
  · rintro v rest r s' ⟨hr, rfl, hall⟩
    obtain ⟨i, t', rfl⟩ := hall v List.mem_cons_self
    refine (show wpAny _ _ (pure true >>= _) _ _ s' from wpAny_bind (wpAny_pure ?_))
    simp only [Bool.not_true, Bool.false_eq_true, if_false]
    exact wpAny_pure ⟨rfl, rfl, fun u hu' => hall u (List.mem_cons_of_mem _ hu')⟩
  · rintro ⟨r1, r2⟩ s' ⟨hr, rfl, _⟩
    simp only at hr
    subst hr
    exact wpAny_pure q
  · intro v hv
    simp only [List.mem_cons, List.not_mem_nil, or_false] at hv
    rcases hv with z | z
    · exact ⟨_, _, z⟩
    · exact ⟨_, _, z⟩
theorem seen_not {Q : Bool → Shared → Prop} (hx : IsT prog w s.heap p b) (stored : List Value) (hs : ∀ y ∈ stored, ∃ b' p', y = .ref b' ∧ IsT prog w s.heap p' b') (q : Q false s) : wpAny (model prog w) A (searchCouldBeSeen (.ref b) stored) Q E s := by
  unfold searchCouldBeSeen
  refine wpAny_bind ?_
  refine wpAny_forIn_list _ (fun rest r s' => r.1 = none ∧ s' = s ∧ ∀ y ∈ rest, ∃ b' p', y = Value.ref b' ∧ IsT prog w s.heap p' b') _ ?_ ?_ _ _ ⟨rfl, rfl, hs⟩
  · rintro v rest r s' ⟨hr, rfl, hall⟩
    obtain ⟨b', p', rfl, hy⟩ := hall v List.mem_cons_self
    have nx : ∀ u ∈ rest, ∃ b' p', u = Value.ref b' ∧ IsT prog w s'.heap p' b' := fun u hu' => hall u (List.mem_cons_of_mem _ hu')
    dsimp only
    split
    · exact wpAny_pure ⟨rfl, rfl, nx⟩
    · refine wpAny_bind (wpAny_eqIsQuiet_tuple hx ?_)
      simp only [Bool.not_true, Bool.false_eq_true, if_false]
      refine wpAny_bind (wpAny_eqIsQuiet_tuple hy ?_)
      simp only [Bool.not_true, Bool.false_eq_true, if_false]
      refine wpAny_bind (ofA_tuple hx ?_)
      simp only [Bool.false_eq_true, if_false]
      refine wpAny_bind (ofA_tuple hy ?_)
      simp only [Bool.false_eq_true, if_false]
      exact wpAny_pure ⟨rfl, rfl, nx⟩
  · rintro ⟨r1, r2⟩ s' ⟨hr, rfl, _⟩
    simp only at hr
    subst hr
    exact wpAny_pure q
theorem SetP.keeps {ps : List (Int × Int)} (S : SetP F h a led ps) (k : ∀ o, h.get? a = some o → h'.get? a = some o) : SetP F h' a led ps := by
  obtain ⟨qs, es, ep, t, S, pm⟩ := S
  exact ⟨qs, es, ep, t, ⟨k _ S.ob, S.tab, S.el, S.ok, S.nd⟩, pm⟩
theorem SetP.perm {ps ms : List (Int × Int)} (S : SetP F h a led ps) (p : ps.Perm ms) : SetP F h a led ms := by
  obtain ⟨qs, es, ep, t, S, pm⟩ := S
  exact ⟨qs, es, ep, t, S, pm.trans p⟩
theorem sizeAbove20 : SetTable.sizeAbove 20 = 32 := by decide +kernel
theorem sizeAbove76 : SetTable.sizeAbove 76 = 128 := by decide +kernel
theorem perm_pick {α β : Type} (f : α → β) : ∀ {l : List β} {L : List α}, l.Perm (L.map f) → ∃ L' : List α, l = L'.map f ∧ L'.Perm L := by
  intro l L h
  have := h.symm
  clear h
  generalize eM : L.map f = M at this
  induction this generalizing L with
  | nil => exact ⟨[], rfl, by cases L with | nil => exact .nil | cons x y => cases eM⟩
  | cons x _ ih =>
    cases L with
    | nil => cases eM
    | cons y L2 =>
      injection eM with e1 e2
      obtain ⟨L', h1, h2⟩ := ih e2
      exact ⟨y :: L', by rw [List.map_cons, e1, h1], h2.cons _⟩
  | swap x y r =>
    cases L with
    | nil => cases eM
    | cons u L2 =>
      cases L2 with
      | nil => injection eM with _ e2; cases e2
      | cons v L3 =>
        injection eM with e1 e2
        injection e2 with e2 e3
        exact ⟨v :: u :: L3, by rw [List.map_cons, List.map_cons, e1, e2, e3], List.Perm.swap ..⟩
  | trans _ _ i1 i2 =>
    obtain ⟨L1, h1, h2⟩ := i1 eM
    obtain ⟨L2, h3, h4⟩ := i2 h1.symm
    exact ⟨L2, h3, h4.trans h2⟩
theorem pset_add {ps : List (Int × Int)} {Q : Bool → Shared → Prop} (hu : A.units + 4 < cLine) (k0 : ∀ b o, h0.get? b = some o → s.heap.get? b = some o) (S : SetP F s.heap a led ps) (hF : ∀ {p : Int × Int} {b : Addr}, F p b → IsT prog w h0 p b) (hp0 : F p b) (h7 : P7 p) (hl : ps.length ≤ 49)
    (q0 : p ∈ ps → Q false s) (q1 : p ∉ ps → ∀ h', Heap.SameBut a s.heap h' → SetP F h' a led (p :: ps) → Q true { s with heap := h' }) : wpAny (model prog w) A (setAddHashed a (.ref b) (phash p)) Q E s := by
  obtain ⟨qs, es, ep, t, S, pm⟩ := S
  have hp : IsT prog w s.heap p b := (hF hp0).keeps fun o e => k0 _ _ e
  have fi := S.tab.fits
  have zs : es.size = qs.length := by rw [← Array.length_toList, S.el, List.length_map]
  have zq : qs.length = ps.length := by rw [← pm.length_eq, List.length_map]
  have odd : t.gaveWay = false := by
    unfold SetTable.gaveWay
    rcases S.tab.msk with z | z | z <;> rw [z] <;> decide
  have nsc : byScan (.ref b) es = false := by unfold byScan; rfl
  unfold setAddHashed setAddHashedIn
  refine wpAny_holding (wpAny_bind (wpAny_setState_of S.ob rfl fi ?_))
  dsimp only
  rw [nsc]
  simp only [Bool.false_eq_true, if_false]
  unfold setSearch setSearchFrom
  have getq : ∀ (i : Nat) (e : Int × Value), es[i]? = some e → ∃ q ∈ qs, e = ent q := fun i e he => by
    rw [← Array.getElem?_toList, S.el, List.getElem?_map] at he
    obtain ⟨q, hq, rfl⟩ := Option.map_eq_some_iff.mp he
    exact ⟨q, List.mem_of_getElem? hq, rfl⟩
  by_cases hin : p ∈ ps
  · obtain ⟨q, hq, eq⟩ := List.mem_map.mp (pm.mem_iff.mpr hin)
    obtain ⟨i, hi, ei⟩ := List.mem_iff_getElem.mp hq
    have ge : es[i]? = some (ent q) := by
      rw [← Array.getElem?_toList, S.el, List.getElem?_map, List.getElem?_eq_getElem hi, ei]; rfl
    obtain ⟨i', j, e', next, g1, g2, g3⟩ := S.tab.there ge
    obtain ⟨q', hq', rfl⟩ := getq i' e' g2
    have eqq : q'.1 = p := by
      rw [← eq]
      exact phash_inj (S.ok q' hq').1 (S.ok q hq).1 g3
    have hy : IsT prog w s.heap p q'.2 := by rw [← eqq]; exact (hF (S.ok q' hq').2).keeps fun o e => k0 _ _ e
    rw [show phash p = (ent q).1 by rw [← eq]]
    refine wpAny_bind (wpAny_bind (wpAny_setState_of S.ob rfl fi ?_))
    dsimp only
    rw [odd]
    simp only [Bool.false_eq_true, if_false]
    generalize hgs : SetTable.probe t _ (ent q).1 (Option.getD none (t.probeStart (ent q).1)) = PR
    obtain rfl : PR = some (.candidate j i' next) := by rw [← hgs]; exact g1
    clear hgs
    dsimp only
    cases hld : t.led with
    | true =>
      simp only [Bool.not_true, Bool.false_eq_true, if_false]
      rw [g2]
      dsimp only
      refine wpAny_bind (wpAny_holding (wpAny_eqBool_tuple (Nat.lt_of_le_of_lt (Nat.le_add_right _ _) hu) hy hp ?_))
      rw [decide_eq_true rfl]
      refine wpAny_bind (wpAny_setState_of S.ob rfl fi ?_)
      exact wpAny_pure (wpAny_pure (q0 hin))
    | false =>
      simp only [Bool.not_false, if_true]
      refine wpAny_bind (seen_not hp _ (fun y hy' => ?_) ?_)
      · obtain ⟨e, he, rfl⟩ := List.mem_map.mp hy'
        rw [Array.toList_filter] at he
        have he := (List.mem_filter.mp he).1
        rw [S.el] at he
        obtain ⟨q2, hq2, rfl⟩ := List.mem_map.mp he
        exact ⟨_, _, rfl, (hF (S.ok q2 hq2).2).keeps fun o e => k0 _ _ e⟩
      · simp only [Bool.false_eq_true, if_false]
        rw [g2]
        dsimp only
        refine wpAny_bind (wpAny_holding (wpAny_eqBool_tuple (Nat.lt_of_le_of_lt (Nat.le_add_right _ _) hu) hy hp ?_))
        rw [decide_eq_true rfl]
        refine wpAny_bind (wpAny_setState_of S.ob rfl fi ?_)
        exact wpAny_pure (wpAny_pure (q0 hin))
  · have hn : ∀ (i : Nat) (e : Int × Value), es[i]? = some e → e.1 ≠ phash p := fun i e he z => by
      obtain ⟨q, hq, rfl⟩ := getq i e he
      have := phash_inj (S.ok q hq).1 h7 z
      exact hin (pm.mem_iff.mp (List.mem_map.mpr ⟨q, hq, this⟩))
    obtain ⟨j, pre, suf, g1, g2, g3, g4⟩ := S.tab.free (phash_cv h7) hn
    refine wpAny_bind (wpAny_bind (wpAny_setState_of S.ob rfl fi ?_))
    dsimp only
    rw [odd]
    simp only [Bool.false_eq_true, if_false]
    generalize hgs : SetTable.probe t _ (phash p) (Option.getD none (t.probeStart (phash p))) = PR
    obtain rfl : PR = some (.empty j none) := by rw [← hgs]; exact g1
    clear hgs
    dsimp only
    refine wpAny_pure (wpAny_bind (wpAny_setState_of S.ob rfl fi ?_))
    dsimp only
    obtain ⟨c1, c2, c3, c4, c5, c6⟩ := S.tab.put (x := .ref b) g2 g3 g4
    have el1 : (SetTable.insertAt es (t.put j).2 (phash p, .ref b)).toList.Perm (((p, b) :: qs).map ent) := by
      refine (insertAt_perm ..).trans ?_
      rw [S.el]; exact .refl _
    have z1 : (SetTable.insertAt es (t.put j).2 (phash p, .ref b)).size = es.size + 1 := insertAt_size ..
    generalize hes : SetTable.insertAt es (t.put j).2 (phash p, Value.ref b) = es1 at c2 c6 el1 z1 ⊢
    generalize hput : (t.put j).1 = t1 at c1 c2 c3 c4 c5 c6 ⊢
    have fin : ∀ (h' : Heap) (es2 : Array (Int × Value)) (ep2 : Nat) (t2 : SetTable), Heap.SameBut a s.heap h' → h'.get? a = some (setObj es2 ep2 t2) → es2.toList.Perm es1.toList → Tab t2 led es2 → Q true { s with heap := h' } := fun h' es2 ep2 t2 sb ob pm2 tb => by
      obtain ⟨qs', e1, e2⟩ := perm_pick ent (pm2.trans el1)
      refine q1 hin h' sb ⟨qs', es2, ep2, t2, ⟨ob, tb, e1, fun q hq => ?_, ?_⟩, ?_⟩
      · rcases List.mem_cons.mp (e2.mem_iff.mp hq) with z | z
        · rw [z]; exact ⟨h7, hp0⟩
        · exact S.ok q z
      · refine ((e2.map (·.1)).nodup_iff).mpr ?_
        rw [List.map_cons, List.nodup_cons]
        exact ⟨fun z => hin (pm.mem_iff.mp z), S.nd⟩
      · refine (e2.map (·.1)).trans ?_
        rw [List.map_cons]
        exact pm.cons _
    have tail : ∀ t2 : SetTable, t2.mask = t1.mask → t2.place = t1.place → t2.dummies = t1.dummies → t2.led = t1.led → wpAny (model prog w) A (do
        storeSet a es1 t2
        if (!false && t2.tooFull) = true then do
            setRelay a (SetTable.grown (es.size + 1))
            pure true
          else pure true) Q E s := by
      intro t2 m2 p2 d2 l2
      have cl2 : Clean t2 led := ⟨by rw [d2, c5], by rw [p2]; exact c1.rise, by rw [l2]; exact c1.led⟩
      have fill2 : t2.fill = es.size + 1 := by unfold SetTable.fill; rw [p2, d2, c5, c2, z1]; rfl
      refine wpAny_bind (store_set S.ob (by rw [z1, zs, zq]; exact Nat.lt_of_le_of_lt (Nat.succ_le_succ hl) (by decide)) fun h1 sb1 ob1 => ?_)
      have few := S.tab.few
      cases htf : t2.tooFull with
      | false =>
        simp only [Bool.not_false, Bool.true_and, Bool.false_eq_true, if_false]
        refine wpAny_pure (fin h1 _ _ _ sb1 ob1 .rfl ?_)
        unfold SetTable.tooFull at htf
        have htf := of_decide_eq_false htf
        rw [fill2, m2, c4] at htf
        exact ⟨cl2, by rw [p2]; exact c2, by rw [m2, c4]; exact S.tab.msk, by rw [p2, m2, c4]; exact c3, by rw [z1, m2, c4]; omega, fun i k e h1 h2 => by rw [p2] at h1 ⊢; rw [m2, c4]; exact c6 i k e h1 h2⟩
      | true =>
        simp only [Bool.not_false, Bool.true_and, if_true]
        unfold SetTable.tooFull at htf
        have htf := of_decide_eq_true htf
        rw [fill2, m2, c4] at htf
        have hm : ∃ m', SetTable.sizeAbove (SetTable.grown (es.size + 1)) - 1 = m' ∧ (m' = 7 ∨ m' = 31 ∨ m' = 127) ∧ (es.size + 1) * 5 < m' * 3 ∧ SetTable.sizeAbove (SetTable.grown (es.size + 1)) ≤ 128 := by
          unfold SetTable.grown
          rw [if_neg (by omega)]
          rcases S.tab.msk with z | z | z
          · rw [z] at few htf
            have e5 : es.size + 1 = 5 := by omega
            rw [e5, show 5 * 4 = 20 from rfl, sizeAbove20]
            exact ⟨31, rfl, by omega, by omega, by omega⟩
          · rw [z] at few htf
            have e5 : es.size + 1 = 19 := by omega
            rw [e5, show 19 * 4 = 76 from rfl, sizeAbove76]
            exact ⟨127, rfl, by omega, by omega, by omega⟩
          · rw [z] at few htf
            omega
        obtain ⟨m', em, hm1, hm2, hm3⟩ := hm
        have fi2 : t2.fits es1.size = true := by
          unfold SetTable.fits
          rw [fill2, p2, c2, z1, m2, c4]
          have := few
          rcases S.tab.msk with z | z | z <;> rw [z] at this ⊢ <;> simp <;> omega
        obtain ⟨t3, order, r1, r2, r3, r4, r5, r6, r7⟩ := Tab.relaid (t := t2) (led := led) (es := es1) (m := t2.movedTo m') (pl := t2.plain) (fg := t2.finger) hm1 (fun e he => by
          obtain ⟨q, hq, rfl⟩ := List.mem_map.mp (el1.mem_iff.mp he)
          rcases List.mem_cons.mp hq with z | z
          · rw [z]; exact phash_cv h7
          · exact phash_cv (S.ok q z).1) (by rw [z1]; exact hm2)
        refine wpAny_bind ?_
        unfold setRelay
        refine wpAny_bind (wpAny_setState_of ob1 rfl fi2 ?_)
        dsimp only
        rw [if_neg (show ¬ (SetTable.sizeAbove (SetTable.grown (es.size + 1)) > sizeLine) from fun z => by rw [sizeLine_eq] at z; omega)]
        have rel : t2.relaid (es1.map (·.1)) (SetTable.grown (es.size + 1)) = some (t3, order) := by
          unfold SetTable.relaid
          rw [em, cl2.led]
          exact r1
        rw [rel]
        refine wpAny_bind ?_
        refine (show wpAny _ _ (if ((order.filterMap (es1[·]?)).size != es1.size) = true then _ else pure (order.filterMap (es1[·]?), t3)) _ _ _ from ?_)
        rw [if_neg (by rw [r2]; simp)]
        refine wpAny_pure (store_set ob1 (by rw [r2, z1, zs, zq]; exact Nat.lt_of_le_of_lt (Nat.succ_le_succ hl) (by decide)) fun h3 sb3 ob3 => wpAny_pure (fin h3 _ _ _ (sb1.trans sb3) ob3 r3 r7))
    cases hpl : t1.plain with
    | true =>
      rw [if_pos rfl]
      refine wpAny_bind (byValue_tuple hp ?_)
      exact tail t1 rfl rfl rfl rfl
    | false =>
      rw [if_neg (by simp)]
      refine wpAny_bind (wpAny_pure ?_)
      exact tail t1 rfl rfl rfl rfl
end
structure SetRaw (h : Heap) (a : Addr) (led : Bool) (es : Array (Int × Value)) (ep : Nat) (t : SetTable) : Prop where
  ob : h.get? a = some (setObj es ep t)
  fi : t.fits es.size = true
  cl : Clean t led
theorem SetRaw.keeps {h h' : Heap} {a : Addr} {led : Bool} {es : Array (Int × Value)} {ep : Nat} {t : SetTable} (S : SetRaw h a led es ep t) (k : ∀ o, h.get? a = some o → h'.get? a = some o) : SetRaw h' a led es ep t := ⟨k _ S.ob, S.fi, S.cl⟩
structure RawWalk (prog : Program) (w : World) (I : Addr) (fp : List Addr) (vs : List Value) (es : Array (Int × Value)) (St : Nat → Heap → Prop) : Prop where
  walk : ∀ A : Around, A.handled = none → Walks prog w A I fp [I] vs.length (fun i v => vs[i]? = some v) St
  perm : vs.Perm (es.toList.map (·.2))
  inn : I ∈ fp
section
variable {prog : Program} {w : World} {A : Around} {s : Shared} {E : Value → Shared → Prop}
theorem iter_raw {S : Addr} {es : Array (Int × Value)} {ep : Nat} {t : SetTable} {Q : Value → Shared → Prop} (S1 : SetRaw s.heap S (!w.params.followText "set-order") es ep t) (hb : es.size < scanBound)
    (q : ∀ (I : Addr) (fp : List Addr) (vs : List Value) (St : Nat → Heap → Prop) (h' : Heap) (d' : Drawn), RawWalk prog w I fp vs es St → St 0 h' → (∀ b ∈ fp, b < h'.objs.size) → (∀ b ∈ fp, b = S ∨ s.heap.objs.size ≤ b) → s.heap.objs.size ≤ I → vs.length = es.size →
      (∀ b o, s.heap.get? b = some o → h'.get? b = some o) → Shared.TypeIs { s with heap := h' } (.ref I) "set_iterator" → Q (.ref I) { s with heap := h', drawn := d' }) :
    wpAny (model prog w) A (pyIter (.ref S)) Q E s := by
  have hT : s.TypeIs (.ref S) "set" := ⟨_, S1.ob, rfl⟩
  have lt := Heap.lt_size S1.ob
  refine wpAny_pyIter_slot hT PySem.F.slot_set_iter (wpAny_call_entry PySem.F.slot_set_iter hT entry_set_iter ?_ (PySem.F.args_set_iter_1 _))
  unfold Builtin.«frozenset.__iter__» Builtin.Frozenset.slot0 Builtin.Frozenset.addrOf Builtin.Frozenset.sizeOf
  refine wpAny_bind (wpAny_bind (wpAny_pure (wpAny_pure (wpAny_bind (wpAny_bind (wpAny_setEntries_of S1.ob rfl S1.fi (wpAny_pure ?_)))))))
  unfold setDrawn setsByText
  refine wpAny_bind (wpAny_bind (wpAny_setState_of S1.ob rfl S1.fi ?_))
  refine wpAny_bind (wpAny_bind (wpAny_askSetting (wpAny_pure (wpAny_pure ?_))))
  show wpAny _ _ (if (!w.params.followText "set-order" && (!t.plain && decide (es.size > 1))) = true then _ else _) _ _ _
  have fin : ∀ (f : Value) (h0 : Heap) (d' : Drawn), (∀ b o, s.heap.get? b = some o → h0.get? b = some o) →
      (∀ (h' : Heap), (∀ b o, h0.get? b = some o → h'.get? b = some o) → h'.get? h0.objs.size = some (itObj f 0 S es.size ep) → h'.objs.size = h0.objs.size + 1 → Q (.ref h0.objs.size) { s with heap := h', drawn := d' }) →
      wpAny (model prog w) A.in1 (do ret (← newFields "set_iterator" [f, rawInt 0, .ref S, rawInt es.size, rawInt (← setEpoch S)])) (fun fin s' => ∃ v, fin = .done (.ret v) ∧ ∃ T' r, s'.TypeIs v T' ∧ typeLookup (.type T') "__next__" = pure (some r) ∧ Q v s') E { s with heap := h0, drawn := d' } := by
    intro f h0 d' k0 q0
    refine wpAny_bind (wpAny_setEpoch_of (k0 _ _ S1.ob) rfl S1.fi ?_)
    refine wpAny_bind (wpAny_newObj_type (wpAny_pure ⟨_, rfl, "set_iterator", _, ⟨_, Heap.get?_push_size _ rfl, rfl⟩, slot_seti_next.lookup, ?_⟩))
    exact q0 _ (fun b o e => Heap.get?_push_of_some _ e) (Heap.get?_push_size _ rfl) (Heap.size_push ..)
  by_cases hd : (!w.params.followText "set-order" && (!t.plain && decide (es.size > 1))) = true
  · rw [if_pos hd]
    refine wpAny_bind (draw_perm es.size (List.range es.size) (by simp) fun ys d p => ?_)
    have ly : ys.length = es.size := by rw [p.length_eq]; simp
    have my : ∀ y ∈ ys, y < es.size := fun y hy => by have := p.mem_iff.mp hy; simpa using this
    refine wpAny_bind (wpAny_newTuple ?_ (by rw [List.length_map, ly]; exact fits_of_scanBound (by omega)))
    refine fin (.ref s.heap.objs.size) (s.heap.push { cls := .type "tuple", data := .seq (ys.map fun (i : Nat) => rawInt i).toArray }) d (fun b o e => Heap.get?_push_of_some _ e) fun h' k hi zi => ?_
    have sz : (s.heap.push { cls := .type "tuple", data := .seq (ys.map fun (i : Nat) => rawInt i).toArray }).objs.size = s.heap.objs.size + 1 := Heap.size_push ..
    have hne : S ≠ (s.heap.push { cls := .type "tuple", data := .seq (ys.map fun (i : Nat) => rawInt i).toArray }).objs.size := by
      rw [sz]; exact Nat.ne_of_lt (Nat.lt_succ_of_lt lt)
    have hnt : s.heap.objs.size ≠ (s.heap.push { cls := .type "tuple", data := .seq (ys.map fun (i : Nat) => rawInt i).toArray }).objs.size := by
      rw [sz]; exact Nat.ne_of_lt (Nat.lt_succ_self _)
    have oT : h'.get? s.heap.objs.size = some { cls := .type "tuple", data := .seq (ys.map fun (i : Nat) => rawInt i).toArray } := k _ _ (Heap.get?_push_size _ rfl)
    have kk : ∀ b o, s.heap.get? b = some o → h'.get? b = some o := fun b o e => k _ _ (Heap.get?_push_of_some _ e)
    have fps : ∀ b ∈ [(s.heap.push { cls := .type "tuple", data := .seq (ys.map fun (i : Nat) => rawInt i).toArray }).objs.size, S, s.heap.objs.size], b < h'.objs.size := fun b hb => by
      rw [zi]
      simp only [List.mem_cons, List.not_mem_nil, or_false] at hb
      rcases hb with rfl | rfl | rfl
      · exact Nat.lt_succ_self _
      · rw [sz]; exact Nat.lt_succ_of_lt (Nat.lt_succ_of_lt lt)
      · rw [sz]; exact Nat.lt_succ_of_lt (Nat.lt_succ_self _)
    have pv : ((ys.map fun p => (es.getD p (0, .none))).Perm es.toList) := by
      refine (p.map _).trans ?_
      have : (List.range es.size).map (fun p => es.getD p (0, .none)) = es.toList := by
        apply List.ext_getElem
        · simp
        · intro i h1 h2
          simp at h1
          simp [Array.getD, h1]
      rw [this]
    have em : ys.map (fun p => (es.getD p (0, .none)).2) = (ys.map fun p => (es.getD p (0, .none))).map (·.2) := by rw [List.map_map]; rfl
    refine q _ [(s.heap.push { cls := .type "tuple", data := .seq (ys.map fun (i : Nat) => rawInt i).toArray }).objs.size, S, s.heap.objs.size] (ys.map fun p => (es.getD p (0, .none)).2) (fun i h => h.get? (s.heap.push { cls := .type "tuple", data := .seq (ys.map fun (i : Nat) => rawInt i).toArray }).objs.size = some (itObj (.ref s.heap.objs.size) i S es.size ep) ∧ h.get? S = some (setObj es ep t) ∧
      ∃ o n, h.get? s.heap.objs.size = some o ∧ o.data = .seq (List.toArray (ys.map fun (i : Nat) => rawInt i)) n) h' d
      ⟨fun A' hh => by
        have := walkD (prog := prog) (w := w) (ep := ep) hh _ S s.heap.objs.size hne hnt S1.fi ly my
        rw [List.length_map]
        exact this, by rw [em]; exact pv.map _, by simp⟩ ⟨hi, kk _ _ S1.ob, _, 0, oT, rfl⟩ fps (fun b hb => by
        simp only [List.mem_cons, List.not_mem_nil, or_false] at hb
        rcases hb with z | z | z
        · rw [z, sz]; exact .inr (Nat.le_succ _)
        · exact .inl z
        · rw [z]; exact .inr (Nat.le_refl _)) (by rw [sz]; exact Nat.le_succ _) (by rw [List.length_map, ly]) kk ⟨_, hi, rfl⟩
  · rw [if_neg hd]
    refine wpAny_bind (wpAny_pure ?_)
    refine fin _ s.heap s.drawn (fun _ _ e => e) fun h' k hi zi => ?_
    have hne : S ≠ s.heap.objs.size := Nat.ne_of_lt lt
    have fps : ∀ b ∈ [s.heap.objs.size, S], b < h'.objs.size := fun b hb => by
      rw [zi]
      simp only [List.mem_cons, List.not_mem_nil, or_false] at hb
      rcases hb with rfl | rfl
      · exact Nat.lt_succ_self _
      · exact Nat.lt_succ_of_lt lt
    have fpo : ∀ b ∈ [s.heap.objs.size, S], b = S ∨ s.heap.objs.size ≤ b := fun b hb => by
      simp only [List.mem_cons, List.not_mem_nil, or_false] at hb
      rcases hb with z | z
      · rw [z]; exact .inr (Nat.le_refl _)
      · exact .inl z
    cases ht : w.params.followText "set-order" with
    | true =>
      have pp := pick_perm (w.params.setOrder S ep) es
      refine q _ [s.heap.objs.size, S] ((pickOrder (w.params.setOrder S ep) es).toList.map (·.2)) (fun i h => h.get? s.heap.objs.size = some (itObj (.int ((0 : Nat) : Int) 0) i S es.size ep) ∧ h.get? S = some (setObj es ep t)) h' s.drawn
        ⟨fun A' hh => walkI hh _ S hne S1.fi (by rw [List.length_map, pp.length_eq, Array.length_toList]) (next_text S1.fi ht), pp.map _, by simp⟩ ⟨hi, k _ _ S1.ob⟩ fps fpo (Nat.le_refl _) (by rw [List.length_map, pp.length_eq, Array.length_toList]) k ⟨_, hi, rfl⟩
    | false =>
      have cl := S1.cl
      rw [ht] at cl hd
      have hd' : (!t.plain && decide (es.size > 1)) = false := by
        cases hc : (!t.plain && decide (es.size > 1)) with
        | false => rfl
        | true => exact absurd (by rw [hc]; rfl) hd
      refine q _ [s.heap.objs.size, S] (es.toList.map (·.2)) (fun i h => h.get? s.heap.objs.size = some (itObj (.int ((slotOf t i : Nat) : Int) 0) i S es.size ep) ∧ h.get? S = some (setObj es ep t)) h' s.drawn
        ⟨fun A' hh => walkI hh _ S hne S1.fi (by rw [List.length_map, Array.length_toList]) (next_place S1.fi cl ht hd'), .refl _, by simp⟩ ⟨hi, k _ _ S1.ob⟩ fps fpo (Nat.le_refl _) (by rw [List.length_map, Array.length_toList]) k ⟨_, hi, rfl⟩
theorem collect_raw {S : Addr} {es : Array (Int × Value)} {ep : Nat} {t : SetTable} {Q : List Value → Shared → Prop} (hh : A.handled = none) (S1 : SetRaw s.heap S (!w.params.followText "set-order") es ep t) (hb : es.size < scanBound)
    (q : ∀ (vs : List Value) (s' : Shared), vs.Perm (es.toList.map (·.2)) → (∀ b o, s.heap.get? b = some o → s'.heap.get? b = some o) → s'.gens = s.gens → s'.os = s.os → s.heap.objs.size ≤ s'.heap.objs.size → Q vs s') :
    wpAny (model prog w) A (collect (.ref S)) Q E s := by
  have hT : s.TypeIs (.ref S) "set" := ⟨_, S1.ob, rfl⟩
  have lt : S < s.heap.objs.size := Heap.lt_size S1.ob
  unfold collect
  refine wpAny_bind (wpAny_runValue (codeAny_builtin F.entry_proto_collect ?_))
  rw [Around.under_plainId F.plain_proto_collect _]
  show wpAny _ A.in1 (newList [] >>= fun l => again (.builtin "list.__iadd__" ⟨[l, .ref S], []⟩)) _ _ s
  refine wpAny_bind (wpAny_newObj_type (wpAny_pure ⟨plainId_quiet F.plain_list_iadd _, codeAny_builtin F.entry_list_iadd ?_⟩))
  rw [Around.under_plainId F.plain_list_iadd _]
  generalize eg : s.heap.push { cls := .type "list", data := .seq ([] : List Value).toArray } = g
  have kg : ∀ b o, s.heap.get? b = some o → g.get? b = some o := fun b o e => by rw [← eg]; exact Heap.get?_push_of_some _ e
  have og : g.get? s.heap.objs.size = some { cls := .type "list", data := .seq ([] : List Value).toArray } := by rw [← eg]; exact Heap.get?_push_size _ rfl
  have zg : g.objs.size = s.heap.objs.size + 1 := by rw [← eg]; exact Heap.size_push ..
  have hTg : Shared.TypeIs { s with heap := g } (.ref S) "set" := by
    obtain ⟨o, e1, e2⟩ := hT
    exact ⟨o, kg _ _ e1, e2⟩
  show wpAny _ A.in1 (Builtin.List.listExtendWith (.ref s.heap.objs.size) (.ref S) (.ref s.heap.objs.size)) _ _ { s with heap := g }
  unfold Builtin.List.listExtendWith
  refine wpAny_bind (wpAny_typeOf hTg ?_)
  have hne : s.heap.objs.size ≠ S := (Nat.ne_of_lt lt).symm
  have c1 : Builtin.List.listSameRef (.ref s.heap.objs.size) (.ref S) = false := by simp [Builtin.List.listSameRef, hne]
  have c2 : (Value.type "set" == Value.type "list") = false := by decide
  have c3 : (Value.type "set" == Value.type "tuple") = false := by decide
  simp only [c1, c2, c3, Bool.or_false, Bool.false_eq_true, if_false]
  refine wpAny_bind (iter_raw (s := { s with heap := g }) (S1.keeps fun o e => kg _ _ e) hb fun I fp vs St h' d' W st0 fps hI hI2 lv kp hTi => ?_)
  refine wpAny_bind (wpAny_holding (hint_set (s := { s with heap := h', drawn := d' }) ?_ ?_))
  · obtain ⟨o, e1, e2⟩ := hTg
    exact ⟨o, kp _ _ e1, e2⟩
  have fpl : s.heap.objs.size ∉ fp := fun hm => by
    rcases hI _ hm with z | z
    · exact hne z
    · rw [show ({ s with heap := g } : Shared).heap.objs.size = g.objs.size from rfl, zg] at z
      exact Nat.lt_irrefl _ z
  have pl := W.perm
  have fits : vs.length ≤ sizeLine := by rw [lv]; exact fits_of_scanBound hb
  have hh1 : A.in1.handled = none := by simpa using hh
  have W1 := (W.walk A.in1 hh1).toS
  have go : ∀ (h0 : Heap) (c : Nat), (∀ b o, b ≠ s.heap.objs.size → h'.get? b = some o → h0.get? b = some o) → h0.get? s.heap.objs.size = some { cls := .type "list", dict := none, data := .seq #[] c, slots := #[] } →
      codeAny (model prog w) A (.builtin "list.extend.loop" ⟨[.ref s.heap.objs.size, .ref I, .ref s.heap.objs.size], []⟩) (fun r s' => match r with
        | .ok (.ret v) => wpAny (model prog w) A (match v with
          | .ref a => do
            match (← load a).data with
            | .seq xs _ => pure xs.toList
            | _ => unsupported "internal:collect"
          | _ => unsupported "internal:collect") Q E s'
        | .ok _ => False
        | .error e => E e s') { s with heap := h0, drawn := d' } := by
    intro h0 c k0 o0
    refine codeAny_extend_loopS W1 fits _ fpl _ vs.length 0 _ _ _ rfl (Nat.zero_le _) ?_ o0 (ItemsOf.nil _) fun s' acc c' hm hs hacc => ?_
    · exact (W.walk A.in1 hh1).frame 0 h' h0 st0 fun b hb o e => k0 b o (fun z => fpl (z ▸ hb)) e
    dsimp only
    refine wpAny_bind (wpAny_load hs ?_)
    have e := items_all hacc
    refine wpAny_pure ?_
    rw [e]
    refine q vs s' pl (fun b o e => ?_) hm.gens hm.os (Nat.le_of_lt (Heap.lt_size hs))
    refine hm.heap b o ?_ (k0 b o (fun z => ?_) (kp _ _ (kg _ _ e)))
    · simp only [List.mem_cons, List.not_mem_nil, or_false, not_or]
      have hb' := Heap.lt_size e
      refine ⟨Nat.ne_of_lt hb', ?_⟩
      have : s.heap.objs.size + 1 ≤ I := by rw [← zg]; exact hI2
      exact Nat.ne_of_lt (Nat.lt_of_lt_of_le (Nat.lt_succ_of_lt hb') this)
    · rw [z] at e; exact Nat.lt_irrefl _ (Heap.lt_size e)
  have ol : h'.get? s.heap.objs.size = some { cls := .type "list", data := .seq ([] : List Value).toArray } := kp _ _ og
  split
  · refine wpAny_bind (wpAny_rule (wpAny_bind ?_))
    show wpAny _ A.in1 (updateSeq s.heap.objs.size (·.push .none) >>= fun _ => updateSeq s.heap.objs.size (·.pop)) _ _ _
    have o2 := Heap.get?_update_self (Obj.mapSeq (·.push Value.none)) ol rfl
    have o3 := Heap.get?_update_self (Obj.mapSeq (·.pop)) o2 rfl
    refine wpAny_bind (wpAny_updateSeq ol rfl (wpAny_updateSeq o2 rfl (wpAny_pure ⟨plainId_quiet F.plain_extend_loop _, go _ _ (fun b o nb e => ?_) o3⟩)))
    exact (Heap.get?_update_other _ _ (Ne.symm nb)).trans ((Heap.get?_update_other _ _ (Ne.symm nb)).trans e)
  · exact wpAny_pure ⟨plainId_quiet F.plain_extend_loop _, go h' _ (fun _ _ _ e => e) ol⟩
end
section
variable {prog : Program} {w : World} {A : Around} {s : Shared} {E : Value → Shared → Prop}
theorem isT_tup {h : Heap} {p : Int × Int} {b : Addr} (x : IsT prog w h p b) : TupAt h (.ref b) p := by
  obtain ⟨o, t, u, n, ho, hc, hd⟩ := x.ints
  exact ⟨b, t, u, rfl, o, ho, hc, n, hd⟩
theorem sorted_setP {h0 : Heap} {F : Int × Int → Addr → Prop} {S : Addr} {ps : List (Int × Int)} {Q : Value → Shared → Prop} (hh : A.handled = none) (k0 : ∀ b o, h0.get? b = some o → s.heap.get? b = some o) (hF : ∀ {p : Int × Int} {b : Addr}, F p b → IsT prog w h0 p b) (hS : SetP F s.heap S (!w.params.followText "set-order") ps) (hb : ps.length ≤ 49)
    (q : ∀ (l : Addr) (qs : List ((Int × Int) × Addr)) (s' : Shared) (e : Nat), (qs.map (·.1)).Perm ps → (qs.map (·.1)).Pairwise (fun a b => 1000 * a.1 + a.2 ≤ 1000 * b.1 + b.2) → (∀ x ∈ qs, F x.1 x.2) → s.heap.objs.size ≤ l → s'.heap.get? l = some (seqObj "list" (List.toArray (qs.map fun x => Value.ref x.2)) e) →
      (∀ b o, s.heap.get? b = some o → s'.heap.get? b = some o) → s'.gens = s.gens → s'.os = s.os → Q (.ref l) s') :
    wpAny (model prog w) A (call (.builtin "sorted") [.ref S]) Q E s := by
  obtain ⟨qs, es, ep, t, S1, pm⟩ := hS
  have zs : es.size = qs.length := by rw [← Array.length_toList, S1.el, List.length_map]
  have zq : qs.length = ps.length := by rw [← pm.length_eq, List.length_map]
  have b1 : es.size < scanBound := Nat.lt_of_le_of_lt (by omega : es.size ≤ 49) (by decide)
  refine Calls.call_function_entry kind_sorted plain_sorted entry_sorted (args_sorted1 _) ?_
  unfold Builtin.«sorted»
  refine wpAny_bind (m := checkCount "sorted" 1 1 _) (wpAny_pure (wpAny_bind (collect_raw (by simpa using hh) ⟨S1.ob, S1.tab.fits, S1.tab.cl⟩ b1 fun vs s' pl k hg ho ge => ?_)))
  obtain ⟨L, eL, pL⟩ : ∃ L : List ((Int × Int) × Addr), vs = L.map (fun x => Value.ref x.2) ∧ L.Perm qs := perm_pick (fun x : (Int × Int) × Addr => Value.ref x.2) (by rw [S1.el, List.map_map] at pl; exact pl)
  have lL : L.length = qs.length := pL.length_eq
  have lv : vs.length < 64 := by rw [eL, List.length_map]; omega
  have fits : vs.length ≤ sizeLine := by rw [sizeLine_eq]; omega
  have isT : ∀ x ∈ L, IsT prog w s'.heap x.1 x.2 := fun x hx => (hF (S1.ok x (pL.mem_iff.mp hx)).2).keeps fun o e => k _ _ (k0 _ _ e)
  have bnd : ∀ p ∈ L.map (·.1), 0 ≤ p.2 ∧ p.2 < 1000 := fun p hp => by
    obtain ⟨x, hx, rfl⟩ := List.mem_map.mp hp
    have := (S1.ok x (pL.mem_iff.mp hx)).1
    omega
  have tups : ∀ h' : Heap, (∀ b o, s'.heap.get? b = some o → h'.get? b = some o) → Paired (TupAt h') vs (L.map (·.1)) := fun h' kk => by
    rw [eL]
    have : ∀ M : List ((Int × Int) × Addr), (∀ x ∈ M, x ∈ L) → Paired (TupAt h') (M.map fun x => Value.ref x.2) (M.map (·.1)) := by
      intro M
      induction M with
      | nil => exact fun _ => .nil
      | cons x M ih => exact fun hM => .cons (isT_tup ((isT x (hM x List.mem_cons_self)).keeps fun o e => kk _ _ e)) (ih fun y hy => hM y (List.mem_cons_of_mem _ hy))
    exact this L fun _ h => h
  refine wpAny_bind (wpAny_newList ?_ fits)
  show wpAny _ _ _ _ _ { s' with heap := s'.heap.push (seqObj "list" vs.toArray 0) }
  have od : (s'.heap.push (seqObj "list" vs.toArray 0)).get? s'.heap.objs.size = some (seqObj "list" vs.toArray 0) := Heap.get?_push_size _ rfl
  have kd : ∀ b o, s.heap.get? b = some o → b ≠ s'.heap.objs.size ∧ (s'.heap.push (seqObj "list" vs.toArray 0)).get? b = some o := fun b o e => ⟨Nat.ne_of_lt (Heap.lt_size (k b o e)), Heap.get?_push_of_some _ (k b o e)⟩
  have kd' : ∀ b o, s'.heap.get? b = some o → b ≠ s'.heap.objs.size ∧ (s'.heap.push (seqObj "list" vs.toArray 0)).get? b = some o := fun b o e => ⟨Nat.ne_of_lt (Heap.lt_size e), Heap.get?_push_of_some _ e⟩
  refine wpAny_bind (wpAny_holding (wpAny_call_entry slot_list_sort ⟨_, od, rfl⟩ entry_list_sort (lsort_by (s := { s' with heap := s'.heap.push (seqObj "list" vs.toArray 0) }) (key := pky (L.map (·.1))) od lv (fun h2 h' k' => ?_) fun pr b1 b2 => ⟨_, rfl, ?_⟩) (args_list_sort _)))
  · have tp := tups h' fun b o e => k' b o (kd' b o e).1 (kd' b o e).2
    obtain ⟨fs, f1, f2, f3⟩ := tups_kat tp
    refine ⟨tuples' true, fun R hR => kat_kind (s := { s' with heap := h' }) (T := .type "int") f1 (by omega) (fun v hv => ?_) rfl hR, tups_ask (κ := tuples' true) (s := { s' with heap := h' }) tp bnd⟩
    obtain ⟨i, t, rfl⟩ := f3 v hv
    exact .now
  · obtain ⟨e, he⟩ := sortHeap_at od (byPl vs pr)
    have d0 : (Int × Int) × Addr := ((0, 0), 0)
    have mem : ∀ i ∈ pr.toList, i < L.length := fun i hi => by
      have := (Array.perm_iff_toList_perm.mp b1).mem_iff (a := i)
      have := this.mp hi
      simp at this
      rw [eL, List.length_map] at this
      omega
    have eo : byPl vs pr = List.toArray ((pr.toList.map fun i => L.getD i d0).map fun x => Value.ref x.2) := by
      unfold byPl
      rw [List.map_map]
      congr 1
      refine List.map_congr_left fun i hi => ?_
      have := mem i hi
      rw [eL]
      simp [List.getD_eq_getElem?_getD, this]
    have pe : (pr.toList.map fun i => L.getD i d0).Perm L := by
      have := (Array.perm_iff_toList_perm.mp b1).map (fun i => L.getD i d0)
      rw [show vs.length = L.length by rw [eL, List.length_map]] at this
      rw [show (List.toArray (List.range L.length)).toList = List.range L.length by simp, pmap_range] at this
      exact this
    rw [eo] at he
    refine wpAny_pure ⟨_, rfl, q _ (pr.toList.map fun i => L.getD i d0) _ e ((pe.map _).trans ((pL.map _).trans pm)) ?_ (fun x hx => (S1.ok x (pL.mem_iff.mp (pe.mem_iff.mp hx))).2) ge ?_ (fun b o x => sortHeap_old (kd b o x).1 (kd b o x).2) hg ho⟩
    · rw [List.map_map, List.pairwise_iff_getElem]
      intro i j hi hj hij
      rw [List.length_map, Array.length_toList] at hi hj
      have sz : pr.size = vs.length := by rw [b1.size_eq]; simp
      have := b2 i j (by omega) (by omega)
      unfold ky pky at this
      have e1 : pr.getD i 0 = pr.toList[i] := by simp [Array.getD, hi]
      have e2 : pr.getD j 0 = pr.toList[j] := by simp [Array.getD, hj]
      rw [e1, e2] at this
      have m1 := mem _ (List.getElem_mem (show i < pr.toList.length by rw [Array.length_toList]; exact hi))
      have m2 := mem _ (List.getElem_mem (show j < pr.toList.length by rw [Array.length_toList]; exact hj))
      simp only [List.getElem_map, Function.comp]
      simp only [List.getD_eq_getElem?_getD, List.getElem?_map, List.getElem?_eq_getElem m1, List.getElem?_eq_getElem m2, Option.map_some, Option.getD_some] at this ⊢
      exact this
    · rw [eo]; exact he
end
section
variable {prog : Program} {w : World} {A : Around} {R : Result → Shared → Prop} {I : Addr} {fp wr : List Addr} {G : Array GenState → Array GenState → Prop} {n : Nat} {P : Nat → Value → Prop} {St : Nat → Shared → Prop}
structure Dd (L : List (Int × Int)) (i : Nat) (ps : List (Int × Int)) : Prop where
  nd : ps.Nodup
  mem : ∀ x, x ∈ ps ↔ x ∈ L.take i
theorem pset_loop {F : Int × Int → Addr → Prop} {led : Bool} (hu : A.units + 8 < cLine) (W : WalksS prog w A.in1 I fp wr G n P St) (S : Addr) (hf : S ∉ fp) (L : List (Int × Int)) (hn : L.length = n) (h7 : ∀ p ∈ L, P7 p) (hz : ∀ ps : List (Int × Int), ps.Nodup → (∀ x ∈ ps, x ∈ L) → ps.length ≤ 49) (h0 : Heap) (hwr : ∀ b ∈ wr, h0.get? b = none) (hS0 : h0.get? S = none) (hF : ∀ {p : Int × Int} {b : Addr}, F p b → IsT prog w h0 p b) (hv : ∀ i v, P i v → ∃ b p, v = .ref b ∧ L[i]? = some p ∧ F p b) : ∀ (k i : Nat) (s : Shared) (ps : List (Int × Int)), n - i = k → i ≤ n → St i s → (∀ b o, h0.get? b = some o → s.heap.get? b = some o) → SetP F s.heap S led ps → Dd L i ps →
    (∀ s' ps', Moved (S :: wr) G s s' → SetP F s'.heap S led ps' → Dd L n ps' → R (.ok (.ret .none)) s') → codeAny (model prog w) A (.builtin "set.update.loop" ⟨[.ref S, .ref I], []⟩) R s := by
  have hw : S ∉ wr := fun h => hf (W.sub _ h)
  have sb : ∀ b ∈ wr, b ∈ S :: wr := fun b hb => List.mem_cons_of_mem _ hb
  intro k
  induction k with
  | zero =>
    intro i s ps hk hi st k0 hS dd q
    have e : i = n := by omega
    subst e
    refine codeAny_builtin PyProof.Rows.F.entry_set_update_loop ?_
    rw [Around.under_plainId PyProof.Rows.F.plain_set_update_loop _]
    show wpAny _ A.in1 (pyNext (.ref I) >>= _) _ _ s
    exact wpAny_bind (W.done s _ _ st fun s' hm => wpAny_pure (q s' ps (hm.mono sb) (hS.keeps fun o x => hm.heap S _ hw x) dd))
  | succ k ih =>
    intro i s ps hk hi st k0 hS dd q
    have lt : i < n := by omega
    refine codeAny_builtin PyProof.Rows.F.entry_set_update_loop ?_
    rw [Around.under_plainId PyProof.Rows.F.plain_set_update_loop _]
    show wpAny _ A.in1 (pyNext (.ref I) >>= _) _ _ s
    refine wpAny_bind (W.item i s _ _ lt st fun v s' hP st' hm => ?_)
    obtain ⟨b, x, rfl, hx, hT⟩ := hv i v hP
    have k1 : ∀ b o, h0.get? b = some o → s'.heap.get? b = some o := fun b o e => hm.heap b o (fun z => by rw [hwr b z] at e; cases e) (k0 b o e)
    have mx : x ∈ L := List.mem_of_getElem? hx
    have et : L.take (i + 1) = L.take i ++ [x] := by rw [List.take_succ, hx]; rfl
    show wpAny _ A.in1 (holding [Value.ref b] (setAdd S (.ref b)) >>= _) _ _ s'
    refine wpAny_bind (wpAny_holding ?_)
    unfold setAdd
    refine wpAny_holding (wpAny_bind (wpAny_pyHash_tuple (knd := L2.mixKind prog w) (ks := [.inl x.1, .inl x.2]) ?_ ((hF hT).keeps fun o e => k1 _ _ e) ?_))
    · show A.in1.units < cLine
      rw [Around.in1_units]
      omega
    show wpAny _ A.in1 (setAddHashed S (.ref b) (phash x)) _ _ { s' with toks := s'.toks + 3 }
    have lp : ps.length ≤ 49 := hz ps dd.nd fun y hy => List.mem_of_mem_take ((dd.mem y).mp hy)
    refine pset_add (s := { s' with toks := s'.toks + 3 }) (h0 := h0) (ps := ps) ?_ k1 (hS.keeps fun o z => hm.heap S _ hw z) hF hT (h7 x mx) lp (fun hin => ?_) (fun hin h' sm S2 => ?_)
    · show A.in1.units + 4 < cLine
      rw [Around.in1_units]
      omega
    · refine wpAny_pure ⟨plainId_quiet PyProof.Rows.F.plain_set_update_loop _, ih (i + 1) _ ps (by omega) lt (W.frame _ s' _ _ st' (Nat.le_add_right _ _) fun b hb o e => e) k1 (hS.keeps fun o z => hm.heap S _ hw z) ⟨dd.nd, fun y => ?_⟩ fun s'' ps' hm2 S3 d3 => q s'' ps' ?_ S3 d3⟩
      · rw [dd.mem, et, List.mem_append, List.mem_singleton]
        constructor
        · exact .inl
        · rintro (z | z)
          · exact z
          · rw [z]; exact (dd.mem x).mp hin
      · exact Moved.trans W.gtrans ((hm.mono sb).then_heap (Nat.le_add_right _ _) fun b o hb e => e) hm2
    · refine wpAny_pure ⟨plainId_quiet PyProof.Rows.F.plain_set_update_loop _, ih (i + 1) _ (x :: ps) (by omega) lt (W.frame _ s' _ _ st' (Nat.le_add_right _ _) fun b hb o e => ?_) (fun b o e => ?_) S2 ⟨List.nodup_cons.mpr ⟨hin, dd.nd⟩, fun y => ?_⟩ fun s'' ps' hm2 S3 d3 => q s'' ps' ?_ S3 d3⟩
      · rw [sm.2 b (fun h : b = S => hf (by rw [← h]; exact hb))]; exact e
      · have nb : b ≠ S := fun z => by rw [z, hS0] at e; cases e
        rw [sm.2 b nb]; exact k1 b o e
      · rw [List.mem_cons, dd.mem, et, List.mem_append, List.mem_singleton]
        exact Or.comm
      · refine Moved.trans W.gtrans ((hm.mono sb).then_heap (Nat.le_add_right _ _) fun b o hb e => ?_) hm2
        rw [sm.2 b (fun h : b = S => hb (by rw [h]; exact List.mem_cons_self))]; exact e
end
section
variable {prog : Program} {w : World} {A : Around} {E : Value → Shared → Prop} {s : Shared}
theorem paired_getL {α β : Type} {F : α → β → Prop} : ∀ {l : List α} {m : List β} {i : Nat} {x : α}, Paired F l m → l[i]? = some x → ∃ y, m[i]? = some y ∧ F x y
  | _, _, _, _, .nil, h => by simp at h
  | _, _, 0, _, .cons a _, h => by simp at h; subst h; exact ⟨_, rfl, a⟩
  | _, _, i + 1, x, .cons _ t, h => by
    obtain ⟨y, h1, h2⟩ := paired_getL (i := i) (x := x) t (by simpa using h)
    exact ⟨y, by simpa using h1, h2⟩
theorem call_setP {F : Int × Int → Addr → Prop} {l : Addr} {vs : List Value} {L : List (Int × Int)} {Q : Value → Shared → Prop} (hu : A.units + 16 < cLine) (hh : A.handled = none) (hl : s.heap.IsList l vs.toArray) (hF : ∀ {p : Int × Int} {b : Addr}, F p b → IsT prog w s.heap p b) (hi : Paired (fun v p => ∃ b, v = Value.ref b ∧ F p b) vs L) (h7 : ∀ p ∈ L, P7 p) (hz : ∀ ps : List (Int × Int), ps.Nodup → (∀ x ∈ ps, x ∈ L) → ps.length ≤ 49)
    (q : ∀ (h' : Heap) (tk : Nat) (ps : List (Int × Int)), SetP F h' s.heap.objs.size (ledOf w) ps → Dd L L.length ps → (∀ b o, s.heap.get? b = some o → h'.get? b = some o) → Q (.ref s.heap.objs.size) { s with heap := h', toks := tk }) :
    wpAny (model prog w) A (call (.type "set") [.ref l]) Q E s := by
  have lv := hi.length
  obtain ⟨c, tl, mro⟩ := PySem.F.called_set.mro
  have made := PySem.F.called_set.made
  have sub := PySem.F.called_set.sub
  refine wpAny_call (codeAny_of_tree (show wpAny _ _ (callAny (.type "set") _) _ _ _ from ?_))
  refine wpAny_pure ⟨Code.quiet_builtin _ (by decide +kernel), codeAny_builtin PySem.F.entry_type_call ?_⟩
  rw [Around.under_plain (weight_type_call_type "set" [Value.ref l] []) rfl]
  have n1 := PySem.F.called_set.notType
  have n2 := PySem.F.called_set.canCreate
  have ct := PySem.F.typeCall_set_1 (.ref l)
  repeat (any_goals (first | assumption | wp_step))
  refine codeAny_mono (new_set (.ref l) (E := E) (Q := fun obj s₁ => obj = .ref s.heap.objs.size ∧ s₁ = { s with heap := s.heap.push (setObj #[] 0 (.fresh 0 0 (ledOf w))) }) ⟨rfl, rfl⟩) fun r s₁ hr => ?_
  rcases r with e | fl
  · exact hr
  cases fl with
  | ret obj =>
    obtain ⟨rfl, rfl⟩ := hr
    generalize eg : s.heap.push (setObj #[] 0 (.fresh 0 0 (ledOf w))) = g
    have oS : g.get? s.heap.objs.size = some (setObj #[] 0 (.fresh 0 0 (ledOf w))) := by rw [← eg]; exact Heap.get?_push_size _ rfl
    have kg : ∀ b o, s.heap.get? b = some o → g.get? b = some o := fun b o e => by rw [← eg]; exact Heap.get?_push_of_some _ e
    have zg : g.objs.size = s.heap.objs.size + 1 := by rw [← eg]; exact Heap.size_push ..
    have hT : Shared.TypeIs { s with heap := g } (.ref s.heap.objs.size) "set" := ⟨_, oS, rfl⟩
    have li := PySem.F.called_set.init.lookup
    have bi := PySem.F.called_set.init.bind (.ref s.heap.objs.size)
    repeat (any_goals (first | assumption | wp_step))
    refine codeAny_mono (codeAny_call_builtin (R := wants (fun r s₂ => r = .none ∧ ∃ h' tk psx, s₂ = { s with heap := h', toks := tk } ∧ SetP F h' s.heap.objs.size (ledOf w) psx ∧ Dd L L.length psx ∧ (∀ b o, s.heap.get? b = some o → h'.get? b = some o)) E) PySem.F.called_set.init.plain PySem.F.entry_set_init (check_set_init_1 hT ?_)) fun r₂ s₂ hr₂ => ?_
    · have ll : g.IsList l vs.toArray := hl.at fun o e => kg _ _ e
      obtain ⟨ol, hol, hcl, nl, hdl⟩ := id ll
      obtain ⟨ocls, odict, odata, oslots⟩ := ol
      simp only at hcl hdl
      subst hcl; subst hdl
      have y1 := PySem.F.sub_list_set
      have y2 := PySem.F.sub_list_frozenset
      have y3 : (Value.type "list" == Value.type "dict") = false := by decide
      unfold Builtin.«set.__init__» noKeywords Builtin.Frozenset.updateFrom
      generalize hPI : pyIter = PI
      wp_walk
      subst hPI
      refine wpAny_pyIter_list ll (wpAny_bind (wpAny_runValue ?_))
      have lS : l < s.heap.objs.size := by
        obtain ⟨o, e, _⟩ := hl
        exact Heap.lt_size e
      have h3 : A.in1.in1.in1.handled = none := by simpa using hh
      have nI : l ≠ g.objs.size := by rw [zg]; exact Nat.ne_of_lt (Nat.lt_succ_of_lt lS)
      have nf : s.heap.objs.size ∉ [g.objs.size, l] := by
        rw [zg]; simp only [List.mem_cons, List.not_mem_nil, or_false, not_or]
        exact ⟨Nat.ne_of_lt (Nat.lt_succ_self _), Nat.ne_of_gt lS⟩
      have hfr : ∀ b, s.heap.objs.size ≤ b → s.heap.get? b = none := fun b hb => by
        cases e : s.heap.get? b with
        | none => rfl
        | some o => exact absurd (Heap.lt_size e) (Nat.not_lt.mpr hb)
      have u3 : A.in1.in1.units + 8 < cLine := by rw [Around.in1_units, Around.in1_units]; omega
      refine pset_loop (led := ledOf w) u3 (Walks.list h3 _ l nI vs.toArray).toS s.heap.objs.size nf L (by simpa using lv.symm) h7 hz s.heap (fun b hb => ?_) (hfr _ (Nat.le_refl _)) hF (fun i v hv => ?_) _ 0 _ [] rfl (Nat.zero_le _) ⟨⟨_, Heap.get?_push_size _ rfl, rfl, rfl⟩, ll.push _⟩ (fun b o e => Heap.get?_push_of_some _ (kg _ _ e)) ?_ ⟨.nil, fun x => by simp⟩ fun s' ps' hm S3 d3 => ?_
      · rw [List.mem_singleton] at hb
        rw [hb]
        exact hfr _ (by rw [zg]; exact Nat.le_succ _)
      · have hv' : vs[i]? = some v := by simpa using hv
        obtain ⟨x, hx, b, e, hT⟩ := paired_getL hi hv'
        exact ⟨b, x, e, hx, hT⟩
      · exact ⟨[], #[], 0, _, ⟨Heap.get?_push_of_some _ oS, ⟨Clean.fresh _, rfl, .inl rfl, fun j hj => by simp [SetTable.fresh] at hj, by show 0 * 5 < 7 * 3; decide, fun i j e h => by simp [SetTable.fresh] at h⟩, rfl, fun q hq => by simp at hq, .nil⟩, .nil⟩
      · obtain ⟨h', g', d', tk', os'⟩ := s'
        have x1 : g' = s.gens := hm.gens
        have x2 : d' = s.drawn := hm.drawn
        have x3 : os' = s.os := hm.os
        subst x1; subst x2; subst x3
        rw [show vs.toArray.size = L.length by simpa using lv] at d3
        refine wpAny_pure (wpAny_pure ⟨rfl, h', tk', ps', rfl, S3, d3, fun b o e => hm.heap b o ?_ (Heap.get?_push_of_some _ (kg _ _ e))⟩)
        have hb := Heap.lt_size e
        simp only [List.mem_cons, List.not_mem_nil, or_false, not_or]
        exact ⟨Nat.ne_of_lt hb, by rw [zg]; exact Nat.ne_of_lt (Nat.lt_succ_of_lt hb)⟩
    · rcases r₂ with e | fl₂
      · exact hr₂
      cases fl₂ with
      | ret r =>
        obtain ⟨rfl, h', tk, psx, rfl, S3, d3, k3⟩ := hr₂
        repeat (any_goals (first | assumption | wp_step))
        exact q _ _ _ S3 d3 k3
      | _ => exact hr₂.elim
  | _ => exact hr.elim
end
end L2
namespace L2
open PySem PySem.Spec PySem.W PyProof.Rows
section
variable {X : Cx}
theorem prsAt_refs {H : Hp} : ∀ {qs : List ((Int × Int) × Addr)}, (∀ x ∈ qs, H x.2 = some (.tup [.int x.1.1, .int x.1.2])) → PrsAt H (qs.map fun x => V.ref x.2) (qs.map (·.1))
  | [], _ => .nil
  | x :: r, h => .cons ⟨x.2, rfl, h x List.mem_cons_self⟩ (prsAt_refs fun y hy => h y (List.mem_cons_of_mem _ hy))
theorem vals_refs : ∀ qs : List ((Int × Int) × Addr), Vals (qs.map fun x => V.ref x.2) (qs.map fun x => Value.ref x.2)
  | [] => .nil
  | _ :: r => .cons rfl (vals_refs r)
def tSortSetP (K : PySem.W.Frag) (ta : TA) : TE := fun σ H Q => ta σ H fun vs H1 => ∃ (p : Addr) (us : List V) (L : List (Int × Int)), vs = [.ref p] ∧ SqL K H1 p us ∧ PrsAt H1 us L ∧ (∀ p ∈ L, P7 p) ∧ (∀ ps : List (Int × Int), ps.Nodup → (∀ x ∈ ps, x ∈ L) → ps.length ≤ 49) ∧
  ∀ (l : Addr) (us' : List V) (ps' : List (Int × Int)), H1 l = none → PrsAt H1 us' ps' → ps'.Nodup → (∀ x, x ∈ ps' ↔ x ∈ L) → ps'.Pairwise (fun a b => 1000 * a.1 + a.2 ≤ 1000 * b.1 + b.2) → Q (.ref l) (upd H1 l (.lst us'))
theorem pe_sortedSetP (K : PySem.W.Frag) (hK : X.K = K) {a : Expr} {ta : TA} {p p' pos pos' : Pos} (hu : X.A.units + 16 < cLine) (h1 : X.mg "sorted" = none) (h2 : X.mg "set" = none) (ha : PA X [a] ta) (hc : X.calm = true := by rfl) (hg : Gl X "sorted" := by rfl) (hg' : Gl X "set" := by rfl)
    (hs : starEach [a] X.env = [(false, eval a X.env)] := by rfl) (hs2 : starEach [.Call (.Name "set" p') [a] [] pos'] X.env = [(false, eval (.Call (.Name "set" p') [a] [] pos') X.env)] := by rfl) :
    PE X (.Call (.Name "sorted" p) [.Call (.Name "set" p') [a] [] pos'] [] pos) (tSortSetP K ta) := by
  subst hK
  intro pins s σ H Q I h
  refine wpAny_Call_Name_kw (ld_blt I hg h1 boot_sorted ?_)
  refine PyProof.Rows.callWith_builtin1 ?_ (by rw [hs2]; rfl) (by rfl)
  rw [hs2]
  show wpAny _ _ (spliced ((false, eval (.Call (.Name "set" p') [a] [] pos') X.env) :: [])) _ _ s
  refine Calls.spliced_cons (Call_ (ld_blt I hg' h2 boot_set (PyProof.Rows.callWith_type1 (thn (ha pos' pins s σ H _ I h) fun us s1 ⟨vs, H1, I1, r1, q1⟩ => ?_) hs rfl)))
  obtain ⟨p, us, L, rfl, hq, hP, h7, hz, q⟩ := q1
  obtain ⟨u, rfl, rx⟩ := vals1 r1
  cases rx
  obtain ⟨its, r', pl, hzl⟩ := I1.list hq
  have hh : X.A.handled = none := I.ok.hd hc
  have key : ∀ {b : Addr} {x : Int × Int}, H1 b = some (.tup [.int x.1, .int x.2]) → IsT X.prog X.w s1.heap x b := fun {b x} e => key_of I1.hok (ks := [.inl x.1, .inl x.2]) e
  have pk : ∀ {us : List V} {its : List Value} {L : List (Int × Int)}, PrsAt H1 us L → Vals us its → Paired (fun v p => ∃ b, v = Value.ref b ∧ H1 b = some (.tup [.int p.1, .int p.2])) its L := fun {us its L} x y => by
    induction x generalizing its with
    | nil => cases y; exact .nil
    | cons a _ ih =>
      cases y with
      | cons b t =>
        obtain ⟨ad, rfl, e⟩ := a
        cases b
        exact .cons ⟨ad, rfl, e⟩ (ih t)
  refine call_setP hu hh pl.isList (F := fun x b => H1 b = some (.tup [.int x.1, .int x.2])) key (pk hP r') h7 hz fun h' tk ps S3 d3 k3 => Calls.spliced_nil ?_
  have mem : ∀ x, x ∈ ps ↔ x ∈ L := fun x => by rw [d3.mem, List.take_length]
  have l49 := hz ps d3.nd fun x hx => (mem x).mp hx
  refine sorted_setP (s := { s1 with heap := h', toks := tk }) hh k3 key S3 l49 fun l qs s' e a1 a2 a3 ge he k4 g4 o4 => ?_
  have kk : ∀ b o, s1.heap.get? b = some o → s'.heap.get? b = some o := fun b o x => k4 b o (k3 b o x)
  have ge' : s1.heap.objs.size ≤ l := by
    obtain ⟨qs, es, ep, t, S4, _⟩ := S3
    exact Nat.le_trans (Nat.le_of_lt (Heap.lt_size S4.ob)) ge
  have lq : qs.length = ps.length := by rw [← a1.length_eq, List.length_map]
  have J := I1.laid (h' := s'.heap) (t' := tk) (o := .lst (qs.map fun x => V.ref x.2)) kk ge' ⟨by rw [List.length_map]; exact Nat.le_of_lt (small1000 (by omega)), qs.map (fun x => Value.ref x.2), e, ?_, he⟩
  · refine ⟨.ref l, _, J.like rfl g4 o4, rfl, q _ (qs.map fun x => V.ref x.2) (qs.map (·.1)) (I1.hok.fresh ge') ?_ (a1.nodup_iff.mpr d3.nd) (fun x => a1.mem_iff.trans (mem x)) a2⟩
    exact prsAt_refs a3
  · exact vals_refs qs
end
end L2
set_option Elab.async false
set_option linter.all false
set_option maxRecDepth 100000
set_option maxHeartbeats 4000000
namespace Pl
open PySem L2
def top (i : Nat) : Stmt := PySem.Challenge.pw_placechange_k09_whole_joined_and_met.main.body.getD i (.Pass ⟨0, 0, 0, 0⟩)
abbrev s_is_whole : Stmt := top 6
abbrev ps_is_whole : List Str := ["value"]
abbrev N_is_whole : List Str := ["value"]
theorem sc_is_whole : FnScope N_is_whole ps_is_whole (defScope s_is_whole) := ⟨rfl, rfl, rfl, by decide +kernel, rfl, by decide +kernel, by decide +kernel⟩
abbrev s_is_count : Stmt := top 7
abbrev ps_is_count : List Str := ["value"]
abbrev N_is_count : List Str := ["value"]
theorem sc_is_count : FnScope N_is_count ps_is_count (defScope s_is_count) := ⟨rfl, rfl, rfl, by decide +kernel, rfl, by decide +kernel, by decide +kernel⟩
abbrev s_is_order : Stmt := top 8
abbrev ps_is_order : List Str := ["value"]
abbrev N_is_order : List Str := ["value", "dancer"]
theorem sc_is_order : FnScope N_is_order ps_is_order (defScope s_is_order) := ⟨rfl, rfl, rfl, by decide +kernel, rfl, by decide +kernel, by decide +kernel⟩
abbrev s_check_order : Stmt := top 9
abbrev ps_check_order : List Str := ["order"]
abbrev N_check_order : List Str := ["order"]
theorem sc_check_order : FnScope N_check_order ps_check_order (defScope s_check_order) := ⟨rfl, rfl, rfl, by decide +kernel, rfl, by decide +kernel, by decide +kernel⟩
abbrev s_check_both : Stmt := top 10
abbrev ps_check_both : List Str := ["one", "other"]
abbrev N_check_both : List Str := ["one", "other"]
theorem sc_check_both : FnScope N_check_both ps_check_both (defScope s_check_both) := ⟨rfl, rfl, rfl, by decide +kernel, rfl, by decide +kernel, by decide +kernel⟩
abbrev s_crossed : Stmt := top 12
abbrev ps_crossed : List Str := ["order"]
abbrev N_crossed : List Str := ["order", "pairs", "place", "dancer", "behind"]
theorem sc_crossed : FnScope N_crossed ps_crossed (defScope s_crossed) := ⟨rfl, rfl, rfl, by decide +kernel, rfl, by decide +kernel, by decide +kernel⟩
abbrev s_with_all_between : Stmt := top 14
abbrev ps_with_all_between : List Str := ["dancers", "pairs"]
abbrev N_with_all_between : List Str := ["dancers", "pairs", "found", "pair", "between", "lesser", "greater"]
theorem sc_with_all_between : FnScope N_with_all_between ps_with_all_between (defScope s_with_all_between) := ⟨rfl, rfl, rfl, by decide +kernel, rfl, by decide +kernel, by decide +kernel⟩
abbrev s_order_with : Stmt := top 15
abbrev ps_order_with : List Str := ["dancers", "pairs"]
abbrev N_order_with : List Str := ["dancers", "pairs", "order", "dancer", "greater_ahead", "lesser_ahead", "greater", "lesser"]
theorem sc_order_with : FnScope N_order_with ps_order_with (defScope s_order_with) := ⟨rfl, rfl, rfl, by decide +kernel, rfl, by decide +kernel, by decide +kernel⟩
abbrev s_joined : Stmt := top 16
abbrev ps_joined : List Str := ["one", "other"]
abbrev N_joined : List Str := ["one", "other", "dancers"]
theorem sc_joined : FnScope N_joined ps_joined (defScope s_joined) := ⟨rfl, rfl, rfl, by decide +kernel, rfl, by decide +kernel, by decide +kernel⟩
abbrev s_turned : Stmt := top 17
abbrev ps_turned : List Str := ["order"]
abbrev N_turned : List Str := ["order"]
theorem sc_turned : FnScope N_turned ps_turned (defScope s_turned) := ⟨rfl, rfl, rfl, by decide +kernel, rfl, by decide +kernel, by decide +kernel⟩
abbrev s_met : Stmt := top 18
abbrev ps_met : List Str := ["one", "other"]
abbrev N_met : List Str := ["one", "other"]
theorem sc_met : FnScope N_met ps_met (defScope s_met) := ⟨rfl, rfl, rfl, by decide +kernel, rfl, by decide +kernel, by decide +kernel⟩
abbrev s_law_cell_at : Stmt := top 20
abbrev ps_law_cell_at : List Str := ["_law_script", "_law_k"]
abbrev N_law_cell_at : List Str := ["_law_script", "_law_k"]
theorem sc_law_cell_at : FnScope N_law_cell_at ps_law_cell_at (defScope s_law_cell_at) := ⟨rfl, rfl, rfl, by decide +kernel, rfl, by decide +kernel, by decide +kernel⟩
abbrev s_law_draw : Stmt := top 21
abbrev ps_law_draw : List Str := ["_law_cell", "_law_k", "_law_many"]
abbrev N_law_draw : List Str := ["_law_cell", "_law_k", "_law_many", "_law_mixed"]
theorem sc_law_draw : FnScope N_law_draw ps_law_draw (defScope s_law_draw) := ⟨rfl, rfl, rfl, by decide +kernel, rfl, by decide +kernel, by decide +kernel⟩
abbrev s_law_order : Stmt := top 22
abbrev ps_law_order : List Str := ["_law_cell", "_law_dancers"]
abbrev N_law_order : List Str := ["_law_cell", "_law_dancers", "_law_left", "_law_way", "_law_step", "_law_found", "_law_dancer"]
theorem sc_law_order : FnScope N_law_order ps_law_order (defScope s_law_order) := ⟨rfl, rfl, rfl, by decide +kernel, rfl, by decide +kernel, by decide +kernel⟩
abbrev s_law_first : Stmt := top 24
abbrev ps_law_first : List Str := ["_law_dancers"]
abbrev N_law_first : List Str := ["_law_dancers", "_law_dancer"]
theorem sc_law_first : FnScope N_law_first ps_law_first (defScope s_law_first) := ⟨rfl, rfl, rfl, by decide +kernel, rfl, by decide +kernel, by decide +kernel⟩
abbrev s_law_pairs : Stmt := top 25
abbrev ps_law_pairs : List Str := ["_law_order_here"]
abbrev N_law_pairs : List Str := ["_law_order_here", "_law_found", "_law_one", "_law_other"]
theorem sc_law_pairs : FnScope N_law_pairs ps_law_pairs (defScope s_law_pairs) := ⟨rfl, rfl, rfl, by decide +kernel, rfl, by decide +kernel, by decide +kernel⟩
abbrev s_law_numbers : Stmt := top 26
abbrev ps_law_numbers : List Str := ["_law_found", "_law_most"]
abbrev N_law_numbers : List Str := ["_law_found", "_law_most", "_law_one"]
theorem sc_law_numbers : FnScope N_law_numbers ps_law_numbers (defScope s_law_numbers) := ⟨rfl, rfl, rfl, by decide +kernel, rfl, by decide +kernel, by decide +kernel⟩
abbrev s_law_orders : Stmt := top 27
abbrev ps_law_orders : List Str := ["_law_dancers"]
abbrev N_law_orders : List Str := ["_law_dancers", "_law_found", "_law_turn", "_law_more", "_law_some", "_law_dancer", "_law_one"]
theorem sc_law_orders : FnScope N_law_orders ps_law_orders (defScope s_law_orders) := ⟨rfl, rfl, rfl, by decide +kernel, rfl, by decide +kernel, by decide +kernel⟩
abbrev s_law_all : Stmt := top 28
abbrev ps_law_all : List Str := ["_law_some", "_law_others"]
abbrev N_law_all : List Str := ["_law_some", "_law_others", "_law_pair"]
theorem sc_law_all : FnScope N_law_all ps_law_all (defScope s_law_all) := ⟨rfl, rfl, rfl, by decide +kernel, rfl, by decide +kernel, by decide +kernel⟩
abbrev s_law_best : Stmt := top 29
abbrev ps_law_best : List Str := ["_law_one", "_law_other", "_law_above", "_law_below"]
abbrev N_law_best : List Str := ["_law_one", "_law_other", "_law_above", "_law_below", "_law_first_here", "_law_second", "_law_high", "_law_low", "_law_order_here", "_law_pairs_here", "_law_both"]
theorem sc_law_best : FnScope N_law_best ps_law_best (defScope s_law_best) := ⟨rfl, rfl, rfl, by decide +kernel, rfl, by decide +kernel, by decide +kernel⟩
abbrev s_law_followed : Stmt := top 30
abbrev ps_law_followed : List Str := ["_law_pairs_here", "_law_dancers"]
abbrev N_law_followed : List Str := ["_law_pairs_here", "_law_dancers", "_law_found", "_law_turn", "_law_low", "_law_middle", "_law_other", "_law_high"]
theorem sc_law_followed : FnScope N_law_followed ps_law_followed (defScope s_law_followed) := ⟨rfl, rfl, rfl, by decide +kernel, rfl, by decide +kernel, by decide +kernel⟩
abbrev s_law_right : Stmt := top 31
abbrev ps_law_right : List Str := ["_law_one", "_law_other", "_law_above", "_law_below"]
abbrev N_law_right : List Str := ["_law_one", "_law_other", "_law_above", "_law_below", "_law_pairs_here"]
theorem sc_law_right : FnScope N_law_right ps_law_right (defScope s_law_right) := ⟨rfl, rfl, rfl, by decide +kernel, rfl, by decide +kernel, by decide +kernel⟩
abbrev s_law : Stmt := top 32
abbrev ps_law : List Str := ["_law_script"]
abbrev N_law : List Str := ["_law_script", "_law_dancers", "_law_one", "_law_other", "_law_handed", "_law_above", "_law_below", "_law_found", "_law_right_here", "_law_kept"]
theorem sc_law : FnScope N_law ps_law (defScope s_law) := ⟨rfl, rfl, rfl, by decide +kernel, rfl, by decide +kernel, by decide +kernel⟩
structure Tx (mg : Str → Option Value) : Prop where
  n_len : mg "len" = none
  n_isinstance : mg "isinstance" = none
  n_int : mg "int" = none
  n_bool : mg "bool" = none
  n_str : mg "str" = none
  n_list : mg "list" = none
  n_tuple : mg "tuple" = none
  n_all : mg "all" = none
  n_any : mg "any" = none
  n_sum : mg "sum" = none
  n_sorted : mg "sorted" = none
  n_range : mg "range" = none
  n_enumerate : mg "enumerate" = none
  n_abs : mg "abs" = none
  n_min : mg "min" = none
  n_max : mg "max" = none
  n_reversed : mg "reversed" = none
  n_set : mg "set" = none
def Kc_MOST_DANCERS (mg : Str → Option Value) : Prop := ∃ t, mg "MOST_DANCERS" = some (.int 7 t)
end Pl
set_option Elab.async false
set_option linter.all false
set_option maxRecDepth 100000
set_option maxHeartbeats 4000000
namespace Pl
open PySem L2 Pc PyProof.Rows
local macro_rules | `(tactic| walk_at "rd") => `(tactic| repeat (first | refine ⟨_, rfl, ?_⟩ | refine ⟨_, _, rfl, rfl, ?_⟩ | refine ⟨Or.inr ⟨by decide, by decide⟩, ?_⟩ | refine ⟨⟨by decide, by decide⟩, ?_⟩ | refine ⟨(by show (0 : Int) < _; first | decide | omega), ?_⟩))
section
variable {P : Program} {w : World} {K : PySem.W.Frag} {mg : Str → Option Value} {base : Heap}
theorem ex4 {α0 α1 α2 α3 : Type} {p : α0 → α1 → α2 → α3 → Prop} (x0 : α0) (x1 : α1) (x2 : α2) (x3 : α3) (h : p x0 x1 x2 x3) : ∃ x0 x1 x2 x3, p x0 x1 x2 x3 := ⟨x0, x1, x2, x3, h⟩
theorem ex6 {α0 α1 α2 α3 α4 α5 : Type} {p : α0 → α1 → α2 → α3 → α4 → α5 → Prop} (x0 : α0) (x1 : α1) (x2 : α2) (x3 : α3) (x4 : α4) (x5 : α5) (h : p x0 x1 x2 x3 x4 x5) : ∃ x0 x1 x2 x3 x4 x5, p x0 x1 x2 x3 x4 x5 := ⟨x0, x1, x2, x3, x4, x5, h⟩
def spWhole (K : PySem.W.Frag) : Sp := fun vs H Q _ => ∃ x t b1 b2, vs = [x] ∧ TyOf K H x t ∧ PySem.W.kitOne K t (.type "int") = some b1 ∧ PySem.W.kitOne K t (.type "bool") = some b2 ∧ Q (.bl (b1 && !b2)) H
theorem ok_is_whole (T : Tx mg) (D : Df K mg "is_whole" s_is_whole ps_is_whole) : Fn P w K mg base CX0 1 "is_whole" ps_is_whole (spWhole K) := by
  refine D.fn sc_is_whole (fun vs H Q E h => ?_) (fun f cdv A outer s H vs Q E hr h => ?_)
  · obtain ⟨x, t, b1, b2, rfl, _⟩ := h
    rfl
  obtain ⟨x, t, b1, b2, rfl, ty, k1, k2, q⟩ := h
  have nd := sc_is_whole.nd
  refine ⟨_, (pss_one (ps_ret (pe_and (pe_callB (call_isi' K rfl) rfl T.n_isinstance boot_isinstance (pa_cons (pv 0) (pa_cons (pe_bltn (v := .ty "int") rfl T.n_int boot_int rfl) pa_nil))) (pe_one (pe_not (pe_callB (call_isi' K rfl) rfl T.n_isinstance boot_isinstance (pa_cons (pv 0) (pa_cons (pe_bltn (v := .ty "bool") rfl T.n_bool boot_bool rfl) pa_nil)))))))), ?_⟩
  refine ⟨_, rfl, _, _, _, _, rfl, ty, k1, _, rfl, ?_⟩
  cases b1 with
  | false => exact iteF q
  | true =>
    refine iteT ?_
    exact ⟨_, rfl, _, _, _, _, rfl, ty, k2, _, rfl, q⟩
theorem kit_int_int : PySem.W.kitOne K (.type "int") (.type "int") = some true := rfl
theorem kit_int_bool : PySem.W.kitOne K (.type "int") (.type "bool") = some false := rfl
theorem kit_list_list : PySem.W.kitOne K (.type "list") (.type "list") = some true := rfl
def spCell (K : PySem.W.Frag) : Sp := fun vs H Q _ => ∃ (a : Addr) (ns : List Int) (k : Nat), vs = [.ref a, .int k] ∧ SqL K H a (ns.map V.int) ∧ ∀ i, Q (.int i) H
theorem ok_cell_at (T : Tx mg) (D : Df K mg "_law_cell_at" s_law_cell_at ps_law_cell_at) : Fn P w K mg base CX0 1 "_law_cell_at" ps_law_cell_at (spCell K) := by
  refine D.fn sc_law_cell_at (fun vs H Q E h => ?_) (fun f cdv A outer s H vs Q E hr h => ?_)
  · obtain ⟨a, ns, k, rfl, _⟩ := h
    rfl
  obtain ⟨a, ns, k, rfl, hS, q⟩ := h
  have nd := sc_law_cell_at.nd
  refine ⟨_, (pss_cons (ps_if (pt_cmpR op_lt (pv 1) (pe_callB (call_len_seq' K rfl) rfl T.n_len PySem.boot_len (pa_cons (pv 0) pa_nil)) (nomark _)) (pss_one (ps_ret (pe_ix (ix_list' K rfl) (pv 0) (pv 1) (fun _ _ => rfl)))) pss_nil) (pss_one (ps_ret pe_int))), ?_⟩
  refine ⟨_, rfl, _, rfl, a, _, rfl, .inl hS, _, _, rfl, rfl, _, rfl, ?_⟩
  refine ite2 (fun c => ?_) (fun c => ?_)
  · have c' := of_decide_eq_true c
    rw [List.length_map] at c'
    have hk : k < ns.length := by omega
    refine ⟨_, rfl, _, rfl, a, _, _, _, rfl, rfl, hS, atI_nat (show (ns.map V.int)[k]? = some (.int ns[k]) by rw [List.getElem?_map, List.getElem?_eq_getElem hk] <;> rfl), q _⟩
  · exact q 0
def spDraw : Sp := fun vs H Q _ => ∃ (c k m : Int), vs = [.int c, .int k, .int m] ∧ 0 < m ∧ ∀ r, 0 ≤ r → r < m → Q (.int r) H
theorem ok_draw (T : Tx mg) (D : Df K mg "_law_draw" s_law_draw ps_law_draw) : Fn P w K mg base CX0 1 "_law_draw" ps_law_draw spDraw := by
  refine D.fn sc_law_draw (fun vs H Q E h => ?_) (fun f cdv A outer s H vs Q E hr h => ?_)
  · obtain ⟨c, k, m, rfl, _⟩ := h
    rfl
  obtain ⟨c, k, m, rfl, hm, q⟩ := h
  have nd := sc_law_draw.nd
  refine ⟨_, (pss_cons (pset nd 3 (pe_op op_mod (pe_op op_add (pe_op op_add (pe_op op_mul (pe_op op_mod (pv 0) pe_int) pe_int) (pe_op op_mul (pv 1) pe_int)) pe_int) pe_int)) (pss_one (ps_ret (pe_op op_mod (pe_op op_mod (pe_op op_fdiv (pe_op op_mul (pv 3) (pv 3)) pe_int) pe_int) (pv 2))))), ?_⟩
  walk_at "rd"
  refine ⟨.inl ⟨by omega, by omega⟩, ?_⟩
  walk_at "rd"
  exact q _ (Int.emod_nonneg _ (by omega)) (Int.emod_lt_of_pos _ hm)
def spCount : Sp := fun vs H Q _ => ∃ n : Int, vs = [.int n] ∧ Q (.bl (decide (1 ≤ n ∧ n ≤ 7))) H
theorem ok_is_count (T : Tx mg) (c7 : Kc_MOST_DANCERS mg) (G_is_whole : Fn P w K mg base CX0 1 "is_whole" ps_is_whole (spWhole K)) (D : Df K mg "is_count" s_is_count ps_is_count) : Fn P w K mg base CX0 2 "is_count" ps_is_count spCount := by
  obtain ⟨t7, c_MOST_DANCERS⟩ := c7
  refine D.fn sc_is_count (fun vs H Q E h => ?_) (fun f cdv A outer s H vs Q E hr h => ?_)
  · obtain ⟨n, rfl, _⟩ := h
    rfl
  obtain ⟨n, rfl, q⟩ := h
  refine ⟨_, (pss_one (ps_ret (pe_and (pe_callF G_is_whole (hr.mono (by decide)) (pa_cons (pv 0) pa_nil)) (pe_one (pe_chain op_le op_le pe_int (pv 0) (pe_glob (v := .int 7) rfl c_MOST_DANCERS ⟨_, rfl⟩)))))), ?_⟩
  refine ⟨_, rfl, _, _, _, _, rfl, .int n, kit_int_int, kit_int_bool, _, rfl, iteT ?_⟩
  walk_at "rd"
  refine ite2 (fun c => ?_) (fun c => ?_)
  · walk_at "rd"
    have e : decide (n ≤ 7) = decide (1 ≤ n ∧ n ≤ 7) := by
      have := of_decide_eq_true c
      exact decide_eq_decide.mpr ⟨fun z => ⟨this, z⟩, fun z => z.2⟩
    show Q (.bl (decide (n ≤ 7))) H
    rw [e]; exact q
  · have e : decide (1 ≤ n ∧ n ≤ 7) = false := decide_eq_false fun z => c (decide_eq_true z.1)
    rw [e] at q; exact q
def spFirst : Sp := fun vs H Q _ => ∃ n : Nat, vs = [.int (n : Int)] ∧ n ≤ 7 ∧ ∀ l H', H l = none → Same H H' → H' l = some (.lst ((fst n).map V.int)) → Q (.ref l) H'
theorem ok_first (T : Tx mg) (D : Df K mg "_law_first" s_law_first ps_law_first) : Fn P w K mg base CX0 1 "_law_first" ps_law_first spFirst := by
  refine D.fn sc_law_first (fun vs H Q E h => ?_) (fun f cdv A outer s H vs Q E hr h => ?_)
  · obtain ⟨n, rfl, _⟩ := h
    rfl
  obtain ⟨n, rfl, hn, q⟩ := h
  have nd := sc_law_first.nd
  refine ⟨_, (pss_one (ps_ret (pe_comp rfl [1] (pi_range1 rfl T.n_range (pa_cons (pv 0) pa_nil)) (fun _ _ _ _ _ => ⟨(pgn nd 1), pts_nil, (pv 1)⟩)))), ?_⟩
  refine ⟨_, rfl, (n : Int), rfl, by omega, by omega, comp_feed (n := (n : Int).toNat) feeds_range (by omega) (fun _ => true) (fun i => .int ((0 : Int) + i)) rfl (fun i x H' R hi s1 p h => h H' (Same.refl _)) (fun i x H' R hi s1 p hb h => ?_) (fun _ _ _ _ _ p => p) ?_⟩
  · subst p
    exact ⟨_, rfl, h H' (Same.refl _)⟩
  · intro D' H' hD s1 e
    refine q D' H' hD s1 ?_
    rw [e]
    congr 2
    unfold fst
    rw [List.map_map, List.filter_eq_self.mpr (fun _ _ => rfl), Int.toNat_natCast]
    exact List.map_congr_left fun k _ => by show V.int (0 + (k : Int)) = V.int (k : Int); rw [Int.zero_add]
theorem at_int {xs : List Int} {k : Int} (h0 : 0 ≤ k) (h : k < xs.length) : atI (xs.map V.int) k = some (.int (xs.getD k.toNat 0)) := by
  have e : k = ((k.toNat : Nat) : Int) := by omega
  rw [e]
  refine atI_nat ?_
  rw [List.getElem?_map, List.getElem?_eq_getElem (by omega), Int.toNat_natCast, List.getD_eq_getElem?_getD, List.getElem?_eq_getElem (by omega)]; rfl
theorem ix_ok {xs : List Int} {k : Int} (h0 : 0 ≤ k) (h : k < xs.length) : ixN (xs.map V.int).length k = some k.toNat := by
  unfold ixN
  rw [if_pos h0, List.length_map, if_pos h]
theorem get_int {xs : List Int} {i : Nat} {x : V} (h : (xs.map V.int)[i]? = some x) : ∃ hi : i < xs.length, x = .int xs[i] := by
  rw [List.getElem?_map] at h
  cases e : xs[i]? with
  | none => rw [e] at h; cases h
  | some y =>
    rw [e] at h; cases h
    obtain ⟨hi, e2⟩ := List.getElem?_eq_some_iff.mp e
    exact ⟨hi, by rw [e2]⟩
theorem while_by2 {c : TT} {tb : TS} {D : Ends} {σ : L2.St} {H : Hp} (Pv : L2.St → Hp → Prop) (μ : L2.St → Hp → Nat) (h0 : Pv σ H)
    (hs : ∀ σ H, Pv σ H → c σ H fun b H1 => if b = true then ∃ N : L2.St → Hp → Prop, (∀ σ' H', N σ' H' → ∃ m', m' < μ σ H ∧ (m' = μ σ' H' ∧ Pv σ' H')) ∧ tb { D with nx := N, ct := N, bk := D.nx } σ H1 else D.nx σ H1) : tWhile c tb D σ H := by
  refine ⟨fun m σ H => m = μ σ H ∧ Pv σ H, ⟨_, rfl, h0⟩, ?_⟩
  rintro m σ H ⟨rfl, p⟩
  exact hs σ H p
theorem tAnd_of {t u : TT} {σ : L2.St} {H : Hp} {Q : Bool → Hp → Prop} {b1 b2 : Bool} (ht : ∀ R : Bool → Hp → Prop, R b1 H → t σ H R) (hu : ∀ R : Bool → Hp → Prop, R b2 H → u σ H R) (q : Q (b1 && b2) H) : tAnd t u σ H Q := by
  refine ht _ ?_
  cases b1 with
  | true => rw [if_pos rfl]; exact hu _ q
  | false => rw [if_neg (by simp)]; exact q
def spNumbers (K : PySem.W.Frag) : Sp := fun vs H Q _ => ∃ (a : Addr) (ns : List Int) (m : Int), vs = [.ref a, .int m] ∧ H a = some (.lst (ns.map V.int)) ∧ ns.length ≤ 1000 ∧ (∀ x ∈ ns, 0 ≤ x ∧ x < m) ∧ ∀ H', Same H H' → Q (.bl true) H'
theorem all_true (n : Nat) : (List.replicate n true).all id = true := by simp
theorem map_range_const {α : Type} (n : Nat) (v : α) : ((List.range n).filter fun _ => true).map (fun _ => v) = List.replicate n v := by
  rw [List.filter_eq_self.mpr (fun _ _ => rfl), List.map_const', List.length_range]
theorem ok_numbers (T : Tx mg) (D : Df K mg "_law_numbers" s_law_numbers ps_law_numbers) : Fn P w K mg base CX0 1 "_law_numbers" ps_law_numbers (spNumbers K) := by
  refine D.fn sc_law_numbers (fun vs H Q E h => ?_) (fun f cdv A outer s H vs Q E hr h => ?_)
  · obtain ⟨a, ns, m, rfl, _⟩ := h
    rfl
  obtain ⟨a, ns, m, rfl, ha, hl, hm, q⟩ := h
  have nd := sc_law_numbers.nd
  refine ⟨_, (pss_cons (ps_if (pt_not (pt_val (pe_callB (call_isi' K rfl) rfl T.n_isinstance boot_isinstance (pa_cons (pv 0) (pa_cons (pe_bltn (v := .ty "list") rfl T.n_list boot_list rfl) pa_nil))))) (pss_one (ps_ret pe_bl)) pss_nil) (pss_one (ps_ret (pe_callB (call_allL' K rfl rfl) rfl T.n_all boot_all (pa_cons (pe_comp rfl [2] (pi_list' K rfl (pv 0)) (fun _ _ _ _ _ => ⟨(pgn nd 2), pts_nil, (pe_and (pe_callB (call_isi' K rfl) rfl T.n_isinstance boot_isinstance (pa_cons (pv 2) (pa_cons (pe_bltn (v := .ty "int") rfl T.n_int boot_int rfl) pa_nil))) (pe_and (pe_not (pe_callB (call_isi' K rfl) rfl T.n_isinstance boot_isinstance (pa_cons (pv 2) (pa_cons (pe_bltn (v := .ty "bool") rfl T.n_bool boot_bool rfl) pa_nil)))) (pe_one (pe_chain op_le op_lt pe_int (pv 2) (pv 1)))))⟩)) pa_nil))))), ?_⟩
  refine ⟨_, rfl, _, _, _, _, rfl, .lst ha, kit_list_list, _, rfl, iteF ?_⟩
  refine ⟨_, rfl, a, rfl, ⟨_, SqL.of ha⟩, comp_feed (feeds_list (SqL.of ha)) (by rw [List.length_map]; exact hl) (fun _ => true) (fun _ => .bl true) rfl (fun i x H' R hi s1 p h => h H' (Same.refl _)) (fun i x H' R hi s1 p hb h => ?_) (fun _ _ _ _ _ p => p) ?_⟩
  · obtain ⟨hi', rfl⟩ := get_int p
    have hx := hm _ (List.getElem_mem hi')
    refine ⟨_, rfl, _, _, _, _, rfl, .int _, kit_int_int, _, rfl, iteT ?_⟩
    refine ⟨_, rfl, _, _, _, _, rfl, .int _, kit_int_bool, _, rfl, _, rfl, iteT ?_⟩
    walk_at "rd"
    rw [if_pos (decide_eq_true hx.1)]
    walk_at "rd"
    have := h H' (Same.refl _)
    rw [← decide_eq_true hx.2] at this
    exact this
  · intro D' H' hD s1 e
    rw [map_range_const, List.length_map] at e
    refine ⟨D', List.replicate ns.length true, rfl, SqL.of (by rw [e, List.map_replicate]), ?_⟩
    rw [all_true]
    exact q H' s1
abbrev IsPr (H : Hp) : V → Int × Int → Prop := fun v p => ∃ a, v = .ref a ∧ H a = some (.tup [.int p.1, .int p.2])
abbrev Prs (H : Hp) : List V → List (Int × Int) → Prop := Paired (IsPr H)
def TupK (H H' : Hp) : Prop := ∀ a xs, H a = some (.tup xs) → H' a = some (.tup xs)
theorem Prs.mono {H H' : Hp} (k : TupK H H') {vs : List V} {ps : List (Int × Int)} (h : Prs H vs ps) : Prs H' vs ps := by
  induction h with
  | nil => exact .nil
  | cons a _ ih =>
    obtain ⟨p, e, h⟩ := a
    exact .cons ⟨p, e, k _ _ h⟩ ih
theorem TupK.same {H H' : Hp} (s : Same H H') : TupK H H' := fun a xs h => s a _ h
theorem TupK.put {H : Hp} {l : Addr} {xs : List V} {o : HO} (h : H l = some (.lst xs)) : TupK H (upd H l o) := fun a ys ha => by
  rw [upd_ne (ne_of ha h (by intro z; cases z))]; exact ha
def prD (p : Int × Int) : PyData := .tuple [.int p.1, .int p.2]
theorem Prs.den {H : Hp} {vs : List V} {ps : List (Int × Int)} (h : Prs H vs ps) : DenAll K H vs (ps.map prD) := by
  induction h with
  | nil => exact .nil
  | cons a _ ih =>
    obtain ⟨p, rfl, h⟩ := a
    exact .cons (.tup (SqT.of h) (.cons (.int _) (.cons (.int _) .nil))) ih
def spPairs (K : PySem.W.Frag) : Sp := fun vs H Q _ => ∃ (a : Addr) (o : List Int) (n : Nat), vs = [.ref a] ∧ SqL K H a (o.map V.int) ∧ Ord n o ∧ n ≤ 7 ∧
  ∀ l H' us, H l = none → Same H H' → H' l = some (.lst us) → Prs H' us (prs o n n) → Q (.ref l) H'
theorem prs_small {n : Nat} {o : List Int} (hn : n ≤ 7) : ∀ a, (prs o n a).length ≤ 7 * a
  | 0 => Nat.le_refl _
  | a + 1 => by
    rw [prs, List.length_append, List.length_map]
    have h1 := prs_small (o := o) hn a
    have h2 := List.length_filter_le (fun (b : Nat) => decide (idx (b : Int) o < idx (a : Int) o)) (List.range' (a + 1) (n - (a + 1)))
    rw [List.length_range'] at h2
    omega
theorem ok_pairs (T : Tx mg) (D : Df K mg "_law_pairs" s_law_pairs ps_law_pairs) : Fn P w K mg base CX0 1 "_law_pairs" ps_law_pairs (spPairs K) := by
  refine D.fn sc_law_pairs (fun vs H Q E h => ?_) (fun f cdv A outer s H vs Q E hr h => ?_)
  · obtain ⟨a, o, n, rfl, _⟩ := h
    rfl
  obtain ⟨a, o, n, rfl, ha, ho, hn, q⟩ := h
  have nd := sc_law_pairs.nd
  have ol : (o.map V.int).length = n := by rw [List.length_map, ho.length]
  have mem : ∀ k : Nat, k < n → (k : Int) ∈ o := fun k hk => ho.mem.mpr ⟨by omega, by omega⟩
  refine ⟨_, (pss_cons (pset nd 1 (pe_lst pa_nil)) (pss_cons (ps_for PassesOwn.never rfl (pi_range1 rfl T.n_range (pa_cons (pe_callB (call_len_seq' K rfl) rfl T.n_len PySem.boot_len (pa_cons (pv 0) pa_nil)) pa_nil)) (pgn nd 2) (pss_one (ps_for PassesOwn.never rfl (pi_range2 rfl T.n_range (pa_cons (pe_op op_add (pv 2) pe_int) (pa_cons (pe_callB (call_len_seq' K rfl) rfl T.n_len PySem.boot_len (pa_cons (pv 0) pa_nil)) pa_nil))) (pgn nd 3) (pss_one (ps_if (pt_cmpR op_lt (pe_bm' K rfl PySem.F.plainAttrs_list PySem.F.slot_list_index PySem.F.type_list_index (mt_index' K rfl) (pv 0) (pa_cons (pv 3) pa_nil)) (pe_bm' K rfl PySem.F.plainAttrs_list PySem.F.slot_list_index PySem.F.type_list_index (mt_index' K rfl) (pv 0) (pa_cons (pv 2) pa_nil)) (nomark _)) (pss_one (ps_expr (pe_bm' K rfl PySem.F.plainAttrs_list PySem.F.slot_list_append PySem.F.type_list_append mt_append (pv 1) (pa_cons (pe_tup (pa_cons (pv 2) (pa_cons (pv 3) pa_nil))) pa_nil)))) pss_nil))))) (pss_one (ps_ret (pv 1))))), ?_⟩
  refine ⟨Nat.zero_le _, fun l hl => ?_⟩
  refine ⟨_, rfl, a, _, rfl, .inl ((Same.new hl).seq ha), (n : Int), by rw [ol], by omega, by omega, ?_⟩
  refine for_range (lo := 0) (n := (n : Int).toNat) (fun i σ H' => ∃ v2 v3 us, σ = [some (.ref a), some (.ref l), v2, v3] ∧ Same H H' ∧ H' l = some (.lst us) ∧ Prs H' us (prs o n i)) ⟨none, none, [], rfl, Same.new hl, upd_same, .nil⟩ (fun i σ H' hi h => ?_) (fun σ H' h => ?_)
  · obtain ⟨v2, v3, us, rfl, s1, hl1, hu⟩ := h
    refine ⟨_, rfl, _, _, rfl, rfl, _, rfl, a, _, rfl, .inl (s1.seq ha), (i : Int) + 1, (n : Int), by rw [ol, Int.zero_add], ⟨by omega, by omega, by omega, by omega⟩, ?_⟩
    refine for_range (lo := (i : Int) + 1) (n := ((n : Int) - ((i : Int) + 1)).toNat) (fun j σ H'' => ∃ v3 us, σ = [some (.ref a), some (.ref l), some (.int (0 + i)), v3] ∧ Same H H'' ∧ H'' l = some (.lst us) ∧
      Prs H'' us (prs o n i ++ ((List.range' (i + 1) j).filter fun (b : Nat) => decide (idx (b : Int) o < idx (i : Int) o)).map fun (b : Nat) => ((i : Int), (b : Int)))) ⟨v3, us, rfl, s1, hl1, by simpa using hu⟩ (fun j σ H'' hj h => ?_) (fun σ H'' h => ?_)
    · obtain ⟨v3, us, rfl, s2, hl2, hu2⟩ := h
      have sq := s2.seq ha
      have e1 : (i : Int) + 1 + (j : Int) = ((i + 1 + j : Nat) : Int) := by omega
      have e0 : (0 : Int) + (i : Int) = ((i : Nat) : Int) := by omega
      refine ⟨_, rfl, .inl ⟨rfl, _, sq⟩, _, rfl, a, o, _, idx ((i + 1 + j : Nat) : Int) o, rfl, rfl, sq, ?_, ?_, ?_⟩
      · rw [e1]; exact idx_get o _ (mem _ (by omega))
      · intro m hm; rw [e1]; exact idx_first o _ m hm
      refine ⟨_, rfl, .inl ⟨rfl, _, sq⟩, _, rfl, a, o, _, idx ((i : Nat) : Int) o, rfl, rfl, sq, ?_, ?_, ?_⟩
      · rw [e0]; exact idx_get o _ (mem _ (by omega))
      · intro m hm; rw [e0]; exact idx_first o _ m hm
      refine ⟨_, _, rfl, rfl, _, rfl, ?_⟩
      have ef : (List.range' (i + 1) (j + 1)).filter (fun (b : Nat) => decide (idx (b : Int) o < idx (i : Int) o)) = (List.range' (i + 1) j).filter (fun (b : Nat) => decide (idx (b : Int) o < idx (i : Int) o)) ++ if decide (idx ((i + 1 + j : Nat) : Int) o < idx (i : Int) o) = true then [i + 1 + j] else [] := by
        rw [List.range'_concat, List.filter_append]
        congr 1
        simp only [Nat.one_mul]
        by_cases hb : idx ((i + 1 + j : Nat) : Int) o < idx (i : Int) o
        · rw [if_pos (decide_eq_true hb), List.filter_cons, if_pos (decide_eq_true hb), List.filter_nil]
        · rw [if_neg (fun z => hb (of_decide_eq_true z)), List.filter_cons, if_neg (fun z => hb (of_decide_eq_true z)), List.filter_nil]
      refine ite2 (fun c => ?_) (fun c => ?_)
      · have c' : idx ((i + 1 + j : Nat) : Int) o < idx (i : Int) o := by have := of_decide_eq_true c; omega
        have hlen : us.length < 1000 := by
          have := hu2.length
          rw [List.length_append, List.length_map] at this
          have h1 := prs_small (o := o) hn i
          have h2 := List.length_filter_le (fun (b : Nat) => decide (idx (b : Int) o < idx (i : Int) o)) (List.range' (i + 1) j)
          rw [List.length_range'] at h2
          omega
        refine ⟨_, rfl, .inl ⟨rfl, _, SqL.of hl2⟩, _, rfl, _, rfl, (small1000 (show ([V.int (0 + i), V.int ((i : Int) + 1 + j)] : List V).length ≤ 1000 from by show 2 ≤ 1000; omega) |> Nat.le_of_lt), fun p hp => ?_⟩
        have hpl : l ≠ p := ne_of_none hl2 hp
        refine ⟨l, us, _, rfl, rfl, by rw [upd_ne hpl]; exact hl2, small1000 (by omega), ?_⟩
        refine ⟨_, us ++ [.ref p], rfl, (s2.trans (Same.new hp)).put hl, upd_same, ?_⟩
        rw [ef, if_pos (decide_eq_true c'), List.map_append, ← List.append_assoc]
        have k1 : TupK H'' (upd (upd H'' p (.tup [.int (0 + i), .int ((i : Int) + 1 + j)])) l (.lst (us ++ [.ref p]))) := fun x ys hx => by
          rw [upd_ne (ne_of hx hl2 (by intro z; cases z)), upd_ne (ne_of_none hx hp)]; exact hx
        refine Paired.snoc (Prs.mono k1 hu2) ⟨p, rfl, ?_⟩
        rw [upd_ne (Ne.symm hpl), upd_same, e1, e0]
      · have c' : ¬ idx ((i + 1 + j : Nat) : Int) o < idx (i : Int) o := fun z => c (decide_eq_true (by omega))
        refine ⟨_, us, rfl, s2, hl2, ?_⟩
        rw [ef, if_neg (fun z => c' (of_decide_eq_true z)), List.append_nil]
        exact hu2
    · obtain ⟨v3, us, rfl, s2, hl2, hu2⟩ := h
      refine ⟨_, _, us, rfl, s2, hl2, ?_⟩
      have e : ((n : Int) - ((i : Int) + 1)).toNat = n - (i + 1) := by omega
      rw [e] at hu2
      exact hu2
  · obtain ⟨v2, v3, us, rfl, s1, hl1, hu⟩ := h
    rw [Int.toNat_natCast] at hu
    exact ⟨_, rfl, q l H' us hl s1 hl1 hu⟩
theorem lay_ints : ∀ ns : List Int, PyData.canLayAll0 (ns.map PyData.int) = true
  | [] => rfl
  | n :: r => by rw [List.map_cons]; simp [PyData.canLayAll0, PyData.canLay0, lay_ints r]
theorem dep_ints : ∀ ns : List Int, PyData.depthAll (ns.map PyData.int) = 0
  | [] => rfl
  | n :: r => by rw [List.map_cons]; simp [PyData.depthAll, PyData.depth, dep_ints r]
theorem lay_list (ns : List Int) : (PyData.list (ns.map PyData.int)).canLay0 = true := lay_ints ns
theorem dep_list (ns : List Int) : (PyData.list (ns.map PyData.int)).depth ≤ 40 := by
  show PyData.depthAll (ns.map PyData.int) + 1 ≤ 40
  rw [dep_ints]; omega
theorem eqv_ints : ∀ ns ms : List Int, PyData.eqvAll (ns.map PyData.int) (ms.map PyData.int) = decide (ns = ms)
  | [], [] => rfl
  | [], m :: r => by simp [PyData.eqvAll]
  | n :: r, [] => by simp [PyData.eqvAll]
  | n :: r, m :: q => by
    rw [List.map_cons, List.map_cons, PyData.eqvAll, eqv_ints r q]
    simp only [PyData.eqv]
    by_cases h1 : n = m
    · subst h1
      by_cases h2 : r = q
      · subst h2; simp
      · simp [h2]
    · simp [h1]
theorem eqv_list (ns ms : List Int) : PyData.eqv (.list (ns.map PyData.int)) (.list (ms.map PyData.int)) = decide (ns = ms) := eqv_ints ns ms
theorem cut_to (xs : List V) (k : Nat) : cutV xs none (some (k : Int)) = xs.take k := by
  unfold cutV
  rw [HT.sIx_none, HT.sIx_nat, List.drop_zero, Nat.sub_zero]
  by_cases h : k ≤ xs.length
  · rw [Nat.min_eq_left h]
  · rw [Nat.min_eq_right (by omega), List.take_length, List.take_of_length_le (by omega)]
theorem cut_from (xs : List V) (k : Nat) : cutV xs (some (k : Int)) none = xs.drop k := by
  unfold cutV
  rw [HT.sIx_none, HT.sIx_nat]
  by_cases h : k ≤ xs.length
  · rw [Nat.min_eq_left h, List.take_of_length_le (by rw [List.length_drop]; omega)]
  · rw [Nat.min_eq_right (by omega), Nat.sub_self, List.take_zero, List.drop_eq_nil_of_le (by omega)]
theorem swp_cut : ∀ (xs : List Int) (s : Nat), s + 1 < xs.length → xs.take s ++ [xs.getD (s + 1) 0, xs.getD s 0] ++ xs.drop (s + 2) = Pc.swp xs s
  | [], s, h => by simp at h
  | [a], s, h => by simp at h
  | a :: b :: r, 0, _ => rfl
  | a :: b :: r, s + 1, h => by
    have ih := swp_cut (b :: r) s (by simpa using h)
    rw [swp_succ, ← ih]; rfl
theorem erase_map {α β : Type} (f : α → β) : ∀ (xs : List α) (i : Nat), (xs.map f).eraseIdx i = (xs.eraseIdx i).map f
  | [], _ => rfl
  | x :: r, 0 => rfl
  | x :: r, i + 1 => by
    show f x :: (r.map f).eraseIdx i = f x :: (r.eraseIdx i).map f
    rw [erase_map f r i]
theorem erase_perm : ∀ (xs : List Int) (i : Nat), i < xs.length → (xs.getD i 0 :: xs.eraseIdx i).Perm xs
  | [], i, h => by simp at h
  | x :: r, 0, h => .refl _
  | x :: r, i + 1, h => by
    have ih := erase_perm r i (by simpa using h)
    exact (List.Perm.swap x (r.getD i 0) (r.eraseIdx i)).trans (ih.cons x)
def lenAt (a : Addr) (H : Hp) : Nat := match H a with | some (.lst xs) => xs.length | _ => 0
theorem lenAt_eq {a : Addr} {H : Hp} {xs : List V} (h : H a = some (.lst xs)) : lenAt a H = xs.length := by unfold lenAt; rw [h]
def spOrder : Sp := fun vs H Q _ => ∃ (c : Int) (n : Nat), vs = [.int c, .int (n : Int)] ∧ 1 ≤ n ∧ n ≤ 7 ∧ ∀ l H' o, H l = none → Same H H' → H' l = some (.lst (o.map V.int)) → Ord n o → Q (.ref l) H'
theorem ok_order (T : Tx mg) (G_law_draw : Fn P w K mg base CX0 1 "_law_draw" ps_law_draw spDraw) (D : Df K mg "_law_order" s_law_order ps_law_order) : Fn P w K mg base CX0 2 "_law_order" ps_law_order spOrder := by
  refine D.fn sc_law_order (fun vs H Q E h => ?_) (fun f cdv A outer s H vs Q E hr h => ?_)
  · obtain ⟨c, n, rfl, _⟩ := h
    rfl
  obtain ⟨c, n, rfl, h1, h7, q⟩ := h
  have nd := sc_law_order.nd
  have hu := hr.units
  refine ⟨_, (pss_cons (ps_setc 2 rfl [6] nd (pi_range1 rfl T.n_range (pa_cons (pv 1) pa_nil)) (fun _ _ _ _ _ => ⟨(pgn nd 6), pts_nil, (pv 6)⟩)) (pss_cons (pset nd 3 (pe_callF G_law_draw (hr.mono (by decide)) (pa_cons (pv 0) (pa_cons pe_int (pa_cons pe_int pa_nil))))) (pss_cons (ps_if (pt_cmpR op_eq (pv 3) pe_int (nomark _)) (pss_one (ps_ret (pv 2))) pss_nil) (pss_cons (ps_if (pt_cmpR op_eq (pv 3) pe_int (nomark _)) (pss_one (ps_ret (pe_rev' K rfl (pv 2)))) pss_nil) (pss_cons (ps_if (PW.pt (pw_and (pt_cmpR op_eq (pv 3) pe_int (nomark _)) (pw_and1 (pt_cmpR op_gt (pv 1) pe_int (nomark _))))) (pss_cons (pset nd 4 (pe_callF G_law_draw (hr.mono (by decide)) (pa_cons (pv 0) (pa_cons pe_int (pa_cons (pe_op op_sub (pv 1) pe_int) pa_nil))))) (pss_one (ps_ret (pe_op op_cat (pe_op op_cat (pe_slice (sl_list' K rfl) (pv 2) po_none (po_some (pv 4))) (pe_lst (pa_cons (pe_ix (ix_list' K rfl) (pv 2) (pe_op op_add (pv 4) pe_int) (fun _ _ => rfl)) (pa_cons (pe_ix (ix_list' K rfl) (pv 2) (pv 4) (fun _ _ => rfl)) pa_nil)))) (pe_slice (sl_list' K rfl) (pv 2) (po_some (pe_op op_add (pv 4) pe_int)) po_none))))) pss_nil) (pss_cons (pset nd 5 (pe_lst pa_nil)) (pss_cons (ps_while PassesOwn.never (pt_cmpR (op_neD' K rfl hu) (pv 2) (pe_lst pa_nil) (nomark _)) (pss_one (ps_expr (pe_bm' K rfl PySem.F.plainAttrs_list PySem.F.slot_list_append PySem.F.type_list_append mt_append (pv 5) (pa_cons (pe_bm' K rfl PySem.F.plainAttrs_list PySem.F.slot_list_pop PySem.F.type_list_pop mt_popAt (pv 2) (pa_cons (pe_callF G_law_draw (hr.mono (by decide)) (pa_cons (pv 0) (pa_cons (pe_op op_add pe_int (pe_callB (call_len_seq' K rfl) rfl T.n_len PySem.boot_len (pa_cons (pv 2) pa_nil))) (pa_cons (pe_callB (call_len_seq' K rfl) rfl T.n_len PySem.boot_len (pa_cons (pv 2) pa_nil)) pa_nil)))) pa_nil)) pa_nil))))) (pss_one (ps_ret (pv 5)))))))))), ?_⟩
  refine ⟨_, rfl, (n : Int), rfl, by omega, by omega, comp_feed (n := (n : Int).toNat) feeds_range (by omega) (fun _ => true) (fun i => .int ((0 : Int) + i)) rfl (fun i x H' R hi s1 p h => h H' (Same.refl _)) (fun i x H' R hi s1 p hb h => ?_) (fun _ _ _ _ _ p => p) ?_⟩
  · subst p
    exact ⟨_, rfl, h H' (Same.refl _)⟩
  intro l0 H1 hl0 s1 e1
  have e1 : H1 l0 = some (.lst ((fst n).map V.int)) := by
    rw [e1]
    congr 2
    unfold fst
    rw [List.map_map, List.filter_eq_self.mpr (fun _ _ => rfl), Int.toNat_natCast]
    exact List.map_congr_left fun k _ => by show V.int (0 + (k : Int)) = V.int (k : Int); rw [Int.zero_add]
  have fl := fst_length n
  refine ⟨_, rfl, c, 3, 9, rfl, (by decide), fun way w0 w9 => ?_⟩
  refine ⟨_, rfl, rfl, _, rfl, ?_⟩
  refine ite2 (fun c0 => ⟨_, rfl, q l0 H1 _ hl0 s1 e1 (.refl _)⟩) (fun c0 => ?_)
  refine ⟨_, rfl, rfl, _, rfl, ?_⟩
  refine ite2 (fun c1 => ⟨_, rfl, l0, _, rfl, SqL.of e1, fun p hp => ?_⟩) (fun c1 => ?_)
  · generalize eH : upd H1 p _ = H2
    have s2 : Same H1 H2 := eH ▸ Same.new hp
    have e2 : H2 p = _ := eH ▸ upd_same
    clear eH
    refine q p H2 (fst n).reverse (s1.free hp) (s1.trans s2) ?_ (List.reverse_perm _)
    rw [e2, List.map_reverse]
  dsimp only [tNext, tSeq, tIfS]
  refine tAnd_of (b1 := decide (V.int way = V.int 2)) (b2 := decide ((1 : Int) < n)) (fun R h => ⟨_, rfl, rfl, _, rfl, h⟩) (fun R h => ⟨_, rfl, _, _, rfl, rfl, _, rfl, h⟩) ?_
  refine ite2 (fun c2 => ?_) (fun c2 => ?_)
  · rw [Bool.and_eq_true] at c2
    have hn1 : (1 : Int) < n := of_decide_eq_true c2.2
    refine ⟨_, rfl, _, rfl, _, _, rfl, rfl, c, 4, (n : Int) - 1, rfl, by omega, fun st g0 g1 => ?_⟩
    have es : st = ((st.toNat : Nat) : Int) := by omega
    refine ⟨_, rfl, _, rfl, _, rfl, l0, _, rfl, SqL.of e1, fun p1 hp1 => ?_⟩
    generalize eH : upd H1 p1 _ = H2
    have s2 : Same H1 H2 := eH ▸ Same.new hp1
    have e2 : H2 p1 = _ := eH ▸ upd_same
    clear eH
    have f2 := s2 _ _ e1
    refine ⟨_, rfl, _, rfl, _, _, rfl, rfl, l0, _, _, _, rfl, rfl, SqL.of f2, at_int (by omega) (by omega), _, rfl, _, rfl, l0, _, _, _, rfl, rfl, SqL.of f2, at_int (by omega) (by omega), ?_⟩
    refine ⟨Nat.le_of_lt (small1000 (show 2 ≤ 1000 by omega)), fun p2 hp2 => ?_⟩
    generalize eH : upd H2 p2 _ = H3
    have s3 : Same H2 H3 := eH ▸ Same.new hp2
    have e3 : H3 p2 = _ := eH ▸ upd_same
    clear eH
    have f3 := s3 _ _ f2
    have hc1 : (cutV ((fst n).map V.int) none (some st)).length ≤ n := by have := cutV_length ((fst n).map V.int) none (some st); rw [List.length_map, fl] at this; exact this
    refine ⟨p1, p2, _, _, rfl, rfl, s3 _ _ e2, e3, Nat.le_of_lt (small1000 (by show _ + 2 ≤ 1000; omega)), fun p3 hp3 => ?_⟩
    generalize eH : upd H3 p3 _ = H4
    have s4 : Same H3 H4 := eH ▸ Same.new hp3
    have e4 : H4 p3 = _ := eH ▸ upd_same
    clear eH
    have f4 := s4 _ _ f3
    refine ⟨_, rfl, _, rfl, _, _, rfl, rfl, _, rfl, l0, _, rfl, SqL.of f4, fun p5 hp5 => ?_⟩
    generalize eH : upd H4 p5 _ = H5
    have s5 : Same H4 H5 := eH ▸ Same.new hp5
    have e5 : H5 p5 = _ := eH ▸ upd_same
    clear eH
    have hc2 : (cutV ((fst n).map V.int) (some (st + 2)) none).length ≤ n := by have := cutV_length ((fst n).map V.int) (some (st + 2)) none; rw [List.length_map, fl] at this; exact this
    refine ⟨p3, p5, _, _, rfl, rfl, s5 _ _ e4, e5, Nat.le_of_lt (small1000 (by rw [List.length_append]; show _ + 2 + _ ≤ 1000; omega)), fun p6 hp6 => ?_⟩
    generalize eH : upd H5 p6 _ = H6
    have s6 : Same H5 H6 := eH ▸ Same.new hp6
    have e6 : H6 p6 = _ := eH ▸ upd_same
    clear eH
    have sa := s1.trans (s2.trans (s3.trans (s4.trans (s5.trans s6))))
    refine q p6 H6 (Pc.swp (fst n) st.toNat) ((s1.trans (s2.trans (s3.trans (s4.trans s5)))).free hp6) sa ?_ (swp_perm _ _)
    rw [e6, ← swp_cut (fst n) st.toNat (by omega)]
    have e10 : st + 2 = ((st.toNat + 2 : Nat) : Int) := by omega
    have e11 : (st + 1).toNat = st.toNat + 1 := by omega
    rw [e10, cut_from, e11]
    have e12 : cutV ((fst n).map V.int) none (some st) = ((fst n).take st.toNat).map V.int := by rw [es, cut_to, List.map_take, Int.toNat_natCast]
    rw [e12, List.map_append, List.map_append, List.map_drop]; rfl
  · refine ⟨Nat.zero_le _, fun lf hlf => ?_⟩
    generalize eH : upd H1 lf _ = H2
    have s2 : Same H1 H2 := eH ▸ Same.new hlf
    have e2 : H2 lf = _ := eH ▸ upd_same
    clear eH
    have hne : l0 ≠ lf := ne_of_none e1 hlf
    have hlf0 : H lf = none := s1.free hlf
    refine while_by2 (fun σ H' => ∃ (L F : List Int) (v4 v6 : Option V), σ = [some (.int c), some (.int (n : Int)), some (.ref l0), some (.int way), v4, some (.ref lf), v6] ∧ Same H H' ∧ H' l0 = some (.lst (L.map V.int)) ∧ H' lf = some (.lst (F.map V.int)) ∧ (F ++ L).Perm (fst n)) (fun _ H' => lenAt l0 H')
      ⟨fst n, [], _, _, rfl, s1.trans s2, s2 _ _ e1, e2, .refl _⟩ (fun σ H' h => ?_)
    obtain ⟨L, F, v4, v6, rfl, s3, hL, hF, pm⟩ := h
    have plen : F.length + L.length = n := by have := pm.length_eq; rw [List.length_append, fl] at this; exact this
    refine ⟨_, rfl, Nat.zero_le _, fun p hp => ?_⟩
    generalize eH : upd H' p _ = H3
    have s4 : Same H' H3 := eH ▸ Same.new hp
    have e4 : H3 p = _ := eH ▸ upd_same
    clear eH
    refine ⟨.list (L.map PyData.int), .list (([] : List Int).map PyData.int), den_list (SqL.of (s4 _ _ hL)), .lst (SqL.of e4) .nil, lay_list L, rfl, dep_list L, _, rfl, ?_⟩
    rw [eqv_list]
    refine ite2 (fun c3 => ?_) (fun c3 => ?_)
    · have hLne : L ≠ [] := by
        intro z
        subst z
        simp at c3
      have hLp : 0 < L.length := List.length_pos_iff.mpr hLne
      have hL3 := s4 _ _ hL
      have hF3 := s4 _ _ hF
      refine ⟨fun σ' H'' => lenAt l0 H'' < lenAt l0 H' ∧ ∃ (L F : List Int) (v4 v6 : Option V), σ' = [some (.int c), some (.int (n : Int)), some (.ref l0), some (.int way), v4, some (.ref lf), v6] ∧ Same H H'' ∧ H'' l0 = some (.lst (L.map V.int)) ∧ H'' lf = some (.lst (F.map V.int)) ∧ (F ++ L).Perm (fst n),
        fun σ' H'' hN => ⟨_, hN.1, rfl, hN.2⟩, ?_⟩
      refine ⟨_, rfl, .inl ⟨rfl, _, SqL.of hF3⟩, _, rfl, .inl ⟨rfl, _, SqL.of hL3⟩, ?_⟩
      refine ⟨_, rfl, _, rfl, l0, _, rfl, .inl (SqL.of hL3), _, _, rfl, rfl, _, rfl, l0, _, rfl, .inl (SqL.of hL3), c, _, _, rfl, by rw [List.length_map]; omega, fun r r0 r1 => ?_⟩
      rw [List.length_map] at r1
      refine ⟨l0, _, r, r.toNat, .int (L.getD r.toNat 0), rfl, rfl, hL3, by omega, by omega, ?_, ?_, ?_⟩
      · rw [List.length_map]; exact seqIndex_of r0 r1
      · rw [List.getElem?_map, getD_some (by omega)]; rfl
      refine ⟨lf, _, _, rfl, rfl, by rw [upd_ne (Ne.symm hne)]; exact hF3, small1000 (by rw [List.length_map]; omega), ?_⟩
      have g1 : upd (upd H3 l0 (.lst ((L.map V.int).eraseIdx r.toNat))) lf (.lst (F.map V.int ++ [.int (L.getD r.toNat 0)])) l0 = some (.lst ((L.eraseIdx r.toNat).map V.int)) := by
        rw [upd_ne hne, upd_same, erase_map]
      refine ⟨?_, L.eraseIdx r.toNat, F ++ [L.getD r.toNat 0], v4, v6, rfl, ((s3.trans s4).put hl0).put hlf0, g1, ?_, ?_⟩
      · rw [lenAt_eq g1, lenAt_eq hL, List.length_map, List.length_map, List.length_eraseIdx_of_lt (by omega)]; omega
      · rw [upd_same, List.map_append]; rfl
      · refine List.Perm.trans ?_ pm
        rw [List.append_assoc]
        refine List.Perm.append_left F ?_
        exact erase_perm L r.toNat (by omega)
    · have hL0 : L = [] := by
        have : ¬ ¬ L = [] := fun z => c3 (by simp [z])
        exact Classical.not_not.mp this
      subst hL0
      rw [List.append_nil] at pm
      exact ⟨_, rfl, q lf H3 F hlf0 (s3.trans s4) (s4 _ _ hF) pm⟩
theorem lay_prs : ∀ ps : List (Int × Int), PyData.canLayAll0 (ps.map prD) = true
  | [] => rfl
  | p :: r => by rw [List.map_cons]; simp [PyData.canLayAll0, PyData.canLay0, prD, lay_prs r]
theorem dep_prs : ∀ ps : List (Int × Int), PyData.depthAll (ps.map prD) ≤ 1
  | [] => Nat.zero_le _
  | p :: r => by
    rw [List.map_cons]
    have := dep_prs r
    simp only [PyData.depthAll, PyData.depth, prD]
    omega
theorem inv_le21 {n : Nat} {o : List Int} (hn : n ≤ 7) (h : Ord n o) : inv o ≤ 21 := by
  have := (two_facts hn h).1
  have h2 : n * (n - 1) / 2 ≤ 21 := by
    match n, hn with
    | 0, _ => decide
    | 1, _ => decide
    | 2, _ => decide
    | 3, _ => decide
    | 4, _ => decide
    | 5, _ => decide
    | 6, _ => decide
    | 7, _ => decide
  omega
theorem upI_fst (n : Nat) : upI 0 (n : Int) = fst n := by
  unfold upI fst
  rw [Int.sub_zero, Int.toNat_natCast]
  exact List.map_congr_left fun k _ => Int.zero_add _
def spIsOrder : Sp := fun vs H Q _ => ∃ (a : Addr) (o : List Int) (n : Nat), vs = [.ref a] ∧ H a = some (.lst (o.map V.int)) ∧ Ord n o ∧ 1 ≤ n ∧ n ≤ 7 ∧ ∀ H', Same H H' → Q (.bl true) H'
theorem ok_is_order (T : Tx mg) (G_is_whole : Fn P w K mg base CX0 1 "is_whole" ps_is_whole (spWhole K)) (G_is_count : Fn P w K mg base CX0 2 "is_count" ps_is_count spCount) (D : Df K mg "is_order" s_is_order ps_is_order) : Fn P w K mg base CX0 3 "is_order" ps_is_order spIsOrder := by
  refine D.fn sc_is_order (fun vs H Q E h => ?_) (fun f cdv A outer s H vs Q E hr h => ?_)
  · obtain ⟨a, o, n, rfl, _⟩ := h
    rfl
  obtain ⟨a, o, n, rfl, ha, ho, h1, h7, q⟩ := h
  have nd := sc_is_order.nd
  have hu := hr.units
  have ol : (o.map V.int).length = n := by rw [List.length_map, ho.length]
  refine ⟨_, (pss_cons (ps_if (PW.pt (pw_or (pt_not (pt_val (pe_callB (call_isi' K rfl) rfl T.n_isinstance boot_isinstance (pa_cons (pv 0) (pa_cons (pe_bltn (v := .ty "list") rfl T.n_list boot_list rfl) pa_nil))))) (pw_or1 (pt_not (pt_val (pe_callF G_is_count (hr.mono (by decide)) (pa_cons (pe_callB (call_len_seq' K rfl) rfl T.n_len PySem.boot_len (pa_cons (pv 0) pa_nil)) pa_nil))))))) (pss_one (ps_ret pe_bl)) pss_nil) (pss_cons (ps_if (pt_not (pt_val (pe_callB (call_allL' K rfl rfl) rfl T.n_all boot_all (pa_cons (pe_comp rfl [1] (pi_list' K rfl (pv 0)) (fun _ _ _ _ _ => ⟨(pgn nd 1), pts_nil, (pe_callF G_is_whole (hr.mono (by decide)) (pa_cons (pv 1) pa_nil))⟩)) pa_nil)))) (pss_one (ps_ret pe_bl)) pss_nil) (pss_one (ps_ret (pe_cmpR (op_eqD' K rfl hu) (pe_callB (call_sortedI' K rfl) rfl T.n_sorted boot_sorted (pa_cons (pv 0) pa_nil)) (pe_listRange1 T.n_list T.n_range (pa_cons (pe_callB (call_len_seq' K rfl) rfl T.n_len PySem.boot_len (pa_cons (pv 0) pa_nil)) pa_nil)) (nomark _)))))), ?_⟩
  refine ⟨_, rfl, _, _, _, _, rfl, .lst ha, kit_list_list, _, rfl, iteF ?_⟩
  refine ⟨_, rfl, a, _, rfl, .inl (SqL.of ha), _, rfl, _, rfl, ?_⟩
  rw [ol, decide_eq_true (show (1 : Int) ≤ n ∧ (n : Int) ≤ 7 by omega)]
  refine iteF ?_
  refine ⟨_, rfl, a, rfl, ⟨_, SqL.of ha⟩, comp_feed (feeds_list (SqL.of ha)) (by omega) (fun _ => true) (fun _ => .bl true) rfl (fun i x H' R hi s1 p h => h H' (Same.refl _)) (fun i x H' R hi s1 p hb h => ?_) (fun _ _ _ _ _ p => p) ?_⟩
  · obtain ⟨hi', rfl⟩ := get_int p
    exact ⟨_, rfl, _, _, _, _, rfl, .int _, kit_int_int, kit_int_bool, h H' (Same.refl _)⟩
  intro lb H1 hlb s1 e1
  rw [map_range_const, ol] at e1
  refine ⟨lb, List.replicate n true, rfl, SqL.of (by rw [e1, List.map_replicate]), _, rfl, ?_⟩
  rw [all_true]
  refine iteF ?_
  have ha1 := s1 _ _ ha
  refine ⟨_, rfl, a, o, rfl, SqL.of ha1, by rw [ho.length]; omega, fun l2 ns' hl2 pm so => ?_⟩
  generalize eH : upd H1 l2 _ = H2
  have s2 : Same H1 H2 := eH ▸ Same.new hl2
  have e2 : H2 l2 = _ := eH ▸ upd_same
  clear eH
  refine ⟨_, rfl, a, _, rfl, .inl (SqL.of (s2 _ _ ha1)), (n : Int), by rw [ol], by omega, by omega, fun l3 hl3 => ?_⟩
  generalize eH : upd H2 l3 _ = H3
  have s3 : Same H2 H3 := eH ▸ Same.new hl3
  have e3 : H3 l3 = _ := eH ▸ upd_same
  clear eH
  rw [upI_fst] at e3
  have en : ns' = fst n := sorted_eq (pm.trans ho) so
  subst en
  refine ⟨_, _, den_list (SqL.of (s3 _ _ e2)), den_list (SqL.of e3), lay_list _, lay_list _, dep_list _, ?_⟩
  rw [eqv_list, decide_eq_true rfl]
  exact q H3 (s1.trans (s2.trans s3))
def spChkOrder : Sp := fun vs H Q _ => ∃ (a : Addr) (o : List Int) (n : Nat), vs = [.ref a] ∧ H a = some (.lst (o.map V.int)) ∧ Ord n o ∧ 1 ≤ n ∧ n ≤ 7 ∧ ∀ H', Same H H' → Q .non H'
theorem ok_check_order (T : Tx mg) (G_is_order : Fn P w K mg base CX0 3 "is_order" ps_is_order spIsOrder) (D : Df K mg "check_order" s_check_order ps_check_order) : Fn P w K mg base CX0 4 "check_order" ps_check_order spChkOrder := by
  refine D.fn sc_check_order (fun vs H Q E h => ?_) (fun f cdv A outer s H vs Q E hr h => ?_)
  · obtain ⟨a, o, n, rfl, _⟩ := h
    rfl
  obtain ⟨a, o, n, rfl, ha, ho, h1, h7, q⟩ := h
  refine ⟨_, (pss_one (ps_if (pt_not (pt_val (pe_callF G_is_order (hr.mono (by decide)) (pa_cons (pv 0) pa_nil)))) (pss_one ps_never) pss_nil)), ?_⟩
  exact ⟨_, rfl, a, o, n, rfl, ha, ho, h1, h7, fun H1 s1 => ⟨_, rfl, iteF (q H1 s1)⟩⟩
end
end Pl
set_option Elab.async false
set_option linter.all false
set_option maxRecDepth 100000
set_option maxHeartbeats 4000000
namespace Pl
open PySem L2 Pc PyProof.Rows
local macro_rules | `(tactic| walk_at "rd") => `(tactic| repeat (first | refine ⟨_, rfl, ?_⟩ | refine ⟨_, _, rfl, rfl, ?_⟩ | refine ⟨Or.inr ⟨by decide, by decide⟩, ?_⟩ | refine ⟨⟨by decide, by decide⟩, ?_⟩ | refine ⟨(by show (0 : Int) < _; first | decide | omega), ?_⟩))
section
variable {P : Program} {w : World} {K : PySem.W.Frag} {mg : Str → Option Value} {base : Heap}
def keyP (p : Int × Int) : List Key := [.inl p.1, .inl p.2]
theorem keyP_inj {p q : Int × Int} (h : keyP p = keyP q) : p = q := by
  unfold keyP at h
  simp only [List.cons.injEq, Sum.inl.injEq, and_true] at h
  exact Prod.ext h.1 h.2
def spCrossed : Sp := fun vs H Q _ => ∃ (a : Addr) (o : List Int) (n : Nat), vs = [.ref a] ∧ H a = some (.lst (o.map V.int)) ∧ Ord n o ∧ 1 ≤ n ∧ n ≤ 7 ∧ ∀ l H' us, H l = none → Same H H' → H' l = some (.lst us) → Prs H' us (prs o n n) → Q (.ref l) H'
theorem ok_crossed (T : Tx mg) (G_check_order : Fn P w K mg base CX0 4 "check_order" ps_check_order spChkOrder) (D : Df K mg "crossed" s_crossed ps_crossed) : Fn P w K mg base CX0 5 "crossed" ps_crossed spCrossed := by
  refine D.fn sc_crossed (fun vs H Q E h => ?_) (fun f cdv A outer s H vs Q E hr h => ?_)
  · obtain ⟨a, o, n, rfl, _⟩ := h
    rfl
  obtain ⟨a, o, n, rfl, ha, ho, h1, h7, q⟩ := h
  have nd := sc_crossed.nd
  have ol := ho.length
  have cl : ∀ i, i ≤ n → (crP o i).length ≤ 49 := fun i hi => by
    have := crP_len o i
    rw [ol] at this
    exact Nat.le_trans this (Nat.mul_le_mul (Nat.le_trans hi h7) h7)
  refine ⟨_, (pss_cons (ps_expr (pe_callF G_check_order (hr.mono (by decide)) (pa_cons (pv 0) pa_nil))) (pss_cons (pset nd 1 (pe_lst pa_nil)) (pss_cons (ps_for PassesOwn.never rfl (pi_enum' K rfl rfl T.n_enumerate (pa_cons (pv 0) pa_nil)) (pg_tup' K rfl (n := 2) rfl (pgs_cons (pgn nd 2) (pgs_cons (pgn nd 3) pgs_nil))) (pss_one (ps_for PassesOwn.never rfl (pi_list' K rfl (pe_slice (sl_list' K rfl) (pv 0) (po_some (pe_op op_add (pv 2) pe_int)) po_none)) (pgn nd 4) (pss_one (ps_if (pt_cmpR op_lt (pv 4) (pv 3) (nomark _)) (pss_one (ps_expr (pe_bm' K rfl PySem.F.plainAttrs_list PySem.F.slot_list_append PySem.F.type_list_append mt_append (pv 1) (pa_cons (pe_tup (pa_cons (pv 4) (pa_cons (pv 3) pa_nil))) pa_nil)))) pss_nil))))) (pss_one (ps_ret (pe_callB (call_sortedP' K rfl) rfl T.n_sorted boot_sorted (pa_cons (pv 1) pa_nil))))))), ?_⟩
  refine ⟨_, rfl, a, o, n, rfl, ha, ho, h1, h7, fun H1 s1 => ?_⟩
  refine ⟨Nat.zero_le _, fun lp hlp => ?_⟩
  generalize eH : upd H1 lp _ = H2
  have s2 : Same H1 H2 := eH ▸ Same.new hlp
  have e2 : H2 lp = _ := eH ▸ upd_same
  clear eH
  have hlp0 : H lp = none := s1.free hlp
  refine ⟨_, rfl, a, rfl, ⟨_, SqL.of (s2 _ _ (s1 _ _ ha))⟩, for_enum (xs := o.map V.int) (fun i σ H' => ∃ (v2 v3 v4 : Option V) (us : List V), σ = [some (.ref a), some (.ref lp), v2, v3, v4] ∧ Same H H' ∧ H' lp = some (.lst us) ∧ Prs H' us (crP o i))
    ⟨_, _, _, [], rfl, s1.trans s2, e2, .nil⟩ (fun i σ H' _ h => ?_) (fun i x σ H' pt hx h hpt => ?_) (fun σ H' h => ?_)⟩
  · obtain ⟨_, _, _, _, _, s3, _⟩ := h
    exact SqL.of (s3 _ _ ha)
  · obtain ⟨v2, v3, v4, us, rfl, s3, hp3, pu⟩ := h
    obtain ⟨hi, rfl⟩ := get_int hx
    have eg : o.getD i 0 = o[i] := by rw [List.getD_eq_getElem?_getD, List.getElem?_eq_getElem hi]; rfl
    generalize eH : upd H' pt _ = H3
    have s4 : Same H' H3 := eH ▸ Same.new hpt
    have e4 : H3 pt = _ := eH ▸ upd_same
    clear eH
    refine ⟨pt, _, rfl, SqT.of e4, rfl, _, _, rfl, _, _, rfl, rfl, ?_⟩
    rw [← eg]
    generalize egx : o.getD i 0 = g
    have ha3 := s4 _ _ (s3 _ _ ha)
    refine ⟨_, rfl, _, rfl, _, _, rfl, rfl, _, rfl, a, _, rfl, SqL.of ha3, fun lx hlx => ?_⟩
    generalize eH : upd H3 lx _ = H4
    have s5 : Same H3 H4 := eH ▸ Same.new hlx
    have e5 : H4 lx = _ := eH ▸ upd_same
    clear eH
    have ec : cutV (o.map V.int) (some ((i : Int) + 1)) none = (o.drop (i + 1)).map V.int := by
      have : (i : Int) + 1 = ((i + 1 : Nat) : Int) := by omega
      rw [this, cut_from, List.map_drop]
    rw [ec] at e5
    have s34 := s3.trans (s4.trans s5)
    have hlx0 : H lx = none := (s3.trans s4).free hlx
    have nlx : lx ≠ lp := (ne_of_none (s4 _ _ hp3) hlx).symm
    have ecr : crP o (i + 1) = crP o i ++ ((o.drop (i + 1)).filter fun b => decide (b < g)).map fun b => (b, g) := by rw [← egx]; rfl
    refine ⟨lx, rfl, ⟨_, SqL.of e5⟩, for_list (xs := (o.drop (i + 1)).map V.int) (fun j σ H'' => ∃ (v4 : Option V) (us : List V), σ = [some (.ref a), some (.ref lp), some (.int (i : Int)), some (.int g), v4] ∧ Same H H'' ∧ H'' lx = some (.lst ((o.drop (i + 1)).map V.int)) ∧ H'' lp = some (.lst us) ∧ Prs H'' us (crP o i ++ (((o.drop (i + 1)).take j).filter fun b => decide (b < g)).map fun b => (b, g)))
      ⟨_, us, rfl, s34, e5, s5 _ _ (s4 _ _ hp3), ?_⟩ (fun j σ H'' _ h => ?_) (fun j x σ H'' hx2 h => ?_) (fun σ H'' h => ?_)⟩
    · have := Prs.mono (TupK.same (s4.trans s5)) pu
      simpa using this
    · obtain ⟨_, _, _, _, h, _⟩ := h
      exact SqL.of h
    · obtain ⟨v4, us, rfl, s6, hx6, hp6, pu6⟩ := h
      obtain ⟨hj, rfl⟩ := get_int hx2
      have et : (o.drop (i + 1)).take (j + 1) = (o.drop (i + 1)).take j ++ [(o.drop (i + 1))[j]] := List.take_succ_eq_append_getElem hj
      generalize eb : (o.drop (i + 1))[j] = b at et
      have ul := pu6.length
      rw [List.length_append, List.length_map] at ul
      have fl : (((o.drop (i + 1)).take j).filter fun b => decide (b < g)).length ≤ n := Nat.le_trans (List.length_filter_le _ _) (by rw [List.length_take, List.length_drop]; omega)
      have cli := cl i (by omega)
      refine ⟨_, rfl, _, rfl, _, _, rfl, rfl, _, rfl, ?_⟩
      refine ite2 (fun c => ?_) (fun c => ?_)
      · have fT : ([b].filter fun b => decide (b < g)) = [b] := by simp [List.filter, c]
        refine ⟨_, rfl, .inl ⟨rfl, _, SqL.of hp6⟩, _, rfl, _, rfl, Nat.le_of_lt (small1000 (show 2 ≤ 1000 by omega)), fun p hp => ?_⟩
        generalize eH : upd H'' p _ = H7
        have s7 : Same H'' H7 := eH ▸ Same.new hp
        have e7 : H7 p = _ := eH ▸ upd_same
        clear eH
        have npl : p ≠ lp := (ne_of_none hp6 hp).symm
        refine ⟨lp, us, _, rfl, rfl, s7 _ _ hp6, small1000 (by omega), ?_⟩
        have k8 : TupK H7 (upd H7 lp (.lst (us ++ [.ref p]))) := TupK.put (s7 _ _ hp6)
        refine ⟨_, us ++ [.ref p], rfl, (s6.trans s7).put hlp0, ?_, upd_same, ?_⟩
        · rw [upd_ne nlx]; exact s7 _ _ hx6
        · rw [et, List.filter_append, fT, List.map_append, ← List.append_assoc]
          exact Paired.snoc (Prs.mono (fun x ys hx => k8 _ _ (s7 _ _ hx)) pu6) ⟨p, rfl, k8 _ _ e7⟩
      · have c' : decide (b < g) = false := by simpa using c
        have fF : ([b].filter fun b => decide (b < g)) = [] := by simp [List.filter, c']
        refine ⟨_, us, rfl, s6, hx6, hp6, ?_⟩
        rw [et, List.filter_append, fF, List.append_nil]
        exact pu6
    · obtain ⟨v4, us, rfl, s6, hx6, hp6, pu6⟩ := h
      rw [List.length_map, List.take_length, ← ecr] at pu6
      exact ⟨_, _, _, us, rfl, s6, hp6, pu6⟩
  · obtain ⟨v2, v3, v4, us, rfl, s3, hp3, pu⟩ := h
    rw [List.length_map, ol] at pu
    have pe := crossed_perm (by omega) ho
    refine ⟨_, rfl, lp, us, crP o n, rfl, SqL.of hp3, pu, Nat.lt_of_le_of_lt (cl n (Nat.le_refl _)) (by decide), fun p hp => prs_in_bounds (by omega) p (pe.mem_iff.mp hp), fun l us' ps' hl pu' pm so => ?_⟩
    rw [crossed_eq (by omega) ho pm so] at pu'
    generalize eH : upd H' l _ = H5
    have s5 : Same H' H5 := eH ▸ Same.new hl
    have e5 : H5 l = _ := eH ▸ upd_same
    clear eH
    exact q l H5 us' (s3.free hl) (s3.trans s5) e5 (Prs.mono (TupK.same s5) pu')
def llD (xss : List (List Int)) : List PyData := xss.map fun d => .list (d.map PyData.int)
abbrev IsNs (H : Hp) (v : V) (d : List Int) : Prop := ∃ l, v = .ref l ∧ H l = some (.lst (d.map V.int))
abbrev Nss (H : Hp) : List V → List (List Int) → Prop := Paired (IsNs H)
theorem Nss.same {H H' : Hp} (s : Same H H') {us : List V} {ds : List (List Int)} (h : Nss H us ds) : Nss H' us ds := Paired.mapP h fun _ _ ⟨l, e, h⟩ => ⟨l, e, s _ _ h⟩
theorem Nss.mono {H H' : Hp} {us : List V} {ds : List (List Int)} (k : ∀ l d, V.ref l ∈ us → H l = some (.lst d) → H' l = some (.lst d)) (h : Nss H us ds) : Nss H' us ds := by
  induction h with
  | nil => exact .nil
  | cons a _ ih =>
    obtain ⟨l, e, h⟩ := a
    exact .cons ⟨l, e, k _ _ (by rw [e]; exact List.mem_cons_self) h⟩ (ih fun l d m => k l d (List.mem_cons_of_mem _ m))
theorem Nss.length {H : Hp} {us : List V} {ds : List (List Int)} (h : Nss H us ds) : us.length = ds.length := Paired.length h
theorem Nss.at {H : Hp} : ∀ {us : List V} {ds : List (List Int)} {i : Nat} {d : List Int}, Nss H us ds → ds[i]? = some d → ∃ l, us[i]? = some (.ref l) ∧ H l = some (.lst (d.map V.int))
  | _, _, _, _, .nil, h => by simp at h
  | _, _, 0, _, .cons ⟨l, e, a⟩ _, h => by simp at h; subst h; exact ⟨l, by rw [e]; rfl, a⟩
  | _, _, i + 1, d, .cons _ t, h => by
    obtain ⟨l, h1, h2⟩ := Nss.at (i := i) (d := d) t (by simpa using h)
    exact ⟨l, by simpa using h1, h2⟩
theorem Nss.get {H : Hp} : ∀ {us : List V} {ds : List (List Int)} {i : Nat} {v : V}, Nss H us ds → us[i]? = some v → ∃ l d, v = .ref l ∧ ds[i]? = some d ∧ H l = some (.lst (d.map V.int))
  | _, _, _, _, .nil, h => by simp at h
  | _, _, 0, _, .cons (b := d) ⟨l, e, a⟩ _, h => by simp at h; subst h; exact ⟨l, d, e, rfl, a⟩
  | _, _, i + 1, v, .cons _ t, h => by
    obtain ⟨l, d, h1, h2, h3⟩ := Nss.get (i := i) (v := v) t (by simpa using h)
    exact ⟨l, d, h1, by simpa using h2, h3⟩
theorem Nss.den {H : Hp} {us : List V} {ds : List (List Int)} (h : Nss H us ds) : DenAll K H us (llD ds) := by
  induction h with
  | nil => exact .nil
  | cons a _ ih =>
    obtain ⟨p, rfl, h⟩ := a
    exact .cons (den_list (SqL.of h)) ih
theorem den_ll {H : Hp} {a : Addr} {us : List V} {ds : List (List Int)} (h : H a = some (.lst us)) (n : Nss H us ds) : Den K H (.ref a) (.list (llD ds)) := .lst (SqL.of h) n.den
theorem lay_ll : ∀ ds : List (List Int), PyData.canLayAll0 (llD ds) = true
  | [] => rfl
  | d :: r => by
    unfold llD
    rw [List.map_cons]
    unfold PyData.canLayAll0
    have := lay_ll r
    unfold llD at this
    rw [this, lay_list]; rfl
theorem lay_lll (ds : List (List Int)) : (PyData.list (llD ds)).canLay0 = true := lay_ll ds
theorem dep_ll : ∀ ds : List (List Int), PyData.depthAll (llD ds) ≤ 1
  | [] => Nat.zero_le _
  | d :: r => by
    have := dep_ll r
    unfold llD at this ⊢
    rw [List.map_cons]
    simp only [PyData.depthAll, PyData.depth, dep_ints]
    omega
theorem dep_lll (ds : List (List Int)) : (PyData.list (llD ds)).depth ≤ 40 := by
  have := dep_ll ds
  show PyData.depthAll (llD ds) + 1 ≤ 40
  omega
theorem eqv_ll : ∀ a b : List (List Int), PyData.eqvAll (llD a) (llD b) = decide (a = b)
  | [], [] => rfl
  | [], m :: r => by simp [llD, PyData.eqvAll]
  | n :: r, [] => by simp [llD, PyData.eqvAll]
  | n :: r, m :: q => by
    have ih := eqv_ll r q
    unfold llD at ih ⊢
    rw [List.map_cons, List.map_cons, PyData.eqvAll, ih, eqv_list]
    by_cases h1 : n = m
    · subst h1
      by_cases h2 : r = q
      · subst h2; simp
      · simp [h2]
    · simp [h1]
theorem eqv_lll (a b : List (List Int)) : PyData.eqv (.list (llD a)) (.list (llD b)) = decide (a = b) := eqv_ll a b
theorem nss2 {H : Hp} {p q : Addr} {a b : List Int} (h1 : H p = some (.lst (a.map V.int))) (h2 : H q = some (.lst (b.map V.int))) : Nss H [.ref p, .ref q] [a, b] := .cons ⟨p, rfl, h1⟩ (.cons ⟨q, rfl, h2⟩ .nil)
def spChkBoth : Sp := fun vs H Q _ => ∃ (a b : Addr) (o p : List Int) (n : Nat), vs = [.ref a, .ref b] ∧ H a = some (.lst (o.map V.int)) ∧ H b = some (.lst (p.map V.int)) ∧ Ord n o ∧ Ord n p ∧ 1 ≤ n ∧ n ≤ 7 ∧ ∀ H', Same H H' → Q .non H'
theorem ok_check_both (T : Tx mg) (G_check_order : Fn P w K mg base CX0 4 "check_order" ps_check_order spChkOrder) (D : Df K mg "check_both" s_check_both ps_check_both) : Fn P w K mg base CX0 5 "check_both" ps_check_both spChkBoth := by
  refine D.fn sc_check_both (fun vs H Q E h => ?_) (fun f cdv A outer s H vs Q E hr h => ?_)
  · obtain ⟨a, b, o, p, n, rfl, _⟩ := h
    rfl
  obtain ⟨a, b, o, p, n, rfl, ha, hb, ho, hp, h1, h7, q⟩ := h
  have nd := sc_check_both.nd
  refine ⟨_, (pss_cons (ps_expr (pe_callF G_check_order (hr.mono (by decide)) (pa_cons (pv 0) pa_nil))) (pss_cons (ps_expr (pe_callF G_check_order (hr.mono (by decide)) (pa_cons (pv 1) pa_nil))) (pss_one (ps_if (pt_cmpR op_ne (pe_callB (call_len_seq' K rfl) rfl T.n_len PySem.boot_len (pa_cons (pv 0) pa_nil)) (pe_callB (call_len_seq' K rfl) rfl T.n_len PySem.boot_len (pa_cons (pv 1) pa_nil)) (nomark _)) (pss_one ps_never) pss_nil)))), ?_⟩
  refine ⟨_, rfl, a, o, n, rfl, ha, ho, h1, h7, fun H1 s1 => ⟨_, rfl, b, p, n, rfl, s1 _ _ hb, hp, h1, h7, fun H2 s2 => ?_⟩⟩
  have s := s1.trans s2
  refine ⟨_, rfl, a, _, rfl, .inl (SqL.of (s _ _ ha)), _, rfl, b, _, rfl, .inl (SqL.of (s _ _ hb)), rfl, _, rfl, ?_⟩
  rw [List.length_map, List.length_map, ho.length, hp.length, decide_eq_true (show V.int (n : Int) = V.int (n : Int) from rfl)]
  exact iteF (q H2 s)
theorem any_prs (q : Int × Int) : ∀ ps : List (Int × Int), ((ps.map prD).any fun z => PyData.eqv z (prD q)) = decide (q ∈ ps)
  | [] => by simp
  | p :: r => by
    rw [List.map_cons, List.any_cons, any_prs q r]
    have e : PyData.eqv (prD p) (prD q) = decide (q = p) := by
      simp only [prD, PyData.eqv, PyData.eqvAll, Bool.and_true]
      by_cases h : q = p
      · subst h; simp
      · rw [decide_eq_false h]
        by_cases h1 : p.1 = q.1
        · have h2 : p.2 ≠ q.2 := fun z => h (Prod.ext h1.symm z.symm)
          simp [h2]
        · simp [h1]
    rw [e, ← Bool.decide_or]
    exact decide_eq_decide.mpr List.mem_cons.symm
theorem pr_den {H : Hp} {v : V} {p : Int × Int} (h : IsPr H v p) : Den K H v (prD p) := by
  obtain ⟨a, rfl, h⟩ := h
  exact .tup (SqT.of h) (.cons (.int _) (.cons (.int _) .nil))
theorem lay_pr (p : Int × Int) : (prD p).canLay0 = true := rfl
theorem dep_pr (p : Int × Int) : (prD p).depth ≤ 40 := by simp [prD, PyData.depth, PyData.depthAll]
theorem pr_at {H : Hp} : ∀ {us : List V} {ps : List (Int × Int)} {i : Nat} {v : V}, Prs H us ps → us[i]? = some v → IsPr H v (ps.getD i (0, 0))
  | _, _, _, _, .nil, h => by simp at h
  | _, _, 0, _, .cons a _, h => by simp at h; subst h; exact a
  | _, _, i + 1, v, .cons _ t, h => by
    have := pr_at (i := i) (v := v) t (by simpa using h)
    simpa using this
theorem eqv_prs_self : ∀ ps : List (Int × Int), PyData.eqvAll (ps.map prD) (ps.map prD) = true
  | [] => rfl
  | p :: r => by rw [List.map_cons]; simp [PyData.eqvAll, PyData.eqv, prD, eqv_prs_self r]
theorem eqv_prs_same (ps : List (Int × Int)) : PyData.eqv (.list (ps.map prD)) (.list (ps.map prD)) = true := eqv_prs_self ps
theorem dep_prs_list (ps : List (Int × Int)) : (PyData.list (ps.map prD)).depth ≤ 40 := by
  have := dep_prs ps
  show PyData.depthAll _ + 1 ≤ 40
  omega
theorem prs_cat {H : Hp} : ∀ {us vs : List V} {ps qs : List (Int × Int)}, Prs H us ps → Prs H vs qs → Prs H (us ++ vs) (ps ++ qs)
  | _, _, _, _, .nil, h => h
  | _, _, _, _, .cons a t, h => .cons a (prs_cat t h)
theorem pr_get {H : Hp} : ∀ {us : List V} {ps : List (Int × Int)} {i : Nat} {v : V}, Prs H us ps → us[i]? = some v → ∃ q, ps[i]? = some q ∧ IsPr H v q
  | _, _, _, _, .nil, h => by simp at h
  | _, _, 0, _, .cons a _, h => by simp at h; subst h; exact ⟨_, rfl, a⟩
  | _, _, i + 1, v, .cons _ t, h => by
    obtain ⟨q, h1, h2⟩ := pr_get (i := i) (v := v) t (by simpa using h)
    exact ⟨q, by simpa using h1, h2⟩
theorem prs21 {n : Nat} {o : List Int} (h7 : n ≤ 7) (ho : Ord n o) : (prs o n n).length ≤ 21 := by
  rw [(two_facts h7 ho).2]; exact inv_le21 h7 ho
theorem inV_ints (x : Int) : ∀ d : List Int, inV (.int x) (d.map V.int) = decide (x ∈ d)
  | [] => by simp [inV]
  | y :: r => by
    have := inV_ints x r
    unfold inV at this ⊢
    rw [List.map_cons, List.any_cons, this]
    simp only [eqV]
    rw [Bool.eq_iff_iff, Bool.or_eq_true, beq_iff_eq, decide_eq_true_eq, decide_eq_true_eq, List.mem_cons]
    exact or_congr eq_comm Iff.rfl
theorem flat_ints (d : List Int) : (d.map V.int).all flatV = true := by simp [flatV]
end
end Pl
set_option Elab.async false
set_option linter.all false
set_option maxRecDepth 100000
set_option maxHeartbeats 4000000
namespace Pl
open PySem L2 Pc PyProof.Rows
local macro_rules | `(tactic| walk_at "rd") => `(tactic| repeat (first | refine ⟨_, rfl, ?_⟩ | refine ⟨_, _, rfl, rfl, ?_⟩ | refine ⟨Or.inr ⟨by decide, by decide⟩, ?_⟩ | refine ⟨⟨by decide, by decide⟩, ?_⟩ | refine ⟨(by show (0 : Int) < _; first | decide | omega), ?_⟩))
section
variable {P : Program} {w : World} {K : PySem.W.Frag} {mg : Str → Option Value} {base : Heap}
def HasK (kvs : List (List Key × V)) (R : Int → Int → Bool) : Prop := ∀ q : Int × Int, (valV kvs (keyP q)).isSome = R q.1 q.2
theorem HasK.put {kvs : List (List Key × V)} {R R' : Int → Int → Bool} (h : HasK kvs R) {q : Int × Int} {v : V} (e : ∀ a b, (R a b || (decide (a = q.1) && decide (b = q.2))) = R' a b) : HasK (putK kvs (keyP q) v) R' := by
  intro p
  rw [valV_put, ← e, ← h p]
  by_cases z : keyP p = keyP q
  · rw [if_pos z, keyP_inj z]; simp
  · rw [if_neg z]
    have : (decide (p.1 = q.1) && decide (p.2 = q.2)) = false := by
      simp
      intro h1 h2
      exact z (by rw [Prod.ext h1 h2])
    rw [this, Bool.or_false]
theorem HasK.eq {kvs : List (List Key × V)} {R R' : Int → Int → Bool} (h : HasK kvs R) (e : ∀ a b, R a b = R' a b) : HasK kvs R' := fun q => (h q).trans (e _ _)
def spBtw : Sp := fun vs H Q _ => ∃ (n : Nat) (a : Addr) (us : List V) (ps : List (Int × Int)), vs = [.int (n : Int), .ref a] ∧ n ≤ 7 ∧ H a = some (.lst us) ∧ Prs H us ps ∧ Lo n ps ∧ ps.length ≤ 98 ∧ ∀ d H' kvs, H d = none → Same H H' → H' d = some (.dT kvs) → HasK kvs (W9 (inS ps) n) → Q (.ref d) H'
theorem ok_btw (T : Tx mg) (D : Df K mg "with_all_between" s_with_all_between ps_with_all_between) : Fn P w K mg base CX0 1 "with_all_between" ps_with_all_between spBtw := by
  refine D.fn sc_with_all_between (fun vs H Q E h => ?_) (fun f cdv A outer s H vs Q E hr h => ?_)
  · obtain ⟨n, a, us, ps, rfl, _⟩ := h
    rfl
  obtain ⟨n, a, us, ps, rfl, h7, ha, pu, lo, pl, q⟩ := h
  have nd := sc_with_all_between.nd
  have hu1 := hu_of hr
  have hl := lo.low
  have ul := pu.length
  refine ⟨_, (pss_cons (pset nd 2 pe_dnewT) (pss_cons (ps_for PassesOwn.never rfl (pi_list' K rfl (pv 1)) (pgn nd 3) (pss_one (ps_dput hu1 (pv 2) (pv 3) pe_bl rfl))) (pss_cons (ps_for PassesOwn.never rfl (pi_range1 rfl T.n_range (pa_cons (pv 0) pa_nil)) (pgn nd 4) (pss_one (ps_for PassesOwn.never rfl (pi_range1 rfl T.n_range (pa_cons (pv 4) pa_nil)) (pgn nd 5) (pss_one (ps_for PassesOwn.never rfl (pi_range2 rfl T.n_range (pa_cons (pe_op op_add (pv 4) pe_int) (pa_cons (pv 0) pa_nil))) (pgn nd 6) (pss_one (ps_if (PW.pt (pw_and (pt_cmp (pc_din hu1 (pe_tup (pa_cons (pv 5) (pa_cons (pv 4) pa_nil))) (pv 2))) (pw_and1 (pt_cmp (pc_din hu1 (pe_tup (pa_cons (pv 4) (pa_cons (pv 6) pa_nil))) (pv 2)))))) (pss_one (ps_dput hu1 (pv 2) (pe_tup (pa_cons (pv 5) (pa_cons (pv 6) pa_nil))) pe_bl rfl)) pss_nil))))))) (pss_one (ps_ret (pv 2)))))), ?_⟩
  refine fun d hd => ?_
  generalize eH : upd H d _ = H1
  have s1 : Same H H1 := eH ▸ Same.new hd
  have e1 : H1 d = _ := eH ▸ upd_same
  clear eH
  refine ⟨_, rfl, a, rfl, ⟨_, SqL.of (s1 _ _ ha)⟩, for_list (xs := us) (fun i σ H' => ∃ (v3 v4 v5 v6 : Option V) (kvs : List (List Key × V)), σ = [some (.int (n : Int)), some (.ref a), some (.ref d), v3, v4, v5, v6] ∧ Same H H' ∧ H' d = some (.dT kvs) ∧ kvs.length ≤ i ∧ HasK kvs (inS (ps.take i)))
    ⟨_, _, _, _, [], rfl, s1, e1, Nat.zero_le _, fun q => by simp [valV_nil, inS]⟩ (fun i σ H' _ h => ?_) (fun i x σ H' hx h => ?_) (fun σ H' h => ?_)⟩
  · obtain ⟨_, _, _, _, _, _, s2, _⟩ := h
    exact SqL.of (s2 _ _ ha)
  · obtain ⟨v3, v4, v5, v6, kvs, rfl, s2, e2, kl, hk⟩ := h
    obtain ⟨p, hp, b, rfl, hb⟩ := pr_get pu hx
    have hi : i < us.length := (List.getElem?_eq_some_iff.mp hx).1
    refine ⟨_, rfl, _, rfl, d, _, rfl, DPut.t (k := keyP p) e2 (s2 _ _ hb) (small1000 (by omega)), ?_⟩
    have := length_putK kvs (keyP p) (.bl true)
    exact ⟨_, _, _, _, putK kvs (keyP p) (.bl true), rfl, s2.put hd, upd_same, by omega, hk.put fun x y => inS_snoc hp x y⟩
  obtain ⟨v3, v4, v5, v6, kvs0, rfl, s2, e2, kl0, hk0⟩ := h
  rw [ul, List.take_length] at hk0
  refine ⟨_, rfl, (n : Int), rfl, by omega, by omega, for_range (lo := 0) (n := (n : Int).toNat) (fun k σ H' => ∃ (v4 v5 v6 : Option V) (kvs : List (List Key × V)), σ = [some (.int (n : Int)), some (.ref a), some (.ref d), v3, v4, v5, v6] ∧ Same H H' ∧ H' d = some (.dT kvs) ∧ kvs.length ≤ 98 + 49 * k ∧ HasK kvs (W9 (inS ps) k))
    ⟨_, _, _, kvs0, rfl, s2, e2, by omega, hk0⟩ (fun k σ H' hkn h => ?_) (fun σ H' h => ?_)⟩
  · obtain ⟨v4, v5, v6, kvs1, rfl, s3, e3, kl1, hk1⟩ := h
    have hkn : k < n := by omega
    refine ⟨_, rfl, (0 : Int) + (k : Int), rfl, by omega, by omega, for_range (lo := 0) (n := ((0 : Int) + (k : Int)).toNat) (fun l σ H' => ∃ (v5 v6 : Option V) (kvs : List (List Key × V)), σ = [some (.int (n : Int)), some (.ref a), some (.ref d), v3, some (.int ((0 : Int) + (k : Int))), v5, v6] ∧ Same H H' ∧ H' d = some (.dT kvs) ∧ kvs.length ≤ 98 + 49 * k + 7 * l ∧ HasK kvs (M9 (inS ps) k (l : Int) ((k : Int) + 1)))
      ⟨_, _, kvs1, rfl, s3, e3, by omega, hk1.eq fun x y => (M9_0 hl k x y).symm⟩ (fun l σ H' hlk h => ?_) (fun σ H' h => ?_)⟩
    · obtain ⟨v5, v6, kvs2, rfl, s4, e4, kl2, hk2⟩ := h
      have hlk : l < k := by omega
      refine ⟨_, rfl, _, _, rfl, rfl, _, rfl, (0 : Int) + (k : Int) + 1, (n : Int), rfl, ⟨by omega, by omega, by omega, by omega⟩, for_range (lo := (0 : Int) + (k : Int) + 1) (n := ((n : Int) - ((0 : Int) + (k : Int) + 1)).toNat) (fun g σ H' => ∃ (v6 : Option V) (kvs : List (List Key × V)), σ = [some (.int (n : Int)), some (.ref a), some (.ref d), v3, some (.int ((0 : Int) + (k : Int))), some (.int ((0 : Int) + (l : Int))), v6] ∧ Same H H' ∧ H' d = some (.dT kvs) ∧ kvs.length ≤ 98 + 49 * k + 7 * l + g ∧ HasK kvs (M9 (inS ps) k (l : Int) ((k : Int) + 1 + (g : Int))))
        ⟨_, kvs2, rfl, s4, e4, by omega, by simpa using hk2⟩ (fun g σ H' hg h => ?_) (fun σ H' h => ?_)⟩
      · obtain ⟨v6, kvs3, rfl, s5, e5, kl3, hk3⟩ := h
        have hg : k + 1 + g < n := by omega
        refine ⟨_, rfl, _, rfl, Nat.le_of_lt (small1000 (show 2 ≤ 1000 by omega)), fun p1 hp1 => ?_⟩
        generalize eH : upd H' p1 _ = H6
        have s6 : Same H' H6 := eH ▸ Same.new hp1
        have e6 : H6 p1 = _ := eH ▸ upd_same
        clear eH
        refine ⟨_, rfl, d, _, rfl, DGet.t (k := keyP ((0 : Int) + (l : Int), (0 : Int) + (k : Int))) (s6 _ _ e5) e6, _, rfl, ?_⟩
        have c1 := hk3 ((0 : Int) + (l : Int), (0 : Int) + (k : Int))
        rw [show M9 (inS ps) k (l : Int) ((k : Int) + 1 + (g : Int)) ((0 : Int) + (l : Int), (0 : Int) + (k : Int)).1 ((0 : Int) + (l : Int), (0 : Int) + (k : Int)).2 = W9 (inS ps) k (l : Int) (k : Int) by
          simp only [Int.zero_add]; exact M9_l hl k _ _ _] at c1
        rw [c1]
        have sk : W9 (inS ps) k (l : Int) (k : Int) = false ∨ W9 (inS ps) k (k : Int) ((k : Int) + 1 + (g : Int)) = false → HasK kvs3 (M9 (inS ps) k (l : Int) ((k : Int) + 1 + ((g + 1 : Nat) : Int))) := fun z => hk3.eq fun x y => by
          rw [show (k : Int) + 1 + ((g + 1 : Nat) : Int) = (k : Int) + 1 + (g : Int) + 1 by omega]
          refine M9_skip (fun y => ?_) _ _
          rcases z with z | z
          · rw [z] at y; exact absurd y.1 (by simp)
          · rw [z] at y; exact absurd y.2 (by simp)
        cases w1 : W9 (inS ps) k (l : Int) (k : Int) with
        | false => exact iteF (iteF ⟨_, kvs3, rfl, s5.trans s6, s6 _ _ e5, by omega, sk (.inl w1)⟩)
        | true =>
          refine iteT ?_
          refine ⟨_, rfl, _, rfl, Nat.le_of_lt (small1000 (show 2 ≤ 1000 by omega)), fun p2 hp2 => ?_⟩
          generalize eH : upd H6 p2 _ = H7
          have s7 : Same H6 H7 := eH ▸ Same.new hp2
          have e7 : H7 p2 = _ := eH ▸ upd_same
          clear eH
          have e57 := s7 _ _ (s6 _ _ e5)
          refine ⟨_, rfl, d, _, rfl, DGet.t (k := keyP ((0 : Int) + (k : Int), (0 : Int) + (k : Int) + 1 + (g : Int))) e57 e7, _, rfl, ?_⟩
          have c2 := hk3 ((0 : Int) + (k : Int), (0 : Int) + (k : Int) + 1 + (g : Int))
          rw [show M9 (inS ps) k (l : Int) ((k : Int) + 1 + (g : Int)) ((0 : Int) + (k : Int), (0 : Int) + (k : Int) + 1 + (g : Int)).1 ((0 : Int) + (k : Int), (0 : Int) + (k : Int) + 1 + (g : Int)).2 = W9 (inS ps) k (k : Int) ((k : Int) + 1 + (g : Int)) by
            simp only [Int.zero_add]; exact M9_r hl k _ _ _] at c2
          rw [c2]
          have s57 := s5.trans (s6.trans s7)
          cases w2 : W9 (inS ps) k (k : Int) ((k : Int) + 1 + (g : Int)) with
          | false => exact iteF ⟨_, kvs3, rfl, s57, e57, by omega, sk (.inr w2)⟩
          | true =>
            refine iteT ?_
            refine ⟨_, rfl, _, rfl, _, rfl, Nat.le_of_lt (small1000 (show 2 ≤ 1000 by omega)), fun p3 hp3 => ?_⟩
            generalize eH : upd H7 p3 _ = H8
            have s8 : Same H7 H8 := eH ▸ Same.new hp3
            have e8 : H8 p3 = _ := eH ▸ upd_same
            clear eH
            refine ⟨d, _, rfl, DPut.t (k := keyP ((0 : Int) + (l : Int), (0 : Int) + (k : Int) + 1 + (g : Int))) (s8 _ _ e57) e8 (small1000 (by omega)), ?_⟩
            have := length_putK kvs3 (keyP ((0 : Int) + (l : Int), (0 : Int) + (k : Int) + 1 + (g : Int))) (.bl true)
            refine ⟨_, putK kvs3 _ _, rfl, (s57.trans s8).put hd, upd_same, by omega, hk3.put fun x y => ?_⟩
            simp only [Int.zero_add]
            rw [show (k : Int) + 1 + ((g + 1 : Nat) : Int) = (k : Int) + 1 + (g : Int) + 1 by omega]
            exact M9_put w1 w2 x y
      · obtain ⟨v6, kvs3, rfl, s5, e5, kl3, hk3⟩ := h
        refine ⟨_, _, kvs3, rfl, s5, e5, by omega, hk3.eq fun x y => ?_⟩
        have := M9_row hl k (l : Int) x y
        rw [show (k : Int) + 1 + ((((n : Int) - ((0 : Int) + (k : Int) + 1)).toNat : Nat) : Int) = (n : Int) by omega, show ((l + 1 : Nat) : Int) = (l : Int) + 1 by omega]
        exact this
    · obtain ⟨v5, v6, kvs2, rfl, s4, e4, kl2, hk2⟩ := h
      rw [show ((0 : Int) + (k : Int)).toNat = k by omega] at hk2 kl2
      exact ⟨_, _, _, kvs2, rfl, s4, e4, by omega, hk2.eq fun x y => M9_end hl k x y⟩
  · obtain ⟨v4, v5, v6, kvs1, rfl, s3, e3, kl1, hk1⟩ := h
    rw [Int.toNat_natCast] at hk1
    exact ⟨_, rfl, q d H' kvs1 hd s3 e3 hk1⟩
def spOw : Sp := fun vs H Q _ => ∃ (n : Nat) (d : Addr) (kvs : List (List Key × V)) (R : Int → Int → Bool), vs = [.int (n : Int), .ref d] ∧ n ≤ 7 ∧ H d = some (.dT kvs) ∧ HasK kvs R ∧ ∀ l H', H l = none → Same H H' → H' l = some (.lst ((ow9 n R n).map V.int)) → Q (.ref l) H'
theorem ok_ow (T : Tx mg) (D : Df K mg "order_with" s_order_with ps_order_with) : Fn P w K mg base CX0 1 "order_with" ps_order_with spOw := by
  refine D.fn sc_order_with (fun vs H Q E h => ?_) (fun f cdv A outer s H vs Q E hr h => ?_)
  · obtain ⟨n, d, kvs, R, rfl, _⟩ := h
    rfl
  obtain ⟨n, d, kvs, R, rfl, h7, hd, hk, q⟩ := h
  have nd := sc_order_with.nd
  have hu1 := hu_of hr
  refine ⟨_, (pss_cons (pset nd 2 (pe_listRange1 T.n_list T.n_range (pa_cons (pv 0) pa_nil))) (pss_cons (ps_for PassesOwn.never rfl (pi_range1 rfl T.n_range (pa_cons (pv 0) pa_nil)) (pgn nd 3) (pss_cons (ps_setc 4 rfl [6] nd (pi_range2 rfl T.n_range (pa_cons (pe_op op_add (pv 3) pe_int) (pa_cons (pv 0) pa_nil))) (fun _ _ _ _ _ => ⟨(pgn nd 6), (pts_one (pt_cmp (pc_din hu1 (pe_tup (pa_cons (pv 3) (pa_cons (pv 6) pa_nil))) (pv 1)))), (pv 6)⟩)) (pss_cons (ps_setc 5 rfl [7] nd (pi_range1 rfl T.n_range (pa_cons (pv 3) pa_nil)) (fun _ _ _ _ _ => ⟨(pgn nd 7), (pts_one (pt_cmp (pc_dnotin hu1 (pe_tup (pa_cons (pv 7) (pa_cons (pv 3) pa_nil))) (pv 1)))), (pv 7)⟩)) (pss_one (ps_asg (pv 3) (pg_sub (pv 2) (pe_op op_add (pe_callB (call_len_seq' K rfl) rfl T.n_len PySem.boot_len (pa_cons (pv 4) pa_nil)) (pe_callB (call_len_seq' K rfl) rfl T.n_len PySem.boot_len (pa_cons (pv 5) pa_nil))) set_list)))))) (pss_one (ps_ret (pv 2))))), ?_⟩
  refine ⟨_, rfl, (n : Int), rfl, by omega, by omega, fun lr hlr => ?_⟩
  generalize eH : upd H lr _ = H1
  have s1 : Same H H1 := eH ▸ Same.new hlr
  have e1 : H1 lr = _ := eH ▸ upd_same
  clear eH
  rw [upI_fst] at e1
  refine ⟨_, rfl, (n : Int), rfl, by omega, by omega, for_range (lo := 0) (n := (n : Int).toNat) (fun k σ H' => ∃ (v3 v4 v5 v6 v7 : Option V), σ = [some (.int (n : Int)), some (.ref d), some (.ref lr), v3, v4, v5, v6, v7] ∧ Same H H' ∧ H' lr = some (.lst ((ow9 n R k).map V.int)))
    ⟨_, _, _, _, _, rfl, s1, e1⟩ (fun k σ H' hkn h => ?_) (fun σ H' h => ?_)⟩
  · obtain ⟨v3, v4, v5, v6, v7, rfl, s2, e2⟩ := h
    have hkn : k < n := by omega
    refine ⟨_, rfl, _, _, rfl, rfl, _, rfl, (0 : Int) + (k : Int) + 1, (n : Int), rfl, ⟨by omega, by omega, by omega, by omega⟩, comp_feed (n := ((n : Int) - ((0 : Int) + (k : Int) + 1)).toNat) feeds_range (by omega) (fun i => R (k : Int) ((k : Int) + 1 + (i : Int))) (fun i => .int ((0 : Int) + (k : Int) + 1 + (i : Int))) rfl (fun i x H' R' hi s3 p h => ?_) (fun i x H' R' hi s3 p hb h => ?_) (fun _ _ _ _ _ p => p) ?_⟩
    · subst p
      refine ⟨_, rfl, _, rfl, Nat.le_of_lt (small1000 (show 2 ≤ 1000 by omega)), fun p1 hp1 => ?_⟩
      generalize eH : upd H' p1 _ = H6
      have s6 : Same H' H6 := eH ▸ Same.new hp1
      have e6 : H6 p1 = _ := eH ▸ upd_same
      clear eH
      refine ⟨_, rfl, d, _, rfl, DGet.t (k := keyP ((0 : Int) + (k : Int), (0 : Int) + (k : Int) + 1 + (i : Int))) (s6 _ _ (s3 _ _ (s2 _ _ hd))) e6, _, rfl, ?_⟩
      rw [hk]
      simp only [Int.zero_add]
      exact h _ s6
    · subst p
      exact ⟨_, rfl, h _ (Same.refl _)⟩
    intro lg H3 hlg s3 e3
    refine ⟨_, rfl, (0 : Int) + (k : Int), rfl, by omega, by omega, comp_feed (n := ((0 : Int) + (k : Int)).toNat) feeds_range (by omega) (fun i => !R (i : Int) (k : Int)) (fun i => .int ((0 : Int) + (i : Int))) rfl (fun i x H' R' hi s4 p h => ?_) (fun i x H' R' hi s4 p hb h => ?_) (fun _ _ _ _ _ p => p) ?_⟩
    · subst p
      refine ⟨_, rfl, _, rfl, Nat.le_of_lt (small1000 (show 2 ≤ 1000 by omega)), fun p1 hp1 => ?_⟩
      generalize eH : upd H' p1 _ = H6
      have s6 : Same H' H6 := eH ▸ Same.new hp1
      have e6 : H6 p1 = _ := eH ▸ upd_same
      clear eH
      refine ⟨_, rfl, d, _, rfl, DGet.t (k := keyP ((0 : Int) + (i : Int), (0 : Int) + (k : Int))) (s6 _ _ (s4 _ _ (s3 _ _ (s2 _ _ hd)))) e6, _, rfl, ?_⟩
      rw [hk]
      simp only [Int.zero_add]
      exact h _ s6
    · subst p
      exact ⟨_, rfl, h _ (Same.refl _)⟩
    intro ll H4 hll s4 e4
    have s34 := s3.trans s4
    have pe : ((((List.range ((n : Int) - ((0 : Int) + (k : Int) + 1)).toNat).filter fun (i : Nat) => R (k : Int) ((k : Int) + 1 + (i : Int))).map fun (i : Nat) => V.int ((0 : Int) + (k : Int) + 1 + (i : Int))).length + (((List.range ((0 : Int) + (k : Int)).toNat).filter fun (i : Nat) => !R (i : Int) (k : Int)).map fun (i : Nat) => V.int ((0 : Int) + (i : Int))).length) = pos9 n R k := by
      rw [List.length_map, List.length_map]
      unfold pos9 gA lA
      rw [show ((0 : Int) + (k : Int)).toNat = k by omega, show ((n : Int) - ((0 : Int) + (k : Int) + 1)).toNat = n - (k + 1) by omega]
      congr 1
      rw [List.range'_eq_map_range, List.filter_map, List.length_map]
      rfl
    have pb := pos9_bound (T := R) hkn
    refine ⟨_, rfl, _, rfl, _, rfl, lg, _, rfl, .inl (SqL.of (s4 _ _ e3)), _, rfl, ll, _, rfl, .inl (SqL.of e4), _, _, rfl, rfl, lr, _, _, pos9 n R k, rfl, rfl, s34 _ _ e2, ?_, ?_⟩
    · rw [show ((((List.range ((n : Int) - ((0 : Int) + (k : Int) + 1)).toNat).filter fun (i : Nat) => R (k : Int) ((k : Int) + 1 + (i : Int))).map fun (i : Nat) => V.int ((0 : Int) + (k : Int) + 1 + (i : Int))).length : Int) + ((((List.range ((0 : Int) + (k : Int)).toNat).filter fun (i : Nat) => !R (i : Int) (k : Int)).map fun (i : Nat) => V.int ((0 : Int) + (i : Int))).length : Int) = ((pos9 n R k : Nat) : Int) by rw [← pe]; omega]
      rw [ix_ok (by omega) (by rw [ow9_length]; omega)]
      rfl
    · exact ⟨_, _, _, _, _, rfl, (s2.trans s34).put hlr, by rw [upd_same, ← List.map_set, Int.zero_add]; rfl⟩
  · obtain ⟨v3, v4, v5, v6, v7, rfl, s2, e2⟩ := h
    rw [Int.toNat_natCast] at e2
    exact ⟨_, rfl, q lr H' hlr s2 e2⟩
def spJoin (J : Nat → List Int → List Int → List Int) : Sp := fun vs H Q _ => ∃ (a b : Addr) (o p : List Int) (n : Nat), vs = [.ref a, .ref b] ∧ H a = some (.lst (o.map V.int)) ∧ H b = some (.lst (p.map V.int)) ∧ Ord n o ∧ Ord n p ∧ 1 ≤ n ∧ n ≤ 7 ∧ ∀ l H', H l = none → Same H H' → H' l = some (.lst ((J n o p).map V.int)) → Q (.ref l) H'
theorem ok_joined (T : Tx mg) (G_check_both : Fn P w K mg base CX0 5 "check_both" ps_check_both spChkBoth) (G_crossed : Fn P w K mg base CX0 5 "crossed" ps_crossed spCrossed) (G_with_all_between : Fn P w K mg base CX0 1 "with_all_between" ps_with_all_between spBtw) (G_order_with : Fn P w K mg base CX0 1 "order_with" ps_order_with spOw)
    (D : Df K mg "joined" s_joined ps_joined) : Fn P w K mg base CX0 6 "joined" ps_joined (spJoin joi) := by
  refine D.fn sc_joined (fun vs H Q E h => ?_) (fun f cdv A outer s H vs Q E hr h => ?_)
  · obtain ⟨a, b, o, p, n, rfl, _⟩ := h
    rfl
  obtain ⟨a, b, o, p, n, rfl, ha, hb, ho, hp, h1, h7, q⟩ := h
  have nd := sc_joined.nd
  refine ⟨_, (pss_cons (ps_expr (pe_callF G_check_both (hr.mono (by decide)) (pa_cons (pv 0) (pa_cons (pv 1) pa_nil)))) (pss_cons (pset nd 2 (pe_callB (call_len_seq' K rfl) rfl T.n_len PySem.boot_len (pa_cons (pv 0) pa_nil))) (pss_one (ps_ret (pe_callF G_order_with (hr.mono (by decide)) (pa_cons (pv 2) (pa_cons (pe_callF G_with_all_between (hr.mono (by decide)) (pa_cons (pv 2) (pa_cons (pe_op op_cat (pe_callF G_crossed (hr.mono (by decide)) (pa_cons (pv 0) pa_nil)) (pe_callF G_crossed (hr.mono (by decide)) (pa_cons (pv 1) pa_nil))) pa_nil))) pa_nil))))))), ?_⟩
  refine ⟨_, rfl, _, rfl, a, b, o, p, n, rfl, ha, hb, ho, hp, h1, h7, fun H1 s1 => ?_⟩
  refine ⟨_, rfl, a, _, rfl, .inl (SqL.of (s1 _ _ ha)), ?_⟩
  rw [List.length_map, ho.length]
  refine ⟨_, rfl, _, rfl, _, rfl, a, o, n, rfl, s1 _ _ ha, ho, h1, h7, fun l2 H2 u2 hl2 s2 e2 p2 => ?_⟩
  refine ⟨_, rfl, b, p, n, rfl, s2 _ _ (s1 _ _ hb), hp, h1, h7, fun l3 H3 u3 hl3 s3 e3 p3 => ?_⟩
  have z2 := p2.length
  have z3 := p3.length
  have y2 := prs_small (o := o) h7 n
  have y3 := prs_small (o := p) h7 n
  refine ⟨l2, l3, u2, u3, rfl, rfl, s3 _ _ e2, e3, Nat.le_of_lt (small1000 (by omega)), fun l4 hl4 => ?_⟩
  generalize eH : upd H3 l4 _ = H4
  have s4 : Same H3 H4 := eH ▸ Same.new hl4
  have e4 : H4 l4 = _ := eH ▸ upd_same
  clear eH
  have p4 : Prs H4 (u2 ++ u3) (prs o n n ++ prs p n n) := prs_cat (Prs.mono (TupK.same (s3.trans s4)) p2) (Prs.mono (TupK.same s4) p3)
  refine ⟨n, l4, _, _, rfl, h7, e4, p4, (lo_prs n o).append (lo_prs n p), by rw [List.length_append]; omega, fun d H5 kvs hd s5 e5 hk => ?_⟩
  refine ⟨n, d, kvs, _, rfl, h7, e5, hk, fun l6 H6 hl6 s6 e6 => ?_⟩
  have s15 := s1.trans (s2.trans (s3.trans (s4.trans s5)))
  refine q l6 H6 (s15.free hl6) (s15.trans s6) ?_
  rw [inS_both] at e6
  exact e6
def spTurned : Sp := fun vs H Q _ => ∃ (a : Addr) (o : List Int), vs = [.ref a] ∧ H a = some (.lst (o.map V.int)) ∧ ∀ l H', H l = none → Same H H' → H' l = some (.lst (o.reverse.map V.int)) → Q (.ref l) H'
theorem ok_turned (T : Tx mg) (D : Df K mg "turned" s_turned ps_turned) : Fn P w K mg base CX0 1 "turned" ps_turned spTurned := by
  refine D.fn sc_turned (fun vs H Q E h => ?_) (fun f cdv A outer s H vs Q E hr h => ?_)
  · obtain ⟨a, o, rfl, _⟩ := h
    rfl
  obtain ⟨a, o, rfl, ha, q⟩ := h
  refine ⟨_, (pss_one (ps_ret (pe_listRev' K rfl T.n_list T.n_reversed (pa_cons (pv 0) pa_nil)))), ?_⟩
  refine ⟨_, rfl, a, _, rfl, SqL.of ha, fun l hl => ?_⟩
  generalize eH : upd H l _ = H1
  have s1 : Same H H1 := eH ▸ Same.new hl
  have e1 : H1 l = _ := eH ▸ upd_same
  clear eH
  exact q l H1 hl s1 (by rw [e1, List.map_reverse])
theorem ok_met (T : Tx mg) (G_check_both : Fn P w K mg base CX0 5 "check_both" ps_check_both spChkBoth) (G_joined : Fn P w K mg base CX0 6 "joined" ps_joined (spJoin joi)) (G_turned : Fn P w K mg base CX0 1 "turned" ps_turned spTurned)
    (D : Df K mg "met" s_met ps_met) : Fn P w K mg base CX0 7 "met" ps_met (spJoin mee) := by
  refine D.fn sc_met (fun vs H Q E h => ?_) (fun f cdv A outer s H vs Q E hr h => ?_)
  · obtain ⟨a, b, o, p, n, rfl, _⟩ := h
    rfl
  obtain ⟨a, b, o, p, n, rfl, ha, hb, ho, hp, h1, h7, q⟩ := h
  refine ⟨_, (pss_cons (ps_expr (pe_callF G_check_both (hr.mono (by decide)) (pa_cons (pv 0) (pa_cons (pv 1) pa_nil)))) (pss_one (ps_ret (pe_callF G_turned (hr.mono (by decide)) (pa_cons (pe_callF G_joined (hr.mono (by decide)) (pa_cons (pe_callF G_turned (hr.mono (by decide)) (pa_cons (pv 0) pa_nil)) (pa_cons (pe_callF G_turned (hr.mono (by decide)) (pa_cons (pv 1) pa_nil)) pa_nil))) pa_nil))))), ?_⟩
  refine ⟨_, rfl, _, rfl, a, b, o, p, n, rfl, ha, hb, ho, hp, h1, h7, fun H1 s1 => ?_⟩
  refine ⟨_, rfl, a, o, rfl, s1 _ _ ha, fun l2 H2 hl2 s2 e2 => ?_⟩
  refine ⟨_, rfl, b, p, rfl, s2 _ _ (s1 _ _ hb), fun l3 H3 hl3 s3 e3 => ?_⟩
  refine ⟨l2, l3, _, _, n, rfl, s3 _ _ e2, e3, ho.rev, hp.rev, h1, h7, fun l4 H4 hl4 s4 e4 => ?_⟩
  refine ⟨l4, _, rfl, e4, fun l5 H5 hl5 s5 e5 => ?_⟩
  have s14 := s1.trans (s2.trans (s3.trans s4))
  exact q l5 H5 (s14.free hl5) (s14.trans s5) e5
end
end Pl
set_option Elab.async false
set_option linter.all false
set_option maxRecDepth 100000
set_option maxHeartbeats 4000000
namespace Pl
open PySem L2 Pc PyProof.Rows
local macro_rules | `(tactic| walk_at "rd") => `(tactic| repeat (first | refine ⟨_, rfl, ?_⟩ | refine ⟨_, _, rfl, rfl, ?_⟩ | refine ⟨Or.inr ⟨by decide, by decide⟩, ?_⟩ | refine ⟨⟨by decide, by decide⟩, ?_⟩ | refine ⟨(by show (0 : Int) < _; first | decide | omega), ?_⟩))
section
variable {P : Program} {w : World} {K : PySem.W.Frag} {mg : Str → Option Value} {base : Heap}
def spOrders : Sp := fun vs H Q _ => ∃ n : Nat, vs = [.int (n : Int)] ∧ n ≤ 4 ∧ ∀ l H' us ds, H l = none → Same H H' → H' l = some (.lst us) → Nss H' us ds → (∀ d ∈ ds, Ord n d) → Q (.ref l) H'
theorem ok_orders (T : Tx mg) (D : Df K mg "_law_orders" s_law_orders ps_law_orders) : Fn P w K mg base CX0 1 "_law_orders" ps_law_orders spOrders := by
  refine D.fn sc_law_orders (fun vs H Q E h => ?_) (fun f cdv A outer s H vs Q E hr h => ?_)
  · obtain ⟨n, rfl, _⟩ := h
    rfl
  obtain ⟨n, rfl, h4, q⟩ := h
  have nd := sc_law_orders.nd
  refine ⟨_, (pss_cons (pset nd 1 (pe_lst (pa_cons (pe_lst pa_nil) pa_nil))) (pss_cons (ps_for PassesOwn.never rfl (pi_range1 rfl T.n_range (pa_cons (pv 0) pa_nil)) (pgn nd 2) (pss_cons (pset nd 3 (pe_lst pa_nil)) (pss_cons (ps_for PassesOwn.never rfl (pi_list' K rfl (pv 1)) (pgn nd 4) (pss_one (ps_for PassesOwn.never rfl (pi_list' K rfl (pe_comp rfl [6] (pi_range1 rfl T.n_range (pa_cons (pv 0) pa_nil)) (fun _ _ _ _ _ => ⟨(pgn nd 6), (pts_one (pt_cmpR (op_notIn_seq' K rfl) (pv 6) (pv 4) rfl)), (pv 6)⟩))) (pgn nd 5) (pss_one (ps_expr (pe_bm' K rfl PySem.F.plainAttrs_list PySem.F.slot_list_append PySem.F.type_list_append mt_append (pv 3) (pa_cons (pe_op op_cat (pv 4) (pe_lst (pa_cons (pv 5) pa_nil))) pa_nil))))))) (pss_one (pset nd 1 (pv 3)))))) (pss_one (ps_ret (pv 1))))), ?_⟩
  refine ⟨Nat.zero_le _, fun l0 hl0 => ?_⟩
  generalize eH : upd H l0 _ = H1
  have s1 : Same H H1 := eH ▸ Same.new hl0
  have e1 : H1 l0 = _ := eH ▸ upd_same
  clear eH
  refine ⟨Nat.le_of_lt (small1000 (show 1 ≤ 1000 by omega)), fun l1 hl1 => ?_⟩
  generalize eH : upd H1 l1 _ = H2
  have s2 : Same H1 H2 := eH ▸ Same.new hl1
  have e2 : H2 l1 = _ := eH ▸ upd_same
  clear eH
  refine ⟨_, rfl, (n : Int), rfl, by omega, by omega, for_range (lo := 0) (n := (n : Int).toNat) (fun t σ H' => ∃ (lf : Addr) (us : List V) (ds : List (List Int)) (v2 v3 v4 v5 v6 : Option V), σ = [some (.int (n : Int)), some (.ref lf), v2, v3, v4, v5, v6] ∧ H lf = none ∧ Same H H' ∧ H' lf = some (.lst us) ∧ Nss H' us ds ∧ (∀ d ∈ ds, Pre n t d) ∧ us.length ≤ 4 ^ t)
    ⟨l1, _, [[]], _, _, _, _, _, rfl, s1.free hl1, s1.trans s2, e2, .cons ⟨l0, rfl, s2 _ _ e1⟩ .nil, fun d hd => by rw [List.mem_singleton] at hd; rw [hd]; exact Pre.nil n, Nat.le_refl _⟩ (fun t σ H' ht h => ?_) (fun σ H' h => ?_)⟩
  · obtain ⟨lf, us, ds, v2, v3, v4, v5, v6, rfl, hlf, s3, e3, nu, pd, ul⟩ := h
    have ht : t < n := by omega
    have u64 : us.length ≤ 64 := Nat.le_trans ul (Nat.pow_le_pow_right (by omega) (show t ≤ 3 by omega))
    refine ⟨Nat.zero_le _, fun lm hlm => ?_⟩
    generalize eH : upd H' lm _ = H4
    have s4 : Same H' H4 := eH ▸ Same.new hlm
    have e4 : H4 lm = _ := eH ▸ upd_same
    clear eH
    have nfm : lf ≠ lm := ne_of_none e3 hlm
    refine ⟨_, rfl, lf, rfl, ⟨_, SqL.of (s4 _ _ e3)⟩, for_list (xs := us) (fun i σ H5 => ∃ (um : List V) (dm : List (List Int)) (v4 v5 v6 : Option V), σ = [some (.int (n : Int)), some (.ref lf), some (.int ((0 : Int) + (t : Int))), some (.ref lm), v4, v5, v6] ∧ Same H' H5 ∧ H5 lm = some (.lst um) ∧ Nss H5 um dm ∧ V.ref lm ∉ um ∧ (∀ d ∈ dm, Pre n (t + 1) d) ∧ um.length ≤ 4 * i)
      ⟨[], [], _, _, _, rfl, s4, e4, .nil, by simp, fun d hd => by simp at hd, Nat.zero_le _⟩ (fun i σ H5 _ h => ?_) (fun i x σ H5 hx h => ?_) (fun σ H5 h => ?_)⟩
    · obtain ⟨_, _, _, _, _, _, s5, _⟩ := h
      exact SqL.of (s5 _ _ e3)
    · obtain ⟨um, dm, v4, v5, v6, rfl, s5, e5, nm, nlm, pm, ml⟩ := h
      have hi : i < us.length := (List.getElem?_eq_some_iff.mp hx).1
      obtain ⟨ls, d, rfl, hd, hls⟩ := (nu.same s5).get hx
      have pdd := pd d (List.mem_of_getElem? hd)
      refine ⟨_, rfl, (n : Int), rfl, by omega, by omega, comp_feed (n := (n : Int).toNat) feeds_range (by omega) (fun i => !decide ((i : Int) ∈ d)) (fun i => .int ((0 : Int) + (i : Int))) rfl (fun i x H6 R' hi s6 p h => ?_) (fun i x H6 R' hi s6 p hb h => ?_) (fun _ _ _ _ _ p => p) ?_⟩
      · subst p
        refine ⟨_, rfl, _, rfl, ls, _, rfl, .inl (SqL.of (s6 _ _ hls)), rfl, flat_ints d, _, rfl, ?_⟩
        rw [if_pos rfl, inV_ints, Int.zero_add]
        exact h _ (Same.refl _)
      · subst p
        exact ⟨_, rfl, h _ (Same.refl _)⟩
      intro lc H6 hlc s6 e6
      rw [Int.toNat_natCast] at e6
      generalize eC : (List.range n).filter (fun (i : Nat) => !decide ((i : Int) ∈ d)) = C at e6
      have cl : C.length ≤ n := by
        rw [← eC]
        have := List.length_filter_le (fun i : Nat => !decide ((i : Int) ∈ d)) (List.range n)
        rw [List.length_range] at this
        exact this
      have memC : ∀ k ∈ C, k < n ∧ (k : Int) ∉ d := fun k hk => by
        rw [← eC, List.mem_filter] at hk
        exact ⟨List.mem_range.mp hk.1, by simpa using hk.2⟩
      have ncm : lc ≠ lm := (ne_of_none e5 hlc).symm
      refine ⟨lc, rfl, ⟨_, SqL.of e6⟩, for_list (xs := C.map fun (i : Nat) => V.int ((0 : Int) + (i : Int))) (fun j σ H7 => ∃ (um : List V) (dm : List (List Int)) (v5 v6 : Option V), σ = [some (.int (n : Int)), some (.ref lf), some (.int ((0 : Int) + (t : Int))), some (.ref lm), some (.ref ls), v5, v6] ∧ Same H' H7 ∧ H7 lm = some (.lst um) ∧ Nss H7 um dm ∧ V.ref lm ∉ um ∧ (∀ d ∈ dm, Pre n (t + 1) d) ∧ um.length ≤ 4 * i + j ∧ H7 lc = some (.lst (C.map fun (i : Nat) => V.int ((0 : Int) + (i : Int)))) ∧ H7 ls = some (.lst (d.map V.int)))
        ⟨um, dm, _, _, rfl, s5.trans s6, s6 _ _ e5, nm.same s6, nlm, pm, by omega, e6, s6 _ _ hls⟩ (fun j σ H7 _ h => ?_) (fun j x σ H7 hx2 h => ?_) (fun σ H7 h => ?_)⟩
      · obtain ⟨_, _, _, _, _, _, _, _, _, _, _, h, _⟩ := h
        exact SqL.of h
      · obtain ⟨um7, dm7, v5, v6, rfl, s7, e7, nm7, nlm7, pm7, ml7, hc7, hs7⟩ := h
        rw [List.getElem?_map] at hx2
        obtain ⟨k, hk, rfl⟩ := Option.map_eq_some_iff.mp hx2
        have hjC : j < C.length := (List.getElem?_eq_some_iff.mp hk).1
        obtain ⟨k1, k2⟩ := memC k (List.mem_of_getElem? hk)
        have nsm : ls ≠ lm := fun z => by
          have := nu.get hx
          obtain ⟨l9, d9, h1, _, h3⟩ := this
          injection h1 with h1
          rw [← h1, z, hlm] at h3
          cases h3
        refine ⟨_, rfl, .inl ⟨rfl, _, SqL.of e7⟩, _, rfl, _, rfl, Nat.le_of_lt (small1000 (show 1 ≤ 1000 by omega)), fun p1 hp1 => ?_⟩
        generalize eH : upd H7 p1 _ = H8
        have s8 : Same H7 H8 := eH ▸ Same.new hp1
        have e8 : H8 p1 = _ := eH ▸ upd_same
        clear eH
        refine ⟨ls, p1, _, _, rfl, rfl, s8 _ _ hs7, e8, Nat.le_of_lt (small1000 (by rw [List.length_map, pdd.len]; simp; omega)), fun p2 hp2 => ?_⟩
        generalize eH : upd H8 p2 _ = H9
        have s9 : Same H8 H9 := eH ▸ Same.new hp2
        have e9 : H9 p2 = _ := eH ▸ upd_same
        clear eH
        have s89 := s8.trans s9
        have e79 := s89 _ _ e7
        refine ⟨lm, _, _, rfl, rfl, e79, small1000 (by omega), ?_⟩
        have np2 : p2 ≠ lm := (ne_of_none (s8 _ _ e7) hp2).symm
        refine ⟨um7 ++ [.ref p2], dm7 ++ [d ++ [(k : Int)]], _, _, rfl, (s7.trans s89).put hlm, upd_same, ?_, ?_, ?_, ?_, ?_, ?_⟩
        · refine Paired.snoc (Nss.mono (fun l d m hl => ?_) (nm7.same s89)) ⟨p2, rfl, ?_⟩
          · rw [upd_ne (fun z => nlm7 (by rw [← z]; exact m))]; exact hl
          · rw [upd_ne np2, e9, List.map_append, Int.zero_add]; rfl
        · simp only [List.mem_append, List.mem_singleton, not_or]
          exact ⟨nlm7, fun z => np2 (by injection z with z; exact z.symm)⟩
        · intro y hy
          rcases List.mem_append.mp hy with z | z
          · exact pm7 y z
          · rw [List.mem_singleton] at z
            rw [z]
            exact pdd.snoc (by omega) k2
        · rw [List.length_append, List.length_singleton]; omega
        · rw [upd_ne ncm]; exact s89 _ _ hc7
        · rw [upd_ne nsm]; exact s89 _ _ hs7
      · obtain ⟨um7, dm7, v5, v6, rfl, s7, e7, nm7, nlm7, pm7, ml7, hc7, hs7⟩ := h
        rw [List.length_map] at ml7
        exact ⟨um7, dm7, _, _, _, rfl, s7, e7, nm7, nlm7, pm7, by omega⟩
    · obtain ⟨um, dm, v4, v5, v6, rfl, s5, e5, nm, nlm, pm, ml⟩ := h
      refine ⟨_, rfl, lm, um, dm, _, _, _, _, _, rfl, s3.free hlm, s3.trans s5, e5, nm, pm, ?_⟩
      rw [Nat.pow_succ]
      omega
  · obtain ⟨lf, us, ds, v2, v3, v4, v5, v6, rfl, hlf, s3, e3, nu, pd, ul⟩ := h
    rw [Int.toNat_natCast] at pd
    exact ⟨_, rfl, q lf H' us ds hlf s3 e3 nu fun d hd => (pd d hd).ord⟩
theorem all_in (L M : List (Int × Int)) : (((List.range L.length).map fun i => decide (L.getD i (0, 0) ∈ M)).all id) = sb9 L M := by
  unfold sb9
  rw [List.all_map]
  apply Bool.eq_iff_iff.mpr
  rw [List.all_eq_true, List.all_eq_true]
  constructor
  · intro h x hx
    obtain ⟨i, hi, e⟩ := List.mem_iff_getElem.mp hx
    have := h i (List.mem_range.mpr hi)
    simp only [Function.comp, id, List.getD_eq_getElem?_getD, List.getElem?_eq_getElem hi, Option.getD_some, e] at this
    exact this
  · intro h i hi
    have hi := List.mem_range.mp hi
    simp only [Function.comp, id, List.getD_eq_getElem?_getD, List.getElem?_eq_getElem hi, Option.getD_some]
    exact h _ (List.getElem_mem hi)
def spAll : Sp := fun vs H Q _ => ∃ (a b : Addr) (us ws : List V) (ps qs : List (Int × Int)), vs = [.ref a, .ref b] ∧ H a = some (.lst us) ∧ Prs H us ps ∧ H b = some (.lst ws) ∧ Prs H ws qs ∧ ps.length ≤ 1000 ∧ ∀ H', Same H H' → Q (.bl (sb9 ps qs)) H'
theorem ok_all (T : Tx mg) (D : Df K mg "_law_all" s_law_all ps_law_all) : Fn P w K mg base CX0 1 "_law_all" ps_law_all spAll := by
  refine D.fn sc_law_all (fun vs H Q E h => ?_) (fun f cdv A outer s H vs Q E hr h => ?_)
  · obtain ⟨a, b, us, ws, ps, qs, rfl, _⟩ := h
    rfl
  obtain ⟨a, b, us, ws, ps, qs, rfl, ha, pa, hb, pb, hl, q⟩ := h
  have nd := sc_law_all.nd
  have hu := hr.units
  have pol := pa.length
  refine ⟨_, (pss_one (ps_ret (pe_callB (call_allL' K rfl rfl) rfl T.n_all boot_all (pa_cons (pe_comp rfl [2] (pi_list' K rfl (pv 0)) (fun _ _ _ _ _ => ⟨(pgn nd 2), pts_nil, (pe_cmpR (op_inD' K rfl hu) (pv 2) (pv 1) rfl)⟩)) pa_nil)))), ?_⟩
  refine ⟨_, rfl, a, rfl, ⟨_, SqL.of ha⟩, comp_feed (feeds_list (SqL.of ha)) (by omega) (fun _ => true) (fun i => .bl (decide (ps.getD i (0, 0) ∈ qs))) rfl (fun i x H' R hi s4 p h => h H' (Same.refl _)) (fun i x H' R hi s4 pp hb' h => ?_) (fun _ _ _ _ _ p => p) ?_⟩
  · have ip4 : IsPr H' x (ps.getD i (0, 0)) := by
      obtain ⟨z, e, hz⟩ := pr_at pa pp
      exact ⟨z, e, s4 _ _ hz⟩
    refine ⟨_, rfl, _, rfl, prD _, _, pr_den ip4, .lst (SqL.of (s4 _ _ hb)) (Prs.mono (TupK.same s4) pb).den, lay_pr _, lay_prs _, dep_pr _, ?_⟩
    rw [if_neg (by simp), any_prs]
    exact h H' (Same.refl _)
  · intro D' H' hD s4 e4
    refine ⟨D', (List.range ps.length).map fun i => decide (ps.getD i (0, 0) ∈ qs), rfl, SqL.of ?_, ?_⟩
    · rw [e4, List.filter_eq_self.mpr (fun _ _ => rfl), List.map_map, pol]
      rfl
    rw [all_in]
    exact q H' s4
def spBest : Sp := fun vs H Q _ => ∃ (a b c d : Addr) (o p : List Int) (n : Nat), vs = [.ref a, .ref b, .ref c, .ref d] ∧ H a = some (.lst (o.map V.int)) ∧ H b = some (.lst (p.map V.int)) ∧ H c = some (.lst ((joi n o p).map V.int)) ∧ H d = some (.lst ((mee n o p).map V.int)) ∧ Ord n o ∧ Ord n p ∧ 1 ≤ n ∧ n ≤ 4 ∧ ∀ H', Same H H' → Q (.bl true) H'
theorem ok_best (T : Tx mg) (G_law_pairs : Fn P w K mg base CX0 1 "_law_pairs" ps_law_pairs (spPairs K)) (G_law_all : Fn P w K mg base CX0 1 "_law_all" ps_law_all spAll) (G_law_orders : Fn P w K mg base CX0 1 "_law_orders" ps_law_orders spOrders)
    (D : Df K mg "_law_best" s_law_best ps_law_best) : Fn P w K mg base CX0 2 "_law_best" ps_law_best spBest := by
  refine D.fn sc_law_best (fun vs H Q E h => ?_) (fun f cdv A outer s H vs Q E hr h => ?_)
  · obtain ⟨a, b, c, d, o, p, n, rfl, _⟩ := h
    rfl
  obtain ⟨a, b, c, d, o, p, n, rfl, ha, hb, hc, hd, ho, hp, h1, h4, q⟩ := h
  have nd := sc_law_best.nd
  have h7 : n ≤ 7 := by omega
  have oj := joi_ord ho hp
  have om := mee_ord ho hp
  have l49 : ∀ {x : List Int}, (prs x n n).length ≤ 49 := fun {x} => by
    have := prs_small (o := x) h7 n
    omega
  refine ⟨_, (pss_cons (ps_par (i := 4) (j := 5) rfl nd rfl rfl (by decide) rfl rfl (pa_cons (pe_callF G_law_pairs (hr.mono (by decide)) (pa_cons (pv 0) pa_nil)) (pa_cons (pe_callF G_law_pairs (hr.mono (by decide)) (pa_cons (pv 1) pa_nil)) pa_nil)) rfl) (pss_cons (ps_par (i := 6) (j := 7) rfl nd rfl rfl (by decide) rfl rfl (pa_cons (pe_callF G_law_pairs (hr.mono (by decide)) (pa_cons (pv 2) pa_nil)) (pa_cons (pe_callF G_law_pairs (hr.mono (by decide)) (pa_cons (pv 3) pa_nil)) pa_nil)) rfl) (pss_cons (ps_if (pt_not (pt_val (pe_callF G_law_all (hr.mono (by decide)) (pa_cons (pe_op op_cat (pv 4) (pv 5)) (pa_cons (pv 6) pa_nil))))) (pss_one (ps_ret pe_bl)) pss_nil) (pss_cons (ps_if (PW.pt (pw_or (pt_not (pt_val (pe_callF G_law_all (hr.mono (by decide)) (pa_cons (pv 7) (pa_cons (pv 4) pa_nil))))) (pw_or1 (pt_not (pt_val (pe_callF G_law_all (hr.mono (by decide)) (pa_cons (pv 7) (pa_cons (pv 5) pa_nil)))))))) (pss_one (ps_ret pe_bl)) pss_nil) (pss_cons (ps_for PassesOwn.never rfl (pi_list' K rfl (pe_callF G_law_orders (hr.mono (by decide)) (pa_cons (pe_callB (call_len_seq' K rfl) rfl T.n_len PySem.boot_len (pa_cons (pv 0) pa_nil)) pa_nil))) (pgn nd 8) (pss_cons (pset nd 9 (pe_callF G_law_pairs (hr.mono (by decide)) (pa_cons (pv 8) pa_nil))) (pss_cons (ps_if (PW.pt (pw_and (pt_val (pe_callF G_law_all (hr.mono (by decide)) (pa_cons (pe_op op_cat (pv 4) (pv 5)) (pa_cons (pv 9) pa_nil)))) (pw_and1 (pt_not (pt_val (pe_callF G_law_all (hr.mono (by decide)) (pa_cons (pv 6) (pa_cons (pv 9) pa_nil)))))))) (pss_one (ps_ret pe_bl)) pss_nil) (pss_cons (pset nd 10 (pe_and (pe_callF G_law_all (hr.mono (by decide)) (pa_cons (pv 9) (pa_cons (pv 4) pa_nil))) (pe_one (pe_callF G_law_all (hr.mono (by decide)) (pa_cons (pv 9) (pa_cons (pv 5) pa_nil)))))) (pss_one (ps_if (PW.pt (pw_and (pt_val (pv 10)) (pw_and1 (pt_not (pt_val (pe_callF G_law_all (hr.mono (by decide)) (pa_cons (pv 9) (pa_cons (pv 7) pa_nil)))))))) (pss_one (ps_ret pe_bl)) pss_nil)))))) (pss_one (ps_ret pe_bl))))))), ?_⟩
  refine ⟨_, rfl, a, o, n, rfl, SqL.of ha, ho, h7, fun l1 H1 u1 hl1 s1 e1 p1 => ?_⟩
  refine ⟨_, rfl, b, p, n, rfl, SqL.of (s1 _ _ hb), hp, h7, fun l2 H2 u2 hl2 s2 e2 p2 => ⟨_, _, rfl, ?_⟩⟩
  have t2 := s1.trans s2
  refine ⟨_, rfl, c, _, n, rfl, SqL.of (t2 _ _ hc), oj, h7, fun l3 H3 u3 hl3 s3 e3 p3 => ?_⟩
  refine ⟨_, rfl, d, _, n, rfl, SqL.of (s3 _ _ (t2 _ _ hd)), om, h7, fun l4 H4 u4 hl4 s4 e4 p4 => ⟨_, _, rfl, ?_⟩⟩
  have s34 := s3.trans s4
  have s24 := s2.trans s34
  have f1 := s24 _ _ e1
  have f2 := s34 _ _ e2
  have f3 := s4 _ _ e3
  replace p1 := Prs.mono (TupK.same s24) p1
  replace p2 := Prs.mono (TupK.same s34) p2
  replace p3 := Prs.mono (TupK.same s4) p3
  have t4 := t2.trans s34
  clear s1 s2 s3 s4 e1 e2 e3 hl1 hl2 hl3 hl4 t2 s34 s24
  have q1 := p1.length
  have q2 := p2.length
  have w1 := l49 (x := o)
  have w2 := l49 (x := p)
  refine ⟨_, rfl, _, rfl, l1, l2, _, _, rfl, rfl, f1, f2, Nat.le_of_lt (small1000 (by omega)), fun l5 hl5 => ?_⟩
  generalize eH : upd H4 l5 _ = H5
  have s5 : Same H4 H5 := eH ▸ Same.new hl5
  have e5 : H5 l5 = _ := eH ▸ upd_same
  clear eH
  refine ⟨_, rfl, l5, l3, _, _, _, _, rfl, e5, prs_cat (Prs.mono (TupK.same s5) p1) (Prs.mono (TupK.same s5) p2), s5 _ _ f3, Prs.mono (TupK.same s5) p3, by rw [List.length_append]; omega, fun H6 s6 => ⟨_, rfl, ?_⟩⟩
  rw [sb9_append.mpr ⟨joi_l ho hp, joi_r ho hp⟩]
  refine iteF ?_
  have s46 := s5.trans s6
  have g1 := s46 _ _ f1
  have g2 := s46 _ _ f2
  have g3 := s46 _ _ f3
  have g4 := s46 _ _ e4
  replace p1 := Prs.mono (TupK.same s46) p1
  replace p2 := Prs.mono (TupK.same s46) p2
  replace p3 := Prs.mono (TupK.same s46) p3
  replace p4 := Prs.mono (TupK.same s46) p4
  have t6 := t4.trans s46
  clear f1 f2 f3 e4 s46 s5 s6 t4 e5 hl5
  refine ⟨_, rfl, _, rfl, l4, l1, _, _, _, _, rfl, g4, p4, g1, p1, Nat.le_trans l49 (by omega), fun H7 s7 => ⟨_, rfl, ?_⟩⟩
  rw [sb9_iff.mpr (mee_l ho hp)]
  refine iteF ?_
  refine ⟨_, rfl, _, rfl, l4, l2, _, _, _, _, rfl, s7 _ _ g4, Prs.mono (TupK.same s7) p4, s7 _ _ g2, Prs.mono (TupK.same s7) p2, Nat.le_trans l49 (by omega), fun H8 s8 => ⟨_, rfl, ?_⟩⟩
  rw [sb9_iff.mpr (mee_r ho hp)]
  refine iteF ?_
  have s68 := s7.trans s8
  have t8 := t6.trans s68
  refine ⟨_, rfl, a, _, rfl, .inl (SqL.of (t8 _ _ ha)), n, by rw [List.length_map, ho.length]; rfl, h4, fun l9 H9 us ds hl9 s9 e9 nu od => ?_⟩
  have s69 := s68.trans s9
  have k1 := s69 _ _ g1
  have k2 := s69 _ _ g2
  have k3 := s69 _ _ g3
  have k4 := s69 _ _ g4
  replace p1 := Prs.mono (TupK.same s69) p1
  replace p2 := Prs.mono (TupK.same s69) p2
  replace p3 := Prs.mono (TupK.same s69) p3
  replace p4 := Prs.mono (TupK.same s69) p4
  have t9 := t6.trans s69
  clear g1 g2 g3 g4 s69 s68 t8 s7 s8 s9 t6 hl9
  refine ⟨l9, rfl, ⟨_, SqL.of e9⟩, for_list (xs := us) (fun i σ H' => ∃ (v8 v9 v10 : Option V), σ = [some (.ref a), some (.ref b), some (.ref c), some (.ref d), some (.ref l1), some (.ref l2), some (.ref l3), some (.ref l4), v8, v9, v10] ∧ Same H9 H')
    ⟨_, _, _, rfl, Same.refl _⟩ (fun i σ H' _ h => ?_) (fun i x σ H' hx h => ?_) (fun σ H' h => ?_)⟩
  · obtain ⟨_, _, _, _, s⟩ := h
    exact SqL.of (s _ _ e9)
  · obtain ⟨v8, v9, v10, rfl, sA⟩ := h
    obtain ⟨lx, x, rfl, hxd, hlx⟩ := (nu.same sA).get hx
    have ox := od x (List.mem_of_getElem? hxd)
    refine ⟨_, rfl, lx, x, n, rfl, SqL.of hlx, ox, h7, fun lp HB up hlp sB eB pB => ?_⟩
    have sAB := sA.trans sB
    refine ⟨_, rfl, _, rfl, l1, l2, _, _, rfl, rfl, sAB _ _ k1, sAB _ _ k2, Nat.le_of_lt (small1000 (by omega)), fun l5 hl5 => ?_⟩
    generalize eH : upd HB l5 _ = HC
    have sC : Same HB HC := eH ▸ Same.new hl5
    have eC : HC l5 = _ := eH ▸ upd_same
    clear eH
    have sAC := sAB.trans sC
    refine ⟨_, rfl, l5, lp, _, _, _, _, rfl, eC, prs_cat (Prs.mono (TupK.same sAC) p1) (Prs.mono (TupK.same sAC) p2), sC _ _ eB, Prs.mono (TupK.same sC) pB, by rw [List.length_append]; omega, fun HD sD => ⟨_, rfl, ?_⟩⟩
    have sAD := sAC.trans sD
    have sBD := sC.trans sD
    cases c1 : sb9 (prs o n n ++ prs p n n) (prs x n n) with
    | true =>
      refine iteT ?_
      refine ⟨_, rfl, _, rfl, l3, lp, _, _, _, _, rfl, sAD _ _ k3, Prs.mono (TupK.same sAD) p3, sBD _ _ eB, Prs.mono (TupK.same sBD) pB, Nat.le_trans l49 (by omega), fun HE sE => ⟨_, rfl, ?_⟩⟩
      rw [sb9_iff.mpr (joi_least ho hp (sb9_append.mp c1).1 (sb9_append.mp c1).2)]
      refine iteF ?_
      have sAE := sAD.trans sE
      have sBE := sBD.trans sE
      refine ⟨_, rfl, _, rfl, lp, l1, _, _, _, _, rfl, sBE _ _ eB, Prs.mono (TupK.same sBE) pB, sAE _ _ k1, Prs.mono (TupK.same sAE) p1, Nat.le_trans l49 (by omega), fun HF sF => ⟨_, rfl, ?_⟩⟩
      have sAF := sAE.trans sF
      have sBF := sBE.trans sF
      cases c2 : sb9 (prs x n n) (prs o n n) with
      | false => exact iteF ⟨_, rfl, _, rfl, iteF (iteF ⟨_, _, _, rfl, sAF⟩)⟩
      | true =>
        refine iteT ⟨_, rfl, _, rfl, lp, l2, _, _, _, _, rfl, sBF _ _ eB, Prs.mono (TupK.same sBF) pB, sAF _ _ k2, Prs.mono (TupK.same sAF) p2, Nat.le_trans l49 (by omega), fun HG sG => ?_⟩
        have sAG := sAF.trans sG
        have sBG := sBF.trans sG
        cases c3 : sb9 (prs x n n) (prs p n n) with
        | false => exact ⟨_, rfl, _, rfl, iteF (iteF ⟨_, _, _, rfl, sAG⟩)⟩
        | true =>
          refine ⟨_, rfl, _, rfl, iteT ⟨_, rfl, _, rfl, lp, l4, _, _, _, _, rfl, sBG _ _ eB, Prs.mono (TupK.same sBG) pB, sAG _ _ k4, Prs.mono (TupK.same sAG) p4, Nat.le_trans l49 (by omega), fun HJ sJ => ⟨_, rfl, ?_⟩⟩⟩
          rw [sb9_iff.mpr (mee_most ho hp ox (sb9_iff.mp c2) (sb9_iff.mp c3))]
          exact iteF ⟨_, _, _, rfl, sAG.trans sJ⟩
    | false =>
      refine iteF (iteF ?_)
      refine ⟨_, rfl, _, rfl, lp, l1, _, _, _, _, rfl, sBD _ _ eB, Prs.mono (TupK.same sBD) pB, sAD _ _ k1, Prs.mono (TupK.same sAD) p1, Nat.le_trans l49 (by omega), fun HF sF => ⟨_, rfl, ?_⟩⟩
      have sAF := sAD.trans sF
      have sBF := sBD.trans sF
      cases c2 : sb9 (prs x n n) (prs o n n) with
      | false => exact iteF ⟨_, rfl, _, rfl, iteF (iteF ⟨_, _, _, rfl, sAF⟩)⟩
      | true =>
        refine iteT ⟨_, rfl, _, rfl, lp, l2, _, _, _, _, rfl, sBF _ _ eB, Prs.mono (TupK.same sBF) pB, sAF _ _ k2, Prs.mono (TupK.same sAF) p2, Nat.le_trans l49 (by omega), fun HG sG => ?_⟩
        have sAG := sAF.trans sG
        have sBG := sBF.trans sG
        cases c3 : sb9 (prs x n n) (prs p n n) with
        | false => exact ⟨_, rfl, _, rfl, iteF (iteF ⟨_, _, _, rfl, sAG⟩)⟩
        | true =>
          refine ⟨_, rfl, _, rfl, iteT ⟨_, rfl, _, rfl, lp, l4, _, _, _, _, rfl, sBG _ _ eB, Prs.mono (TupK.same sBG) pB, sAG _ _ k4, Prs.mono (TupK.same sAG) p4, Nat.le_trans l49 (by omega), fun HJ sJ => ⟨_, rfl, ?_⟩⟩⟩
          rw [sb9_iff.mpr (mee_most ho hp ox (sb9_iff.mp c2) (sb9_iff.mp c3))]
          exact iteF ⟨_, _, _, rfl, sAG.trans sJ⟩
  · obtain ⟨v8, v9, v10, rfl, sA⟩ := h
    exact q H' (t9.trans sA)
end
end Pl
set_option Elab.async false
set_option linter.all false
set_option maxRecDepth 100000
set_option maxHeartbeats 4000000
namespace Pl
open PySem L2 Pc PyProof.Rows
local macro_rules | `(tactic| walk_at "rd") => `(tactic| repeat (first | refine ⟨_, rfl, ?_⟩ | refine ⟨_, _, rfl, rfl, ?_⟩ | refine ⟨Or.inr ⟨by decide, by decide⟩, ?_⟩ | refine ⟨⟨by decide, by decide⟩, ?_⟩ | refine ⟨(by show (0 : Int) < _; first | decide | omega), ?_⟩))
section
variable {P : Program} {w : World} {K : PySem.W.Frag} {mg : Str → Option Value} {base : Heap}
def spFol : Sp := fun vs H Q _ => ∃ (a : Addr) (n : Nat) (us : List V) (L : List (Int × Int)), vs = [.ref a, .int (n : Int)] ∧ n ≤ 7 ∧ H a = some (.lst us) ∧ Prs H us L ∧ Lo n L ∧
  ∀ l H' us' F ps, H l = none → Same H H' → H' l = some (.lst us') → Prs H' us' ps → Fol n (inS L) F → Cov (inS L) (n + 1) F → ps.Perm F → ps.Pairwise (fun a b => 1000 * a.1 + a.2 ≤ 1000 * b.1 + b.2) → Q (.ref l) H'
theorem ok_fol (T : Tx mg) (D : Df K mg "_law_followed" s_law_followed ps_law_followed) : Fn P w K mg base CX0 1 "_law_followed" ps_law_followed spFol := by
  refine D.fn sc_law_followed (fun vs H Q E h => ?_) (fun f cdv A outer s H vs Q E hr h => ?_)
  · obtain ⟨a, n, us, L, rfl, _⟩ := h
    rfl
  obtain ⟨a, n, us, L, rfl, h7, ha, pu, lo, q⟩ := h
  have nd := sc_law_followed.nd
  have hu := hr.units
  have hu16 := Nat.lt_of_le_of_lt (Nat.add_le_add_left (show 16 ≤ 64 by decide) _) hu
  have hl := lo.low
  refine ⟨_, (pss_cons (pset nd 2 (pe_sortedSetP K rfl hu16 T.n_sorted T.n_set (pa_cons (pv 0) pa_nil))) (pss_cons (ps_for PassesOwn.never rfl (pi_range1 rfl T.n_range (pa_cons (pv 1) pa_nil)) (pgn nd 3) (pss_one (ps_for PassesOwn.never rfl (pi_list' K rfl (pe_callTy (call_list_of' K rfl) rfl T.n_list boot_list (pa_cons (pv 2) pa_nil))) (pg_tup' K rfl (n := 2) rfl (pgs_cons (pgn nd 4) (pgs_cons (pgn nd 5) pgs_nil))) (pss_one (ps_for PassesOwn.never rfl (pi_list' K rfl (pe_callTy (call_list_of' K rfl) rfl T.n_list boot_list (pa_cons (pv 2) pa_nil))) (pg_tup' K rfl (n := 2) rfl (pgs_cons (pgn nd 6) (pgs_cons (pgn nd 7) pgs_nil))) (pss_one (ps_if (PW.pt (pw_and (pt_cmpR op_eq (pv 6) (pv 5) (nomark _)) (pw_and1 (pt_cmpR (op_notInD' K rfl hu) (pe_tup (pa_cons (pv 4) (pa_cons (pv 7) pa_nil))) (pv 2) rfl)))) (pss_one (ps_expr (pe_bm' K rfl PySem.F.plainAttrs_list PySem.F.slot_list_append PySem.F.type_list_append mt_append (pv 2) (pa_cons (pe_tup (pa_cons (pv 4) (pa_cons (pv 7) pa_nil))) pa_nil)))) pss_nil))))))) (pss_one (ps_ret (pe_callB (call_sortedP' K rfl) rfl T.n_sorted boot_sorted (pa_cons (pv 2) pa_nil)))))), ?_⟩
  refine ⟨_, rfl, a, us, L, rfl, SqL.of ha, pu, fun p hp => ?_, fun ps hn hp => lo_len h7 hn fun x hx => lo x (hp x hx), fun lf us1 ps1 hlf pu1 nd1 mem1 so1 => ?_⟩
  · have := lo p hp
    exact ⟨this.1, by omega, by omega, by omega⟩
  generalize eH : upd H lf _ = H1
  have s1 : Same H H1 := eH ▸ Same.new hlf
  have e1 : H1 lf = _ := eH ▸ upd_same
  clear eH
  have f1 : Fol n (inS L) ps1 := fol_start nd1 mem1
  refine ⟨_, rfl, (n : Int), rfl, by omega, by omega, for_range (lo := 0) (n := (n : Int).toNat) (fun t σ H' => ∃ (us : List V) (F : List (Int × Int)) (v3 v4 v5 v6 v7 : Option V), σ = [some (.ref a), some (.int (n : Int)), some (.ref lf), v3, v4, v5, v6, v7] ∧ Same H H' ∧ H' lf = some (.lst us) ∧ Prs H' us F ∧ Fol n (inS L) F ∧ Cov (inS L) (t + 1) F)
    ⟨us1, ps1, _, _, _, _, _, rfl, s1, e1, Prs.mono (TupK.same s1) pu1, f1, cov_start hl f1.sub⟩ (fun t σ H' ht h => ?_) (fun σ H' h => ?_)⟩
  · obtain ⟨us, X, v3, v4, v5, v6, v7, rfl, s2, e2, pX, fX, cX⟩ := h
    have xl := lo_len h7 fX.nd (fX.lo hl)
    have ul := pX.length
    refine ⟨_, rfl, lf, _, rfl, .inl (SqL.of e2), fun lx hlx => ?_⟩
    generalize eH : upd H' lx _ = H3
    have s3 : Same H' H3 := eH ▸ Same.new hlx
    have e3 : H3 lx = _ := eH ▸ upd_same
    clear eH
    have nx : lx ≠ lf := (ne_of_none e2 hlx).symm
    refine ⟨lx, rfl, ⟨_, SqL.of e3⟩, for_list (xs := us) (fun i σ H4 => ∃ (us2 : List V) (F : List (Int × Int)) (v4 v5 v6 v7 : Option V), σ = [some (.ref a), some (.int (n : Int)), some (.ref lf), some (.int ((0 : Int) + (t : Int))), v4, v5, v6, v7] ∧ Same H H4 ∧ H4 lx = some (.lst us) ∧ Prs H4 us X ∧ H4 lf = some (.lst us2) ∧ Prs H4 us2 F ∧ Fol n (inS L) F ∧ (∀ p ∈ X, p ∈ F) ∧ (∀ x m b, (x, m) ∈ X.take i → (m, b) ∈ X → (x, b) ∈ F))
      ⟨us, X, _, _, _, _, rfl, s2.trans s3, e3, Prs.mono (TupK.same s3) pX, s3 _ _ e2, Prs.mono (TupK.same s3) pX, fX, fun _ h => h, fun x m b hx => by simp at hx⟩ (fun i σ H4 _ h => ?_) (fun i x σ H4 hx h => ?_) (fun σ H4 h => ?_)⟩
    · obtain ⟨_, _, _, _, _, _, _, _, h, _⟩ := h
      exact SqL.of h
    · obtain ⟨us2, Y, v4, v5, v6, v7, rfl, s4, ex4, pX4, ef4, pY, fY, subX, done⟩ := h
      obtain ⟨⟨low, mid⟩, hp, b, rfl, hb⟩ := pr_get pX4 hx
      have yl := lo_len h7 fY.nd (fY.lo hl)
      have ul2 := pY.length
      have mx : (low, mid) ∈ X := List.mem_of_getElem? hp
      refine ⟨b, _, rfl, SqT.of hb, rfl, _, _, rfl, _, _, rfl, rfl, ?_⟩
      refine ⟨_, rfl, lf, _, rfl, .inl (SqL.of ef4), fun ly hly => ?_⟩
      generalize eH : upd H4 ly _ = H5
      have s5 : Same H4 H5 := eH ▸ Same.new hly
      have e5 : H5 ly = _ := eH ▸ upd_same
      clear eH
      have ny : ly ≠ lf := (ne_of_none ef4 hly).symm
      have nyx : lx ≠ ly := ne_of_none ex4 hly
      have et : X.take (i + 1) = X.take i ++ [(low, mid)] := by rw [List.take_succ, hp]; rfl
      refine ⟨ly, rfl, ⟨_, SqL.of e5⟩, for_list (xs := us2) (fun j σ H6 => ∃ (us3 : List V) (F : List (Int × Int)) (v6 v7 : Option V), σ = [some (.ref a), some (.int (n : Int)), some (.ref lf), some (.int ((0 : Int) + (t : Int))), some (.int low), some (.int mid), v6, v7] ∧ Same H H6 ∧ H6 lx = some (.lst us) ∧ Prs H6 us X ∧ H6 ly = some (.lst us2) ∧ Prs H6 us2 Y ∧ H6 lf = some (.lst us3) ∧ Prs H6 us3 F ∧ Fol n (inS L) F ∧ (∀ p ∈ Y, p ∈ F) ∧ (∀ b, (mid, b) ∈ Y.take j → (low, b) ∈ F))
        ⟨us2, Y, _, _, rfl, s4.trans s5, s5 _ _ ex4, Prs.mono (TupK.same s5) pX4, e5, Prs.mono (TupK.same s5) pY, s5 _ _ ef4, Prs.mono (TupK.same s5) pY, fY, fun _ h => h, fun b hb => by simp at hb⟩ (fun j σ H6 _ h => ?_) (fun j y σ H6 hy h => ?_) (fun σ H6 h => ?_)⟩
      · obtain ⟨_, _, _, _, _, _, _, _, h, _⟩ := h
        exact SqL.of h
      · obtain ⟨us3, F, v6, v7, rfl, s6, ex6, pX6, ey6, pY6, ef6, pF, fF, subY, done6⟩ := h
        obtain ⟨⟨oth, hig⟩, hp2, b2, rfl, hb2⟩ := pr_get pY6 hy
        have fl := lo_len h7 fF.nd (fF.lo hl)
        have ul3 := pF.length
        have my : (oth, hig) ∈ Y := List.mem_of_getElem? hp2
        have et2 : Y.take (j + 1) = Y.take j ++ [(oth, hig)] := by rw [List.take_succ, hp2]; rfl
        refine ⟨b2, _, rfl, SqT.of hb2, rfl, _, _, rfl, _, _, rfl, rfl, ?_⟩
        refine ⟨_, rfl, _, rfl, rfl, _, rfl, ?_⟩
        by_cases c1 : oth = mid
        · subst c1
          rw [decide_eq_true rfl]
          refine iteT ?_
          refine ⟨_, rfl, _, rfl, Nat.le_of_lt (small1000 (show 2 ≤ 1000 by omega)), fun p1 hp1 => ?_⟩
          generalize eH : upd H6 p1 _ = H7
          have s7 : Same H6 H7 := eH ▸ Same.new hp1
          have e7 : H7 p1 = _ := eH ▸ upd_same
          clear eH
          refine ⟨_, rfl, prD (low, hig), _, pr_den ⟨p1, rfl, e7⟩, .lst (SqL.of (s7 _ _ ef6)) (Prs.mono (TupK.same s7) pF).den, lay_pr _, lay_prs _, dep_pr _, _, rfl, ?_⟩
          rw [if_pos rfl, any_prs]
          by_cases c2 : (low, hig) ∈ F
          · rw [decide_eq_true c2]
            refine iteF ⟨us3, F, _, _, rfl, s6.trans s7, s7 _ _ ex6, Prs.mono (TupK.same s7) pX6, s7 _ _ ey6, Prs.mono (TupK.same s7) pY6, s7 _ _ ef6, Prs.mono (TupK.same s7) pF, fF, subY, fun b hb => ?_⟩
            rw [et2, List.mem_append, List.mem_singleton] at hb
            rcases hb with z | z
            · exact done6 b z
            · injection z with z1 z2; rw [z2]; exact c2
          · rw [decide_eq_false c2]
            refine iteT ?_
            refine ⟨_, rfl, .inl ⟨rfl, _, SqL.of (s7 _ _ ef6)⟩, _, rfl, _, rfl, Nat.le_of_lt (small1000 (show 2 ≤ 1000 by omega)), fun p2 hp2 => ?_⟩
            generalize eH : upd H7 p2 _ = H8
            have s8 : Same H7 H8 := eH ▸ Same.new hp2
            have e8 : H8 p2 = _ := eH ▸ upd_same
            clear eH
            have s78 := s7.trans s8
            have ef8 := s78 _ _ ef6
            refine ⟨lf, us3, _, rfl, rfl, ef8, small1000 (by omega), ?_⟩
            have k9 : TupK H8 (upd H8 lf (.lst (us3 ++ [.ref p2]))) := TupK.put ef8
            have k69 : TupK H6 (upd H8 lf (.lst (us3 ++ [.ref p2]))) := fun x ys hx => k9 _ _ (s78 _ _ hx)
            refine ⟨us3 ++ [.ref p2], F ++ [(low, hig)], _, _, rfl, (s6.trans s78).put hlf, ?_, Prs.mono k69 pX6, ?_, Prs.mono k69 pY6, upd_same, Paired.snoc (Prs.mono k69 pF) ⟨p2, rfl, k9 _ _ e8⟩, fF.add (subY _ (subX _ mx)) (subY _ my) c2, fun p hp => List.mem_append_left _ (subY p hp), fun b hb => ?_⟩
            · rw [upd_ne nx]; exact s78 _ _ ex6
            · rw [upd_ne ny]; exact s78 _ _ ey6
            · rw [et2, List.mem_append, List.mem_singleton] at hb
              rcases hb with z | z
              · exact List.mem_append_left _ (done6 b z)
              · injection z with z1 z2; rw [z2]; exact List.mem_append_right _ (List.mem_singleton.mpr rfl)
        · rw [decide_eq_false (show ¬ (V.int oth = V.int mid) from fun z => c1 (by injection z))]
          refine iteF (iteF ⟨us3, F, _, _, rfl, s6, ex6, pX6, ey6, pY6, ef6, pF, fF, subY, fun b hb => ?_⟩)
          rw [et2, List.mem_append, List.mem_singleton] at hb
          rcases hb with z | z
          · exact done6 b z
          · injection z with z1 z2; exact absurd z1.symm c1
      · obtain ⟨us3, F, v6, v7, rfl, s6, ex6, pX6, ey6, pY6, ef6, pF, fF, subY, done6⟩ := h
        rw [ul2, List.take_length] at done6
        refine ⟨us3, F, _, _, _, _, rfl, s6, ex6, pX6, ef6, pF, fF, fun p hp => subY p (subX p hp), fun x m b' hx hb' => ?_⟩
        rw [et, List.mem_append, List.mem_singleton] at hx
        rcases hx with z | z
        · exact subY _ (done x m b' z hb')
        · injection z with z1 z2
          subst z1; subst z2
          exact done6 b' (subX _ hb')
    · obtain ⟨us2, Y, v4, v5, v6, v7, rfl, s4, ex4, pX4, ef4, pY, fY, subX, done⟩ := h
      rw [ul, List.take_length] at done
      exact ⟨us2, Y, _, _, _, _, _, rfl, s4, ef4, pY, fY, cov_next hl cX fY.sub done⟩
  · obtain ⟨us, F, v3, v4, v5, v6, v7, rfl, s2, e2, pF, fF, cF⟩ := h
    rw [Int.toNat_natCast] at cF
    have fl := lo_len h7 fF.nd (fF.lo hl)
    refine ⟨_, rfl, lf, us, F, rfl, SqL.of e2, pF, by omega, fun p hp => ?_, fun l us' ps' hl' pu' pm so => ?_⟩
    · have := fF.lo hl p hp
      omega
    generalize eH : upd H' l _ = H5
    have s5 : Same H' H5 := eH ▸ Same.new hl'
    have e5 : H5 l = _ := eH ▸ upd_same
    clear eH
    exact q l H5 us' F ps' (s2.free hl') (s2.trans s5) e5 (Prs.mono (TupK.same s5) pu') fF cF pm so
def spRight9 : Sp := fun vs H Q _ => ∃ (a b c d : Addr) (o p : List Int) (n : Nat), vs = [.ref a, .ref b, .ref c, .ref d] ∧ H a = some (.lst (o.map V.int)) ∧ H b = some (.lst (p.map V.int)) ∧ H c = some (.lst ((joi n o p).map V.int)) ∧ H d = some (.lst ((mee n o p).map V.int)) ∧ Ord n o ∧ Ord n p ∧ 1 ≤ n ∧ n ≤ 7 ∧ ∀ H', Same H H' → Q (.bl true) H'
theorem ok_right9 (T : Tx mg) (G_law_pairs : Fn P w K mg base CX0 1 "_law_pairs" ps_law_pairs (spPairs K)) (G_law_best : Fn P w K mg base CX0 2 "_law_best" ps_law_best spBest) (G_law_followed : Fn P w K mg base CX0 1 "_law_followed" ps_law_followed spFol)
    (D : Df K mg "_law_right" s_law_right ps_law_right) : Fn P w K mg base CX0 3 "_law_right" ps_law_right spRight9 := by
  refine D.fn sc_law_right (fun vs H Q E h => ?_) (fun f cdv A outer s H vs Q E hr h => ?_)
  · obtain ⟨a, b, c, d, o, p, n, rfl, _⟩ := h
    rfl
  obtain ⟨a, b, c, d, o, p, n, rfl, ha, hb, hc, hd, ho, hp, h1, h7, q⟩ := h
  have nd := sc_law_right.nd
  have hu := hr.units
  have oj := joi_ord ho hp
  have om := mee_ord ho hp
  have ol : (o.map V.int).length = n := by rw [List.length_map, ho.length]
  refine ⟨_, (pss_cons (ps_if (pt_cmpR op_lt (pe_callB (call_len_seq' K rfl) rfl T.n_len PySem.boot_len (pa_cons (pv 0) pa_nil)) pe_int (nomark _)) (pss_one (ps_ret (pe_callF G_law_best (hr.mono (by decide)) (pa_cons (pv 0) (pa_cons (pv 1) (pa_cons (pv 2) (pa_cons (pv 3) pa_nil))))))) pss_nil) (pss_cons (pset nd 4 (pe_op op_cat (pe_callF G_law_pairs (hr.mono (by decide)) (pa_cons (pv 0) pa_nil)) (pe_callF G_law_pairs (hr.mono (by decide)) (pa_cons (pv 1) pa_nil)))) (pss_cons (ps_if (pt_cmpR (op_neD' K rfl hu) (pe_callF G_law_pairs (hr.mono (by decide)) (pa_cons (pv 2) pa_nil)) (pe_callF G_law_followed (hr.mono (by decide)) (pa_cons (pv 4) (pa_cons (pe_callB (call_len_seq' K rfl) rfl T.n_len PySem.boot_len (pa_cons (pv 0) pa_nil)) pa_nil))) (nomark _)) (pss_one (ps_ret pe_bl)) pss_nil) (pss_cons (pset nd 4 (pe_op op_cat (pe_callF G_law_pairs (hr.mono (by decide)) (pa_cons (pe_rev' K rfl (pv 0)) pa_nil)) (pe_callF G_law_pairs (hr.mono (by decide)) (pa_cons (pe_rev' K rfl (pv 1)) pa_nil)))) (pss_one (ps_ret (pe_cmpR (op_eqD' K rfl hu) (pe_callF G_law_pairs (hr.mono (by decide)) (pa_cons (pe_rev' K rfl (pv 3)) pa_nil)) (pe_callF G_law_followed (hr.mono (by decide)) (pa_cons (pv 4) (pa_cons (pe_callB (call_len_seq' K rfl) rfl T.n_len PySem.boot_len (pa_cons (pv 0) pa_nil)) pa_nil))) (nomark _)))))))), ?_⟩
  refine ⟨_, rfl, a, _, rfl, .inl (SqL.of ha), _, _, rfl, rfl, _, rfl, ?_⟩
  rw [ol]
  refine ite2 (fun cn => ?_) (fun cn => ?_)
  · have cn : (n : Int) < 5 := of_decide_eq_true cn
    exact ⟨_, rfl, _, rfl, _, rfl, _, rfl, a, b, c, d, o, p, n, rfl, ha, hb, hc, hd, ho, hp, h1, by omega, q⟩
  refine ⟨_, rfl, a, o, n, rfl, SqL.of ha, ho, h7, fun l1 H1 u1 hl1 s1 e1 p1 => ?_⟩
  refine ⟨_, rfl, b, p, n, rfl, SqL.of (s1 _ _ hb), hp, h7, fun l2 H2 u2 hl2 s2 e2 p2 => ?_⟩
  have q1 := p1.length
  have q2 := p2.length
  have w1 := prs21 h7 ho
  have w2 := prs21 h7 hp
  refine ⟨l1, l2, _, _, rfl, rfl, s2 _ _ e1, e2, Nat.le_of_lt (small1000 (by omega)), fun l3 hl3 => ?_⟩
  generalize eH : upd H2 l3 _ = H3
  have s3 : Same H2 H3 := eH ▸ Same.new hl3
  have e3 : H3 l3 = _ := eH ▸ upd_same
  clear eH
  have t3 := s1.trans (s2.trans s3)
  refine ⟨_, rfl, c, _, n, rfl, SqL.of (t3 _ _ hc), oj, h7, fun l4 H4 u4 hl4 s4 e4 p4 => ?_⟩
  refine ⟨_, rfl, _, rfl, a, _, rfl, .inl (SqL.of (s4 _ _ (t3 _ _ ha))), l3, n, _, _, by rw [ol]; rfl, h7, s4 _ _ e3, prs_cat (Prs.mono (TupK.same (s2.trans (s3.trans s4))) p1) (Prs.mono (TupK.same (s3.trans s4)) p2), (lo_prs n o).append (lo_prs n p), fun l5 H5 u5 F ps hl5 s5 e5 p5 fF cF pm so => ?_⟩
  rw [inS_both] at fF cF
  have ee := fol_end h7 ho hp fF cF pm so
  rw [← ee] at p5
  refine ⟨_, _, .lst (SqL.of (s5 _ _ e4)) (Prs.mono (TupK.same s5) p4).den, .lst (SqL.of e5) p5.den, lay_prs _, lay_prs _, dep_prs_list _, _, rfl, ?_⟩
  rw [eqv_prs_same]
  refine iteF ?_
  have t5 := t3.trans (s4.trans s5)
  clear p1 p2 p4 p5 e1 e2 e3 e4 e5 s1 s2 s3 s4 s5 hl1 hl2 hl3 hl4 hl5 t3 q1 q2 fF cF pm so ee
  refine ⟨_, rfl, a, _, rfl, SqL.of (t5 _ _ ha), fun l6 hl6 => ?_⟩
  generalize eH : upd H5 l6 _ = H6
  have s6 : Same H5 H6 := eH ▸ Same.new hl6
  have e6 : H6 l6 = _ := eH ▸ upd_same
  clear eH
  rw [← List.map_reverse] at e6
  refine ⟨l6, _, n, rfl, SqL.of e6, ho.rev, h7, fun l7 H7 u7 hl7 s7 e7 p7 => ?_⟩
  have t7 := t5.trans (s6.trans s7)
  refine ⟨_, rfl, b, _, rfl, SqL.of (t7 _ _ hb), fun l8 hl8 => ?_⟩
  generalize eH : upd H7 l8 _ = H8
  have s8 : Same H7 H8 := eH ▸ Same.new hl8
  have e8 : H8 l8 = _ := eH ▸ upd_same
  clear eH
  rw [← List.map_reverse] at e8
  refine ⟨l8, _, n, rfl, SqL.of e8, hp.rev, h7, fun l9 H9 u9 hl9 s9 e9 p9 => ?_⟩
  have s79 := s8.trans s9
  have q1 := p7.length
  have q2 := p9.length
  have w1 := prs21 h7 ho.rev
  have w2 := prs21 h7 hp.rev
  refine ⟨l7, l9, _, _, rfl, rfl, s79 _ _ e7, e9, Nat.le_of_lt (small1000 (by omega)), fun lA hlA => ?_⟩
  generalize eH : upd H9 lA _ = HA
  have sA : Same H9 HA := eH ▸ Same.new hlA
  have eA : HA lA = _ := eH ▸ upd_same
  clear eH
  have tA := t7.trans (s79.trans sA)
  refine ⟨_, rfl, d, _, rfl, SqL.of (tA _ _ hd), fun lB hlB => ?_⟩
  generalize eH : upd HA lB _ = HB
  have sB : Same HA HB := eH ▸ Same.new hlB
  have eB : HB lB = _ := eH ▸ upd_same
  clear eH
  rw [← List.map_reverse] at eB
  have er : (mee n o p).reverse = joi n o.reverse p.reverse := by unfold mee; rw [List.reverse_reverse]
  rw [er] at eB
  refine ⟨lB, _, n, rfl, SqL.of eB, joi_ord ho.rev hp.rev, h7, fun lC HC uC hlC sC eC pC => ?_⟩
  have sAC := sA.trans (sB.trans sC)
  have tC := t7.trans (s79.trans sAC)
  refine ⟨_, rfl, _, rfl, a, _, rfl, .inl (SqL.of (tC _ _ ha)), lA, n, _, _, by rw [ol]; rfl, h7, sC _ _ (sB _ _ eA), prs_cat (Prs.mono (TupK.same (s79.trans sAC)) p7) (Prs.mono (TupK.same sAC) p9), (lo_prs n o.reverse).append (lo_prs n p.reverse), fun lD HD uD F ps hlD sD eD pD fF cF pm so => ?_⟩
  rw [inS_both] at fF cF
  have ee := fol_end h7 ho.rev hp.rev fF cF pm so
  rw [← ee] at pD
  refine ⟨_, _, .lst (SqL.of (sD _ _ eC)) (Prs.mono (TupK.same sD) pC).den, .lst (SqL.of eD) pD.den, lay_prs _, lay_prs _, dep_prs_list _, ?_⟩
  rw [eqv_prs_same]
  exact q HD (tC.trans sD)
end
end Pl
set_option Elab.async false
set_option linter.all false
set_option maxRecDepth 100000
set_option maxHeartbeats 4000000
namespace Pl
open PySem L2 Pc PyProof.Rows
local macro_rules | `(tactic| walk_at "rd") => `(tactic| repeat (first | refine ⟨_, rfl, ?_⟩ | refine ⟨_, _, rfl, rfl, ?_⟩ | refine ⟨Or.inr ⟨by decide, by decide⟩, ?_⟩ | refine ⟨⟨by decide, by decide⟩, ?_⟩ | refine ⟨(by show (0 : Int) < _; first | decide | omega), ?_⟩))
section
variable {P : Program} {w : World} {K : PySem.W.Frag} {mg : Str → Option Value} {base : Heap}
def spLaw (K : PySem.W.Frag) : Sp := fun vs H Q _ => ∃ (a : Addr) (ns : List Int), vs = [.ref a] ∧ SqL K H a (ns.map V.int) ∧ ns.length ≤ 63 ∧ ∀ H', Q (.bl true) H'
theorem ok_law_of {f : Addr} {fd : FuncData} (T : Tx mg) (G_law_cell_at : Fn P w K mg base CX0 1 "_law_cell_at" ps_law_cell_at (spCell K)) (G_law_order : Fn P w K mg base CX0 2 "_law_order" ps_law_order spOrder) (G_law_first : Fn P w K mg base CX0 1 "_law_first" ps_law_first spFirst)
    (G_law_numbers : Fn P w K mg base CX0 1 "_law_numbers" ps_law_numbers (spNumbers K)) (G_law_right : Fn P w K mg base CX0 3 "_law_right" ps_law_right spRight9) (G_joined : Fn P w K mg base CX0 6 "joined" ps_joined (spJoin joi)) (G_met : Fn P w K mg base CX0 7 "met" ps_met (spJoin mee))
    (F : Fun K "law" "law" s_law f fd) : FnOk P w K mg base CX0 8 f fd ps_law (spLaw K) := by
  refine F.ok sc_law (fun vs H Q E h => ?_) (fun cdv A outer s H vs Q E hr h => ?_)
  · obtain ⟨a, ns, rfl, _⟩ := h
    rfl
  obtain ⟨a, ns, rfl, hS, h63, q⟩ := h
  have nd := sc_law.nd
  have hu := hr.units
  have tail : ∃ t3, PSs (cxOf CX0 P w K mg base N_law "law" (defScope s_law) f cdv A outer s H E).nox ((defBody s_law).drop 2) t3 ∧ ∀ (n : Nat), 1 ≤ n → n ≤ 7 →
      t3 { nx := fun _ H' => Q .non H', rt := Q } [some (.ref a), some (.int (n : Int)), none, none, none, none, none, none, none, none] H := by
    refine ⟨_, (pss_cons (pset nd 2 (pe_callF G_law_order (hr.mono (by decide)) (pa_cons (pe_callF G_law_cell_at (hr.mono (by decide)) (pa_cons (pv 0) (pa_cons pe_int pa_nil))) (pa_cons (pv 1) pa_nil)))) (pss_cons (pset nd 3 (pe_callF G_law_order (hr.mono (by decide)) (pa_cons (pe_op op_add (pe_callF G_law_cell_at (hr.mono (by decide)) (pa_cons (pv 0) (pa_cons pe_int pa_nil))) pe_int) (pa_cons (pv 1) pa_nil)))) (pss_cons (pset nd 4 (pe_lst (pa_cons (pe_callTy (call_list_of' K rfl) rfl T.n_list boot_list (pa_cons (pv 2) pa_nil)) (pa_cons (pe_callTy (call_list_of' K rfl) rfl T.n_list boot_list (pa_cons (pv 3) pa_nil)) pa_nil)))) (pss_cons (ps_par (i := 5) (j := 6) rfl nd rfl rfl (by decide) rfl rfl (pa_cons (pe_callF G_joined (hr.mono (by decide)) (pa_cons (pe_ix (ix_list' K rfl) (pv 4) pe_int (fun _ _ => rfl)) (pa_cons (pe_ix (ix_list' K rfl) (pv 4) pe_int (fun _ _ => rfl)) pa_nil))) (pa_cons (pe_callF G_met (hr.mono (by decide)) (pa_cons (pe_ix (ix_list' K rfl) (pv 4) pe_int (fun _ _ => rfl)) (pa_cons (pe_ix (ix_list' K rfl) (pv 4) pe_int (fun _ _ => rfl)) pa_nil))) pa_nil)) rfl) (pss_cons (ps_for PassesOwn.never rfl (pi_list' K rfl (pe_lst (pa_cons (pv 5) (pa_cons (pv 6) pa_nil)))) (pgn nd 7) (pss_one (ps_if (PW.pt (pw_or (pt_not (pt_val (pe_callF G_law_numbers (hr.mono (by decide)) (pa_cons (pv 7) (pa_cons (pv 1) pa_nil))))) (pw_or1 (pt_cmpR (op_neD' K rfl hu) (pe_callB (call_sortedI' K rfl) rfl T.n_sorted boot_sorted (pa_cons (pv 7) pa_nil)) (pe_callF G_law_first (hr.mono (by decide)) (pa_cons (pv 1) pa_nil)) (nomark _))))) (pss_one (ps_ret pe_bl)) pss_nil))) (pss_cons (pset nd 8 (pe_callF G_law_right (hr.mono (by decide)) (pa_cons (pv 2) (pa_cons (pv 3) (pa_cons (pv 5) (pa_cons (pv 6) pa_nil)))))) (pss_cons (ps_if (PW.pt (pw_or (pt_cmpR (op_neD' K rfl hu) (pv 4) (pe_lst (pa_cons (pv 2) (pa_cons (pv 3) pa_nil))) (nomark _)) (pw_or1 (pt_not (pt_val (pv 8)))))) (pss_one (ps_ret pe_bl)) pss_nil) (pss_cons (pset nd 9 (pe_lst (pa_cons (pe_callTy (call_list_of' K rfl) rfl T.n_list boot_list (pa_cons (pv 5) pa_nil)) (pa_cons (pe_callTy (call_list_of' K rfl) rfl T.n_list boot_list (pa_cons (pv 6) pa_nil)) pa_nil)))) (pss_cons (ps_expr (pe_bm' K rfl PySem.F.plainAttrs_list PySem.F.slot_list_append PySem.F.type_list_append mt_append (pv 5) (pa_cons pe_int pa_nil))) (pss_cons (ps_expr (pe_bm' K rfl PySem.F.plainAttrs_list PySem.F.slot_list_append PySem.F.type_list_append mt_append (pv 6) (pa_cons pe_int pa_nil))) (pss_cons (ps_if (PW.pt (pw_or (pt_cmpR (op_neD' K rfl hu) (pe_callF G_joined (hr.mono (by decide)) (pa_cons (pe_ix (ix_list' K rfl) (pv 4) pe_int (fun _ _ => rfl)) (pa_cons (pe_ix (ix_list' K rfl) (pv 4) pe_int (fun _ _ => rfl)) pa_nil))) (pe_ix (ix_list' K rfl) (pv 9) pe_int (fun _ _ => rfl)) (nomark _)) (pw_or1 (pt_cmpR (op_neD' K rfl hu) (pe_callF G_met (hr.mono (by decide)) (pa_cons (pe_ix (ix_list' K rfl) (pv 4) pe_int (fun _ _ => rfl)) (pa_cons (pe_ix (ix_list' K rfl) (pv 4) pe_int (fun _ _ => rfl)) pa_nil))) (pe_ix (ix_list' K rfl) (pv 9) pe_int (fun _ _ => rfl)) (nomark _))))) (pss_one (ps_ret pe_bl)) pss_nil) (pss_one (ps_ret (pe_and (pe_cmpR (op_eqD' K rfl hu) (pe_callF G_joined (hr.mono (by decide)) (pa_cons (pe_ix (ix_list' K rfl) (pv 4) pe_int (fun _ _ => rfl)) (pa_cons (pe_ix (ix_list' K rfl) (pv 4) pe_int (fun _ _ => rfl)) pa_nil))) (pe_ix (ix_list' K rfl) (pv 9) pe_int (fun _ _ => rfl)) (nomark _)) (pe_one (pe_cmpR (op_eqD' K rfl hu) (pe_callF G_met (hr.mono (by decide)) (pa_cons (pe_ix (ix_list' K rfl) (pv 4) pe_int (fun _ _ => rfl)) (pa_cons (pe_ix (ix_list' K rfl) (pv 4) pe_int (fun _ _ => rfl)) pa_nil))) (pe_ix (ix_list' K rfl) (pv 9) pe_int (fun _ _ => rfl)) (nomark _))))))))))))))))), ?_⟩
    intro n h1 h7
    refine ⟨_, rfl, a, ns, 1, rfl, hS, fun c1 => ⟨_, rfl, c1, n, rfl, h1, h7, fun l1 H1 o hl1 s1 e1 ho => ?_⟩⟩
    refine ⟨_, rfl, a, ns, 2, rfl, s1.seq hS, fun c2 => ⟨_, _, rfl, rfl, _, rfl, _, n, rfl, h1, h7, fun l2 H2 p hl2 s2 e2 hp => ?_⟩⟩
    have f1 := s2 _ _ e1
    have oj := joi_ord ho hp
    have om := mee_ord ho hp
    refine ⟨_, rfl, l1, _, rfl, .inl (SqL.of f1), fun l3 hl3 => ?_⟩
    generalize eH : upd H2 l3 _ = H3
    have s3 : Same H2 H3 := eH ▸ Same.new hl3
    have e3 : H3 l3 = _ := eH ▸ upd_same
    clear eH
    refine ⟨_, rfl, l2, _, rfl, .inl (SqL.of (s3 _ _ e2)), fun l4 hl4 => ?_⟩
    generalize eH : upd H3 l4 _ = H4
    have s4 : Same H3 H4 := eH ▸ Same.new hl4
    have e4 : H4 l4 = _ := eH ▸ upd_same
    clear eH
    refine ⟨Nat.le_of_lt (small1000 (show 2 ≤ 1000 by omega)), fun lh hlh => ?_⟩
    generalize eH : upd H4 lh _ = H5
    have s5 : Same H4 H5 := eH ▸ Same.new hlh
    have eh : H5 lh = _ := eH ▸ upd_same
    clear eH
    have g1 := s5 _ _ (s4 _ _ (s3 _ _ f1))
    have g2 := s5 _ _ (s4 _ _ (s3 _ _ e2))
    have g3 := s5 _ _ (s4 _ _ e3)
    have g4 := s5 _ _ e4
    clear s1 s2 s3 s4 s5 e1 e2 e3 e4 f1
    refine ⟨_, rfl, lh, _, _, _, rfl, rfl, SqL.of eh, rfl, _, rfl, lh, _, _, _, rfl, rfl, SqL.of eh, rfl, l3, l4, o, p, n, rfl, g3, g4, ho, hp, h1, h7, fun lj H6 hlj s6 ej => ?_⟩
    refine ⟨_, rfl, lh, _, _, _, rfl, rfl, SqL.of (s6 _ _ eh), rfl, _, rfl, lh, _, _, _, rfl, rfl, SqL.of (s6 _ _ eh), rfl, l3, l4, o, p, n, rfl, s6 _ _ g3, s6 _ _ g4, ho, hp, h1, h7, fun lm H7 hlm s7 em => ⟨_, _, rfl, ?_⟩⟩
    have ej7 := s7 _ _ ej
    have t57 := s6.trans s7
    refine ⟨_, rfl, _, rfl, Nat.le_of_lt (small1000 (show 2 ≤ 1000 by omega)), fun lL hlL => ?_⟩
    generalize eH : upd H7 lL _ = H8
    have s8 : Same H7 H8 := eH ▸ Same.new hlL
    have e8 : H8 lL = _ := eH ▸ upd_same
    clear eH
    have ok2 : ∀ v ∈ [V.ref lj, V.ref lm], ∃ (l : Addr) (x : List Int), v = .ref l ∧ H8 l = some (.lst (x.map V.int)) ∧ Ord n x := fun v hv => by
      simp only [List.mem_cons, List.mem_nil_iff, or_false] at hv
      rcases hv with z | z
      · exact ⟨lj, _, z, s8 _ _ ej7, oj⟩
      · exact ⟨lm, _, z, s8 _ _ em, om⟩
    refine ⟨lL, rfl, ⟨_, SqL.of e8⟩, for_list (xs := [V.ref lj, V.ref lm]) (fun i σ H' => ∃ v7, σ = [some (.ref a), some (.int (n : Int)), some (.ref l1), some (.ref l2), some (.ref lh), some (.ref lj), some (.ref lm), v7, none, none] ∧ Same H8 H') ⟨_, rfl, Same.refl _⟩ (fun i σ H' _ h => ?_) (fun i x σ H' hx h => ?_) (fun σ H' h => ?_)⟩
    · obtain ⟨_, _, s9⟩ := h
      exact SqL.of (s9 _ _ e8)
    · obtain ⟨v7, rfl, s9⟩ := h
      obtain ⟨l, x, rfl, hl, ox⟩ := ok2 x (List.mem_of_getElem? hx)
      refine ⟨_, rfl, _, rfl, l, x, (n : Int), rfl, s9 _ _ hl, by rw [ox.length]; omega, fun y hy => ox.mem.mp hy, fun HA sA => ⟨_, rfl, iteF ?_⟩⟩
      have sA' := s9.trans sA
      refine ⟨_, rfl, l, x, rfl, SqL.of (sA' _ _ hl), by rw [ox.length]; omega, fun lB ns' hlB pm so => ?_⟩
      generalize eH : upd HA lB _ = HB
      have sB : Same HA HB := eH ▸ Same.new hlB
      have eB : HB lB = _ := eH ▸ upd_same
      clear eH
      have en : ns' = fst n := sorted_eq (pm.trans ox) so
      subst en
      refine ⟨_, rfl, n, rfl, h7, fun lC HC hlC sC eC => ?_⟩
      refine ⟨_, _, den_list (SqL.of (sC _ _ eB)), den_list (SqL.of eC), lay_list _, lay_list _, dep_list _, _, rfl, ?_⟩
      rw [eqv_list, decide_eq_true rfl]
      exact iteF ⟨_, rfl, sA'.trans (sB.trans sC)⟩
    · obtain ⟨v7, rfl, s9⟩ := h
      have t59 := t57.trans (s8.trans s9)
      have t79 := s8.trans s9
      refine ⟨_, rfl, _, rfl, _, rfl, _, rfl, l1, l2, lj, lm, o, p, n, rfl, t59 _ _ g1, t59 _ _ g2, t79 _ _ ej7, t79 _ _ em, ho, hp, h1, h7, fun HA sA => ?_⟩
      have t5A := t59.trans sA
      have t7A := t79.trans sA
      refine ⟨_, rfl, _, rfl, _, rfl, Nat.le_of_lt (small1000 (show 2 ≤ 1000 by omega)), fun lB hlB => ?_⟩
      generalize eH : upd HA lB _ = HB
      have sB : Same HA HB := eH ▸ Same.new hlB
      have eB : HB lB = _ := eH ▸ upd_same
      clear eH
      have t5B := t5A.trans sB
      have t7B := t7A.trans sB
      refine ⟨_, _, den_ll (t5B _ _ eh) (nss2 (t5B _ _ g3) (t5B _ _ g4)), den_ll eB (nss2 (t5B _ _ g1) (t5B _ _ g2)), lay_lll _, lay_lll _, dep_lll _, _, rfl, ?_⟩
      rw [eqv_lll, decide_eq_true rfl]
      refine iteF ⟨_, rfl, _, rfl, iteF ?_⟩
      refine ⟨_, rfl, lj, _, rfl, .inl (SqL.of (t7B _ _ ej7)), fun k1 hk1 => ?_⟩
      generalize eH : upd HB k1 _ = HC
      have sC : Same HB HC := eH ▸ Same.new hk1
      have eC : HC k1 = _ := eH ▸ upd_same
      clear eH
      refine ⟨_, rfl, lm, _, rfl, .inl (SqL.of (sC _ _ (t7B _ _ em))), fun k2 hk2 => ?_⟩
      generalize eH : upd HC k2 _ = HD
      have sD : Same HC HD := eH ▸ Same.new hk2
      have eD : HD k2 = _ := eH ▸ upd_same
      clear eH
      refine ⟨Nat.le_of_lt (small1000 (show 2 ≤ 1000 by omega)), fun kk hkk => ?_⟩
      generalize eH : upd HD kk _ = HE
      have sE : Same HD HE := eH ▸ Same.new hkk
      have eE : HE kk = _ := eH ▸ upd_same
      clear eH
      have sBE := sC.trans (sD.trans sE)
      have t5E := t5B.trans sBE
      have t7E := t7B.trans sBE
      have ejE := t7E _ _ ej7
      have emE := t7E _ _ em
      have n1 : lj ≠ lm := ne_of_none ej hlm
      have hjl : (joi n o p).length = n := oj.length
      have hml : (mee n o p).length = n := om.length
      refine ⟨_, rfl, .inl ⟨rfl, _, SqL.of ejE⟩, lj, _, _, rfl, rfl, ejE, small1000 (by rw [List.length_map]; omega), ?_⟩
      refine ⟨_, rfl, .inl ⟨rfl, _, SqL.of (by rw [upd_ne n1.symm]; exact emE)⟩, lm, _, _, rfl, rfl, by rw [upd_ne n1.symm]; exact emE, small1000 (by rw [List.length_map]; omega), ?_⟩
      generalize eHF : upd (upd HE lj _) lm _ = HF
      have kf : ∀ b o, b ≠ lj → b ≠ lm → HE b = some o → HF b = some o := fun b o h1 h2 e => by rw [← eHF, upd_ne h2, upd_ne h1]; exact e
      clear eHF
      have ne5 : ∀ {b o}, H5 b = some o → b ≠ lj ∧ b ≠ lm := fun {b o} e => ⟨ne_of_none e hlj, ne_of_none (s6 _ _ e) hlm⟩
      have neB : ∀ {H' : Hp} {b : Addr}, Same HB H' → H' b = none → b ≠ lj ∧ b ≠ lm := fun {H' b} sm e => ⟨(ne_of_none (sm _ _ (t7B _ _ ej7)) e).symm, (ne_of_none (sm _ _ (t7B _ _ em)) e).symm⟩
      have Fh := kf _ _ (ne5 eh).1 (ne5 eh).2 (t5E _ _ eh)
      have F3 := kf _ _ (ne5 g3).1 (ne5 g3).2 (t5E _ _ g3)
      have F4 := kf _ _ (ne5 g4).1 (ne5 g4).2 (t5E _ _ g4)
      have z1 := neB (Same.refl _) hk1
      have z2 := neB sC hk2
      have z3 := neB (sC.trans sD) hkk
      have Fk := kf _ _ z3.1 z3.2 eE
      have F1 := kf _ _ z1.1 z1.2 (sE _ _ (sD _ _ eC))
      have F2 := kf _ _ z2.1 z2.2 (sE _ _ eD)
      clear kf ne5 neB
      refine ⟨_, rfl, lh, _, _, _, rfl, rfl, SqL.of Fh, rfl, _, rfl, lh, _, _, _, rfl, rfl, SqL.of Fh, rfl, l3, l4, o, p, n, rfl, F3, F4, ho, hp, h1, h7, fun x1 HG hx1 sG eG => ?_⟩
      refine ⟨_, rfl, kk, _, _, _, rfl, rfl, SqL.of (sG _ _ Fk), rfl, _, _, den_list (SqL.of eG), den_list (SqL.of (sG _ _ F1)), lay_list _, lay_list _, dep_list _, _, rfl, ?_⟩
      rw [eqv_list, decide_eq_true rfl]
      refine iteF ?_
      refine ⟨_, rfl, lh, _, _, _, rfl, rfl, SqL.of (sG _ _ Fh), rfl, _, rfl, lh, _, _, _, rfl, rfl, SqL.of (sG _ _ Fh), rfl, l3, l4, o, p, n, rfl, sG _ _ F3, sG _ _ F4, ho, hp, h1, h7, fun x2 HI hx2 sI eI => ?_⟩
      have sFI := sG.trans sI
      refine ⟨_, rfl, kk, _, _, _, rfl, rfl, SqL.of (sFI _ _ Fk), rfl, _, _, den_list (SqL.of eI), den_list (SqL.of (sFI _ _ F2)), lay_list _, lay_list _, dep_list _, _, rfl, ?_⟩
      rw [eqv_list, decide_eq_true rfl]
      refine iteF ?_
      refine ⟨_, rfl, lh, _, _, _, rfl, rfl, SqL.of (sFI _ _ Fh), rfl, _, rfl, lh, _, _, _, rfl, rfl, SqL.of (sFI _ _ Fh), rfl, l4, l3, p, o, n, rfl, sFI _ _ F4, sFI _ _ F3, hp, ho, h1, h7, fun x3 HJ hx3 sJ eJ => ?_⟩
      have sFJ := sFI.trans sJ
      refine ⟨_, rfl, kk, _, _, _, rfl, rfl, SqL.of (sFJ _ _ Fk), rfl, _, _, den_list (SqL.of eJ), den_list (SqL.of (sFJ _ _ F1)), lay_list _, lay_list _, dep_list _, _, rfl, ?_⟩
      rw [eqv_list, decide_eq_true (joi_comm n p o)]
      refine iteT ?_
      refine ⟨_, rfl, lh, _, _, _, rfl, rfl, SqL.of (sFJ _ _ Fh), rfl, _, rfl, lh, _, _, _, rfl, rfl, SqL.of (sFJ _ _ Fh), rfl, l4, l3, p, o, n, rfl, sFJ _ _ F4, sFJ _ _ F3, hp, ho, h1, h7, fun x4 HM hx4 sM eM => ?_⟩
      have sFM := sFJ.trans sM
      refine ⟨_, rfl, kk, _, _, _, rfl, rfl, SqL.of (sFM _ _ Fk), rfl, _, _, den_list (SqL.of eM), den_list (SqL.of (sFM _ _ F2)), lay_list _, lay_list _, dep_list _, ?_⟩
      rw [eqv_list, decide_eq_true (mee_comm n p o)]
      exact q HM
  obtain ⟨t3, pt3, ht3⟩ := tail
  refine ⟨_, (pss_cons (pset nd 1 (pe_op op_add pe_int (pe_op op_mod (pe_callF G_law_cell_at (hr.mono (by decide)) (pa_cons (pv 0) (pa_cons pe_int pa_nil))) pe_int))) (pss_cons (ps_if (pt_cmpR op_eq (pe_op op_mod (pe_op op_fdiv (pe_callF G_law_cell_at (hr.mono (by decide)) (pa_cons (pv 0) (pa_cons pe_int pa_nil))) pe_int) pe_int) pe_int (nomark _)) (pss_one (pset nd 1 (pe_op op_add pe_int (pe_op op_mod (pe_op op_fdiv (pe_callF G_law_cell_at (hr.mono (by decide)) (pa_cons (pv 0) (pa_cons pe_int pa_nil))) pe_int) pe_int)))) pss_nil) pt3)), ?_⟩
  refine ⟨_, rfl, a, ns, 0, rfl, hS, fun c0 => ⟨_, _, rfl, rfl, (by show (0 : Int) < 4; decide), _, _, rfl, rfl, ?_⟩⟩
  refine ⟨_, rfl, a, ns, 0, rfl, hS, fun c1 => ⟨_, _, rfl, rfl, ⟨by decide, by decide⟩, _, _, rfl, rfl, (by show (0 : Int) < 4; decide), rfl, _, rfl, ?_⟩⟩
  refine ite2 (fun _ => ?_) (fun _ => ?_)
  · refine ⟨_, rfl, a, ns, 0, rfl, hS, fun c2 => ⟨_, _, rfl, rfl, ⟨by decide, by decide⟩, _, _, rfl, rfl, (by show (0 : Int) < 3; decide), _, _, rfl, rfl, ?_⟩⟩
    obtain ⟨n, en⟩ : ∃ n : Nat, 5 + c2 / 16 % 3 = (n : Int) := ⟨(5 + c2 / 16 % 3).toNat, by omega⟩
    have := ht3 n (by omega) (by omega)
    rw [← en] at this
    exact this
  · obtain ⟨n, en⟩ : ∃ n : Nat, 1 + c0 % 4 = (n : Int) := ⟨(1 + c0 % 4).toNat, by omega⟩
    have := ht3 n (by omega) (by omega)
    rw [← en] at this
    exact this
end
end Pl
set_option Elab.async false
set_option linter.all false
set_option maxRecDepth 100000
set_option maxHeartbeats 4000000
namespace Pl
open PySem L2 Pc PyProof.Rows
structure Top (K : PySem.W.Frag) (mg : Str → Option Value) : Prop where
  T : Tx mg
  c_MOST_DANCERS : Kc_MOST_DANCERS mg
  d_is_whole : Df K mg "is_whole" s_is_whole ps_is_whole
  d_is_count : Df K mg "is_count" s_is_count ps_is_count
  d_is_order : Df K mg "is_order" s_is_order ps_is_order
  d_check_order : Df K mg "check_order" s_check_order ps_check_order
  d_check_both : Df K mg "check_both" s_check_both ps_check_both
  d_crossed : Df K mg "crossed" s_crossed ps_crossed
  d_with_all_between : Df K mg "with_all_between" s_with_all_between ps_with_all_between
  d_order_with : Df K mg "order_with" s_order_with ps_order_with
  d_joined : Df K mg "joined" s_joined ps_joined
  d_turned : Df K mg "turned" s_turned ps_turned
  d_met : Df K mg "met" s_met ps_met
  d_law_cell_at : Df K mg "_law_cell_at" s_law_cell_at ps_law_cell_at
  d_law_draw : Df K mg "_law_draw" s_law_draw ps_law_draw
  d_law_order : Df K mg "_law_order" s_law_order ps_law_order
  d_law_first : Df K mg "_law_first" s_law_first ps_law_first
  d_law_pairs : Df K mg "_law_pairs" s_law_pairs ps_law_pairs
  d_law_numbers : Df K mg "_law_numbers" s_law_numbers ps_law_numbers
  d_law_orders : Df K mg "_law_orders" s_law_orders ps_law_orders
  d_law_all : Df K mg "_law_all" s_law_all ps_law_all
  d_law_best : Df K mg "_law_best" s_law_best ps_law_best
  d_law_followed : Df K mg "_law_followed" s_law_followed ps_law_followed
  d_law_right : Df K mg "_law_right" s_law_right ps_law_right
section
variable {P : Program} {w : World} {K : PySem.W.Frag} {mg : Str → Option Value} {base : Heap}
theorem ok_law {f : Addr} {fd : FuncData} (TT : Top K mg) (F : Fun K "law" "law" s_law f fd) : FnOk P w K mg base CX0 8 f fd ps_law (spLaw K) := by
  have T := TT.T
  have g1 := ok_is_whole (P := P) (w := w) (base := base) T TT.d_is_whole
  have g2 := ok_is_count T TT.c_MOST_DANCERS g1 TT.d_is_count
  have g22 := ok_is_order T g1 g2 TT.d_is_order
  have g23 := ok_check_order T g22 TT.d_check_order
  have g24 := ok_crossed T g23 TT.d_crossed
  have g25 := ok_check_both T g23 TT.d_check_both
  have b1 := ok_btw (P := P) (w := w) (base := base) T TT.d_with_all_between
  have b2 := ok_ow (P := P) (w := w) (base := base) T TT.d_order_with
  have b3 := ok_joined T g25 g24 b1 b2 TT.d_joined
  have b4 := ok_turned (P := P) (w := w) (base := base) T TT.d_turned
  have b5 := ok_met T g25 b3 b4 TT.d_met
  have g9 := ok_cell_at (P := P) (w := w) (base := base) T TT.d_law_cell_at
  have g10 := ok_draw (P := P) (w := w) (base := base) T TT.d_law_draw
  have g11 := ok_first (P := P) (w := w) (base := base) T TT.d_law_first
  have g13 := ok_numbers (P := P) (w := w) (base := base) T TT.d_law_numbers
  have g14 := ok_pairs (P := P) (w := w) (base := base) T TT.d_law_pairs
  have g15 := ok_order T g10 TT.d_law_order
  have c1 := ok_orders (P := P) (w := w) (base := base) T TT.d_law_orders
  have c2 := ok_all (P := P) (w := w) (base := base) T TT.d_law_all
  have c3 := ok_best T g14 c2 c1 TT.d_law_best
  have c4 := ok_fol (P := P) (w := w) (base := base) T TT.d_law_followed
  have c5 := ok_right9 T g14 c3 c4 TT.d_law_right
  exact ok_law_of T g9 g15 g11 g13 c5 b3 b5 F
end
theorem all_mk {l : PySem.W.OpenLaw} {w : World} {K : PySem.W.Frag} {h : Heap} {mg : Str → Option Value} {fa : Addr} (X : K.In h) (G : h.Ns mainGlobals mg) (hfa : mg "law" = some (.ref fa))
    {f0 : Addr} {od0 an0 : Option Addr} {sl0 : Array (Option Value)} {oc0 kV0 dc0 pm0 cd0 ct0 : Value}
    {f1 : Addr} {od1 an1 : Option Addr} {sl1 : Array (Option Value)} {oc1 kV1 dc1 pm1 cd1 ct1 : Value}
    {f2 : Addr} {od2 an2 : Option Addr} {sl2 : Array (Option Value)} {oc2 kV2 dc2 pm2 cd2 ct2 : Value}
    {f3 : Addr} {od3 an3 : Option Addr} {sl3 : Array (Option Value)} {oc3 kV3 dc3 pm3 cd3 ct3 : Value}
    {f4 : Addr} {od4 an4 : Option Addr} {sl4 : Array (Option Value)} {oc4 kV4 dc4 pm4 cd4 ct4 : Value}
    {f5 : Addr} {od5 an5 : Option Addr} {sl5 : Array (Option Value)} {oc5 kV5 dc5 pm5 cd5 ct5 : Value}
    {f6 : Addr} {od6 an6 : Option Addr} {sl6 : Array (Option Value)} {oc6 kV6 dc6 pm6 cd6 ct6 : Value}
    {f7 : Addr} {od7 an7 : Option Addr} {sl7 : Array (Option Value)} {oc7 kV7 dc7 pm7 cd7 ct7 : Value}
    {f8 : Addr} {od8 an8 : Option Addr} {sl8 : Array (Option Value)} {oc8 kV8 dc8 pm8 cd8 ct8 : Value}
    {f9 : Addr} {od9 an9 : Option Addr} {sl9 : Array (Option Value)} {oc9 kV9 dc9 pm9 cd9 ct9 : Value}
    {f10 : Addr} {od10 an10 : Option Addr} {sl10 : Array (Option Value)} {oc10 kV10 dc10 pm10 cd10 ct10 : Value}
    {f11 : Addr} {od11 an11 : Option Addr} {sl11 : Array (Option Value)} {oc11 kV11 dc11 pm11 cd11 ct11 : Value}
    {f12 : Addr} {od12 an12 : Option Addr} {sl12 : Array (Option Value)} {oc12 kV12 dc12 pm12 cd12 ct12 : Value}
    {f13 : Addr} {od13 an13 : Option Addr} {sl13 : Array (Option Value)} {oc13 kV13 dc13 pm13 cd13 ct13 : Value}
    {f14 : Addr} {od14 an14 : Option Addr} {sl14 : Array (Option Value)} {oc14 kV14 dc14 pm14 cd14 ct14 : Value}
    {f15 : Addr} {od15 an15 : Option Addr} {sl15 : Array (Option Value)} {oc15 kV15 dc15 pm15 cd15 ct15 : Value}
    {f16 : Addr} {od16 an16 : Option Addr} {sl16 : Array (Option Value)} {oc16 kV16 dc16 pm16 cd16 ct16 : Value}
    {f17 : Addr} {od17 an17 : Option Addr} {sl17 : Array (Option Value)} {oc17 kV17 dc17 pm17 cd17 ct17 : Value}
    {f18 : Addr} {od18 an18 : Option Addr} {sl18 : Array (Option Value)} {oc18 kV18 dc18 pm18 cd18 ct18 : Value}
    {f19 : Addr} {od19 an19 : Option Addr} {sl19 : Array (Option Value)} {oc19 kV19 dc19 pm19 cd19 ct19 : Value}
    {f20 : Addr} {od20 an20 : Option Addr} {sl20 : Array (Option Value)} {oc20 kV20 dc20 pm20 cd20 ct20 : Value}
    {f21 : Addr} {od21 an21 : Option Addr} {sl21 : Array (Option Value)} {oc21 kV21 dc21 pm21 cd21 ct21 : Value}
    {f22 : Addr} {od22 an22 : Option Addr} {sl22 : Array (Option Value)} {oc22 kV22 dc22 pm22 cd22 ct22 : Value}
    {t_MOST_DANCERS : Tok}
    (a0 : PySem.W.nsIn K mainGlobals "is_whole" = some (some (.ref f0))) (l0 : K.lookup f0 = some ⟨oc0, od0, .func (PySem.W.fnOf "is_whole" "is_whole" (defArgs s_is_whole) (defBody s_is_whole) (defScope s_is_whole) .none kV0 dc0 pm0 an0 cd0 ct0), sl0⟩) (c0 : PySem.W.codeIn K cd0 "is_whole" = true) (k0 : PySem.W.keepIn K (.ref f0) = true)
    (a1 : PySem.W.nsIn K mainGlobals "is_count" = some (some (.ref f1))) (l1 : K.lookup f1 = some ⟨oc1, od1, .func (PySem.W.fnOf "is_count" "is_count" (defArgs s_is_count) (defBody s_is_count) (defScope s_is_count) .none kV1 dc1 pm1 an1 cd1 ct1), sl1⟩) (c1 : PySem.W.codeIn K cd1 "is_count" = true) (k1 : PySem.W.keepIn K (.ref f1) = true)
    (a2 : PySem.W.nsIn K mainGlobals "is_order" = some (some (.ref f2))) (l2 : K.lookup f2 = some ⟨oc2, od2, .func (PySem.W.fnOf "is_order" "is_order" (defArgs s_is_order) (defBody s_is_order) (defScope s_is_order) .none kV2 dc2 pm2 an2 cd2 ct2), sl2⟩) (c2 : PySem.W.codeIn K cd2 "is_order" = true) (k2 : PySem.W.keepIn K (.ref f2) = true)
    (a3 : PySem.W.nsIn K mainGlobals "check_order" = some (some (.ref f3))) (l3 : K.lookup f3 = some ⟨oc3, od3, .func (PySem.W.fnOf "check_order" "check_order" (defArgs s_check_order) (defBody s_check_order) (defScope s_check_order) .none kV3 dc3 pm3 an3 cd3 ct3), sl3⟩) (c3 : PySem.W.codeIn K cd3 "check_order" = true) (k3 : PySem.W.keepIn K (.ref f3) = true)
    (a4 : PySem.W.nsIn K mainGlobals "check_both" = some (some (.ref f4))) (l4 : K.lookup f4 = some ⟨oc4, od4, .func (PySem.W.fnOf "check_both" "check_both" (defArgs s_check_both) (defBody s_check_both) (defScope s_check_both) .none kV4 dc4 pm4 an4 cd4 ct4), sl4⟩) (c4 : PySem.W.codeIn K cd4 "check_both" = true) (k4 : PySem.W.keepIn K (.ref f4) = true)
    (a5 : PySem.W.nsIn K mainGlobals "crossed" = some (some (.ref f5))) (l5 : K.lookup f5 = some ⟨oc5, od5, .func (PySem.W.fnOf "crossed" "crossed" (defArgs s_crossed) (defBody s_crossed) (defScope s_crossed) .none kV5 dc5 pm5 an5 cd5 ct5), sl5⟩) (c5 : PySem.W.codeIn K cd5 "crossed" = true) (k5 : PySem.W.keepIn K (.ref f5) = true)
    (a6 : PySem.W.nsIn K mainGlobals "with_all_between" = some (some (.ref f6))) (l6 : K.lookup f6 = some ⟨oc6, od6, .func (PySem.W.fnOf "with_all_between" "with_all_between" (defArgs s_with_all_between) (defBody s_with_all_between) (defScope s_with_all_between) .none kV6 dc6 pm6 an6 cd6 ct6), sl6⟩) (c6 : PySem.W.codeIn K cd6 "with_all_between" = true) (k6 : PySem.W.keepIn K (.ref f6) = true)
    (a7 : PySem.W.nsIn K mainGlobals "order_with" = some (some (.ref f7))) (l7 : K.lookup f7 = some ⟨oc7, od7, .func (PySem.W.fnOf "order_with" "order_with" (defArgs s_order_with) (defBody s_order_with) (defScope s_order_with) .none kV7 dc7 pm7 an7 cd7 ct7), sl7⟩) (c7 : PySem.W.codeIn K cd7 "order_with" = true) (k7 : PySem.W.keepIn K (.ref f7) = true)
    (a8 : PySem.W.nsIn K mainGlobals "joined" = some (some (.ref f8))) (l8 : K.lookup f8 = some ⟨oc8, od8, .func (PySem.W.fnOf "joined" "joined" (defArgs s_joined) (defBody s_joined) (defScope s_joined) .none kV8 dc8 pm8 an8 cd8 ct8), sl8⟩) (c8 : PySem.W.codeIn K cd8 "joined" = true) (k8 : PySem.W.keepIn K (.ref f8) = true)
    (a9 : PySem.W.nsIn K mainGlobals "turned" = some (some (.ref f9))) (l9 : K.lookup f9 = some ⟨oc9, od9, .func (PySem.W.fnOf "turned" "turned" (defArgs s_turned) (defBody s_turned) (defScope s_turned) .none kV9 dc9 pm9 an9 cd9 ct9), sl9⟩) (c9 : PySem.W.codeIn K cd9 "turned" = true) (k9 : PySem.W.keepIn K (.ref f9) = true)
    (a10 : PySem.W.nsIn K mainGlobals "met" = some (some (.ref f10))) (l10 : K.lookup f10 = some ⟨oc10, od10, .func (PySem.W.fnOf "met" "met" (defArgs s_met) (defBody s_met) (defScope s_met) .none kV10 dc10 pm10 an10 cd10 ct10), sl10⟩) (c10 : PySem.W.codeIn K cd10 "met" = true) (k10 : PySem.W.keepIn K (.ref f10) = true)
    (a11 : PySem.W.nsIn K mainGlobals "_law_cell_at" = some (some (.ref f11))) (l11 : K.lookup f11 = some ⟨oc11, od11, .func (PySem.W.fnOf "_law_cell_at" "_law_cell_at" (defArgs s_law_cell_at) (defBody s_law_cell_at) (defScope s_law_cell_at) .none kV11 dc11 pm11 an11 cd11 ct11), sl11⟩) (c11 : PySem.W.codeIn K cd11 "_law_cell_at" = true) (k11 : PySem.W.keepIn K (.ref f11) = true)
    (a12 : PySem.W.nsIn K mainGlobals "_law_draw" = some (some (.ref f12))) (l12 : K.lookup f12 = some ⟨oc12, od12, .func (PySem.W.fnOf "_law_draw" "_law_draw" (defArgs s_law_draw) (defBody s_law_draw) (defScope s_law_draw) .none kV12 dc12 pm12 an12 cd12 ct12), sl12⟩) (c12 : PySem.W.codeIn K cd12 "_law_draw" = true) (k12 : PySem.W.keepIn K (.ref f12) = true)
    (a13 : PySem.W.nsIn K mainGlobals "_law_order" = some (some (.ref f13))) (l13 : K.lookup f13 = some ⟨oc13, od13, .func (PySem.W.fnOf "_law_order" "_law_order" (defArgs s_law_order) (defBody s_law_order) (defScope s_law_order) .none kV13 dc13 pm13 an13 cd13 ct13), sl13⟩) (c13 : PySem.W.codeIn K cd13 "_law_order" = true) (k13 : PySem.W.keepIn K (.ref f13) = true)
    (a14 : PySem.W.nsIn K mainGlobals "_law_first" = some (some (.ref f14))) (l14 : K.lookup f14 = some ⟨oc14, od14, .func (PySem.W.fnOf "_law_first" "_law_first" (defArgs s_law_first) (defBody s_law_first) (defScope s_law_first) .none kV14 dc14 pm14 an14 cd14 ct14), sl14⟩) (c14 : PySem.W.codeIn K cd14 "_law_first" = true) (k14 : PySem.W.keepIn K (.ref f14) = true)
    (a15 : PySem.W.nsIn K mainGlobals "_law_pairs" = some (some (.ref f15))) (l15 : K.lookup f15 = some ⟨oc15, od15, .func (PySem.W.fnOf "_law_pairs" "_law_pairs" (defArgs s_law_pairs) (defBody s_law_pairs) (defScope s_law_pairs) .none kV15 dc15 pm15 an15 cd15 ct15), sl15⟩) (c15 : PySem.W.codeIn K cd15 "_law_pairs" = true) (k15 : PySem.W.keepIn K (.ref f15) = true)
    (a16 : PySem.W.nsIn K mainGlobals "_law_numbers" = some (some (.ref f16))) (l16 : K.lookup f16 = some ⟨oc16, od16, .func (PySem.W.fnOf "_law_numbers" "_law_numbers" (defArgs s_law_numbers) (defBody s_law_numbers) (defScope s_law_numbers) .none kV16 dc16 pm16 an16 cd16 ct16), sl16⟩) (c16 : PySem.W.codeIn K cd16 "_law_numbers" = true) (k16 : PySem.W.keepIn K (.ref f16) = true)
    (a17 : PySem.W.nsIn K mainGlobals "_law_orders" = some (some (.ref f17))) (l17 : K.lookup f17 = some ⟨oc17, od17, .func (PySem.W.fnOf "_law_orders" "_law_orders" (defArgs s_law_orders) (defBody s_law_orders) (defScope s_law_orders) .none kV17 dc17 pm17 an17 cd17 ct17), sl17⟩) (c17 : PySem.W.codeIn K cd17 "_law_orders" = true) (k17 : PySem.W.keepIn K (.ref f17) = true)
    (a18 : PySem.W.nsIn K mainGlobals "_law_all" = some (some (.ref f18))) (l18 : K.lookup f18 = some ⟨oc18, od18, .func (PySem.W.fnOf "_law_all" "_law_all" (defArgs s_law_all) (defBody s_law_all) (defScope s_law_all) .none kV18 dc18 pm18 an18 cd18 ct18), sl18⟩) (c18 : PySem.W.codeIn K cd18 "_law_all" = true) (k18 : PySem.W.keepIn K (.ref f18) = true)
    (a19 : PySem.W.nsIn K mainGlobals "_law_best" = some (some (.ref f19))) (l19 : K.lookup f19 = some ⟨oc19, od19, .func (PySem.W.fnOf "_law_best" "_law_best" (defArgs s_law_best) (defBody s_law_best) (defScope s_law_best) .none kV19 dc19 pm19 an19 cd19 ct19), sl19⟩) (c19 : PySem.W.codeIn K cd19 "_law_best" = true) (k19 : PySem.W.keepIn K (.ref f19) = true)
    (a20 : PySem.W.nsIn K mainGlobals "_law_followed" = some (some (.ref f20))) (l20 : K.lookup f20 = some ⟨oc20, od20, .func (PySem.W.fnOf "_law_followed" "_law_followed" (defArgs s_law_followed) (defBody s_law_followed) (defScope s_law_followed) .none kV20 dc20 pm20 an20 cd20 ct20), sl20⟩) (c20 : PySem.W.codeIn K cd20 "_law_followed" = true) (k20 : PySem.W.keepIn K (.ref f20) = true)
    (a21 : PySem.W.nsIn K mainGlobals "_law_right" = some (some (.ref f21))) (l21 : K.lookup f21 = some ⟨oc21, od21, .func (PySem.W.fnOf "_law_right" "_law_right" (defArgs s_law_right) (defBody s_law_right) (defScope s_law_right) .none kV21 dc21 pm21 an21 cd21 ct21), sl21⟩) (c21 : PySem.W.codeIn K cd21 "_law_right" = true) (k21 : PySem.W.keepIn K (.ref f21) = true)
    (a22 : PySem.W.nsIn K mainGlobals "law" = some (some (.ref f22))) (l22 : K.lookup f22 = some ⟨oc22, od22, .func (PySem.W.fnOf "law" "law" (defArgs s_law) (defBody s_law) (defScope s_law) .none kV22 dc22 pm22 an22 cd22 ct22), sl22⟩) (c22 : PySem.W.codeIn K cd22 "law" = true) (k22 : PySem.W.keepIn K (.ref f22) = true)
    (z_len : PySem.W.nsIn K mainGlobals "len" = some none)
    (z_isinstance : PySem.W.nsIn K mainGlobals "isinstance" = some none)
    (z_int : PySem.W.nsIn K mainGlobals "int" = some none)
    (z_bool : PySem.W.nsIn K mainGlobals "bool" = some none)
    (z_str : PySem.W.nsIn K mainGlobals "str" = some none)
    (z_list : PySem.W.nsIn K mainGlobals "list" = some none)
    (z_tuple : PySem.W.nsIn K mainGlobals "tuple" = some none)
    (z_all : PySem.W.nsIn K mainGlobals "all" = some none)
    (z_any : PySem.W.nsIn K mainGlobals "any" = some none)
    (z_sum : PySem.W.nsIn K mainGlobals "sum" = some none)
    (z_sorted : PySem.W.nsIn K mainGlobals "sorted" = some none)
    (z_range : PySem.W.nsIn K mainGlobals "range" = some none)
    (z_enumerate : PySem.W.nsIn K mainGlobals "enumerate" = some none)
    (z_abs : PySem.W.nsIn K mainGlobals "abs" = some none)
    (z_min : PySem.W.nsIn K mainGlobals "min" = some none)
    (z_max : PySem.W.nsIn K mainGlobals "max" = some none)
    (z_reversed : PySem.W.nsIn K mainGlobals "reversed" = some none)
    (z_set : PySem.W.nsIn K mainGlobals "set" = some none)
    (q_MOST_DANCERS : PySem.W.nsIn K mainGlobals "MOST_DANCERS" = some (some (.int 7 t_MOST_DANCERS))) :
    ∃ fd : FuncData, (∀ (s : Shared) (v : Value), BindsTo s fd ⟨[v], []⟩ [("_law_script", v)]) ∧ ∀ base : Heap, K.In base → base.Ns mainGlobals mg → FnOk l.prog w K mg base CX0 8 fa fd ["_law_script"] (spLaw K) := by
  have e := hfa.symm.trans (PySem.W.mg_of X G a22)
  cases e
  have F0 := fun_mk (st := s_is_whole) l0 c0 k0
  have b0 := F0.binds (ps := ps_is_whole) fun _ _ _ _ _ _ us hl => match us, hl with | [_], _ => rfl
  have F1 := fun_mk (st := s_is_count) l1 c1 k1
  have b1 := F1.binds (ps := ps_is_count) fun _ _ _ _ _ _ us hl => match us, hl with | [_], _ => rfl
  have F2 := fun_mk (st := s_is_order) l2 c2 k2
  have b2 := F2.binds (ps := ps_is_order) fun _ _ _ _ _ _ us hl => match us, hl with | [_], _ => rfl
  have F3 := fun_mk (st := s_check_order) l3 c3 k3
  have b3 := F3.binds (ps := ps_check_order) fun _ _ _ _ _ _ us hl => match us, hl with | [_], _ => rfl
  have F4 := fun_mk (st := s_check_both) l4 c4 k4
  have b4 := F4.binds (ps := ps_check_both) fun _ _ _ _ _ _ us hl => match us, hl with | [_, _], _ => rfl
  have F5 := fun_mk (st := s_crossed) l5 c5 k5
  have b5 := F5.binds (ps := ps_crossed) fun _ _ _ _ _ _ us hl => match us, hl with | [_], _ => rfl
  have F6 := fun_mk (st := s_with_all_between) l6 c6 k6
  have b6 := F6.binds (ps := ps_with_all_between) fun _ _ _ _ _ _ us hl => match us, hl with | [_, _], _ => rfl
  have F7 := fun_mk (st := s_order_with) l7 c7 k7
  have b7 := F7.binds (ps := ps_order_with) fun _ _ _ _ _ _ us hl => match us, hl with | [_, _], _ => rfl
  have F8 := fun_mk (st := s_joined) l8 c8 k8
  have b8 := F8.binds (ps := ps_joined) fun _ _ _ _ _ _ us hl => match us, hl with | [_, _], _ => rfl
  have F9 := fun_mk (st := s_turned) l9 c9 k9
  have b9 := F9.binds (ps := ps_turned) fun _ _ _ _ _ _ us hl => match us, hl with | [_], _ => rfl
  have F10 := fun_mk (st := s_met) l10 c10 k10
  have b10 := F10.binds (ps := ps_met) fun _ _ _ _ _ _ us hl => match us, hl with | [_, _], _ => rfl
  have F11 := fun_mk (st := s_law_cell_at) l11 c11 k11
  have b11 := F11.binds (ps := ps_law_cell_at) fun _ _ _ _ _ _ us hl => match us, hl with | [_, _], _ => rfl
  have F12 := fun_mk (st := s_law_draw) l12 c12 k12
  have b12 := F12.binds (ps := ps_law_draw) fun _ _ _ _ _ _ us hl => match us, hl with | [_, _, _], _ => rfl
  have F13 := fun_mk (st := s_law_order) l13 c13 k13
  have b13 := F13.binds (ps := ps_law_order) fun _ _ _ _ _ _ us hl => match us, hl with | [_, _], _ => rfl
  have F14 := fun_mk (st := s_law_first) l14 c14 k14
  have b14 := F14.binds (ps := ps_law_first) fun _ _ _ _ _ _ us hl => match us, hl with | [_], _ => rfl
  have F15 := fun_mk (st := s_law_pairs) l15 c15 k15
  have b15 := F15.binds (ps := ps_law_pairs) fun _ _ _ _ _ _ us hl => match us, hl with | [_], _ => rfl
  have F16 := fun_mk (st := s_law_numbers) l16 c16 k16
  have b16 := F16.binds (ps := ps_law_numbers) fun _ _ _ _ _ _ us hl => match us, hl with | [_, _], _ => rfl
  have F17 := fun_mk (st := s_law_orders) l17 c17 k17
  have b17 := F17.binds (ps := ps_law_orders) fun _ _ _ _ _ _ us hl => match us, hl with | [_], _ => rfl
  have F18 := fun_mk (st := s_law_all) l18 c18 k18
  have b18 := F18.binds (ps := ps_law_all) fun _ _ _ _ _ _ us hl => match us, hl with | [_, _], _ => rfl
  have F19 := fun_mk (st := s_law_best) l19 c19 k19
  have b19 := F19.binds (ps := ps_law_best) fun _ _ _ _ _ _ us hl => match us, hl with | [_, _, _, _], _ => rfl
  have F20 := fun_mk (st := s_law_followed) l20 c20 k20
  have b20 := F20.binds (ps := ps_law_followed) fun _ _ _ _ _ _ us hl => match us, hl with | [_, _], _ => rfl
  have F21 := fun_mk (st := s_law_right) l21 c21 k21
  have b21 := F21.binds (ps := ps_law_right) fun _ _ _ _ _ _ us hl => match us, hl with | [_, _, _, _], _ => rfl
  have F22 := fun_mk (st := s_law) l22 c22 k22
  have TT : Top K mg := ⟨⟨PySem.W.mg_none_of X G z_len, PySem.W.mg_none_of X G z_isinstance, PySem.W.mg_none_of X G z_int, PySem.W.mg_none_of X G z_bool, PySem.W.mg_none_of X G z_str, PySem.W.mg_none_of X G z_list, PySem.W.mg_none_of X G z_tuple, PySem.W.mg_none_of X G z_all, PySem.W.mg_none_of X G z_any, PySem.W.mg_none_of X G z_sum, PySem.W.mg_none_of X G z_sorted, PySem.W.mg_none_of X G z_range, PySem.W.mg_none_of X G z_enumerate, PySem.W.mg_none_of X G z_abs, PySem.W.mg_none_of X G z_min, PySem.W.mg_none_of X G z_max, PySem.W.mg_none_of X G z_reversed, PySem.W.mg_none_of X G z_set⟩, ⟨_, PySem.W.mg_of X G q_MOST_DANCERS⟩, ⟨f0, _, F0, b0, PySem.W.mg_of X G a0⟩, ⟨f1, _, F1, b1, PySem.W.mg_of X G a1⟩, ⟨f2, _, F2, b2, PySem.W.mg_of X G a2⟩, ⟨f3, _, F3, b3, PySem.W.mg_of X G a3⟩, ⟨f4, _, F4, b4, PySem.W.mg_of X G a4⟩, ⟨f5, _, F5, b5, PySem.W.mg_of X G a5⟩, ⟨f6, _, F6, b6, PySem.W.mg_of X G a6⟩, ⟨f7, _, F7, b7, PySem.W.mg_of X G a7⟩, ⟨f8, _, F8, b8, PySem.W.mg_of X G a8⟩, ⟨f9, _, F9, b9, PySem.W.mg_of X G a9⟩, ⟨f10, _, F10, b10, PySem.W.mg_of X G a10⟩, ⟨f11, _, F11, b11, PySem.W.mg_of X G a11⟩, ⟨f12, _, F12, b12, PySem.W.mg_of X G a12⟩, ⟨f13, _, F13, b13, PySem.W.mg_of X G a13⟩, ⟨f14, _, F14, b14, PySem.W.mg_of X G a14⟩, ⟨f15, _, F15, b15, PySem.W.mg_of X G a15⟩, ⟨f16, _, F16, b16, PySem.W.mg_of X G a16⟩, ⟨f17, _, F17, b17, PySem.W.mg_of X G a17⟩, ⟨f18, _, F18, b18, PySem.W.mg_of X G a18⟩, ⟨f19, _, F19, b19, PySem.W.mg_of X G a19⟩, ⟨f20, _, F20, b20, PySem.W.mg_of X G a20⟩, ⟨f21, _, F21, b21, PySem.W.mg_of X G a21⟩⟩
  exact ⟨PySem.W.fnOf "law" "law" (defArgs s_law) (defBody s_law) (defScope s_law) .none kV22 dc22 pm22 an22 cd22 ct22, fun s v => .of_eq rfl, fun base _ _ => ok_law TT F22⟩
theorem walk {l : PySem.W.OpenLaw} {q : Program} {loose : List Str} {XP : (Str → Option Value) → Heap → Prop} {YP : World → Heap → Prop} {d : DefRec} {K : Params → PySem.W.Frag} (hn : l.most = some 63) (hdf : d.params.defaults = [])
    (hY : ∀ (w : World) (h : Heap), YP w h → (K w.params).In h)
    (F : ∀ (w : World) (mg : Str → Option Value) (fa : Addr) (h : Heap), (K w.params).In h → h.Ns mainGlobals mg → mg d.name = some (.ref fa) →
      ∃ fd : FuncData, (∀ (s : Shared) (u : Value), BindsTo s fd ⟨[u], []⟩ [("_law_script", u)]) ∧ ∀ base : Heap, (K w.params).In base → base.Ns mainGlobals mg → FnOk l.prog w (K w.params) mg base CX0 8 fa fd ["_law_script"] (spLaw (K w.params))) :
    PySem.W.WalkO q loose XP YP l.row.toRowW d [] (fun f vs => PySem.call f vs) :=
  L2.walk_of (n := 63) (k := 8) (x := "_law_script") (CX := fun _ => CX0) (sp := fun w => spLaw (K w.params)) hn (by decide) hdf ⟨rfl, by decide, by decide⟩ hY F (fun _ _ a ns hl _ hS => ⟨a, ns, rfl, hS, hl, fun _ => rfl⟩) fun _ _ _ _ _ z => z
end Pl
open PySem PySem.W PyProof.Rows
set_option maxRecDepth 100000 in
set_option maxHeartbeats 0 in
theorem PySem.Challenge.cw_placechange_k09_whole_joined_and_met_holds : PySem.Challenge.rw_placechange_k09_whole_joined_and_met.Holds := by
  w_on; o_law; k_head; (case hw => w_witness2)
  k_fill
  refine Pl.walk (l := PySem.Challenge.rw_placechange_k09_whole_joined_and_met) rfl rfl (fun w h Y => PySem.W.kIn_of Y) ?F
  case F =>
    intro w mg fa h KX G hmg
    refine' Pl.all_mk KX G hmg ?a0 ?l0 ?c0 ?k0 ?a1 ?l1 ?c1 ?k1 ?a2 ?l2 ?c2 ?k2 ?a3 ?l3 ?c3 ?k3 ?a4 ?l4 ?c4 ?k4 ?a5 ?l5 ?c5 ?k5 ?a6 ?l6 ?c6 ?k6 ?a7 ?l7 ?c7 ?k7 ?a8 ?l8 ?c8 ?k8 ?a9 ?l9 ?c9 ?k9 ?a10 ?l10 ?c10 ?k10 ?a11 ?l11 ?c11 ?k11 ?a12 ?l12 ?c12 ?k12 ?a13 ?l13 ?c13 ?k13 ?a14 ?l14 ?c14 ?k14 ?a15 ?l15 ?c15 ?k15 ?a16 ?l16 ?c16 ?k16 ?a17 ?l17 ?c17 ?k17 ?a18 ?l18 ?c18 ?k18 ?a19 ?l19 ?c19 ?k19 ?a20 ?l20 ?c20 ?k20 ?a21 ?l21 ?c21 ?k21 ?a22 ?l22 ?c22 ?k22 ?z_len ?z_isinstance ?z_int ?z_bool ?z_str ?z_list ?z_tuple ?z_all ?z_any ?z_sum ?z_sorted ?z_range ?z_enumerate ?z_abs ?z_min ?z_max ?z_reversed ?z_set ?q_MOST_DANCERS
    (case a0 => k_is)
    (case l0 => k_is)
    (case c0 => k_is)
    (case k0 => k_is)
    (case a1 => k_is)
    (case l1 => k_is)
    (case c1 => k_is)
    (case k1 => k_is)
    (case a2 => k_is)
    (case l2 => k_is)
    (case c2 => k_is)
    (case k2 => k_is)
    (case a3 => k_is)
    (case l3 => k_is)
    (case c3 => k_is)
    (case k3 => k_is)
    (case a4 => k_is)
    (case l4 => k_is)
    (case c4 => k_is)
    (case k4 => k_is)
    (case a5 => k_is)
    (case l5 => k_is)
    (case c5 => k_is)
    (case k5 => k_is)
    (case a6 => k_is)
    (case l6 => k_is)
    (case c6 => k_is)
    (case k6 => k_is)
    (case a7 => k_is)
    (case l7 => k_is)
    (case c7 => k_is)
    (case k7 => k_is)
    (case a8 => k_is)
    (case l8 => k_is)
    (case c8 => k_is)
    (case k8 => k_is)
    (case a9 => k_is)
    (case l9 => k_is)
    (case c9 => k_is)
    (case k9 => k_is)
    (case a10 => k_is)
    (case l10 => k_is)
    (case c10 => k_is)
    (case k10 => k_is)
    (case a11 => k_is)
    (case l11 => k_is)
    (case c11 => k_is)
    (case k11 => k_is)
    (case a12 => k_is)
    (case l12 => k_is)
    (case c12 => k_is)
    (case k12 => k_is)
    (case a13 => k_is)
    (case l13 => k_is)
    (case c13 => k_is)
    (case k13 => k_is)
    (case a14 => k_is)
    (case l14 => k_is)
    (case c14 => k_is)
    (case k14 => k_is)
    (case a15 => k_is)
    (case l15 => k_is)
    (case c15 => k_is)
    (case k15 => k_is)
    (case a16 => k_is)
    (case l16 => k_is)
    (case c16 => k_is)
    (case k16 => k_is)
    (case a17 => k_is)
    (case l17 => k_is)
    (case c17 => k_is)
    (case k17 => k_is)
    (case a18 => k_is)
    (case l18 => k_is)
    (case c18 => k_is)
    (case k18 => k_is)
    (case a19 => k_is)
    (case l19 => k_is)
    (case c19 => k_is)
    (case k19 => k_is)
    (case a20 => k_is)
    (case l20 => k_is)
    (case c20 => k_is)
    (case k20 => k_is)
    (case a21 => k_is)
    (case l21 => k_is)
    (case c21 => k_is)
    (case k21 => k_is)
    (case a22 => k_is)
    (case l22 => k_is)
    (case c22 => k_is)
    (case k22 => k_is)
    (case z_len => k_is)
    (case z_isinstance => k_is)
    (case z_int => k_is)
    (case z_bool => k_is)
    (case z_str => k_is)
    (case z_list => k_is)
    (case z_tuple => k_is)
    (case z_all => k_is)
    (case z_any => k_is)
    (case z_sum => k_is)
    (case z_sorted => k_is)
    (case z_range => k_is)
    (case z_enumerate => k_is)
    (case z_abs => k_is)
    (case z_min => k_is)
    (case z_max => k_is)
    (case z_reversed => k_is)
    (case z_set => k_is)
    (case q_MOST_DANCERS => k_is)
