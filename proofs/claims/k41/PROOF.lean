import PyProof.Rows.All
import Wide.All
import OpenK.AllK
import Wide.FinOn
import Lean
import PyProof.EqAt
import PyProof.EqKinds
import PyProof.TupleCall
import PyProof.NeKinds
import PyProof.CompFree
import PyProof.ListRange
import PyProof.Rows.SortWalk
import PyProof.ExcArgsOwn
import PyProof.ExcAttrAll.ValueError
import KE.KTryMore
import PyProof.GenCompD
import PyProof.StrWalks
import PyProof.ConsumeS
import PyProof.StrOps2
import PyProof.CompMap
import KE.KRevIter
import PyProof.ZipIter
import PyProof.DictWalks
import PyProof.DictCompW
import PyProof.DictRoads
import PyProof.MeetsDictList
import KE.KDictList
import PyProof.EnumFor
import PyProof.EnumMake
import PyProof.WalksEnum
import PySem.Challenge.RW_overhaul_k41_whole_goings_by
set_option Elab.async false
set_option linter.all false
set_option maxRecDepth 100000
namespace L2
open PySem PySem.Spec PyProof.Rows
abbrev Key := Sum Int Str
def keyIs : Key → Value → Bool
  | .inl k, v => Value.isInt k v
  | .inr x, v => Value.isStrOf x v
def keyH (w : World) : Key → Int
  | .inl k => hashInt k
  | .inr x => hashStr w x
theorem keyIs_shape : ∀ {k : Key} {v : Value}, keyIs k v = true → (∃ i t, k = Sum.inl i ∧ v = Value.int i t) ∨ (∃ x t, k = Sum.inr x ∧ v = Value.str x t)
  | .inl i, v, h => by
    obtain ⟨t, e⟩ := Value.isInt_shape (k := i) (v := v) h
    exact .inl ⟨i, t, rfl, e⟩
  | .inr x, v, h => by
    obtain ⟨t, e⟩ := Value.isStrOf_shape (x := x) (v := v) h
    exact .inr ⟨x, t, rfl, e⟩
theorem key_ll (a b : Int) : decide ((Sum.inl a : Key) = Sum.inl b) = (a == b) := by
  by_cases e : a = b
  · subst e; simp
  · have h : ¬ (Sum.inl a : Key) = Sum.inl b := fun q => e (Sum.inl.inj q)
    rw [decide_eq_false h]
    exact (beq_eq_false_iff_ne.mpr e).symm
theorem key_rr (a b : Str) : decide ((Sum.inr a : Key) = Sum.inr b) = decide (a = b) := by
  by_cases e : a = b
  · subst e; simp
  · have h : ¬ (Sum.inr a : Key) = Sum.inr b := fun q => e (Sum.inr.inj q)
    rw [decide_eq_false h, decide_eq_false e]
theorem key_lr (a : Int) (b : Str) : decide ((Sum.inl a : Key) = Sum.inr b) = false := decide_eq_false (fun q => nomatch q)
theorem key_rl (a : Str) (b : Int) : decide ((Sum.inr a : Key) = Sum.inl b) = false := decide_eq_false (fun q => nomatch q)
def mixKind (prog : Program) (w : World) : PySem.KeyKind prog w Key where
  is := keyIs
  hash := keyH w
  inj := fun v a b ha hb => by
    rcases keyIs_shape ha with ⟨i, t, rfl, rfl⟩ | ⟨x, t, rfl, rfl⟩
    · rcases keyIs_shape hb with ⟨j, u, rfl, e⟩ | ⟨y, u, rfl, e⟩
      · injection e with e1 _; rw [e1]
      · exact nomatch e
    · rcases keyIs_shape hb with ⟨j, u, rfl, e⟩ | ⟨y, u, rfl, e⟩
      · exact nomatch e
      · injection e with e1 _; rw [e1]
  byValue := fun k v h => by
    rcases keyIs_shape h with ⟨i, t, rfl, rfl⟩ | ⟨x, t, rfl, rfl⟩ <;> rfl
  pyHash := fun hv h => by
    rcases keyIs_shape hv with ⟨i, t, rfl, rfl⟩ | ⟨x, t, rfl, rfl⟩
    · exact wpAny_pyHash_int h
    · exact wpAny_pyHash_str h
  eqBool := fun hu hv h => by
    rcases keyIs_shape hu with ⟨i, t, rfl, rfl⟩ | ⟨x, t, rfl, rfl⟩
    · rcases keyIs_shape hv with ⟨j, u, rfl, rfl⟩ | ⟨y, u, rfl, rfl⟩
      · rw [key_ll] at h; exact wpAny_eqBool_int h
      · rw [key_lr] at h; exact SeqAt.EqAt.int_str i t y u _ _ _ _ h
    · rcases keyIs_shape hv with ⟨j, u, rfl, rfl⟩ | ⟨y, u, rfl, rfl⟩
      · rw [key_rl] at h; exact SeqAt.EqAt.str_int x t j u _ _ _ _ h
      · rw [key_rr] at h; exact wpAny_eqBool_str h
  «strs» := fun k x t v h => by
    rcases keyIs_shape h with ⟨i, u, rfl, e⟩ | ⟨y, u, rfl, e⟩
    · exact nomatch e
    · injection e with e1 _
      subst e1
      cases v <;> rfl
end L2
namespace L2
open PySem PySem.Spec PyProof.Rows
inductive V where
  | non | bl (b : Bool) | int (i : Int) | str (x : Str) | byt (b : Array UInt8) | flt (b : UInt64) | ref (a : Addr) | ty (n : String)
  deriving DecidableEq
def RelV : V → Value → Prop
  | .non, u => u = Value.none
  | .bl b, u => u = Value.bool b
  | .int i, u => ∃ t, u = Value.int i t
  | .str x, u => ∃ t, u = Value.str x t
  | .byt b, u => ∃ t, u = Value.bytes b t
  | .flt b, u => ∃ t, u = Value.float b t
  | .ref a, u => u = Value.ref a
  | .ty n, u => u = Value.type n
abbrev Vals : List V → List Value → Prop := Paired RelV
theorem Vals.length {xs : List V} {us : List Value} (r : Vals xs us) : xs.length = us.length := Paired.length r
theorem Vals.get : ∀ {xs : List V} {us : List Value} {i : Nat} {x : V}, Vals xs us → xs[i]? = some x → ∃ u, us[i]? = some u ∧ RelV x u
  | _, _, _, _, .nil, e => by simp at e
  | _, _, 0, _, .cons r _, e => by simp at e; subst e; exact ⟨_, rfl, r⟩
  | _, _, i + 1, x, .cons _ t, e => by
    obtain ⟨u, h1, h2⟩ := Vals.get (i := i) (x := x) t (by simpa using e)
    exact ⟨u, by simpa using h1, h2⟩
theorem Vals.set {x : V} {u : Value} (r : RelV x u) : ∀ {xs : List V} {us : List Value} (i : Nat), Vals xs us → Vals (xs.set i x) (us.set i u)
  | _, _, _, .nil => .nil
  | _, _, 0, .cons _ t => .cons r t
  | _, _, i + 1, .cons q t => .cons q (Vals.set r i t)
theorem Vals.append : ∀ {xs ys : List V} {us ws : List Value}, Vals xs us → Vals ys ws → Vals (xs ++ ys) (us ++ ws)
  | _, _, _, _, .nil, s => s
  | _, _, _, _, .cons r t, s => .cons r (Vals.append t s)
theorem Vals.take : ∀ {xs : List V} {us : List Value} (n : Nat), Vals xs us → Vals (xs.take n) (us.take n)
  | _, _, 0, _ => .nil
  | _, _, _ + 1, .nil => .nil
  | _, _, n + 1, .cons r t => .cons r (Vals.take n t)
theorem Vals.drop : ∀ {xs : List V} {us : List Value} (n : Nat), Vals xs us → Vals (xs.drop n) (us.drop n)
  | _, _, 0, r => r
  | _, _, _ + 1, .nil => .nil
  | _, _, n + 1, .cons _ t => Vals.drop n t
theorem Vals.none_of : ∀ {xs : List V} {us : List Value} {i : Nat}, Vals xs us → xs[i]? = none → us[i]? = none := fun {xs us i} r e => by
  have h1 := r.length
  have h2 : xs.length ≤ i := List.getElem?_eq_none_iff.mp e
  exact List.getElem?_eq_none_iff.mpr (by omega)
def RelO : Option V → Option Value → Prop
  | some v, some u => RelV v u
  | none, none => True
  | _, _ => False
def KV {κ : Type} : List (κ × V) → List (κ × Value) → Prop := Paired fun (p : κ × V) (q : κ × Value) => p.1 = q.1 ∧ RelV p.2 q.2
def kV : Key → V
  | .inl i => .int i
  | .inr x => .str x
inductive HO where
  | lst (xs : List V)
  | tup (xs : List V)
  | dK (kvs : List (Key × V)) | dE (kvs : List (Str × V)) (ep : Nat)
  | set (S : Int → Bool) (n : Nat)
  | ins (C dx : Addr) (fs : List (Str × V))
  | own (x : Addr)
  | xd (fs : List (Str × V))
  | met (f x : Addr)
  | rng (lo hi : Int)
  | frz (o : Obj) (u : HO)
  | tbl (ps : Array Value)
  | ext (φ : Heap → Prop)
abbrev Hp := Addr → Option HO
def upd (H : Hp) (a : Addr) (o : HO) : Hp := fun b => if b = a then some o else H b
theorem upd_same {H : Hp} {a : Addr} {o : HO} : upd H a o a = some o := by unfold upd; rw [if_pos rfl]
theorem upd_ne {H : Hp} {a b : Addr} {o : HO} (h : b ≠ a) : upd H a o b = H b := by unfold upd; rw [if_neg h]
theorem ne_of_none {H : Hp} {a b : Addr} {o : HO} (h : H a = some o) (h' : H b = none) : a ≠ b := by
  intro e; subst e; rw [h] at h'; cases h'
section
variable (P : Program) (w : World)
def ObjOk (H : Hp) (h : Heap) (a : Addr) : HO → Prop
  | .lst xs => xs.length ≤ sizeLine ∧ ∃ (its : List Value) (n : Nat), Vals xs its ∧ h.get? a = some { cls := .type "list", data := .seq its.toArray n }
  | .tup xs => xs.length ≤ sizeLine ∧ ∃ its : List Value, Vals xs its ∧ IsTup h a its.toArray
  | .dK kvs => kvs.length ≤ sizeLine ∧ (a == sysModules) = false ∧ ∃ vs, KV kvs vs ∧ h.DictOf (mixKind P w) a vs
  | .dE kvs ep => kvs.length ≤ sizeLine ∧ (a == sysModules) = false ∧ ∃ vs, KV kvs vs ∧ h.DictAt (strKind P w) a vs ep
  | .set S n => h.SetOf (intKind P w) a S n
  | .ins C dx fs => H dx = some (.own a) ∧ fs.length ≤ 1000 ∧ dx ≠ a ∧ h.get? a = some (PySem.W.instObj C dx) ∧
      ∃ mA, h.Ns1 dx mA ∧ (∀ f, RelO (fs.lookup f) (mA f)) ∧ PySem.Within mA (fs.map (·.1))
  | .own _ => ∃ o, h.get? a = some o
  | .xd fs => ∃ mA, h.Ns1 a mA ∧ ∀ f, RelO (fs.lookup f) (mA f)
  | .rng lo hi => ∃ t u v, h.get? a = some { cls := .type "range", data := .fields #[.int lo t, .int hi u, .int 1 v] }
  | .frz o u => h.get? a = some o ∧ ObjOk H h a u
  | .tbl ps => h.get? a = some { cls := .none, data := .fields ps }
  | .met f x => h.get? a = some (PySem.W.methodObj (.ref f) (.ref x))
  | .ext φ => φ h ∧ (∃ o, h.get? a = some o) ∧ ∀ h1 h2 : Heap, φ h1 → (∀ o, h1.get? a = some o → h2.get? a = some o) → φ h2
def HOk (H : Hp) (h : Heap) : Prop := ∀ a o, H a = some o → ObjOk P w H h a o
end
section
variable {P : Program} {w : World} {H H' : Hp} {h h' : Heap} {a : Addr} {o : HO}
theorem ObjOk.lt (x : ObjOk P w H h a o) : a < h.objs.size := by
  cases o with
  | lst xs => obtain ⟨_, _, _, _, e⟩ := x; exact Heap.lt_size e
  | tup xs => obtain ⟨_, _, _, p⟩ := x; exact p.lt
  | dK kvs => obtain ⟨_, _, _, _, o, _, _, e, _⟩ := x; exact Heap.lt_size e
  | dE kvs ep => obtain ⟨_, _, _, _, o, _, e, _⟩ := x; exact Heap.lt_size e
  | set S n => obtain ⟨o, _, _, _, e, _⟩ := x; exact Heap.lt_size e
  | ins C dx fs => obtain ⟨_, _, _, e, _⟩ := x; exact Heap.lt_size e
  | own y => obtain ⟨_, e⟩ := x; exact Heap.lt_size e
  | xd fs => obtain ⟨_, ⟨_, _, _, e, _⟩, _⟩ := x; exact Heap.lt_size e
  | rng lo hi => obtain ⟨_, _, _, e⟩ := x; exact Heap.lt_size e
  | frz ob u => obtain ⟨e, _⟩ := x; exact Heap.lt_size e
  | tbl ps => exact Heap.lt_size (show h.get? a = some _ from x)
  | met f y => exact Heap.lt_size (show h.get? a = some _ from x)
  | ext φ => obtain ⟨_, ⟨_, e⟩, _⟩ := x; exact Heap.lt_size e
theorem ObjOk.stay (x : ObjOk P w H h a o) (k : ∀ b u, (b = a ∨ H b = some (.own a)) → h.get? b = some u → h'.get? b = some u)
    (ho : ∀ b, H b = some (.own a) → H' b = some (.own a)) (ht : ∀ b xs, H b = some (.tup xs) → H' b = some (.tup xs)) : ObjOk P w H' h' a o := by
  induction o with
  | lst xs => obtain ⟨z, its, n, r, e⟩ := x; exact ⟨z, its, n, r, k _ _ (.inl rfl) e⟩
  | tup xs => obtain ⟨z, its, r, ob, e, c⟩ := x; exact ⟨z, its, r, ob, k _ _ (.inl rfl) e, c⟩
  | dK kvs => obtain ⟨z, y, vs, r, ob, es, ep, e, c⟩ := x; exact ⟨z, y, vs, r, ob, es, ep, k _ _ (.inl rfl) e, c⟩
  | dE kvs ep => obtain ⟨z, y, vs, r, ob, es, e, c⟩ := x; exact ⟨z, y, vs, r, ob, es, k _ _ (.inl rfl) e, c⟩
  | set S n => obtain ⟨ob, es, ep, t, e, c⟩ := x; exact ⟨ob, es, ep, t, k _ _ (.inl rfl) e, c⟩
  | ins C dx fs =>
    obtain ⟨d, z, ne, e, mA, ⟨od, es, ep, e2, c⟩, r⟩ := x
    exact ⟨ho _ d, z, ne, k _ _ (.inl rfl) e, mA, ⟨od, es, ep, k _ _ (.inr d) e2, c⟩, r⟩
  | own y => obtain ⟨ob, e⟩ := x; exact ⟨ob, k _ _ (.inl rfl) e⟩
  | xd fs => obtain ⟨mA, ⟨od, es, ep, e, c⟩, r⟩ := x; exact ⟨mA, ⟨od, es, ep, k _ _ (.inl rfl) e, c⟩, r⟩
  | rng lo hi => obtain ⟨t, u, v, e⟩ := x; exact ⟨t, u, v, k _ _ (.inl rfl) e⟩
  | frz ob u ih => obtain ⟨e, q⟩ := x; exact ⟨k _ _ (.inl rfl) e, ih q⟩
  | tbl ps =>
    have e : h.get? a = some { cls := .none, data := .fields ps } := x
    show h'.get? a = some { cls := .none, data := .fields ps }
    exact k a _ (.inl rfl) e
  | met f y =>
    have e : h.get? a = some (PySem.W.methodObj (.ref f) (.ref y)) := x
    show h'.get? a = some (PySem.W.methodObj (.ref f) (.ref y))
    exact k a _ (.inl rfl) e
  | ext φ => obtain ⟨p, ⟨o, e⟩, st⟩ := x; exact ⟨st _ _ p fun o q => k _ _ (.inl rfl) q, ⟨o, k _ _ (.inl rfl) e⟩, st⟩
theorem HOk.lt (x : HOk P w H h) (e : H a = some o) : a < h.objs.size := (x a o e).lt
theorem HOk.fresh (x : HOk P w H h) (e : h.objs.size ≤ a) : H a = none := by
  cases q : H a with
  | none => rfl
  | some u => exact absurd (Nat.lt_of_lt_of_le (x.lt q) e) (Nat.lt_irrefl _)
theorem HOk.kept (x : HOk P w H h) (k : ∀ b u, h.get? b = some u → h'.get? b = some u) : HOk P w H h' := fun a o e =>
  (x a o e).stay (fun b u _ q => k b u q) (fun _ q => q) fun _ _ q => q
theorem HOk.laid (x : HOk P w H h) (k : ∀ b u, h.get? b = some u → h'.get? b = some u) (hp : h.objs.size ≤ a) (new : ObjOk P w (upd H a o) h' a o) : HOk P w (upd H a o) h' := fun b u e => by
  have hn := x.fresh hp
  by_cases hb : b = a
  · subst hb; rw [upd_same] at e; cases e; exact new
  · rw [upd_ne hb] at e
    exact (x b u e).stay (fun c v _ q => k c v q) (fun c q => by rw [upd_ne (ne_of_none q hn)]; exact q) fun c xs q => by rw [upd_ne (ne_of_none q hn)]; exact q
end
def Rd (H : Hp) (a : Addr) (u : HO) : Prop := H a = some u ∨ ∃ o, H a = some (.frz o u)
theorem Rd.of {H : Hp} {a : Addr} {u : HO} (h : H a = some u) : Rd H a u := .inl h
theorem Rd.ok {P : Program} {w : World} {H : Hp} {h : Heap} {a : Addr} {u : HO} (r : Rd H a u) (x : HOk P w H h) : ObjOk P w H h a u := by
  rcases r with r | ⟨o, r⟩
  · exact x a u r
  · obtain ⟨_, q⟩ := x a _ r
    exact q
def Mut : Option HO → Prop
  | some (.lst _) => True
  | some (.dK _) => True
  | some (.dE _ _) => True
  | some (.set _ _) => True
  | some (.ins _ _ _) => True
  | some (.ext _) => True
  | _ => False
section
variable {P : Program} {w : World} {H : Hp} {h h' : Heap} {x e : Addr} {o' : HO}
theorem HOk.write (ok : HOk P w H h) (mu : Mut (H x)) (he : e = x ∨ H e = some (.own x)) (k : ∀ b u, b ≠ e → h.get? b = some u → h'.get? b = some u) (heo : ∃ u, h'.get? e = some u)
    (new : ObjOk P w (upd H x o') h' x o') : HOk P w (upd H x o') h' := fun b u q => by
  have nown : ∀ c y, H c = some (.own y) → c ≠ x := fun c y r z => by subst z; rw [r] at mu; exact mu
  have ntup : ∀ c xs, H c = some (.tup xs) → c ≠ x := fun c xs r z => by subst z; rw [r] at mu; exact mu
  by_cases hb : b = x
  · subst hb; rw [upd_same] at q; cases q; exact new
  · rw [upd_ne hb] at q
    by_cases hbe : b = e
    · have q' : H b = some (.own x) := by
        rcases he with z | z
        · exact absurd (hbe.trans z) hb
        · rw [hbe]; exact z
      rw [q] at q'; cases q'
      obtain ⟨v, hv⟩ := heo
      exact ⟨v, by rw [hbe]; exact hv⟩
    · refine (ok b u q).stay (fun c v hc r => k c v ?_ r) (fun c r => by rw [upd_ne (nown c b r)]; exact r) fun c xs r => by rw [upd_ne (ntup c xs r)]; exact r
      rcases hc with rfl | hc
      · exact hbe
      · rintro rfl
        rcases he with z | z
        · exact nown c b hc z
        · rw [hc] at z; cases z; exact hb rfl
end
structure Un (fs ex : List Addr) (H H' : Hp) (h h' : Heap) : Prop where
  keep : ∀ b o, h.get? b = some o → H b = none → b ∉ fs → b ∉ ex → h'.get? b = some o
  slot : ∀ b o, h.get? b = some o → H b = none → b ∈ fs → b ∉ ex → ∃ sl, h'.get? b = some { o with slots := sl }
  free : ∀ b o, h.get? b = some o → H b = none → b ∉ ex → H' b = none
  there : ∀ b o, h.get? b = some o → b ∉ ex → ∃ o', h'.get? b = some o'
  tups : ∀ b xs, H b = some (.tup xs) → H' b = some (.tup xs)
  frzs : ∀ b o u, H b = some (.frz o u) → H' b = some (.frz o u)
  tbls : ∀ b ps, H b = some (.tbl ps) → ∃ more, H' b = some (.tbl (ps ++ more))
section
variable {fs fs' ex ex' : List Addr} {H H1 H2 : Hp} {h h1 h2 h' : Heap} {a x e : Addr} {o : HO}
theorem Un.any (u : Un fs ex H H1 h h1) {b : Addr} {ob : Obj} (q : h.get? b = some ob) (n : H b = none) (hx : b ∉ ex) : ∃ sl, h1.get? b = some { ob with slots := sl } := by
  by_cases hb : b ∈ fs
  · exact u.slot b ob q n hb hx
  · exact ⟨ob.slots, u.keep b ob q n hb hx⟩
theorem Un.trans (a : Un fs ex H H1 h h1) (b : Un fs ex H1 H2 h1 h2) : Un fs ex H H2 h h2 where
  keep := fun c ob q n hc hx => b.keep c ob (a.keep c ob q n hc hx) (a.free c ob q n hx) hc hx
  slot := fun c ob q n hc hx => by
    obtain ⟨sl, e1⟩ := a.slot c ob q n hc hx
    obtain ⟨sl', e2⟩ := b.slot c _ e1 (a.free c ob q n hx) hc hx
    exact ⟨sl', e2⟩
  free := fun c ob q n hx => by
    obtain ⟨o', e1⟩ := a.there c ob q hx
    exact b.free c o' e1 (a.free c ob q n hx) hx
  there := fun c ob q hx => by
    obtain ⟨o', e1⟩ := a.there c ob q hx
    exact b.there c o' e1 hx
  tups := fun c xs q => b.tups c xs (a.tups c xs q)
  frzs := fun c ob xs q => b.frzs c ob xs (a.frzs c ob xs q)
  tbls := fun c ps q => by
    obtain ⟨m1, e1⟩ := a.tbls c ps q
    obtain ⟨m2, e2⟩ := b.tbls c _ e1
    exact ⟨m1 ++ m2, by rw [e2, Array.append_assoc]⟩
theorem Un.kept (k : ∀ b u, h.get? b = some u → h'.get? b = some u) : Un fs ex H H h h' :=
  ⟨fun b ob q _ _ _ => k b ob q, fun b ob q _ _ _ => ⟨ob.slots, k b ob q⟩, fun _ _ _ n _ => n, fun b ob q _ => ⟨ob, k b ob q⟩, fun _ _ q => q, fun _ _ _ q => q, fun _ ps q => ⟨#[], by rw [q]; simp⟩⟩
theorem Un.refl : Un fs ex H H h h := Un.kept fun _ _ q => q
theorem Un.laid (k : ∀ b u, h.get? b = some u → h'.get? b = some u) (hp : h.objs.size ≤ a) (hn : H a = none) : Un fs ex H (upd H a o) h h' where
  keep := fun b u q _ _ _ => k b u q
  slot := fun b u q _ _ _ => ⟨u.slots, k b u q⟩
  free := fun b u q n _ => by rw [upd_ne (Nat.ne_of_lt (Nat.lt_of_lt_of_le (Heap.lt_size q) hp))]; exact n
  there := fun b u q _ => ⟨u, k b u q⟩
  tups := fun b xs q => by rw [upd_ne (ne_of_none q hn)]; exact q
  frzs := fun b u xs q => by rw [upd_ne (ne_of_none q hn)]; exact q
  tbls := fun b ps q => ⟨#[], by rw [upd_ne (ne_of_none q hn), q]; simp⟩
theorem Un.write (mu : Mut (H x)) (he : e = x ∨ H e = some (.own x)) (k : ∀ b u, b ≠ e → h.get? b = some u → h'.get? b = some u) (heo : ∃ u, h'.get? e = some u) : Un fs ex H (upd H x o) h h' := by
  have hx : ∀ b, H b = none → b ≠ x := fun b n z => by subst z; rw [n] at mu; exact mu
  have hb : ∀ b, H b = none → b ≠ e := fun b n z => by
    subst z
    rcases he with r | r
    · exact hx b n r
    · rw [n] at r; cases r
  have hm : ∀ b u, H b = some u → ¬ Mut (some u) → b ≠ x := fun b u q nm z => by subst z; rw [q] at mu; exact nm mu
  refine ⟨fun b u q n _ _ => k b u (hb b n) q, fun b u q n _ _ => ⟨u.slots, k b u (hb b n) q⟩, fun b u q n _ => by rw [upd_ne (hx b n)]; exact n, fun b u q _ => ?_,
    fun b xs q => by rw [upd_ne (hm b _ q fun z => z)]; exact q, fun b u xs q => by rw [upd_ne (hm b _ q fun z => z)]; exact q, fun b ps q => ⟨#[], by rw [upd_ne (hm b _ q fun z => z), q]; simp⟩⟩
  by_cases hbe : b = e
  · subst hbe; exact heo
  · exact ⟨u, k b u hbe q⟩
theorem Un.mono (u : Un fs ex H H1 h h1) (hs : ∀ b ∈ fs, b ∈ fs') (hx : ∀ b ∈ ex, b ∈ ex') : Un fs' ex' H H1 h h1 :=
  ⟨fun b ob q n hb he => u.keep b ob q n (fun z => hb (hs b z)) fun z => he (hx b z), fun _ _ q n _ he => u.any q n fun z => he (hx _ z), fun b ob q n he => u.free b ob q n fun z => he (hx b z), fun b ob q he => u.there b ob q fun z => he (hx b z), u.tups, u.frzs, u.tbls⟩
end
def trk (h : Heap) (H : Hp) : List Addr := (List.range h.objs.size).filter fun a => (H a).isSome
def hidT (h : Heap) (H : Hp) : Heap := PySem.W.hideAll h (trk h H)
theorem hidT_size (h : Heap) (H : Hp) : (hidT h H).objs.size = h.objs.size := PySem.W.hideAll_size _ _
theorem hidT_get {h : Heap} {H : Hp} {b : Addr} {o : Obj} (e : h.get? b = some o) (n : H b = none) : (hidT h H).get? b = some o :=
  PySem.W.hideAll_get _ e fun hm => by
    have q : (H b).isSome = true := (List.mem_filter.mp hm).2
    rw [n] at q; simp at q
theorem of_hidT {h : Heap} {H : Hp} {b : Addr} {o : Obj} (e : (hidT h H).get? b = some o) : h.get? b = some o ∧ H b = none := by
  have e' : h.get? b = some o := PySem.W.of_hideAll (trk h H) e
  refine ⟨e', ?_⟩
  cases q : H b with
  | none => rfl
  | some x =>
    have hm : b ∈ trk h H := List.mem_filter.mpr ⟨List.mem_range.mpr (Heap.lt_size e'), by simp [q]⟩
    have z : (hidT h H).get? b = none := PySem.W.hideAll_none (trk h H) hm
    rw [z] at e; cases e
def allNews (g h : Heap) (L : Addr) : List (Addr × Obj) := (List.range h.objs.size).filterMap fun a => if a = L ∨ (g.get? a).isSome = true then none else (h.get? a).map fun o => (a, o)
def rest (g h : Heap) (L d : Addr) : List (Addr × Obj) := (allNews g h L).filter fun p => decide (p.1 ≠ d)
end L2
namespace L2
open PySem PySem.Spec PyProof.Rows
structure Mod (K : PySem.W.Frag) (mg : Str → Option Value) (base : Heap) : Prop where
  kin : K.In base
  glob : base.Ns mainGlobals mg
  blt : ∃ mb, base.Ns builtinsNs mb ∧ ∀ x : Str, x ≠ "__name__" → mb x = bootBuiltins x
  nolimit : base.NoLimit
structure Cx where
  prog : Program
  w : World
  K : PySem.W.Frag
  mg : Str → Option Value
  base : Heap
  A : Around
  N : List Str
  s₀ : Shared
  H₀ : Hp
  env : Env
  outer : List Env
  stack : List Env
  ex : List Addr
  fn : Str → Bool
  calm : Bool
  pn : List (Addr × Obj)
  xe : Value → Shared → Prop
def frs (l : List Env) : List Addr := l.filterMap (·.frame)
abbrev Cx.fs (X : Cx) : List Addr := frs X.outer
def Vis (sc : Scope) (x : Str) : Prop := sc.names.lookup x = some .local ∨ sc.names.lookup x = some .cell ∨ sc.names.lookup x = some .free
def Loc (sc : Scope) (x : Str) : Prop := sc.names.lookup x = some .local ∨ sc.names.lookup x = some .cell
def Look (env : Env) (h : Heap) (m : Str → Option Value) (x : Str) (u : Value) : Prop :=
  (env.kindOf x = some .local ∧ m x = some u) ∨ ((env.kindOf x = some .cell ∨ env.kindOf x = some .free) ∧ ∃ c, env.cells.lookup x = some c ∧ h.IsCell c (some u))
structure Cx.Ok (X : Cx) : Prop where
  mod : Mod X.K X.mg X.base
  kind : X.env.scope.kind = .function
  glob : X.env.globals = mainGlobals
  blt : X.env.builtins = builtinsNs
  above : X.s₀.heap.objs.size ≤ X.env.locals
  inj : ∀ x y c, X.env.cells.lookup x = some c → X.env.cells.lookup y = some c → x = y
  has : ∀ x, (X.env.kindOf x = some .cell ∨ X.env.kindOf x = some .free) → ∃ c, X.env.cells.lookup x = some c
  cab : ∀ x c, X.fn x = true → X.env.cells.lookup x = some c → X.s₀.heap.objs.size ≤ c
  hd : X.calm = true → X.A.handled = none
  frames : X.A.frames = some X.stack
  stk : X.stack = X.outer ∨ (X.stack = X.env :: X.outer ∧ X.env.frame = some X.env.locals)
  exf : ∀ b ∈ X.ex, b ≠ X.env.locals ∧ ∀ x c, X.env.cells.lookup x = some c → c ≠ b
  bs : ∀ b o, X.base.get? b = some o → X.s₀.heap.get? b = some o ∧ X.H₀ b = none
  bsz : X.base.objs.size ≤ X.s₀.heap.objs.size
  noex : ∀ b o, X.base.get? b = some o → b ∉ X.ex
  exfs : ∀ b ∈ X.ex, b ∉ X.fs
  funs : X.s₀.heap.FunFrames X.base X.outer
  frf : ∀ b ∈ X.fs, X.H₀ b = none
structure Inv (X : Cx) (pins : List (Addr × Obj)) (σ : List (Option V)) (H : Hp) (s : Shared) : Prop where
  ok : X.Ok
  os : s.os = X.s₀.os
  bare : AllBare s.gens
  base : Un X.fs X.ex X.H₀ H X.s₀.heap s.heap
  loc : ∃ m, s.heap.Ns X.env.locals m ∧ ∀ (i : Nat) (x : Str) (v : V), X.N[i]? = some x → σ[i]? = some (some v) → Vis X.env.scope x → ∃ u, RelV v u ∧ Look X.env s.heap m x u
  cell : ∀ x c, X.env.cells.lookup x = some c → ∃ v, s.heap.IsCell c v
  free : H X.env.locals = none
  freeC : ∀ x c, X.env.cells.lookup x = some c → H c = none
  pin : ∀ p ∈ X.pn ++ pins, s.heap.get? p.1 = some p.2 ∧ H p.1 = none ∧ p.1 ≠ X.env.locals ∧ p.1 ∉ X.fs ∧ ∀ v, p.2.data ≠ .cell v
  hok : HOk X.prog X.w H s.heap
  len : σ.length = X.N.length
section
variable {X : Cx} {pins : List (Addr × Obj)} {σ : List (Option V)} {H H' : Hp} {s : Shared} {h' : Heap}
theorem Cx.Ok.nofr (ok : X.Ok) {b : Addr} {o : Obj} (e : X.base.get? b = some o) : b ∉ X.fs := fun hb => by
  have := (ok.funs.mem hb).1
  rw [e] at this; cases this
theorem Inv.bs (I : Inv X pins σ H s) : ∀ b o, X.base.get? b = some o → s.heap.get? b = some o ∧ H b = none := fun b o e =>
  ⟨I.base.keep b o (I.ok.bs b o e).1 (I.ok.bs b o e).2 (I.ok.nofr e) (I.ok.noex b o e), I.base.free b o (I.ok.bs b o e).1 (I.ok.bs b o e).2 (I.ok.noex b o e)⟩
theorem Inv.bk (I : Inv X pins σ H s) : ∀ b o, X.base.get? b = some o → s.heap.get? b = some o := fun b o e => (I.bs b o e).1
theorem Inv.mod (I : Inv X pins σ H s) : Mod X.K X.mg X.base := I.ok.mod
theorem Inv.kIn (I : Inv X pins σ H s) : X.K.In s.heap := I.ok.mod.kin.keeps I.bk
theorem Inv.nolimit (I : Inv X pins σ H s) : s.heap.NoLimit := I.ok.mod.nolimit.keeps I.bk
theorem Inv.fr (I : Inv X pins σ H s) : ∃ m, Fr X.base X.env.locals s.heap m :=
  let ⟨m, hn, _⟩ := I.loc
  ⟨m, hn, I.bk, Nat.le_trans I.ok.bsz I.ok.above⟩
theorem Inv.lt (I : Inv X pins σ H s) : X.env.locals < s.heap.objs.size := let ⟨_, hn, _⟩ := I.loc; hn.lt
theorem Inv.sz (I : Inv X pins σ H s) : X.s₀.heap.objs.size ≤ s.heap.objs.size := Nat.le_trans I.ok.above (Nat.le_of_lt I.lt)
theorem Inv.nofs (I : Inv X pins σ H s) {a : Addr} (h : s.heap.objs.size ≤ a) : a ∉ X.fs := fun hb => by
  obtain ⟨_, o, ho, _⟩ := I.ok.funs.mem hb
  exact absurd (Nat.lt_of_lt_of_le (Heap.lt_size ho) (Nat.le_trans I.sz h)) (Nat.lt_irrefl _)
theorem Inv.cne (I : Inv X pins σ H s) : ∀ x c, X.env.cells.lookup x = some c → c ≠ X.env.locals := fun x c e z => by
  obtain ⟨v, o, ho, hd⟩ := I.cell x c e
  obtain ⟨m, ⟨o', es, ep, ho', hd', _⟩, _⟩ := I.loc
  rw [z, ho'] at ho; cases ho; rw [hd'] at hd; cases hd
theorem Inv.funs (I : Inv X pins σ H s) : s.heap.FunFrames X.base X.outer := by
  have all : ∀ (l : List Env), (∀ b ∈ frs l, b ∈ X.fs) → X.s₀.heap.FunFrames X.base l → s.heap.FunFrames X.base l := by
    intro l
    induction l with
    | nil => intro _ _; trivial
    | cons env r ih =>
      intro hs hl
      obtain ⟨hk, ⟨L, o, hf, hn, ho, hd⟩, hr⟩ := hl
      have hL : L ∈ X.fs := hs L (by unfold frs; rw [List.filterMap_cons, hf]; exact List.mem_cons_self)
      obtain ⟨sl, e⟩ := I.base.slot L o ho (I.ok.frf L hL) hL fun z => I.ok.exfs L z hL
      exact ⟨hk, ⟨L, _, hf, hn, e, hd⟩, ih (fun b hb => hs b (by unfold frs; rw [List.filterMap_cons, hf]; exact List.mem_cons_of_mem _ hb)) hr⟩
  exact all X.outer (fun _ hb => hb) I.ok.funs
theorem Inv.stack (I : Inv X pins σ H s) : s.heap.FunFrames X.base X.stack := by
  rcases I.ok.stk with e | ⟨e, hf⟩
  · rw [e]; exact I.funs
  · rw [e]
    obtain ⟨m, hn, _⟩ := I.loc
    refine .cons (by rw [I.ok.kind]; decide) hf hn ?_ I.funs
    exact Heap.get?_none_of_le (Nat.le_trans I.ok.bsz I.ok.above)
theorem Inv.stkSub (I : Inv X pins σ H s) : ∀ b ∈ frs X.stack, b ∈ X.env.locals :: X.fs := fun b hb => by
  rcases I.ok.stk with e | ⟨e, hf⟩
  · rw [e] at hb; exact List.mem_cons_of_mem _ hb
  · rw [e] at hb
    unfold frs at hb
    rw [List.filterMap_cons, hf] at hb
    exact hb
theorem Inv.stkFree (I : Inv X pins σ H s) : ∀ b ∈ frs X.stack, H b = none := fun b hb => by
  rcases List.mem_cons.mp (I.stkSub b hb) with e | hb
  · rw [e]; exact I.free
  · obtain ⟨_, o, ho, _⟩ := I.ok.funs.mem hb
    exact I.base.free b o ho (I.ok.frf b hb) fun z => I.ok.exfs b z hb
theorem Inv.step {g' : Array GenState} {t' : Nat} {d' : Drawn} {ch : List Addr} (I : Inv X pins σ H s)
    (hch : ∀ b ∈ ch, (b ∈ X.ex ∨ X.s₀.heap.objs.size ≤ b) ∧ b ≠ X.env.locals ∧ (∀ x c, X.env.cells.lookup x = some c → c ≠ b) ∧ ∀ p ∈ X.pn ++ pins, p.1 ≠ b)
    (keep : ∀ b o, b ≠ X.env.locals → b ∉ X.fs → b ∉ ch → s.heap.get? b = some o → H b = none → h'.get? b = some o)
    (slot : ∀ b o, b ≠ X.env.locals → b ∈ X.fs → b ∉ ch → s.heap.get? b = some o → H b = none → ∃ sl, h'.get? b = some { o with slots := sl }) (free : ∀ b o, b ∉ ch → s.heap.get? b = some o → H b = none → H' b = none)
    (there : ∀ b o, b ∉ ch → s.heap.get? b = some o → ∃ o', h'.get? b = some o')
    (tups : ∀ b xs, H b = some (.tup xs) → H' b = some (.tup xs)) (frzs : ∀ b o u, H b = some (.frz o u) → H' b = some (.frz o u)) (tbls : ∀ b ps, H b = some (.tbl ps) → ∃ more, H' b = some (.tbl (ps ++ more)))
    (ns : ∀ m, s.heap.Ns X.env.locals m → h'.Ns X.env.locals m) (hok : HOk X.prog X.w H' h') (hg : AllBare g') :
    Inv X pins σ H' { s with heap := h', gens := g', drawn := d', toks := t' } := by
  have neL : ∀ b o, X.s₀.heap.get? b = some o → b ≠ X.env.locals := fun b o e => Nat.ne_of_lt (Nat.lt_of_lt_of_le (Heap.lt_size e) I.ok.above)
  have neC : ∀ b o, X.s₀.heap.get? b = some o → b ∉ X.ex → b ∉ ch := fun b o e hx hb => by
    rcases (hch b hb).1 with z | z
    · exact hx z
    · exact absurd (Nat.lt_of_lt_of_le (Heap.lt_size e) z) (Nat.lt_irrefl _)
  have cellK : ∀ x c, X.env.cells.lookup x = some c → ∀ v, s.heap.IsCell c v → h'.IsCell c v := fun x c e v ⟨o, ho, hd⟩ => by
    have nch : c ∉ ch := fun z => (hch c z).2.2.1 x c e rfl
    by_cases hc : c ∈ X.fs
    · obtain ⟨sl, q⟩ := slot c o (I.cne x c e) hc nch ho (I.freeC x c e)
      exact ⟨_, q, hd⟩
    · exact ⟨o, keep c o (I.cne x c e) hc nch ho (I.freeC x c e), hd⟩
  refine ⟨I.ok, I.os, hg, ⟨fun b o e n hb hx => ?_, fun b o e n hb hx => ?_, fun b o e n hx => ?_, fun b o e hx => ?_, fun b xs e => tups b xs (I.base.tups b xs e), fun b o xs e => frzs b o xs (I.base.frzs b o xs e), fun b ps e => ?_⟩, ?_, fun x c e => ?_, ?_, fun x c e => ?_, fun p hp => ?_, hok, I.len⟩
  · exact keep b o (neL b o e) hb (neC b o e hx) (I.base.keep b o e n hb hx) (I.base.free b o e n hx)
  · obtain ⟨sl, e1⟩ := I.base.slot b o e n hb hx
    obtain ⟨sl', e2⟩ := slot b _ (neL b o e) hb (neC b o e hx) e1 (I.base.free b o e n hx)
    exact ⟨sl', e2⟩
  · obtain ⟨o', e1⟩ := I.base.there b o e hx
    exact free b o' (neC b o e hx) e1 (I.base.free b o e n hx)
  · obtain ⟨o', e1⟩ := I.base.there b o e hx
    exact there b o' (neC b o e hx) e1
  · obtain ⟨m1, e1⟩ := I.base.tbls b ps e
    obtain ⟨m2, e2⟩ := tbls b _ e1
    exact ⟨m1 ++ m2, by rw [e2, Array.append_assoc]⟩
  · obtain ⟨m, hn, hl⟩ := I.loc
    refine ⟨m, ns m hn, fun i x v e1 e2 e3 => ?_⟩
    obtain ⟨u, r, l⟩ := hl i x v e1 e2 e3
    refine ⟨u, r, ?_⟩
    rcases l with l | ⟨k, c, e, z⟩
    · exact .inl l
    · exact .inr ⟨k, c, e, cellK x c e _ z⟩
  · obtain ⟨v, z⟩ := I.cell x c e
    exact ⟨v, cellK x c e v z⟩
  · obtain ⟨m, ⟨o, _, _, ho, _⟩, _⟩ := I.loc
    exact free _ o (fun z => (hch _ z).2.1 rfl) ho I.free
  · obtain ⟨v, o, ho, hd⟩ := I.cell x c e
    exact free c o (fun z => (hch c z).2.2.1 x c e rfl) ho (I.freeC x c e)
  · obtain ⟨e, n, ne, nf, d⟩ := I.pin p hp
    have nch : p.1 ∉ ch := fun z => (hch p.1 z).2.2.2 p hp rfl
    exact ⟨keep p.1 p.2 ne nf nch e n, free p.1 p.2 nch e n, ne, nf, d⟩
theorem Inv.un {t' : Nat} (I : Inv X pins σ H s) (u : Un X.fs [] H H' s.heap h') (hok : HOk X.prog X.w H' h') : Inv X pins σ H' { s with heap := h', toks := t' } := by
  obtain ⟨m, ⟨o, es, ep, ho, r⟩, _⟩ := id I.loc
  obtain ⟨sl, hL⟩ := u.any ho I.free (by simp)
  exact I.step (g' := s.gens) (d' := s.drawn) (ch := []) (fun _ z => nomatch z) (fun b o _ hb _ e n => u.keep b o e n hb (by simp)) (fun b o _ hb _ e n => u.slot b o e n hb (by simp)) (fun b o _ e n => u.free b o e n (by simp)) (fun b o _ e => u.there b o e (by simp)) u.tups u.frzs u.tbls (fun m' hm => by
    obtain ⟨o', es', ep', ho', r'⟩ := hm
    rw [ho] at ho'; cases ho'
    exact ⟨_, es', ep', hL, r'⟩) hok I.bare
theorem Inv.call {g' : Array GenState} {t' : Nat} {d' : Drawn} {ch : List Addr} (I : Inv X pins σ H s) (u : Un (frs X.stack) ch H H' s.heap h') (hok : HOk X.prog X.w H' h') (hg : AllBare g')
    (hch : ∀ b ∈ ch, (b ∈ X.ex ∨ X.s₀.heap.objs.size ≤ b) ∧ b ≠ X.env.locals ∧ (∀ x c, X.env.cells.lookup x = some c → c ≠ b) ∧ ∀ p ∈ X.pn ++ pins, p.1 ≠ b) :
    Inv X pins σ H' { s with heap := h', gens := g', drawn := d', toks := t' } := by
  obtain ⟨m, ⟨o, es, ep, ho, r⟩, _⟩ := id I.loc
  obtain ⟨sl, hL⟩ := u.any ho I.free fun z => (hch _ z).2.1 rfl
  exact I.step (ch := ch) hch (fun b o hL hb hc e n => u.keep b o e n (fun z => (List.mem_cons.mp (I.stkSub b z)).elim hL hb) hc) (fun b o _ _ hc e n => u.any e n hc) (fun b o hc e n => u.free b o e n hc) (fun b o hc e => u.there b o e hc) u.tups u.frzs u.tbls (fun m' hm => by
    obtain ⟨o', es', ep', ho', r'⟩ := hm
    rw [ho] at ho'; cases ho'
    exact ⟨_, es', ep', hL, r'⟩) hok hg
theorem Inv.turned {t' : Nat} {it : Addr} (I : Inv X pins σ H s) (k : ∀ b o, b ≠ it → s.heap.get? b = some o → h'.get? b = some o) (hn : H it = none) (hL : it ≠ X.env.locals)
    (h1 : it ∈ X.ex ∨ X.s₀.heap.objs.size ≤ it) (h2 : ∀ x c, X.env.cells.lookup x = some c → c ≠ it) (h3 : ∀ p ∈ X.pn ++ pins, p.1 ≠ it) : Inv X pins σ H { s with heap := h', toks := t' } := by
  have nit : ∀ b u, H b = some u → b ≠ it := fun b u e z => by rw [z, hn] at e; cases e
  refine I.step (g' := s.gens) (d' := s.drawn) (ch := [it]) (fun b hb => ?_) (fun b o _ _ hc e _ => k b o (fun z => hc (by simp [z])) e) (fun b o _ _ hc e _ => ⟨o.slots, k b o (fun z => hc (by simp [z])) e⟩) (fun _ _ _ _ n => n)
    (fun b o hc e => ⟨o, k b o (fun z => hc (by simp [z])) e⟩) (fun _ _ e => e) (fun _ _ _ e => e) (fun b ps e => ⟨#[], by rw [e]; simp⟩) (fun m hm => ?_) (fun b u e => ?_) I.bare
  · have e : b = it := by simpa using hb
    subst e
    exact ⟨h1, hL, h2, h3⟩
  · obtain ⟨o, es, ep, ho, r⟩ := hm
    exact ⟨o, es, ep, k _ o (Ne.symm hL) ho, r⟩
  · refine (I.hok b u e).stay (fun c v hc q => k c v ?_ q) (fun _ q => q) fun _ _ q => q
    rcases hc with z | z
    · rw [z]; exact nit b u e
    · exact nit c _ z
theorem Inv.tok (I : Inv X pins σ H s) (t : Nat) : Inv X pins σ H { s with toks := t } := I.un (h' := s.heap) (t' := t) Un.refl I.hok
theorem Inv.kept {t' : Nat} (I : Inv X pins σ H s) (k : ∀ b u, s.heap.get? b = some u → h'.get? b = some u) : Inv X pins σ H { s with heap := h', toks := t' } := I.un (Un.kept k) (I.hok.kept k)
theorem Inv.laid {a : Addr} {o : HO} {t' : Nat} (I : Inv X pins σ H s) (k : ∀ b u, s.heap.get? b = some u → h'.get? b = some u) (hp : s.heap.objs.size ≤ a) (new : ObjOk X.prog X.w (upd H a o) h' a o) :
    Inv X pins σ (upd H a o) { s with heap := h', toks := t' } := I.un (Un.laid k hp (I.hok.fresh hp)) (I.hok.laid k hp new)
theorem Inv.write {x e : Addr} {o : HO} {t' : Nat} (I : Inv X pins σ H s) (mu : Mut (H x)) (he : e = x ∨ H e = some (.own x)) (k : ∀ b u, b ≠ e → s.heap.get? b = some u → h'.get? b = some u) (heo : ∃ u, h'.get? e = some u)
    (new : ObjOk X.prog X.w (upd H x o) h' x o) : Inv X pins σ (upd H x o) { s with heap := h', toks := t' } := I.un (Un.write mu he k heo) (I.hok.write mu he k heo new)
theorem Inv.pins_of {pins' : List (Addr × Obj)} (I : Inv X pins σ H s) (h : ∀ p ∈ pins', s.heap.get? p.1 = some p.2 ∧ H p.1 = none ∧ p.1 ≠ X.env.locals ∧ p.1 ∉ X.fs ∧ ∀ v, p.2.data ≠ .cell v) : Inv X pins' σ H s :=
  ⟨I.ok, I.os, I.bare, I.base, I.loc, I.cell, I.free, I.freeC, fun p hp => (List.mem_append.mp hp).elim (fun z => I.pin p (List.mem_append_left _ z)) (h p), I.hok, I.len⟩
theorem nodup_ix {N : List Str} (hN : N.Nodup) {i j : Nat} {x : Str} (a : N[i]? = some x) (b : N[j]? = some x) : i = j := by
  obtain ⟨h1, e1⟩ := List.getElem?_eq_some_iff.mp a
  obtain ⟨h2, e2⟩ := List.getElem?_eq_some_iff.mp b
  exact (List.getElem_inj hN).mp (e1.trans e2.symm)
theorem store_ok2 {M : Model} {A : Around} {E : Value → Shared → Prop} {i : Nat} {x : Str} {v : V} {u : Value} {Q : Unit → Shared → Prop} (I : Inv X pins σ H s) (hN : X.N.Nodup) (hi : X.N[i]? = some x) (hx : Loc X.env.scope x) (r : RelV v u)
    (h : ∀ s', Inv X pins (σ.set i (some v)) H s' → (∃ a, Heap.SameBut a s.heap s'.heap ∧ (a = X.env.locals ∨ X.env.cells.lookup x = some a)) → Q () s') (hf : X.fn x = true ∨ X.env.scope.names.lookup x = some .local := by first | exact .inl rfl | exact .inr rfl | assumption) : wpAny M A (storeName X.env x u) Q E s := by
  obtain ⟨m, hn, hl⟩ := id I.loc
  have hcls : (X.env.scope.kind == .class || (X.env.scope.kind == .module && X.env.locals != X.env.globals)) = false := by rw [I.ok.kind]; rfl
  have hiσ : i < σ.length := by rw [I.len]; exact (List.getElem?_eq_some_iff.mp hi).1
  have cne := I.cne
  have tracked : ∀ {a : Addr} {h' : Heap}, (∃ o, s.heap.get? a = some o ∧ H a = none) → Heap.SameBut a s.heap h' → HOk X.prog X.w H h' := fun {a h'} ha hs b ob e => by
    obtain ⟨_, _, hfree⟩ := ha
    refine (I.hok b ob e).stay (fun c w' hc q => (hs.2 c ?_).trans q) (fun _ q => q) fun _ _ q => q
    rintro rfl
    rcases hc with rfl | hc
    · rw [hfree] at e; cases e
    · rw [hfree] at hc; cases hc
  rcases hx with hk | hk
  · refine wpAny_storeName_local hk hn (fun h' hn' hs => ?_) hcls
    obtain ⟨oL, _, _, hoL, _⟩ := id hn
    refine h _ ⟨I.ok, I.os, I.bare, ⟨fun b o e n hb hx => ?_, fun b o e n hb hx => ?_, I.base.free, fun b o e hx => ?_, I.base.tups, I.base.frzs, I.base.tbls⟩, ⟨_, hn', fun j y v' e1 e2 e3 => ?_⟩, fun y c e => ?_, I.free, I.freeC, fun p hp => ?_, tracked ⟨oL, hoL, I.free⟩ hs, by simpa using I.len⟩ ⟨_, hs, .inl rfl⟩
    · exact (hs.2 b (Nat.ne_of_lt (Nat.lt_of_lt_of_le (Heap.lt_size e) I.ok.above))).trans (I.base.keep b o e n hb hx)
    · obtain ⟨sl, e1⟩ := I.base.slot b o e n hb hx
      exact ⟨sl, (hs.2 b (Nat.ne_of_lt (Nat.lt_of_lt_of_le (Heap.lt_size e) I.ok.above))).trans e1⟩
    · obtain ⟨o', e1⟩ := I.base.there b o e hx
      exact ⟨o', (hs.2 b (Nat.ne_of_lt (Nat.lt_of_lt_of_le (Heap.lt_size e) I.ok.above))).trans e1⟩
    · by_cases hj : j = i
      · subst hj
        rw [hi] at e1; cases e1
        rw [List.getElem?_set_self hiσ] at e2
        cases e2
        exact ⟨u, r, .inl ⟨hk, by simp⟩⟩
      · rw [List.getElem?_set_ne (Ne.symm hj)] at e2
        obtain ⟨u', r', q⟩ := hl j y v' e1 e2 e3
        refine ⟨u', r', ?_⟩
        rcases q with ⟨k, e⟩ | ⟨k, c, e, z⟩
        · refine .inl ⟨k, ?_⟩
          have : y ≠ x := fun e => hj (nodup_ix hN e1 (e ▸ hi))
          simp [this, e]
        · exact .inr ⟨k, c, e, z.sameBut hs (cne y c e)⟩
    · obtain ⟨w', z⟩ := I.cell y c e
      exact ⟨w', z.sameBut hs (cne y c e)⟩
    · obtain ⟨e, n, ne, nf, d⟩ := I.pin p hp
      exact ⟨(hs.2 p.1 ne).trans e, n, ne, nf, d⟩
  · have hfn : X.fn x = true := by
      rcases hf with z | z
      · exact z
      · rw [z] at hk; cases hk
    obtain ⟨c, hc⟩ := I.ok.has x (.inl hk)
    obtain ⟨w', z⟩ := I.cell x c hc
    refine wpAny_storeName_cell I.ok.kind hk hc z (fun h' hc' hs => ?_)
    obtain ⟨oc, hoc, hocd⟩ := id z
    refine h { s with heap := h' } ⟨I.ok, I.os, I.bare, ⟨fun b o e n hb hx => ?_, fun b o e n hb hx => ?_, I.base.free, fun b o e hx => ?_, I.base.tups, I.base.frzs, I.base.tbls⟩, ⟨m, hn.sameBut hs (Ne.symm (cne x c hc)), fun j y v' e1 e2 e3 => ?_⟩, fun y c' e => ?_, I.free, I.freeC, fun p hp => ?_, tracked ⟨oc, hoc, I.freeC x c hc⟩ hs, by simpa using I.len⟩ ⟨c, hs, .inr hc⟩
    · exact (hs.2 b (Nat.ne_of_lt (Nat.lt_of_lt_of_le (Heap.lt_size e) (I.ok.cab x c hfn hc)))).trans (I.base.keep b o e n hb hx)
    · obtain ⟨sl, e1⟩ := I.base.slot b o e n hb hx
      exact ⟨sl, (hs.2 b (Nat.ne_of_lt (Nat.lt_of_lt_of_le (Heap.lt_size e) (I.ok.cab x c hfn hc)))).trans e1⟩
    · obtain ⟨o', e1⟩ := I.base.there b o e hx
      exact ⟨o', (hs.2 b (Nat.ne_of_lt (Nat.lt_of_lt_of_le (Heap.lt_size e) (I.ok.cab x c hfn hc)))).trans e1⟩
    · by_cases hj : j = i
      · subst hj
        rw [hi] at e1; cases e1
        rw [List.getElem?_set_self hiσ] at e2
        cases e2
        exact ⟨u, r, .inr ⟨.inl hk, c, hc, hc'⟩⟩
      · rw [List.getElem?_set_ne (Ne.symm hj)] at e2
        obtain ⟨u', r', q⟩ := hl j y v' e1 e2 e3
        refine ⟨u', r', ?_⟩
        rcases q with q | ⟨k, c', e, z'⟩
        · exact .inl q
        · refine .inr ⟨k, c', e, z'.sameBut hs ?_⟩
          rintro rfl
          exact hj (nodup_ix hN e1 (I.ok.inj _ _ _ e hc ▸ hi))
    · by_cases hcc : c' = c
      · subst hcc; exact ⟨_, hc'⟩
      · obtain ⟨w2, z2⟩ := I.cell y c' e
        exact ⟨w2, z2.sameBut hs hcc⟩
    · obtain ⟨e, n, ne, nf, d⟩ := I.pin p hp
      refine ⟨(hs.2 p.1 ?_).trans e, n, ne, nf, d⟩
      intro q
      rw [q, hoc] at e
      have q' : oc = p.2 := Option.some.inj e
      exact d w' (by rw [← q']; exact hocd)
theorem store_ok {M : Model} {A : Around} {E : Value → Shared → Prop} {i : Nat} {x : Str} {v : V} {u : Value} {Q : Unit → Shared → Prop} (I : Inv X pins σ H s) (hN : X.N.Nodup) (hi : X.N[i]? = some x) (hx : Loc X.env.scope x) (r : RelV v u)
    (h : ∀ s', Inv X pins (σ.set i (some v)) H s' → Q () s') (hf : X.fn x = true ∨ X.env.scope.names.lookup x = some .local := by first | exact .inl rfl | exact .inr rfl | assumption) : wpAny M A (storeName X.env x u) Q E s :=
  store_ok2 I hN hi hx r (fun s' I' _ => h s' I') hf
end
abbrev XK := Value → Option Addr → Hp → Prop
abbrev St := List (Option V)
abbrev VK := V → Hp → Prop
abbrev TE := St → Hp → VK → Prop
abbrev TT := St → Hp → (Bool → Hp → Prop) → Prop
abbrev TA := St → Hp → (List V → Hp → Prop) → Prop
structure Ends where
  nx : St → Hp → Prop
  rt : VK
  bk : St → Hp → Prop := fun _ _ => False
  ct : St → Hp → Prop := fun _ _ => False
abbrev TS := Ends → St → Hp → Prop
def EP (X : Cx) (pins : List (Addr × Obj)) (σ : St) (Q : VK) (u : Value) (s' : Shared) : Prop := ∃ v H', Inv X pins σ H' s' ∧ RelV v u ∧ Q v H'
def TP (X : Cx) (pins : List (Addr × Obj)) (σ : St) (Q : Bool → Hp → Prop) (b : Bool) (s' : Shared) : Prop := ∃ H', Inv X pins σ H' s' ∧ Q b H'
def AP (X : Cx) (pins : List (Addr × Obj)) (σ : St) (Q : List V → Hp → Prop) (us : List Value) (s' : Shared) : Prop := ∃ vs H', Inv X pins σ H' s' ∧ Vals vs us ∧ Q vs H'
def SP (X : Cx) (pins : List (Addr × Obj)) (D : Ends) (f : Flow) (s' : Shared) : Prop :=
  match f with
  | .next => ∃ σ' H', Inv X pins σ' H' s' ∧ D.nx σ' H'
  | .brk => ∃ σ' H', Inv X pins σ' H' s' ∧ D.bk σ' H'
  | .cont => ∃ σ' H', Inv X pins σ' H' s' ∧ D.ct σ' H'
  | .ret u => ∃ v σ' H', Inv X pins σ' H' s' ∧ RelV v u ∧ D.rt v H'
def PE (X : Cx) (e : Expr) (t : TE) : Prop :=
  ∀ (pins : List (Addr × Obj)) (s : Shared) (σ : St) (H : Hp) (Q : VK), Inv X pins σ H s → t σ H Q → wpAny (model X.prog X.w) X.A (eval e X.env) (EP X pins σ Q) X.xe s
def PT (X : Cx) (e : Expr) (t : TT) : Prop :=
  ∀ (pins : List (Addr × Obj)) (s : Shared) (σ : St) (H : Hp) (Q : Bool → Hp → Prop), Inv X pins σ H s → t σ H Q → wpAny (model X.prog X.w) X.A (isTrue e X.env (eval e X.env)) (TP X pins σ Q) X.xe s
def PW (X : Cx) (e : Expr) (t : TT) : Prop :=
  ∀ (whole : Sem Value) (pins : List (Addr × Obj)) (s : Shared) (σ : St) (H : Hp) (Q : Bool → Hp → Prop), Inv X pins σ H s → t σ H Q → wpAny (model X.prog X.w) X.A (isTrue e X.env whole) (TP X pins σ Q) X.xe s
theorem PW.pt {X : Cx} {e : Expr} {t : TT} (h : PW X e t) : PT X e t := h _
def PA (X : Cx) (es : List Expr) (t : TA) : Prop :=
  ∀ (pos : Pos) (pins : List (Addr × Obj)) (s : Shared) (σ : St) (H : Hp) (Q : List V → Hp → Prop), Inv X pins σ H s → t σ H Q → wpAny (model X.prog X.w) X.A (spliced (backTo pos (starEach es X.env))) (AP X pins σ Q) X.xe s
def PS (X : Cx) (st : Stmt) (t : TS) : Prop :=
  ∀ (pins : List (Addr × Obj)) (s : Shared) (σ : St) (H : Hp) (D : Ends), Inv X pins σ H s → t D σ H → wpAny (model X.prog X.w) X.A (exec st X.env) (SP X pins D) X.xe s
def PSs (X : Cx) (st : List Stmt) (t : TS) : Prop :=
  ∀ (pins : List (Addr × Obj)) (s : Shared) (σ : St) (H : Hp) (D : Ends), Inv X pins σ H s → t D σ H → wpAny (model X.prog X.w) X.A (execs st X.env) (SP X pins D) X.xe s
theorem thn {α : Type} {t : Sem α} {Q Q' : α → Shared → Prop} {M : Model} {A : Around} {E : Value → Shared → Prop} {s : Shared} (h : wpAny M A t Q E s) (hQ : ∀ a s, Q a s → Q' a s) : wpAny M A t Q' E s := wpAny_mono h hQ fun _ _ x => x
end L2
namespace L2
open PySem PySem.Spec PyProof.Rows
section
variable {X : Cx}
def tVar (i : Nat) : TE := fun σ H Q => ∃ v, σ[i]? = some (some v) ∧ Q v H
def tC (v : V) : TE := fun _ H Q => Q v H
theorem pe_var {i : Nat} {x : Str} {pos : Pos} (hN : X.N[i]? = some x) (hv : Vis X.env.scope x) (hd : (x == ("__debug__" : Str)) = false := by decide) (hcd : (x == ("__classdict__" : Str)) = false := by decide) : PE X (.Name x pos) (tVar i) := by
  intro pins s σ H Q I h
  obtain ⟨v, e, h⟩ := h
  obtain ⟨m, hn, hl⟩ := I.loc
  obtain ⟨u, r, l⟩ := hl i x v hN e hv
  have fin : EP X pins σ Q u s := ⟨v, H, I, r, h⟩
  rcases l with ⟨hk, hm⟩ | ⟨hk, c, hc, hcell⟩
  · exact wpAny_Name (wpAny_loadName_local I.ok.kind hk hn hm fin) hd
  · rcases hk with hk | hk
    · exact wpAny_Name (wpAny_loadName_cell I.ok.kind hk hc hcell fin) hd
    · exact wpAny_Name (wpAny_loadName_free I.ok.kind hk hc hcell fin hcd) hd
theorem pe_int {i j pos} : PE X (.Constant (.int i) j pos) (tC (.int i)) := fun _ _ _ H _ I h => wpAny_Constant_int ⟨.int i, H, I.tok _, ⟨_, rfl⟩, h⟩
theorem pe_bl {b j pos} : PE X (.Constant (.bool b) j pos) (tC (.bl b)) := fun _ _ _ H _ I h => Constant_bool ⟨.bl b, H, I, rfl, h⟩
theorem pe_non {j pos} : PE X (.Constant .none j pos) (tC .non) := fun _ _ _ H _ I h => Constant_none ⟨.non, H, I, rfl, h⟩
theorem pe_str {x j pos} : PE X (.Constant (.str x) j pos) (tC (.str x)) := fun _ _ _ H _ I h => Calls.Constant_str ⟨.str x, H, I.tok _, ⟨_, rfl⟩, h⟩
def Gl (X : Cx) (x : Str) : Prop := X.env.kindOf x = some .globalImplicit
theorem ld_glob {E : Value → Shared → Prop} {pins : List (Addr × Obj)} {s : Shared} {σ : St} {H : Hp} {x : Str} {u : Value} {pos : Pos} {Q : Value → Shared → Prop} (I : Inv X pins σ H s) (hg : Gl X x) (hm : X.mg x = some u) (h : Q u s)
    (hd : (x == ("__debug__" : Str)) = false := by decide) : wpAny (model X.prog X.w) X.A (eval (.Name x pos) X.env) Q E s :=
  Calls.Name_function_global I.ok.kind hg (Calls.loadGlobal_global (by rw [I.ok.glob]; exact I.mod.glob.keeps I.bk) hm h) hd
theorem ld_blt {E : Value → Shared → Prop} {pins : List (Addr × Obj)} {s : Shared} {σ : St} {H : Hp} {x : Str} {u : Value} {pos : Pos} {Q : Value → Shared → Prop} (I : Inv X pins σ H s) (hg : Gl X x) (hm : X.mg x = none) (hv : bootBuiltins x = some u) (h : Q u s)
    (hn : x ≠ "__name__" := by decide) (hd : (x == ("__debug__" : Str)) = false := by decide) : wpAny (model X.prog X.w) X.A (eval (.Name x pos) X.env) Q E s := by
  obtain ⟨mb, h1, h2⟩ := I.mod.blt
  exact Calls.Name_function_global I.ok.kind hg (Calls.loadGlobal_builtin (by rw [I.ok.glob]; exact I.mod.glob.keeps I.bk) hm (by rw [I.ok.blt]; exact h1.keeps I.bk) ((h2 x hn).trans hv) h) hd
theorem pe_glob {x : Str} {v : V} {u : Value} {pos : Pos} (hg : Gl X x) (hm : X.mg x = some u) (r : RelV v u) (hd : (x == ("__debug__" : Str)) = false := by decide) : PE X (.Name x pos) (tC v) :=
  fun _ _ _ H _ I h => ld_glob I hg hm ⟨v, H, I, r, h⟩ hd
theorem pe_bltn {x : Str} {v : V} {u : Value} {pos : Pos} (hg : Gl X x) (hm : X.mg x = none) (hv : bootBuiltins x = some u) (r : RelV v u) (hn : x ≠ "__name__" := by decide) (hd : (x == ("__debug__" : Str)) = false := by decide) : PE X (.Name x pos) (tC v) :=
  fun _ _ _ H _ I h => ld_blt I hg hm hv ⟨v, H, I, r, h⟩ hn hd
variable {a b : Expr} {ta tb : TE} {pos : Pos}
def tB (t : TE) : TT := fun σ H Q => t σ H fun x H1 => ∃ c, x = .bl c ∧ Q c H1
theorem pt_val {e : Expr} {t : TE} (h : PE X e t) (he : ∀ whole, isTrue e X.env whole = (do let v ← whole; standAt e.pos; holding [v] (truthy v)) := by intro _; rfl) : PT X e (tB t) := by
  intro pins s σ H Q I hw
  refine isTrue_plain (thn (h pins s σ H _ I hw) fun v s1 ⟨x, H1, I1, r1, q1⟩ => ?_) (he _)
  obtain ⟨d, rfl, q⟩ := q1
  cases r1
  exact wpAny_truthy_bool ⟨H1, I1, q⟩
variable {tA tB' : TT} {rest : List Expr}
def tAnd (t u : TT) : TT := fun σ H Q => t σ H fun c H1 => if c = true then u σ H1 Q else Q false H1
def tOr (t u : TT) : TT := fun σ H Q => t σ H fun c H1 => if c = true then Q true H1 else u σ H1 Q
def tNot (t : TT) : TT := fun σ H Q => t σ H fun c H1 => Q (!c) H1
theorem pw_and1 (ha : PT X a tA) : PW X (.BoolOp .And [a] pos) tA := by
  intro wh pins s σ H Q I h
  refine isTrue_and (thn (ha pins s σ H Q I h) fun c s1 e => ?_)
  cases c with
  | true => exact isTrue_and_nil e
  | false => exact e
theorem pw_or1 (ha : PT X a tA) : PW X (.BoolOp .Or [a] pos) tA := by
  intro wh pins s σ H Q I h
  refine isTrue_or (thn (ha pins s σ H Q I h) fun c s1 e => ?_)
  cases c with
  | false => exact isTrue_or_nil e
  | true => exact e
theorem pw_and (ha : PT X a tA) (hb : PW X (.BoolOp .And (b :: rest) pos) tB') : PW X (.BoolOp .And (a :: b :: rest) pos) (tAnd tA tB') := by
  intro wh pins s σ H Q I h
  refine isTrue_and (thn (ha pins s σ H _ I h) fun c s1 ⟨H1, I1, q1⟩ => ?_)
  cases c with
  | true => exact hb wh pins s1 σ H1 Q I1 q1
  | false => exact ⟨H1, I1, q1⟩
theorem pw_or (ha : PT X a tA) (hb : PW X (.BoolOp .Or (b :: rest) pos) tB') : PW X (.BoolOp .Or (a :: b :: rest) pos) (tOr tA tB') := by
  intro wh pins s σ H Q I h
  refine isTrue_or (thn (ha pins s σ H _ I h) fun c s1 ⟨H1, I1, q1⟩ => ?_)
  cases c with
  | true => exact ⟨H1, I1, q1⟩
  | false => exact hb wh pins s1 σ H1 Q I1 q1
theorem pt_not (ha : PT X a tA) : PT X (.UnaryOp .Not a pos) (tNot tA) := by
  intro pins s σ H Q I h
  exact isTrue_not (ha pins s σ H (fun c H1 => Q (!c) H1) I h)
def tAndV (ta tb : TE) : TE := fun σ H Q => ta σ H fun x H1 => ∃ c, x = .bl c ∧ if c = true then tb σ H1 Q else Q (.bl false) H1
def tOrV (ta tb : TE) : TE := fun σ H Q => ta σ H fun x H1 => ∃ c, x = .bl c ∧ if c = true then Q (.bl true) H1 else tb σ H1 Q
def tNotV (ta : TE) : TE := fun σ H Q => ta σ H fun x H1 => ∃ c, x = .bl c ∧ Q (.bl (!c)) H1
theorem pe_one {op} {t : TE} (h : PE X a t) : PE X (.BoolOp op [a] pos) t := fun pins s σ H Q I hw => BoolOp_one (h pins s σ H Q I hw)
theorem pe_and (ha : PE X a ta) (hb : PE X (.BoolOp .And (b :: rest) pos) tb) : PE X (.BoolOp .And (a :: b :: rest) pos) (tAndV ta tb) := by
  intro pins s σ H Q I h
  refine BoolOp_and (thn (ha pins s σ H _ I h) fun v s1 ⟨x, H1, I1, r1, q1⟩ => ?_)
  obtain ⟨c, rfl, q1⟩ := q1
  cases r1
  refine wpAny_truthy_bool ?_
  cases c with
  | true => exact hb pins s1 σ H1 Q I1 q1
  | false => exact ⟨.bl false, H1, I1, rfl, q1⟩
theorem pe_not (ha : PE X a ta) : PE X (.UnaryOp .Not a pos) (tNotV ta) := by
  intro pins s σ H Q I h
  refine UnaryOp_ (thn (ha pins s σ H _ I h) fun v s1 ⟨x, H1, I1, r1, q1⟩ => ?_)
  obtain ⟨c, rfl, q1⟩ := q1
  cases r1
  exact not_of (wpAny_truthy_bool ⟨.bl (!c), H1, I1, rfl, q1⟩)
def tIf (t : TT) (ta tb : TE) : TE := fun σ H Q => t σ H fun c H1 => if c = true then ta σ H1 Q else tb σ H1 Q
theorem pe_ifExp {c : Expr} (hc : PT X c tA) (ha : PE X a ta) (hb : PE X b tb) : PE X (.IfExp c a b pos) (tIf tA ta tb) := by
  intro pins s σ H Q I h
  refine wpAny_IfExp (thn (hc pins s σ H _ I h) fun d s1 ⟨H1, I1, q1⟩ => ?_)
  cases d with
  | true => exact ha pins s1 σ H1 Q I1 q1
  | false => exact hb pins s1 σ H1 Q I1 q1
end
end L2
namespace L2
open PySem PySem.Spec PyProof.Rows
def SqL (K : PySem.W.Frag) (H : Hp) (a : Addr) (xs : List V) : Prop :=
  Rd H a (.lst xs) ∨
    ∃ (o : Obj) (its : Array Value) (n : Nat), K.lookup a = some o ∧ o.cls = .type "list" ∧ o.dict = none ∧ o.data = .seq its n ∧ its.size ≤ sizeLine ∧ Vals xs its.toList
def SqT (K : PySem.W.Frag) (H : Hp) (a : Addr) (xs : List V) : Prop :=
  Rd H a (.tup xs) ∨
    ∃ (o : Obj) (its : Array Value) (n : Nat), K.lookup a = some o ∧ o.cls = .type "tuple" ∧ o.data = .seq its n ∧ its.size ≤ sizeLine ∧ Vals xs its.toList
def absV : Value → Option V
  | .none => some .non
  | .bool b => some (.bl b)
  | .int i _ => some (.int i)
  | .str x _ => some (.str x)
  | .bytes b _ => some (.byt b)
  | .float b _ => some (.flt b)
  | .ref a => some (.ref a)
  | .type n => some (.ty n)
  | _ => none
theorem RelV.abs {x : V} {u : Value} (r : RelV x u) : absV u = some x := by
  cases x with
  | non => cases r; rfl
  | bl _ => cases r; rfl
  | int _ => obtain ⟨t, rfl⟩ := r; rfl
  | str _ => obtain ⟨t, rfl⟩ := r; rfl
  | byt _ => obtain ⟨t, rfl⟩ := r; rfl
  | flt _ => obtain ⟨t, rfl⟩ := r; rfl
  | ref _ => cases r; rfl
  | ty _ => cases r; rfl
theorem RelV.inj {x y : V} {u : Value} (r : RelV x u) (q : RelV y u) : x = y := Option.some.inj (r.abs.symm.trans q.abs)
theorem Vals.inj : ∀ {xs ys : List V} {us : List Value}, Vals xs us → Vals ys us → xs = ys
  | _, _, _, .nil, .nil => rfl
  | _, _, _, .cons r t, .cons r' t' => by rw [r.inj r', Vals.inj t t']
section
variable {X : Cx} {pins : List (Addr × Obj)} {σ : St} {H : Hp} {s : Shared} {a : Addr} {xs ys : List V}
theorem SqL.of {K : PySem.W.Frag} (h : H a = some (.lst xs)) : SqL K H a xs := .inl (.inl h)
theorem SqT.of {K : PySem.W.Frag} (h : H a = some (.tup xs)) : SqT K H a xs := .inl (.inl h)
theorem Inv.list (I : Inv X pins σ H s) (h : SqL X.K H a xs) : ∃ its : List Value, Vals xs its ∧ PlainL s.heap a its.toArray ∧ xs.length ≤ sizeLine := by
  rcases h with h | ⟨o, its, n, hk, hc, hd, hs, hz, r⟩
  · obtain ⟨z, its, n, r, e⟩ := h.ok I.hok
    exact ⟨its, r, ⟨_, n, e, rfl, rfl, rfl⟩, z⟩
  · refine ⟨its.toList, r, ⟨o, n, I.kIn a o hk, hc, hd, by simpa using hs⟩, ?_⟩
    have e := r.length
    simp only [Array.length_toList] at e
    omega
theorem Inv.tuple (I : Inv X pins σ H s) (h : SqT X.K H a xs) : ∃ its : List Value, Vals xs its ∧ IsTup s.heap a its.toArray ∧ xs.length ≤ sizeLine := by
  rcases h with h | ⟨o, its, n, hk, hc, hs, hz, r⟩
  · obtain ⟨z, its, r, p⟩ := h.ok I.hok
    exact ⟨its, r, p, z⟩
  · refine ⟨its.toList, r, ⟨o, I.kIn a o hk, hc, n, by simpa using hs⟩, ?_⟩
    have e := r.length
    simp only [Array.length_toList] at e
    omega
theorem Inv.list_inj (I : Inv X pins σ H s) (h : SqL X.K H a xs) (h' : SqL X.K H a ys) : xs = ys := by
  obtain ⟨its, r, ⟨o, n, e, _, _, d⟩, _⟩ := I.list h
  obtain ⟨its', r', ⟨o', n', e', _, _, d'⟩, _⟩ := I.list h'
  rw [e] at e'; cases e'
  rw [d] at d'
  injection d' with d1 _
  have : its = its' := by simpa using congrArg Array.toList d1
  subst this
  exact r.inj r'
theorem Inv.tuple_inj (I : Inv X pins σ H s) (h : SqT X.K H a xs) (h' : SqT X.K H a ys) : xs = ys := by
  obtain ⟨its, r, ⟨o, e, _, n, d⟩, _⟩ := I.tuple h
  obtain ⟨its', r', ⟨o', e', _, n', d'⟩, _⟩ := I.tuple h'
  rw [e] at e'; cases e'
  rw [d] at d'
  injection d' with d1 _
  have : its = its' := by simpa using congrArg Array.toList d1
  subst this
  exact r.inj r'
end
abbrev Cx.wish (X : Cx) (E : Value → Shared → Prop) : Cx := { X with xe := E }
abbrev Cx.nox (X : Cx) : Cx := X.wish fun _ _ => False
theorem Cx.Ok.wish {X : Cx} (ok : X.Ok) (E : Value → Shared → Prop) : (X.wish E).Ok :=
  ⟨ok.mod, ok.kind, ok.glob, ok.blt, ok.above, ok.inj, ok.has, ok.cab, ok.hd, ok.frames, ok.stk, ok.exf, ok.bs, ok.bsz, ok.noex, ok.exfs, ok.funs, ok.frf⟩
theorem Cx.Ok.unwish {X : Cx} {E : Value → Shared → Prop} (ok : (X.wish E).Ok) : X.Ok :=
  ⟨ok.mod, ok.kind, ok.glob, ok.blt, ok.above, ok.inj, ok.has, ok.cab, ok.hd, ok.frames, ok.stk, ok.exf, ok.bs, ok.bsz, ok.noex, ok.exfs, ok.funs, ok.frf⟩
section
variable {X : Cx} {pins : List (Addr × Obj)} {σ : St} {H : Hp} {s : Shared} {E : Value → Shared → Prop}
theorem Inv.wish (I : Inv X pins σ H s) (E : Value → Shared → Prop) : Inv (X.wish E) pins σ H s := ⟨I.ok.wish E, I.os, I.bare, I.base, I.loc, I.cell, I.free, I.freeC, I.pin, I.hok, I.len⟩
theorem Inv.unwish (I : Inv (X.wish E) pins σ H s) : Inv X pins σ H s := ⟨I.ok.unwish, I.os, I.bare, I.base, I.loc, I.cell, I.free, I.freeC, I.pin, I.hok, I.len⟩
theorem SP.unwish {D : Ends} {f : Flow} {s' : Shared} (h : SP (X.wish E) pins D f s') : SP X pins D f s' := by
  cases f with
  | next => obtain ⟨σ', H', I, q⟩ := h; exact ⟨σ', H', I.unwish, q⟩
  | brk => obtain ⟨σ', H', I, q⟩ := h; exact ⟨σ', H', I.unwish, q⟩
  | cont => obtain ⟨σ', H', I, q⟩ := h; exact ⟨σ', H', I.unwish, q⟩
  | ret u => obtain ⟨v, σ', H', I, r, q⟩ := h; exact ⟨v, σ', H', I.unwish, r, q⟩
theorem PE.nox {e : Expr} {t : TE} (h : PE X.nox e t) : PE X e t := fun pins s σ H Q I hw =>
  wpAny_mono (h pins s σ H Q (I.wish _) hw) (fun _ _ ⟨v, H', I', r, q⟩ => ⟨v, H', I'.unwish, r, q⟩) fun _ _ z => False.elim z
theorem PT.nox {e : Expr} {t : TT} (h : PT X.nox e t) : PT X e t := fun pins s σ H Q I hw =>
  wpAny_mono (h pins s σ H Q (I.wish _) hw) (fun _ _ ⟨H', I', q⟩ => ⟨H', I'.unwish, q⟩) fun _ _ z => False.elim z
theorem PSs.nox {st : List Stmt} {t : TS} (h : PSs X.nox st t) : PSs X st t := fun pins s σ H D I hw =>
  wpAny_mono (h pins s σ H D (I.wish _) hw) (fun _ _ q => q.unwish) fun _ _ z => False.elim z
end
section
variable {X : Cx} {st : Stmt} {rest : List Stmt} {t u : TS} {e : Expr} {te : TE} {pos : Pos}
def tNext : TS := fun D σ H => D.nx σ H
def tSeq (t u : TS) : TS := fun D σ H => t { D with nx := u D } σ H
theorem pss_nil : PSs X [] tNext := fun _ _ σ H _ I h => wpAny_execs_nil ⟨σ, H, I, h⟩
theorem pss_cons (h1 : PS X st t) (h2 : PSs X rest u) : PSs X (st :: rest) (tSeq t u) := by
  intro pins s σ H D I h
  refine wpAny_execs_cons (thn (h1 pins s σ H { D with nx := u D } I h) fun f s1 q => ?_)
  cases f with
  | next =>
    obtain ⟨σ', H', I', q⟩ := q
    exact h2 pins s1 σ' H' D I' q
  | ret v => exact q
  | brk => exact q
  | cont => exact q
theorem pss_one (h1 : PS X st t) : PSs X [st] t := by
  intro pins s σ H D I h
  refine wpAny_execs_cons (thn (h1 pins s σ H D I h) fun f s1 q => ?_)
  cases f with
  | next => exact wpAny_execs_nil q
  | ret v => exact q
  | brk => exact q
  | cont => exact q
def tBreak : TS := fun D σ H => D.bk σ H
def tCont : TS := fun D σ H => D.ct σ H
theorem ps_continue : PS X (.Continue pos) tCont := fun _ _ σ H _ I h => wpAny_Continue ⟨σ, H, I, h⟩
theorem Inv.quiet {pins : List (Addr × Obj)} {σ : St} {H : Hp} {s : Shared} (I : Inv X pins σ H s) : interactive X.env = false := by simp [interactive, I.ok.kind]
def tDrop (te : TE) : TS := fun D σ H => te σ H fun _ H1 => D.nx σ H1
theorem ps_expr (he : PE X e te) (hs : swapsWith e none pos.line X.env = pure false := by rfl) : PS X (.Expr e pos) (tDrop te) := by
  intro pins s σ H D I h
  exact wpAny_Expr_any (thn (he pins s σ H _ I h) fun v s1 ⟨x, H1, I1, r1, q1⟩ => ⟨σ, H1, I1, q1⟩) I.quiet hs
def tRet (te : TE) : TS := fun D σ H => te σ H D.rt
theorem ps_ret (he : PE X e te) : PS X (.Return (some e) pos) (tRet te) := by
  intro pins s σ H D I h
  exact wpAny_Return_some (thn (he pins s σ H _ I h) fun v s1 ⟨x, H1, I1, r1, q1⟩ => ⟨x, σ, H1, I1, r1, q1⟩)
def tRetN : TS := fun D _ H => D.rt .non H
theorem ps_retN : PS X (.Return none pos) tRetN := fun _ _ σ H _ I h => wpAny_Return_none ⟨.non, σ, H, I, rfl, h⟩
def tIfS (c : TT) (t u : TS) : TS := fun D σ H => c σ H fun b H1 => if b = true then t D σ H1 else u D σ H1
theorem ps_if {c : Expr} {a b : List Stmt} {tc : TT} (hc : PT X c tc) (ha : PSs X a t) (hb : PSs X b u) : PS X (.If c a b pos) (tIfS tc t u) := by
  intro pins s σ H D I h
  refine wpAny_If (thn (hc pins s σ H _ I h) fun d s1 ⟨H1, I1, q1⟩ => ?_)
  cases d with
  | true => exact ha pins s1 σ H1 D I1 q1
  | false => exact hb pins s1 σ H1 D I1 q1
def tNever : TS := fun _ _ _ => False
theorem pss_never {sts : List Stmt} : PSs X sts tNever := fun _ _ _ _ _ _ h => h.elim
end
abbrev TG := V → St → Hp → (St → Hp → Prop) → Prop
abbrev TGs := List V → St → Hp → (St → Hp → Prop) → Prop
def PG (X : Cx) (target : Expr) (t : TG) : Prop :=
  ∀ (pins : List (Addr × Obj)) (s : Shared) (σ : St) (H : Hp) (v : V) (u : Value) (Q : St → Hp → Prop), Inv X pins σ H s → RelV v u → t v σ H Q →
    wpAny (model X.prog X.w) X.A (assign target X.env u) (fun _ s' => ∃ σ' H', Inv X pins σ' H' s' ∧ Q σ' H') X.xe s
def PGs (X : Cx) (ts : List Expr) (t : TGs) : Prop :=
  ∀ (pins : List (Addr × Obj)) (s : Shared) (σ : St) (H : Hp) (vs : List V) (us : List Value) (Q : St → Hp → Prop), Inv X pins σ H s → Vals vs us → t vs σ H Q →
    wpAny (model X.prog X.w) X.A (assignInOrder ((assignEach ts X.env).map (·.2)) us) (fun _ s' => ∃ σ' H', Inv X pins σ' H' s' ∧ Q σ' H') X.xe s
abbrev TSet := V → V → V → Hp → (Hp → Prop) → Prop
def PSet (X : Cx) (t : TSet) : Prop :=
  ∀ (pins : List (Addr × Obj)) (s : Shared) (σ : St) (H : Hp) (o i v : V) (ov iv u : Value) (Q : Hp → Prop), Inv X pins σ H s → RelV o ov → RelV i iv → RelV v u → t o i v H Q →
    wpAny (model X.prog X.w) X.A (setItem ov iv u) (fun _ s' => ∃ H', Inv X pins σ H' s' ∧ Q H') X.xe s
section
variable {X : Cx} {pos : Pos}
def gName (i : Nat) : TG := fun v σ H Q => Q (σ.set i (some v)) H
theorem pg_name {i : Nat} {x : Str} (hN : X.N.Nodup) (hi : X.N[i]? = some x) (hx : Loc X.env.scope x) (hf : X.fn x = true ∨ X.env.scope.names.lookup x = some .local := by first | exact .inl rfl | exact .inr rfl | assumption) : PG X (.Name x pos) (gName i) := by
  intro pins s σ H v u Q I r h
  exact wpAny_assign_Name (store_ok I hN hi hx r (fun s' I' => ⟨_, H, I', h⟩) hf)
def gNil : TGs := fun vs σ H Q => vs = [] ∧ Q σ H
def gCons (t : TG) (u : TGs) : TGs := fun vs σ H Q => ∃ v r, vs = v :: r ∧ t v σ H fun σ' H' => u r σ' H' Q
theorem pgs_nil : PGs X [] gNil := by
  intro pins s σ H vs us Q I r h
  obtain ⟨e, h⟩ := h
  subst e
  cases r
  exact assignInOrder_nil ⟨σ, H, I, h⟩
theorem pgs_cons {e : Expr} {es : List Expr} {t : TG} {u : TGs} (h1 : PG X e t) (h2 : PGs X es u)
    (hs : (assignEach (e :: es) X.env).map (·.2) = assign e X.env :: (assignEach es X.env).map (·.2) := by rfl) : PGs X (e :: es) (gCons t u) := by
  intro pins s σ H vs us Q I r h
  obtain ⟨v, vr, e1, h⟩ := h
  subst e1
  cases r with
  | cons r rr =>
    rw [hs]
    refine assignInOrder_cons (thn (h1 pins s σ H _ _ _ I r h) fun _ s1 ⟨σ1, H1, I1, q1⟩ => ?_)
    exact h2 pins s1 σ1 H1 _ _ Q I1 rr q1
def gTup (K : PySem.W.Frag) (n : Nat) (t : TGs) : TG := fun v σ H Q => ∃ a xs, v = .ref a ∧ SqT K H a xs ∧ xs.length = n ∧ t xs σ H Q
theorem pg_tup {es : List Expr} {k : Nat} {t : TGs} {n : Nat} (hc : X.calm = true) (h : PGs X es t)
    (hn : (assignEach es X.env).length = n := by rfl) (hst : (assignEach es X.env).findIdx? (·.1) = none := by rfl) : PG X (.Tuple es k pos) (gTup X.K n t) := by
  intro pins s σ H v u Q I r hw
  obtain ⟨a, xs, e1, hq, hl, hw⟩ := hw
  subst e1
  cases r
  obtain ⟨its, rv, ht, hz⟩ := I.tuple hq
  refine assign_Tuple_tuple (I.ok.hd hc) ht (by simp [hn, ← hl, rv.length]) hst fun h' hx => ?_
  have I1 : Inv X pins σ H { s with heap := h' } := I.kept (t' := s.toks) fun b o e => hx b o (Nat.ne_of_lt (Heap.lt_size e)) e
  exact h pins _ σ H xs _ Q I1 (by simpa using rv) hw
def gSub (to ti : TE) (t : TSet) : TG := fun v σ H Q => to σ H fun o H1 => ti σ H1 fun i H2 => t o i v H2 fun H3 => Q σ H3
def tAsg (te : TE) (g : TG) : TS := fun D σ H => te σ H fun x H1 => g x σ H1 D.nx
theorem ps_asg {tg e : Expr} {te : TE} {g : TG} (he : PE X e te) (hg : PG X tg g) (hs : swapsWithSole [tg] e pos.line X.env = pure false := by rfl) (hw : swappedStores [tg] e X.env = pure none := by rfl)
    (h1 : (assignEach [tg] X.env).map (·.2) = [assign tg X.env] := by rfl) : PS X (.Assign [tg] e pos) (tAsg te g) := by
  intro pins s σ H D I h
  refine wpAny_Assign_stores (thn (he pins s σ H _ I h) fun v s1 ⟨x, H1, I1, r1, q1⟩ => ?_) hs hw
  rw [h1]
  exact thn (hg pins s1 σ H1 x v _ I1 r1 q1) fun _ s2 q => q
theorem ps_set {i : Nat} {x : Str} {e : Expr} {te : TE} {pos' : Pos} (hN : X.N.Nodup) (hi : X.N[i]? = some x) (hx : Loc X.env.scope x) (he : PE X e te) (hs : swapsWith e (some (.Name x pos')) pos.line X.env = pure false := by rfl) (hf : X.fn x = true ∨ X.env.scope.names.lookup x = some .local := by first | exact .inl rfl | exact .inr rfl | assumption) :
    PS X (.Assign [.Name x pos'] e pos) (tAsg te (gName i)) := by
  intro pins s σ H D I h
  refine wpAny_Assign_Name (thn (he pins s σ H _ I h) fun v s1 ⟨y, H1, I1, r1, q1⟩ => ?_) hs
  exact store_ok I1 hN hi hx r1 (fun s2 I2 => ⟨_, H1, I2, q1⟩) hf
def tPar (i j : Nat) (ta : TA) : TS := fun D σ H => ta σ H fun vs H1 => ∃ v w, vs = [v, w] ∧ D.nx ((σ.set i (some v)).set j (some w)) H1
theorem ps_par {i j : Nat} {x y : Str} {a b : Expr} {ta : TA} {px py pt : Pos} {kt k2 pt2} (hc : X.calm = true) (hN : X.N.Nodup) (hi : X.N[i]? = some x) (hj : X.N[j]? = some y) (hij : i ≠ j)
    (hx : X.env.scope.names.lookup x = some .local) (hy : X.env.scope.names.lookup y = some .local) (ha : PA X [a, b] ta)
    (hw : swappedStores [.Tuple [.Name x px, .Name y py] kt pt] (.Tuple [a, b] k2 pt2) X.env = pure (some [x, y]))
    (hs : swapsWithSole [.Tuple [.Name x px, .Name y py] kt pt] (.Tuple [a, b] k2 pt2) pos.line X.env = pure false := by rfl) :
    PS X (.Assign [.Tuple [.Name x px, .Name y py] kt pt] (.Tuple [a, b] k2 pt2) pos) (tPar i j ta) := by
  intro pins s σ H D I h
  rw [exec_Assign_arm]
  refine wpAny_bind (wpAny_standAt ?_)
  rw [hs]
  refine wpAny_bind (wpAny_pure ?_)
  rw [if_neg (by decide)]
  refine wpAny_bind (Tuple_ (thn (ha _ pins s σ H _ I h) fun us s1 ⟨vs, H1, I1, r1, q1⟩ => ?_))
  obtain ⟨v, w, e1, q1⟩ := q1
  subst e1
  obtain ⟨u1, u2, rfl, rv, rw'⟩ : ∃ u1 u2, us = [u1, u2] ∧ RelV v u1 ∧ RelV w u2 := by
    cases r1 with
    | cons p q =>
      cases q with
      | cons p' q' =>
        cases q'
        exact ⟨_, _, rfl, p, p'⟩
  refine wpAny_newObj_type ?_ (by show 2 ≤ sizeLine; decide)
  have I2 : Inv X pins σ H1 { s1 with heap := s1.heap.push { cls := .type "tuple", data := .seq [u1, u2].toArray } } := I1.kept (t' := s1.toks) fun b o e => Heap.get?_push_of_some _ e
  rw [hw]
  refine wpAny_bind (wpAny_pure ?_)
  show wpAny (model X.prog X.w) X.A (do rule "assign.swapped-stores"; let items ← unpackItems (.ref s1.heap.objs.size) 2 none; assignInOrder [fun v => bindName X.env y v, fun v => bindName X.env x v] items.reverse; pure Flow.next) _ _ _
  refine wpAny_bind (wpAny_rule (wpAny_bind (unpackItems_tuple (items := #[u1, u2]) (I.ok.hd hc) (IsTup.new s1.heap _) fun h' hx' => ?_)))
  have I3 := I2.kept (h' := h') (t' := s1.toks) fun b o e => hx' b o (Nat.ne_of_lt (Heap.lt_size e)) e
  show wpAny _ _ (assignInOrder [fun v => bindName X.env y v, fun v => bindName X.env x v] [u2, u1] >>= fun _ => pure Flow.next) _ _ _
  refine wpAny_bind (assignInOrder_cons (wpAny_bindName (store_ok I3 hN hj (.inl hy) rw' (fun s2 I4 => ?_) (.inr hy))))
  refine assignInOrder_cons (wpAny_bindName (store_ok I4 hN hi (.inl hx) rv (fun s3 I5 => assignInOrder_nil (wpAny_pure ?_)) (.inr hx)))
  rw [List.set_comm _ _ (Ne.symm hij)] at I5
  exact ⟨_, H1, I5, q1⟩
end
section
variable {X : Cx} {pos : Pos}
def tWhile (c : TT) (tb : TS) : TS := fun D σ H => ∃ W : Nat → St → Hp → Prop, (∃ m, W m σ H) ∧ ∀ m σ H, W m σ H →
  c σ H fun b H1 => if b = true then ∃ N : St → Hp → Prop, (∀ σ' H', N σ' H' → ∃ m', m' < m ∧ W m' σ' H') ∧ tb { D with nx := N, ct := N, bk := D.nx } σ H1 else D.nx σ H1
theorem ps_while {c : Expr} {body : List Stmt} {tc : TT} {tb : TS} (hp : PassesOwn (model X.prog X.w) X.A X.env X.xe) (hc : PT X c tc) (hb : PSs X body tb) : PS X (.While c body [] pos) (tWhile tc tb) := by
  intro pins s σ H D I h
  obtain ⟨W, ⟨m0, w0⟩, turn⟩ := h
  refine wpAny_While (codeAny_whileLoop (fun n s' => ∃ σ' H', Inv X pins σ' H' s' ∧ W n σ' H') ?_ m0 ⟨σ, H, I, w0⟩)
  rintro n s1 ⟨σ1, H1, I1, w1⟩
  refine wpAny_passesOwn hp (thn (hc pins s1 σ1 H1 _ I1 (turn n σ1 H1 w1)) fun b s2 ⟨H2, I2, q2⟩ => ?_)
  cases b with
  | true =>
    obtain ⟨N, hN, q2⟩ := q2
    rw [if_pos rfl]
    refine wpAny_passesOwn hp (thn (hb pins s2 σ1 H2 _ I2 q2) fun f s3 q3 => ?_)
    cases f with
    | next =>
      obtain ⟨σ3, H3, I3, n3⟩ := q3
      obtain ⟨m', hm, w3⟩ := hN σ3 H3 n3
      exact ⟨m', hm, σ3, H3, I3, w3⟩
    | cont =>
      obtain ⟨σ3, H3, I3, n3⟩ := q3
      obtain ⟨m', hm, w3⟩ := hN σ3 H3 n3
      exact ⟨m', hm, σ3, H3, I3, w3⟩
    | brk => exact q3
    | ret v => exact q3
  | false =>
    rw [if_neg Bool.false_ne_true]
    exact wpAny_execs_nil ⟨σ1, H2, I2, q2⟩
end
structure It where
  go : Nat → Hp → Prop
  yld : Nat → Hp → V → Hp → Prop
  stop : Nat → Hp → Prop
def FpOk (X : Cx) (pins : List (Addr × Obj)) (H : Hp) (b : Addr) : Prop :=
  H b = none ∧ b ≠ X.env.locals ∧ b ∉ X.fs ∧ (b ∈ X.ex ∨ X.s₀.heap.objs.size ≤ b) ∧ (∀ x c, X.env.cells.lookup x = some c → c ≠ b) ∧ ∀ p ∈ X.pn ++ pins, p.1 ≠ b
theorem Inv.fpOk {X : Cx} {pins : List (Addr × Obj)} {σ : St} {H H' : Hp} {s : Shared} {b : Addr} (I : Inv X pins σ H s) (hb : s.heap.objs.size ≤ b) (hn : H' b = none) : FpOk X pins H' b := by
  refine ⟨hn, Nat.ne_of_gt (Nat.lt_of_lt_of_le I.lt hb), I.nofs hb, .inr (Nat.le_trans I.sz hb), fun x c e z => ?_, fun p hp z => ?_⟩
  · obtain ⟨v, q⟩ := I.cell x c e
    exact absurd (Nat.lt_of_lt_of_le q.lt (by rw [z]; exact hb)) (Nat.lt_irrefl _)
  · exact absurd (Nat.lt_of_lt_of_le (Heap.lt_size (I.pin p hp).1) (by rw [z]; exact hb)) (Nat.lt_irrefl _)
structure Turn (P : Program) (w : World) (K : PySem.W.Frag) (tg : Expr) (J : It) (fp : List Addr) (it : Addr) (tn : Nat → Heap → Prop) : Prop where
  mem : it ∈ fp
  obj : ∀ i h, tn i h → ∀ b ∈ fp, ∃ o, h.get? b = some o ∧ ∀ v, o.data ≠ .cell v
  keep : ∀ i h h', tn i h → (∀ b ∈ fp, ∀ o, h.get? b = some o → h'.get? b = some o) → tn i h'
  item : ∀ (X : Cx), X.prog = P → X.w = w → X.K = K → X.calm = true → ∀ (i : Nat) (pins : List (Addr × Obj)) (s : Shared) (σ : St) (H : Hp) (E : Value → Shared → Prop), Inv X pins σ H s → (∀ b ∈ fp, FpOk X pins H b) → tn i s.heap → J.go i H →
    wpAny (model P w) X.A (pyNext (.ref it)) (fun r s1 => ∃ u, r = some u ∧
      wpAny (model P w) X.A (letOwnedTupleGo tg (.ref it) u) (fun _ s2 => ∃ x H', Inv X pins σ H' s2 ∧ RelV x u ∧ J.yld i H x H' ∧ tn (i + 1) s2.heap ∧ ∀ b ∈ fp, H' b = none) E s1) E s
  done : ∀ (X : Cx), X.prog = P → X.w = w → X.K = K → X.calm = true → ∀ (i : Nat) (pins : List (Addr × Obj)) (s : Shared) (σ : St) (H : Hp) (E : Value → Shared → Prop), Inv X pins σ H s → (∀ b ∈ fp, FpOk X pins H b) → tn i s.heap → J.stop i H →
    wpAny (model P w) X.A (pyNext (.ref it)) (fun r s1 => r = none ∧ Inv X pins σ H s1) E s
  self : ∀ (A : Around) (i : Nat) (s : Shared) (Q : Value → Shared → Prop) (E : Value → Shared → Prop), tn i s.heap → Q (.ref it) s → wpAny (model P w) A (pyIter (.ref it)) Q E s
abbrev TI := St → Hp → (It → Hp → Prop) → Prop
def PIE (X : Cx) (pins : List (Addr × Obj)) (σ : St) (tg : Expr) (R : It → Hp → Prop) (itv : Value) (s2 : Shared) : Prop :=
  ∃ (it : Addr) (fp : List Addr) (tn : Nat → Heap → Prop) (J : It) (H' : Hp), itv = .ref it ∧ Inv X pins σ H' s2 ∧ Turn X.prog X.w X.K tg J fp it tn ∧ tn 0 s2.heap ∧ (∀ b ∈ fp, FpOk X pins H' b) ∧ R J H'
def PI (X : Cx) (tg iter : Expr) (wi : TI) : Prop :=
  ∀ (pins : List (Addr × Obj)) (s : Shared) (σ : St) (H : Hp) (R : It → Hp → Prop), Inv X pins σ H s → wi σ H R →
    wpAny (model X.prog X.w) X.A (eval iter X.env) (fun v s1 => wpAny (model X.prog X.w) X.A (pyIter v) (PIE X pins σ tg R) X.xe s1) X.xe s
theorem go_of {M : Model} {A : Around} {E : Value → Shared → Prop} {s : Shared} {tg : Expr} {it : Addr} {u : Value} {o : Obj} {n : String} {vs : Array Value} {Q : Unit → Shared → Prop} (ho : s.heap.get? it = some o) (hc : o.cls = .type n) (hd : o.data = .fields vs)
    (hn : ["enumerate", "zip", "dict_itemiterator", "dict_reverseitemiterator", "odict_iterator", "itertools.zip_longest", "itertools.pairwise"].contains n = false) (hQ : Q () s) : wpAny M A (letOwnedTupleGo tg (.ref it) u) Q E s := by
  unfold letOwnedTupleGo
  cases tg <;> first
    | exact wpAny_pure hQ
    | (cases u <;> first
        | exact wpAny_pure hQ
        | (refine wpAny_bind (wpAny_load ho ?_)
           rw [hc, hd]
           show wpAny M A (if (["enumerate", "zip", "dict_itemiterator", "dict_reverseitemiterator", "odict_iterator", "itertools.zip_longest", "itertools.pairwise"].contains n && vs[0]? == some (rawInt _)) = true then _ else _) Q E s
           rw [if_neg (by intro h; rw [hn, Bool.false_and] at h; cases h)]
           exact wpAny_pure hQ))
def Itl (K : PySem.W.Frag) (a : Addr) : It :=
  ⟨fun i H => ∃ xs x, SqL K H a xs ∧ xs[i]? = some x, fun i H x H' => H' = H ∧ ∀ xs, SqL K H a xs → xs[i]? = some x, fun i H => ∃ xs, SqL K H a xs ∧ xs.length ≤ i⟩
def Itt (K : PySem.W.Frag) (a : Addr) : It :=
  ⟨fun i H => ∃ xs x, SqT K H a xs ∧ xs[i]? = some x, fun i H x H' => H' = H ∧ ∀ xs, SqT K H a xs → xs[i]? = some x, fun i H => ∃ xs, SqT K H a xs ∧ xs.length ≤ i⟩
def Itr (lo : Int) (n : Nat) : It := ⟨fun i _ => i < n, fun i H x H' => H' = H ∧ x = .int (lo + i), fun i _ => n ≤ i⟩
theorem turn_list {P : Program} {w : World} {K : PySem.W.Frag} {tg : Expr} (a it : Addr) : Turn P w K tg (Itl K a) [it] it (fun i h => h.IsListIter it a i) where
  mem := by simp
  obj := fun i h st b hb => by
    have e : b = it := by simpa using hb
    subst e
    obtain ⟨o, e, c, d⟩ := st
    exact ⟨o, e, fun v z => by rw [d] at z; cases z⟩
  keep := fun i h h' st k => st.at fun o e => k it (by simp) o e
  item := by
    intro X hP hw hK hc i pins s σ H E I hf st hg
    subst hP hw hK
    obtain ⟨xs, x, hq, hx⟩ := hg
    obtain ⟨its, rv, p, hz⟩ := I.list hq
    obtain ⟨u, hu, ru⟩ := rv.get hx
    obtain ⟨f0, f1, f2, f3, f4, f5⟩ := hf it (by simp)
    refine wpAny_pyNext_list_item st p.isList (x := u) (by simpa using hu) fun h' st' sb => ?_
    have I1 : Inv X pins σ H { s with heap := h' } := I.turned (t' := s.toks) (fun b o hb e => (sb.2 b hb).trans e) f0 f1 f3 f4 f5
    obtain ⟨o, e, c, d⟩ := id st'
    exact ⟨u, rfl, go_of (s := { s with heap := h' }) e c d (by decide) ⟨x, H, I1, ru, ⟨rfl, fun ys hy => by rw [I.list_inj hy hq]; exact hx⟩, st', fun b hb => (hf b hb).1⟩⟩
  done := by
    intro X hP hw hK hc i pins s σ H E I hf st hg
    subst hP hw hK
    obtain ⟨xs, hq, hx⟩ := hg
    obtain ⟨its, rv, p, hz⟩ := I.list hq
    obtain ⟨f0, f1, f2, f3, f4, f5⟩ := hf it (by simp)
    have hl := rv.length
    exact wpAny_pyNext_list_end (I.ok.hd hc) st p.isList (by simp; omega) fun h' eb => ⟨rfl, I.turned (t' := s.toks) (fun b o hb e => eb b o hb e) f0 f1 f3 f4 f5⟩
  self := fun _ _ _ _ _ st h => wpAny_pyIter_listiter st h
theorem turn_range {P : Program} {w : World} {K : PySem.W.Frag} {tg : Expr} (it : Addr) (lo : Int) (n : Nat) : Turn P w K tg (Itr lo n) [it] it (fun i h => IsRangeIter h it (lo + (i : Nat) * 1) ((n : Int) - (i : Nat)) 1) where
  mem := by simp
  obj := fun i h st b hb => by
    have e : b = it := by simpa using hb
    subst e
    exact ⟨_, st, fun v z => by
      have z' : Data.fields _ = Data.cell v := z
      cases z'⟩
  keep := fun i h h' st k => k it (by simp) _ st
  item := by
    intro X hP hw hK hc i pins s σ H E I hf st hg
    subst hP hw hK
    obtain ⟨f0, f1, f2, f3, f4, f5⟩ := hf it (by simp)
    have W := Walks.range (prog := X.prog) (w := X.w) (I.ok.hd hc) it lo 1 n
    refine W.item i s _ _ hg st fun v h' tk hv st' kk => ?_
    obtain ⟨t, rfl⟩ := hv
    have I1 : Inv X pins σ H { s with heap := h', toks := tk } := I.turned (fun b o hb e => kk b o (by simpa using hb) e) f0 f1 f3 f4 f5
    refine ⟨_, rfl, go_of (s := { s with heap := h', toks := tk }) (n := "range_iterator") st' rfl rfl (by decide) ⟨.int (lo + i), H, I1, ⟨t, ?_⟩, ⟨rfl, rfl⟩, st', fun b hb => (hf b hb).1⟩⟩
    rw [Int.mul_one]
  done := by
    intro X hP hw hK hc i pins s σ H E I hf st hg
    subst hP hw hK
    obtain ⟨f0, f1, f2, f3, f4, f5⟩ := hf it (by simp)
    exact wpAny_pyNext_range_end (I.ok.hd hc) st (by have : n ≤ i := hg; omega) fun h' eb => ⟨rfl, I.turned (t' := s.toks) (fun b o hb e => eb b o hb e) f0 f1 f3 f4 f5⟩
  self := fun _ _ _ _ _ st h => wpAny_pyIter_rangeiter st h
end L2
namespace L2
open PySem PySem.Spec PyProof.Rows
section
variable {X : Cx} {tg : Expr}
def iList (K : PySem.W.Frag) (tl : TE) : TI := fun σ H R => tl σ H fun x H1 => ∃ a, x = .ref a ∧ (∃ xs, SqL K H1 a xs) ∧ R (Itl K a) H1
def iTup (K : PySem.W.Frag) (tl : TE) : TI := fun σ H R => tl σ H fun x H1 => ∃ a, x = .ref a ∧ (∃ xs, SqT K H1 a xs) ∧ R (Itt K a) H1
theorem pi_list {l : Expr} {tl : TE} (hl : PE X l tl) : PI X tg l (iList X.K tl) := by
  intro pins s σ H R I h
  refine thn (hl pins s σ H _ I h) fun v s1 ⟨x, H1, I1, r1, q1⟩ => ?_
  obtain ⟨a, e, ⟨xs, hq⟩, q⟩ := q1
  subst e
  cases r1
  obtain ⟨its, rv, p, hz⟩ := I1.list hq
  refine wpAny_pyIter_list p.isList ?_
  refine ⟨s1.heap.objs.size, [s1.heap.objs.size], _, _, H1, rfl, I1.kept (t' := s1.toks) fun b o e => Heap.get?_push_of_some _ e, turn_list a _, ⟨_, Heap.get?_push_size _ rfl, rfl, rfl⟩, fun b hb => ?_, q⟩
  have e : b = s1.heap.objs.size := by simpa using hb
  subst e
  exact I1.fpOk (Nat.le_refl _) (I1.hok.fresh (Nat.le_refl _))
theorem range_it {pins : List (Addr × Obj)} {σ : St} {H : Hp} {s : Shared} {R : It → Hp → Prop} {E : Value → Shared → Prop} {lo hi : Int} {t u v : Tok} {tk : Nat} (I : Inv X pins σ H s) (h1 : -(2 ^ 62) ≤ lo) (h2 : lo < 2 ^ 62) (h3 : -(2 ^ 62) ≤ hi) (h4 : hi < 2 ^ 62)
    (q : R (Itr lo (hi - lo).toNat) H) : wpAny (model X.prog X.w) X.A (pyIter (.ref s.heap.objs.size)) (PIE X pins σ tg R) E { s with heap := s.heap.push { cls := .type "range", data := .fields #[.int lo t, .int hi u, .int 1 v] }, toks := tk } := by
  refine wpAny_pyIter_range (IsRange.new ..) (small_one h1 h2 h3 h4) ?_
  have I1 : Inv X pins σ H { s with heap := s.heap.push { cls := .type "range", data := .fields #[.int lo t, .int hi u, .int 1 v] }, toks := tk } := I.kept fun b o e => Heap.get?_push_of_some _ e
  refine ⟨(s.heap.push { cls := .type "range", data := .fields #[.int lo t, .int hi u, .int 1 v] }).objs.size, [(s.heap.push { cls := .type "range", data := .fields #[.int lo t, .int hi u, .int 1 v] }).objs.size], _, _, H, rfl,
    I1.kept (t' := tk) fun b o e => Heap.get?_push_of_some _ e, turn_range _ lo (hi - lo).toNat, ?_, fun b hb => ?_, q⟩
  · have e1 : lo + ((0 : Nat) : Int) * 1 = lo := by simp
    have e2 : (((hi - lo).toNat : Nat) : Int) - ((0 : Nat) : Int) = Builtin.Range.rangeSize lo hi 1 := by rw [rangeSize_one]; split <;> omega
    show IsRangeIter _ _ (lo + ((0 : Nat) : Int) * 1) ((((hi - lo).toNat : Nat) : Int) - ((0 : Nat) : Int)) 1
    rw [e1, e2]
    exact Heap.get?_push_size _ rfl
  · have e : b = (s.heap.push { cls := .type "range", data := .fields #[.int lo t, .int hi u, .int 1 v] }).objs.size := by simpa using hb
    subst e
    exact I1.fpOk (Nat.le_refl _) (I1.hok.fresh (Nat.le_refl _))
def iRng1 (ta : TA) : TI := fun σ H R => ta σ H fun vs H1 => ∃ j : Int, vs = [.int j] ∧ -(2 ^ 62) ≤ j ∧ j < 2 ^ 62 ∧ R (Itr 0 j.toNat) H1
def iRng2 (ta : TA) : TI := fun σ H R => ta σ H fun vs H1 => ∃ i j : Int, vs = [.int i, .int j] ∧ (-(2 ^ 62) ≤ i ∧ i < 2 ^ 62 ∧ -(2 ^ 62) ≤ j ∧ j < 2 ^ 62) ∧ R (Itr i (j - i).toNat) H1
theorem pi_range1 {a : Expr} {ta : TA} {p pos : Pos} (hg : Gl X "range") (hm : X.mg "range" = none) (ha : PA X [a] ta) (hs : starEach [a] X.env = [(false, eval a X.env)] := by rfl) : PI X tg (.Call (.Name "range" p) [a] [] pos) (iRng1 ta) := by
  intro pins s σ H R I h
  refine Call_ (ld_blt I hg hm boot_range (PyProof.Rows.callWith_type1 (thn (ha pos pins s σ H _ I h) fun us s1 ⟨vs, H1, I1, r1, q1⟩ => ?_) hs rfl))
  obtain ⟨j, e, q1, q2, q⟩ := q1
  subst e
  cases r1 with
  | cons r rr =>
    cases rr
    obtain ⟨t, rfl⟩ := r
    exact call_range_1 (range_it I1 (by omega) (by omega) q1 q2 (by simpa using q))
def tFor (wi : TI) (g : TG) (tb : TS) : TS := fun D σ H => wi σ H fun J H1 => ∃ W : Nat → Nat → St → Hp → Prop, (∃ m, W 0 m σ H1) ∧ ∀ i m σ H, W i m σ H →
  (J.stop i H ∧ D.nx σ H) ∨ (J.go i H ∧ ∃ N : St → Hp → Prop, (∀ σ' H', N σ' H' → ∃ m', m' < m ∧ W (i + 1) m' σ' H') ∧ ∀ x H', J.yld i H x H' → g x σ H' fun σ2 H2 => tb { D with nx := N, ct := N, bk := D.nx } σ2 H2)
def pinsAt (fp : List Addr) (h : Heap) : List (Addr × Obj) := fp.filterMap fun b => (h.get? b).map fun o => (b, o)
theorem mem_pinsAt {fp : List Addr} {h : Heap} {b : Addr} {o : Obj} (hb : b ∈ fp) (e : h.get? b = some o) : (b, o) ∈ pinsAt fp h := List.mem_filterMap.mpr ⟨b, hb, by rw [e]; rfl⟩
theorem of_pinsAt {fp : List Addr} {h : Heap} {p : Addr × Obj} (hp : p ∈ pinsAt fp h) : p.1 ∈ fp ∧ h.get? p.1 = some p.2 := by
  obtain ⟨b, hb, e⟩ := List.mem_filterMap.mp hp
  cases q : h.get? b with
  | none => rw [q] at e; cases e
  | some o =>
    rw [q] at e
    have e' : (b, o) = p := Option.some.inj e
    subst e'
    exact ⟨hb, q⟩
theorem Inv.pinned {pins : List (Addr × Obj)} {σ : St} {H : Hp} {s : Shared} {fp : List Addr} (I : Inv X pins σ H s) (hf : ∀ b ∈ fp, FpOk X pins H b) (ho : ∀ b ∈ fp, ∃ o, s.heap.get? b = some o ∧ ∀ v, o.data ≠ .cell v) : Inv X (pins ++ pinsAt fp s.heap) σ H s :=
  I.pins_of fun p hp => (List.mem_append.mp hp).elim (fun z => I.pin p (List.mem_append_right _ z)) fun z => by
    obtain ⟨hb, e⟩ := of_pinsAt z
    obtain ⟨f0, f1, f2, _⟩ := hf p.1 hb
    obtain ⟨o, e', d⟩ := ho p.1 hb
    rw [e] at e'; cases e'
    exact ⟨e, f0, f1, f2, d⟩
theorem Inv.unpinned {pins pl : List (Addr × Obj)} {σ : St} {H : Hp} {s : Shared} (I : Inv X (pins ++ pl) σ H s) : Inv X pins σ H s := I.pins_of fun p hp => I.pin p (List.mem_append_right _ (List.mem_append_left _ hp))
theorem ps_for {iter : Expr} {body : List Stmt} {wi : TI} {g : TG} {tb : TS} {pos : Pos} (hp : PassesOwn (model X.prog X.w) X.A X.env X.xe) (hc : X.calm = true) (hi : PI X tg iter wi) (hg : PG X tg g) (hb : PSs X body tb)
    (hs : ∀ x, foldedSetIterable iter X.env x = pure x := by intro _; rfl) : PS X (.For tg iter body [] pos) (tFor wi g tb) := by
  intro pins s σ H D I h
  refine wpAny_For (thn (hi pins s σ H _ I h) fun v s1 h1 => thn h1 fun itv s2 h2 => ?_) hs
  obtain ⟨it, fp, tn, J, H2, e, I2, T, st2, f2, W, ⟨m0, w0⟩, turn⟩ := h2
  subst e
  have stat : ∀ {H' : Hp}, (∀ b ∈ fp, H' b = none) → ∀ b ∈ fp, FpOk X pins H' b := fun hn b hb => ⟨hn b hb, (f2 b hb).2⟩
  refine codeAny_forLoop_any (fun n s' => ∃ i σ' H', Inv X pins σ' H' s' ∧ tn i s'.heap ∧ (∀ b ∈ fp, H' b = none) ∧ W i n σ' H') ?_ m0 ⟨0, σ, H2, I2, st2, fun b hb => (f2 b hb).1, w0⟩
  rintro n s3 ⟨i, σ3, H3, I3, st3, fr3, w3⟩
  rcases turn i n σ3 H3 w3 with ⟨stop, qn⟩ | ⟨go, N, hN, step⟩
  · refine wpAny_passesOwn hp (thn (T.done X rfl rfl rfl hc i pins s3 σ3 H3 X.xe I3 (stat fr3) st3 stop) fun r s4 ⟨hr, I4⟩ => ?_)
    subst hr
    exact wpAny_execs_nil ⟨σ3, H3, I4, qn⟩
  · refine wpAny_passesOwn hp (thn (T.item X rfl rfl rfl hc i pins s3 σ3 H3 X.xe I3 (stat fr3) st3 go) fun r s4 ⟨u, hr, h4⟩ => ?_)
    subst hr
    refine wpAny_passesOwn hp (thn h4 fun _ s5 ⟨x, H5, I5, r5, y5, st5, fr5⟩ => ?_)
    have I5' := I5.pinned (stat fr5) (T.obj _ _ st5)
    refine wpAny_passesOwn hp (thn (hg _ s5 σ3 H5 x u _ I5' r5 (step x H5 y5)) fun _ s6 ⟨σ6, H6, I6, q6⟩ => ?_)
    refine wpAny_passesOwn hp (thn (hb _ s6 σ6 H6 _ I6 q6) fun f s7 q7 => ?_)
    have again : ∀ {σ7 : St} {H7 : Hp}, Inv X (pins ++ pinsAt fp s5.heap) σ7 H7 s7 → N σ7 H7 → ∃ m, m < n ∧ ∃ i σ' H', Inv X pins σ' H' s7 ∧ tn i s7.heap ∧ (∀ b ∈ fp, H' b = none) ∧ W i m σ' H' := fun {σ7 H7} I7 n7 => by
      obtain ⟨m', hm, w7⟩ := hN σ7 H7 n7
      refine ⟨m', hm, i + 1, σ7, H7, I7.unpinned, T.keep _ _ _ st5 fun b hb o e => (I7.pin (b, o) (List.mem_append_right _ (List.mem_append_right _ (mem_pinsAt hb e)))).1, fun b hb => ?_, w7⟩
      obtain ⟨o, e, d⟩ := T.obj _ _ st5 b hb
      exact (I7.pin (b, o) (List.mem_append_right _ (List.mem_append_right _ (mem_pinsAt hb e)))).2.1
    cases f with
    | next => obtain ⟨σ7, H7, I7, n7⟩ := q7; exact again I7 n7
    | cont => obtain ⟨σ7, H7, I7, n7⟩ := q7; exact again I7 n7
    | brk => obtain ⟨σ7, H7, I7, q7⟩ := q7; exact ⟨σ7, H7, I7.unpinned, q7⟩
    | ret v => obtain ⟨x7, σ7, H7, I7, r7, q7⟩ := q7; exact ⟨x7, σ7, H7, I7.unpinned, r7, q7⟩
end
theorem for_list {K : PySem.W.Frag} {a : Addr} {xs : List V} {g : TG} {tb : TS} {D : Ends} {σ : St} {H : Hp} (Pv : Nat → St → Hp → Prop) (h0 : Pv 0 σ H) (hl : ∀ i σ H, i ≤ xs.length → Pv i σ H → SqL K H a xs)
    (hs : ∀ i x σ H, xs[i]? = some x → Pv i σ H → g x σ H fun σ2 H2 => tb { D with nx := Pv (i + 1), ct := Pv (i + 1), bk := D.nx } σ2 H2) (hd : ∀ σ H, Pv xs.length σ H → D.nx σ H) :
    ∃ W : Nat → Nat → St → Hp → Prop, (∃ m, W 0 m σ H) ∧ ∀ i m σ H, W i m σ H →
      ((Itl K a).stop i H ∧ D.nx σ H) ∨ ((Itl K a).go i H ∧ ∃ N : St → Hp → Prop, (∀ σ' H', N σ' H' → ∃ m', m' < m ∧ W (i + 1) m' σ' H') ∧ ∀ x H', (Itl K a).yld i H x H' → g x σ H' fun σ2 H2 => tb { D with nx := N, ct := N, bk := D.nx } σ2 H2) := by
  refine ⟨fun i m σ H => m = xs.length - i ∧ i ≤ xs.length ∧ Pv i σ H, ⟨xs.length, by simp, Nat.zero_le _, h0⟩, ?_⟩
  rintro i m σ H ⟨rfl, hi, p⟩
  have q := hl i σ H hi p
  by_cases hlt : i < xs.length
  · refine .inr ⟨⟨xs, xs[i], q, by simp [hlt]⟩, Pv (i + 1), fun σ' H' p' => ⟨xs.length - (i + 1), by omega, rfl, hlt, p'⟩, fun x H' y => ?_⟩
    obtain ⟨e, y⟩ := y
    subst e
    exact hs i x σ _ (y xs q) p
  · have e : i = xs.length := by omega
    subst e
    exact .inl ⟨⟨xs, q, Nat.le_refl _⟩, hd σ H p⟩
theorem for_range {lo : Int} {n : Nat} {g : TG} {tb : TS} {D : Ends} {σ : St} {H : Hp} (Pv : Nat → St → Hp → Prop) (h0 : Pv 0 σ H)
    (hs : ∀ i σ H, i < n → Pv i σ H → g (.int (lo + i)) σ H fun σ2 H2 => tb { D with nx := Pv (i + 1), ct := Pv (i + 1), bk := D.nx } σ2 H2) (hd : ∀ σ H, Pv n σ H → D.nx σ H) :
    ∃ W : Nat → Nat → St → Hp → Prop, (∃ m, W 0 m σ H) ∧ ∀ i m σ H, W i m σ H →
      ((Itr lo n).stop i H ∧ D.nx σ H) ∨ ((Itr lo n).go i H ∧ ∃ N : St → Hp → Prop, (∀ σ' H', N σ' H' → ∃ m', m' < m ∧ W (i + 1) m' σ' H') ∧ ∀ x H', (Itr lo n).yld i H x H' → g x σ H' fun σ2 H2 => tb { D with nx := N, ct := N, bk := D.nx } σ2 H2) := by
  refine ⟨fun i m σ H => m = n - i ∧ i ≤ n ∧ Pv i σ H, ⟨n, by simp, Nat.zero_le _, h0⟩, ?_⟩
  rintro i m σ H ⟨rfl, hi, p⟩
  by_cases hlt : i < n
  · refine .inr ⟨hlt, Pv (i + 1), fun σ' H' p' => ⟨n - (i + 1), by omega, rfl, hlt, p'⟩, fun x H' y => ?_⟩
    obtain ⟨e, y⟩ := y
    subst e y
    exact hs i σ _ hlt p
  · have e : i = n := by omega
    subst e
    exact .inl ⟨Nat.le_refl _, hd σ H p⟩
theorem while_by {c : TT} {tb : TS} {D : Ends} {σ : St} {H : Hp} (Pv : St → Hp → Prop) (μ : St → Hp → Nat) (h0 : Pv σ H)
    (hs : ∀ σ H, Pv σ H → c σ H fun b H1 => if b = true then tb { D with nx := fun σ' H' => Pv σ' H' ∧ μ σ' H' < μ σ H, ct := fun σ' H' => Pv σ' H' ∧ μ σ' H' < μ σ H, bk := D.nx } σ H1 else D.nx σ H1)
    (mono : ∀ σ H Q Q', (∀ b H1, Q b H1 → Q' b H1) → c σ H Q → c σ H Q') : tWhile c tb D σ H := by
  refine ⟨fun m σ H => m = μ σ H ∧ Pv σ H, ⟨_, rfl, h0⟩, ?_⟩
  rintro m σ H ⟨rfl, p⟩
  refine mono σ H _ _ (fun b H1 q => ?_) (hs σ H p)
  cases b with
  | true => exact ⟨_, fun σ' H' ⟨p', l⟩ => ⟨_, l, rfl, p'⟩, q⟩
  | false => exact q
end L2
namespace L2
open PySem PySem.Spec PyProof.Rows
abbrev R2 := V → V → Hp → VK → Prop
def OpR (X : Cx) (f : Value → Value → Sem Value) (r : R2) : Prop :=
  ∀ (pins : List (Addr × Obj)) (s : Shared) (σ : St) (H : Hp) (x y : V) (v u : Value) (Q : VK), Inv X pins σ H s → RelV x v → RelV y u → r x y H Q →
    wpAny (model X.prog X.w) X.A (f v u) (EP X pins σ Q) X.xe s
def UnR (X : Cx) (f : Value → Sem Value) (r : V → Hp → VK → Prop) : Prop :=
  ∀ (pins : List (Addr × Obj)) (s : Shared) (σ : St) (H : Hp) (x : V) (v : Value) (Q : VK), Inv X pins σ H s → RelV x v → r x H Q →
    wpAny (model X.prog X.w) X.A (f v) (EP X pins σ Q) X.xe s
def CallR (X : Cx) (f : Value) (r : List V → Hp → VK → Prop) : Prop :=
  ∀ (pins : List (Addr × Obj)) (s : Shared) (σ : St) (H : Hp) (xs : List V) (us : List Value) (Q : VK), Inv X pins σ H s → Vals xs us → r xs H Q →
    wpAny (model X.prog X.w) X.A (call f us) (EP X pins σ Q) X.xe s
def TruR (X : Cx) (r : V → Hp → (Bool → Hp → Prop) → Prop) : Prop :=
  ∀ (pins : List (Addr × Obj)) (s : Shared) (σ : St) (H : Hp) (x : V) (v : Value) (Q : Bool → Hp → Prop), Inv X pins σ H s → RelV x v → r x H Q →
    wpAny (model X.prog X.w) X.A (truthy v) (TP X pins σ Q) X.xe s
def tOp (r : R2) (ta tb : TE) : TE := fun σ H Q => ta σ H fun x H1 => tb σ H1 fun y H2 => r x y H2 Q
def tUn (r : V → Hp → VK → Prop) (ta : TE) : TE := fun σ H Q => ta σ H fun x H1 => r x H1 Q
def rI (C : Int → Int → Prop) (g : Int → Int → V) : R2 := fun x y H Q => ∃ i j, x = .int i ∧ y = .int j ∧ C i j ∧ Q (g i j) H
def rI0 (g : Int → Int → V) : R2 := fun x y H Q => ∃ i j, x = .int i ∧ y = .int j ∧ Q (g i j) H
def rU (g : Int → V) : V → Hp → VK → Prop := fun x H Q => ∃ i, x = .int i ∧ Q (g i) H
section
variable {X : Cx} {a b c : Expr} {ta tb tc : TE} {pos : Pos}
theorem binT (ha : PE X a ta) (hb : PE X b tb) {pins : List (Addr × Obj)} {s : Shared} {σ : St} {H : Hp} {R : V → V → Hp → Prop} (I : Inv X pins σ H s)
    (h : ta σ H fun x H1 => tb σ H1 fun y H2 => R x y H2) {Q : Value → Shared → Prop} {f : Value → Value → Sem Value}
    (hf : ∀ v u s2 x y H2, Inv X pins σ H2 s2 → RelV x v → RelV y u → R x y H2 → wpAny (model X.prog X.w) X.A (f v u) Q X.xe s2) :
    wpAny (model X.prog X.w) X.A (eval a X.env) (fun v s₁ => wpAny (model X.prog X.w) X.A (eval b X.env) (fun u s₂ => wpAny (model X.prog X.w) X.A (f v u) Q X.xe s₂) X.xe s₁) X.xe s := by
  refine thn (ha pins s σ H _ I h) fun v s1 ⟨x, H1, I1, r1, q1⟩ => ?_
  refine thn (hb pins s1 σ H1 _ I1 q1) fun u s2 ⟨y, H2, I2, r2, q2⟩ => ?_
  exact hf v u s2 x y H2 I2 r1 r2 q2
theorem pe_op {op : Operator} {r : R2} (ho : OpR X (binaryOp op) r) (ha : PE X a ta) (hb : PE X b tb) : PE X (.BinOp a op b pos) (tOp r ta tb) := by
  intro pins s σ H Q I h
  exact wpAny_BinOp (binT ha hb I h fun v u s2 x y H2 I2 rx ry q => ho pins s2 σ H2 x y v u Q I2 rx ry q)
theorem pe_un {op : UnaryOp} {r : V → Hp → VK → Prop} (ho : UnR X (unaryOp op) r) (ha : PE X a ta) : PE X (.UnaryOp op a pos) (tUn r ta) := by
  intro pins s σ H Q I h
  exact UnaryOp_ (thn (ha pins s σ H _ I h) fun v s1 ⟨x, H1, I1, r1, q1⟩ => ho pins s1 σ H1 x v Q I1 r1 q1)
theorem opI {f : Value → Value → Sem Value} {C : Int → Int → Prop} {g : Int → Int → Int}
    (rule : ∀ (i j : Int) (t u : Tok) (s : Shared) (Q : Value → Shared → Prop) (E : Value → Shared → Prop), C i j → Q (.int (g i j) s.toks) { s with toks := s.toks + 1 } → wpAny (model X.prog X.w) X.A (f (.int i t) (.int j u)) Q E s) :
    OpR X f (rI C fun i j => .int (g i j)) := by
  intro pins s σ H x y v u Q I rx ry h
  obtain ⟨i, j, rfl, rfl, hc, q⟩ := h
  obtain ⟨t, rfl⟩ := rx
  obtain ⟨t', rfl⟩ := ry
  exact rule i j t t' s _ _ hc ⟨.int (g i j), H, I.tok _, ⟨_, rfl⟩, q⟩
theorem opI0 {f : Value → Value → Sem Value} {g : Int → Int → Int}
    (rule : ∀ (i j : Int) (t u : Tok) (s : Shared) (Q : Value → Shared → Prop) (E : Value → Shared → Prop), Q (.int (g i j) s.toks) { s with toks := s.toks + 1 } → wpAny (model X.prog X.w) X.A (f (.int i t) (.int j u)) Q E s) :
    OpR X f (rI0 fun i j => .int (g i j)) := by
  intro pins s σ H x y v u Q I rx ry h
  obtain ⟨i, j, rfl, rfl, q⟩ := h
  obtain ⟨t, rfl⟩ := rx
  obtain ⟨t', rfl⟩ := ry
  exact rule i j t t' s _ _ ⟨.int (g i j), H, I.tok _, ⟨_, rfl⟩, q⟩
theorem opB0 {f : Value → Value → Sem Value} {g : Int → Int → Bool}
    (rule : ∀ (i j : Int) (t u : Tok) (s : Shared) (Q : Value → Shared → Prop) (E : Value → Shared → Prop), Q (.bool (g i j)) s → wpAny (model X.prog X.w) X.A (f (.int i t) (.int j u)) Q E s) :
    OpR X f (rI0 fun i j => .bl (g i j)) := by
  intro pins s σ H x y v u Q I rx ry h
  obtain ⟨i, j, rfl, rfl, q⟩ := h
  obtain ⟨t, rfl⟩ := rx
  obtain ⟨t', rfl⟩ := ry
  exact rule i j t t' s _ _ ⟨.bl (g i j), H, I, rfl, q⟩
def CPow (i j : Int) : Prop := 0 ≤ j ∧ j ≤ 1000000 ∧ i.natAbs < 2 ^ 64
def CMul (i j : Int) : Prop := (-(2 ^ 64) < i ∧ i < 2 ^ 64) ∨ (-(2 ^ 64) < j ∧ j < 2 ^ 64)
theorem CMul.ok {i j : Int} (h : CMul i j) : IntMulOk i j := by
  rcases h with ⟨h1, h2⟩ | ⟨h1, h2⟩
  · exact .of_left (intBits_le_64 h1 h2)
  · exact .of_right (intBits_le_64 h1 h2)
theorem op_add : OpR X (binaryOp .Add) (rI0 fun i j => .int (i + j)) := opI0 fun _ _ _ _ _ _ _ q => add_int q
theorem op_sub : OpR X (binaryOp .Sub) (rI0 fun i j => .int (i - j)) := opI0 fun _ _ _ _ _ _ _ q => sub_int q
theorem op_mod : OpR X (binaryOp .Mod) (rI (fun _ j => 0 < j) fun i j => .int (i % j)) := opI fun i j _ _ _ _ _ hc q => by
  have h1 : (0 : Int) < j := hc
  exact mod_int' (by omega) (by rw [Int.fmod_eq_emod_of_nonneg i (by omega)]; exact q)
theorem op_pow : OpR X (binaryOp .Pow) (rI CPow fun i j => .int (i ^ j.toNat)) := opI fun _ _ _ _ _ _ _ hc q => pow_int_small hc.1 hc.2.1 hc.2.2 q
theorem unI {f : Value → Sem Value} {g : Int → Int}
    (rule : ∀ (i : Int) (t : Tok) (s : Shared) (Q : Value → Shared → Prop) (E : Value → Shared → Prop), Q (.int (g i) s.toks) { s with toks := s.toks + 1 } → wpAny (model X.prog X.w) X.A (f (.int i t)) Q E s) :
    UnR X f (rU fun i => .int (g i)) := by
  intro pins s σ H x v Q I rx h
  obtain ⟨i, rfl, q⟩ := h
  obtain ⟨t, rfl⟩ := rx
  exact rule i t s _ _ ⟨.int (g i), H, I.tok _, ⟨_, rfl⟩, q⟩
theorem un_neg : UnR X (unaryOp .USub) (rU fun i => .int (-i)) := unI fun _ _ _ _ _ q => neg_int q
end
def scal : V → V → Bool
  | .non, .non => true | .non, .int _ => true | .int _, .non => true | .non, .bl _ => true | .bl _, .non => true | .non, .str _ => true | .str _, .non => true
  | .int _, .int _ => true | .bl _, .bl _ => true | .str _, .str _ => true | .byt _, .byt _ => true
  | .int _, .str _ => true | .str _, .int _ => true | .bl _, .str _ => true | .str _, .bl _ => true
  | _, _ => false
def rEq : R2 := fun x y H Q => scal x y = true ∧ Q (.bl (decide (x = y))) H
def rNe : R2 := fun x y H Q => scal x y = true ∧ Q (.bl (!decide (x = y))) H
theorem dec_int {i j : Int} : decide (V.int i = V.int j) = (i == j) := by
  rw [Bool.eq_iff_iff]
  simp
theorem dec_bl {i j : Bool} : decide (V.bl i = V.bl j) = (i == j) := by
  rw [Bool.eq_iff_iff]
  simp
theorem dec_str {i j : Str} : decide (V.str i = V.str j) = (i == j) := by
  rw [Bool.eq_iff_iff]
  simp
theorem dec_byt {i j : Array UInt8} : decide (V.byt i = V.byt j) = (i.toList == j.toList) := by
  rw [Bool.eq_iff_iff]
  cases i
  cases j
  simp
section
variable {X : Cx} {a b c : Expr} {ta tb tc : TE} {pos : Pos}
theorem fin_bl {pins : List (Addr × Obj)} {σ : St} {H : Hp} {s : Shared} {Q : VK} {k k' : Bool} (I : Inv X pins σ H s) (q : Q (.bl k) H) (e : k = k') : EP X pins σ Q (.bool k') s := by
  subst e
  exact ⟨.bl k, H, I, rfl, q⟩
theorem op_eq : OpR X (compareOp .Eq) rEq := by
  intro pins s σ H x y v u Q I rx ry h
  obtain ⟨hs, q⟩ := h
  cases x with
  | non =>
    cases rx
    cases y with
    | non => cases ry; exact PySem.EqNone.eq_none_none (fin_bl I q (by simp))
    | bl j => cases ry; exact PySem.EqNone.eq_none_bool (fin_bl I q (by simp))
    | int j => obtain ⟨t', rfl⟩ := ry; exact PySem.EqNone.eq_none_int (fin_bl I q (by simp))
    | str j => obtain ⟨t', rfl⟩ := ry; exact PySem.EqNone.eq_none_str (fin_bl I q (by simp))
    | _ => exact absurd (show false = true from hs) Bool.false_ne_true
  | bl i =>
    cases rx
    cases y with
    | non => cases ry; exact PySem.EqNone.eq_bool_none (fin_bl I q (by simp))
    | bl j => cases ry; exact eq_bool (fin_bl I q dec_bl)
    | str j => obtain ⟨t', rfl⟩ := ry; exact PySem.EqMixed.eq_bool_str (fin_bl I q (by simp))
    | _ => exact absurd (show false = true from hs) Bool.false_ne_true
  | int i =>
    obtain ⟨t, rfl⟩ := rx
    cases y with
    | non => cases ry; exact PySem.EqNone.eq_int_none (fin_bl I q (by simp))
    | int j => obtain ⟨t', rfl⟩ := ry; exact eq_int (fin_bl I q dec_int)
    | str j => obtain ⟨t', rfl⟩ := ry; exact PySem.EqMixed.eq_int_str (fin_bl I q (by simp))
    | _ => exact absurd (show false = true from hs) Bool.false_ne_true
  | str i =>
    obtain ⟨t, rfl⟩ := rx
    cases y with
    | non => cases ry; exact PySem.EqNone.eq_str_none (fin_bl I q (by simp))
    | bl j => cases ry; exact PySem.EqMixed.eq_str_bool (fin_bl I q (by simp))
    | int j => obtain ⟨t', rfl⟩ := ry; exact PySem.EqMixed.eq_str_int (fin_bl I q (by simp))
    | str j => obtain ⟨t', rfl⟩ := ry; exact eq_str (fin_bl I q dec_str)
    | _ => exact absurd (show false = true from hs) Bool.false_ne_true
  | byt i =>
    obtain ⟨t, rfl⟩ := rx
    cases y with
    | byt j => obtain ⟨t', rfl⟩ := ry; exact PySem.W.eq_bytes (fin_bl I q dec_byt)
    | _ => exact absurd (show false = true from hs) Bool.false_ne_true
  | _ => cases y <;> exact absurd (show false = true from hs) Bool.false_ne_true
theorem op_ne : OpR X (compareOp .NotEq) rNe := by
  intro pins s σ H x y v u Q I rx ry h
  obtain ⟨hs, q⟩ := h
  cases x with
  | non =>
    cases rx
    cases y with
    | non => cases ry; exact PySem.EqNone.ne_none_none (fin_bl I q (by simp))
    | bl j => cases ry; exact PySem.EqNone.ne_none_bool (fin_bl I q (by simp))
    | int j => obtain ⟨t', rfl⟩ := ry; exact PySem.EqNone.ne_none_int (fin_bl I q (by simp))
    | str j => obtain ⟨t', rfl⟩ := ry; exact PySem.EqNone.ne_none_str (fin_bl I q (by simp))
    | _ => exact absurd (show false = true from hs) Bool.false_ne_true
  | bl i =>
    cases rx
    cases y with
    | non => cases ry; exact PySem.EqNone.ne_bool_none (fin_bl I q (by simp))
    | bl j => cases ry; exact ne_bool (fin_bl I q (congrArg not dec_bl))
    | str j => obtain ⟨t', rfl⟩ := ry; exact PySem.EqMixed.ne_bool_str (fin_bl I q (by simp))
    | _ => exact absurd (show false = true from hs) Bool.false_ne_true
  | int i =>
    obtain ⟨t, rfl⟩ := rx
    cases y with
    | non => cases ry; exact PySem.EqNone.ne_int_none (fin_bl I q (by simp))
    | int j => obtain ⟨t', rfl⟩ := ry; exact ne_int (fin_bl I q (congrArg not dec_int))
    | str j => obtain ⟨t', rfl⟩ := ry; exact PySem.EqMixed.ne_int_str (fin_bl I q (by simp))
    | _ => exact absurd (show false = true from hs) Bool.false_ne_true
  | str i =>
    obtain ⟨t, rfl⟩ := rx
    cases y with
    | non => cases ry; exact PySem.EqNone.ne_str_none (fin_bl I q (by simp))
    | bl j => cases ry; exact PySem.EqMixed.ne_str_bool (fin_bl I q (by simp))
    | int j => obtain ⟨t', rfl⟩ := ry; exact PySem.EqMixed.ne_str_int (fin_bl I q (by simp))
    | str j => obtain ⟨t', rfl⟩ := ry; exact ne_str (fin_bl I q (congrArg not dec_str))
    | _ => exact absurd (show false = true from hs) Bool.false_ne_true
  | byt i =>
    obtain ⟨t, rfl⟩ := rx
    cases y with
    | byt j => obtain ⟨t', rfl⟩ := ry; exact PySem.W.ne_bytes (fin_bl I q (congrArg not dec_byt))
    | _ => exact absurd (show false = true from hs) Bool.false_ne_true
  | _ => cases y <;> exact absurd (show false = true from hs) Bool.false_ne_true
theorem op_lt : OpR X (compareOp .Lt) (rI0 fun i j => .bl (decide (i < j))) := opB0 fun _ _ _ _ _ _ _ q => lt_int q
theorem op_le : OpR X (compareOp .LtE) (rI0 fun i j => .bl (decide (i ≤ j))) := opB0 fun _ _ _ _ _ _ _ q => le_int q
theorem op_gt : OpR X (compareOp .Gt) (rI0 fun i j => .bl (decide (j < i))) := opB0 fun _ _ _ _ _ _ _ q => gt_int q
theorem op_ge : OpR X (compareOp .GtE) (rI0 fun i j => .bl (decide (j ≤ i))) := opB0 fun _ _ _ _ _ _ _ q => ge_int q
theorem op_isN : OpR X (compareOp .Is) (fun x y H Q => y = .non ∧ Q (.bl (decide (x = .non))) H) := by
  intro pins s σ H x y v u Q I rx ry h
  obtain ⟨rfl, q⟩ := h
  cases ry
  refine is_none_gen (fin_bl I q ?_)
  cases x <;> first
    | (cases rx; rfl)
    | (obtain ⟨t, rfl⟩ := rx; rfl)
theorem op_notN : OpR X (compareOp .IsNot) (fun x y H Q => y = .non ∧ Q (.bl (!decide (x = .non))) H) := by
  intro pins s σ H x y v u Q I rx ry h
  obtain ⟨rfl, q⟩ := h
  cases ry
  refine isnot_none_gen (fin_bl I q ?_)
  cases x <;> first
    | (cases rx; rfl)
    | (obtain ⟨t, rfl⟩ := rx; rfl)
theorem OpR.or {f : Value → Value → Sem Value} {r r' : R2} (h : OpR X f r) (h' : OpR X f r') : OpR X f (fun x y H Q => r x y H Q ∨ r' x y H Q) := by
  intro pins s σ H x y v u Q I rx ry q
  rcases q with q | q
  · exact h pins s σ H x y v u Q I rx ry q
  · exact h' pins s σ H x y v u Q I rx ry q
theorem nomark (b : Expr) {op : CmpOp} (h : op ≠ .In := by decide) (h2 : op ≠ .NotIn := by decide) : behindInMarks op b = false := by
  have e1 : (op == CmpOp.In) = false := by cases op <;> first | rfl | exact absurd rfl h
  have e2 : (op == CmpOp.NotIn) = false := by cases op <;> first | rfl | exact absurd rfl h2
  cases b <;> simp [behindInMarks, e1, e2]
theorem pe_cmpR {op : CmpOp} {r : R2} (ho : OpR X (compareOp op) r) (ha : PE X a ta) (hb : PE X b tb) (hm : behindInMarks op b = false) : PE X (.Compare a [op] [b] pos) (tOp r ta tb) := by
  intro pins s σ H Q I h
  exact wpAny_Compare1 (binT ha hb I h fun v u s2 x y H2 I2 rx ry q => ho pins s2 σ H2 x y v u Q I2 rx ry q) hm
def tTest (t : TE) : TT := fun σ H Q => t σ H fun x H' => ∃ k, x = .bl k ∧ Q k H'
theorem pt_cmpR {op : CmpOp} {r : R2} (ho : OpR X (compareOp op) r) (ha : PE X a ta) (hb : PE X b tb) (hm : behindInMarks op b = false) : PT X (.Compare a [op] [b] pos) (tTest (tOp r ta tb)) := by
  intro pins s σ H Q I h
  refine wpAny_isTrue_Compare1 (thn (ha pins s σ H _ I h) fun v s1 ⟨x, H1, I1, r1, q1⟩ => thn (hb pins s1 σ H1 _ I1 q1) fun u s2 ⟨y, H2, I2, r2, q2⟩ =>
    thn (ho pins s2 σ H2 x y v u _ I2 r1 r2 q2) fun c s3 ⟨z, H3, I3, r3, k, e, q3⟩ => ?_) hm
  subst e
  cases r3
  exact wpAny_truthy_bool ⟨H3, I3, q3⟩
def TruV (K : PySem.W.Frag) (x : V) (H : Hp) (k : Bool) : Prop :=
  match x with
  | .non => k = false
  | .bl b => k = b
  | .int i => k = (i != 0)
  | .str y => y.length ≤ sizeLine ∧ k = ((y.length : Int) != 0)
  | .byt y => y.size ≤ sizeLine ∧ k = ((y.size : Int) != 0)
  | .ref p => (∃ xs, SqL K H p xs ∧ k = !xs.isEmpty) ∨ (∃ xs, SqT K H p xs ∧ k = !xs.isEmpty) ∨ ∃ kvs ep, H p = some (.dE kvs ep) ∧ k = !kvs.isEmpty
  | _ => False
theorem isEmpty_kv {κ : Type} {kvs : List (κ × V)} {vs : List (κ × Value)} (r : KV kvs vs) : (!vs.isEmpty) = !kvs.isEmpty := by
  cases r <;> rfl
theorem isEmpty_of {xs : List V} {its : List Value} (r : Vals xs its) : (!its.toArray.isEmpty) = !xs.isEmpty := by
  cases r <;> simp
theorem line63 : (sizeLine : Nat) < 2 ^ 63 := by rw [sizeLine_eq]; decide
theorem tru_ok : TruR X (fun x H Q => ∃ k, TruV X.K x H k ∧ Q k H) := by
  intro pins s σ H x v Q I rx h
  obtain ⟨k, e, q⟩ := h
  have hl := line63
  have hs : sizeLine = 16777216 := sizeLine_eq
  cases x with
  | non =>
    cases rx
    have e' : k = false := e
    subst e'
    exact truthy_none ⟨H, I, q⟩
  | bl b =>
    cases rx
    have e' : k = b := e
    subst e'
    exact wpAny_truthy_bool ⟨H, I, q⟩
  | int i =>
    obtain ⟨t, rfl⟩ := rx
    have e' : k = (i != 0) := e
    subst e'
    exact PySem.P.truthy_int ⟨H, I, q⟩
  | str y =>
    obtain ⟨t, rfl⟩ := rx
    obtain ⟨hy, e'⟩ : y.length ≤ sizeLine ∧ k = ((y.length : Int) != 0) := e
    subst e'
    exact PySem.P.truthy_str (by omega) ⟨H, I.tok _, q⟩
  | byt y =>
    obtain ⟨t, rfl⟩ := rx
    obtain ⟨hy, e'⟩ : y.size ≤ sizeLine ∧ k = ((y.size : Int) != 0) := e
    subst e'
    exact PySem.W.truthy_bytes (by omega) ⟨H, I.tok _, q⟩
  | ref p =>
    cases rx
    have e' : (∃ xs, SqL X.K H p xs ∧ k = !xs.isEmpty) ∨ (∃ xs, SqT X.K H p xs ∧ k = !xs.isEmpty) ∨ ∃ kvs ep, H p = some (.dE kvs ep) ∧ k = !kvs.isEmpty := e
    rcases e' with ⟨xs, hx, e'⟩ | ⟨xs, hx, e'⟩ | ⟨kvs, ep, hx, e'⟩
    · subst e'
      obtain ⟨its, r, pl, hz⟩ := I.list hx
      have hlen := r.length
      exact wpAny_truthy_list pl.isList (by simp only [List.size_toArray]; omega) ⟨H, I.tok _, by rw [isEmpty_of r]; exact q⟩
    · subst e'
      obtain ⟨its, r, pl, hz⟩ := I.tuple hx
      have hlen := r.length
      exact truthy_tuple pl (by simp only [List.size_toArray]; omega) ⟨H, I.tok _, by rw [isEmpty_of r]; exact q⟩
    · subst e'
      obtain ⟨hz, hS, vs, r, m⟩ : kvs.length ≤ sizeLine ∧ (p == sysModules) = false ∧ ∃ vs, KV kvs vs ∧ s.heap.DictAt (strKind X.prog X.w) p vs ep := I.hok p _ hx
      have hlen : kvs.length = vs.length := Paired.length r
      exact wpAny_truthy_dict hS m.dictOf (by omega) ⟨H, I.tok _, by rw [isEmpty_kv r]; exact q⟩
  | _ => exact (show False from e).elim
theorem pt_truth (ha : PE X a ta) (he : ∀ whole, isTrue a X.env whole = (do let v ← whole; standAt a.pos; holding [v] (truthy v))) :
    PT X a (fun σ H Q => ta σ H fun x H' => ∃ k, TruV X.K x H' k ∧ Q k H') := by
  intro pins s σ H Q I h
  exact isTrue_plain (thn (ha pins s σ H _ I h) fun v s1 ⟨x, H1, I1, r1, q1⟩ => tru_ok pins s1 σ H1 x v Q I1 r1 q1) (he _)
theorem vals1 {x : V} {us : List Value} (r : Vals [x] us) : ∃ u, us = [u] ∧ RelV x u := by
  cases r with
  | cons r1 r2 => cases r2; exact ⟨_, rfl, r1⟩
theorem vals2 {x y : V} {us : List Value} (r : Vals [x, y] us) : ∃ u w', us = [u, w'] ∧ RelV x u ∧ RelV y w' := by
  cases r with
  | cons r1 r2 =>
    cases r2 with
    | cons r3 r4 => cases r4; exact ⟨_, _, rfl, r1, r3⟩
theorem call_abs : CallR X (.builtin "abs") (fun xs H Q => ∃ i, xs = [.int i] ∧ Q (.int (if i < 0 then -i else i)) H) := by
  intro pins s σ H xs us Q I r h
  obtain ⟨i, rfl, q⟩ := h
  obtain ⟨u, rfl, t, rfl⟩ := vals1 r
  exact call_abs_int fun u tk => ⟨.int (if i < 0 then -i else i), H, I.tok _, ⟨_, rfl⟩, q⟩
end
end L2
namespace L2
open PySem PySem.Spec PyProof.Rows
structure ObjM (h : Heap) (x dx C : Addr) (mA : Str → Option Value) : Prop where
  obj : h.get? x = some (PySem.W.instObj C dx)
  ns : h.Ns1 dx mA
  ne : dx ≠ x
theorem lookIn_ns {h : Heap} {dx : Addr} {mA : Str → Option Value} (n : h.Ns1 dx mA) : ∃ od, h.get? dx = some od ∧ ∀ name, PySem.W.lookIn name od = some (mA name) := by
  obtain ⟨o, es, ep, ho, hd, hk, _, hm⟩ := n
  refine ⟨o, ho, fun name => ?_⟩
  have e := hm name
  unfold nsFind findBy at e
  rw [← Array.find?_toList] at e
  unfold PySem.W.lookIn
  rw [hd]
  dsimp only
  split
  · rename_i y q
    rw [q] at e
    exact congrArg some e
  · rename_i q
    rw [q] at e
    have a : es.toList.any (·.refKey) = false := by
      rw [List.any_eq_false]
      intro y hy
      obtain ⟨z, t, hkey⟩ := hk y (Array.mem_toList_iff.mp hy)
      simp [DictEntry.refKey, hkey]
    have a' : ¬ es.toList.any (·.refKey) = true := by rw [a]; exact Bool.false_ne_true
    rw [if_neg a']
    exact congrArg some e
theorem ObjM.look {h : Heap} {x dx C : Addr} {mA : Str → Option Value} (I : ObjM h x dx C mA) : ∃ od, PySem.W.InstAt h x (PySem.W.instObj C dx) C (some od) ∧ ∀ name, PySem.W.lookIn name od = some (mA name) :=
  let ⟨od, ho, hl⟩ := lookIn_ns I.ns
  ⟨od, ⟨I.obj, rfl, rfl, ho⟩, hl⟩
section
variable {prog : Program} {w : World} {A : Around} {E : Value → Shared → Prop} {s : Shared} {K : PySem.W.Frag} {x dx C f : Addr} {mA : Str → Option Value} {name : Str} {v : Value}
theorem get_map {expr : Bool} {Q : Value → Shared → Prop} (X : K.In s.heap) (I : ObjM s.heap x dx C mA) (hg : PySem.W.plainGet K C name = true) (hh : PySem.W.hasDictIn K C = true)
    (ha : PySem.W.findIn K (.ref C) name = some none) (hv : mA name = some v) (hv' : PySem.W.handedIn v = true) (h : Q v { s with toks := s.toks + 1 }) :
    wpAny (model prog w) A (getAttr (.ref x) name expr) Q E s := by
  obtain ⟨od, J, hl⟩ := I.look
  exact PySem.W.get_value X J (PySem.W.plainGet_of hg).1 (PySem.W.findObj_own hh ha rfl (by rw [hl, hv])) hv' h
theorem get_meth {pl : Sem Bool} {Q : Value × List Value → Shared → Prop} (X : K.In s.heap) (I : ObjM s.heap x dx C mA) (hg : PySem.W.plainGet K C name = true)
    (hf : PySem.W.findIn K (.ref C) name = some (some (.ref f))) (ht : PySem.W.isFn K (.ref f) = true) (hv : mA name = none) (h : Q (.ref f, [.ref x]) s) :
    wpAny (model prog w) A (getMethod (.ref x) name pl) Q E s := by
  obtain ⟨od, J, hl⟩ := I.look
  exact PySem.W.method_fn X J (PySem.W.plainGet_of hg).1 (PySem.W.plainGet_of hg).2 hf (beq_iff_eq.mp ht) (by show (PySem.W.lookIn name od).map (·.isSome) = some false; rw [hl, hv]; rfl) h
theorem set_map {ns : List Str} {Q : Unit → Shared → Prop} (X : K.In s.heap) (I : ObjM s.heap x dx C mA)
    (hs : PySem.W.findIn K (.ref C) "__setattr__" = some (some (.builtin "object.__setattr__"))) (hp : PySem.W.plainOver K C = true) (ht : PySem.W.takerIn K C name = some none) (hh : PySem.W.hasDictIn K C = true)
    (hw : PySem.Within mA ns) (hsz : ns.length ≤ sizeLine)
    (h : ∀ h', ObjM h' x dx C (fun y => if y = name then some v else mA y) → Heap.SameBut dx s.heap h' → Q () { s with heap := h', toks := s.toks + 2 }) :
    wpAny (model prog w) A (setAttr (.ref x) name v) Q E s := by
  obtain ⟨od, J, hl⟩ := I.look
  refine PySem.W.set_plain X J hs (PySem.W.osa_open (s := { s with toks := s.toks + 1 }) (r := none) X J hp ht fun b => ?_)
  obtain ⟨cd, hc, hd'⟩ := PySem.W.any_some hh
  have hx : s.heap.get? x = some ⟨.ref C, some dx, .plain, #[]⟩ := I.obj
  refine wpAny_bind (wpAny_pure (wpAny_bind (wpAny_bind (wpAny_loadPart hx (wpAny_bind (PySem.W.Looks.here (s := { s with toks := s.toks + 1 }) (PySem.W.looks_clsIn X hc) ?_))))))
  rw [hd']
  refine wpAny_pure (a := some dx) (wpAny_bind (wpAny_pure (wpAny_bind ?_)))
  refine wpAny_nsSet1 (s := { s with toks := s.toks + 1 }) I.ns fun h' hn2 hs2 => ?_
  obtain ⟨oD, esD, epD, hoD, hdD, hcD⟩ := hn2.count (PySem.Within.cons name v hw)
  refine wpAny_bind (wpAny_lookBehind hoD (by rw [hdD]; exact pastItsLine_dict (Nat.le_trans hcD (by rw [List.length_cons]; omega))) ?_)
  exact wpAny_pure (h _ ⟨(hs2.2 _ (Ne.symm I.ne)).trans I.obj, hn2, I.ne⟩ hs2)
theorem make_map {R : Result → Shared → Prop} {vs : List Value} {kw : List (Str × Value)} (X : K.In s.heap) (hm : PySem.W.makesIn K C = true)
    (hi : PySem.W.findIn K (.ref C) "__init__" = some (some (.ref f))) (hf : PySem.W.typeIn K (.ref f) = some (.type "function"))
    (h : codeAny (model prog w) (A.under (.builtin "type.__call__" ⟨.ref C :: vs, kw⟩)) (.call (.ref f) ⟨.ref (s.heap.objs.size + 1) :: vs, kw⟩) (PySem.W.InitBack (s.heap.objs.size + 1) R)
      { s with heap := (s.heap.push PySem.W.emptyDict).push (PySem.W.instObj C s.heap.objs.size) }) :
    codeAny (model prog w) A (.call (.ref C) ⟨vs, kw⟩) R s := by
  obtain ⟨hh, g, d, t, os⟩ := s
  exact PySem.W.make_core (PySem.W.makes_of X hm) (PySem.W.looks_findIn X hi) (fun self => PySem.W.bind_fn X self hf) (.inl rfl) h
end
def putF (f : Str) (v : V) : List (Str × V) → List (Str × V)
  | [] => [(f, v)]
  | (g, x) :: r => if g = f then (g, v) :: r else (g, x) :: putF f v r
theorem lookup_putF (f g : Str) (v : V) : ∀ fs : List (Str × V), (putF f v fs).lookup g = if g = f then some v else fs.lookup g
  | [] => by
    show List.lookup g [(f, v)] = _
    by_cases h : g = f
    · have hb : (g == f) = true := beq_iff_eq.mpr h
      simp only [List.lookup, hb, if_pos h]
    · have hb : (g == f) = false := beq_eq_false_iff_ne.mpr h
      simp only [List.lookup, hb, if_neg h]
  | (k, x) :: r => by
    have ih := lookup_putF f g v r
    rw [show putF f v ((k, x) :: r) = (if k = f then (k, v) :: r else (k, x) :: putF f v r) from rfl]
    by_cases hk : k = f
    · rw [if_pos hk]
      by_cases h : g = k
      · have hb : (g == k) = true := beq_iff_eq.mpr h
        simp only [List.lookup, hb, if_pos (h.trans hk)]
      · have hb : (g == k) = false := beq_eq_false_iff_ne.mpr h
        simp only [List.lookup, hb, if_neg (fun e : g = f => h (e.trans hk.symm))]
    · rw [if_neg hk]
      by_cases h : g = k
      · have hb : (g == k) = true := beq_iff_eq.mpr h
        simp only [List.lookup, hb, if_neg (fun e : g = f => hk (h.symm.trans e))]
      · have hb : (g == k) = false := beq_eq_false_iff_ne.mpr h
        simp only [List.lookup, hb]
        exact ih
theorem keys_putF (f : Str) (v : V) : ∀ fs : List (Str × V), f ∈ (putF f v fs).map (·.1) ∧ ∀ g, g ∈ fs.map (·.1) → g ∈ (putF f v fs).map (·.1)
  | [] => ⟨by simp [putF], fun g h => by simp at h⟩
  | (k, x) :: r => by
    obtain ⟨i1, i2⟩ := keys_putF f v r
    rw [show putF f v ((k, x) :: r) = (if k = f then (k, v) :: r else (k, x) :: putF f v r) from rfl]
    by_cases hk : k = f
    · rw [if_pos hk]
      subst hk
      exact ⟨by simp, fun g h => by simpa using h⟩
    · rw [if_neg hk]
      refine ⟨?_, fun g h => ?_⟩
      · rw [List.map_cons]
        exact List.mem_cons_of_mem _ i1
      · rw [List.map_cons] at h ⊢
        rcases List.mem_cons.mp h with e | e
        · exact List.mem_cons.mpr (.inl e)
        · exact List.mem_cons_of_mem _ (i2 g e)
theorem length_putF (f : Str) (v : V) : ∀ fs : List (Str × V), (putF f v fs).length ≤ fs.length + 1
  | [] => by simp [putF]
  | (k, x) :: r => by
    have ih := length_putF f v r
    rw [show putF f v ((k, x) :: r) = (if k = f then (k, v) :: r else (k, x) :: putF f v r) from rfl]
    by_cases hk : k = f
    · rw [if_pos hk, List.length_cons, List.length_cons]; omega
    · rw [if_neg hk, List.length_cons, List.length_cons]; omega
theorem RelO.some_of {v : V} {o : Option Value} (r : RelO (some v) o) : ∃ u, o = some u ∧ RelV v u := by
  cases o with
  | none => exact (show False from r).elim
  | some u => exact ⟨u, rfl, r⟩
theorem RelO.none_of {o : Option Value} (r : RelO none o) : o = none := by
  cases o with
  | none => rfl
  | some u => exact (show False from r).elim
theorem handed_of {v : V} {u : Value} (r : RelV v u) : PySem.W.handedIn u = true := by
  cases v with
  | non => cases (show u = Value.none from r); rfl
  | bl b => cases (show u = Value.bool b from r); rfl
  | int i => obtain ⟨t, e⟩ := (show ∃ t, u = Value.int i t from r); cases e; rfl
  | str x => obtain ⟨t, e⟩ := (show ∃ t, u = Value.str x t from r); cases e; rfl
  | byt b => obtain ⟨t, e⟩ := (show ∃ t, u = Value.bytes b t from r); cases e; rfl
  | flt b => obtain ⟨t, e⟩ := (show ∃ t, u = Value.float b t from r); cases e; rfl
  | ref a => cases (show u = Value.ref a from r); rfl
  | ty n => cases (show u = Value.type n from r); rfl
section
variable {P : Program} {w : World} {H H' : Hp} {h h' : Heap} {a C dx : Addr} {fs fs' : List (Str × V)}
theorem ins_get (hok : HOk P w H h) (e : H a = some (.ins C dx fs)) : ∃ mA, ObjM h a dx C mA ∧ (∀ f, RelO (fs.lookup f) (mA f)) ∧ PySem.Within mA (fs.map (·.1)) ∧ fs.length ≤ 1000 ∧ H dx = some (.own a) := by
  obtain ⟨d, z, ne, ob, mA, n, r, q⟩ := (show ObjOk P w H h a (.ins C dx fs) from hok a _ e)
  exact ⟨mA, ⟨ob, n, ne⟩, r, q, z, d⟩
end
structure Cls (K : PySem.W.Frag) (C : Addr) : Prop where
  pg : PySem.W.plainGet K C Str.empty = true
  hd : PySem.W.hasDictIn K C = true
  po : PySem.W.plainOver K C = true
  sa : PySem.W.findIn K (.ref C) "__setattr__" = some (some (.builtin "object.__setattr__"))
theorem Cls.get {K : PySem.W.Frag} {C : Addr} (c : Cls K C) (f : Str) : PySem.W.plainGet K C f = true := c.pg
def NoAttr (K : PySem.W.Frag) (C : Addr) (f : Str) : Prop := PySem.W.findIn K (.ref C) f = some none
theorem NoAttr.taker {K : PySem.W.Frag} {C : Addr} {f : Str} (n : NoAttr K C f) : PySem.W.takerIn K C f = some none := by
  unfold PySem.W.takerIn
  rw [show PySem.W.findIn K (.ref C) f = some none from n]
  rfl
structure Meth (K : PySem.W.Frag) (C : Addr) (m : Str) (f : Addr) : Prop where
  at_ : PySem.W.findIn K (.ref C) m = some (some (.ref f))
  fn : PySem.W.isFn K (.ref f) = true
  kp : PySem.W.keepIn K (.ref f) = true
section
variable {X : Cx} {pins : List (Addr × Obj)} {σ : St} {H : Hp} {s : Shared} {a C dx : Addr} {fs : List (Str × V)} {f : Str} {v : V} {A : Around} {E : Value → Shared → Prop}
theorem getattr_ok {b : Bool} {Q : Value → Shared → Prop} (I : Inv X pins σ H s) (e : H a = some (.ins C dx fs)) (c : Cls X.K C) (n : NoAttr X.K C f) (l : fs.lookup f = some v)
    (h : ∀ u s', Inv X pins σ H s' → RelV v u → Q u s') : wpAny (model X.prog X.w) A (getAttr (.ref a) f b) Q E s := by
  obtain ⟨mA, O, r, _, _, _⟩ := ins_get I.hok e
  obtain ⟨u, hu, ru⟩ := RelO.some_of (v := v) (o := mA f) (by rw [← l]; exact r f)
  exact get_map I.kIn O (c.get f) c.hd n hu (handed_of ru) (h u _ (I.tok _) ru)
theorem getmeth_ok {m : Str} {g : Addr} {pl : Sem Bool} {Q : Value × List Value → Shared → Prop} (I : Inv X pins σ H s) (e : H a = some (.ins C dx fs)) (c : Cls X.K C) (k : Meth X.K C m g) (l : fs.lookup m = none)
    (h : Q (.ref g, [.ref a]) s) : wpAny (model X.prog X.w) A (getMethod (.ref a) m pl) Q E s := by
  obtain ⟨mA, O, r, _, _, _⟩ := ins_get I.hok e
  have hn : mA m = none := RelO.none_of (by rw [← l]; exact r m)
  exact get_meth I.kIn O (c.get m) k.at_ k.fn hn h
theorem setattr_ok {y : V} {u : Value} {Q : Unit → Shared → Prop} (I : Inv X pins σ H s) (e : H a = some (.ins C dx fs)) (c : Cls X.K C) (n : NoAttr X.K C f) (hl : fs.length < 1000) (ry : RelV y u)
    (h : ∀ s', Inv X pins σ (upd H a (.ins C dx (putF f y fs))) s' → Q () s') : wpAny (model X.prog X.w) A (setAttr (.ref a) f u) Q E s := by
  obtain ⟨mA, O, r, wi, _, ho⟩ := ins_get I.hok e
  have hz : (fs.map (·.1)).length ≤ sizeLine := by rw [List.length_map, sizeLine_eq]; omega
  refine set_map I.kIn O c.sa c.po n.taker c.hd wi hz fun h' O' sb => h _ ?_
  have hd : ∃ o, h'.get? dx = some o := let ⟨o, _, _, e', _⟩ := O'.ns; ⟨o, e'⟩
  refine I.write (x := a) (e := dx) (by rw [e]; exact True.intro) (.inr ho) (fun b q hb z => (sb.2 b hb).trans z) hd ?_
  refine ⟨by rw [upd_ne O.ne]; exact ho, ?_, O.ne, O'.obj, _, O'.ns, fun g => ?_, fun g hg => ?_⟩
  · have := length_putF f y fs; omega
  · show RelO ((putF f y fs).lookup g) (if g = f then some u else mA g)
    rw [lookup_putF]
    by_cases q : g = f
    · rw [if_pos q, if_pos q]; exact ry
    · rw [if_neg q, if_neg q]; exact r g
  · by_cases q : g = f
    · rw [q]; exact (keys_putF f y fs).1
    · refine (keys_putF f y fs).2 g (wi g fun z => hg ?_)
      show (if g = f then some u else mA g) = none
      rw [if_neg q]; exact z
theorem Inv.made (I : Inv X pins σ H s) : Inv X pins σ (upd (upd H s.heap.objs.size (.own (s.heap.objs.size + 1))) (s.heap.objs.size + 1) (.ins C s.heap.objs.size []))
    { s with heap := (s.heap.push PySem.W.emptyDict).push (PySem.W.instObj C s.heap.objs.size) } := by
  have e1 : (s.heap.push PySem.W.emptyDict).get? s.heap.objs.size = some PySem.W.emptyDict := Heap.get?_push_size s.heap rfl
  have e2 : ((s.heap.push PySem.W.emptyDict).push (PySem.W.instObj C s.heap.objs.size)).get? (s.heap.objs.size + 1) = some (PySem.W.instObj C s.heap.objs.size) := by
    have := Heap.get?_push_size (s.heap.push PySem.W.emptyDict) (o := PySem.W.instObj C s.heap.objs.size) rfl
    rwa [Heap.size_push] at this
  have e3 : (s.heap.push PySem.W.emptyDict).Ns s.heap.objs.size (fun _ => none) := ⟨PySem.W.emptyDict, #[], _, e1, rfl, (fun e he => absurd he (by simp)), fun _ => rfl⟩
  have I1 := I.laid (a := s.heap.objs.size) (o := .own (s.heap.objs.size + 1)) (h' := s.heap.push PySem.W.emptyDict) (t' := s.toks) (fun b u q => Heap.get?_push_of_some _ q) (Nat.le_refl _) ⟨_, e1⟩
  refine I1.laid (a := s.heap.objs.size + 1) (o := .ins C s.heap.objs.size []) (t' := s.toks) (fun b u q => Heap.get?_push_of_some _ q) (Nat.le_of_eq (Heap.size_push _ _)) ?_
  have ne : s.heap.objs.size ≠ s.heap.objs.size + 1 := Nat.ne_of_lt (Nat.lt_succ_self _)
  refine ⟨by rw [upd_ne ne, upd_same], Nat.zero_le _, ne, e2, fun _ => none, (Heap.Ns1.of_empty e3).at fun o q => Heap.get?_push_of_some _ q, fun _ => True.intro, fun y hy => absurd rfl hy⟩
theorem attr_of {prog : Program} {w : World} {env : Env} {e : Expr} {f : Str} {pos : Pos} {s : Shared} {Q : Value → Shared → Prop} (hb : attributeBase e f env (eval e env) = eval e env)
    (h : wpAny (model prog w) A (eval e env) (fun o s₁ => wpAny (model prog w) A (getAttr o f true) Q E s₁) E s) : wpAny (model prog w) A (eval (.Attribute e f pos) env) Q E s :=
  Attribute_any_ h (by rw [arm_eval_Attribute, hb])
end
def tFld (K : PySem.W.Frag) (ta : TE) (f : Str) : TE := fun σ H Q => ta σ H fun x H1 => ∃ a C dx fs v, x = .ref a ∧ H1 a = some (.ins C dx fs) ∧ Cls K C ∧ NoAttr K C f ∧ fs.lookup f = some v ∧ Q v H1
def sFld (K : PySem.W.Frag) (ta tv : TE) (f : Str) : TS := fun D σ H => tv σ H fun y H1 => ta σ H1 fun x H2 => ∃ a C dx fs, x = .ref a ∧ H2 a = some (.ins C dx fs) ∧ Cls K C ∧ NoAttr K C f ∧ fs.length < 1000 ∧
  D.nx σ (upd H2 a (.ins C dx (putF f y fs)))
section
variable {X : Cx} {o e value : Expr} {f : Str} {pos pos' tpos : Pos} {ta tv : TE}
theorem pe_fld (he : PE X e ta) (hb : attributeBase e f X.env (eval e X.env) = eval e X.env) : PE X (.Attribute e f pos) (tFld X.K ta f) := by
  intro pins s σ H Q I h
  refine attr_of hb (thn (he pins s σ H _ I h) fun u s1 ⟨x, H1, I1, rx, a, C, dx, fs, v, ex, ea, c, n, l, q⟩ => ?_)
  subst ex
  obtain rfl : u = Value.ref a := rx
  exact getattr_ok I1 ea c n l fun u' s2 I2 ru => ⟨v, H1, I2, ru, q⟩
theorem ps_fld (ha : PE X o ta) (hv : PE X value tv) (hs : swapsWith value (some (.Attribute o f pos')) pos.line X.env = pure false) : PS X (.Assign [.Attribute o f pos'] value pos) (sFld X.K ta tv f) := by
  intro pins s σ H D I h
  refine plainObj_wpAny_Assign_Attribute (thn (hv pins s σ H _ I h) fun u s1 ⟨y, H1, I1, ry, q⟩ => thn (ha pins s1 σ H1 _ I1 q) fun ov s2 ⟨x, H2, I2, rx, a, C, dx, fs, ex, ea, c, n, l, q2⟩ => ?_) hs
  subst ex
  obtain rfl : ov = Value.ref a := rx
  exact setattr_ok I2 ea c n l ry fun s3 I3 => ⟨σ, _, I3, q2⟩
end
section
variable {X : Cx} {pins : List (Addr × Obj)} {σ : St} {H : Hp} {s : Shared} {A : Around} {E : Value → Shared → Prop} {Q : Value → Shared → Prop} {c : Value} {b : Bool}
inductive TyOf (K : PySem.W.Frag) (H : Hp) : V → Value → Prop where
  | non : TyOf K H .non (.type "NoneType")
  | bl (x : Bool) : TyOf K H (.bl x) (.type "bool")
  | int (i : Int) : TyOf K H (.int i) (.type "int")
  | str (x : Str) : TyOf K H (.str x) (.type "str")
  | flt (x : UInt64) : TyOf K H (.flt x) (.type "float")
  | lst {a : Addr} {xs : List V} (e : H a = some (.lst xs)) : TyOf K H (.ref a) (.type "list")
  | frz {a : Addr} {o : Obj} {xs : List V} (e : H a = some (.frz o (.lst xs))) : TyOf K H (.ref a) (.type "list")
  | tup {a : Addr} {xs : List V} (e : H a = some (.tup xs)) : TyOf K H (.ref a) (.type "tuple")
  | dK {a : Addr} {kvs : List (Key × V)} (e : H a = some (.dK kvs)) : TyOf K H (.ref a) (.type "dict")
  | dE {a : Addr} {kvs : List (Str × V)} {ep : Nat} (e : H a = some (.dE kvs ep)) : TyOf K H (.ref a) (.type "dict")
  | ins {a C dx : Addr} {fs : List (Str × V)} (e : H a = some (.ins C dx fs)) (cl : Cls K C) (ha : PySem.W.findIn K (.ref C) "__class__" = some (some (.builtin "object.__class__")))
      (hn : PySem.W.specialIn K (.builtin "object.__class__") "__get__" = some (some (.builtin "getset_descriptor.__get__"))) (htk : PySem.W.takesIn K (.builtin "object.__class__") = some true)
      (hm : PySem.W.mroIn K C (.type "object") = some true) : TyOf K H (.ref a) (.ref C)
theorem isinst_ok {x : V} {u t : Value} (I : Inv X pins σ H s) (rx : RelV x u) (ty : TyOf X.K H x t) (e : PySem.W.kitOne X.K t c = some b) (h : ∀ tk, Q (.bool b) { s with toks := tk }) :
    wpAny (model X.prog X.w) A (call (.builtin "isinstance") [u, c]) Q E s := by
  cases ty with
  | non => cases (show u = Value.none from rx); exact PySem.W.kia_one PySem.W.kitx_none I.kIn True.intro e (fun z => nomatch z) h
  | bl y => cases (show u = Value.bool y from rx); exact PySem.W.kia_one PySem.W.kitx_bool I.kIn True.intro e (fun z => nomatch z) h
  | int i => obtain ⟨t, q⟩ := (show ∃ t, u = Value.int i t from rx); cases q; exact PySem.W.kia_one PySem.W.kitx_int I.kIn True.intro e (fun z => nomatch z) h
  | str y => obtain ⟨t, q⟩ := (show ∃ t, u = Value.str y t from rx); cases q; exact PySem.W.kia_one PySem.W.kitx_str I.kIn True.intro e (fun z => nomatch z) h
  | flt y => obtain ⟨t, q⟩ := (show ∃ t, u = Value.float y t from rx); cases q; exact PySem.W.kia_one PySem.W.kitx_float I.kIn True.intro e (fun z => nomatch z) h
  | @lst a xs ea =>
    cases (show u = Value.ref a from rx)
    obtain ⟨_, _, n, _, h1⟩ := (show ObjOk X.prog X.w H s.heap a (.lst xs) from I.hok a _ ea)
    exact PySem.W.kia_one PySem.W.kitx_list I.kIn ⟨_, h1, rfl⟩ e (fun z => nomatch z) h
  | @frz a ob xs ea =>
    cases (show u = Value.ref a from rx)
    obtain ⟨_, _, _, n, _, h1⟩ := (show ObjOk X.prog X.w H s.heap a (.frz ob (.lst xs)) from I.hok a _ ea)
    exact PySem.W.kia_one PySem.W.kitx_list I.kIn ⟨_, h1, rfl⟩ e (fun z => nomatch z) h
  | @tup a xs ea =>
    cases (show u = Value.ref a from rx)
    obtain ⟨_, _, _, p⟩ := (show ObjOk X.prog X.w H s.heap a (.tup xs) from I.hok a _ ea)
    obtain ⟨o, h1, h2, _⟩ := p
    exact PySem.W.kia_one PySem.W.kitx_tuple I.kIn ⟨o, h1, h2⟩ e (fun z => nomatch z) h
  | @dK a kvs ea =>
    cases (show u = Value.ref a from rx)
    obtain ⟨_, _, vs, _, p⟩ := (show ObjOk X.prog X.w H s.heap a (.dK kvs) from I.hok a _ ea)
    obtain ⟨o, es, ep, h1, h2, _⟩ := p
    exact PySem.W.kia_one PySem.W.kitx_dict I.kIn ⟨o, h1, h2.1⟩ e (fun z => nomatch z) h
  | @dE a kvs ep ea =>
    cases (show u = Value.ref a from rx)
    obtain ⟨_, _, vs, _, o, es, h1, h2, _⟩ := (show ObjOk X.prog X.w H s.heap a (.dE kvs ep) from I.hok a _ ea)
    exact PySem.W.kia_one PySem.W.kitx_dict I.kIn ⟨o, h1, h2.1⟩ e (fun z => nomatch z) h
  | @ins a C dx fs ea cl ha hn htk hm =>
    cases (show u = Value.ref a from rx)
    obtain ⟨mA, O, _⟩ := ins_get I.hok ea
    obtain ⟨od, J, _⟩ := O.look
    exact PySem.W.kia_one (PySem.W.kitx_own (cl.get _) cl.hd ha hn htk hm) I.kIn J e (fun z => nomatch z) h
end
end L2
namespace L2
open PySem PySem.Spec PyProof.Rows
structure Room (k : Nat) (A : Around) : Prop where
  hd : A.handled = none
  dp : A.depth + 3 * k + 5 < recursionLimit
  un : A.units + 16 * k + 200 < cLine
theorem Room.mono {j k : Nat} {A : Around} (r : Room k A) (h : j ≤ k) : Room j A := ⟨r.hd, by have := r.dp; omega, by have := r.un; omega⟩
theorem Room.deeper {k : Nat} {A : Around} (r : Room (k + 1) A) (env : Env) : Room k (A.deeper env) :=
  ⟨r.hd, by have := r.dp; show A.depth + 1 + 3 * k + 5 < _; omega, by have := r.un; show A.units + 3 + 16 * k + 200 < _; omega⟩
theorem Room.in1 {k : Nat} {A : Around} (r : Room (k + 1) A) : Room k A.in1 :=
  ⟨r.hd, by have := r.dp; show A.depth + 3 * k + 5 < _; omega, by have := r.un; show A.units + 1 + 16 * k + 200 < _; omega⟩
theorem make_depth {A : Around} {C : Addr} {us : List Value} {kw : List (Str × Value)} : (A.under (.builtin "type.__call__" ⟨.ref C :: us, kw⟩)).depth = A.depth + 1 := by
  first | rfl | simp [Around.under, Code.weight, Code.isCreation, Code.isGuard, Code.isCaller, Code.frames, Code.isFrame, guardIds]
theorem make_units {A : Around} {C : Addr} {us : List Value} {kw : List (Str × Value)} : (A.under (.builtin "type.__call__" ⟨.ref C :: us, kw⟩)).units = A.units + 1 := by
  first | rfl | simp [Around.under, Code.cUnits, Code.frames, Code.isFrame]
theorem Room.make {k : Nat} {A : Around} (r : Room (k + 1) A) (C : Addr) (us : List Value) (kw : List (Str × Value)) : Room k (A.under (.builtin "type.__call__" ⟨.ref C :: us, kw⟩)) :=
  ⟨r.hd, by have := r.dp; rw [make_depth]; omega, by have := r.un; rw [make_units]; omega⟩
theorem Room.depth {k : Nat} {A : Around} (r : Room k A) : A.depth < recursionLimit := by have := r.dp; omega
theorem Room.units {k : Nat} {A : Around} (r : Room k A) : A.units + 64 < cLine := by have := r.un; omega
def tNil : TA := fun _ H Q => Q [] H
def tCons (ta : TE) (tr : TA) : TA := fun σ H Q => ta σ H fun x H1 => tr σ H1 fun xs H2 => Q (x :: xs) H2
section
variable {X : Cx} {e : Expr} {es : List Expr} {te : TE} {t : TA} {pos : Pos}
theorem pa_nil : PA X [] tNil := fun _ _ _ _ H Q I h => Calls.spliced_nil ⟨[], H, I, .nil, h⟩
theorem pa_cons (ha : PE X e te) (hr : PA X es t) (hs : starEach (e :: es) X.env = (false, eval e X.env) :: starEach es X.env := by rfl) : PA X (e :: es) (tCons te t) := by
  intro pos pins s σ H Q I h
  rw [hs]
  show wpAny _ _ (spliced ((false, eval e X.env) :: backTo pos (starEach es X.env))) _ _ s
  refine Calls.spliced_cons (thn (ha pins s σ H _ I h) fun u s1 ⟨x, H1, I1, r1, q1⟩ => ?_)
  exact thn (hr pos pins s1 σ H1 _ I1 q1) fun us s2 ⟨xs, H2, I2, r2, q2⟩ => ⟨x :: xs, H2, I2, .cons r1 r2, q2⟩
def tTup (t : TA) : TE := fun σ H Q => t σ H fun xs H1 => xs.length ≤ sizeLine ∧ ∀ p, H1 p = none → Q (.ref p) (upd H1 p (.tup xs))
def tLst (t : TA) : TE := fun σ H Q => t σ H fun xs H1 => xs.length ≤ sizeLine ∧ ∀ p, H1 p = none → Q (.ref p) (upd H1 p (.lst xs))
theorem pe_tup {x1} (h : PA X es t) : PE X (.Tuple es x1 pos) (tTup t) := by
  intro pins s σ H Q I hq
  refine wpAny_Tuple_spliced (thn (h pos pins s σ H _ I hq) fun us s1 ⟨xs, H1, I1, r, z, q⟩ => ⟨by rw [← r.length]; exact z, ?_⟩)
  have hf : H1 s1.heap.objs.size = none := I1.hok.fresh (Nat.le_refl _)
  refine ⟨.ref s1.heap.objs.size, upd H1 s1.heap.objs.size (.tup xs), I1.laid (t' := s1.toks) (fun b u e => Heap.get?_push_of_some _ e) (Nat.le_refl _) ?_, rfl, q _ hf⟩
  exact ⟨z, us, r, ⟨_, Heap.get?_push_size _ rfl, rfl, _, rfl⟩⟩
theorem pe_lst (h : PA X es t) : PE X (.List es pos) (tLst t) := by
  intro pins s σ H Q I hq
  refine wpAny_List_spliced (thn (h pos pins s σ H _ I hq) fun us s1 ⟨xs, H1, I1, r, z, q⟩ => ⟨by rw [← r.length]; exact z, ?_⟩)
  have hf : H1 s1.heap.objs.size = none := I1.hok.fresh (Nat.le_refl _)
  refine ⟨.ref s1.heap.objs.size, upd H1 s1.heap.objs.size (.lst xs), I1.laid (t' := s1.toks) (fun b u e => Heap.get?_push_of_some _ e) (Nat.le_refl _) ?_, rfl, q _ hf⟩
  exact ⟨z, us, 0, r, Heap.get?_push_size _ rfl⟩
end
abbrev Sp := List V → Hp → VK → XK → Prop
abbrev CXT := List Env → Hp → Shared → XK → Value → Shared → Prop
structure Env0 (P : Program) (w : World) (K : PySem.W.Frag) (mg : Str → Option Value) (base : Heap) (A : Around) (outer : List Env) (s : Shared) (H : Hp) : Prop where
  frames : A.frames = some outer
  mod : Mod K mg base
  bs : ∀ b o, base.get? b = some o → s.heap.get? b = some o ∧ H b = none
  bsz : base.objs.size ≤ s.heap.objs.size
  funs : s.heap.FunFrames base outer
  frf : ∀ b ∈ frs outer, H b = none
  hok : HOk P w H s.heap
  bare : AllBare s.gens
def CE (outer : List Env) (P : Program) (w : World) (H : Hp) (s : Shared) (Q : VK) (u : Value) (s' : Shared) : Prop :=
  ∃ v H', s'.os = s.os ∧ AllBare s'.gens ∧ Un (frs outer) [] H H' s.heap s'.heap ∧ HOk P w H' s'.heap ∧ RelV v u ∧ Q v H'
def CR (CX : CXT) (outer : List Env) (P : Program) (w : World) (H : Hp) (s : Shared) (Q : VK) (E : XK) (r : Result) (s' : Shared) : Prop :=
  match r with
  | .ok (.ret u) => CE outer P w H s Q u s'
  | .ok _ => False
  | .error e => CX outer H s E e s'
structure FnOk (P : Program) (w : World) (K : PySem.W.Frag) (mg : Str → Option Value) (base : Heap) (CX : CXT) (k : Nat) (f : Addr) (fd : FuncData) (ps : List Str) (sp : Sp) : Prop where
  len : ∀ vs H Q E, sp vs H Q E → vs.length = ps.length
  run : ∀ (A : Around) (outer : List Env) (s : Shared) (H : Hp) (args : Args) (us : List Value) (vs : List V) (Q : VK) (E : XK), Room k A → Env0 P w K mg base A outer s H → BindsTo s fd args (ps.zip us) → Vals vs us → sp vs H Q E →
    codeAny (model P w) A (.call (.ref f) args) (CR CX outer P w H s Q E) s
theorem FnOk.mono {P : Program} {w : World} {K : PySem.W.Frag} {mg : Str → Option Value} {base : Heap} {CX : CXT} {j k : Nat} {f : Addr} {fd : FuncData} {ps : List Str} {sp : Sp} (F : FnOk P w K mg base CX j f fd ps sp) (h : j ≤ k) :
    FnOk P w K mg base CX k f fd ps sp := ⟨F.len, fun A outer s H args us vs Q E hr => F.run A outer s H args us vs Q E (hr.mono h)⟩
theorem FnOk.imp {P : Program} {w : World} {K : PySem.W.Frag} {mg : Str → Option Value} {base : Heap} {CX : CXT} {k : Nat} {f : Addr} {fd : FuncData} {ps : List Str} {sp sp' : Sp} (F : FnOk P w K mg base CX k f fd ps sp)
    (h : ∀ vs H Q E, sp' vs H Q E → sp vs H Q E) : FnOk P w K mg base CX k f fd ps sp' :=
  ⟨fun vs H Q E q => F.len vs H Q E (h _ _ _ _ q), fun A outer s H args us vs Q E hr he hb hv hs => F.run A outer s H args us vs Q E hr he hb hv (h _ _ _ _ hs)⟩
theorem Env0.make {P : Program} {w : World} {K : PySem.W.Frag} {mg : Str → Option Value} {base : Heap} {A : Around} {outer : List Env} {s : Shared} {H : Hp} (e : Env0 P w K mg base A outer s H) (C : Addr) (us : List Value) (kw : List (Str × Value)) :
    Env0 P w K mg base (A.under (.builtin "type.__call__" ⟨.ref C :: us, kw⟩)) outer s H := ⟨by first | exact e.frames | (simpa [Around.under, Code.envs, Code.isFrame, pushEnvs] using e.frames), e.mod, e.bs, e.bsz, e.funs, e.frf, e.hok, e.bare⟩
theorem Env0.in1 {P : Program} {w : World} {K : PySem.W.Frag} {mg : Str → Option Value} {base : Heap} {A : Around} {outer : List Env} {s : Shared} {H : Hp} (e : Env0 P w K mg base A outer s H) :
    Env0 P w K mg base A.in1 outer s H := ⟨e.frames, e.mod, e.bs, e.bsz, e.funs, e.frf, e.hok, e.bare⟩
section
variable {X : Cx} {pins : List (Addr × Obj)} {σ : St} {H : Hp} {s s' : Shared}
theorem Inv.env0 (I : Inv X pins σ H s) : Env0 X.prog X.w X.K X.mg X.base X.A X.stack s H :=
  ⟨I.ok.frames, I.ok.mod, I.bs, Nat.le_trans I.ok.bsz I.sz, I.stack, I.stkFree, I.hok, I.bare⟩
theorem Inv.after {Q : VK} {u : Value} (I : Inv X pins σ H s) (h : CE X.stack X.prog X.w H s Q u s') : EP X pins σ Q u s' := by
  obtain ⟨v, H', os, bare, un, hok, r, q⟩ := h
  obtain ⟨hh, g, d, t, os'⟩ := s'
  obtain rfl : os' = s.os := os
  exact ⟨v, H', I.call (h' := hh) (g' := g) (d' := d) (t' := t) (ch := []) un hok bare (fun b z => absurd z (by simp)), r, q⟩
end
def tCall (sp : Sp) (dvs : List V) (E : XK) (t : TA) : TE := fun σ H Q => t σ H fun vs H1 => sp (vs ++ dvs) H1 Q E
def tMeth (C : Addr) (m : Str) (sp : Sp) (dvs : List V) (E : XK) (ta : TE) (t : TA) : TE := fun σ H Q => ta σ H fun x H1 => ∃ a dx fs, x = .ref a ∧ H1 a = some (.ins C dx fs) ∧ fs.lookup m = none ∧
  t σ H1 fun vs H2 => sp (x :: (vs ++ dvs)) H2 Q E
def tMake (C : Addr) (sp : Sp) (dvs : List V) (E : XK) (t : TA) : TE := fun σ H Q => t σ H fun vs H1 => ∀ x dx, H1 x = none → H1 dx = none → dx ≠ x →
  sp (.ref x :: (vs ++ dvs)) (upd (upd H1 dx (.own x)) x (.ins C dx [])) (fun v H2 => v = .non ∧ Q (.ref x) H2) E
def Binds (K : PySem.W.Frag) (fd : FuncData) (ps : List Str) (ds : List Value) : Prop :=
  ∀ (s : Shared) (us : List Value), K.In s.heap → (us ++ ds).length = ps.length → BindsTo s fd ⟨us, []⟩ (ps.zip (us ++ ds))
theorem Binds.all {K : PySem.W.Frag} {fd : FuncData} {ps : List Str} (h : ∀ us : List Value, us.length = ps.length → bindArgs fd ⟨us, []⟩ = pure (ps.zip us)) : Binds K fd ps [] := fun s us _ hl => by
  rw [List.append_nil] at hl ⊢
  exact .of_eq (h us hl)
def Passes (CX : CXT) (X : Cx) (E : XK) : Prop := ∀ (pins : List (Addr × Obj)) (σ : St) (H : Hp) (s : Shared) (e : Value) (s' : Shared), Inv X pins σ H s → CX X.stack H s E e s' → X.xe e s'
section
variable {X : Cx} {CX : CXT} {k : Nat} {f C : Addr} {fd : FuncData} {ps : List Str} {sp : Sp} {dvs : List V} {ds : List Value} {E : XK} {x m : Str} {p pos apos : Pos} {e o : Expr} {es : List Expr} {ta : TE} {t : TA}
theorem run_fn {pins : List (Addr × Obj)} {σ : St} {H : Hp} {s : Shared} {Q : VK} {us : List Value} {vs : List V} (F : FnOk X.prog X.w X.K X.mg X.base CX k f fd ps sp) (hr : Room k X.A) (hb : Binds X.K fd ps ds) (hd : Vals dvs ds) (hx : Passes CX X E)
    (I : Inv X pins σ H s) (r : Vals vs us) (h : sp (vs ++ dvs) H Q E) : wpAny (model X.prog X.w) X.A (call (.ref f) us) (EP X pins σ Q) X.xe s := by
  have r2 : Vals (vs ++ dvs) (us ++ ds) := r.append hd
  have hl : (us ++ ds).length = ps.length := by rw [← r2.length]; exact F.len _ _ _ _ h
  refine wpAny_call (codeAny_mono (F.run X.A X.stack s H ⟨us, []⟩ (us ++ ds) (vs ++ dvs) Q E hr I.env0 (hb s us I.kIn hl) r2 h) fun r s' hq => ?_)
  cases r with
  | error e => exact hx pins σ H s e s' I hq
  | ok fl =>
    cases fl with
    | ret u => exact I.after hq
    | next => exact False.elim hq
    | brk => exact False.elim hq
    | cont => exact False.elim hq
theorem pe_call (F : FnOk X.prog X.w X.K X.mg X.base CX k f fd ps sp) (hr : Room k X.A) (hg : Gl X x) (hm : X.mg x = some (.ref f)) (hk : PySem.W.keepIn X.K (.ref f) = true) (hb : Binds X.K fd ps ds) (hd : Vals dvs ds) (hx : Passes CX X E)
    (ha : PA X (e :: es) t) (hdb : (x == ("__debug__" : Str)) = false := by decide) (he : starEach (e :: es) X.env = (false, eval e X.env) :: starEach es X.env := by rfl) (hpl : (backTo pos (starEach es X.env)).any (·.1) = false := by rfl) :
    PE X (.Call (.Name x p) (e :: es) [] pos) (tCall sp dvs E t) := by
  intro pins s σ H Q I h
  refine wpAny_Call_Name_kw (ld_glob I hg hm ?_ hdb)
  refine PySem.W.callWith_K (h₀ := X.base) I.ok.mod.kin hk (thn (ha pos pins s σ H _ I h) fun us s1 ⟨vs, H1, I1, r, q⟩ => ⟨I1.kIn, ?_⟩) he hpl
  exact run_fn F hr hb hd hx I1 r q
theorem pe_meth {pl : Sem Bool} (he : PE X o ta) (c : Cls X.K C) (hm : Meth X.K C m f) (F : FnOk X.prog X.w X.K X.mg X.base CX k f fd ps sp) (hr : Room k X.A) (hb : Binds X.K fd ps ds) (hd : Vals dvs ds) (hx : Passes CX X E) (ha : PA X (e :: es) t)
    (hst : starEach (e :: es) X.env = (false, eval e X.env) :: starEach es X.env := by rfl) (hpl : (backTo pos (starEach es X.env)).any (·.1) = false := by rfl)
    (ht : eval (.Call (.Attribute o m apos) (e :: es) [] pos) X.env = (do
      let ov ← eval o X.env
      standAt apos.atName
      let (f, first) ← holding [ov] (getMethod ov m pl)
      callWith pos f first (backTo pos (starEach (e :: es) X.env)) (backToKw pos (keywordEach [] X.env))) := by rfl) :
    PE X (.Call (.Attribute o m apos) (e :: es) [] pos) (tMeth C m sp dvs E ta t) := by
  intro pins s σ H Q I h
  refine PySem.W.methodCall_KW (pl := pl) (thn (he pins s σ H _ I h) fun u s1 ⟨x, H1, I1, rx, a, dx, fs, ex, ea, l, q⟩ => ?_) ht
  subst ex
  obtain rfl : u = Value.ref a := rx
  refine getmeth_ok I1 ea c hm l ?_
  refine PySem.W.callWith_K (first := [.ref a]) (h₀ := X.base) I.ok.mod.kin hm.kp (thn (ha pos pins s1 σ H1 _ I1 q) fun us s2 ⟨vs, H2, I2, r, q2⟩ => ⟨I2.kIn, ?_⟩) hst hpl
  exact run_fn (us := .ref a :: us) (vs := .ref a :: vs) F hr hb hd hx I2 (.cons rfl r) q2
theorem pe_meth0 {pl : Sem Bool} (he : PE X o ta) (c : Cls X.K C) (hm : Meth X.K C m f) (F : FnOk X.prog X.w X.K X.mg X.base CX k f fd ps sp) (hr : Room k X.A) (hb : Binds X.K fd ps ds) (hd : Vals dvs ds) (hx : Passes CX X E)
    (ht : eval (.Call (.Attribute o m apos) [] [] pos) X.env = (do
      let ov ← eval o X.env
      standAt apos.atName
      let (f, first) ← holding [ov] (getMethod ov m pl)
      callWith pos f first (backTo pos (starEach [] X.env)) (backToKw pos (keywordEach [] X.env))) := by rfl) :
    PE X (.Call (.Attribute o m apos) [] [] pos) (tMeth C m sp dvs E ta tNil) := by
  intro pins s σ H Q I h
  refine PySem.W.methodCall_KW (pl := pl) (thn (he pins s σ H _ I h) fun u s1 ⟨x, H1, I1, rx, a, dx, fs, ex, ea, l, q⟩ => ?_) ht
  subst ex
  obtain rfl : u = Value.ref a := rx
  refine getmeth_ok I1 ea c hm l ?_
  exact PySem.W.callWith_K0 (first := [.ref a]) I1.kIn hm.kp (run_fn (us := [.ref a]) (vs := [.ref a]) F hr hb hd hx I1 (.cons rfl .nil) q)
structure Mk (K : PySem.W.Frag) (C f : Addr) : Prop where
  makes : PySem.W.makesIn K C = true
  init : PySem.W.findIn K (.ref C) "__init__" = some (some (.ref f))
  fn : PySem.W.isFn K (.ref f) = true
  kp : PySem.W.keepIn K (.ref C) = true
theorem run_make {pins : List (Addr × Obj)} {σ : St} {H : Hp} {s : Shared} {Q : VK} {us : List Value} {vs : List V} (M : Mk X.K C f) (F : FnOk X.prog X.w X.K X.mg X.base CX k f fd ps sp) (hr : Room (k + 1) X.A) (hb : Binds X.K fd ps ds) (hd : Vals dvs ds)
    (hx : Passes CX X E) (I : Inv X pins σ H s) (r : Vals vs us)
    (h : ∀ x dx, H x = none → H dx = none → dx ≠ x → sp (.ref x :: (vs ++ dvs)) (upd (upd H dx (.own x)) x (.ins C dx [])) (fun v H2 => v = .non ∧ Q (.ref x) H2) E) :
    wpAny (model X.prog X.w) X.A (call (.ref C) us) (EP X pins σ Q) X.xe s := by
  have hq := h (s.heap.objs.size + 1) s.heap.objs.size (I.hok.fresh (Nat.le_succ _)) (I.hok.fresh (Nat.le_refl _)) (Nat.ne_of_lt (Nat.lt_succ_self _))
  have I2 := Inv.made (C := C) I
  have r2 : Vals (V.ref (s.heap.objs.size + 1) :: (vs ++ dvs)) (Value.ref (s.heap.objs.size + 1) :: (us ++ ds)) := .cons rfl (r.append hd)
  have hl : (Value.ref (s.heap.objs.size + 1) :: us ++ ds).length = ps.length := by
    have e := r2.length
    rw [F.len _ _ _ _ hq] at e
    exact e.symm
  refine wpAny_call (make_map (f := f) I.kIn M.makes M.init (beq_iff_eq.mp M.fn) (codeAny_mono (F.run _ X.stack _ _ ⟨Value.ref (s.heap.objs.size + 1) :: us, []⟩ (Value.ref (s.heap.objs.size + 1) :: (us ++ ds)) _ _ E (hr.make C us [])
    (I2.env0.make C us []) (hb _ (Value.ref (s.heap.objs.size + 1) :: us) I2.kIn hl) r2 hq) fun r s' hq' => ?_))
  cases r with
  | error e => exact hx pins σ _ _ e s' I2 hq'
  | ok fl =>
    cases fl with
    | ret u =>
      obtain ⟨v, H', I3, rv, ev, q3⟩ := I2.after hq'
      subst ev
      exact ⟨rv, ⟨V.ref (s.heap.objs.size + 1), H', I3, rfl, q3⟩⟩
    | next => exact False.elim hq'
    | brk => exact False.elim hq'
    | cont => exact False.elim hq'
theorem pe_make (M : Mk X.K C f) (F : FnOk X.prog X.w X.K X.mg X.base CX k f fd ps sp) (hr : Room (k + 1) X.A) (hg : Gl X x) (hm : X.mg x = some (.ref C)) (hb : Binds X.K fd ps ds) (hd : Vals dvs ds) (hx : Passes CX X E)
    (ha : PA X (e :: es) t) (hdb : (x == ("__debug__" : Str)) = false := by decide) (he : starEach (e :: es) X.env = (false, eval e X.env) :: starEach es X.env := by rfl) (hpl : (backTo pos (starEach es X.env)).any (·.1) = false := by rfl) :
    PE X (.Call (.Name x p) (e :: es) [] pos) (tMake C sp dvs E t) := by
  intro pins s σ H Q I h
  refine wpAny_Call_Name_kw (ld_glob I hg hm ?_ hdb)
  refine PySem.W.callWith_K (h₀ := X.base) I.ok.mod.kin M.kp (thn (ha pos pins s σ H _ I h) fun us s1 ⟨vs, H1, I1, r, q⟩ => ⟨I1.kIn, ?_⟩) he hpl
  exact run_make M F hr hb hd hx I1 r q
end
section
variable {X : Cx} {CX : CXT} {k : Nat} {f C : Addr} {fd : FuncData} {ps ks : List Str} {sp : Sp} {E : XK} {x m : Str} {p pos apos kpos : Pos} {e o : Expr} {es : List Expr} {kws : List Keyword} {te ta : TE} {t tk : TA} {nm : Option Str}
variable {g : List Value → List Value → List Value} {gV : List V → List V → List V}
end
structure FnScope (N P : List Str) (sc : Scope) : Prop where
  kind : sc.kind = .function
  co : sc.isCoroutine = false
  gen : sc.isGenerator = false
  nd : N.Nodup
  pre : N.take P.length = P
  par : ∀ x ∈ P, sc.names.lookup x = some .local ∨ sc.names.lookup x = some .cell
  nofree : ∀ y ∈ sc.names, y.2 ≠ .free
theorem bindL_out {kindOf : Str → Option NameKind} {x : Str} : ∀ {binds : List (Str × Value)} {m : Str → Option Value}, (∀ v, (x, v) ∉ binds) → bindL kindOf binds m x = m x
  | [], _, _ => rfl
  | (n, v) :: r, m, h => by
    unfold bindL
    rw [bindL_out fun w hw => h w (List.mem_cons_of_mem _ hw)]
    split
    · have : x ≠ n := by rintro rfl; exact h v List.mem_cons_self
      simp [this]
    · rfl
theorem bindC_out {kindOf : Str → Option NameKind} {x : Str} : ∀ {binds : List (Str × Value)} {m : Str → Option Value}, (∀ v, (x, v) ∉ binds) → bindC kindOf binds m x = m x
  | [], _, _ => rfl
  | (n, v) :: r, m, h => by
    unfold bindC
    rw [bindC_out fun w hw => h w (List.mem_cons_of_mem _ hw)]
    split
    · rfl
    · have : x ≠ n := by rintro rfl; exact h v List.mem_cons_self
      simp [this]
theorem bindL_get {kindOf : Str → Option NameKind} {x : Str} {v : Value} : ∀ {P : List Str} {vs : List Value} {i : Nat} {m : Str → Option Value}, P.Nodup → P[i]? = some x → vs[i]? = some v → kindOf x = some .local →
    bindL kindOf (P.zip vs) m x = some v
  | [], _, _, _, _, h, _, _ => by simp at h
  | _ :: _, [], _, _, _, _, h, _ => by simp at h
  | p :: P, w :: vs, 0, m, nd, h1, h2, hk => by
    simp at h1 h2; subst h1; subst h2
    show bindL kindOf ((p, w) :: P.zip vs) m p = _
    unfold bindL
    rw [bindL_out fun v hv => (List.nodup_cons.mp nd).1 (List.of_mem_zip hv).1, if_pos hk]
    simp
  | p :: P, w :: vs, i + 1, m, nd, h1, h2, hk => by
    show bindL kindOf ((p, w) :: P.zip vs) m x = _
    unfold bindL
    exact bindL_get (i := i) (List.nodup_cons.mp nd).2 (by simpa using h1) (by simpa using h2) hk
theorem bindC_get {kindOf : Str → Option NameKind} {x : Str} {v : Value} : ∀ {P : List Str} {vs : List Value} {i : Nat} {m : Str → Option Value}, P.Nodup → P[i]? = some x → vs[i]? = some v → kindOf x ≠ some .local →
    bindC kindOf (P.zip vs) m x = some v
  | [], _, _, _, _, h, _, _ => by simp at h
  | _ :: _, [], _, _, _, _, h, _ => by simp at h
  | p :: P, w :: vs, 0, m, nd, h1, h2, hk => by
    simp at h1 h2; subst h1; subst h2
    show bindC kindOf ((p, w) :: P.zip vs) m p = _
    unfold bindC
    rw [bindC_out fun v hv => (List.nodup_cons.mp nd).1 (List.of_mem_zip hv).1, if_neg hk]
    simp
  | p :: P, w :: vs, i + 1, m, nd, h1, h2, hk => by
    show bindC kindOf ((p, w) :: P.zip vs) m x = _
    unfold bindC
    exact bindC_get (i := i) (List.nodup_cons.mp nd).2 (by simpa using h1) (by simpa using h2) hk
def start (N : List Str) (vs : List V) : St := vs.map some ++ List.replicate (N.length - vs.length) none
def cxOf (CX : CXT) (P : Program) (w : World) (K : PySem.W.Frag) (mg : Str → Option Value) (base : Heap) (N : List Str) (qual : Str) (scope : Scope) (f : Addr) (cd : Value) (A : Around) (outer : List Env) (s : Shared) (H : Hp) (E : XK) : Cx where
  prog := P
  w := w
  K := K
  mg := mg
  base := base
  A := A.deeper (envOfC qual scope s.heap.objs.size f cd)
  N := N
  s₀ := s
  H₀ := H
  env := envOfC qual scope s.heap.objs.size f cd
  outer := outer
  stack := envOfC qual scope s.heap.objs.size f cd :: outer
  ex := []
  calm := true
  fn := fun _ => true
  pn := []
  xe := fun e s' => wpAny (model P w) (A.deeper (envOfC qual scope s.heap.objs.size f cd)) (leaving (envOfC qual scope s.heap.objs.size f cd) e) (fun _ s'' => CX outer H s E e s'') (fun e' s'' => CX outer H s E e' s'') s'
theorem cell_has {sc : Scope} {n : Nat} {x : Str} (h : sc.names.lookup x = some .cell) : ∃ c, (cellsFrom n sc.names []).lookup x = some c := by
  have q := PySem.W.cellsFrom_some sc.names n [] (.inl h)
  exact Option.isSome_iff_exists.mp q
theorem inv_start {CX : CXT} {P : Program} {w : World} {K : PySem.W.Frag} {mg : Str → Option Value} {base : Heap} {N ps : List Str} {qual : Str} {scope : Scope} {f : Addr} {cd : Value} {A : Around} {outer : List Env} {s s1 : Shared} {H : Hp} {E : XK} {us : List Value} {vs : List V}
    (S : FnScope N ps scope) (hd : A.handled = none) (e0 : Env0 P w K mg base A outer s H) (hl : vs.length = ps.length) (r : Vals vs us)
    (x : InCallC s s.heap.objs.size (bindL (envOfC qual scope s.heap.objs.size f cd).kindOf (ps.zip us) fun _ => none) (cellsFrom (s.heap.objs.size + 1) scope.names []) (bindC (envOfC qual scope s.heap.objs.size f cd).kindOf (ps.zip us) fun _ => none) s1) :
    Inv (cxOf CX P w K mg base N qual scope f cd A outer s H E) [] (start N vs) H s1 := by
  have hpl : ps.length ≤ N.length := by have := congrArg List.length S.pre; rw [List.length_take] at this; omega
  obtain ⟨h1, tk, rfl, hk⟩ := x.done
  have noA : ∀ b : Addr, b ∉ (cxOf CX P w K mg base N qual scope f cd A outer s H E).ex := fun b z => absurd (show b ∈ ([] : List Addr) from z) (by simp)
  refine ⟨⟨e0.mod, S.kind, rfl, rfl, Nat.le_refl _, fun y z c h1 h2 => ?_, fun y hy => ?_, fun y c _ h => ?_, fun _ => hd, Around.frames_deeper e0.frames, .inr ⟨rfl, rfl⟩, fun b z => absurd z (noA b), e0.bs, e0.bsz, fun b _ _ => noA b, fun b z => absurd z (noA b), e0.funs, e0.frf⟩,
    rfl, e0.bare, Un.kept hk, ⟨_, x.toInCall.ns, fun i y v h1 h2 h3 => ?_⟩, fun y c h => ⟨_, x.cell y c h⟩, e0.hok.fresh (Nat.le_refl _), fun y c h => ?_, fun p hp => absurd (show p ∈ ([] : List (Addr × Obj)) from hp) (by simp), e0.hok.kept hk, ?_⟩
  · exact name_of_addr x.apart (PySem.mem_of_lookup h1) (PySem.mem_of_lookup h2)
  · have hy : scope.names.lookup y = some .cell ∨ scope.names.lookup y = some .free := hy
    rcases hy with hy | hy
    · exact cell_has hy
    · exact absurd rfl (S.nofree _ (PySem.mem_of_lookup hy))
  · exact Nat.le_of_lt (x.above y c (PySem.mem_of_lookup h))
  · have hi : i < vs.length := by
      unfold start at h2
      by_cases hi : i < vs.length
      · exact hi
      · rw [List.getElem?_append_right (by simpa using hi)] at h2
        rw [List.getElem?_replicate] at h2
        split at h2 <;> cases h2
    have ha : vs[i]? = some v := by
      unfold start at h2
      rw [List.getElem?_append_left (by simpa using hi), List.getElem?_map] at h2
      cases e : vs[i]? with
      | none => rw [e] at h2; cases h2
      | some a => rw [e] at h2; cases h2; rfl
    obtain ⟨u, hu, rv⟩ := r.get ha
    have hp : ps[i]? = some y := by
      rw [← S.pre, List.getElem?_take_of_lt (by omega)]; exact h1
    have ndP : ps.Nodup := by rw [← S.pre]; exact S.nd.sublist (List.take_sublist _ _)
    refine ⟨u, rv, ?_⟩
    rcases S.par y (List.mem_of_getElem? hp) with k | k
    · exact .inl ⟨k, bindL_get ndP hp hu k⟩
    · obtain ⟨c, e⟩ := cell_has (n := s.heap.objs.size + 1) k
      refine .inr ⟨.inl k, c, e, ?_⟩
      have q := x.cell y c e
      rw [bindC_get ndP hp hu (by show scope.names.lookup y ≠ _; rw [k]; decide)] at q
      exact q
  · exact e0.hok.fresh (Nat.le_of_lt (x.above y c (PySem.mem_of_lookup h)))
  · unfold start
    show _ = N.length
    rw [List.length_append, List.length_map, List.length_replicate]
    omega
theorem fn_of {CX : CXT} {P : Program} {w : World} {K : PySem.W.Frag} {mg : Str → Option Value} {base : Heap} {k : Nat} {f : Addr} {name qual : Str} {params : Arguments} {body : List Stmt} {scope : Scope} {dV kV doc pm cdv ct oc : Value} {an od : Option Addr}
    {osl : Array (Option Value)} {N ps : List Str} {sp : Sp} (lk : K.lookup f = some ⟨oc, od, .func (PySem.W.fnOf name qual params body scope dV kV doc pm an cdv ct), osl⟩) (hcd : PySem.W.codeIn K cdv qual = true) (S : FnScope N ps scope)
    (len : ∀ vs H Q E, sp vs H Q E → vs.length = ps.length)
    (hbody : ∀ (A : Around) (outer : List Env) (s : Shared) (H : Hp) (vs : List V) (Q : VK) (E : XK), Room k (A.deeper (envOfC qual scope s.heap.objs.size f cdv)) → sp vs H Q E →
      ∃ t, PSs (cxOf CX P w K mg base N qual scope f cdv A outer s H E) body t ∧ t { nx := fun _ H' => Q .non H', rt := Q } (start N vs) H) :
    FnOk P w K mg base CX (k + 1) f (PySem.W.fnOf name qual params body scope dV kV doc pm an cdv ct) ps sp := by
  refine ⟨len, fun A outer s H args us vs Q E hr e0 hb r hsp => ?_⟩
  have hl := len _ _ _ _ hsp
  have KX : K.In s.heap := e0.mod.kin.keeps fun b o e => (e0.bs b o e).1
  have lim : s.heap.NoLimit := e0.mod.nolimit.keeps fun b o e => (e0.bs b o e).1
  have hkind : ∀ y ∈ ps.zip us, scope.names.lookup y.1 = some .local ∨ (scope.names.lookup y.1 = some .cell ∧ ((cellsFrom (s.heap.objs.size + 1) scope.names []).lookup y.1).isSome = true) := fun ⟨n, v⟩ hy => by
    rcases S.par n (List.of_mem_zip hy).1 with q | q
    · exact .inl q
    · exact .inr ⟨q, PySem.W.cellsFrom_some _ _ _ (.inl q)⟩
  refine codeAny_call_function hr.depth (KX _ _ lk) rfl S.co S.gen rfl (PySem.W.codeRec_of KX hcd) (hb _ _ _ _ ?_)
  refine wpAny_newFunctionEnv_cells S.kind hkind fun env he s1 x => ?_
  subst he
  refine ⟨lim.keeps x.toInCall.keep, codeAny_func ?_⟩
  obtain ⟨t, ht, hq⟩ := hbody A outer s H vs Q E (hr.deeper _) hsp
  have I : Inv (cxOf CX P w K mg base N qual scope f cdv A outer s H E) [] (start N vs) H s1 := inv_start S hr.hd e0 hl r x
  refine wpAny_mono (ht [] s1 (start N vs) H _ I hq) (fun fl s' hs => ?_) fun e s' hs => hs
  have fin : ∀ {σ' : St} {H' : Hp} {v : V} {u : Value}, Inv (cxOf CX P w K mg base N qual scope f cdv A outer s H E) [] σ' H' s' → RelV v u → Q v H' → CE outer P w H s Q u s' :=
    fun {σ' H' v u} J rv q => ⟨v, H', J.os, J.bare, J.base, J.hok, rv, q⟩
  cases fl with
  | ret u =>
    obtain ⟨v, σ', H', J, rv, q⟩ := hs
    exact fin J rv q
  | next =>
    obtain ⟨σ', H', J, q⟩ := hs
    exact fin (v := V.non) (u := Value.none) J rfl q
  | brk =>
    obtain ⟨_, _, _, q⟩ := hs
    exact False.elim q
  | cont =>
    obtain ⟨_, _, _, q⟩ := hs
    exact False.elim q
end L2
namespace L2
open PySem PySem.Spec PyProof.Rows
section
variable {X : Cx} {x : Str} {p pos : Pos} {e : Expr} {es : List Expr} {t : TA} {id T : String} {r : List V → Hp → VK → Prop}
def tCB (r : List V → Hp → VK → Prop) (t : TA) : TE := fun σ H Q => t σ H fun vs H1 => r vs H1 Q
theorem pe_callB (hc : CallR X (.builtin id) r) (hg : Gl X x) (hm : X.mg x = none) (hv : bootBuiltins x = some (.builtin id)) (ha : PA X (e :: es) t) (hn : x ≠ "__name__" := by decide) (hdb : (x == ("__debug__" : Str)) = false := by decide)
    (he : starEach (e :: es) X.env = (false, eval e X.env) :: starEach es X.env := by rfl) (hpl : (backTo pos (starEach es X.env)).any (·.1) = false := by rfl) : PE X (.Call (.Name x p) (e :: es) [] pos) (tCB r t) := by
  intro pins s σ H Q I h
  refine wpAny_Call_Name_kw (ld_blt I hg hm hv ?_ hn hdb)
  exact PyProof.Rows.callWith_builtin1 (thn (ha pos pins s σ H _ I h) fun us s1 ⟨vs, H1, I1, r1, q1⟩ => hc pins s1 σ H1 vs us Q I1 r1 q1) he hpl
theorem pe_callTy (hc : CallR X (.type T) r) (hg : Gl X x) (hm : X.mg x = none) (hv : bootBuiltins x = some (.type T)) (ha : PA X (e :: es) t) (hn : x ≠ "__name__" := by decide) (hdb : (x == ("__debug__" : Str)) = false := by decide)
    (he : starEach (e :: es) X.env = (false, eval e X.env) :: starEach es X.env := by rfl) (hpl : (backTo pos (starEach es X.env)).any (·.1) = false := by rfl) : PE X (.Call (.Name x p) (e :: es) [] pos) (tCB r t) := by
  intro pins s σ H Q I h
  refine wpAny_Call_Name_kw (ld_blt I hg hm hv ?_ hn hdb)
  exact PyProof.Rows.callWith_type1 (thn (ha pos pins s σ H _ I h) fun us s1 ⟨vs, H1, I1, r1, q1⟩ => hc pins s1 σ H1 vs us Q I1 r1 q1) he hpl
end
end L2
namespace HT
open PySem PyProof.Rows
def lexLt : List Int → List Int → Bool
  | [], [] => false
  | [], _ :: _ => true
  | _ :: _, [] => false
  | x :: xs, y :: ys => if x = y then lexLt xs ys else decide (x < y)
section
open PySem.SeqAt
open PySem.AutoSeq1 (wpAny_loadPart')
open PySem.MeetsSeq PySem.MeetsSeq2 PySem.MeetsSeq3
end
section
variable {prog : Program} {w : World} {A : Around} {E : Value → Shared → Prop} {s : Shared}
def sIx (n d : Nat) : Option Int → Nat
  | none => d
  | some v => if v < 0 then (v + (n : Int)).toNat else min v.toNat n
end
end HT
namespace L2
open PySem PySem.Spec PyProof.Rows
abbrev TO := St → Hp → (Option Int → Hp → Prop) → Prop
def PO (X : Cx) (e : Option Expr) (t : TO) : Prop :=
  ∀ (pins : List (Addr × Obj)) (s : Shared) (σ : St) (H : Hp) (Q : Option Int → Hp → Prop), Inv X pins σ H s → t σ H Q →
    wpAny (model X.prog X.w) X.A (evalPart e X.env) (fun u s' => ∃ o H', Inv X pins σ H' s' ∧ IsPart u o ∧ Q o H') X.xe s
def tNoPart : TO := fun _ H Q => Q none H
def tPart (t : TE) : TO := fun σ H Q => t σ H fun x H1 => ∃ i, x = .int i ∧ Q (some i) H1
theorem intsAre_of {ns : List Int} : ∀ {us : List Value}, Vals (ns.map V.int) us → IntsAre us ns := by
  induction ns with
  | nil => intro us r; rw [List.map_nil] at r; cases r; exact .nil
  | cons n ns ih =>
    intro us r
    rw [List.map_cons] at r
    cases r with
    | cons r1 r2 =>
      obtain ⟨t, e⟩ := r1
      subst e
      exact .cons n t (ih r2)
section
variable {X : Cx} {e : Expr} {te : TE} {lo hi : Option Expr} {tl th : TO} {pos p2 : Pos}
theorem po_none : PO X none tNoPart := by
  intro pins s σ H Q I h
  rw [evalPart_none]
  exact wpAny_pure ⟨none, H, I, .none, h⟩
theorem po_some (h : PE X e te) : PO X (some e) (tPart te) := by
  intro pins s σ H Q I hw
  rw [evalPart_some]
  refine thn (h pins s σ H _ I hw) fun u s1 ⟨x, H1, I1, r1, q1⟩ => ?_
  obtain ⟨i, rfl, q⟩ := q1
  obtain ⟨t, rfl⟩ := r1
  exact ⟨some i, H1, I1, .int i t, q⟩
def SlR (X : Cx) (r : V → Option Int → Option Int → Hp → VK → Prop) : Prop :=
  ∀ (pins : List (Addr × Obj)) (s : Shared) (σ : St) (H : Hp) (x : V) (v vl vu : Value) (lo hi : Option Int) (sl : Addr) (Q : VK), Inv X pins σ H s → RelV x v → s.heap.IsSliceOf sl vl vu .none → IsPart vl lo → IsPart vu hi → r x lo hi H Q →
    ∃ T id, typeLookup (.type T) "__getitem__" = pure (some (.builtin id)) ∧ s.TypeIs v T ∧ wpAny (model X.prog X.w) X.A (getItem v (.ref sl)) (EP X pins σ Q) X.xe s
theorem SlR.or {r r' : V → Option Int → Option Int → Hp → VK → Prop} (h : SlR X r) (h' : SlR X r') : SlR X (fun x lo hi H Q => r x lo hi H Q ∨ r' x lo hi H Q) := by
  intro pins s σ H x v vl vu lo hi sl Q I rx hs pl pu q
  rcases q with q | q
  · exact h pins s σ H x v vl vu lo hi sl Q I rx hs pl pu q
  · exact h' pins s σ H x v vl vu lo hi sl Q I rx hs pl pu q
def tSl (r : V → Option Int → Option Int → Hp → VK → Prop) (te : TE) (tl th : TO) : TE := fun σ H Q => te σ H fun x H1 => tl σ H1 fun l H2 => th σ H2 fun u H3 => r x l u H3 Q
theorem pe_slice {r : V → Option Int → Option Int → Hp → VK → Prop} (hr : SlR X r) (he : PE X e te) (hl : PO X lo tl) (hu : PO X hi th) : PE X (.Subscript e (.Slice lo hi none p2) pos) (tSl r te tl th) := by
  intro pins s σ H Q I h
  refine Subscript_ (thn (he pins s σ H _ I h) fun v s1 ⟨x, H1, I1, r1, q1⟩ => ?_)
  refine wpAny_Slice (thn (hl pins s1 σ H1 _ I1 q1) fun vl s2 ⟨l, H2, I2, pl, q2⟩ => thn (hu pins s2 σ H2 _ I2 q2) fun vu s3 ⟨u, H3, I3, pu, q3⟩ => ?_)
  rw [evalPart_none]
  refine wpAny_pure ?_
  have I4 : Inv X pins σ H3 { s3 with heap := s3.heap.push { cls := .type "slice", data := .fields #[vl, vu, .none] } } := I3.kept (t' := s3.toks) fun b ob q => Heap.get?_push_of_some _ q
  obtain ⟨T, id, hT, ht, hg⟩ := hr pins { s3 with heap := s3.heap.push { cls := .type "slice", data := .fields #[vl, vu, .none] } } σ H3 x v vl vu l u s3.heap.objs.size Q I4 r1 (Heap.IsSliceOf.new ..) pl pu q3
  show wpAny (model X.prog X.w) X.A (subscriptTail e (.Slice lo hi none p2) v (.ref s3.heap.objs.size)) (EP X pins σ Q) X.xe { s3 with heap := s3.heap.push { cls := .type "slice", data := .fields #[vl, vu, .none] } }
  exact tail_any (ops := [.ref s3.heap.objs.size, v]) ht hT hg (by with_unfolding_all rfl)
def cutV (xs : List V) (lo hi : Option Int) : List V := (xs.drop (HT.sIx xs.length 0 lo)).take (HT.sIx xs.length xs.length hi - HT.sIx xs.length 0 lo)
theorem cutV_length (xs : List V) (lo hi : Option Int) : (cutV xs lo hi).length ≤ xs.length := by
  unfold cutV
  rw [List.length_take, List.length_drop]
  omega
end
end L2
namespace L2
open PySem PySem.Spec PyProof.Rows
def ixN (n : Nat) (i : Int) : Option Nat := if 0 ≤ i then (if i < n then some i.toNat else none) else if -(n : Int) ≤ i then some (i + n).toNat else none
def atI {α : Type} (xs : List α) (i : Int) : Option α := (ixN xs.length i).bind fun j => xs[j]?
theorem ixN_seq {n : Nat} {i : Int} {j : Nat} (h : ixN n i = some j) : seqIndex? i n = some j ∧ j < n ∧ -(n : Int) ≤ i ∧ i < n := by
  unfold ixN at h
  by_cases h0 : 0 ≤ i
  · rw [if_pos h0] at h
    by_cases h1 : i < n
    · rw [if_pos h1] at h
      have e : i.toNat = j := Option.some.inj h
      exact ⟨by rw [seqIndex_of h0 h1, e], by omega, by omega, h1⟩
    · rw [if_neg h1] at h; cases h
  · rw [if_neg h0] at h
    by_cases h1 : -(n : Int) ≤ i
    · rw [if_pos h1] at h
      have e : (i + n).toNat = j := Option.some.inj h
      exact ⟨by rw [seqIndex_neg (by omega) h1, e], by omega, h1, by omega⟩
    · rw [if_neg h1] at h; cases h
theorem atI_get {α : Type} {xs : List α} {i : Int} {v : α} (h : atI xs i = some v) : ∃ j, seqIndex? i xs.length = some j ∧ xs[j]? = some v ∧ j < xs.length ∧ -(xs.length : Int) ≤ i ∧ i < xs.length := by
  unfold atI at h
  cases e : ixN xs.length i with
  | none => rw [e] at h; cases h
  | some j =>
    rw [e] at h
    obtain ⟨h1, h2, h3, h4⟩ := ixN_seq e
    exact ⟨j, h1, h, h2, h3, h4⟩
theorem atI_nat {α : Type} {xs : List α} {j : Nat} {v : α} (h : xs[j]? = some v) : atI xs (j : Int) = some v := by
  have hj : j < xs.length := (List.getElem?_eq_some_iff.mp h).1
  have e : ixN xs.length (j : Int) = some j := by
    unfold ixN
    rw [if_pos (by omega), if_pos (by omega)]; simp
  unfold atI; rw [e]; exact h
def PlainIx (b : Expr) : Prop := ∀ o i, subscripted b false o i = operate [o, i] (getItem o i)
def IxR (X : Cx) (r : R2) : Prop :=
  ∀ (value slice : Expr) (pins : List (Addr × Obj)) (s : Shared) (σ : St) (H : Hp) (x y : V) (v u : Value) (Q : VK), Inv X pins σ H s → RelV x v → RelV y u → r x y H Q →
    subscripted slice false v u = operate [v, u] (getItem v u) → wpAny (model X.prog X.w) X.A (subscriptTail value slice v u) (EP X pins σ Q) X.xe s
def MtR (X : Cx) (id : String) (r : V → List V → Hp → VK → Prop) : Prop :=
  ∀ (pins : List (Addr × Obj)) (s : Shared) (σ : St) (H : Hp) (x : V) (xs : List V) (v : Value) (us : List Value) (Q : VK), Inv X pins σ H s → RelV x v → Vals xs us → r x xs H Q →
    wpAny (model X.prog X.w) X.A (call (.builtin id) (v :: us)) (EP X pins σ Q) X.xe s
section
variable {X : Cx} {a b : Expr} {ta tb : TE} {pos : Pos}
theorem IxR.or {r r' : R2} (h : IxR X r) (h' : IxR X r') : IxR X (fun x y H Q => r x y H Q ∨ r' x y H Q) := by
  intro value slice pins s σ H x y v u Q I rx ry q hs
  rcases q with q | q
  · exact h value slice pins s σ H x y v u Q I rx ry q hs
  · exact h' value slice pins s σ H x y v u Q I rx ry q hs
theorem MtR.or {id : String} {r r' : V → List V → Hp → VK → Prop} (h : MtR X id r) (h' : MtR X id r') : MtR X id (fun x xs H Q => r x xs H Q ∨ r' x xs H Q) := by
  intro pins s σ H x xs v us Q I rx rs q
  rcases q with q | q
  · exact h pins s σ H x xs v us Q I rx rs q
  · exact h' pins s σ H x xs v us Q I rx rs q
theorem pe_ix {r : R2} (hr : IxR X r) (ha : PE X a ta) (hb : PE X b tb) (hs : PlainIx b) : PE X (.Subscript a b pos) (tOp r ta tb) := by
  intro pins s σ H Q I h
  exact Subscript_ (binT ha hb I h fun v u s2 x y H2 I2 rx ry q => hr a b pins s2 σ H2 x y v u Q I2 rx ry q (hs _ _))
def rIxL (K : PySem.W.Frag) : R2 := fun x y H Q => ∃ p xs i v, x = .ref p ∧ y = .int i ∧ SqL K H p xs ∧ atI xs i = some v ∧ Q v H
def rIxT (K : PySem.W.Frag) : R2 := fun x y H Q => ∃ p xs i v, x = .ref p ∧ y = .int i ∧ SqT K H p xs ∧ atI xs i = some v ∧ Q v H
def rIxS : R2 := fun x y H Q => ∃ z i c, x = .str z ∧ y = .int i ∧ z.length ≤ sizeLine ∧ atI z.cps.toList i = some c ∧ Q (.str ⟨#[c]⟩) H
theorem ix_list : IxR X (rIxL X.K) := by
  intro value slice pins s σ H x y v u Q I rx ry h hs
  obtain ⟨p, xs, i, z, rfl, rfl, hq, he, q⟩ := h
  cases rx
  obtain ⟨t, rfl⟩ := ry
  obtain ⟨its, r, pl, hz⟩ := I.list hq
  obtain ⟨j, h1, h2, h3, h4, h5⟩ := atI_get he
  obtain ⟨w, ew, rw'⟩ := r.get h2
  have hl := r.length
  have hn := line63
  have fin : EP X pins σ Q w s := ⟨z, H, I, rw', q⟩
  by_cases h0 : 0 ≤ i
  · have hj : i.toNat = j := by
      rw [seqIndex_of h0 h5] at h1
      exact Option.some.inj h1
    exact item_listR pl.isList h0 (by omega) (by rw [hj]; simpa using ew) fin hs
  · have hj : (i + (its.toArray.size : Int)).toNat = j := by
      rw [seqIndex_neg (by omega) h4] at h1
      rw [List.size_toArray, ← hl]
      exact Option.some.inj h1
    exact subscriptTail_builtinR (x := w) pl.isList.typeIs slot_list_getitem.lookup
      (wpAny_getItem_list_neg (Q := fun r s' => r = w ∧ EP X pins σ Q r s') pl.isList (by omega) (by rw [List.size_toArray] <;> omega) (by omega) (by rw [hj]; simpa using ew) ⟨rfl, fin⟩) hs
theorem ix_tup : IxR X (rIxT X.K) := by
  intro value slice pins s σ H x y v u Q I rx ry h hs
  obtain ⟨p, xs, i, z, rfl, rfl, hq, he, q⟩ := h
  cases rx
  obtain ⟨t, rfl⟩ := ry
  obtain ⟨its, r, pl, hz⟩ := I.tuple hq
  obtain ⟨j, h1, h2, h3, h4, h5⟩ := atI_get he
  obtain ⟨w, ew, rw'⟩ := r.get h2
  have hl := r.length
  have hn := line63
  have fin : EP X pins σ Q w s := ⟨z, H, I, rw', q⟩
  exact subscriptTail_builtinR (x := w) pl.typeIs slot_tuple_getitem.lookup
    (getItem_tuple (j := j) (Q := fun r s' => r = w ∧ EP X pins σ Q r s') pl (by omega) (by omega) (by rw [List.size_toArray, ← hl]; exact h1) (by simpa using ew) ⟨rfl, fin⟩) hs
theorem Inv.lst {pins : List (Addr × Obj)} {σ : St} {H : Hp} {s : Shared} {p : Addr} {xs : List V} (I : Inv X pins σ H s) (h : H p = some (.lst xs)) :
    ∃ (its : List Value) (n : Nat), Vals xs its ∧ s.heap.get? p = some { cls := .type "list", data := .seq its.toArray n } ∧ xs.length ≤ sizeLine := by
  obtain ⟨z, its, n, r, e⟩ := I.hok p _ h
  exact ⟨its, n, r, e, z⟩
def rSetL : V → V → V → Hp → (Hp → Prop) → Prop := fun o i v H Q => ∃ p xs k j, o = .ref p ∧ i = .int k ∧ H p = some (.lst xs) ∧ ixN xs.length k = some j ∧ Q (upd H p (.lst (xs.set j v)))
theorem slice_bounds (lo hi : Option Int) (n : Nat) : (sliceBounds lo hi none n).1 = ((HT.sIx n 0 lo : Nat) : Int) ∧ (sliceBounds lo hi none n).2.1 = ((HT.sIx n n hi : Nat) : Int) ∧ (sliceBounds lo hi none n).2.2 = 1 := by
  refine ⟨?_, ?_, rfl⟩
  · cases lo with
    | none => simp [sliceBounds, HT.sIx]
    | some i =>
      simp only [sliceBounds, HT.sIx, Option.getD_none, show (1 : Int) > 0 by decide, if_true]
      by_cases h : i < 0
      · simp only [h, if_true] <;> omega
      · simp only [h, if_false] <;> omega
  · cases hi with
    | none => simp [sliceBounds, HT.sIx]
    | some i =>
      simp only [sliceBounds, HT.sIx, Option.getD_none, show (1 : Int) > 0 by decide, if_true]
      by_cases h : i < 0
      · simp only [h, if_true] <;> omega
      · simp only [h, if_false] <;> omega
theorem slicePick_cut (its : List Value) (lo hi : Option Int) : slicePick its.toArray lo hi none = ((its.drop (HT.sIx its.length 0 lo)).take (HT.sIx its.length its.length hi - HT.sIx its.length 0 lo)).toArray := by
  obtain ⟨h1, h2, h3⟩ := slice_bounds lo hi its.toArray.size
  unfold slicePick
  rw [h1, h2, h3]
  simp only [sliceRange_one, pick_run, List.size_toArray] <;> rfl
def rSlL (K : PySem.W.Frag) : V → Option Int → Option Int → Hp → VK → Prop := fun x lo hi H Q => ∃ a xs, x = .ref a ∧ SqL K H a xs ∧ ∀ p, H p = none → Q (.ref p) (upd H p (.lst (cutV xs lo hi)))
theorem sl_list : SlR X (rSlL X.K) := by
  intro pins s σ H x v vl vu lo hi sl Q I rx hs pl pu h
  obtain ⟨a, xs, rfl, hx, q⟩ := h
  cases rx
  obtain ⟨its, r, ht, hz⟩ := I.list hx
  have hlen := r.length
  refine ⟨"list", _, slot_list_getitem.lookup, ht.isList.typeIs, ?_⟩
  refine wpAny_getItem_list_slice ht.isList hs pl pu .none (by simp) ?_ (by rw [List.size_toArray] <;> omega)
  rw [slicePick_cut, ← hlen]
  refine ⟨.ref s.heap.objs.size, _, I.laid (t' := s.toks) (o := .lst (cutV xs lo hi)) (fun b ob q => Heap.get?_push_of_some _ q) (Nat.le_refl _) ?_, rfl, q _ (I.hok.fresh (Nat.le_refl _))⟩
  exact ⟨Nat.le_trans (cutV_length xs lo hi) hz, _, 0, (r.drop (HT.sIx xs.length 0 lo)).take (HT.sIx xs.length xs.length hi - HT.sIx xs.length 0 lo), Heap.get?_push_size _ rfl⟩
theorem call_len_seq : CallR X (.builtin "len") (fun xs H Q => ∃ p ys, xs = [.ref p] ∧ (SqL X.K H p ys ∨ SqT X.K H p ys) ∧ Q (.int ys.length) H) := by
  intro pins s σ H xs us Q I r h
  obtain ⟨p, ys, rfl, hq, q⟩ := h
  obtain ⟨u, rfl, rx⟩ := vals1 r
  cases rx
  have hn := line63
  rcases hq with hq | hq
  · obtain ⟨its, r', pl, hz⟩ := I.list hq
    have hlen := r'.length
    exact Calls.call_len_list pl.isList (by simp only [List.size_toArray] <;> omega) ⟨.int ys.length, H, I.tok _, ⟨s.toks + 1, by rw [List.size_toArray, hlen]⟩, q⟩
  · obtain ⟨its, r', pl, hz⟩ := I.tuple hq
    have hlen := r'.length
    exact len_tuple pl (by simp only [List.size_toArray] <;> omega) ⟨.int ys.length, H, I.tok _, ⟨s.toks + 1, by rw [List.size_toArray, hlen]⟩, q⟩
theorem CallR.or {f : Value} {r r' : List V → Hp → VK → Prop} (h : CallR X f r) (h' : CallR X f r') : CallR X f (fun xs H Q => r xs H Q ∨ r' xs H Q) := by
  intro pins s σ H xs us Q I rs q
  rcases q with q | q
  · exact h pins s σ H xs us Q I rs q
  · exact h' pins s σ H xs us Q I rs q
theorem call_list_of : CallR X (.type "list") (fun xs H Q => ∃ p ys, xs = [.ref p] ∧ (SqL X.K H p ys ∨ SqT X.K H p ys) ∧ ∀ l, H l = none → Q (.ref l) (upd H l (.lst ys))) := by
  intro pins s σ H xs us Q I r h
  obtain ⟨p, ys, rfl, hq, q⟩ := h
  obtain ⟨u, rfl, rx⟩ := vals1 r
  cases rx
  have fin : ∀ (its : List Value), Vals ys its → ys.length ≤ sizeLine → ∀ (h' : Heap) (c' : Nat), (∀ b o', s.heap.get? b = some o' → h'.get? b = some o') →
      h'.get? s.heap.objs.size = some { cls := .type "list", dict := none, data := .seq its.toArray c', slots := #[] } → EP X pins σ Q (.ref s.heap.objs.size) { s with heap := h' } := fun its r' hz h' c' kp e =>
    ⟨.ref s.heap.objs.size, _, I.laid (t' := s.toks) kp (Nat.le_refl _) (show ObjOk X.prog X.w _ h' _ (.lst ys) from ⟨hz, its, c', r', e⟩), rfl, q _ (I.hok.fresh (Nat.le_refl _))⟩
  rcases hq with hq | hq
  · obtain ⟨its, r', pl, hz⟩ := I.list hq
    have hlen := r'.length
    obtain ⟨o, ho, hc, n, hd⟩ := pl.isList
    exact call_list_seq p (.inl rfl) ho hc hd (fun h' c' kp e => fin its r' hz h' c' kp e) (by simp only [List.size_toArray] <;> omega)
  · obtain ⟨its, r', pl, hz⟩ := I.tuple hq
    have hlen := r'.length
    obtain ⟨o, ho, hc, n, hd⟩ := pl
    exact call_list_seq p (.inr rfl) ho hc hd (fun h' c' kp e => fin its r' hz h' c' kp e) (by simp only [List.size_toArray] <;> omega)
def tyV (K : PySem.W.Frag) (T : String) (x : V) (H : Hp) : Prop := match x with
  | .str _ => T = "str"
  | .int _ => T = "int"
  | .ref p => (T = "list" ∧ ∃ xs, SqL K H p xs) ∨ (T = "tuple" ∧ ∃ o, K.lookup p = some o ∧ o.cls = .type "tuple" ∧ o.dict = none) ∨
      (T = "dict" ∧ ((∃ kvs, H p = some (.dK kvs)) ∨ ∃ kvs ep, H p = some (.dE kvs ep))) ∨ (T = "set" ∧ ∃ S n, H p = some (.set S n))
  | _ => False
theorem tyV_is {pins : List (Addr × Obj)} {σ : St} {H : Hp} {s : Shared} {T : String} {x : V} {v : Value} (I : Inv X pins σ H s) (r : RelV x v) (ty : tyV X.K T x H) :
    s.TypeIs v T ∧ ∀ a, v = .ref a → ∃ ob, s.heap.get? a = some ob ∧ ob.dict = none := by
  cases x with
  | str z =>
    obtain ⟨t, rfl⟩ := r
    cases (show T = "str" from ty)
    exact ⟨typeIs_str s z t, fun _ e => nomatch e⟩
  | int i =>
    obtain ⟨t, rfl⟩ := r
    cases (show T = "int" from ty)
    exact ⟨typeIs_int s i t, fun _ e => nomatch e⟩
  | ref p =>
    cases r
    rcases ty with ⟨rfl, xs, hq⟩ | ⟨rfl, o, hk, hc, hd⟩ | ⟨rfl, hk⟩ | ⟨rfl, S, n, hk⟩
    · obtain ⟨its, _, pl, _⟩ := I.list hq
      refine ⟨pl.isList.typeIs, fun a e => ?_⟩
      cases e
      obtain ⟨o, n, e, c, hd, _⟩ := pl
      exact ⟨o, e, hd⟩
    · refine ⟨⟨o, I.kIn p o hk, hc⟩, fun a e => ?_⟩
      cases e
      exact ⟨o, I.kIn _ o hk, hd⟩
    · have z : ∃ o, s.heap.get? p = some o ∧ o.ExactDict := by
        rcases hk with ⟨kvs, hk⟩ | ⟨kvs, ep, hk⟩
        · obtain ⟨_, _, _, _, o, _, _, e, ex, _⟩ := I.hok p _ hk
          exact ⟨o, e, ex⟩
        · obtain ⟨_, _, _, _, o, _, e, ex, _⟩ := I.hok p _ hk
          exact ⟨o, e, ex⟩
      obtain ⟨o, e, ex⟩ := z
      refine ⟨⟨o, e, ex.1⟩, fun a e2 => ?_⟩
      cases e2
      exact ⟨o, e, ex.2.1⟩
    · obtain ⟨o, _, _, _, e, ex, _⟩ := I.hok p _ hk
      refine ⟨⟨o, e, ex.1⟩, fun a e2 => ?_⟩
      cases e2
      exact ⟨o, e, ex.2.1⟩
  | _ => exact False.elim ty
def tBM0 (K : PySem.W.Frag) (T : String) (r : V → List V → Hp → VK → Prop) (to : TE) : TE := fun σ H Q => to σ H fun x H1 => tyV K T x H1 ∧ r x [] H1 Q
def tBM (K : PySem.W.Frag) (T : String) (r : V → List V → Hp → VK → Prop) (to : TE) (t : TA) : TE := fun σ H Q => to σ H fun x H1 => tyV K T x H1 ∧ t σ H1 fun xs H2 => r x xs H2 Q
variable {o e : Expr} {es : List Expr} {to : TE} {t : TA} {name : Str} {apos cpos : Pos} {T id : String} {r : V → List V → Hp → VK → Prop}
theorem pe_bm0 (pa : PlainAttrs T) (slot : Slot T name id) (hty : typeOf (.builtin id) = pure (.type "method_descriptor")) (hm : MtR X id r) (ho : PE X o to)
    (hbase : attributeBase o name X.env (eval o X.env) = eval o X.env := by rfl) (hline : (apos.endLine == cpos.line) = true := by rfl) : PE X (.Call (.Attribute o name apos) [] [] cpos) (tBM0 X.K T r to) := by
  intro pins s σ H Q I h
  refine wpAny_Call_method0_late hbase hline (thn (ho pins s σ H _ I h) fun v s1 ⟨x, H1, I1, r1, ty, q1⟩ => ?_)
  obtain ⟨h1, h2⟩ := tyV_is I1 r1 ty
  exact ⟨T, id, pa, slot, hty, h1, h2, Calls.callWith_builtin rfl (PySem.evalArgs_none (hm pins s1 σ H1 x [] v [] Q I1 r1 .nil q1))⟩
theorem pe_bm (pa : PlainAttrs T) (slot : Slot T name id) (hty : typeOf (.builtin id) = pure (.type "method_descriptor")) (hm : MtR X id r) (ho : PE X o to) (ha : PA X (e :: es) t)
    (hbase : attributeBase o name X.env (eval o X.env) = eval o X.env := by rfl)
    (hfew : ((backTo cpos (starEach (e :: es) X.env)).all (fun x => !x.1) && (backToKw cpos (keywordEach [] X.env)).all (fun x => x.1.isSome)
      && decide ((e :: es).length + ([] : List Keyword).length + (if ([] : List Keyword).isEmpty then 0 else 1) < 30)) = true := by rfl)
    (hline : (apos.endLine == cpos.line) = true := by rfl) (hs : starEach (e :: es) X.env = (false, eval e X.env) :: starEach es X.env := by rfl) (hplain : (backTo cpos (starEach es X.env)).any (·.1) = false := by rfl) :
    PE X (.Call (.Attribute o name apos) (e :: es) [] cpos) (tBM X.K T r to t) := by
  intro pins s σ H Q I h
  refine wpAny_Call_method_late hbase hfew hline rfl (thn (ho pins s σ H _ I h) fun v s1 ⟨x, H1, I1, r1, ty, q1⟩ => ?_)
  obtain ⟨h1, h2⟩ := tyV_is I1 r1 ty
  refine ⟨T, id, pa, slot, hty, h1, h2, ?_⟩
  have hA := ha cpos pins s1 σ H1 _ I1 q1
  rw [hs] at hA ⊢
  refine Calls.callWith_builtin (by show (false || (backTo cpos (starEach es X.env)).any (·.1)) = false; rw [hplain] <;> rfl) (Calls.evalArgs_plain ?_)
  exact thn hA fun us s2 ⟨vs, H2, I2, r2, q2⟩ => hm pins s2 σ H2 x vs v us Q I2 r1 r2 q2
end
end L2
namespace L2
open PySem PySem.Spec PyProof.Rows
def MtM (X : Cx) (id : String) (r : V → List V → Hp → VK → Prop) : Prop :=
  ∀ (pins : List (Addr × Obj)) (s : Shared) (σ : St) (H : Hp) (x : V) (xs : List V) (v : Value) (us : List Value) (Q : VK), Inv X pins σ H s → RelV x v → Vals xs us → r x xs H Q →
    wpAny (model X.prog X.w) X.A (call (.builtin id) (v :: us)) (EP X pins σ Q) X.xe s
theorem Vals.one : ∀ {x : V} {us : List Value}, Vals [x] us → ∃ u, us = [u] ∧ RelV x u
  | _, _, .cons r .nil => ⟨_, rfl, r⟩
theorem Vals.two : ∀ {x y : V} {us : List Value}, Vals [x, y] us → ∃ u v, us = [u, v] ∧ RelV x u ∧ RelV y v
  | _, _, _, .cons r (.cons q .nil) => ⟨_, _, rfl, r, q⟩
theorem Vals.zero : ∀ {us : List Value}, Vals [] us → us = []
  | _, .nil => rfl
theorem Vals.dropLast {xs : List V} {us : List Value} (h : Vals xs us) : Vals xs.dropLast us.dropLast := by
  induction h with
  | nil => exact .nil
  | cons r t ih =>
    cases t with
    | nil => exact .nil
    | cons q t' => exact .cons r ih
theorem Vals.eraseIdx : ∀ {xs : List V} {us : List Value} (i : Nat), Vals xs us → Vals (xs.eraseIdx i) (us.eraseIdx i)
  | _, _, _, .nil => .nil
  | _, _, 0, .cons _ t => t
  | _, _, i + 1, .cons r t => .cons r (Vals.eraseIdx i t)
theorem Vals.reverse {xs : List V} {us : List Value} (h : Vals xs us) : Vals xs.reverse us.reverse := by
  induction h with
  | nil => exact .nil
  | cons r t ih => rw [List.reverse_cons, List.reverse_cons]; exact Vals.append ih (.cons r .nil)
theorem Vals.rep {xs : List V} {us : List Value} (h : Vals xs us) : ∀ k : Nat, Vals (List.replicate k xs).flatten (List.replicate k us).flatten
  | 0 => .nil
  | k + 1 => by
    rw [List.replicate_succ, List.replicate_succ, List.flatten_cons, List.flatten_cons]
    exact Vals.append h (Vals.rep h k)
theorem erase_last {α : Type} (l : List α) : l.eraseIdx (l.length - 1) = l.dropLast := by
  induction l with
  | nil => rfl
  | cons a r ih =>
    cases r with
    | nil => rfl
    | cons b r =>
      have e : (a :: b :: r).length - 1 = ((b :: r).length - 1) + 1 := by
        have h1 : (a :: b :: r).length = r.length + 2 := rfl
        have h2 : (b :: r).length = r.length + 1 := rfl
        omega
      rw [e, List.eraseIdx_cons_succ, ih]
      all_goals rfl
section
variable {X : Cx} {pins : List (Addr × Obj)} {σ : St} {H : Hp} {s : Shared} {l b : Addr} {xs ys zs : List V}
theorem Inv.lset {its its' : List Value} {n : Nat} {f : Array Value → Array Value} {t' : Nat} (I : Inv X pins σ H s) (hH : H l = some (.lst xs))
    (e : s.heap.get? l = some { cls := .type "list", data := .seq its.toArray n }) (hf : f its.toArray = its'.toArray) (hv : Vals ys its') (hz : ys.length ≤ sizeLine) :
    Inv X pins σ (upd H l (.lst ys)) { s with heap := s.heap.update l (Obj.mapSeq f), toks := t' } := by
  have q := PySem.IsL.update e f
  rw [hf] at q
  refine I.write (x := l) (e := l) (by rw [hH]; exact trivial) (.inl rfl) (fun b' u hb hu => (Heap.get?_update_other s.heap (Obj.mapSeq f) (Ne.symm hb)).trans hu) ⟨_, q⟩ ?_
  exact ⟨hz, its', _, hv, q⟩
theorem Inv.lnew {its : List Value} {t' : Nat} (I : Inv X pins σ H s) (hv : Vals ys its) (hz : ys.length ≤ sizeLine) :
    Inv X pins σ (upd H s.heap.objs.size (.lst ys)) { s with heap := s.heap.push { cls := .type "list", data := .seq its.toArray }, toks := t' } :=
  I.laid (fun _ _ q => Heap.get?_push_of_some _ q) (Nat.le_refl _) ⟨hz, its, 0, hv, Heap.get?_push_size _ rfl⟩
theorem Inv.fresh (I : Inv X pins σ H s) : H s.heap.objs.size = none := I.hok.fresh (Nat.le_refl _)
theorem Inv.lstM (I : Inv X pins σ H s) (hH : H l = some (.lst xs)) : xs.length ≤ sizeLine ∧ ∃ (its : List Value) (n : Nat), Vals xs its ∧ xs.length = its.length ∧ s.heap.get? l = some { cls := .type "list", data := .seq its.toArray n } := by
  obtain ⟨z, its, n, r, e⟩ := I.hok l _ hH
  exact ⟨z, its, n, r, r.length, e⟩
end
section
variable {X : Cx}
def rAppend : V → List V → Hp → VK → Prop := fun x vs H Q => ∃ l xs y, x = .ref l ∧ vs = [y] ∧ H l = some (.lst xs) ∧ xs.length < sizeLine ∧ Q .non (upd H l (.lst (xs ++ [y])))
theorem mt_append : MtM X "list.append" rAppend := by
  intro pins s σ H x vs v us Q I rx rv h
  obtain ⟨l, xs, y, rfl, rfl, hH, hz, q⟩ := h
  cases rx
  obtain ⟨u, rfl, ru⟩ := rv.one
  obtain ⟨z, its, n, r, hl, e⟩ := I.lstM hH
  refine call_meets F.slot_list_append ⟨_, e, rfl⟩ F.entry_list_append (F.args_list_append_2 _ _) (PySem.list_append l its.toArray n u (by rw [List.size_toArray]; omega)) ⟨e, ?_⟩
  refine ⟨.non, _, I.lset (its' := its ++ [u]) hH e (by simp) (r.append (.cons ru .nil)) ?_, rfl, q⟩
  rw [List.length_append, List.length_singleton]
  omega
def rPop : V → List V → Hp → VK → Prop := fun x vs H Q => ∃ l xs y, x = .ref l ∧ vs = [] ∧ H l = some (.lst xs) ∧ xs[xs.length - 1]? = some y ∧ Q y (upd H l (.lst xs.dropLast))
theorem mt_pop : MtM X "list.pop" rPop := by
  intro pins s σ H x vs v us Q I rx rv h
  obtain ⟨l, xs, y, rfl, rfl, hH, hy, q⟩ := h
  cases rx
  have hus := rv.zero
  subst hus
  obtain ⟨z, its, n, r, hl, e⟩ := I.lstM hH
  obtain ⟨u, hu, ru⟩ := r.get hy
  have hy' : its.toArray[its.toArray.size - 1]? = some u := by
    show its.toArray[its.length - 1]? = some u
    rw [← Array.getElem?_toList, ← hl]
    exact hu
  refine call_meets F.slot_list_pop ⟨_, e, rfl⟩ F.entry_list_pop (F.args_list_pop_1 _) (MeetsSeq.list_pop_last l its.toArray n u hy' (by rw [List.size_toArray]; omega)) ⟨e, ?_⟩
  refine ⟨y, _, I.lset (its' := its.dropLast) hH e ?_ r.dropLast ?_, ru, q⟩
  · show its.toArray.eraseIdxIfInBounds (its.toArray.size - 1) = its.dropLast.toArray
    rw [List.size_toArray, List.eraseIdxIfInBounds_toArray, erase_last]
  · rw [List.length_dropLast]
    omega
end
section
variable {prog : Program} {w : World} {A : Around} {E : Value → Shared → Prop} {s : Shared}
end
section
variable {X : Cx}
end
end L2
namespace Att
open PySem PySem.W PySem.Calls PyProof.Rows
theorem ints_of_wellAll {P : Params} {h : Heap} : ∀ (ns : List Int) (vs : List Value), WellAll P h vs (ns.map WData.int) → IntsAre vs ns := by
  intro ns
  induction ns with
  | nil =>
    intro vs w
    rw [List.map_nil] at w
    cases w
    exact .nil
  | cons n ns ih =>
    intro vs w
    rw [List.map_cons] at w
    cases w with
    | cons a b =>
      cases a
      exact .cons _ _ (ih _ b)
theorem script_of {l : OpenLaw} {n : Nat} (hn : l.most = some n) {P : Params} {h : Heap} {args : List WData} {vals : List Value}
    (hpre : l.row.toRowW.claim.pre args = true) (hwl : WellAll P h vals args) :
    ∃ a vs ns, vals = [Value.ref a] ∧ args = [WData.list (ns.map WData.int)] ∧ h.get? a = some { cls := .type "list", data := .seq vs.toArray } ∧ IntsAre vs ns ∧ ns.length ≤ n := by
  have hsh : WShape.hasAll [] args [.list .int] = true := (pre_splitW hpre).1
  have hc : l.pre.holds [] { args := args } = true := (pre_splitW hpre).2
  obtain ⟨d, r, rfl, h1, h2⟩ := hasAllW_cons hsh
  obtain rfl := hasAllW_nil h2
  obtain ⟨xs, rfl, h3⟩ := hasW_list h1
  obtain ⟨ns, rfl⟩ := items_int h3
  have hlen : ns.length ≤ n := by
    unfold OpenLaw.pre at hc
    have h4 : (WTm.not (.lt (.lit (.int (n : Int))) (.len (.arg 0)))).holds [] { args := [.list (ns.map .int)] } = true := by
      have h4 := (holds_andW hc).1
      rw [hn] at h4
      exact h4
    have h5 := condW_of h4 (w_not (w_lt w_lit (w_len_list (w_arg rfl))))
    rw [List.length_map] at h5
    refine Nat.le_of_not_lt fun q => ?_
    have q' : (n : Int) < ((ns.length : Nat) : Int) := by omega
    first
      | (rw [decide_eq_true q'] at h5; exact absurd h5 (by decide))
      | (simp at h5; omega)
  cases hwl with
  | cons w1 w2 =>
    cases w2
    cases w1 with
    | list ho hall => exact ⟨_, _, ns, rfl, rfl, ho, ints_of_wellAll ns _ hall, hlen⟩
theorem post_true (l : OpenLaw) (args : List WData) : l.row.toRowW.claim.post args (.bool true) args = true :=
  postW_of (r := l.row.toRowW) (X := (true == true))
    (show WShape.has [] (.bool true) .bool = true by first | rfl | decide | simp [WShape.has, WShape.arms, WShape.armsAll])
    (show (WTm.eq .res (.lit (.bool true))).value [] { args := args, res := some (.bool true), after := args } = some (.bool (true == true)) from w_eq_bool (w_res rfl) w_lit) rfl
theorem attach_call {l : OpenLaw} {n : Nat} {q : Program} {loose : List Str} {XP : (Str → Option Value) → Heap → Prop} {YP : World → Heap → Prop} {d : DefRec}
    (hn : l.most = some n) (hdf : d.params.defaults = [])
    (call : ∀ (w : World) (s₀ s₁ : Shared) (mg mb : Str → Option Value) (fa : Addr) (o : Obj) (pm cd doc : Value) (a : Addr) (vs : List Value) (ns : List Int),
      Ground q loose [] XP w s₀ mg mb s₁.heap → YP w s₁.heap →
      s₁.heap.get? fa = some o → o.data = .func (docDef d.name d.params d.body d.scope pm cd doc) → s₁.heap.CodeRec cd d.name → mg d.name = some (.ref fa) →
      s₁.heap.get? a = some { cls := .type "list", data := .seq vs.toArray } → IntsAre vs ns → ns.length ≤ n → s₁.gens = #[] →
      codeAny (model l.prog w) callerA (.call (.ref fa) ⟨[.ref a], []⟩) (fun r s' => r = .ok (.ret (.bool true)) ∧ OldK s₁.heap s'.heap ∧ s'.os = s₁.os ∧ AllBare s'.gens) s₁) :
    WalkO q loose XP YP l.row.toRowW d [] (fun f vs => PySem.call f vs) := by
  intro w s₀ s₁ mg mb G Y fa o pm cd doc dV kV ho hd hcd hD hmg hg args vals as hpre hlay hrd hwl hlo
  obtain rfl : dV = .none := Dflts.none hD hdf
  obtain rfl : kV = .none := Dflts.noKw hD
  obtain ⟨a, vs, ns, rfl, rfl, hobj, hints, hlen⟩ := script_of hn hpre hwl
  refine enter_call (codeAny_mono (call w s₀ s₁ mg mb fa o pm cd doc a vs ns G Y ho (fd_plain hd) hcd hmg hobj hints hlen hg) fun r s' hq => ?_)
  obtain ⟨rfl, h2, h3, h4⟩ := hq
  exact ⟨.inl ⟨.bool true, .bool true, [], rfl, fun _ => rfl, .bool true, post_true l _, fun _ => ⟨List.Pairwise.nil, fun _ hm => (nomatch hm)⟩⟩, h2, h3, h4⟩
section
variable {prog : Program} {w : World} {A : Around} {E : Value → Shared → Prop} {s : Shared} {K : Frag}
end
end Att
namespace L2
open PySem PySem.Spec PyProof.Rows
theorem vals_ints : ∀ {vs : List Value} {ns : List Int}, IntsAre vs ns → Vals (ns.map V.int) vs
  | _, _, .nil => .nil
  | _, _, .cons n t h => .cons ⟨t, rfl⟩ (vals_ints h)
def Only (H : Hp) : Prop := ∀ b, H b = none ∨ ∃ o xs, H b = some (.frz o (.lst xs))
theorem law_call {P : Program} {w : World} {K : PySem.W.Frag} {mg mb : Str → Option Value} {CX : CXT} {k : Nat} {fa a : Addr} {fd : FuncData} {x : Str} {sp : Sp} {s₁ : Shared} {vs : List Value} {ns : List Int}
    (KX : K.In s₁.heap) (hns : s₁.heap.Ns mainGlobals mg) (hb : s₁.heap.Ns builtinsNs mb) (hbb : ∀ x : Str, x ≠ "__name__" → mb x = bootBuiltins x) (hlim : s₁.heap.NoLimit) (hg : s₁.gens = #[])
    (ha : s₁.heap.get? a = some { cls := .type "list", data := .seq vs.toArray }) (hi : IntsAre vs ns) (hl : ns.length ≤ sizeLine) (hr : Room k callerA)
    (F : ∀ base : Heap, K.In base → base.Ns mainGlobals mg → FnOk P w K mg base CX k fa fd [x] sp) (hbind : ∀ (s : Shared) (u : Value), BindsTo s fd ⟨[u], []⟩ [(x, u)])
    (hsp : ∀ H : Hp, Only H → SqL K H a (ns.map V.int) → sp [.ref a] H (fun v _ => v = .bl true) fun _ _ _ => False)
    (hCX : ∀ H e s', CX [] H s₁ (fun _ _ _ => False) e s' → False) :
    codeAny (model P w) callerA (.call (.ref fa) ⟨[.ref a], []⟩) (fun r s' => r = .ok (.ret (.bool true)) ∧ OldK s₁.heap s'.heap ∧ s'.os = s₁.os ∧ AllBare s'.gens) s₁ := by
  have rv := vals_ints hi
  have lenV := hi.length
  have core : ∀ H : Hp, Only H → SqL K H a (ns.map V.int) → HOk P w H s₁.heap → (∀ b, H b ≠ none → b = a) → (H a ≠ none → K.lookup a = none) →
      codeAny (model P w) callerA (.call (.ref fa) ⟨[.ref a], []⟩) (fun r s' => r = .ok (.ret (.bool true)) ∧ OldK s₁.heap s'.heap ∧ s'.os = s₁.os ∧ AllBare s'.gens) s₁ := by
    intro H hO hS hok hA hK
    have base_of : ∀ {b : Addr} {o : Obj}, s₁.heap.get? b = some o → H b = none → (hidT s₁.heap H).get? b = some o := fun e n => hidT_get e n
    have noA : ∀ {b : Addr} {o : Obj} {es : Array DictEntry} {ep : Nat}, s₁.heap.get? b = some o → o.data = .dict es ep → H b = none := fun {b o es ep} e d => by
      cases q : H b with
      | none => rfl
      | some u =>
        have e' : b = a := hA b (by rw [q]; simp)
        subst e'
        rw [ha] at e; cases e
        have d' : Data.seq vs.toArray _ = Data.dict es ep := d
        cases d'
    have nsK : ∀ {b : Addr} {m : Str → Option Value}, s₁.heap.Ns b m → (hidT s₁.heap H).Ns b m := fun {b m} ⟨o, es, ep, e, d, r⟩ => ⟨o, es, ep, base_of e (noA e d), d, r⟩
    have hKb : K.In (hidT s₁.heap H) := fun b o e => base_of (KX b o e) (by
      cases q : H b with
      | none => rfl
      | some u =>
        have e' : b = a := hA b (by rw [q]; simp)
        subst e'
        rw [hK (by rw [q]; simp)] at e; cases e)
    have hM : Mod K mg (hidT s₁.heap H) := ⟨hKb, nsK hns, ⟨mb, nsK hb, hbb⟩, let ⟨mc, h1, h2⟩ := hlim; ⟨mc, nsK h1, h2⟩⟩
    have e0 : Env0 P w K mg (hidT s₁.heap H) callerA [] s₁ H := ⟨rfl, hM, fun b o e => of_hidT e, Nat.le_of_eq (hidT_size _ _), trivial, fun b hb => absurd (show b ∈ ([] : List Addr) from hb) (by simp), hok, .of_eq hg⟩
    refine codeAny_mono ((F _ hKb (nsK hns)).run callerA [] s₁ H ⟨[.ref a], []⟩ [.ref a] [.ref a] _ _ hr e0 (hbind s₁ (.ref a)) (.cons rfl .nil) (hsp H hO hS)) fun r s' h => ?_
    cases r with
    | error e => exact (hCX H e s' h).elim
    | ok fl =>
      cases fl with
      | next => exact False.elim h
      | brk => exact False.elim h
      | cont => exact False.elim h
      | ret u =>
        obtain ⟨v, H', os, bare, un, hok', r', q⟩ := h
        have q' : v = .bl true := q
        subst q'
        obtain rfl : u = Value.bool true := r'
        refine ⟨rfl, OldK.of_keep fun b o e => ?_, os, bare⟩
        cases q : H b with
        | none => exact un.keep b o e q (by intro z; exact absurd (show b ∈ ([] : List Addr) from z) (by simp)) (by simp)
        | some u =>
          rcases hO b with z | ⟨ob, xs, z⟩
          · rw [q] at z; cases z
          · have z2 := un.frzs b ob _ z
            obtain ⟨e1, _⟩ := hok b _ z
            obtain ⟨e2, _⟩ := hok' b _ z2
            rw [e] at e1; cases e1
            exact e2
  cases hk : K.lookup a with
  | some o =>
    have e := KX a o hk
    rw [ha] at e
    cases e
    refine core (fun _ => none) (fun _ => .inl rfl) (.inr ⟨_, vs.toArray, _, hk, rfl, rfl, rfl, by rw [List.size_toArray, lenV]; exact hl, by simpa using rv⟩) (fun b u z => by have z' : (none : Option HO) = some u := z; cases z') (fun b z => absurd rfl z) fun z => absurd rfl z
  | none =>
    refine core (fun b => if b = a then some (.frz { cls := .type "list", data := .seq vs.toArray } (.lst (ns.map V.int))) else none) (fun b => ?_) (.inl (.inr ⟨{ cls := .type "list", data := .seq vs.toArray }, if_pos rfl⟩)) (fun b u z => ?_) (fun b z => ?_) fun _ => hk
    · by_cases hb : b = a
      · exact .inr ⟨_, _, if_pos hb⟩
      · exact .inl (if_neg hb)
    · by_cases hb : b = a
      · have z' := (if_pos hb).symm.trans z
        cases z'
        subst hb
        exact ⟨ha, by rw [List.length_map]; exact hl, vs, _, rv, ha⟩
      · have z' := (if_neg hb).symm.trans z
        cases z'
    · by_cases hb : b = a
      · exact hb
      · exact absurd (if_neg hb) z
end L2
namespace L2
open PySem PySem.Spec PyProof.Rows
abbrev KOf {K : PySem.W.Frag} {h : Heap} (_ : K.In h) : PySem.W.Frag := K
theorem walk_of {l : PySem.W.OpenLaw} {n k : Nat} {q : Program} {loose : List Str} {XP : (Str → Option Value) → Heap → Prop} {YP : World → Heap → Prop} {d : DefRec} {K : Params → PySem.W.Frag} {CX : World → CXT} {sp : World → Sp} {x : Str}
    (hn : l.most = some n) (hn2 : n ≤ sizeLine) (hdf : d.params.defaults = []) (hr : Room k callerA)
    (hY : ∀ (w : World) (h : Heap), YP w h → (K w.params).In h)
    (F : ∀ (w : World) (mg : Str → Option Value) (fa : Addr) (h : Heap), (K w.params).In h → h.Ns mainGlobals mg → mg d.name = some (.ref fa) →
      ∃ fd : FuncData, (∀ (s : Shared) (u : Value), BindsTo s fd ⟨[u], []⟩ [(x, u)]) ∧
        ∀ base : Heap, (K w.params).In base → base.Ns mainGlobals mg → FnOk l.prog w (K w.params) mg base (CX w) k fa fd [x] (sp w))
    (hsp : ∀ (w : World) (H : Hp) (a : Addr) (ns : List Int), ns.length ≤ n → Only H → SqL (K w.params) H a (ns.map V.int) → sp w [.ref a] H (fun v _ => v = .bl true) fun _ _ _ => False)
    (hCX : ∀ (w : World) (H : Hp) (s : Shared) (e : Value) (s' : Shared), CX w [] H s (fun _ _ _ => False) e s' → False) :
    PySem.W.WalkO q loose XP YP l.row.toRowW d [] (fun f vs => PySem.call f vs) := by
  refine Att.attach_call hn hdf fun w s₀ s₁ mg mb fa o pm cd doc a vs ns G Y ho hd hcd hmg hobj hints hlen hg => ?_
  have KX := hY w _ Y
  obtain ⟨fd, hb, hF⟩ := F w mg fa _ KX G.T.g hmg
  exact law_call KX G.T.g G.T.b G.T.builtins G.T.nolimit hg hobj hints (Nat.le_trans hlen hn2) hr hF hb (fun H hO hS => hsp w H a ns hlen hO hS) fun H e s' => hCX w H s₁ e s'
theorem walk_ofK {l : PySem.W.OpenLaw} {n k : Nat} {q : Program} {loose : List Str} {XP : (Str → Option Value) → Heap → Prop} {YP : World → Heap → Prop} {d : DefRec} {K : Params → PySem.W.Frag} {CX : CXT} {sp : PySem.W.Frag → Sp} {x : Str}
    (hn : l.most = some n) (hn2 : n ≤ sizeLine) (hdf : d.params.defaults = []) (hr : Room k callerA)
    (hY : ∀ (w : World) (h : Heap), YP w h → (K w.params).In h)
    (F : ∀ (w : World) (mg : Str → Option Value) (fa : Addr) (h : Heap), (K w.params).In h → h.Ns mainGlobals mg → mg d.name = some (.ref fa) →
      ∃ fd : FuncData, (∀ (s : Shared) (u : Value), BindsTo s fd ⟨[u], []⟩ [(x, u)]) ∧
        ∀ base : Heap, (K w.params).In base → base.Ns mainGlobals mg → FnOk l.prog w (K w.params) mg base CX k fa fd [x] (sp (K w.params)))
    (hsp : ∀ (K : PySem.W.Frag) (H : Hp) (a : Addr) (ns : List Int), ns.length ≤ n → Only H → SqL K H a (ns.map V.int) → sp K [.ref a] H (fun v _ => v = .bl true) fun _ _ _ => False)
    (hCX : ∀ (H : Hp) (s : Shared) (e : Value) (s' : Shared), CX [] H s (fun _ _ _ => False) e s' → False) :
    PySem.W.WalkO q loose XP YP l.row.toRowW d [] (fun f vs => PySem.call f vs) :=
  walk_of (K := K) (CX := fun _ => CX) (sp := fun w => sp (K w.params)) hn hn2 hdf hr hY F (fun w H a ns h1 h2 h3 => hsp (K w.params) H a ns h1 h2 h3) fun _ H s e s' => hCX H s e s'
end L2
namespace L2
open PySem PySem.Spec PyProof.Rows
def inClass (s : Stmt) (j : Nat) : Stmt := match s with
  | .ClassDef _ _ _ body _ _ _ _ _ _ _ => body.getD j (.Pass ⟨0, 0, 0, 0⟩)
  | _ => .Pass ⟨0, 0, 0, 0⟩
def defArgs (s : Stmt) : Arguments := match s with
  | .FunctionDef _ a _ _ _ _ _ _ _ _ => a
  | _ => { posonlyargs := [], args := [], vararg := none, kwonlyargs := [], kw_defaults := [], kwarg := none, defaults := [] }
def defBody (s : Stmt) : List Stmt := match s with
  | .FunctionDef _ _ b _ _ _ _ _ _ _ => b
  | _ => []
def defScope (s : Stmt) : Scope := match s with
  | .FunctionDef _ _ _ _ _ _ sc _ _ _ => sc
  | _ => { kind := .function, names := [], isGenerator := false, isCoroutine := false }
abbrev CX0 : CXT := fun _ _ _ _ _ _ => False
abbrev E0 : XK := fun _ _ _ => False
theorem pass0 {X : Cx} : Passes CX0 X E0 := fun _ _ _ _ _ _ _ h => h.elim
structure Fun (K : PySem.W.Frag) (x qual : Str) (st : Stmt) (f : Addr) (fd : FuncData) : Prop where
  ex : ∃ (oc : Value) (od : Option Addr) (kV doc pm : Value) (an : Option Addr) (cdv ct : Value) (osl : Array (Option Value)),
    fd = PySem.W.fnOf x qual (defArgs st) (defBody st) (defScope st) .none kV doc pm an cdv ct ∧ K.lookup f = some ⟨oc, od, .func fd, osl⟩ ∧ PySem.W.codeIn K cdv qual = true
  kp : PySem.W.keepIn K (.ref f) = true
section
variable {P : Program} {w : World} {K : PySem.W.Frag} {mg : Str → Option Value} {base : Heap}
theorem Fun.ok {x qual : Str} {st : Stmt} {f : Addr} {fd : FuncData} {N ps : List Str} {k : Nat} {sp : Sp} (F : Fun K x qual st f fd) (S : FnScope N ps (defScope st)) (len : ∀ vs H Q E, sp vs H Q E → vs.length = ps.length)
    (hbody : ∀ (cdv : Value) (A : Around) (outer : List Env) (s : Shared) (H : Hp) (vs : List V) (Q : VK) (E : XK), Room k (A.deeper (envOfC qual (defScope st) s.heap.objs.size f cdv)) → sp vs H Q E →
      ∃ t, PSs (cxOf CX0 P w K mg base N qual (defScope st) f cdv A outer s H E).nox (defBody st) t ∧ t { nx := fun _ H' => Q .non H', rt := Q } (start N vs) H) : FnOk P w K mg base CX0 (k + 1) f fd ps sp := by
  obtain ⟨oc, od, kV, doc, pm, an, cdv, ct, osl, rfl, lk, hcd⟩ := F.ex
  refine fn_of lk hcd S len fun A outer s H vs Q E hr hsp => ?_
  obtain ⟨t, h, q⟩ := hbody cdv A outer s H vs Q E hr hsp
  exact ⟨t, h.nox, q⟩
theorem Fun.binds {x qual : Str} {st : Stmt} {f : Addr} {fd : FuncData} {ps : List Str} (F : Fun K x qual st f fd)
    (h : ∀ (kV doc pm : Value) (an : Option Addr) (cdv ct : Value) (us : List Value), us.length = ps.length → bindArgs (PySem.W.fnOf x qual (defArgs st) (defBody st) (defScope st) .none kV doc pm an cdv ct) ⟨us, []⟩ = pure (ps.zip us)) : Binds K fd ps [] := by
  obtain ⟨oc, od, kV, doc, pm, an, cdv, ct, osl, rfl, lk, hcd⟩ := F.ex
  exact .all (h kV doc pm an cdv ct)
theorem fun_mk {x qual : Str} {st : Stmt} {f : Addr} {oc : Value} {od an : Option Addr} {osl : Array (Option Value)} {kV doc pm cdv ct : Value} (l : K.lookup f = some ⟨oc, od, .func (PySem.W.fnOf x qual (defArgs st) (defBody st) (defScope st) .none kV doc pm an cdv ct), osl⟩)
    (c : PySem.W.codeIn K cdv qual = true) (k : PySem.W.keepIn K (.ref f) = true) : Fun K x qual st f (PySem.W.fnOf x qual (defArgs st) (defBody st) (defScope st) .none kV doc pm an cdv ct) := ⟨⟨oc, od, kV, doc, pm, an, cdv, ct, osl, rfl, l, c⟩, k⟩
end
theorem small1000 {n : Nat} (h : n ≤ 1000) : n < sizeLine := Nat.lt_of_le_of_lt h (by decide)
section
variable {X : Cx}
theorem pv (i : Nat) {x : Str} {pos : Pos} (hN : X.N[i]? = some x := by rfl) (hv : Vis X.env.scope x := by first | exact Or.inl rfl | exact Or.inr (Or.inl rfl) | exact Or.inr (Or.inr rfl)) (hd : (x == ("__debug__" : Str)) = false := by decide)
    (hcd : (x == ("__classdict__" : Str)) = false := by decide) : PE X (.Name x pos) (tVar i) := pe_var hN hv hd hcd
end
theorem ite2 {c A B : Prop} [Decidable c] (h1 : c → A) (h2 : ¬ c → B) : if c then A else B := by
  by_cases h : c
  · rw [if_pos h]
    exact h1 h
  · rw [if_neg h]
    exact h2 h
def Same (H H' : Hp) : Prop := ∀ b o, H b = some o → H' b = some o
theorem Same.refl (H : Hp) : Same H H := fun _ _ h => h
theorem Same.trans {H H1 H2 : Hp} (a : Same H H1) (b : Same H1 H2) : Same H H2 := fun c o h => b c o (a c o h)
theorem Same.free {H H' : Hp} (e : Same H H') {l : Addr} (h : H' l = Option.none) : H l = Option.none := by
  cases q : H l with
  | none => rfl
  | some o =>
    rw [e l o q] at h
    cases h
theorem Same.seq {K : PySem.W.Frag} {H H' : Hp} {a : Addr} {xs : List V} (e : Same H H') (h : SqL K H a xs) : SqL K H' a xs := by
  rcases h with (h | ⟨o, h⟩) | h
  · exact .inl (.inl (e _ _ h))
  · exact .inl (.inr ⟨o, e _ _ h⟩)
  · exact .inr h
end L2
set_option Elab.async false
set_option linter.all false
namespace Ov
theorem gcd_step {a b : Int} (h : b ≠ 0) : Int.gcd b (a % b) = Int.gcd a b := by
  have e : a = b * (a / b) + a % b := (Int.mul_ediv_add_emod a b).symm
  have d1 : ((Int.gcd b (a % b) : Nat) : Int) ∣ a := by
    rw [e]
    exact Int.dvd_add (Int.dvd_trans (Int.gcd_dvd_left ..) (Int.dvd_mul_right ..)) (by rw [← e]; exact Int.gcd_dvd_right ..)
  have d2 : ((Int.gcd a b : Nat) : Int) ∣ a % b := by
    have e2 : a % b = a - b * (a / b) := by omega
    rw [e2]
    exact Int.dvd_sub (Int.gcd_dvd_left ..) (Int.dvd_trans (Int.gcd_dvd_right ..) (Int.dvd_mul_right ..))
  exact Nat.dvd_antisymm (Int.dvd_gcd d1 (Int.gcd_dvd_left ..)) (Int.dvd_gcd (Int.gcd_dvd_right ..) d2)
theorem gcd_end {a : Int} (h : 0 ≤ a) : ((Int.gcd a 0 : Nat) : Int) = a := by
  rw [Int.gcd_zero_right]; omega
theorem gcd_abs (a b : Int) : Int.gcd (if a < 0 then -a else a) (if b < 0 then -b else b) = Int.gcd a b := by
  split <;> split <;> simp [Int.gcd_neg, Int.neg_gcd]
theorem gcd_abs1 (a b : Int) : Int.gcd (if a < 0 then -a else a) b = Int.gcd a b := by
  split <;> simp [Int.gcd_neg, Int.neg_gcd]
theorem gcd_pos {t b : Int} (h : b ≠ 0) : 0 < ((Int.gcd t b : Nat) : Int) := by
  have : 0 < Int.gcd t b := Int.gcd_pos_of_ne_zero_right t h
  omega
theorem gcd_le {t b : Int} (h : b ≠ 0) : Int.gcd t b ≤ b.natAbs := Nat.le_of_dvd (by omega) (Int.ofNat_dvd.mp (by rw [Int.dvd_natAbs]; exact Int.gcd_dvd_right ..))
theorem num_pos {t b : Int} (h : 0 < b) : t.fdiv ((Int.gcd t b : Nat) : Int) = (Rat.divInt t b).num := by
  rw [Rat.num_divInt, Int.sign_eq_one_of_pos h, Int.one_mul, Int.gcd_comm b t, Int.fdiv_eq_ediv_of_nonneg _ (Int.natCast_nonneg _)]
theorem den_pos {t b : Int} (h : 0 < b) : b.fdiv ((Int.gcd t b : Nat) : Int) = ((Rat.divInt t b).den : Int) := by
  rw [Rat.den_divInt, if_neg (by omega), Int.gcd_comm b t, Int.fdiv_eq_ediv_of_nonneg _ (Int.natCast_nonneg _)]
  rw [Int.natCast_ediv]
  congr 1
  omega
theorem num_neg {t b : Int} (h : b < 0) : t.fdiv (-((Int.gcd t b : Nat) : Int)) = (Rat.divInt t b).num := by
  have e : t.fdiv (-((Int.gcd t b : Nat) : Int)) = (-t).fdiv ((Int.gcd t b : Nat) : Int) := by
    have := Int.neg_fdiv_neg (a := -t) (b := ((Int.gcd t b : Nat) : Int))
    rw [← this]; simp
  rw [e, Rat.num_divInt, Int.sign_eq_neg_one_of_neg h, Int.gcd_comm b t, Int.fdiv_eq_ediv_of_nonneg _ (Int.natCast_nonneg _)]
  congr 1
  omega
theorem den_neg {t b : Int} (h : b < 0) : b.fdiv (-((Int.gcd t b : Nat) : Int)) = ((Rat.divInt t b).den : Int) := by
  have e : b.fdiv (-((Int.gcd t b : Nat) : Int)) = (-b).fdiv ((Int.gcd t b : Nat) : Int) := by
    have := Int.neg_fdiv_neg (a := -b) (b := ((Int.gcd t b : Nat) : Int))
    rw [← this]; simp
  rw [e, Rat.den_divInt, if_neg (by omega), Int.gcd_comm b t, Int.fdiv_eq_ediv_of_nonneg _ (Int.natCast_nonneg _)]
  rw [Int.natCast_ediv]
  congr 1
  omega
theorem num_abs (t b : Int) : (Rat.divInt t b).num.natAbs ≤ t.natAbs := by
  rcases Int.lt_trichotomy b 0 with h | h | h
  · rw [← num_neg h]
    exact Int.natAbs_fdiv_le_natAbs ..
  · subst h; simp
  · rw [← num_pos h, Int.fdiv_eq_ediv_of_nonneg _ (Int.natCast_nonneg _)]
    exact Int.natAbs_ediv_le_natAbs ..
theorem den_abs {t b : Int} (h : b ≠ 0) : (((Rat.divInt t b).den : Int)).natAbs ≤ b.natAbs := by
  rw [Rat.den_divInt, if_neg h]
  exact Nat.div_le_self ..
theorem self_eq (p : Rat) : Rat.divInt p.num p.den = p := Rat.num_divInt_den p
theorem den_ne (p : Rat) : (p.den : Int) ≠ 0 := by have := p.den_pos; omega
theorem den_gt (p : Rat) : (0 : Int) < p.den := by have := p.den_pos; omega
theorem add_eq (p q : Rat) : Rat.divInt (p.num * q.den + q.num * p.den) (p.den * q.den) = p + q := by
  rw [← Rat.divInt_add_divInt _ _ (den_ne p) (den_ne q), self_eq, self_eq]
theorem sub_eq (p q : Rat) : Rat.divInt (p.num * q.den - q.num * p.den) (p.den * q.den) = p - q := by
  rw [← Rat.divInt_sub_divInt _ _ (den_ne p) (den_ne q), self_eq, self_eq]
theorem mul_eq (p : Rat) (m : Int) : Rat.divInt (p.num * m) p.den = p * m := by
  have := Rat.divInt_mul_divInt p.num m (d₁ := p.den) (d₂ := 1)
  rw [self_eq, Int.mul_one] at this
  rw [← this, Rat.divInt_eq_div]
  congr 1
  grind
theorem cast_eq (p : Rat) : (p.num : Rat) = p * (p.den : Int) := by
  have h : ((p.den : Int) : Rat) ≠ 0 := by
    intro e
    exact den_ne p (by exact_mod_cast e)
  have e := self_eq p
  rw [Rat.divInt_eq_div] at e
  grind
theorem den_cast (p : Rat) : ((p.den : Int) : Rat) ≠ 0 := fun e => den_ne p (by exact_mod_cast e)
theorem at_eq (b p m : Rat) (v : Int) : Rat.divInt (p.num * (m.den * b.den) + v * (m.num * b.den - b.num * m.den) * p.den) (p.den * (m.den * b.den)) = p + (m - b) * v := by
  have h := den_cast p
  have g := den_cast b
  have k := den_cast m
  simp only [Rat.divInt_eq_div, Rat.intCast_add, Rat.intCast_sub, Rat.intCast_mul, cast_eq p, cast_eq b, cast_eq m]
  generalize ((p.den : Int) : Rat) = d at h ⊢
  generalize ((b.den : Int) : Rat) = e at g ⊢
  generalize ((m.den : Int) : Rat) = f at k ⊢
  generalize (v : Rat) = v
  grind
theorem int_cast_ne {n : Int} (h : n ≠ 0) : (n : Rat) ≠ 0 := fun e => h (by exact_mod_cast e)
theorem quo_eq (g : Rat) (n : Int) (h : n ≠ 0) : Rat.divInt g.num (g.den * n) = g / n := by
  have k := den_cast g
  have l := int_cast_ne h
  simp only [Rat.divInt_eq_div, Rat.intCast_mul, cast_eq g]
  generalize ((g.den : Int) : Rat) = d at k ⊢
  generalize (n : Rat) = n at l ⊢
  grind
end Ov
set_option Elab.async false
set_option linter.all false
set_option maxRecDepth 100000
namespace Ov
open PySem PySem.Spec PyProof.Rows L2
structure Bd (n : Nat) (x : Int) : Prop where
  lt : x.natAbs < 2 ^ n
theorem Bd.bits {n : Nat} {x : Int} (h : Bd n x) : Builtin.Int.intBits x ≤ n := intBits_le_iff.mpr h.lt
theorem Bd.of {n : Nat} {x : Int} (h : Builtin.Int.intBits x ≤ n) : Bd n x := ⟨intBits_le_iff.mp h⟩
theorem Bd.mono {m n : Nat} {x : Int} (h : Bd m x) (hmn : m ≤ n) : Bd n x := .of (Nat.le_trans h.bits hmn)
theorem Bd.neg {n : Nat} {x : Int} (h : Bd n x) : Bd n (-x) := .of (intBits_neg_le h.bits)
theorem Bd.add {m n k : Nat} {x y : Int} (h : Bd m x) (g : Bd n y) (hk : max m n + 1 ≤ k := by decide) : Bd k (x + y) := (Bd.of (intBits_add_le h.bits g.bits)).mono hk
theorem Bd.sub {m n k : Nat} {x y : Int} (h : Bd m x) (g : Bd n y) (hk : max m n + 1 ≤ k := by decide) : Bd k (x - y) := (Bd.of (intBits_sub_le h.bits g.bits)).mono hk
theorem Bd.mul {m n k : Nat} {x y : Int} (h : Bd m x) (g : Bd n y) (hk : m + n ≤ k := by decide) : Bd k (x * y) := (Bd.of (intBits_mul_le h.bits g.bits)).mono hk
theorem Bd.le {n : Nat} {x y : Int} (g : Bd n y) (h : x.natAbs ≤ y.natAbs) : Bd n x := ⟨Nat.lt_of_le_of_lt h g.lt⟩
theorem Bd.small {x : Int} (h1 : -(2 ^ 64) < x) (h2 : x < 2 ^ 64) : Bd 64 x := .of (intBits_le_64 h1 h2)
theorem Bd.log {n : Nat} {x : Int} (h : Bd n x) (hn : n ≤ 9000) (h0 : x ≠ 0) : x.natAbs.log2 < 9000 :=
  Nat.lt_of_lt_of_le ((Nat.log2_lt (by omega)).mpr h.lt) hn
section
variable {X : Cx}
def CM (i j : Int) : Prop := ∃ m n, Bd m i ∧ Bd n j ∧ m + n ≤ 134217728
theorem CM.of {m n : Nat} {i j : Int} (h : Bd m i) (g : Bd n j) (hk : m + n ≤ 134217728 := by decide) : CM i j := ⟨m, n, h, g, hk⟩
theorem op_mulB : OpR X (binaryOp .Mult) (rI CM fun i j => .int (i * j)) := opI fun _ _ _ _ _ _ _ hc q => by
  obtain ⟨m, n, h, g, hk⟩ := hc
  exact mul_int q (IntMulOk.of_le h.bits g.bits hk)
def CQ (_ j : Int) : Prop := j ≠ 0 ∧ Bd 9000 j
theorem op_fdivB : OpR X (binaryOp .FloorDiv) (rI CQ fun i j => .int (i.fdiv j)) := opI fun _ _ _ _ _ _ _ hc q =>
  floordiv_int hc.1 q (.inl (PyProof.noPylong_of_log2 (hc.2.log (Nat.le_refl _) hc.1)))
def rT2 (f : Bool → Bool) : R2 := fun x y H Q => ∃ (p q : Addr) (a b c d : Int), x = .ref p ∧ y = .ref q ∧ H p = some (.tup [.int a, .int b]) ∧ H q = some (.tup [.int c, .int d]) ∧ Q (.bl (f (decide (a = c ∧ b = d)))) H
def tCut (t u : TS) : TS := fun D σ H => ∃ M : L2.St → Hp → Prop, t { D with nx := M } σ H ∧ ∀ σ' H', M σ' H' → u D σ' H'
theorem pss_cut {st : Stmt} {rest : List Stmt} {t u : TS} (h1 : PS X st t) (h2 : PSs X rest u) : PSs X (st :: rest) (tCut t u) := by
  intro pins s σ H D I h
  obtain ⟨M, h, k⟩ := h
  refine wpAny_execs_cons (thn (h1 pins s σ H { D with nx := M } I h) fun f s1 q => ?_)
  cases f with
  | next =>
    obtain ⟨σ', H', I', q⟩ := q
    exact h2 pins s1 σ' H' D I' (k _ _ q)
  | ret v => exact q
  | brk => exact q
  | cont => exact q
end
section
variable {X : Cx}
def rIxLH : R2 := fun x y H Q => ∃ p xs i v, x = .ref p ∧ y = .int i ∧ H p = some (.lst xs) ∧ atI xs i = some v ∧ Q v H
def rIxTH : R2 := fun x y H Q => ∃ p xs i v, x = .ref p ∧ y = .int i ∧ H p = some (.tup xs) ∧ atI xs i = some v ∧ Q v H
end
theorem atI_0 {α : Type} (x : α) (xs : List α) : atI (x :: xs) 0 = some x := atI_nat (j := 0) rfl
theorem atI_1 {α : Type} (x y : α) (xs : List α) : atI (x :: y :: xs) 1 = some y := atI_nat (j := 1) rfl
theorem atI_2 {α : Type} (x y z : α) (xs : List α) : atI (x :: y :: z :: xs) 2 = some z := atI_nat (j := 2) rfl
theorem atI_3 {α : Type} (x y z u : α) (xs : List α) : atI (x :: y :: z :: u :: xs) 3 = some u := atI_nat (j := 3) rfl
theorem scal_ii (i j : Int) : scal (.int i) (.int j) = true := rfl
theorem scal_bb (i j : Bool) : scal (.bl i) (.bl j) = true := rfl
theorem scal_ss (i j : Str) : scal (.str i) (.str j) = true := rfl
def Can (P : Program) (w : World) (K : PySem.W.Frag) (mg : Str → Option Value) (base : Heap) (k : Nat) (x : Str) (ps : List Str) (sp : Sp) : Prop :=
  ∃ f fd, FnOk P w K mg base CX0 k f fd ps sp ∧ Binds K fd ps [] ∧ PySem.W.keepIn K (.ref f) = true ∧ mg x = some (.ref f)
theorem pe_can {X : Cx} {k k' : Nat} {x : Str} {ps : List Str} {sp : Sp} {p pos : Pos} {e : Expr} {es : List Expr} {t : TA} (C : Can X.prog X.w X.K X.mg X.base k x ps sp) (hr : Room k' X.A) (hk : k ≤ k') (hg : Gl X x) (ha : PA X (e :: es) t)
    (hdb : (x == ("__debug__" : Str)) = false := by decide) (he : starEach (e :: es) X.env = (false, eval e X.env) :: starEach es X.env := by rfl) (hpl : (backTo pos (starEach es X.env)).any (·.1) = false := by rfl) :
    PE X (.Call (.Name x p) (e :: es) [] pos) (tCall sp [] E0 t) := by
  obtain ⟨f, fd, F, b, kp, m⟩ := C
  exact pe_call F (hr.mono hk) hg m kp b .nil pass0 ha hdb he hpl
def Def (K : PySem.W.Frag) (mg : Str → Option Value) (x : Str) (st : Stmt) : Prop := ∃ f fd, Fun K x x st f fd ∧ mg x = some (.ref f)
theorem def_mk {K : PySem.W.Frag} {h : Heap} {mg : Str → Option Value} {x : Str} {st : Stmt} (X : K.In h) (G : h.Ns mainGlobals mg) {f : Addr} {od an : Option Addr} {sl : Array (Option Value)} {oc kV dc pm cd ct : Value}
    (a : PySem.W.nsIn K mainGlobals x = some (some (.ref f))) (l : K.lookup f = some ⟨oc, od, .func (PySem.W.fnOf x x (defArgs st) (defBody st) (defScope st) .none kV dc pm an cd ct), sl⟩) (c : PySem.W.codeIn K cd x = true) (k : PySem.W.keepIn K (.ref f) = true) :
    Def K mg x st := ⟨f, _, fun_mk l c k, PySem.W.mg_of X G a⟩
theorem Def.can {P : Program} {w : World} {K : PySem.W.Frag} {mg : Str → Option Value} {base : Heap} {x : Str} {st : Stmt} {k : Nat} {ps : List Str} {sp : Sp} (D : Def K mg x st)
    (h : ∀ f fd, Fun K x x st f fd → FnOk P w K mg base CX0 k f fd ps sp)
    (hb : ∀ (kV doc pm : Value) (an : Option Addr) (cdv ct : Value) (us : List Value), us.length = ps.length → bindArgs (PySem.W.fnOf x x (defArgs st) (defBody st) (defScope st) .none kV doc pm an cdv ct) ⟨us, []⟩ = pure (ps.zip us)) :
    Can P w K mg base k x ps sp := by
  obtain ⟨f, fd, F, m⟩ := D
  exact ⟨f, fd, h f fd F, F.binds hb, F.kp, m⟩
theorem law_fd {K : PySem.W.Frag} {mg : Str → Option Value} {st : Stmt} {fa : Addr} {p : Str} (D : Def K mg "law" st) (hfa : mg "law" = some (.ref fa))
    (hb : ∀ (kV doc pm : Value) (an : Option Addr) (cdv ct : Value) (u : Value), bindArgs (PySem.W.fnOf "law" "law" (defArgs st) (defBody st) (defScope st) .none kV doc pm an cdv ct) ⟨[u], []⟩ = pure [(p, u)]) :
    ∃ fd, Fun K "law" "law" st fa fd ∧ ∀ (s : Shared) (u : Value), BindsTo s fd ⟨[u], []⟩ [(p, u)] := by
  obtain ⟨f, fd, F, m⟩ := D
  have e := m.symm.trans hfa
  cases e
  obtain ⟨oc, od, kV, doc, pm, an, cdv, ct, osl, rfl, lk, hcd⟩ := F.ex
  exact ⟨_, F, fun s u => .of_eq (hb kV doc pm an cdv ct u)⟩
structure Blt (mg : Str → Option Value) : Prop where
  abs : mg "abs" = none
  len : mg "len" = none
  isinstance : mg "isinstance" = none
  range : mg "range" = none
  int : mg "int" = none
  bool : mg "bool" = none
  tuple : mg "tuple" = none
  list : mg "list" = none
  sorted : mg "sorted" = none
  all : mg "all" = none
theorem _root_.L2.Same.tup {K : PySem.W.Frag} {H H' : Hp} {a : Addr} {xs : List V} (e : Same H H') (h : SqT K H a xs) : SqT K H' a xs := by
  rcases h with (h | ⟨o, h⟩) | h
  · exact .inl (.inl (e _ _ h))
  · exact .inl (.inr ⟨o, e _ _ h⟩)
  · exact .inr h
theorem _root_.L2.Same.new {H : Hp} {p : Addr} (h : H p = none) (o : HO) : Same H (upd H p o) := fun b u q => by rw [upd_ne (ne_of_none q h)]; exact q
theorem _root_.L2.Same.rew {H H' : Hp} {p : Addr} (h : H p = none) (e : Same H H') (o : HO) : Same H (upd H' p o) := fun b u q => by rw [upd_ne (ne_of_none q h)]; exact e b u q
def Fra (K : PySem.W.Frag) (H : Hp) (a : Addr) (q : Rat) : Prop := SqT K H a [.int q.num, .int q.den]
theorem Fra.keep {K : PySem.W.Frag} {H H' : Hp} {a : Addr} {q : Rat} (h : Fra K H a q) (e : Same H H') : Fra K H' a q := e.tup h
structure Sz (n : Nat) (q : Rat) : Prop where
  num : Bd n q.num
  den : Bd n q.den
theorem Sz.mono {m n : Nat} {q : Rat} (h : Sz m q) (k : m ≤ n) : Sz n q := ⟨h.num.mono k, h.den.mono k⟩
theorem rat_iff (x y : Rat) : (x.num = y.num ∧ (x.den : Int) = (y.den : Int)) = (x = y) := propext
  ⟨fun h => Rat.ext h.1 (by have := h.2; omega), fun h => by subst h; exact ⟨rfl, rfl⟩⟩
end Ov
set_option Elab.async false
set_option linter.all false
set_option maxRecDepth 100000
namespace Ov
open PySem PySem.Spec PyProof.Rows L2
theorem lookup_relabel (c : Str → NameKind → Bool) : ∀ (names : List (Str × NameKind)) (y : Str),
    (names.map fun (x : Str × NameKind) => if c x.1 x.2 then (x.1, NameKind.cell) else (x.1, x.2)).lookup y = (names.lookup y).map fun k => if c y k then NameKind.cell else k
  | [], _ => rfl
  | (n, k) :: r, y => by
    have ih := lookup_relabel c r y
    cases hy : y == n with
    | true =>
      have e : y = n := by simpa using hy
      subst e
      by_cases h : c y k = true <;> simp [List.lookup_cons, h]
    | false =>
      by_cases h : c n k = true <;> simp [List.lookup_cons, h, hy, ih]
theorem relabel_lookup (sc : Scope) (env : Env) (y : Str) : (relabel sc env).names.lookup y = (sc.names.lookup y).map fun k => if (k == .free && env.scope.kind == .function && env.kindOf y == some .cell) then NameKind.cell else k := by
  have h := lookup_relabel (fun n k => k == .free && env.scope.kind == .function && env.kindOf n == some .cell) sc.names y
  exact h
theorem closure_of {env : Env} : ∀ (names : List (Str × NameKind)) (acc : List (Str × Addr)), (∀ y ∈ names, y.2 = .free → ∃ c, env.cells.lookup y.1 = some c) → (∀ y c, acc.lookup y = some c → env.cells.lookup y = some c) →
    ∃ cl, (forIn names acc fun (x : Str × NameKind) (r : List (Str × Addr)) => match x with
      | (name, kind) => if (kind == NameKind.free) = true then (do let c ← cellOf env name; pure (ForInStep.yield ((name, c) :: r))) else (pure (ForInStep.yield r) : Sem (ForInStep (List (Str × Addr))))) = (pure cl : Sem (List (Str × Addr))) ∧
      (∀ y c, cl.lookup y = some c → env.cells.lookup y = some c) ∧ (∀ y c, acc.lookup y = some c → ∃ c, cl.lookup y = some c) ∧ ∀ y ∈ names, y.2 = .free → ∃ c, cl.lookup y.1 = some c
  | [], acc, _, ha => ⟨acc, rfl, ha, fun y c e => ⟨c, e⟩, fun y hy => by cases hy⟩
  | (n, k) :: r, acc, hn, ha => by
    by_cases hk : k = .free
    · subst hk
      obtain ⟨c, hc⟩ := hn (n, .free) List.mem_cons_self rfl
      obtain ⟨cl, e, h1, h2, h3⟩ := closure_of r ((n, c) :: acc) (fun y hy => hn y (List.mem_cons_of_mem _ hy)) (fun y d e => by
        rw [List.lookup_cons] at e
        cases hy : y == n with
        | true =>
          rw [hy] at e
          have e1 : y = n := by simpa using hy
          subst e1
          rw [hc]
          exact e
        | false => rw [hy] at e; exact ha y d e)
      have self : ∃ d, cl.lookup n = some d := h2 n c (by simp [List.lookup_cons])
      refine ⟨cl, ?_, h1, fun y d q => ?_, fun y hy hf => ?_⟩
      · rw [List.forIn_cons]
        have ec : cellOf env n = pure c := by unfold cellOf; rw [hc]
        simp only [beq_self_eq_true, if_true, ec, pure_bind]
        exact e
      · by_cases hy : y = n
        · subst hy; exact self
        · exact h2 y d (by rw [List.lookup_cons]; have : (y == n) = false := by simpa using hy
                           rw [this]; exact q)
      · rcases List.mem_cons.mp hy with rfl | hy
        · exact self
        · exact h3 y hy hf
    · obtain ⟨cl, e, h1, h2, h3⟩ := closure_of r acc (fun y hy => hn y (List.mem_cons_of_mem _ hy)) ha
      refine ⟨cl, ?_, h1, h2, fun y hy hf => ?_⟩
      · rw [List.forIn_cons]
        have hb : (k == NameKind.free) = false := by simpa using hk
        simp only [hb, Bool.false_eq_true, if_false, pure_bind]
        exact e
      · rcases List.mem_cons.mp hy with rfl | hy
        · exact absurd hf hk
        · exact h3 y hy hf
theorem closure_at {sc : Scope} {env : Env} (h : ∀ y ∈ sc.names, y.2 = .free → ∃ c, env.cells.lookup y.1 = some c) :
    ∃ cl, closureFor sc env = pure cl ∧ (∀ y c, cl.lookup y = some c → env.cells.lookup y = some c) ∧ ∀ y ∈ sc.names, y.2 = .free → ∃ c, cl.lookup y.1 = some c := by
  obtain ⟨cl, e, h1, _, h3⟩ := closure_of sc.names [] h (fun y c z => by cases z)
  refine ⟨cl, ?_, h1, h3⟩
  unfold closureFor
  have e' := congrArg (fun m => m >>= fun r => (pure r : Sem (List (Str × Addr)))) e
  simp only [pure_bind] at e'
  exact e'
abbrev CompOk (sc osc : Scope) (N : List Str) (x : Str) (ks : List (Str × Nat)) : Prop :=
  sc.kind = .function ∧ (∀ y ∈ sc.names, y.2 ≠ .cell) ∧ sc.names.lookup x = some .local ∧ (∀ y ∈ sc.names, y.2 = .local → sc.names.lookup y.1 = some .local) ∧
  (∀ y ∈ sc.names, y.2 = .free → osc.names.lookup y.1 = some .cell) ∧ (∀ p ∈ ks, N[p.2]? = some p.1 ∧ sc.names.lookup p.1 = some .free) ∧ (x :: ks.map (·.1)).Nodup
def cxC (X : Cx) (sc : Scope) (cl : List (Str × Addr)) (C : Addr) (x : Str) (ks : List (Str × Nat)) (s₀ : Shared) (H₀ : Hp) (fp : List Addr) (pins : List (Addr × Obj)) : Cx :=
  { X with N := x :: ks.map (·.1), s₀ := s₀, H₀ := H₀, env := compEnvC sc cl C X.env, outer := X.stack, ex := fp, fn := fun _ => false, pn := X.pn ++ pins, xe := fun _ _ => False }
def selC (ks : List (Str × Nat)) (σ : L2.St) : L2.St := ks.map fun p => (σ[p.2]?).getD none
section
variable {X : Cx} {pins : List (Addr × Obj)} {σ : L2.St} {H : Hp} {s : Shared} {sc : Scope} {cl : List (Str × Addr)} {x : Str} {ks : List (Str × Nat)} {fp : List Addr}
theorem get_map {α β : Type} (f : α → β) (l : List α) (i : Nat) : (l.map f)[i]? = (l[i]?).map f := List.getElem?_map
theorem inv_comp (I : Inv X pins σ H s) (ok : CompOk sc X.env.scope X.N x ks) (h1 : ∀ y c, cl.lookup y = some c → X.env.cells.lookup y = some c) (h2 : ∀ y ∈ sc.names, y.2 = .free → ∃ c, cl.lookup y.1 = some c)
    (hfp : ∀ b ∈ fp, FpOk X pins H b ∧ ∃ o, s.heap.get? b = some o) {h4 : Heap} {m : Str → Option Value} {t' : Nat} (hn : h4.Ns s.heap.objs.size m) (kp : ∀ b o, s.heap.get? b = some o → h4.get? b = some o) :
    Inv (cxC X sc cl s.heap.objs.size x ks s H fp pins) [] (none :: selC ks σ) H { s with heap := h4, toks := t' } := by
  obtain ⟨kd, nc, lx, ll, fr, kk, nd⟩ := ok
  have fresh : H s.heap.objs.size = none := I.hok.fresh (Nat.le_refl _)
  have lt : ∀ b o, s.heap.get? b = some o → b ≠ s.heap.objs.size := fun b o e => Nat.ne_of_lt (Heap.lt_size e)
  have cellLt : ∀ y c, X.env.cells.lookup y = some c → c ≠ s.heap.objs.size := fun y c e => by
    obtain ⟨v, o, ho, _⟩ := I.cell y c e
    exact lt c o ho
  have sub : ∀ b ∈ frs X.stack, b = X.env.locals ∨ b ∈ X.fs := fun b hb => List.mem_cons.mp (I.stkSub b hb)
  have kof : ∀ y, (compEnvC sc cl s.heap.objs.size X.env).kindOf y = (relabel sc X.env).names.lookup y := fun y => rfl
  have ok' : (cxC X sc cl s.heap.objs.size x ks s H fp pins).Ok := {
    mod := I.ok.mod
    kind := kd
    glob := I.ok.glob
    blt := I.ok.blt
    above := Nat.le_refl _
    inj := fun y z c e1 e2 => I.ok.inj y z c (h1 y c e1) (h1 z c e2)
    has := fun y hy => by
      rw [show (cxC X sc cl s.heap.objs.size x ks s H fp pins).env.kindOf y = _ from kof y, relabel_lookup] at hy
      cases e : sc.names.lookup y with
      | none => rw [e] at hy; rcases hy with z | z <;> cases z
      | some k =>
        have hm : (y, k) ∈ sc.names := by
          have := List.lookup_eq_some_iff.mp e
          obtain ⟨l1, l2, q, _⟩ := this
          rw [q]
          simp
        by_cases hk : k = .free
        · subst hk; exact h2 _ hm rfl
        · have hb : (k == NameKind.free) = false := by simpa using hk
          rw [e] at hy
          simp only [Option.map_some, hb, Bool.false_and, Bool.false_eq_true, if_false] at hy
          rcases hy with z | z
          · exact absurd (Option.some.inj z) (nc _ hm)
          · exact absurd (Option.some.inj z) hk
    cab := fun _ _ z => by cases z
    hd := fun z => I.ok.hd z
    frames := I.ok.frames
    stk := .inl rfl
    exf := fun b hb => ⟨lt b _ (hfp b hb).2.choose_spec, fun y c e => (hfp b hb).1.2.2.2.2.1 y c (h1 y c e)⟩
    bs := fun b o e => I.bs b o e
    bsz := Nat.le_trans I.ok.bsz I.sz
    noex := fun b o e hb => by
      rcases (hfp b hb).1.2.2.2.1 with z | z
      · exact I.ok.noex b o e z
      · exact absurd (Nat.lt_of_lt_of_le (Heap.lt_size e) (Nat.le_trans I.ok.bsz z)) (Nat.lt_irrefl _)
    exfs := fun b hb z => by
      rcases sub b z with e | e
      · exact (hfp b hb).1.2.1 e
      · exact (hfp b hb).1.2.2.1 e
    funs := I.stack
    frf := I.stkFree }
  obtain ⟨mX, hnX, hlX⟩ := I.loc
  refine ⟨ok', rfl, I.bare, Un.kept kp, ⟨m, hn, fun i y v e1 e2 e3 => ?_⟩, fun y c e => ?_, fresh, fun y c e => I.freeC y c (h1 y c e), fun p hp => ?_, I.hok.kept kp, by simp [cxC, selC]⟩
  · cases i with
    | zero =>
      rw [List.getElem?_cons_zero] at e2
      cases e2
    | succ i =>
      have e1' : (ks.map (·.1))[i]? = some y := by simpa [cxC] using e1
      rw [List.getElem?_cons_succ] at e2
      unfold selC at e2
      rw [List.getElem?_map] at e1' e2
      cases ep : ks[i]? with
      | none => rw [ep] at e1'; cases e1'
      | some p =>
        rw [ep] at e1' e2
        have ey : p.1 = y := Option.some.inj e1'
        have ev : (σ[p.2]?).getD none = some v := Option.some.inj e2
        obtain ⟨kN, kf⟩ := kk p (List.mem_of_getElem? ep)
        have es : σ[p.2]? = some (some v) := by
          cases q : σ[p.2]? with
          | none => rw [q] at ev; cases ev
          | some w => rw [q] at ev; exact congrArg some ev
        have hm : (p.1, NameKind.free) ∈ sc.names := by
          obtain ⟨l1, l2, q, _⟩ := List.lookup_eq_some_iff.mp kf
          rw [q]
          simp
        have oc : X.env.scope.names.lookup p.1 = some .cell := fr _ hm rfl
        obtain ⟨u, ru, lu⟩ := hlX p.2 p.1 v kN es (.inr (.inl oc))
        refine ⟨u, ru, .inr ⟨.inl ?_, ?_⟩⟩
        · rw [show (cxC X sc cl s.heap.objs.size x ks s H fp pins).env.kindOf y = _ from kof y, relabel_lookup, ← ey, kf]
          have k1 : X.env.kindOf p.1 = some .cell := oc
          simp [I.ok.kind, k1]
        · obtain ⟨c, hc⟩ := h2 _ hm rfl
          have hc : cl.lookup p.1 = some c := hc
          rcases lu with ⟨z, _⟩ | ⟨_, c', hc', z⟩
          · have z' : X.env.scope.names.lookup p.1 = some .local := z
            rw [oc] at z'; cases z'
          · have := h1 _ _ hc
            rw [hc'] at this
            cases this
            obtain ⟨o, ho, hd⟩ := z
            exact ⟨_, by rw [← ey]; exact hc, o, kp _ _ ho, hd⟩
  · obtain ⟨v, o, ho, hd⟩ := I.cell y c (h1 y c e)
    exact ⟨v, o, kp _ _ ho, hd⟩
  · rw [List.append_nil] at hp
    obtain ⟨a1, a2, a3, a4, a5⟩ := I.pin p hp
    refine ⟨kp _ _ a1, a2, lt _ _ a1, fun z => ?_, a5⟩
    rcases sub p.1 z with e | e
    · exact a3 e
    · exact a4 e
end
section
variable {prog : Program} {w : World} {A : Around} {R : Result → Shared → Prop} {s : Shared}
theorem loop_comp {elt iter : Expr} {x : Str} {px : Pos} {sc : Scope} {pos : Pos} {it acc : Value} {env : Env} (I : Nat → Shared → Prop)
    (turn : ∀ n s, I n s → wpAny (model prog w) A (pyNext it) (fun r s₁ => match r with
      | none => R (.ok .next) s₁
      | some v => wpAny (model prog w) A (letOwnedTupleGo (.Name x px) it v) (fun _ s₂ => wpAny (model prog w) A (assign (.Name x px) env v) (fun _ s₃ => wpAny (model prog w) A (eval elt env) (fun y s₄ =>
          wpAny (model prog w) A (call (.builtin "list.append") [acc, y]) (fun _ s₅ => ∃ m, m < n ∧ I m s₅) (fun _ _ => False) s₄) (fun _ _ => False) s₃) (fun _ _ => False) s₂) (fun _ _ => False) s₁) (fun _ _ => False) s)
    (n : Nat) (h : I n s) : codeAny (model prog w) A (.compLoop (.ListComp elt [⟨.Name x px, iter, [], 0⟩] sc pos) 0 it acc env) R s := by
  refine codeAny_loop rfl I (fun n s hI => ?_) n h
  show wpAny _ _ ((compTurn (.ListComp elt [⟨.Name x px, iter, [], 0⟩] sc pos) 0 it acc env).onRaise (fun x => do noteFrame x env; theTreesLotGoes x)) _ _ s
  refine wpAny_noted ?_
  rw [compTurn_list1]
  have no : ∀ (e : Value) (s' : Shared), False → notedBy (model prog w) A env (fun e s' => R (.error e) s') e s' := fun _ _ z => z.elim
  refine wpAny_bind (wpAny_standAt (wpAny_bind (wpAny_mono (turn n s hI) (fun r s₁ h₁ => ?_) no)))
  cases r with
  | none => exact wpAny_pure h₁
  | some v =>
    refine wpAny_bind (wpAny_mono h₁ (fun _ s₂ h₂ => ?_) no)
    exact wpAny_bind (wpAny_mono h₂ (fun _ s₃ h₃ => wpAny_bind (wpAny_bind (wpAny_mono h₃ (fun y s₄ h₄ => wpAny_bind (wpAny_mono h₄
      (fun _ s₅ h₅ => wpAny_pure (wpAny_pure ⟨rfl, h₅⟩)) no)) no))) no)
end
def tLC (wi : TI) (ks : List (Str × Nat)) (te : TE) : TE := fun σ H Q => wi σ H fun J H1 => ∀ D, H1 D = none → ∃ W : Nat → Nat → Hp → Prop, (∃ m, W 0 m (upd H1 D (.lst []))) ∧
  ∀ i m H2, W i m H2 → (J.stop i H2 ∧ Q (.ref D) H2) ∨ (J.go i H2 ∧ ∀ v H3, J.yld i H2 v H3 → te (some v :: selC ks σ) H3 fun y H4 => ∃ ys, H4 D = some (.lst ys) ∧ ys.length < sizeLine ∧ ∃ m', m' < m ∧ W (i + 1) m' (upd H4 D (.lst (ys ++ [y]))))
section
variable {X : Cx}
theorem run_comp {elt iter : Expr} {x : Str} {px : Pos} {sc : Scope} {pos : Pos} {te : TE} {ks : List (Str × Nat)} {cl : List (Str × Addr)} {pins : List (Addr × Obj)} {σ : L2.St} {H : Hp} {s : Shared} {it : Addr} {fp : List Addr} {tn : Nat → Heap → Prop} {J : It} {Q : VK}
    {RR : Value → Addr → Result → Shared → Prop} {E : Value → Shared → Prop}
    (hc : X.calm = true) (ok : CompOk sc X.env.scope X.N x ks) (h1 : ∀ y c, cl.lookup y = some c → X.env.cells.lookup y = some c) (h2 : ∀ y ∈ sc.names, y.2 = .free → ∃ c, cl.lookup y.1 = some c)
    (he : ∀ cl C s₀ H₀ fp pins, PE (cxC X sc cl C x ks s₀ H₀ fp pins) elt te)
    (I : Inv X pins σ H s) (T : Turn X.prog X.w X.K (.Name x px) J fp it tn) (st : tn 0 s.heap) (f : ∀ b ∈ fp, FpOk X pins H b)
    (hw : ∀ D, H D = none → ∃ W : Nat → Nat → Hp → Prop, (∃ m, W 0 m (upd H D (.lst []))) ∧ ∀ i m H2, W i m H2 → (J.stop i H2 ∧ Q (.ref D) H2) ∨
      (J.go i H2 ∧ ∀ v H3, J.yld i H2 v H3 → te (some v :: selC ks σ) H3 fun y H4 => ∃ ys, H4 D = some (.lst ys) ∧ ys.length < sizeLine ∧ ∃ m', m' < m ∧ W (i + 1) m' (upd H4 D (.lst (ys ++ [y])))))
    (hR : ∀ (D C : Addr) (s' : Shared) (H' : Hp) (m : Str → Option Value), Inv X pins σ H' s' → Q (.ref D) H' → s'.heap.Ns C m → H' C = none → C ≠ X.env.locals → X.s₀.heap.objs.size ≤ C → (∀ y c, X.env.cells.lookup y = some c → c ≠ C) → (∀ p ∈ X.pn ++ pins, p.1 ≠ C) → RR (.ref D) C (.ok .next) s') :
    wpAny (model X.prog X.w) X.A (newList []) (fun acc s₃ => wpAny (model X.prog X.w) X.A (newFunctionEnv sc X.env.globals cl [] X.env.qual none .none (some X.env)) (fun cenv s₄ =>
      codeAny (model X.prog X.w) X.A (.compStart (.ListComp elt [⟨.Name x px, iter, [], 0⟩] sc pos) 0 (.ref it) acc { cenv with scope := relabel sc X.env }) (RR acc cenv.locals) s₄) E s₃) E s := by
  have okk := ok
  obtain ⟨kd, nc, lx, ll, fr, kk, nd⟩ := okk
  have hD0 : H s.heap.objs.size = none := I.hok.fresh (Nat.le_refl _)
  obtain ⟨W, ⟨m0, w0⟩, turn⟩ := hw s.heap.objs.size hD0
  refine wpAny_newObj_type ?_
  have I3 : Inv X pins σ (upd H s.heap.objs.size (.lst [])) { s with heap := s.heap.push { cls := .type "list", dict := none, data := .seq ([] : List Value).toArray } } :=
    I.laid (t' := s.toks) (fun b u e => Heap.get?_push_of_some _ e) (Nat.le_refl _) (show ObjOk X.prog X.w _ _ _ (.lst []) from ⟨Nat.zero_le _, [], 0, .nil, Heap.get?_push_size _ rfl⟩)
  have st3 : tn 0 (s.heap.push { cls := .type "list", dict := none, data := .seq ([] : List Value).toArray }) := T.keep 0 _ _ st fun b hb o e => Heap.get?_push_of_some _ e
  generalize hD : s.heap.objs.size = D at *
  generalize hH : upd H D (.lst []) = H3 at *
  generalize hs3 : ({ s with heap := s.heap.push { cls := .type "list", dict := none, data := .seq ([] : List Value).toArray } } : Shared) = s3 at *
  have e3 : s.heap.push { cls := .type "list", dict := none, data := .seq ([] : List Value).toArray } = s3.heap := by rw [← hs3]
  rw [e3] at st3
  have fD : ∀ b ∈ fp, b ≠ D := fun b hb z => by
    obtain ⟨o, ho, _⟩ := T.obj 0 _ st b hb
    have := Heap.lt_size ho
    rw [z, ← hD] at this
    exact Nat.lt_irrefl _ this
  have f3 : ∀ b ∈ fp, FpOk X pins H3 b := fun b hb => ⟨by rw [← hH, upd_ne (fD b hb)]; exact (f b hb).1, (f b hb).2⟩
  have g3 : ∀ b ∈ fp, ∃ o, s3.heap.get? b = some o := fun b hb => by
    obtain ⟨o, ho, _⟩ := T.obj 0 _ st3 b hb
    exact ⟨o, ho⟩
  refine wpAny_newFunctionEnv nc (by intro y hy; simp at hy) (fun h₁ hns hsb => ?_) kd
  have kp : ∀ b o, s3.heap.get? b = some o → h₁.get? b = some o := fun b o e => hsb.extBut b o (Nat.ne_of_lt (Heap.lt_size e)) (Heap.get?_push_of_some _ e)
  have J0 := inv_comp (fp := fp) (cl := cl) (t' := s3.toks + ([] : List (Str × Value)).length) I3 ok h1 h2 (fun b hb => ⟨f3 b hb, g3 b hb⟩) hns kp
  have st4 : tn 0 h₁ := T.keep 0 _ _ st3 fun b hb o e => kp b o e
  have ltC : ∀ b o, s3.heap.get? b = some o → b ≠ s3.heap.objs.size := fun b o e => Nat.ne_of_lt (Heap.lt_size e)
  have cC : ∀ y c, X.env.cells.lookup y = some c → c ≠ s3.heap.objs.size := fun y c e => by
    obtain ⟨v, o, ho, _⟩ := I3.cell y c e
    exact ltC c o ho
  have pC : ∀ p ∈ X.pn ++ pins, p.1 ≠ s3.heap.objs.size := fun p hp => ltC _ _ (I3.pin p hp).1
  have lC : s3.heap.objs.size ≠ X.env.locals := Nat.ne_of_gt I3.lt
  have fX : ∀ {H' : Hp}, (∀ b ∈ fp, H' b = none) → ∀ b ∈ fp, FpOk (cxC X sc cl s3.heap.objs.size x ks s3 H3 fp pins) [] H' b := fun hn b hb => by
    obtain ⟨o, ho⟩ := g3 b hb
    obtain ⟨_, q1, q2, q3, q4, q5⟩ := f b hb
    refine ⟨hn b hb, ltC b o ho, fun z => ?_, .inl hb, fun y c e => q4 y c (h1 y c e), fun p hp => q5 p (by simpa [cxC] using hp)⟩
    rcases List.mem_cons.mp (I3.stkSub b z) with e | e
    · exact q1 e
    · exact q2 e
  have back : ∀ {o : Option V} {H' : Hp} {s' : Shared}, Inv (cxC X sc cl s3.heap.objs.size x ks s3 H3 fp pins) [] (o :: selC ks σ) H' s' → Inv X pins σ H' s' := fun {o H' s'} J => by
    obtain ⟨hh, g, d, t, os'⟩ := s'
    obtain rfl : os' = s3.os := J.os
    exact I3.call (h' := hh) (g' := g) (d' := d) (t' := t) (ch := fp) J.base J.hok J.bare fun b hb => ⟨(f b hb).2.2.2.1, (f b hb).2.1, (f b hb).2.2.2.2.1, (f b hb).2.2.2.2.2⟩
  have lookX : (relabel sc X.env).names.lookup x = some .local := lookup_relabel_local lx
  have loop : ∀ s', (∃ (i : Nat) (o : Option V) (H' : Hp), Inv (cxC X sc cl s3.heap.objs.size x ks s3 H3 fp pins) [] (o :: selC ks σ) H' s' ∧ tn i s'.heap ∧ (∀ b ∈ fp, H' b = none) ∧ W i m0 H') →
      codeAny (model X.prog X.w) X.A (.compLoop (.ListComp elt [⟨.Name x px, iter, [], 0⟩] sc pos) 0 (.ref it) (.ref D) (compEnvC sc cl s3.heap.objs.size X.env)) (RR (.ref D) s3.heap.objs.size) s' := by
    intro s' hs'
    refine loop_comp (fun n s' => ∃ (i : Nat) (o : Option V) (H' : Hp), Inv (cxC X sc cl s3.heap.objs.size x ks s3 H3 fp pins) [] (o :: selC ks σ) H' s' ∧ tn i s'.heap ∧ (∀ b ∈ fp, H' b = none) ∧ W i n H') ?_ m0 hs'
    rintro n s5 ⟨i, o, H5, J5, t5, n5, w5⟩
    rcases turn i n H5 w5 with ⟨stop, hq⟩ | ⟨go, step⟩
    · refine thn (T.done (cxC X sc cl s3.heap.objs.size x ks s3 H3 fp pins) rfl rfl rfl hc i [] s5 _ H5 _ J5 (fX n5) t5 stop) fun r s6 ⟨hr, J6⟩ => ?_
      subst hr
      obtain ⟨m, hm, _⟩ := J6.loc
      exact hR D _ s6 H5 m (back J6) hq hm J6.free lC I3.sz cC pC
    · refine thn (T.item (cxC X sc cl s3.heap.objs.size x ks s3 H3 fp pins) rfl rfl rfl hc i [] s5 _ H5 _ J5 (fX n5) t5 go) fun r s6 ⟨u, hr, h6⟩ => ?_
      subst hr
      refine thn h6 fun _ s7 ⟨v, H7, J7, r7, y7, t7, n7⟩ => ?_
      have J7' := J7.pinned (fX n7) (T.obj _ _ t7)
      refine wpAny_assign_Name (store_ok (X := cxC X sc cl s3.heap.objs.size x ks s3 H3 fp pins) (i := 0) J7' nd rfl (.inl lookX) r7 (fun s8 J8 => ?_) (.inr lookX))
      refine thn (he cl s3.heap.objs.size s3 H3 fp pins _ s8 _ H7 _ J8 (step v H7 y7)) fun y s9 ⟨vy, H9, J9, r9, ys, hys, hz, m', hm, w'⟩ => ?_
      refine thn (mt_append (X := cxC X sc cl s3.heap.objs.size x ks s3 H3 fp pins) _ s9 _ H9 (.ref D) [vy] (.ref D) [y] (fun _ H' => H' = upd H9 D (.lst (ys ++ [vy]))) J9 rfl (.cons r9 .nil) ⟨D, ys, vy, rfl, rfl, hys, hz, rfl⟩) fun _ s10 ⟨_, H10, J10, _, eH⟩ => ?_
      subst eH
      refine ⟨m', hm, i + 1, _, _, J10.unpinned, ?_, ?_, w'⟩
      · exact T.keep _ _ _ t7 fun b hb o e => (J10.pin (b, o) (List.mem_append_right _ (List.mem_append_right _ (mem_pinsAt hb e)))).1
      · intro b hb
        obtain ⟨o, e, d⟩ := T.obj _ _ t7 b hb
        exact (J10.pin (b, o) (List.mem_append_right _ (List.mem_append_right _ (mem_pinsAt hb e)))).2.1
  have l0 := loop _ ⟨0, none, H3, J0, st4, fun b hb => (f3 b hb).1, w0⟩
  exact codeAny_compStart_list l0 (T.self _ 0 _ _ _ st4 l0)
theorem osc_free {sc osc : Scope} {N : List Str} {x : Str} {ks : List (Str × Nat)} (ok : CompOk sc osc N x ks) {pins : List (Addr × Obj)} {σ : L2.St} {H : Hp} {s : Shared} (I : Inv X pins σ H s) (ho : X.env.scope = osc) : ∀ y ∈ sc.names, y.2 = .free → ∃ c, X.env.cells.lookup y.1 = some c := fun y hy hf =>
  I.ok.has y.1 (.inl (by show X.env.scope.names.lookup y.1 = some .cell; rw [ho]; exact ok.2.2.2.2.1 y hy hf))
def tLCs (wi : TI) (ks : List (Str × Nat)) (te : TE) (i : Nat) : TS := fun D σ H => tLC wi ks te σ H fun v H1 => D.nx (σ.set i (some v)) H1
theorem ps_lc {elt iter : Expr} {x y : Str} {px py : Pos} {sc : Scope} {pos spos : Pos} {wi : TI} {te : TE} {i : Nat} (osc : Scope) (N : List Str) (ks : List (Str × Nat)) (hc : X.calm = true) (ho : X.env.scope = osc) (hN : X.N = N) (hnd : X.N.Nodup) (hy : X.N[i]? = some y) (hl : Loc X.env.scope y)
    (hi : PI X (.Name x px) iter wi) (he : ∀ cl C s₀ H₀ fp pins, PE (cxC X sc cl C x ks s₀ H₀ fp pins) elt te) (ok : CompOk sc osc N x ks := by decide +kernel) (hs : ∀ x, foldedSetIterable iter X.env x = pure x := by intro _; rfl)
    (hsw : swapsWith (.ListComp elt [⟨.Name x px, iter, [], 0⟩] sc pos) (some (.Name y py)) spos.line X.env = pure true := by rfl) (hf : X.fn y = true ∨ X.env.scope.names.lookup y = some .local := by first | exact .inl rfl | exact .inr rfl | assumption) :
    PS X (.Assign [.Name y py] (.ListComp elt [⟨.Name x px, iter, [], 0⟩] sc pos) spos) (tLCs wi ks te i) := by
  intro pins s σ H Dn I hw
  obtain ⟨cl, hcl, h1, h2⟩ := closure_at (osc_free ok I ho)
  have ok' : CompOk sc X.env.scope X.N x ks := by rw [ho, hN]; exact ok
  rw [exec_Assign_Name_used _ _ _ _ hsw]
  refine wpAny_bind (wpAny_standAt (wpAny_bind ?_))
  show wpAny _ X.A (do let _ ← comprehension (.ListComp elt [⟨.Name x px, iter, [], 0⟩] sc pos) sc X.env _ (newList []) false (eval iter X.env) (some (assign (.Name y py) X.env))) _ _ s
  refine wpAny_bind (wpAny_mono (wpAny_comprehension_free (use := some (assign (.Name y py) X.env)) (Q := fun _ s' => SP X pins Dn .next s') rfl hs hcl ok.1 ok.2.2.2.1
    (thn (hi pins s σ H _ I hw) fun v s1 h3 => thn h3 fun itv s2 h4 => ?_)) (fun _ s' hq => wpAny_pure (wpAny_pure hq)) fun _ _ e => e)
  obtain ⟨it, fp, tn, J, H2, rfl, I2, T, st2, f2, hR⟩ := h4
  refine run_comp (Q := fun v H1 => Dn.nx (σ.set i (some v)) H1) (RR := fun acc C => compPost (model X.prog X.w) X.A X.xe (some (assign (.Name y py) X.env)) (fun _ s' => SP X pins Dn .next s') acc C) hc ok' h1 h2 he I2 T st2 f2 hR ?_
  intro D C s' H' m J' q hn hC cl' cs cc cp
  show wpAny _ X.A (assign (.Name y py) X.env (.ref D)) _ _ _
  refine wpAny_assign_Name (store_ok2 J' hnd hy hl (v := .ref D) rfl (fun s'' J'' ⟨a, hsb, ha⟩ => ?_) hf)
  refine ⟨m, hn.sameBut hsb (fun z => ?_), fun h' hsb' => ⟨_, H', ?_, q⟩⟩
  · rcases ha with e | e
    · exact cl' (z.trans e)
    · exact cc _ _ e z.symm
  · exact J''.turned (t' := s''.toks) (it := C) (fun b o ne e => hsb'.extBut b o ne e) hC cl' (.inr cs) cc cp
end
def one (c : Nat) : Str := ⟨#[c]⟩
section
variable {X : Cx}
def rJoin (K : PySem.W.Frag) : V → List V → Hp → VK → Prop := fun x vs H Q => ∃ z p ys, x = .str z ∧ vs = [.ref p] ∧ SqL K H p (ys.map V.str) ∧ (ys.map (·.length)).sum + ys.length * z.length ≤ 16777216 ∧ Q (.str (Txt.join z ys)) H
end
def constV : Expr → Option V
  | .Constant (.int i) _ _ => some (.int i)
  | .Constant (.str x) _ _ => some (.str x)
  | .Constant (.bool b) _ _ => some (.bl b)
  | _ => none
theorem pa_const {X : Cx} : ∀ {es : List Expr} (vs : List V), es.map constV = vs.map some → PA X es (fun _ H Q => Q vs H)
  | [], [], _ => fun _ _ _ _ H Q I h => Calls.spliced_nil ⟨[], H, I, .nil, h⟩
  | [], _ :: _, h => by cases h
  | _ :: _, [], h => by cases h
  | e :: es, v :: vs, h => by
    rw [List.map_cons, List.map_cons] at h
    injection h with h1 h2
    have ih := pa_const (X := X) (es := es) vs h2
    have hs : starEach (e :: es) X.env = (false, eval e X.env) :: starEach es X.env := by
      cases e <;> first | rfl | cases h1
    have he : PE X e (tC v) := by
      cases e with
      | Constant c j pos =>
        cases c with
        | int i => cases h1; exact pe_int
        | str x => cases h1; exact pe_str
        | bool b => cases h1; exact pe_bl
        | _ => cases h1
      | _ => cases h1
    exact fun pos pins s σ H Q I hq => pa_cons he ih hs pos pins s σ H Q I hq
end Ov
set_option Elab.async false
set_option linter.all false
set_option maxRecDepth 100000
namespace Ov
open PySem PySem.Spec PyProof.Rows
open L2 (V HO Hp Inv Cx St VK TE TT TA TS TG TGs TI TO TSet Ends Vis Loc Gl Rd RelV Vals OpR UnR CallR IxR SlR MtR PSet R2 tVar tC tOp tUn tTest tB tAnd tOr tNot tAndV tOrV tNotV tIf tTup tLst tNil tCons tCB tCall tBM tAsg tPar gName gNil gCons gTup gSub tIfS tWhile tFor iList iTup iRng1 iRng2 tRet tRetN tDrop tCont tBreak tNext tSeq tNever tNoPart tPart tSl upd E0 Room PlainIx)
structure QE (X : Cx) (e : Expr) (t : TE) : Prop where
  run : L2.PE X e t
structure QT (X : Cx) (e : Expr) (t : TT) : Prop where
  run : L2.PT X e t
structure QW (X : Cx) (e : Expr) (t : TT) : Prop where
  run : L2.PW X e t
structure QA (X : Cx) (es : List Expr) (t : TA) : Prop where
  run : L2.PA X es t
structure QS (X : Cx) (st : Stmt) (t : TS) : Prop where
  run : L2.PS X st t
structure QB (X : Cx) (st : List Stmt) (t : TS) : Prop where
  run : L2.PSs X st t
structure QG (X : Cx) (e : Expr) (t : TG) : Prop where
  run : L2.PG X e t
structure QGs (X : Cx) (es : List Expr) (t : TGs) : Prop where
  run : L2.PGs X es t
structure QI (X : Cx) (tg e : Expr) (t : TI) : Prop where
  run : L2.PI X tg e t
structure QO (X : Cx) (e : Option Expr) (t : TO) : Prop where
  run : L2.PO X e t
section
variable {X : Cx} {a b c e o : Expr} {es rest : List Expr} {ta tb te tc to : TE} {tA tB' : TT} {t : TA} {pos px p p2 apos cpos : Pos} {x : Str} {i j : Nat}
theorem pv (i : Nat) {x : Str} {pos : Pos} (hN : X.N[i]? = some x := by rfl) (hv : Vis X.env.scope x := by first | exact Or.inl rfl | exact Or.inr (Or.inl rfl) | exact Or.inr (Or.inr rfl)) (hd : (x == ("__debug__" : Str)) = false := by decide)
    (hcd : (x == ("__classdict__" : Str)) = false := by decide) : QE X (.Name x pos) (tVar i) := ⟨L2.pe_var hN hv hd hcd⟩
theorem pe_int {i : Int} {j pos} : QE X (.Constant (.int i) j pos) (tC (.int i)) := ⟨L2.pe_int⟩
theorem pe_bl {b : Bool} {j pos} : QE X (.Constant (.bool b) j pos) (tC (.bl b)) := ⟨L2.pe_bl⟩
theorem pe_non {j pos} : QE X (.Constant .none j pos) (tC .non) := ⟨L2.pe_non⟩
theorem pe_str {x : Str} {j pos} : QE X (.Constant (.str x) j pos) (tC (.str x)) := ⟨L2.pe_str⟩
theorem pe_glob {v : V} {u : Value} (hg : Gl X x) (hm : X.mg x = some u) (r : RelV v u) (hd : (x == ("__debug__" : Str)) = false := by decide) : QE X (.Name x pos) (tC v) := ⟨L2.pe_glob hg hm r hd⟩
theorem pe_bltn {v : V} {u : Value} (hg : Gl X x) (hm : X.mg x = none) (hv : bootBuiltins x = some u) (r : RelV v u) (hn : x ≠ "__name__" := by decide) (hd : (x == ("__debug__" : Str)) = false := by decide) : QE X (.Name x pos) (tC v) := ⟨L2.pe_bltn hg hm hv r hn hd⟩
theorem pe_op {op : Operator} {r : R2} (ho : OpR X (binaryOp op) r) (ha : QE X a ta) (hb : QE X b tb) : QE X (.BinOp a op b pos) (tOp r ta tb) := ⟨L2.pe_op ho ha.run hb.run⟩
theorem pe_un {op : UnaryOp} {r : V → Hp → VK → Prop} (ho : UnR X (unaryOp op) r) (ha : QE X a ta) : QE X (.UnaryOp op a pos) (tUn r ta) := ⟨L2.pe_un ho ha.run⟩
theorem pe_cmpR {op : CmpOp} {r : R2} (ho : OpR X (compareOp op) r) (ha : QE X a ta) (hb : QE X b tb) (hm : behindInMarks op b = false) : QE X (.Compare a [op] [b] pos) (tOp r ta tb) := ⟨L2.pe_cmpR ho ha.run hb.run hm⟩
theorem pt_cmpR {op : CmpOp} {r : R2} (ho : OpR X (compareOp op) r) (ha : QE X a ta) (hb : QE X b tb) (hm : behindInMarks op b = false) : QT X (.Compare a [op] [b] pos) (tTest (tOp r ta tb)) := ⟨L2.pt_cmpR ho ha.run hb.run hm⟩
theorem pe_one {op} (h : QE X a ta) : QE X (.BoolOp op [a] pos) ta := ⟨L2.pe_one h.run⟩
theorem pe_and (ha : QE X a ta) (hb : QE X (.BoolOp .And (b :: rest) pos) tb) : QE X (.BoolOp .And (a :: b :: rest) pos) (tAndV ta tb) := ⟨L2.pe_and ha.run hb.run⟩
theorem pe_not (ha : QE X a ta) : QE X (.UnaryOp .Not a pos) (tNotV ta) := ⟨L2.pe_not ha.run⟩
theorem pt_not (ha : QT X a tA) : QT X (.UnaryOp .Not a pos) (tNot tA) := ⟨L2.pt_not ha.run⟩
theorem pw_and1 (ha : QT X a tA) : QW X (.BoolOp .And [a] pos) tA := ⟨L2.pw_and1 ha.run⟩
theorem pw_or1 (ha : QT X a tA) : QW X (.BoolOp .Or [a] pos) tA := ⟨L2.pw_or1 ha.run⟩
theorem pw_and (ha : QT X a tA) (hb : QW X (.BoolOp .And (b :: rest) pos) tB') : QW X (.BoolOp .And (a :: b :: rest) pos) (tAnd tA tB') := ⟨L2.pw_and ha.run hb.run⟩
theorem pw_or (ha : QT X a tA) (hb : QW X (.BoolOp .Or (b :: rest) pos) tB') : QW X (.BoolOp .Or (a :: b :: rest) pos) (tOr tA tB') := ⟨L2.pw_or ha.run hb.run⟩
theorem pt_val (h : QE X e te) (he : ∀ whole, isTrue e X.env whole = (do let v ← whole; standAt e.pos; holding [v] (truthy v)) := by intro _; rfl) : QT X e (tB te) := ⟨L2.pt_val h.run he⟩
theorem pe_ifExp (hc : QT X c tA) (ha : QE X a ta) (hb : QE X b tb) : QE X (.IfExp c a b pos) (tIf tA ta tb) := ⟨L2.pe_ifExp hc.run ha.run hb.run⟩
theorem pa_nil : QA X [] tNil := ⟨L2.pa_nil⟩
theorem pa_cons (ha : QE X e te) (hr : QA X es t) (hs : starEach (e :: es) X.env = (false, eval e X.env) :: starEach es X.env := by rfl) : QA X (e :: es) (tCons te t) := ⟨L2.pa_cons ha.run hr.run hs⟩
theorem pe_tup {x1} (h : QA X es t) : QE X (.Tuple es x1 pos) (tTup t) := ⟨L2.pe_tup h.run⟩
theorem pe_lst (h : QA X es t) : QE X (.List es pos) (tLst t) := ⟨L2.pe_lst h.run⟩
theorem pe_ix {r : R2} (hr : IxR X r) (ha : QE X a ta) (hb : QE X b tb) (hs : PlainIx b) : QE X (.Subscript a b pos) (tOp r ta tb) := ⟨L2.pe_ix hr ha.run hb.run hs⟩
theorem po_none : QO X none tNoPart := ⟨L2.po_none⟩
theorem po_some (h : QE X e te) : QO X (some e) (tPart te) := ⟨L2.po_some h.run⟩
theorem pe_slice {lo hi : Option Expr} {tl th : TO} {r : V → Option Int → Option Int → Hp → VK → Prop} (hr : SlR X r) (he : QE X e te) (hl : QO X lo tl) (hu : QO X hi th) : QE X (.Subscript e (.Slice lo hi none p2) pos) (tSl r te tl th) := ⟨L2.pe_slice hr he.run hl.run hu.run⟩
theorem pe_callB {id : String} {r : List V → Hp → VK → Prop} (hc : CallR X (.builtin id) r) (hg : Gl X x) (hm : X.mg x = none) (hv : bootBuiltins x = some (.builtin id)) (ha : QA X (e :: es) t) (hn : x ≠ "__name__" := by decide) (hdb : (x == ("__debug__" : Str)) = false := by decide)
    (he : starEach (e :: es) X.env = (false, eval e X.env) :: starEach es X.env := by rfl) (hpl : (backTo pos (starEach es X.env)).any (·.1) = false := by rfl) : QE X (.Call (.Name x p) (e :: es) [] pos) (tCB r t) := ⟨L2.pe_callB hc hg hm hv ha.run hn hdb he hpl⟩
theorem pe_callTy {T : String} {r : List V → Hp → VK → Prop} (hc : CallR X (.type T) r) (hg : Gl X x) (hm : X.mg x = none) (hv : bootBuiltins x = some (.type T)) (ha : QA X (e :: es) t) (hn : x ≠ "__name__" := by decide) (hdb : (x == ("__debug__" : Str)) = false := by decide)
    (he : starEach (e :: es) X.env = (false, eval e X.env) :: starEach es X.env := by rfl) (hpl : (backTo pos (starEach es X.env)).any (·.1) = false := by rfl) : QE X (.Call (.Name x p) (e :: es) [] pos) (tCB r t) := ⟨L2.pe_callTy hc hg hm hv ha.run hn hdb he hpl⟩
theorem pe_fn {k k' : Nat} {ps : List Str} {sp : L2.Sp} (C : Can X.prog X.w X.K X.mg X.base k x ps sp) (hr : Room k' X.A) (hk : k ≤ k') (hg : Gl X x) (ha : QA X (e :: es) t)
    (hdb : (x == ("__debug__" : Str)) = false := by decide) (he : starEach (e :: es) X.env = (false, eval e X.env) :: starEach es X.env := by rfl) (hpl : (backTo pos (starEach es X.env)).any (·.1) = false := by rfl) :
    QE X (.Call (.Name x p) (e :: es) [] pos) (tCall sp [] E0 t) := ⟨pe_can C hr hk hg ha.run hdb he hpl⟩
theorem pe_bm {name : Str} {T id : String} {r : V → List V → Hp → VK → Prop} (pa : PlainAttrs T) (slot : Slot T name id) (hty : typeOf (.builtin id) = pure (.type "method_descriptor")) (hm : MtR X id r) (ho : QE X o to) (ha : QA X (e :: es) t)
    (hbase : attributeBase o name X.env (eval o X.env) = eval o X.env := by rfl)
    (hfew : ((backTo cpos (starEach (e :: es) X.env)).all (fun x => !x.1) && (backToKw cpos (keywordEach [] X.env)).all (fun x => x.1.isSome)
      && decide ((e :: es).length + ([] : List Keyword).length + (if ([] : List Keyword).isEmpty then 0 else 1) < 30)) = true := by rfl)
    (hline : (apos.endLine == cpos.line) = true := by rfl) (hs : starEach (e :: es) X.env = (false, eval e X.env) :: starEach es X.env := by rfl) (hplain : (backTo cpos (starEach es X.env)).any (·.1) = false := by rfl) :
    QE X (.Call (.Attribute o name apos) (e :: es) [] cpos) (tBM X.K T r to t) := ⟨L2.pe_bm pa slot hty hm ho.run ha.run hbase hfew hline hs hplain⟩
end
section
variable {X : Cx} {st : Stmt} {rest : List Stmt} {t u : TS} {e tg : Expr} {es : List Expr} {te : TE} {pos : Pos} {g : TG}
theorem pss_nil : QB X [] tNext := ⟨L2.pss_nil⟩
theorem pss_cons (h1 : QS X st t) (h2 : QB X rest u) : QB X (st :: rest) (tSeq t u) := ⟨L2.pss_cons h1.run h2.run⟩
theorem pss_one (h1 : QS X st t) : QB X [st] t := ⟨L2.pss_one h1.run⟩
theorem pss_join (h1 : QS X st t) (h2 : QB X rest u) : QB X (st :: rest) (tCut t u) := ⟨pss_cut h1.run h2.run⟩
theorem pss_never {sts : List Stmt} : QB X sts tNever := ⟨L2.pss_never⟩
theorem ps_continue : QS X (.Continue pos) tCont := ⟨L2.ps_continue⟩
theorem ps_expr (he : QE X e te) (hs : swapsWith e none pos.line X.env = pure false := by rfl) : QS X (.Expr e pos) (tDrop te) := ⟨L2.ps_expr he.run hs⟩
theorem ps_ret (he : QE X e te) : QS X (.Return (some e) pos) (tRet te) := ⟨L2.ps_ret he.run⟩
theorem ps_retN : QS X (.Return none pos) tRetN := ⟨L2.ps_retN⟩
theorem ps_if {c : Expr} {a b : List Stmt} {tc : TT} (hc : QT X c tc) (ha : QB X a t) (hb : QB X b u) : QS X (.If c a b pos) (tIfS tc t u) := ⟨L2.ps_if hc.run ha.run hb.run⟩
theorem ps_while {c : Expr} {body : List Stmt} {tc : TT} {tb : TS} (hp : PassesOwn (model X.prog X.w) X.A X.env X.xe) (hc : QT X c tc) (hb : QB X body tb) : QS X (.While c body [] pos) (tWhile tc tb) := ⟨L2.ps_while hp hc.run hb.run⟩
theorem pg_name {i : Nat} {x : Str} (hN : X.N.Nodup) (hi : X.N[i]? = some x) (hx : Loc X.env.scope x) (hf : X.fn x = true ∨ X.env.scope.names.lookup x = some .local := by first | exact .inl rfl | exact .inr rfl | assumption) : QG X (.Name x pos) (gName i) := ⟨L2.pg_name hN hi hx hf⟩
theorem pgs_nil : QGs X [] gNil := ⟨L2.pgs_nil⟩
theorem pgs_cons {e : Expr} {es : List Expr} {t : TG} {u : TGs} (h1 : QG X e t) (h2 : QGs X es u)
    (hs : (assignEach (e :: es) X.env).map (·.2) = assign e X.env :: (assignEach es X.env).map (·.2) := by rfl) : QGs X (e :: es) (gCons t u) := ⟨L2.pgs_cons h1.run h2.run hs⟩
theorem pg_tup {k : Nat} {t : TGs} {n : Nat} (hc : X.calm = true) (h : QGs X es t)
    (hn : (assignEach es X.env).length = n := by rfl) (hst : (assignEach es X.env).findIdx? (·.1) = none := by rfl) : QG X (.Tuple es k pos) (gTup X.K n t) := ⟨L2.pg_tup hc h.run hn hst⟩
theorem ps_asg {tg e : Expr} (he : QE X e te) (hg : QG X tg g) (hs : swapsWithSole [tg] e pos.line X.env = pure false := by rfl) (hw : swappedStores [tg] e X.env = pure none := by rfl)
    (h1 : (assignEach [tg] X.env).map (·.2) = [assign tg X.env] := by rfl) : QS X (.Assign [tg] e pos) (tAsg te g) := ⟨L2.ps_asg he.run hg.run hs hw h1⟩
theorem ps_set {i : Nat} {x : Str} {pos' : Pos} (hN : X.N.Nodup) (hi : X.N[i]? = some x) (hx : Loc X.env.scope x) (he : QE X e te) (hs : swapsWith e (some (.Name x pos')) pos.line X.env = pure false := by rfl) (hf : X.fn x = true ∨ X.env.scope.names.lookup x = some .local := by first | exact .inl rfl | exact .inr rfl | assumption) :
    QS X (.Assign [.Name x pos'] e pos) (tAsg te (gName i)) := ⟨L2.ps_set hN hi hx he.run hs hf⟩
theorem ps_par {i j : Nat} {x y : Str} {a b : Expr} {ta : TA} {px py pt : Pos} {kt k2 pt2} (hc : X.calm = true) (hN : X.N.Nodup) (hi : X.N[i]? = some x) (hj : X.N[j]? = some y) (hij : i ≠ j)
    (hx : X.env.scope.names.lookup x = some .local) (hy : X.env.scope.names.lookup y = some .local) (ha : QA X [a, b] ta)
    (hw : swappedStores [.Tuple [.Name x px, .Name y py] kt pt] (.Tuple [a, b] k2 pt2) X.env = pure (some [x, y]))
    (hs : swapsWithSole [.Tuple [.Name x px, .Name y py] kt pt] (.Tuple [a, b] k2 pt2) pos.line X.env = pure false := by rfl) :
    QS X (.Assign [.Tuple [.Name x px, .Name y py] kt pt] (.Tuple [a, b] k2 pt2) pos) (tPar i j ta) := ⟨L2.ps_par hc hN hi hj hij hx hy ha.run hw hs⟩
theorem pi_list {l : Expr} {tl : TE} (hl : QE X l tl) : QI X tg l (iList X.K tl) := ⟨L2.pi_list hl.run⟩
theorem pi_range1 {a : Expr} {ta : TA} {p pos : Pos} (hg : Gl X "range") (hm : X.mg "range" = none) (ha : QA X [a] ta) (hs : starEach [a] X.env = [(false, eval a X.env)] := by rfl) : QI X tg (.Call (.Name "range" p) [a] [] pos) (iRng1 ta) := ⟨L2.pi_range1 hg hm ha.run hs⟩
theorem ps_for {iter : Expr} {body : List Stmt} {wi : TI} {g : TG} {tb : TS} {pos : Pos} (hp : PassesOwn (model X.prog X.w) X.A X.env X.xe) (hc : X.calm = true) (hi : QI X tg iter wi) (hg : QG X tg g) (hb : QB X body tb)
    (hs : ∀ x, foldedSetIterable iter X.env x = pure x := by intro _; rfl) : QS X (.For tg iter body [] pos) (tFor wi g tb) := ⟨L2.ps_for hp hc hi.run hg.run hb.run hs⟩
end
end Ov
set_option Elab.async false
set_option linter.all false
set_option maxRecDepth 100000
namespace Ov
open PySem PySem.Spec PyProof.Rows
open L2 (V HO Hp Inv Cx VK TE TA Vals RelV OpR CallR SqL R2 upd EP vals1 intsAre_of Gl)
section
variable {X : Cx}
end
end Ov
set_option Elab.async false
set_option linter.all false
set_option maxRecDepth 100000
namespace Ov
open PySem PySem.Spec PyProof.Rows
open L2 (V HO Hp Inv Cx VK TE TA Vals RelV OpR CallR SqL SqT R2 upd Same)
inductive Py where
  | non | bl (b : Bool) | int (i : Int) | str (x : Str) | tup (xs : List Py) | lst (xs : List Py)
mutual
def At (K : PySem.W.Frag) (H : Hp) : Py → V → Prop
  | .non, v => v = .non
  | .bl b, v => v = .bl b
  | .int i, v => v = .int i
  | .str x, v => v = .str x
  | .tup xs, v => ∃ a vs, v = .ref a ∧ SqT K H a vs ∧ Ats K H xs vs
  | .lst xs, v => ∃ a vs, v = .ref a ∧ SqL K H a vs ∧ Ats K H xs vs
def Ats (K : PySem.W.Frag) (H : Hp) : List Py → List V → Prop
  | [], vs => vs = []
  | x :: xs, vs => ∃ v us, vs = v :: us ∧ At K H x v ∧ Ats K H xs us
end
mutual
def eqP : Py → Py → Bool
  | .non, .non => true
  | .bl a, .bl b => a == b
  | .int a, .int b => a == b
  | .bl a, .int b => (if a then 1 else 0) == b
  | .int a, .bl b => a == (if b then 1 else 0)
  | .str a, .str b => a == b
  | .tup xs, .tup ys => eqPs xs ys
  | .lst xs, .lst ys => eqPs xs ys
  | _, _ => false
def eqPs : List Py → List Py → Bool
  | [], [] => true
  | x :: xs, y :: ys => eqP x y && eqPs xs ys
  | _, _ => false
end
mutual
def dep : Py → Nat
  | .tup xs => deps xs + 1
  | .lst xs => deps xs + 1
  | _ => 0
def deps : List Py → Nat
  | [] => 0
  | x :: xs => max (dep x) (deps xs)
end
mutual
theorem eqP_self : ∀ x : Py, eqP x x = true
  | .non => rfl
  | .bl b => by simp [eqP]
  | .int b => by simp [eqP]
  | .str b => by simp [eqP]
  | .tup xs => by simpa [eqP] using eqPs_self xs
  | .lst xs => by simpa [eqP] using eqPs_self xs
theorem eqPs_self : ∀ xs : List Py, eqPs xs xs = true
  | [] => rfl
  | x :: xs => by simp [eqPs, eqP_self x, eqPs_self xs]
end
mutual
theorem At.same {K : PySem.W.Frag} {H H' : Hp} (e : Same H H') : ∀ {x : Py} {v : V}, At K H x v → At K H' x v
  | .non, _, h => h
  | .bl _, _, h => h
  | .int _, _, h => h
  | .str _, _, h => h
  | .tup xs, _, ⟨a, vs, e1, h, k⟩ => ⟨a, vs, e1, e.tup h, Ats.same e k⟩
  | .lst xs, _, ⟨a, vs, e1, h, k⟩ => ⟨a, vs, e1, e.seq h, Ats.same e k⟩
theorem Ats.same {K : PySem.W.Frag} {H H' : Hp} (e : Same H H') : ∀ {xs : List Py} {vs : List V}, Ats K H xs vs → Ats K H' xs vs
  | [], _, h => h
  | _ :: _, _, ⟨v, us, e1, h, k⟩ => ⟨v, us, e1, At.same e h, Ats.same e k⟩
end
theorem Ats.length {K : PySem.W.Frag} {H : Hp} : ∀ {xs : List Py} {vs : List V}, Ats K H xs vs → xs.length = vs.length
  | [], _, h => by cases h; rfl
  | _ :: xs, _, ⟨v, us, e1, _, k⟩ => by subst e1; simp [Ats.length k]
def ePs (xs ys : List Py) (j : Nat) : Bool := match xs[j]?, ys[j]? with
  | some x, some y => eqP x y
  | _, _ => false
theorem all_ePs : ∀ (xs ys : List Py), ((List.range (min xs.length ys.length)).all (ePs xs ys) && (xs.length == ys.length)) = eqPs xs ys
  | [], [] => rfl
  | [], _ :: _ => by simp [eqPs]
  | _ :: _, [] => by simp [eqPs]
  | x :: xs, y :: ys => by
    have ih := all_ePs xs ys
    rw [List.length_cons, List.length_cons, Nat.succ_min_succ, List.range_succ_eq_map, List.all_cons, List.all_map]
    have e1 : (ePs (x :: xs) (y :: ys) ∘ Nat.succ) = ePs xs ys := by
      funext j
      simp [ePs]
    have e2 : (xs.length + 1 == ys.length + 1) = (xs.length == ys.length) := by
      rw [Bool.eq_iff_iff]
      simp
    rw [e1, e2, Bool.and_assoc, ih]
    simp [ePs, eqPs]
section
variable {X : Cx} {pins : List (Addr × Obj)} {σ : L2.St} {H : Hp} {s : Shared}
mutual
theorem At.one (I : Inv X pins σ H s) : ∀ {x y : Py} {v : V}, At X.K H x v → At X.K H y v → eqP x y = true
  | .non, y, v, h, k => by cases h; cases y <;> simp_all [At, eqP]
  | .bl b, y, v, h, k => by cases h; cases y <;> simp_all [At, eqP]
  | .int b, y, v, h, k => by cases h; cases y <;> simp_all [At, eqP]
  | .str b, y, v, h, k => by cases h; cases y <;> simp_all [At, eqP]
  | .tup xs, y, v, h, k => by
    obtain ⟨a, vs, rfl, h1, h2⟩ := h
    cases y with
    | tup ys =>
      obtain ⟨b, us, e, k1, k2⟩ := k
      cases e
      cases I.tuple_inj h1 k1
      simpa [eqP] using Ats.one I h2 k2
    | lst ys =>
      obtain ⟨b, us, e, k1, k2⟩ := k
      cases e
      obtain ⟨_, _, ⟨o, e1, c1, _⟩, _⟩ := I.tuple h1
      obtain ⟨_, _, ⟨o', n, e2, c2, _⟩, _⟩ := I.list k1
      rw [e1] at e2; cases e2; exact absurd (Value.type.inj (c1.symm.trans c2)) (by decide)
    | _ => cases k
  | .lst xs, y, v, h, k => by
    obtain ⟨a, vs, rfl, h1, h2⟩ := h
    cases y with
    | lst ys =>
      obtain ⟨b, us, e, k1, k2⟩ := k
      cases e
      cases I.list_inj h1 k1
      simpa [eqP] using Ats.one I h2 k2
    | tup ys =>
      obtain ⟨b, us, e, k1, k2⟩ := k
      cases e
      obtain ⟨_, _, ⟨o, e1, c1, _⟩, _⟩ := I.tuple k1
      obtain ⟨_, _, ⟨o', n, e2, c2, _⟩, _⟩ := I.list h1
      rw [e1] at e2; cases e2; exact absurd (Value.type.inj (c1.symm.trans c2)) (by decide)
    | _ => cases k
theorem Ats.one (I : Inv X pins σ H s) : ∀ {xs ys : List Py} {vs : List V}, Ats X.K H xs vs → Ats X.K H ys vs → eqPs xs ys = true
  | [], ys, vs, h, k => by
    cases h
    cases ys with
    | nil => rfl
    | cons y ys => obtain ⟨_, _, e, _⟩ := k; cases e
  | x :: xs, ys, vs, h, k => by
    obtain ⟨v, us, rfl, h1, h2⟩ := h
    cases ys with
    | nil => cases k
    | cons y ys =>
      obtain ⟨v', us', e, k1, k2⟩ := k
      cases e
      simp [eqPs, At.one I h1 k1, Ats.one I h2 k2]
end
mutual
theorem eqAt (I : Inv X pins σ H s) : ∀ (x y : Py) {v v' : V} {u u' : Value} {A : Around}, At X.K H x v → At X.K H y v' → RelV v u → RelV v' u' → A.units + dep x < cLine → SeqAt.EqAt A s u u' (eqP x y)
  | .non, y, v, v', u, u', A, h, k, r, r', hu => by
    cases h; cases r
    cases y with
    | non => cases k; cases r'; exact SeqAt.EqAt.same _
    | bl b => cases k; cases r'; exact SeqAt.EqAt.none_bool _
    | int b => cases k; obtain ⟨t, rfl⟩ := r'; exact SeqAt.EqAt.none_int _ _
    | str b => cases k; obtain ⟨t, rfl⟩ := r'; exact SeqAt.EqAt.none_str _ _
    | tup ys => obtain ⟨a, vs, rfl, h1, h2⟩ := k; cases r'; obtain ⟨_, _, p, _⟩ := I.tuple h1; exact SeqAt.EqAt.none_tuple p (by simpa [dep] using hu)
    | lst ys => obtain ⟨a, vs, rfl, h1, h2⟩ := k; cases r'; obtain ⟨_, _, p, _⟩ := I.list h1; exact SeqAt.EqAt.none_list p.isList (by simpa [dep] using hu)
  | .bl x, y, v, v', u, u', A, h, k, r, r', hu => by
    cases h; cases r
    cases y with
    | non => cases k; cases r'; exact SeqAt.EqAt.bool_none _
    | bl b => cases k; cases r'; exact SeqAt.EqAt.bool_bool _ _
    | int b => cases k; obtain ⟨t, rfl⟩ := r'; exact SeqAt.EqAt.bool_int _ _ _
    | str b => cases k; obtain ⟨t, rfl⟩ := r'; exact SeqAt.EqAt.bool_str _ _ _
    | tup ys => obtain ⟨a, vs, rfl, h1, h2⟩ := k; cases r'; obtain ⟨_, _, p, _⟩ := I.tuple h1; exact SeqAt.EqAt.bool_tuple _ p (by simpa [dep] using hu)
    | lst ys => obtain ⟨a, vs, rfl, h1, h2⟩ := k; cases r'; obtain ⟨_, _, p, _⟩ := I.list h1; exact SeqAt.EqAt.bool_list _ p.isList (by simpa [dep] using hu)
  | .int x, y, v, v', u, u', A, h, k, r, r', hu => by
    cases h; obtain ⟨t0, rfl⟩ := r
    cases y with
    | non => cases k; cases r'; exact SeqAt.EqAt.int_none _ _
    | bl b => cases k; cases r'; exact SeqAt.EqAt.int_bool _ _ _
    | int b => cases k; obtain ⟨t, rfl⟩ := r'; exact SeqAt.EqAt.int_int _ _ _ _
    | str b => cases k; obtain ⟨t, rfl⟩ := r'; exact SeqAt.EqAt.int_str _ _ _ _
    | tup ys => obtain ⟨a, vs, rfl, h1, h2⟩ := k; cases r'; obtain ⟨_, _, p, _⟩ := I.tuple h1; exact SeqAt.EqAt.int_tuple _ _ p (by simpa [dep] using hu)
    | lst ys => obtain ⟨a, vs, rfl, h1, h2⟩ := k; cases r'; obtain ⟨_, _, p, _⟩ := I.list h1; exact SeqAt.EqAt.int_list _ _ p.isList (by simpa [dep] using hu)
  | .str x, y, v, v', u, u', A, h, k, r, r', hu => by
    cases h; obtain ⟨t0, rfl⟩ := r
    cases y with
    | non => cases k; cases r'; exact SeqAt.EqAt.str_none _ _
    | bl b => cases k; cases r'; exact SeqAt.EqAt.str_bool _ _ _
    | int b => cases k; obtain ⟨t, rfl⟩ := r'; exact SeqAt.EqAt.str_int _ _ _ _
    | str b => cases k; obtain ⟨t, rfl⟩ := r'; exact SeqAt.EqAt.str_str _ _ _ _
    | tup ys => obtain ⟨a, vs, rfl, h1, h2⟩ := k; cases r'; obtain ⟨_, _, p, _⟩ := I.tuple h1; exact SeqAt.EqAt.str_tuple _ _ p (by simpa [dep] using hu)
    | lst ys => obtain ⟨a, vs, rfl, h1, h2⟩ := k; cases r'; obtain ⟨_, _, p, _⟩ := I.list h1; exact SeqAt.EqAt.str_list _ _ p.isList (by simpa [dep] using hu)
  | .tup xs, y, v, v', u, u', A, h, k, r, r', hu => by
    have h0 := h
    obtain ⟨a, vs, rfl, h1, h2⟩ := h
    cases r
    obtain ⟨is, r1, p1, _⟩ := I.tuple h1
    have hu0 : A.units < cLine := by omega
    have hu1 : A.in1.units + deps xs < cLine := by
      have e : dep (.tup xs) = deps xs + 1 := by rw [dep]
      rw [e] at hu
      show A.units + 1 + deps xs < cLine
      omega
    cases y with
    | non => cases k; cases r'; exact SeqAt.EqAt.tuple_none p1 hu0
    | bl b => cases k; cases r'; exact SeqAt.EqAt.tuple_bool _ p1 hu0
    | int b => cases k; obtain ⟨t, rfl⟩ := r'; exact SeqAt.EqAt.tuple_int _ _ p1 hu0
    | str b => cases k; obtain ⟨t, rfl⟩ := r'; exact SeqAt.EqAt.tuple_str _ _ p1 hu0
    | lst ys => obtain ⟨b, us, rfl, k1, k2⟩ := k; cases r'; obtain ⟨_, _, p, _⟩ := I.list k1; exact SeqAt.EqAt.tuple_list p1 p.isList hu0
    | tup ys =>
      have k0 := k
      obtain ⟨b, us, rfl, k1, k2⟩ := k
      cases r'
      by_cases hab : a = b
      · subst hab
        rw [At.one I h0 k0]
        exact SeqAt.EqAt.same _
      · obtain ⟨js, r2, p2, _⟩ := I.tuple k1
        refine SeqAt.EqAt.of_refs hab ?_
        have key := SeqAt.RcAt.tuples (e := ePs xs ys) p1 p2 hu0 fun j q1 q2 => eqAts I xs ys h2 k2 r1 r2 hu1 j (by simpa using q1) (by simpa using q2)
        have e1 : is.length = xs.length := by rw [← r1.length, h2.length]
        have e2 : js.length = ys.length := by rw [← r2.length, k2.length]
        simp only [List.size_toArray] at key
        rw [e1, e2, all_ePs] at key
        simpa [eqP] using key
  | .lst xs, y, v, v', u, u', A, h, k, r, r', hu => by
    have h0 := h
    obtain ⟨a, vs, rfl, h1, h2⟩ := h
    cases r
    obtain ⟨is, r1, p1, _⟩ := I.list h1
    have hu0 : A.units < cLine := by omega
    have hu1 : A.in1.units + deps xs < cLine := by
      have e : dep (.lst xs) = deps xs + 1 := by rw [dep]
      rw [e] at hu
      show A.units + 1 + deps xs < cLine
      omega
    cases y with
    | non => cases k; cases r'; exact SeqAt.EqAt.list_none p1.isList hu0
    | bl b => cases k; cases r'; exact SeqAt.EqAt.list_bool _ p1.isList hu0
    | int b => cases k; obtain ⟨t, rfl⟩ := r'; exact SeqAt.EqAt.list_int _ _ p1.isList hu0
    | str b => cases k; obtain ⟨t, rfl⟩ := r'; exact SeqAt.EqAt.list_str _ _ p1.isList hu0
    | tup ys => obtain ⟨b, us, rfl, k1, k2⟩ := k; cases r'; obtain ⟨_, _, p, _⟩ := I.tuple k1; exact SeqAt.EqAt.list_tuple p1.isList p hu0
    | lst ys =>
      have k0 := k
      obtain ⟨b, us, rfl, k1, k2⟩ := k
      cases r'
      by_cases hab : a = b
      · subst hab
        rw [At.one I h0 k0]
        exact SeqAt.EqAt.same _
      · obtain ⟨js, r2, p2, _⟩ := I.list k1
        refine SeqAt.EqAt.of_refs hab ?_
        have e1 : is.length = xs.length := by rw [← r1.length, h2.length]
        have e2 : js.length = ys.length := by rw [← r2.length, k2.length]
        have ae := all_ePs xs ys
        by_cases hl : xs.length = ys.length
        · have key := SeqAt.RcAt.lists (e := ePs xs ys) p1.isList p2.isList (by simp only [List.size_toArray]; omega) hu0 fun j q1 q2 => eqAts I xs ys h2 k2 r1 r2 hu1 j (by simpa using q1) (by simpa using q2)
          simp only [List.size_toArray] at key
          rw [hl, Nat.min_self] at ae
          have e3 : (ys.length == ys.length) = true := by simp
          rw [e3, Bool.and_true] at ae
          rw [e1, hl, ae] at key
          simpa [eqP] using key
        · have key := SeqAt.RcAt.lists_lengths p1.isList p2.isList (A := A) (by simp only [List.size_toArray]; rw [e1, e2]; simpa using hl) hu0
          have e3 : eqPs xs ys = false := by
            rw [← ae]
            have : (xs.length == ys.length) = false := by simpa using hl
            rw [this, Bool.and_false]
          simpa [eqP, e3] using key
theorem eqAts (I : Inv X pins σ H s) : ∀ (xs ys : List Py) {vs us : List V} {is js : List Value} {A : Around}, Ats X.K H xs vs → Ats X.K H ys us → Vals vs is → Vals us js → A.units + deps xs < cLine → ∀ j (h1 : j < is.length) (h2 : j < js.length), SeqAt.EqAt A s is[j] js[j] (ePs xs ys j)
  | [], ys, vs, us, is, js, A, h, k, r, r', hu, j, h1, h2 => by
    cases h; cases r; exact absurd h1 (Nat.not_lt_zero _)
  | x :: xs, [], vs, us, is, js, A, h, k, r, r', hu, j, h1, h2 => by
    cases k; cases r'; exact absurd h2 (Nat.not_lt_zero _)
  | x :: xs, y :: ys, vs, us, is, js, A, h, k, r, r', hu, j, h1, h2 => by
    obtain ⟨v, vs', rfl, a1, a2⟩ := h
    obtain ⟨v', us', rfl, b1, b2⟩ := k
    cases r with
    | cons q1 q2 =>
      cases r' with
      | cons z1 z2 =>
        have e : deps (x :: xs) = max (dep x) (deps xs) := by rw [deps]
        rw [e] at hu
        cases j with
        | zero => exact eqAt I x y a1 b1 q1 z1 (by omega)
        | succ j =>
          have := eqAts I xs ys a2 b2 q2 z2 (A := A) (by omega) j (by simpa using h1) (by simpa using h2)
          simpa [ePs] using this
end
theorem rcAt (I : Inv X pins σ H s) (x y : Py) {v v' : V} {u u' : Value} {A : Around} (h : At X.K H x v) (k : At X.K H y v') (r : RelV v u) (r' : RelV v' u') (hu : A.units + dep x < cLine) : SeqAt.RcAt A s u u' (eqP x y) := by
  have hu0 : A.units < cLine := by omega
  cases x with
  | non =>
    cases h; cases r
    cases y with
    | non => cases k; cases r'; exact SeqAt.RcAt.none_none
    | bl b => cases k; cases r'; exact SeqAt.RcAt.none_bool _
    | int b => cases k; obtain ⟨t, rfl⟩ := r'; exact SeqAt.RcAt.none_int _ _
    | str b => cases k; obtain ⟨t, rfl⟩ := r'; exact SeqAt.RcAt.none_str _ _
    | tup ys => obtain ⟨b, us, rfl, k1, k2⟩ := k; cases r'; obtain ⟨js, r2, p2, _⟩ := I.tuple k1; exact SeqAt.RcAt.none_tuple p2 hu0
    | lst ys => obtain ⟨b, us, rfl, k1, k2⟩ := k; cases r'; obtain ⟨js, r2, p2, _⟩ := I.list k1; exact SeqAt.RcAt.none_list p2.isList hu0
  | bl i =>
    cases h; cases r
    cases y with
    | non => cases k; cases r'; exact SeqAt.RcAt.bool_none _
    | bl b => cases k; cases r'; exact SeqAt.RcAt.bool_bool _ _
    | int b => cases k; obtain ⟨t, rfl⟩ := r'; exact SeqAt.RcAt.bool_int _ _ _
    | str b => cases k; obtain ⟨t, rfl⟩ := r'; exact SeqAt.RcAt.bool_str _ _ _
    | tup ys => obtain ⟨b, us, rfl, k1, k2⟩ := k; cases r'; obtain ⟨js, r2, p2, _⟩ := I.tuple k1; exact SeqAt.RcAt.bool_tuple _ p2 hu0
    | lst ys => obtain ⟨b, us, rfl, k1, k2⟩ := k; cases r'; obtain ⟨js, r2, p2, _⟩ := I.list k1; exact SeqAt.RcAt.bool_list _ p2.isList hu0
  | int i =>
    cases h; obtain ⟨t0, rfl⟩ := r
    cases y with
    | non => cases k; cases r'; exact SeqAt.RcAt.int_none _ _
    | bl b => cases k; cases r'; exact SeqAt.RcAt.int_bool _ _ _
    | int b => cases k; obtain ⟨t, rfl⟩ := r'; exact SeqAt.RcAt.int_int _ _ _ _
    | str b => cases k; obtain ⟨t, rfl⟩ := r'; exact SeqAt.RcAt.int_str _ _ _ _
    | tup ys => obtain ⟨b, us, rfl, k1, k2⟩ := k; cases r'; obtain ⟨js, r2, p2, _⟩ := I.tuple k1; exact SeqAt.RcAt.int_tuple _ _ p2 hu0
    | lst ys => obtain ⟨b, us, rfl, k1, k2⟩ := k; cases r'; obtain ⟨js, r2, p2, _⟩ := I.list k1; exact SeqAt.RcAt.int_list _ _ p2.isList hu0
  | str i =>
    cases h; obtain ⟨t0, rfl⟩ := r
    cases y with
    | non => cases k; cases r'; exact SeqAt.RcAt.str_none _ _
    | bl b => cases k; cases r'; exact SeqAt.RcAt.str_bool _ _ _
    | int b => cases k; obtain ⟨t, rfl⟩ := r'; exact SeqAt.RcAt.str_int _ _ _ _
    | str b => cases k; obtain ⟨t, rfl⟩ := r'; exact SeqAt.RcAt.str_str _ _ _ _
    | tup ys => obtain ⟨b, us, rfl, k1, k2⟩ := k; cases r'; obtain ⟨js, r2, p2, _⟩ := I.tuple k1; exact SeqAt.RcAt.str_tuple _ _ p2 hu0
    | lst ys => obtain ⟨b, us, rfl, k1, k2⟩ := k; cases r'; obtain ⟨js, r2, p2, _⟩ := I.list k1; exact SeqAt.RcAt.str_list _ _ p2.isList hu0
  | tup xs =>
    obtain ⟨a, vs, rfl, h1, h2⟩ := h
    cases r
    obtain ⟨is, r1, p1, _⟩ := I.tuple h1
    have hu1 : A.in1.units + deps xs < cLine := by
      have e : dep (.tup xs) = deps xs + 1 := by rw [dep]
      rw [e] at hu
      show A.units + 1 + deps xs < cLine
      omega
    cases y with
    | non => cases k; cases r'; exact SeqAt.RcAt.tuple_none p1 hu0
    | bl b => cases k; cases r'; exact SeqAt.RcAt.tuple_bool _ p1 hu0
    | int b => cases k; obtain ⟨t, rfl⟩ := r'; exact SeqAt.RcAt.tuple_int _ _ p1 hu0
    | str b => cases k; obtain ⟨t, rfl⟩ := r'; exact SeqAt.RcAt.tuple_str _ _ p1 hu0
    | tup ys =>
      obtain ⟨b, us, rfl, k1, k2⟩ := k; cases r'; obtain ⟨js, r2, p2, _⟩ := I.tuple k1
      have e1 : is.length = xs.length := by rw [← r1.length, h2.length]
      have e2 : js.length = ys.length := by rw [← r2.length, k2.length]
      have ae := all_ePs xs ys
      have key := SeqAt.RcAt.tuples (e := ePs xs ys) p1 p2 hu0 fun j q1 q2 => eqAts I xs ys h2 k2 r1 r2 hu1 j (by simpa using q1) (by simpa using q2)
      simp only [List.size_toArray] at key
      rw [e1, e2, ae] at key
      simpa [eqP] using key
    | lst ys => obtain ⟨b, us, rfl, k1, k2⟩ := k; cases r'; obtain ⟨js, r2, p2, _⟩ := I.list k1; exact SeqAt.RcAt.tuple_list p1 p2.isList hu0
  | lst xs =>
    obtain ⟨a, vs, rfl, h1, h2⟩ := h
    cases r
    obtain ⟨is, r1, p1, _⟩ := I.list h1
    have hu1 : A.in1.units + deps xs < cLine := by
      have e : dep (.lst xs) = deps xs + 1 := by rw [dep]
      rw [e] at hu
      show A.units + 1 + deps xs < cLine
      omega
    cases y with
    | non => cases k; cases r'; exact SeqAt.RcAt.list_none p1.isList hu0
    | bl b => cases k; cases r'; exact SeqAt.RcAt.list_bool _ p1.isList hu0
    | int b => cases k; obtain ⟨t, rfl⟩ := r'; exact SeqAt.RcAt.list_int _ _ p1.isList hu0
    | str b => cases k; obtain ⟨t, rfl⟩ := r'; exact SeqAt.RcAt.list_str _ _ p1.isList hu0
    | tup ys => obtain ⟨b, us, rfl, k1, k2⟩ := k; cases r'; obtain ⟨js, r2, p2, _⟩ := I.tuple k1; exact SeqAt.RcAt.list_tuple p1.isList p2 hu0
    | lst ys =>
      obtain ⟨b, us, rfl, k1, k2⟩ := k; cases r'; obtain ⟨js, r2, p2, _⟩ := I.list k1
      have e1 : is.length = xs.length := by rw [← r1.length, h2.length]
      have e2 : js.length = ys.length := by rw [← r2.length, k2.length]
      have ae := all_ePs xs ys
      by_cases hl : xs.length = ys.length
      · have key := SeqAt.RcAt.lists (e := ePs xs ys) p1.isList p2.isList (by simp only [List.size_toArray]; omega) hu0 fun j q1 q2 => eqAts I xs ys h2 k2 r1 r2 hu1 j (by simpa using q1) (by simpa using q2)
        simp only [List.size_toArray] at key
        rw [hl, Nat.min_self] at ae
        have e3 : (ys.length == ys.length) = true := by simp
        rw [e3, Bool.and_true] at ae
        rw [e1, hl, ae] at key
        simpa [eqP] using key
      · have key := SeqAt.RcAt.lists_lengths p1.isList p2.isList (A := A) (by simp only [List.size_toArray]; rw [e1, e2]; simpa using hl) hu0
        have e3 : eqPs xs ys = false := by
          rw [← ae]
          have : (xs.length == ys.length) = false := by simpa using hl
          rw [this, Bool.and_false]
        simpa [eqP, e3] using key
theorem rneAt (I : Inv X pins σ H s) (x y : Py) {v v' : V} {u u' : Value} {A : Around} (h : At X.K H x v) (k : At X.K H y v') (r : RelV v u) (r' : RelV v' u') (hu : A.units + dep x < cLine) : SeqAt.RcNeAt A s u u' (!eqP x y) := by
  have hu0 : A.units < cLine := by omega
  cases x with
  | non =>
    cases h; cases r
    cases y with
    | non => cases k; cases r'; exact SeqAt.RcNeAt.none_none
    | bl b => cases k; cases r'; exact SeqAt.RcNeAt.none_bool _
    | int b => cases k; obtain ⟨t, rfl⟩ := r'; exact SeqAt.RcNeAt.none_int _ _
    | str b => cases k; obtain ⟨t, rfl⟩ := r'; exact SeqAt.RcNeAt.none_str _ _
    | tup ys => obtain ⟨b, us, rfl, k1, k2⟩ := k; cases r'; obtain ⟨js, r2, p2, _⟩ := I.tuple k1; exact SeqAt.RcNeAt.none_tuple p2 hu0
    | lst ys => obtain ⟨b, us, rfl, k1, k2⟩ := k; cases r'; obtain ⟨js, r2, p2, _⟩ := I.list k1; exact SeqAt.RcNeAt.none_list p2.isList hu0
  | bl i =>
    cases h; cases r
    cases y with
    | non => cases k; cases r'; exact SeqAt.RcNeAt.bool_none _
    | bl b => cases k; cases r'; exact SeqAt.RcNeAt.bool_bool _ _
    | int b => cases k; obtain ⟨t, rfl⟩ := r'; exact SeqAt.RcNeAt.bool_int _ _ _
    | str b => cases k; obtain ⟨t, rfl⟩ := r'; exact SeqAt.RcNeAt.bool_str _ _ _
    | tup ys => obtain ⟨b, us, rfl, k1, k2⟩ := k; cases r'; obtain ⟨js, r2, p2, _⟩ := I.tuple k1; exact SeqAt.RcNeAt.bool_tuple _ p2 hu0
    | lst ys => obtain ⟨b, us, rfl, k1, k2⟩ := k; cases r'; obtain ⟨js, r2, p2, _⟩ := I.list k1; exact SeqAt.RcNeAt.bool_list _ p2.isList hu0
  | int i =>
    cases h; obtain ⟨t0, rfl⟩ := r
    cases y with
    | non => cases k; cases r'; exact SeqAt.RcNeAt.int_none _ _
    | bl b => cases k; cases r'; exact SeqAt.RcNeAt.int_bool _ _ _
    | int b => cases k; obtain ⟨t, rfl⟩ := r'; exact SeqAt.RcNeAt.int_int _ _ _ _
    | str b => cases k; obtain ⟨t, rfl⟩ := r'; exact SeqAt.RcNeAt.int_str _ _ _ _
    | tup ys => obtain ⟨b, us, rfl, k1, k2⟩ := k; cases r'; obtain ⟨js, r2, p2, _⟩ := I.tuple k1; exact SeqAt.RcNeAt.int_tuple _ _ p2 hu0
    | lst ys => obtain ⟨b, us, rfl, k1, k2⟩ := k; cases r'; obtain ⟨js, r2, p2, _⟩ := I.list k1; exact SeqAt.RcNeAt.int_list _ _ p2.isList hu0
  | str i =>
    cases h; obtain ⟨t0, rfl⟩ := r
    cases y with
    | non => cases k; cases r'; exact SeqAt.RcNeAt.str_none _ _
    | bl b => cases k; cases r'; exact SeqAt.RcNeAt.str_bool _ _ _
    | int b => cases k; obtain ⟨t, rfl⟩ := r'; exact SeqAt.RcNeAt.str_int _ _ _ _
    | str b => cases k; obtain ⟨t, rfl⟩ := r'; exact SeqAt.RcNeAt.str_str _ _ _ _
    | tup ys => obtain ⟨b, us, rfl, k1, k2⟩ := k; cases r'; obtain ⟨js, r2, p2, _⟩ := I.tuple k1; exact SeqAt.RcNeAt.str_tuple _ _ p2 hu0
    | lst ys => obtain ⟨b, us, rfl, k1, k2⟩ := k; cases r'; obtain ⟨js, r2, p2, _⟩ := I.list k1; exact SeqAt.RcNeAt.str_list _ _ p2.isList hu0
  | tup xs =>
    obtain ⟨a, vs, rfl, h1, h2⟩ := h
    cases r
    obtain ⟨is, r1, p1, _⟩ := I.tuple h1
    have hu1 : A.in1.units + deps xs < cLine := by
      have e : dep (.tup xs) = deps xs + 1 := by rw [dep]
      rw [e] at hu
      show A.units + 1 + deps xs < cLine
      omega
    cases y with
    | non => cases k; cases r'; exact SeqAt.RcNeAt.tuple_none p1 hu0
    | bl b => cases k; cases r'; exact SeqAt.RcNeAt.tuple_bool _ p1 hu0
    | int b => cases k; obtain ⟨t, rfl⟩ := r'; exact SeqAt.RcNeAt.tuple_int _ _ p1 hu0
    | str b => cases k; obtain ⟨t, rfl⟩ := r'; exact SeqAt.RcNeAt.tuple_str _ _ p1 hu0
    | tup ys =>
      obtain ⟨b, us, rfl, k1, k2⟩ := k; cases r'; obtain ⟨js, r2, p2, _⟩ := I.tuple k1
      have e1 : is.length = xs.length := by rw [← r1.length, h2.length]
      have e2 : js.length = ys.length := by rw [← r2.length, k2.length]
      have ae := all_ePs xs ys
      have key := SeqAt.RcNeAt.tuples (e := ePs xs ys) p1 p2 hu0 fun j q1 q2 => eqAts I xs ys h2 k2 r1 r2 hu1 j (by simpa using q1) (by simpa using q2)
      simp only [List.size_toArray] at key
      rw [e1, e2, ae] at key
      simpa [eqP] using key
    | lst ys => obtain ⟨b, us, rfl, k1, k2⟩ := k; cases r'; obtain ⟨js, r2, p2, _⟩ := I.list k1; exact SeqAt.RcNeAt.tuple_list p1 p2.isList hu0
  | lst xs =>
    obtain ⟨a, vs, rfl, h1, h2⟩ := h
    cases r
    obtain ⟨is, r1, p1, _⟩ := I.list h1
    have hu1 : A.in1.units + deps xs < cLine := by
      have e : dep (.lst xs) = deps xs + 1 := by rw [dep]
      rw [e] at hu
      show A.units + 1 + deps xs < cLine
      omega
    cases y with
    | non => cases k; cases r'; exact SeqAt.RcNeAt.list_none p1.isList hu0
    | bl b => cases k; cases r'; exact SeqAt.RcNeAt.list_bool _ p1.isList hu0
    | int b => cases k; obtain ⟨t, rfl⟩ := r'; exact SeqAt.RcNeAt.list_int _ _ p1.isList hu0
    | str b => cases k; obtain ⟨t, rfl⟩ := r'; exact SeqAt.RcNeAt.list_str _ _ p1.isList hu0
    | tup ys => obtain ⟨b, us, rfl, k1, k2⟩ := k; cases r'; obtain ⟨js, r2, p2, _⟩ := I.tuple k1; exact SeqAt.RcNeAt.list_tuple p1.isList p2 hu0
    | lst ys =>
      obtain ⟨b, us, rfl, k1, k2⟩ := k; cases r'; obtain ⟨js, r2, p2, _⟩ := I.list k1
      have e1 : is.length = xs.length := by rw [← r1.length, h2.length]
      have e2 : js.length = ys.length := by rw [← r2.length, k2.length]
      have ae := all_ePs xs ys
      by_cases hl : xs.length = ys.length
      · have key := SeqAt.RcNeAt.lists (e := ePs xs ys) p1.isList p2.isList (by simp only [List.size_toArray]; omega) hu0 fun j q1 q2 => eqAts I xs ys h2 k2 r1 r2 hu1 j (by simpa using q1) (by simpa using q2)
        simp only [List.size_toArray] at key
        rw [hl, Nat.min_self] at ae
        have e3 : (ys.length == ys.length) = true := by simp
        rw [e3, Bool.and_true] at ae
        rw [e1, hl, ae] at key
        simpa [eqP] using key
      · have key := SeqAt.RcNeAt.lists_lengths p1.isList p2.isList (A := A) (by simp only [List.size_toArray]; rw [e1, e2]; simpa using hl) hu0
        have e3 : eqPs xs ys = false := by
          rw [← ae]
          have : (xs.length == ys.length) = false := by simpa using hl
          rw [this, Bool.and_false]
        simpa [eqP, e3] using key
def rP (K : PySem.W.Frag) (f : Bool → Bool) : R2 := fun v v' H Q => ∃ x y : Py, At K H x v ∧ At K H y v' ∧ dep x ≤ 60 ∧ Q (.bl (f (eqP x y))) H
theorem op_eqP (hu : X.A.units + 61 < cLine) : OpR X (compareOp .Eq) (rP X.K id) := by
  intro pins s σ H x y v u Q I rx ry h
  obtain ⟨a, b, h1, h2, d, q⟩ := h
  exact rcAt I a b h1 h2 rx ry (by omega) X.prog X.w X.xe _ ⟨.bl _, H, I, rfl, q⟩
theorem op_neP (hu : X.A.units + 61 < cLine) : OpR X (compareOp .NotEq) (rP X.K not) := by
  intro pins s σ H x y v u Q I rx ry h
  obtain ⟨a, b, h1, h2, d, q⟩ := h
  exact rneAt I a b h1 h2 rx ry (by omega) X.prog X.w X.xe _ ⟨.bl _, H, I, rfl, q⟩
end
end Ov
set_option Elab.async false
set_option linter.all false
set_option maxRecDepth 100000
namespace Ov
open PySem PySem.Spec PySem.Calls PyProof.Rows PySem.W Builtin.Getset_descriptor
def ExcAt (x D : Addr) (h : Heap) : Prop := ∃ ox, h.get? x = some ox ∧ ox.cls = .ref D
theorem ExcAt.ty {M : Model} {h : Heap} {x D : Addr} (I : ExcAt x D h) : Looks M h (typeOf (.ref x)) (.ref D) := by
  obtain ⟨ox, a, b⟩ := I
  rw [← b]
  exact (Looks.ld a).andThen .now
section
variable {prog : Program} {w : World} {A : Around} {E : Value → Shared → Prop} {s : Shared} {K : Frag} {x D : Addr}
structure XCls (K : Frag) (D : Addr) : Prop where
  cls : (clsIn K D).isSome = true
  ga : findIn K (.ref D) "__getattribute__" = some (some (.builtin "BaseException.__getattribute__"))
  gt : findIn K (.ref D) "__getattr__" = some none
  ca : findIn K (.ref D) "__class__" = some (some (.builtin "object.__class__"))
  get : specialIn K (.builtin "object.__class__") "__get__" = some (some (.builtin "getset_descriptor.__get__"))
  tk : takesIn K (.builtin "object.__class__") = some true
  obj : mroIn K D (.type "object") = some true
  bex : subIn K (.ref D) (.type "BaseException") = some true
theorem XCls.at {h : Heap} (Z : XCls K D) (X : K.In h) : ∃ c d cd sl, h.get? D = some ⟨c, d, .cls cd, sl⟩ := by
  obtain ⟨cd, q⟩ := Option.isSome_iff_exists.mp Z.cls
  unfold clsIn at q
  split at q
  · exact ⟨_, _, _, _, X _ _ (by assumption)⟩
  · cases q
end
end Ov
set_option Elab.async false
set_option linter.all false
set_option maxRecDepth 100000
namespace Ov
open PySem PySem.Spec PyProof.Rows L2
structure FlyAt (P : Program) (w : World) (outer : List Env) (H : Hp) (s : Shared) (ea : Addr) (cls : Value) (H' : Hp) (s' : Shared) : Prop where
  os : s'.os = s.os
  bare : AllBare s'.gens
  un : Un (frs outer) [] H H' s.heap s'.heap
  hok : HOk P w H' s'.heap
  fl : ∃ B t, Heap.FlyingW B outer ea cls (.ref t) s'.heap ∧ ∀ b o, s'.heap.get? b = some o → (H' b ≠ none ∨ ∃ o₀, s.heap.get? b = some o₀) → b ∉ frs outer → B.get? b = some o
def Fly (P : Program) (w : World) : CXT := fun outer H s E e s' => ∃ ea cls H', e = .ref ea ∧ FlyAt P w outer H s ea cls H' s' ∧ E cls none H'
theorem objSome {P : Program} {w : World} {H : Hp} {h : Heap} {a : Addr} {o : HO} (x : ObjOk P w H h a o) : ∃ ob, h.get? a = Option.some ob := by
  have lt := x.lt
  cases o with
  | lst xs => obtain ⟨_, _, _, _, e⟩ := x; exact ⟨_, e⟩
  | tup xs => obtain ⟨_, _, _, ob, e, _⟩ := x; exact ⟨_, e⟩
  | dK kvs => obtain ⟨_, _, _, _, o, _, _, e, _⟩ := x; exact ⟨_, e⟩
  | dE kvs ep => obtain ⟨_, _, _, _, o, _, e, _⟩ := x; exact ⟨_, e⟩
  | set S n => obtain ⟨o, _, _, _, e, _⟩ := x; exact ⟨_, e⟩
  | ins C dx fs => obtain ⟨_, _, _, e, _⟩ := x; exact ⟨_, e⟩
  | own y => exact x
  | xd fs => obtain ⟨_, ⟨_, _, _, e, _⟩, _⟩ := x; exact ⟨_, e⟩
  | rng lo hi => obtain ⟨_, _, _, e⟩ := x; exact ⟨_, e⟩
  | frz ob u => obtain ⟨e, _⟩ := x; exact ⟨_, e⟩
  | tbl ps => exact ⟨_, x⟩
  | met f y => exact ⟨_, x⟩
  | ext φ => obtain ⟨_, e, _⟩ := x; exact e
section
variable {X : Cx} {pins : List (Addr × Obj)} {σ : L2.St} {H H' : Hp} {s : Shared} {ea t : Addr} {cls : Value} {B h1 h2 : Heap}
theorem frame_no (I : Inv X pins σ H s) (un : Un (frs X.stack) [] H H' s.heap h1) {b : Addr} (hb : b ∈ frs X.stack) : H' b = none ∧ ∃ o, h1.get? b = some o ∧ ∀ vs, o.data ≠ .fields vs := by
  obtain ⟨_, o, ho, hn⟩ := I.stack.mem hb
  have n := I.stkFree b hb
  obtain ⟨sl, e⟩ := un.any ho n (by simp)
  exact ⟨un.free b o ho n (by simp), _, e, hn⟩
theorem held_un (I : Inv X pins σ H s) (un : Un (frs X.stack) [] H H' s.heap h1) (cov : ∀ b o, h1.get? b = some o → (H' b ≠ none ∨ ∃ o₀, s.heap.get? b = some o₀) → b ∉ frs X.stack → B.get? b = some o)
    (hB : B.StaysIn h2) (up : h1.UpToSlots h2) : Un (frs X.stack) [] H H' s.heap h2 where
  keep := fun b o e n hb hx => hB b o (cov b o (un.keep b o e n hb hx) (.inr ⟨o, e⟩) hb)
  slot := fun b o e n hb hx => by
    obtain ⟨sl, e1⟩ := un.slot b o e n hb hx
    obtain ⟨_, o', e2, hn⟩ := frame_no I un hb
    rw [e1] at e2; cases e2
    obtain ⟨sl', e3⟩ := up b _ e1 hn
    exact ⟨sl', e3⟩
  free := un.free
  there := fun b o e hx => by
    obtain ⟨o', e1⟩ := un.there b o e hx
    by_cases hb : b ∈ frs X.stack
    · obtain ⟨_, o2, e2, hn⟩ := frame_no I un hb
      obtain ⟨sl', e3⟩ := up b _ e2 hn
      exact ⟨_, e3⟩
    · exact ⟨o', hB b o' (cov b o' e1 (.inr ⟨o, e⟩) hb)⟩
  tups := un.tups
  frzs := un.frzs
  tbls := un.tbls
theorem held_ok (I : Inv X pins σ H s) (un : Un (frs X.stack) [] H H' s.heap h1) (cov : ∀ b o, h1.get? b = some o → (H' b ≠ none ∨ ∃ o₀, s.heap.get? b = some o₀) → b ∉ frs X.stack → B.get? b = some o)
    (hB : B.StaysIn h2) (ok : HOk X.prog X.w H' h1) : HOk X.prog X.w H' h2 := fun a o e => by
  have nf : ∀ b u, H' b = some u → b ∉ frs X.stack := fun b u q hb => by
    have := (frame_no I un hb).1
    rw [q] at this; cases this
  refine (ok a o e).stay (fun b u hb q => ?_) (fun _ q => q) fun _ _ q => q
  rcases hb with rfl | hb
  · exact hB _ _ (cov _ _ q (.inl (by rw [e]; exact fun z => nomatch z)) (nf _ _ e))
  · exact hB _ _ (cov _ _ q (.inl (by rw [hb]; exact fun z => nomatch z)) (nf _ _ hb))
theorem cov_on (un : Un (frs X.stack) [] H H' s.heap h1) (ok : HOk X.prog X.w H' h1) (cov : ∀ b o, h1.get? b = some o → (H' b ≠ none ∨ ∃ o₀, s.heap.get? b = some o₀) → b ∉ frs X.stack → B.get? b = some o) (hB : B.StaysIn h2) :
    ∀ b o, h2.get? b = some o → (H' b ≠ none ∨ ∃ o₀, s.heap.get? b = some o₀) → b ∉ frs X.stack → B.get? b = some o := fun b o e hb nb => by
  have : ∃ o1, h1.get? b = some o1 := by
    rcases hb with z | ⟨o₀, z⟩
    · cases q : H' b with
      | none => exact absurd q z
      | some u => exact objSome (ok b u q)
    · exact un.there b o₀ z (by simp)
  obtain ⟨o1, e1⟩ := this
  have c := cov b o1 e1 hb nb
  have := hB b o1 c
  rw [e] at this; cases this
  exact c
theorem fly_out {s2 : Shared} (I : Inv X pins σ H s) (hst : X.stack = X.env :: X.outer) (hfr : X.env.frame = some X.env.locals) (hex : X.ex = []) (os : s2.os = s.os) (bare : AllBare s2.gens) (un : Un (frs X.stack) [] H H' s.heap s2.heap)
    (ok : HOk X.prog X.w H' s2.heap) (cov : ∀ b o, s2.heap.get? b = some o → (H' b ≠ none ∨ ∃ o₀, s.heap.get? b = some o₀) → b ∉ frs X.stack → B.get? b = some o) (fl : Heap.FlyingW B X.outer ea cls (.ref t) s2.heap) :
    FlyAt X.prog X.w X.outer X.H₀ X.s₀ ea cls H' s2 := by
  have nst : ∀ b o, X.s₀.heap.get? b = some o → b ∉ X.fs → b ∉ frs X.stack := fun b o e nb hb => by
    rcases List.mem_cons.mp (I.stkSub b hb) with z | z
    · have := Nat.lt_of_lt_of_le (Heap.lt_size e) I.ok.above
      rw [z] at this
      exact Nat.lt_irrefl _ this
    · exact nb z
  have sub : ∀ b, b ∈ X.fs → b ∈ frs X.stack := fun b hb => by rw [hst]; unfold frs; rw [List.filterMap_cons, hfr]; exact List.mem_cons_of_mem _ hb
  have nx : ∀ b : Addr, b ∉ X.ex := fun b => by rw [hex]; simp
  refine ⟨os.trans I.os, bare, ⟨fun b o e n hb _ => ?_, fun b o e n hb _ => ?_, fun b o e n _ => ?_, fun b o e _ => ?_, fun b xs q => un.tups b xs (I.base.tups b xs q), fun b o xs q => un.frzs b o xs (I.base.frzs b o xs q), fun b ps q => ?_⟩, ok, B, t, fl, fun b o e hb nb => ?_⟩
  · exact un.keep b o (I.base.keep b o e n hb (nx b)) (I.base.free b o e n (nx b)) (nst b o e hb) (by simp)
  · obtain ⟨sl, e1⟩ := I.base.slot b o e n hb (nx b)
    obtain ⟨sl', e2⟩ := un.slot b _ e1 (I.base.free b o e n (nx b)) (sub b hb) (by simp)
    exact ⟨sl', e2⟩
  · obtain ⟨o', e1⟩ := I.base.there b o e (nx b)
    exact un.free b o' e1 (I.base.free b o e n (nx b)) (by simp)
  · obtain ⟨o', e1⟩ := I.base.there b o e (nx b)
    exact un.there b o' e1 (by simp)
  · obtain ⟨m1, e1⟩ := I.base.tbls b ps q
    obtain ⟨m2, e2⟩ := un.tbls b _ e1
    exact ⟨m1 ++ m2, by rw [e2, Array.append_assoc]⟩
  · rcases hb with z | ⟨o₀, z⟩
    · exact cov b o e (.inl z) fun hb => z (frame_no I un hb).1
    · obtain ⟨o1, e1⟩ := I.base.there b o₀ z (nx b)
      exact cov b o e (.inr ⟨o1, e1⟩) (nst b o₀ z nb)
theorem leave_fly {E : XK} {e : Value} {s' : Shared} {R : Value → Shared → Prop} (I : Inv X pins σ H s) (hst : X.stack = X.env :: X.outer) (hfr : X.env.frame = some X.env.locals) (hex : X.ex = []) (h : Fly X.prog X.w X.stack H s E e s') :
    wpAny (model X.prog X.w) X.A (leaving X.env e) (fun _ s'' => Fly X.prog X.w X.outer X.H₀ X.s₀ E e s'') R s' := by
  obtain ⟨ea, cls, H', rfl, F, q⟩ := h
  obtain ⟨B, t, fl, cov⟩ := F.fl
  refine wpAny_leaves_onW (by rw [I.ok.frames, hst]) hfr (hst ▸ fl) fun h2 fl2 up => ?_
  exact ⟨ea, cls, H', rfl, fly_out (s2 := { s' with heap := h2 }) I hst hfr hex F.os F.bare (held_un I F.un cov fl2.1 up) (held_ok I F.un cov fl2.1 F.hok) (cov_on F.un F.hok cov fl2.1) fl2, q⟩
end
end Ov
set_option Elab.async false
set_option linter.all false
set_option maxRecDepth 100000
namespace Ov
open PySem PySem.Spec PyProof.Rows L2
section
variable {P : Program} {w : World} {K : PySem.W.Frag} {mg : Str → Option Value} {base : Heap} {N : List Str} {qual : Str} {scope : Scope} {f : Addr} {cd : Value} {A : Around} {outer : List Env} {s : Shared} {H : Hp} {E : XK}
abbrev cxF (P : Program) (w : World) (K : PySem.W.Frag) (mg : Str → Option Value) (base : Heap) (N : List Str) (qual : Str) (scope : Scope) (f : Addr) (cd : Value) (A : Around) (outer : List Env) (s : Shared) (H : Hp) (E : XK) : Cx := cxOf (Fly P w) P w K mg base N qual scope f cd A outer s H E
theorem cxF_passes : Passes (Fly P w) (cxF P w K mg base N qual scope f cd A outer s H E) E := fun pins σ H1 s1 e s' I h =>
  leave_fly (X := cxF P w K mg base N qual scope f cd A outer s H E) I rfl rfl rfl h
theorem cxF_own : PassesOwn (model P w) (cxF P w K mg base N qual scope f cd A outer s H E).A (cxF P w K mg base N qual scope f cd A outer s H E).env (cxF P w K mg base N qual scope f cd A outer s H E).xe := PassesOwn.leaving
theorem okX {x qual : Str} {st : Stmt} {f : Addr} {fd : FuncData} {N ps : List Str} {k : Nat} {sp : Sp} (F : Fun K x qual st f fd) (S : FnScope N ps (defScope st)) (len : ∀ vs H Q E, sp vs H Q E → vs.length = ps.length)
    (hbody : ∀ (cdv : Value) (A : Around) (outer : List Env) (s : Shared) (H : Hp) (vs : List V) (Q : VK) (E : XK), Room k (A.deeper (envOfC qual (defScope st) s.heap.objs.size f cdv)) → sp vs H Q E →
      ∃ t, QB (cxF P w K mg base N qual (defScope st) f cdv A outer s H E) (defBody st) t ∧ t { nx := fun _ H' => Q .non H', rt := Q } (start N vs) H) : FnOk P w K mg base (Fly P w) (k + 1) f fd ps sp := by
  obtain ⟨oc, od, kV, doc, pm, an, cdv, ct, osl, rfl, lk, hcd⟩ := F.ex
  refine fn_of lk hcd S len fun A outer s H vs Q E hr hsp => ?_
  obtain ⟨t, h, q⟩ := hbody cdv A outer s H vs Q E hr hsp
  exact ⟨t, h.run, q⟩
end
def CanX (P : Program) (w : World) (K : PySem.W.Frag) (mg : Str → Option Value) (base : Heap) (k : Nat) (x : Str) (ps : List Str) (sp : Sp) : Prop :=
  ∃ f fd, FnOk P w K mg base (Fly P w) k f fd ps sp ∧ Binds K fd ps [] ∧ PySem.W.keepIn K (.ref f) = true ∧ mg x = some (.ref f)
theorem pe_canX {X : Cx} {k k' : Nat} {x : Str} {ps : List Str} {sp : Sp} {p pos : Pos} {e : Expr} {es : List Expr} {t : TA} {E : XK} (C : CanX X.prog X.w X.K X.mg X.base k x ps sp) (hx : Passes (Fly X.prog X.w) X E) (hr : Room k' X.A) (hk : k ≤ k') (hg : Gl X x) (ha : PA X (e :: es) t)
    (hdb : (x == ("__debug__" : Str)) = false := by decide) (he : starEach (e :: es) X.env = (false, eval e X.env) :: starEach es X.env := by rfl) (hpl : (backTo pos (starEach es X.env)).any (·.1) = false := by rfl) :
    PE X (.Call (.Name x p) (e :: es) [] pos) (tCall sp [] E t) := by
  obtain ⟨f, fd, F, b, kp, m⟩ := C
  exact pe_call F (hr.mono hk) hg m kp b .nil hx ha hdb he hpl
theorem Def.canX {P : Program} {w : World} {K : PySem.W.Frag} {mg : Str → Option Value} {base : Heap} {x : Str} {st : Stmt} {k : Nat} {ps : List Str} {sp : Sp} (D : Def K mg x st)
    (h : ∀ f fd, Fun K x x st f fd → FnOk P w K mg base (Fly P w) k f fd ps sp)
    (hb : ∀ (kV doc pm : Value) (an : Option Addr) (cdv ct : Value) (us : List Value), us.length = ps.length → bindArgs (PySem.W.fnOf x x (defArgs st) (defBody st) (defScope st) .none kV doc pm an cdv ct) ⟨us, []⟩ = pure (ps.zip us)) :
    CanX P w K mg base k x ps sp := by
  obtain ⟨f, fd, F, m⟩ := D
  exact ⟨f, fd, h f fd F, F.binds hb, F.kp, m⟩
section
variable {X : Cx} {pins pn : List (Addr × Obj)} {σ : L2.St} {H H' : Hp} {s : Shared}
theorem FlyAt.new {ea : Addr} {cls : Value} {s' : Shared} (I : Inv X pins σ H s) (F : FlyAt X.prog X.w X.stack H s ea cls H' s') : H' ea = none ∧ s.heap.get? ea = none := by
  obtain ⟨B, t, fl, cov⟩ := F.fl
  obtain ⟨oe, vs, he, _, hd, _⟩ := fl.first
  have nf : ea ∉ frs X.stack := fun hb => by
    obtain ⟨_, o, ho, hn⟩ := frame_no I F.un hb
    rw [he] at ho; cases ho
    exact hn vs hd
  have no : ¬ (H' ea ≠ none ∨ ∃ o₀, s.heap.get? ea = some o₀) := fun z => by
    have := cov ea oe he z nf
    rw [fl.2.1] at this; cases this
  refine ⟨?_, ?_⟩
  · cases q : H' ea with
    | none => rfl
    | some u => exact absurd (.inl (by rw [q]; exact fun z => nomatch z)) no
  · cases q : s.heap.get? ea with
    | none => rfl
    | some u => exact absurd (.inr ⟨u, q⟩) no
end
end Ov
set_option Elab.async false
set_option linter.all false
set_option maxRecDepth 100000
namespace Ov
open PySem PySem.Spec PyProof.Rows
open L2 (V HO Hp Inv Cx St VK TE TT TA TS Ends Loc Gl RelV Vals OpR CallR tCall upd E0 Room XK Passes)
section
variable {X : Cx} {e : Expr} {es : List Expr} {t : TA} {x : Str} {np cpos pos p : Pos}
end
open L2 (tAsg tLst tCons tNil tVar tC tCB gName)
theorem _root_.L2.Room.units61 {k : Nat} {A : Around} (r : Room k A) : A.units + 61 < cLine := by have := r.un; omega
end Ov
set_option Elab.async false
set_option linter.all false
set_option maxRecDepth 100000
namespace Ov
open PySem PySem.Spec PyProof.Rows L2
def TabOk (P : Addr) (h : Heap) : Prop := ∃ ps : Array Value, h.get? P = some { cls := .none, data := .fields ps } ∧ TriplesOk ps.toList
def CodeT (K : PySem.W.Frag) (c P : Addr) : Prop := c ≠ P ∧ ∃ (o : Obj) (vs : Array Value) (file : Str) (tf : Tok) (flags : Int) (tg : Tok) (inF : Bool) (text : Int) (tt : Tok),
  K.lookup c = some o ∧ o.cls = .type "code" ∧ o.data = .fields vs ∧ vs[11]? = some (.ref P) ∧ vs.getD 18 .none = .str file tf ∧ vs.getD 7 .none = .int flags tg ∧ vs.getD 9 .none = .bool inF ∧ vs.getD 10 .none = .int text tt
theorem CodeT.at {K : PySem.W.Frag} {h : Heap} {c P : Addr} {ps : Array Value} (Z : CodeT K c P) (X : K.In h) (hp : h.get? P = some { cls := .none, data := .fields ps }) (tr : TriplesOk ps.toList) : h.IsCode c P ps ∧ h.TableAt c P ps := by
  obtain ⟨ne, o, vs, file, tf, flags, tg, inF, text, tt, lk, hc, hd, h11, h18, h7, h9, h10⟩ := Z
  have e11 : vs.getD 11 .none = .ref P := by
    rw [Array.getD_eq_getD_getElem?, h11]; rfl
  exact ⟨⟨o, vs, file, tf, flags, tg, inF, text, tt, _, X _ _ lk, hd, e11, h18, h7, h9, h10, hp, rfl, tr, ne⟩, ⟨o, vs, X _ _ lk, hc, hd, h11⟩, hp⟩
section
variable {X : Cx} {pins : List (Addr × Obj)} {σ : L2.St} {H : Hp} {s : Shared} {c P : Addr}
end
end Ov
set_option Elab.async false
set_option linter.all false
set_option maxRecDepth 100000
namespace Ov
open PySem PySem.Spec PyProof.Rows L2
section
variable {X : Cx} {c P : Addr}
end
structure FunG (K : PySem.W.Frag) (mg : Str → Option Value) (x : Str) (st : Stmt) (P : Addr) (f : Addr) (fd : FuncData) (c : Addr) : Prop where
  fn : Fun K x x st f fd
  mg : mg x = some (.ref f)
  code : fd.code = .ref c
  tab : CodeT K c P
  out : K.lookup P = none
def DefG (K : PySem.W.Frag) (mg : Str → Option Value) (x : Str) (st : Stmt) (P : Addr) : Prop := ∃ f fd c, FunG K mg x st P f fd c
section
variable {P : Program} {w : World} {K : PySem.W.Frag} {mg : Str → Option Value} {base : Heap}
theorem DefG.can {x : Str} {st : Stmt} {T : Addr} {k : Nat} {ps : List Str} {sp : Sp} (D : DefG K mg x st T)
    (h : ∀ f fd c, FunG K mg x st T f fd c → FnOk P w K mg base CX0 k f fd ps sp)
    (hb : ∀ (kV doc pm : Value) (an : Option Addr) (cdv ct : Value) (us : List Value), us.length = ps.length → bindArgs (PySem.W.fnOf x x (defArgs st) (defBody st) (defScope st) .none kV doc pm an cdv ct) ⟨us, []⟩ = pure (ps.zip us)) :
    Can P w K mg base k x ps sp := by
  obtain ⟨f, fd, c, F⟩ := D
  exact ⟨f, fd, h f fd c F, F.fn.binds hb, F.fn.kp, F.mg⟩
end
end Ov
set_option Elab.async false
set_option linter.all false
set_option maxRecDepth 100000
namespace Ov
open PySem PySem.Spec PyProof.Rows L2
section
variable {X : Cx} {tg : Expr}
end
end Ov
set_option Elab.async false
set_option linter.all false
set_option maxRecDepth 100000
namespace Ov
open PySem PySem.Spec PyProof.Rows L2
section
variable {prog : Program} {w : World} {A : Around} {R : Result → Shared → Prop} {s : Shared}
end
section
variable {X : Cx}
end
end Ov
set_option Elab.async false
set_option linter.all false
set_option maxRecDepth 100000
namespace Ov
open PySem PySem.Spec PyProof.Rows
open L2 (V HO Hp Inv Cx VK XK TE TT TA TS TG TGs TI TO TSet Ends Vis Loc Gl Rd RelV Vals OpR UnR CallR IxR SlR MtR PSet R2 upd upd_same upd_ne SqL SqT Sp CXT It Same)
inductive PV where
  | non | bl (b : Bool) | int (i : Int) | str (x : Str) | ref (a : Addr) | ty (n : String) | tup (xs : List PV) | fl (xs : List PV)
inductive HQ where
  | lst (xs : List PV) | ins (C : Addr) (fs : List (Str × PV)) | dct (kvs : List (Str × PV)) (ep : Nat) | tab
abbrev Hq := Addr → Option HQ
def put (J : Hq) (a : Addr) (o : HQ) : Hq := fun b => if b = a then some o else J b
theorem put_same {J : Hq} {a : Addr} {o : HQ} : put J a o a = some o := by unfold put; rw [if_pos rfl]
theorem put_ne {J : Hq} {a b : Addr} {o : HQ} (h : b ≠ a) : put J a o b = J b := by unfold put; rw [if_neg h]
theorem put_put {J : Hq} {a : Addr} {o u : HQ} : put (put J a o) a u = put J a u := by
  funext b; unfold put; split <;> rfl
theorem put_id {J : Hq} {a : Addr} {o : HQ} (h : J a = some o) : put J a o = J := by
  funext b; unfold put
  by_cases e : b = a
  · subst e; rw [if_pos rfl, h]
  · rw [if_neg e]
def FlAt (K : PySem.W.Frag) (J : Hq) (H : Hp) (a : Addr) (vs : List V) : Prop := (J a = none ∧ Rd H a (.lst vs)) ∨ ∃ (o : Obj) (its : Array Value) (n : Nat), K.lookup a = some o ∧ o.cls = .type "list" ∧ o.dict = none ∧ o.data = .seq its n ∧ its.size ≤ sizeLine ∧ Vals vs its.toList
theorem FlAt.sq {K : PySem.W.Frag} {J : Hq} {H : Hp} {a : Addr} {vs : List V} (h : FlAt K J H a vs) : SqL K H a vs := by
  rcases h with h | h
  · exact .inl h.2
  · exact .inr h
section
variable (K : PySem.W.Frag)
mutual
def RepV (J : Hq) (H : Hp) : PV → V → Prop
  | .non, v => v = .non
  | .bl b, v => v = .bl b
  | .int i, v => v = .int i
  | .str x, v => v = .str x
  | .ref a, v => v = .ref a
  | .ty n, v => v = .ty n
  | .tup xs, v => ∃ a vs, v = .ref a ∧ SqT K H a vs ∧ RepVs J H xs vs
  | .fl xs, v => ∃ a vs, v = .ref a ∧ FlAt K J H a vs ∧ RepVs J H xs vs
def RepVs (J : Hq) (H : Hp) : List PV → List V → Prop
  | [], vs => vs = []
  | x :: xs, vs => ∃ v us, vs = v :: us ∧ RepV J H x v ∧ RepVs J H xs us
end
def RepF {κ : Type} (J : Hq) (H : Hp) (fs : List (κ × PV)) (gs : List (κ × V)) : Prop := fs.map (·.1) = gs.map (·.1) ∧ RepVs K J H (fs.map (·.2)) (gs.map (·.2))
def RepO (J : Hq) (H : Hp) (a : Addr) : HQ → Prop
  | .lst xs => ∃ vs, H a = some (.lst vs) ∧ RepVs K J H xs vs
  | .ins C fs => ∃ dx gs, H a = some (.ins C dx gs) ∧ RepF K J H fs gs
  | .dct kvs ep => ∃ gs, H a = some (.dE gs ep) ∧ RepF K J H kvs gs
  | .tab => H a = some (.ext (TabOk a))
def Rep (J : Hq) (H : Hp) : Prop := ∀ a o, J a = some o → RepO K J H a o
structure Ext (J : Hq) (H : Hp) (J' : Hq) (H' : Hp) : Prop where
  tup : ∀ a vs, SqT K H a vs → SqT K H' a vs
  ll : ∀ a o, J a = none → H a = some o → ((∃ vs, o = .lst vs) ∨ ∃ ob vs, o = .frz ob (.lst vs)) → J' a = none ∧ H' a = some o
end
section
variable {K : PySem.W.Frag} {J J' J'' : Hq} {H H' H'' : Hp}
theorem Ext.fl (e : Ext K J H J' H') (a : Addr) (vs : List V) (n : J a = none) (h : Rd H a (.lst vs)) : J' a = none ∧ Rd H' a (.lst vs) := by
  rcases h with h | ⟨o, h⟩
  · obtain ⟨a, b⟩ := e.ll a _ n h (.inl ⟨_, rfl⟩); exact ⟨a, .inl b⟩
  · obtain ⟨a, b⟩ := e.ll a _ n h (.inr ⟨_, _, rfl⟩); exact ⟨a, .inr ⟨o, b⟩⟩
theorem Ext.flat (e : Ext K J H J' H') {a : Addr} {vs : List V} (h : FlAt K J H a vs) : FlAt K J' H' a vs := by
  rcases h with h | h
  · exact .inl (e.fl a vs h.1 h.2)
  · exact .inr h
mutual
theorem Ext.rep (e : Ext K J H J' H') : ∀ {x : PV} {v : V}, RepV K J H x v → RepV K J' H' x v
  | .non, _, h => h
  | .bl _, _, h => h
  | .int _, _, h => h
  | .str _, _, h => h
  | .ref _, _, h => h
  | .ty _, _, h => h
  | .tup xs, _, ⟨a, vs, e1, h, k⟩ => ⟨a, vs, e1, e.tup _ _ h, Ext.reps e k⟩
  | .fl xs, _, ⟨a, vs, e1, h, k⟩ => ⟨a, vs, e1, e.flat h, Ext.reps e k⟩
theorem Ext.reps (e : Ext K J H J' H') : ∀ {xs : List PV} {vs : List V}, RepVs K J H xs vs → RepVs K J' H' xs vs
  | [], _, h => h
  | _ :: _, _, ⟨v, us, e1, h, k⟩ => ⟨v, us, e1, Ext.rep e h, Ext.reps e k⟩
end
theorem Ext.refl : Ext K J H J H := ⟨fun _ _ h => h, fun _ _ n h _ => ⟨n, h⟩⟩
theorem Ext.trans (a : Ext K J H J' H') (b : Ext K J' H' J'' H'') : Ext K J H J'' H'' :=
  ⟨fun c vs h => b.tup c vs (a.tup c vs h), fun c o n h z => b.ll c o (a.ll c o n h z).1 (a.ll c o n h z).2 z⟩
theorem Ext.repF {κ : Type} (e : Ext K J H J' H') {fs : List (κ × PV)} {gs : List (κ × V)} (h : RepF K J H fs gs) : RepF K J' H' fs gs := ⟨h.1, e.reps h.2⟩
theorem Rd.same {a : Addr} {u : HO} (s : Same H H') (h : Rd H a u) : Rd H' a u := by
  rcases h with h | ⟨o, h⟩
  · exact .inl (s _ _ h)
  · exact .inr ⟨o, s _ _ h⟩
theorem Ext.same (s : Same H H') : Ext K J H J H' := ⟨fun a vs h => s.tup h, fun a o n h _ => ⟨n, s _ _ h⟩⟩
theorem RepO.same (s : Same H H') {a : Addr} {o : HQ} (h : RepO K J H a o) : RepO K J H' a o := by
  have e := Ext.same (K := K) (J := J) s
  cases o with
  | lst xs => obtain ⟨vs, h1, h2⟩ := h; exact ⟨vs, s _ _ h1, e.reps h2⟩
  | ins C fs => obtain ⟨dx, gs, h1, h2⟩ := h; exact ⟨dx, gs, s _ _ h1, e.repF h2⟩
  | dct kvs ep => obtain ⟨gs, h1, h2⟩ := h; exact ⟨gs, s _ _ h1, e.repF h2⟩
  | tab => exact s _ _ (show H a = some (.ext (TabOk a)) from h)
theorem Rep.same (s : Same H H') (h : Rep K J H) : Rep K J H' := fun a o q => (h a o q).same s
theorem Ext.less (h : ∀ a, J' a = J a ∨ J' a = none) : Ext K J H J' H := ⟨fun _ _ h => h, fun a o n z _ => ⟨(h a).elim (fun e => e.trans n) (fun e => e), z⟩⟩
theorem Rep.less (h : ∀ a, J' a = J a ∨ J' a = none) (r : Rep K J H) : Rep K J' H := fun a o q => by
  have e : J a = some o := by
    rcases h a with e | e
    · rw [← e]; exact q
    · rw [e] at q; cases q
  have x := Ext.less (K := K) (H := H) h
  have z := r a o e
  cases o with
  | lst xs => obtain ⟨vs, h1, h2⟩ := z; exact ⟨vs, h1, x.reps h2⟩
  | ins C fs => obtain ⟨dx, gs, h1, h2⟩ := z; exact ⟨dx, gs, h1, x.repF h2⟩
  | dct kvs ep => obtain ⟨gs, h1, h2⟩ := z; exact ⟨gs, h1, x.repF h2⟩
  | tab => exact z
theorem RepVs.length : ∀ {xs : List PV} {vs : List V}, RepVs K J H xs vs → xs.length = vs.length
  | [], _, h => by cases h; rfl
  | _ :: xs, _, ⟨v, us, e1, _, k⟩ => by subst e1; simp [RepVs.length k]
theorem RepVs.get : ∀ {xs : List PV} {vs : List V} {i : Nat} {x : PV}, RepVs K J H xs vs → xs[i]? = some x → ∃ v, vs[i]? = some v ∧ RepV K J H x v
  | [], _, i, x, h, e => by simp at e
  | y :: xs, _, 0, x, ⟨v, us, e1, h, k⟩, e => by subst e1; simp at e; subst e; exact ⟨v, rfl, h⟩
  | y :: xs, _, i + 1, x, ⟨v, us, e1, h, k⟩, e => by
    subst e1
    obtain ⟨w, h1, h2⟩ := RepVs.get (i := i) (x := x) k (by simpa using e)
    exact ⟨w, by simpa using h1, h2⟩
theorem RepVs.get' : ∀ {xs : List PV} {vs : List V} {i : Nat} {v : V}, RepVs K J H xs vs → vs[i]? = some v → ∃ x, xs[i]? = some x ∧ RepV K J H x v
  | [], _, i, x, h, e => by cases h; simp at e
  | y :: xs, _, 0, x, ⟨v, us, e1, h, k⟩, e => by subst e1; simp at e; subst e; exact ⟨y, rfl, h⟩
  | y :: xs, _, i + 1, x, ⟨v, us, e1, h, k⟩, e => by
    subst e1
    obtain ⟨w, h1, h2⟩ := RepVs.get' (i := i) (v := x) k (by simpa using e)
    exact ⟨w, by simpa using h1, h2⟩
theorem RepVs.append : ∀ {xs ys : List PV} {vs us : List V}, RepVs K J H xs vs → RepVs K J H ys us → RepVs K J H (xs ++ ys) (vs ++ us)
  | [], _, _, _, h, k => by cases h; exact k
  | x :: xs, ys, _, us, ⟨v, ws, e1, h, h'⟩, k => by subst e1; exact ⟨v, ws ++ us, rfl, h, RepVs.append h' k⟩
theorem RepVs.drop : ∀ (n : Nat) {xs : List PV} {vs : List V}, RepVs K J H xs vs → RepVs K J H (xs.drop n) (vs.drop n)
  | 0, _, _, h => h
  | n + 1, [], _, h => by cases h; rfl
  | n + 1, x :: xs, _, ⟨v, ws, e1, h, h'⟩ => by subst e1; exact RepVs.drop n h'
theorem RepVs.take : ∀ (n : Nat) {xs : List PV} {vs : List V}, RepVs K J H xs vs → RepVs K J H (xs.take n) (vs.take n)
  | 0, _, _, h => rfl
  | n + 1, [], _, h => by cases h; rfl
  | n + 1, x :: xs, _, ⟨v, ws, e1, h, h'⟩ => by subst e1; exact ⟨v, _, rfl, h, RepVs.take n h'⟩
theorem RepVs.set {x : PV} {v : V} (r : RepV K J H x v) : ∀ (n : Nat) {xs : List PV} {vs : List V}, RepVs K J H xs vs → RepVs K J H (xs.set n x) (vs.set n v)
  | n, [], _, h => by cases h; rfl
  | 0, y :: xs, _, ⟨w, ws, e1, h, h'⟩ => by subst e1; exact ⟨v, ws, rfl, r, h'⟩
  | n + 1, y :: xs, _, ⟨w, ws, e1, h, h'⟩ => by subst e1; exact ⟨w, _, rfl, h, RepVs.set r n h'⟩
theorem RepF.look {κ : Type} [BEq κ] [LawfulBEq κ] {f : κ} : ∀ {fs : List (κ × PV)} {gs : List (κ × V)} {x : PV}, RepF K J H fs gs → fs.lookup f = some x → ∃ v, gs.lookup f = some v ∧ RepV K J H x v
  | [], _, _, _, e => by cases e
  | (k, y) :: fs, [], x, h, e => by cases h.1
  | (k, y) :: fs, (k', w) :: gs, x, h, e => by
    obtain ⟨h1, v, us, h2, h3, h4⟩ := h
    simp only [List.map_cons, List.cons.injEq] at h1 h2
    obtain ⟨rfl, h1⟩ := h1
    obtain ⟨rfl, rfl⟩ := h2
    rw [List.lookup_cons] at e ⊢
    cases hk : f == k with
    | true => rw [hk] at e; cases e; exact ⟨w, rfl, h3⟩
    | false => rw [hk] at e; exact RepF.look ⟨h1, h4⟩ e
theorem RepF.none {κ : Type} [BEq κ] [LawfulBEq κ] {f : κ} : ∀ {fs : List (κ × PV)} {gs : List (κ × V)}, RepF K J H fs gs → fs.lookup f = none → gs.lookup f = none
  | [], [], _, _ => rfl
  | [], _ :: _, h, e => by cases h.1
  | (k, y) :: fs, [], h, e => by cases h.1
  | (k, y) :: fs, (k', w) :: gs, h, e => by
    obtain ⟨h1, v, us, h2, h3, h4⟩ := h
    simp only [List.map_cons, List.cons.injEq] at h1 h2
    obtain ⟨rfl, h1⟩ := h1
    obtain ⟨rfl, rfl⟩ := h2
    rw [List.lookup_cons] at e ⊢
    cases hk : f == k with
    | true => rw [hk] at e; cases e
    | false => rw [hk] at e; exact RepF.none ⟨h1, h4⟩ e
end
section
variable {K : PySem.W.Frag} {J J' : Hq} {H H' : Hp} {p : Addr}
theorem ne_free {a p : Addr} {o : HQ} (r : Rep K J H) (h : J a = some o) (n : H p = none) : a ≠ p := by
  intro e; subst e
  have := r _ _ h
  cases o with
  | lst xs => obtain ⟨vs, h1, _⟩ := this; rw [n] at h1; cases h1
  | ins C fs => obtain ⟨dx, gs, h1, _⟩ := this; rw [n] at h1; cases h1
  | dct kvs ep => obtain ⟨gs, h1, _⟩ := this; rw [n] at h1; cases h1
  | tab => have h1 : H a = some (.ext (TabOk a)) := this; rw [n] at h1; cases h1
theorem Rep.free (r : Rep K J H) (n : H p = none) : J p = none := by
  cases e : J p with
  | none => rfl
  | some o => exact absurd rfl (ne_free r e n)
theorem Ext.laid {o : HO} {u : HQ} (n : H p = none) : Ext K J H (put J p u) (upd H p o) := by
  refine ⟨fun a vs h => (Same.new n o).tup h, fun a o' z h _ => ⟨?_, Same.new n o _ _ h⟩⟩
  have ne : a ≠ p := by intro e; subst e; rw [n] at h; cases h
  rw [put_ne ne]; exact z
theorem Rep.upto {J' : Hq} {H' : Hp} (e : Ext K J H J' H') (r : Rep K J H) (p : Addr) (q : ∀ a, a ≠ p → J' a = J a) (s : ∀ a o, a ≠ p → J a ≠ none → H a = some o → H' a = some o) (h : ∀ u, J' p = some u → RepO K J' H' p u) : Rep K J' H' := fun a o z => by
  by_cases ep : a = p
  · subst ep; exact h o z
  · rw [q a ep] at z
    have t := r a o z
    have jn : J a ≠ none := by rw [z]; exact fun y => nomatch y
    cases o with
    | lst xs => obtain ⟨vs, h1, h2⟩ := t; exact ⟨vs, s _ _ ep jn h1, e.reps h2⟩
    | ins C fs => obtain ⟨dx, gs, h1, h2⟩ := t; exact ⟨dx, gs, s _ _ ep jn h1, e.repF h2⟩
    | dct kvs eq => obtain ⟨gs, h1, h2⟩ := t; exact ⟨gs, s _ _ ep jn h1, e.repF h2⟩
    | tab => exact s _ _ ep jn (show H a = some (.ext (TabOk a)) from t)
theorem Rep.laidL {xs : List PV} {vs : List V} (r : Rep K J H) (n : H p = none) (h : RepVs K J H xs vs) : Rep K (put J p (.lst xs)) (upd H p (.lst vs)) := by
  have e := Ext.laid (K := K) (J := J) (o := .lst vs) (u := .lst xs) n
  refine r.upto e p (fun a ne => put_ne ne) (fun a o ne _ z => by rw [upd_ne ne]; exact z) fun u z => ?_
  rw [put_same] at z; cases z
  exact ⟨vs, upd_same, e.reps h⟩
theorem Ext.wrote {xs ys : List PV} {ws vs : List V} (h : J p = some (.lst xs)) (k : H p = some (.lst ws)) : Ext K J H (put J p (.lst ys)) (upd H p (.lst vs)) := by
  have sm : ∀ a u, (∀ l, u ≠ HO.lst l) ∨ a ≠ p → Rd H a u → Rd (upd H p (.lst vs)) a u := fun a u d z => by
    have ne : a ≠ p := by
      rcases d with d | d
      · intro e; subst e
        rcases z with z | ⟨o, z⟩
        · rw [k] at z; cases z; exact d _ rfl
        · rw [k] at z; cases z
      · exact d
    rcases z with z | ⟨o, z⟩
    · exact .inl (by rw [upd_ne ne]; exact z)
    · exact .inr ⟨o, by rw [upd_ne ne]; exact z⟩
  refine ⟨fun a vs' z => ?_, fun a o z q _ => ?_⟩
  · rcases z with z | z
    · exact .inl (sm a _ (.inl fun l e => nomatch e) z)
    · exact .inr z
  · have ne : a ≠ p := by intro e; subst e; rw [h] at z; cases z
    exact ⟨by rw [put_ne ne]; exact z, by rw [upd_ne ne]; exact q⟩
theorem Rep.wrote {xs ys : List PV} {ws vs : List V} (r : Rep K J H) (h : J p = some (.lst xs)) (k : H p = some (.lst ws)) (q : RepVs K J H ys vs) : Rep K (put J p (.lst ys)) (upd H p (.lst vs)) := by
  have e := Ext.wrote (K := K) (ys := ys) (vs := vs) h k
  refine r.upto e p (fun a ne => put_ne ne) (fun a o ne _ z => by rw [upd_ne ne]; exact z) fun u z => ?_
  rw [put_same] at z; cases z
  exact ⟨vs, upd_same, e.reps q⟩
end
abbrev Sr := List (Option PV)
abbrev TEr := Sr → Hq → (PV → Hq → Prop) → Prop
abbrev TTr := Sr → Hq → (Bool → Hq → Prop) → Prop
abbrev TAr := Sr → Hq → (List PV → Hq → Prop) → Prop
structure En where
  nx : Sr → Hq → Prop
  rt : PV → Hq → Prop
  bk : Sr → Hq → Prop := fun _ _ => False
  ct : Sr → Hq → Prop := fun _ _ => False
abbrev TSr := En → Sr → Hq → Prop
structure RepS (K : PySem.W.Frag) (J : Hq) (H : Hp) (τ : Sr) (σ : L2.St) : Prop where
  len : τ.length = σ.length
  get : ∀ (i : Nat) (x : PV), τ[i]? = some (some x) → ∃ v, σ[i]? = some (some v) ∧ RepV K J H x v
theorem RepS.ext {K : PySem.W.Frag} {J J' : Hq} {H H' : Hp} {τ : Sr} {σ : L2.St} (r : RepS K J H τ σ) (e : Ext K J H J' H') : RepS K J' H' τ σ :=
  ⟨r.len, fun i x h => let ⟨v, a, b⟩ := r.get i x h; ⟨v, a, e.rep b⟩⟩
theorem RepS.set {K : PySem.W.Frag} {J : Hq} {H : Hp} {τ : Sr} {σ : L2.St} (r : RepS K J H τ σ) {x : PV} {v : V} (i : Nat) (h : RepV K J H x v) : RepS K J H (τ.set i (some x)) (σ.set i (some v)) := by
  refine ⟨by rw [List.length_set, List.length_set, r.len], fun j y e => ?_⟩
  by_cases hj : i = j
  · subst hj
    by_cases hl : i < τ.length
    · rw [List.getElem?_set_self hl] at e
      cases e
      exact ⟨v, List.getElem?_set_self (by rw [← r.len]; exact hl), h⟩
    · rw [List.getElem?_eq_none (by rw [List.length_set]; omega)] at e
      cases e
  · rw [List.getElem?_set_ne hj] at e ⊢
    exact r.get j y e
abbrev G2 := Hq × Hp
structure At2 (K : PySem.W.Frag) (G : G2) (τ : Sr) (J : Hq) (σ : L2.St) (H : Hp) : Prop where
  sl : RepS K J H τ σ
  hp : Rep K J H
  ext : Ext K G.1 G.2 J H
section
variable (K : PySem.W.Frag) (G : G2)
def LE (t : TEr) : TE := fun σ H Q => ∃ τ J Q2, At2 K G τ J σ H ∧ t τ J Q2 ∧ ∀ x J' v H', RepV K J' H' x v → Rep K J' H' → Ext K J H J' H' → Q2 x J' → Q v H'
def LT (t : TTr) : TT := fun σ H Q => ∃ τ J Q2, At2 K G τ J σ H ∧ t τ J Q2 ∧ ∀ b J' H', Rep K J' H' → Ext K J H J' H' → Q2 b J' → Q b H'
def LA (t : TAr) : TA := fun σ H Q => ∃ τ J Q2, At2 K G τ J σ H ∧ t τ J Q2 ∧ ∀ xs J' vs H', RepVs K J' H' xs vs → Rep K J' H' → Ext K J H J' H' → Q2 xs J' → Q vs H'
structure Goes (J : Hq) (H : Hp) (D2 : En) (D : Ends) : Prop where
  nx : ∀ τ J' σ H', RepS K J' H' τ σ → Rep K J' H' → Ext K J H J' H' → D2.nx τ J' → D.nx σ H'
  rt : ∀ x J' v H', RepV K J' H' x v → Rep K J' H' → Ext K J H J' H' → D2.rt x J' → D.rt v H'
  bk : ∀ τ J' σ H', RepS K J' H' τ σ → Rep K J' H' → Ext K J H J' H' → D2.bk τ J' → D.bk σ H'
  ct : ∀ τ J' σ H', RepS K J' H' τ σ → Rep K J' H' → Ext K J H J' H' → D2.ct τ J' → D.ct σ H'
def LS (t : TSr) : TS := fun D σ H => ∃ τ J D2, At2 K G τ J σ H ∧ t D2 τ J ∧ Goes K J H D2 D
end
theorem Goes.ext {K : PySem.W.Frag} {J J' : Hq} {H H' : Hp} {D2 : En} {D : Ends} (g : Goes K J H D2 D) (e : Ext K J H J' H') : Goes K J' H' D2 D :=
  ⟨fun τ J1 σ H1 a b c => g.nx τ J1 σ H1 a b (e.trans c), fun x J1 v H1 a b c => g.rt x J1 v H1 a b (e.trans c), fun τ J1 σ H1 a b c => g.bk τ J1 σ H1 a b (e.trans c), fun τ J1 σ H1 a b c => g.ct τ J1 σ H1 a b (e.trans c)⟩
theorem At2.go {K : PySem.W.Frag} {G : G2} {τ : Sr} {J J' : Hq} {σ : L2.St} {H H' : Hp} (a : At2 K G τ J σ H) (r : Rep K J' H') (e : Ext K J H J' H') : At2 K G τ J' σ H' := ⟨a.sl.ext e, r, a.ext.trans e⟩
structure RE (X : Cx) (G : G2) (e : Expr) (t : TEr) : Prop where
  run : L2.PE X e (LE X.K G t)
structure RT (X : Cx) (G : G2) (e : Expr) (t : TTr) : Prop where
  run : L2.PT X e (LT X.K G t)
structure RW (X : Cx) (G : G2) (e : Expr) (t : TTr) : Prop where
  run : L2.PW X e (LT X.K G t)
structure RA (X : Cx) (G : G2) (es : List Expr) (t : TAr) : Prop where
  run : L2.PA X es (LA X.K G t)
structure RS (X : Cx) (G : G2) (st : Stmt) (t : TSr) : Prop where
  run : L2.PS X st (LS X.K G t)
structure RB (X : Cx) (G : G2) (st : List Stmt) (t : TSr) : Prop where
  run : L2.PSs X st (LS X.K G t)
theorem peW {X : Cx} {e : Expr} {t t' : TE} (h : L2.PE X e t) (k : ∀ σ H Q, t' σ H Q → t σ H Q) : L2.PE X e t' := fun pins s σ H Q I q => h pins s σ H Q I (k _ _ _ q)
theorem ptW {X : Cx} {e : Expr} {t t' : TT} (h : L2.PT X e t) (k : ∀ σ H Q, t' σ H Q → t σ H Q) : L2.PT X e t' := fun pins s σ H Q I q => h pins s σ H Q I (k _ _ _ q)
theorem pwW {X : Cx} {e : Expr} {t t' : TT} (h : L2.PW X e t) (k : ∀ σ H Q, t' σ H Q → t σ H Q) : L2.PW X e t' := fun wh pins s σ H Q I q => h wh pins s σ H Q I (k _ _ _ q)
theorem paW {X : Cx} {e : List Expr} {t t' : TA} (h : L2.PA X e t) (k : ∀ σ H Q, t' σ H Q → t σ H Q) : L2.PA X e t' := fun pos pins s σ H Q I q => h pos pins s σ H Q I (k _ _ _ q)
theorem psW {X : Cx} {e : Stmt} {t t' : TS} (h : L2.PS X e t) (k : ∀ D σ H, t' D σ H → t D σ H) : L2.PS X e t' := fun pins s σ H D I q => h pins s σ H D I (k _ _ _ q)
theorem pbW {X : Cx} {e : List Stmt} {t t' : TS} (h : L2.PSs X e t) (k : ∀ D σ H, t' D σ H → t D σ H) : L2.PSs X e t' := fun pins s σ H D I q => h pins s σ H D I (k _ _ _ q)
end Ov
set_option Elab.async false
set_option linter.all false
set_option maxRecDepth 100000
namespace Ov
open PySem PySem.Spec PyProof.Rows
open L2 (V HO Hp Inv Cx VK XK TE TT TA TS TG TGs TI TO TSet Ends Vis Loc Gl Rd RelV Vals OpR UnR CallR IxR SlR MtR PSet R2 upd upd_same upd_ne SqL SqT Sp CXT It Same PlainIx Room Passes Cls NoAttr Meth Mk Binds FnOk Fun FnScope atI TyOf)
section
variable {X : Cx} {G : G2} {a b c e o : Expr} {es rest : List Expr} {ta tb te tc to : TEr} {tA tB' : TTr} {t : TAr} {pos px p p2 apos cpos : Pos} {x : Str} {i j : Nat}
def rVar (i : Nat) : TEr := fun τ J Q => ∃ x, τ[i]? = some (some x) ∧ Q x J
theorem rv (i : Nat) {x : Str} {pos : Pos} (hN : X.N[i]? = some x := by rfl) (hv : Vis X.env.scope x := by first | exact Or.inl rfl | exact Or.inr (Or.inl rfl) | exact Or.inr (Or.inr rfl)) (hd : (x == ("__debug__" : Str)) = false := by decide)
    (hcd : (x == ("__classdict__" : Str)) = false := by decide) : RE X G (.Name x pos) (rVar i) :=
  ⟨peW (L2.pe_var hN hv hd hcd) fun σ H Q ⟨τ, J, Q2, a2, ⟨y, ey, q⟩, k⟩ => let ⟨v, e1, r⟩ := a2.sl.get i y ey; ⟨v, e1, k y J v H r a2.hp .refl q⟩⟩
def rC (x : PV) : TEr := fun _ J Q => Q x J
theorem re_int {i : Int} {j pos} : RE X G (.Constant (.int i) j pos) (rC (.int i)) := ⟨peW L2.pe_int fun σ H Q ⟨τ, J, Q2, a2, q, k⟩ => k (.int i) J _ H rfl a2.hp .refl q⟩
theorem re_bl {b : Bool} {j pos} : RE X G (.Constant (.bool b) j pos) (rC (.bl b)) := ⟨peW L2.pe_bl fun σ H Q ⟨τ, J, Q2, a2, q, k⟩ => k (.bl b) J _ H rfl a2.hp .refl q⟩
theorem re_non {j pos} : RE X G (.Constant .none j pos) (rC .non) := ⟨peW L2.pe_non fun σ H Q ⟨τ, J, Q2, a2, q, k⟩ => k .non J _ H rfl a2.hp .refl q⟩
theorem re_str {x : Str} {j pos} : RE X G (.Constant (.str x) j pos) (rC (.str x)) := ⟨peW L2.pe_str fun σ H Q ⟨τ, J, Q2, a2, q, k⟩ => k (.str x) J _ H rfl a2.hp .refl q⟩
theorem re_glob {v : V} {u : Value} (y : PV) (hg : Gl X x) (hm : X.mg x = some u) (r : RelV v u) (hr : ∀ J H, RepV X.K J H y v) (hd : (x == ("__debug__" : Str)) = false := by decide) : RE X G (.Name x pos) (rC y) :=
  ⟨peW (L2.pe_glob hg hm r hd) fun σ H Q ⟨τ, J, Q2, a2, q, k⟩ => k y J v H (hr J H) a2.hp .refl q⟩
theorem re_ty {n : String} (hg : Gl X x) (hm : X.mg x = none) (hv : bootBuiltins x = some (.type n)) (hn : x ≠ "__name__" := by decide) (hd : (x == ("__debug__" : Str)) = false := by decide) : RE X G (.Name x pos) (rC (.ty n)) :=
  ⟨peW (L2.pe_bltn (v := .ty n) hg hm hv rfl hn hd) fun σ H Q ⟨τ, J, Q2, a2, q, k⟩ => k (.ty n) J _ H rfl a2.hp .refl q⟩
abbrev R2r := PV → PV → Hq → (PV → Hq → Prop) → Prop
abbrev R1r := PV → Hq → (PV → Hq → Prop) → Prop
abbrev RLr := List PV → Hq → (PV → Hq → Prop) → Prop
def Kn (K : PySem.W.Frag) (J : Hq) (H : Hp) (Q2 : PV → Hq → Prop) (Q : VK) : Prop := ∀ z J' u H', RepV K J' H' z u → Rep K J' H' → Ext K J H J' H' → Q2 z J' → Q u H'
def LR (K : PySem.W.Frag) (r : R2) (q : R2r) : Prop := ∀ J H x y v w Q2 Q, RepV K J H x v → RepV K J H y w → Rep K J H → q x y J Q2 → Kn K J H Q2 Q → r v w H Q
def LR1 (K : PySem.W.Frag) (r : V → Hp → VK → Prop) (q : R1r) : Prop := ∀ J H x v Q2 Q, RepV K J H x v → Rep K J H → q x J Q2 → Kn K J H Q2 Q → r v H Q
def LRL (K : PySem.W.Frag) (r : List V → Hp → VK → Prop) (q : RLr) : Prop := ∀ J H xs vs Q2 Q, RepVs K J H xs vs → Rep K J H → q xs J Q2 → Kn K J H Q2 Q → r vs H Q
def OpL (X : Cx) (f : Value → Value → Sem Value) (q : R2r) : Prop := ∃ r, OpR X f r ∧ LR X.K r q
def UnL (X : Cx) (f : Value → Sem Value) (q : R1r) : Prop := ∃ r, UnR X f r ∧ LR1 X.K r q
def IxL (X : Cx) (q : R2r) : Prop := ∃ r, IxR X r ∧ LR X.K r q
def CaL (X : Cx) (f : Value) (q : RLr) : Prop := ∃ r, CallR X f r ∧ LRL X.K r q
def rOp (q : R2r) (ta tb : TEr) : TEr := fun τ J Q => ta τ J fun x J1 => tb τ J1 fun y J2 => q x y J2 Q
def rUn (q : R1r) (ta : TEr) : TEr := fun τ J Q => ta τ J fun x J1 => q x J1 Q
theorem op_lift {r : R2} {q : R2r} (lr : LR X.K r q) : ∀ σ H Q, LE X.K G (rOp q ta tb) σ H Q → L2.tOp r (LE X.K G ta) (LE X.K G tb) σ H Q := fun σ H Q ⟨τ, J, Q2, a2, h, k⟩ =>
  ⟨τ, J, _, a2, h, fun x J1 v H1 rx r1 e1 q1 => ⟨τ, J1, _, a2.go r1 e1, q1, fun y J2 w H2 ry r2 e2 q2 =>
    lr J2 H2 x y v w Q2 Q (e2.rep rx) ry r2 q2 fun z J' u H' rz rr ee qq => k z J' u H' rz rr ((e1.trans e2).trans ee) qq⟩⟩
theorem re_op {op : Operator} {q : R2r} (ho : OpL X (binaryOp op) q) (ha : RE X G a ta) (hb : RE X G b tb) : RE X G (.BinOp a op b pos) (rOp q ta tb) := by
  obtain ⟨r, h, lr⟩ := ho
  exact ⟨peW (L2.pe_op h ha.run hb.run) (op_lift lr)⟩
theorem re_un {op : UnaryOp} {q : R1r} (ho : UnL X (unaryOp op) q) (ha : RE X G a ta) : RE X G (.UnaryOp op a pos) (rUn q ta) := by
  obtain ⟨r, h, lr⟩ := ho
  exact ⟨peW (L2.pe_un h ha.run) fun σ H Q ⟨τ, J, Q2, a2, h, k⟩ => ⟨τ, J, _, a2, h, fun x J1 v H1 rx r1 e1 q1 =>
    lr J1 H1 x v Q2 Q rx r1 q1 fun z J' u H' rz rr ee qq => k z J' u H' rz rr (e1.trans ee) qq⟩⟩
theorem re_ix {q : R2r} (hr : IxL X q) (ha : RE X G a ta) (hb : RE X G b tb) (hs : PlainIx b) : RE X G (.Subscript a b pos) (rOp q ta tb) := by
  obtain ⟨r, h, lr⟩ := hr
  exact ⟨peW (L2.pe_ix h ha.run hb.run hs) (op_lift lr)⟩
theorem re_cmp {op : CmpOp} {q : R2r} (ho : OpL X (compareOp op) q) (ha : RE X G a ta) (hb : RE X G b tb) (hm : behindInMarks op b = false) : RE X G (.Compare a [op] [b] pos) (rOp q ta tb) := by
  obtain ⟨r, h, lr⟩ := ho
  exact ⟨peW (L2.pe_cmpR h ha.run hb.run hm) (op_lift lr)⟩
def rB (t : TEr) : TTr := fun τ J Q => t τ J fun x J1 => ∃ k, x = .bl k ∧ Q k J1
theorem rt_cmp {op : CmpOp} {q : R2r} (ho : OpL X (compareOp op) q) (ha : RE X G a ta) (hb : RE X G b tb) (hm : behindInMarks op b = false) : RT X G (.Compare a [op] [b] pos) (rB (rOp q ta tb)) := by
  obtain ⟨r, h, lr⟩ := ho
  refine ⟨ptW (L2.pt_cmpR h ha.run hb.run hm) fun σ H Q ⟨τ, J, Q2, a2, h, k⟩ => ?_⟩
  refine op_lift lr σ H _ ⟨τ, J, _, a2, h, fun z J' u H' rz rr ee qq => ?_⟩
  obtain ⟨b, rfl, q⟩ := qq
  exact ⟨b, rz, k b J' H' rr ee q⟩
theorem rt_val (h : RE X G e te) (he : ∀ whole, isTrue e X.env whole = (do let v ← whole; standAt e.pos; holding [v] (truthy v)) := by intro _; rfl) : RT X G e (rB te) :=
  ⟨ptW (L2.pt_val h.run he) fun σ H Q ⟨τ, J, Q2, a2, h, k⟩ => ⟨τ, J, _, a2, h, fun z J' u H' rz rr ee ⟨b, eb, q⟩ => by subst eb; exact ⟨b, rz, k b J' H' rr ee q⟩⟩⟩
def truQ (J : Hq) : PV → Option Bool
  | .non => some false
  | .bl b => some b
  | .int i => some (i != 0)
  | .tup xs => some (!xs.isEmpty)
  | .fl xs => some (!xs.isEmpty)
  | .ref a => match J a with
    | some (.lst xs) => some (!xs.isEmpty)
    | some (.dct kvs _) => some (!kvs.isEmpty)
    | _ => none
  | _ => none
theorem isEmpty_len {α β : Type} {xs : List α} {ys : List β} (h : xs.length = ys.length) : xs.isEmpty = ys.isEmpty := by cases xs <;> cases ys <;> simp_all
theorem tru_rep {K : PySem.W.Frag} {J : Hq} {H : Hp} {x : PV} {v : V} {k : Bool} (r : RepV K J H x v) (hp : Rep K J H) (h : truQ J x = some k) : L2.TruV K v H k := by
  cases x with
  | non => cases r; cases h; rfl
  | bl b => cases r; cases h; rfl
  | int i => cases r; cases h; rfl
  | str s => cases h
  | ty n => cases h
  | tup xs => obtain ⟨a, vs, rfl, h1, h2⟩ := r; cases h; exact .inr (.inl ⟨vs, h1, by rw [isEmpty_len h2.length]⟩)
  | fl xs => obtain ⟨a, vs, rfl, h1, h2⟩ := r; cases h; exact .inl ⟨vs, h1.sq, by rw [isEmpty_len h2.length]⟩
  | ref a =>
    cases r
    unfold truQ at h
    dsimp only at h
    cases e : J a with
    | none => rw [e] at h; cases h
    | some o =>
      rw [e] at h
      have z := hp a o e
      cases o with
      | lst xs => obtain ⟨vs, h1, h2⟩ := z; cases h; exact .inl ⟨vs, .inl (.inl h1), by rw [isEmpty_len h2.length]⟩
      | ins C fs => cases h
      | tab => cases h
      | dct kvs ep =>
        obtain ⟨gs, h1, h2⟩ := z; cases h
        refine .inr (.inr ⟨gs, ep, h1, ?_⟩)
        have := congrArg List.length h2.1
        simp only [List.length_map] at this
        rw [isEmpty_len this]
def rTru (te : TEr) : TTr := fun τ J Q => te τ J fun x J1 => ∃ k, truQ J1 x = some k ∧ Q k J1
theorem rt_tru (h : RE X G e te) (he : ∀ whole, isTrue e X.env whole = (do let v ← whole; standAt e.pos; holding [v] (truthy v)) := by intro _; rfl) : RT X G e (rTru te) :=
  ⟨ptW (L2.pt_truth h.run he) fun σ H Q ⟨τ, J, Q2, a2, h, k⟩ => ⟨τ, J, _, a2, h, fun z J' u H' rz rr ee ⟨b, eb, q⟩ => ⟨b, tru_rep rz rr eb, k b J' H' rr ee q⟩⟩⟩
def rAnd (t u : TTr) : TTr := fun τ J Q => t τ J fun c J1 => if c = true then u τ J1 Q else Q false J1
def rOr (t u : TTr) : TTr := fun τ J Q => t τ J fun c J1 => if c = true then Q true J1 else u τ J1 Q
def rNot (t : TTr) : TTr := fun τ J Q => t τ J fun c J1 => Q (!c) J1
theorem rt_not (ha : RT X G a tA) : RT X G (.UnaryOp .Not a pos) (rNot tA) := ⟨ptW (L2.pt_not ha.run) fun σ H Q ⟨τ, J, Q2, a2, h, k⟩ => ⟨τ, J, _, a2, h, fun b J' H' rr ee q => k _ J' H' rr ee q⟩⟩
theorem rw_and1 (ha : RT X G a tA) : RW X G (.BoolOp .And [a] pos) tA := ⟨L2.pw_and1 ha.run⟩
theorem rw_or1 (ha : RT X G a tA) : RW X G (.BoolOp .Or [a] pos) tA := ⟨L2.pw_or1 ha.run⟩
theorem and_lift {σ : L2.St} {H : Hp} {Q : Bool → Hp → Prop} : LT X.K G (rAnd tA tB') σ H Q → L2.tAnd (LT X.K G tA) (LT X.K G tB') σ H Q := fun ⟨τ, J, Q2, a2, h, k⟩ =>
  ⟨τ, J, _, a2, h, fun b J' H' rr ee q => by
    cases b with
    | true => simp only [if_true] at q ⊢; exact ⟨τ, J', Q2, a2.go rr ee, q, fun b J2 H2 r2 e2 q2 => k b J2 H2 r2 (ee.trans e2) q2⟩
    | false => simp only [Bool.false_eq_true, if_false] at q ⊢; exact k _ J' H' rr ee q⟩
theorem or_lift {σ : L2.St} {H : Hp} {Q : Bool → Hp → Prop} : LT X.K G (rOr tA tB') σ H Q → L2.tOr (LT X.K G tA) (LT X.K G tB') σ H Q := fun ⟨τ, J, Q2, a2, h, k⟩ =>
  ⟨τ, J, _, a2, h, fun b J' H' rr ee q => by
    cases b with
    | false => simp only [Bool.false_eq_true, if_false] at q ⊢; exact ⟨τ, J', Q2, a2.go rr ee, q, fun b J2 H2 r2 e2 q2 => k b J2 H2 r2 (ee.trans e2) q2⟩
    | true => simp only [if_true] at q ⊢; exact k _ J' H' rr ee q⟩
theorem rw_and (ha : RT X G a tA) (hb : RW X G (.BoolOp .And (b :: rest) pos) tB') : RW X G (.BoolOp .And (a :: b :: rest) pos) (rAnd tA tB') := ⟨pwW (L2.pw_and ha.run hb.run) fun σ H Q h => and_lift h⟩
theorem rw_or (ha : RT X G a tA) (hb : RW X G (.BoolOp .Or (b :: rest) pos) tB') : RW X G (.BoolOp .Or (a :: b :: rest) pos) (rOr tA tB') := ⟨pwW (L2.pw_or ha.run hb.run) fun σ H Q h => or_lift h⟩
theorem rw_rt (h : RW X G e tA) : RT X G e tA := ⟨h.run.pt⟩
def rAndV (ta tb : TEr) : TEr := fun τ J Q => ta τ J fun x J1 => ∃ c, x = .bl c ∧ if c = true then tb τ J1 Q else Q (.bl false) J1
def rOrV (ta tb : TEr) : TEr := fun τ J Q => ta τ J fun x J1 => ∃ c, x = .bl c ∧ if c = true then Q (.bl true) J1 else tb τ J1 Q
def rNotV (ta : TEr) : TEr := fun τ J Q => ta τ J fun x J1 => ∃ c, x = .bl c ∧ Q (.bl (!c)) J1
theorem re_one {op} (h : RE X G a ta) : RE X G (.BoolOp op [a] pos) ta := ⟨L2.pe_one h.run⟩
theorem re_and (ha : RE X G a ta) (hb : RE X G (.BoolOp .And (b :: rest) pos) tb) : RE X G (.BoolOp .And (a :: b :: rest) pos) (rAndV ta tb) := ⟨peW (L2.pe_and ha.run hb.run) fun σ H Q ⟨τ, J, Q2, a2, h, k⟩ =>
  ⟨τ, J, _, a2, h, fun x J' v H' rx rr ee ⟨c, ec, q⟩ => by
    subst ec
    refine ⟨c, rx, ?_⟩
    cases c with
    | true => simp only [if_true] at q ⊢; exact ⟨τ, J', Q2, a2.go rr ee, q, fun z J2 u H2 rz r2 e2 q2 => k z J2 u H2 rz r2 (ee.trans e2) q2⟩
    | false => simp only [Bool.false_eq_true, if_false] at q ⊢; exact k (.bl false) J' _ H' rfl rr ee q⟩⟩
theorem re_not (ha : RE X G a ta) : RE X G (.UnaryOp .Not a pos) (rNotV ta) := ⟨peW (L2.pe_not ha.run) fun σ H Q ⟨τ, J, Q2, a2, h, k⟩ =>
  ⟨τ, J, _, a2, h, fun x J' v H' rx rr ee ⟨c, ec, q⟩ => by subst ec; exact ⟨c, rx, k (.bl (!c)) J' _ H' rfl rr ee q⟩⟩⟩
def rIf (t : TTr) (ta tb : TEr) : TEr := fun τ J Q => t τ J fun c J1 => if c = true then ta τ J1 Q else tb τ J1 Q
theorem re_if (hc : RT X G c tA) (ha : RE X G a ta) (hb : RE X G b tb) : RE X G (.IfExp c a b pos) (rIf tA ta tb) := ⟨peW (L2.pe_ifExp hc.run ha.run hb.run) fun σ H Q ⟨τ, J, Q2, a2, h, k⟩ =>
  ⟨τ, J, _, a2, h, fun c J' H' rr ee q => by
    cases c with
    | true => simp only [if_true] at q ⊢; exact ⟨τ, J', Q2, a2.go rr ee, q, fun z J2 u H2 rz r2 e2 q2 => k z J2 u H2 rz r2 (ee.trans e2) q2⟩
    | false => simp only [Bool.false_eq_true, if_false] at q ⊢; exact ⟨τ, J', Q2, a2.go rr ee, q, fun z J2 u H2 rz r2 e2 q2 => k z J2 u H2 rz r2 (ee.trans e2) q2⟩⟩⟩
def rNil : TAr := fun _ J Q => Q [] J
def rCons (ta : TEr) (tr : TAr) : TAr := fun τ J Q => ta τ J fun x J1 => tr τ J1 fun xs J2 => Q (x :: xs) J2
theorem ra_nil : RA X G [] rNil := ⟨paW L2.pa_nil fun σ H Q ⟨τ, J, Q2, a2, h, k⟩ => k [] J [] H rfl a2.hp .refl h⟩
theorem ra_cons (ha : RE X G e te) (hr : RA X G es t) (hs : starEach (e :: es) X.env = (false, eval e X.env) :: starEach es X.env := by rfl) : RA X G (e :: es) (rCons te t) :=
  ⟨paW (L2.pa_cons ha.run hr.run hs) fun σ H Q ⟨τ, J, Q2, a2, h, k⟩ => ⟨τ, J, _, a2, h, fun x J' v H' rx rr ee q => ⟨τ, J', _, a2.go rr ee, q, fun xs J2 vs H2 rs r2 e2 q2 => k (x :: xs) J2 (v :: vs) H2 ⟨v, vs, rfl, e2.rep rx, rs⟩ r2 (ee.trans e2) q2⟩⟩⟩
def vP : V → PV
  | .non => .non | .bl b => .bl b | .int i => .int i | .str x => .str x | _ => .non
theorem reps_const {K : PySem.W.Frag} {J : Hq} {H : Hp} : ∀ {es : List Expr} {vs : List V}, es.map constV = vs.map some → RepVs K J H (vs.map vP) vs
  | [], [], _ => rfl
  | [], _ :: _, h => by cases h
  | _ :: _, [], h => by cases h
  | e :: es, v :: vs, h => by
    rw [List.map_cons, List.map_cons] at h
    injection h with h1 h2
    refine ⟨v, vs, rfl, ?_, reps_const h2⟩
    cases e with
    | Constant c j pos =>
      cases c with
      | int i => cases h1; rfl
      | str x => cases h1; rfl
      | bool b => cases h1; rfl
      | _ => cases h1
    | _ => cases h1
theorem ra_cst {es : List Expr} (vs : List V) (h : es.map constV = vs.map some) (xs : List PV) (hx : vs.map vP = xs) : RA X G es (fun _ J Q => Q xs J) :=
  ⟨paW (pa_const vs h) fun σ H Q ⟨τ, J, Q2, a2, q, k⟩ => k _ J _ H (by rw [← hx]; exact reps_const h) a2.hp .refl q⟩
def rTup (t : TAr) : TEr := fun τ J Q => t τ J fun xs J1 => xs.length ≤ sizeLine ∧ Q (.tup xs) J1
theorem re_tup {x1} (h : RA X G es t) : RE X G (.Tuple es x1 pos) (rTup t) := ⟨peW (L2.pe_tup h.run) fun σ H Q ⟨τ, J, Q2, a2, h, k⟩ => ⟨τ, J, _, a2, h, fun xs J' vs H' rs rr ee ⟨hl, q⟩ =>
  ⟨by rw [← rs.length]; exact hl, fun p hp => by
    have sm := Same.new hp (.tup vs)
    have e2 := Ext.same (K := X.K) (J := J') sm
    exact k (.tup xs) J' (.ref p) _ ⟨p, vs, rfl, .inl (.inl upd_same), e2.reps rs⟩ (rr.same sm) (ee.trans e2) q⟩⟩⟩
def rLst (t : TAr) : TEr := fun τ J Q => t τ J fun xs J1 => xs.length ≤ sizeLine ∧ ∀ p, J1 p = none → Q (.ref p) (put J1 p (.lst xs))
theorem re_lst (h : RA X G es t) : RE X G (.List es pos) (rLst t) := ⟨peW (L2.pe_lst h.run) fun σ H Q ⟨τ, J, Q2, a2, h, k⟩ => ⟨τ, J, _, a2, h, fun xs J' vs H' rs rr ee ⟨hl, q⟩ =>
  ⟨by rw [← rs.length]; exact hl, fun p hp => k (.ref p) _ (.ref p) _ rfl (rr.laidL hp rs) (ee.trans (.laid hp)) (q p (rr.free hp))⟩⟩⟩
def rFl (t : TAr) : TEr := fun τ J Q => t τ J fun xs J1 => xs.length ≤ sizeLine ∧ Q (.fl xs) J1
theorem new_fl {K : PySem.W.Frag} {J : Hq} {H : Hp} {xs : List PV} {vs : List V} {p : Addr} (rr : Rep K J H) (rs : RepVs K J H xs vs) (hp : H p = none) : RepV K J (upd H p (.lst vs)) (.fl xs) (.ref p) ∧ Rep K J (upd H p (.lst vs)) ∧ Ext K J H J (upd H p (.lst vs)) := by
  have sm := Same.new hp (.lst vs)
  have e2 := Ext.same (K := K) (J := J) sm
  exact ⟨⟨p, vs, rfl, .inl ⟨rr.free hp, .inl upd_same⟩, e2.reps rs⟩, rr.same sm, e2⟩
theorem re_fl (h : RA X G es t) : RE X G (.List es pos) (rFl t) := ⟨peW (L2.pe_lst h.run) fun σ H Q ⟨τ, J, Q2, a2, h, k⟩ => ⟨τ, J, _, a2, h, fun xs J' vs H' rs rr ee ⟨hl, q⟩ =>
  ⟨by rw [← rs.length]; exact hl, fun p hp => let ⟨x1, x2, x3⟩ := new_fl rr rs hp; k (.fl xs) _ (.ref p) _ x1 x2 (ee.trans x3) q⟩⟩⟩
abbrev TOr := Sr → Hq → (Option Int → Hq → Prop) → Prop
def LO (K : PySem.W.Frag) (G : G2) (t : TOr) : TO := fun σ H Q => ∃ τ J Q2, At2 K G τ J σ H ∧ t τ J Q2 ∧ ∀ b J' H', Rep K J' H' → Ext K J H J' H' → Q2 b J' → Q b H'
structure RO (X : Cx) (G : G2) (e : Option Expr) (t : TOr) : Prop where
  run : L2.PO X e (LO X.K G t)
theorem poW {X : Cx} {e : Option Expr} {t t' : TO} (h : L2.PO X e t) (k : ∀ σ H Q, t' σ H Q → t σ H Q) : L2.PO X e t' := fun pins s σ H Q I q => h pins s σ H Q I (k _ _ _ q)
def rNoPart : TOr := fun _ J Q => Q none J
def rPart (t : TEr) : TOr := fun τ J Q => t τ J fun x J1 => ∃ i, x = .int i ∧ Q (some i) J1
theorem ro_none : RO X G none rNoPart := ⟨poW L2.po_none fun σ H Q ⟨τ, J, Q2, a2, h, k⟩ => k none J H a2.hp .refl h⟩
theorem ro_some (h : RE X G e te) : RO X G (some e) (rPart te) := ⟨poW (L2.po_some h.run) fun σ H Q ⟨τ, J, Q2, a2, h, k⟩ => ⟨τ, J, _, a2, h, fun x J' v H' rx rr ee ⟨i, ei, q⟩ => by subst ei; exact ⟨i, rx, k _ J' H' rr ee q⟩⟩⟩
abbrev RSlr := PV → Option Int → Option Int → Hq → (PV → Hq → Prop) → Prop
def SlL (X : Cx) (q : RSlr) : Prop := ∃ r, SlR X r ∧ ∀ J H x lo hi v Q2 Q, RepV X.K J H x v → Rep X.K J H → q x lo hi J Q2 → Kn X.K J H Q2 Q → r v lo hi H Q
def rSl (q : RSlr) (te : TEr) (tl th : TOr) : TEr := fun τ J Q => te τ J fun x J1 => tl τ J1 fun l J2 => th τ J2 fun u J3 => q x l u J3 Q
theorem re_slice {lo hi : Option Expr} {tl th : TOr} {q : RSlr} (hr : SlL X q) (he : RE X G e te) (hl : RO X G lo tl) (hu : RO X G hi th) : RE X G (.Subscript e (.Slice lo hi none p2) pos) (rSl q te tl th) := by
  obtain ⟨r, h, lr⟩ := hr
  exact ⟨peW (L2.pe_slice h he.run hl.run hu.run) fun σ H Q ⟨τ, J, Q2, a2, h, k⟩ => ⟨τ, J, _, a2, h, fun x J' v H' rx rr ee q1 => ⟨τ, J', _, a2.go rr ee, q1, fun l J2 H2 r2 e2 q2 =>
    ⟨τ, J2, _, a2.go r2 (ee.trans e2), q2, fun u J3 H3 r3 e3 q3 => lr J3 H3 x l u v Q2 Q ((e2.trans e3).rep rx) r3 q3 fun z J4 w H4 rz r4 e4 q4 => k z J4 w H4 rz r4 (((ee.trans e2).trans e3).trans e4) q4⟩⟩⟩⟩
def rCB (q : RLr) (t : TAr) : TEr := fun τ J Q => t τ J fun xs J1 => q xs J1 Q
theorem cb_lift {r : List V → Hp → VK → Prop} {q : RLr} (lr : LRL X.K r q) : ∀ σ H Q, LE X.K G (rCB q t) σ H Q → L2.tCB r (LA X.K G t) σ H Q := fun σ H Q ⟨τ, J, Q2, a2, h, k⟩ =>
  ⟨τ, J, _, a2, h, fun xs J1 vs H1 rs r1 e1 q1 => lr J1 H1 xs vs Q2 Q rs r1 q1 fun z J' u H' rz rr ee qq => k z J' u H' rz rr (e1.trans ee) qq⟩
theorem re_callB {id : String} {q : RLr} (hc : CaL X (.builtin id) q) (hg : Gl X x) (hm : X.mg x = none) (hv : bootBuiltins x = some (.builtin id)) (ha : RA X G (e :: es) t) (hn : x ≠ "__name__" := by decide) (hdb : (x == ("__debug__" : Str)) = false := by decide)
    (he : starEach (e :: es) X.env = (false, eval e X.env) :: starEach es X.env := by rfl) (hpl : (backTo pos (starEach es X.env)).any (·.1) = false := by rfl) : RE X G (.Call (.Name x p) (e :: es) [] pos) (rCB q t) := by
  obtain ⟨r, h, lr⟩ := hc
  exact ⟨peW (L2.pe_callB h hg hm hv ha.run hn hdb he hpl) (cb_lift lr)⟩
theorem re_callTy {T : String} {q : RLr} (hc : CaL X (.type T) q) (hg : Gl X x) (hm : X.mg x = none) (hv : bootBuiltins x = some (.type T)) (ha : RA X G (e :: es) t) (hn : x ≠ "__name__" := by decide) (hdb : (x == ("__debug__" : Str)) = false := by decide)
    (he : starEach (e :: es) X.env = (false, eval e X.env) :: starEach es X.env := by rfl) (hpl : (backTo pos (starEach es X.env)).any (·.1) = false := by rfl) : RE X G (.Call (.Name x p) (e :: es) [] pos) (rCB q t) := by
  obtain ⟨r, h, lr⟩ := hc
  exact ⟨peW (L2.pe_callTy h hg hm hv ha.run hn hdb he hpl) (cb_lift lr)⟩
abbrev RMr := PV → List PV → Hq → (PV → Hq → Prop) → Prop
def MtL (X : Cx) (T id : String) (q : RMr) : Prop := ∃ r, MtR X id r ∧ ∀ J H x xs v vs Q2 Q, RepV X.K J H x v → RepVs X.K J H xs vs → Rep X.K J H → q x xs J Q2 → Kn X.K J H Q2 Q → r v vs H Q
def tyQ (T : String) (J : Hq) : PV → Prop
  | .str _ => T = "str"
  | .fl _ => T = "list"
  | .ref a => (T = "list" ∧ ∃ xs, J a = some (.lst xs)) ∨ (T = "dict" ∧ ∃ kvs ep, J a = some (.dct kvs ep))
  | _ => False
theorem tyQ_rep {K : PySem.W.Frag} {T : String} {J : Hq} {H : Hp} {x : PV} {v : V} (r : RepV K J H x v) (hp : Rep K J H) (h : tyQ T J x) : L2.tyV K T v H := by
  cases x with
  | str s => cases r; exact h
  | fl xs => obtain ⟨a, vs, rfl, h1, h2⟩ := r; exact .inl ⟨h, vs, h1.sq⟩
  | ref a =>
    cases r
    rcases h with ⟨h, xs, e⟩ | ⟨h, kvs, ep, e⟩
    · obtain ⟨vs, h1, _⟩ := hp _ _ e; exact .inl ⟨h, vs, .inl (.inl h1)⟩
    · obtain ⟨gs, h1, _⟩ := hp _ _ e; exact .inr (.inr (.inl ⟨h, .inr ⟨gs, ep, h1⟩⟩))
  | _ => cases h
def rBM (T : String) (q : RMr) (to : TEr) (t : TAr) : TEr := fun τ J Q => to τ J fun x J1 => tyQ T J1 x ∧ t τ J1 fun xs J2 => q x xs J2 Q
def rBM0 (T : String) (q : RMr) (to : TEr) : TEr := fun τ J Q => to τ J fun x J1 => tyQ T J1 x ∧ q x [] J1 Q
theorem re_bm {name : Str} {T id : String} {q : RMr} (pa : PlainAttrs T) (slot : Slot T name id) (hty : typeOf (.builtin id) = pure (.type "method_descriptor")) (hm : MtL X T id q) (ho : RE X G o to) (ha : RA X G (e :: es) t)
    (hbase : attributeBase o name X.env (eval o X.env) = eval o X.env := by rfl)
    (hfew : ((backTo cpos (starEach (e :: es) X.env)).all (fun x => !x.1) && (backToKw cpos (keywordEach [] X.env)).all (fun x => x.1.isSome)
      && decide ((e :: es).length + ([] : List Keyword).length + (if ([] : List Keyword).isEmpty then 0 else 1) < 30)) = true := by rfl)
    (hline : (apos.endLine == cpos.line) = true := by rfl) (hs : starEach (e :: es) X.env = (false, eval e X.env) :: starEach es X.env := by rfl) (hplain : (backTo cpos (starEach es X.env)).any (·.1) = false := by rfl) :
    RE X G (.Call (.Attribute o name apos) (e :: es) [] cpos) (rBM T q to t) := by
  obtain ⟨r, h, lr⟩ := hm
  exact ⟨peW (L2.pe_bm pa slot hty h ho.run ha.run hbase hfew hline hs hplain) fun σ H Q ⟨τ, J, Q2, a2, h, k⟩ => ⟨τ, J, _, a2, h, fun x J1 v H1 rx r1 e1 ⟨ty, q1⟩ => ⟨tyQ_rep rx r1 ty, τ, J1, _, a2.go r1 e1, q1, fun xs J2 vs H2 rs r2 e2 q2 =>
    lr J2 H2 x xs v vs Q2 Q (e2.rep rx) rs r2 q2 fun z J' u H' rz rr ee qq => k z J' u H' rz rr ((e1.trans e2).trans ee) qq⟩⟩⟩
theorem re_bm0 {name : Str} {T id : String} {q : RMr} (pa : PlainAttrs T) (slot : Slot T name id) (hty : typeOf (.builtin id) = pure (.type "method_descriptor")) (hm : MtL X T id q) (ho : RE X G o to)
    (hbase : attributeBase o name X.env (eval o X.env) = eval o X.env := by rfl) (hline : (apos.endLine == cpos.line) = true := by rfl) : RE X G (.Call (.Attribute o name apos) [] [] cpos) (rBM0 T q to) := by
  obtain ⟨r, h, lr⟩ := hm
  exact ⟨peW (L2.pe_bm0 pa slot hty h ho.run hbase hline) fun σ H Q ⟨τ, J, Q2, a2, h, k⟩ => ⟨τ, J, _, a2, h, fun x J1 v H1 rx r1 e1 ⟨ty, q1⟩ => ⟨tyQ_rep rx r1 ty,
    lr J1 H1 x [] v [] Q2 Q rx rfl r1 q1 fun z J' u H' rz rr ee qq => k z J' u H' rz rr (e1.trans ee) qq⟩⟩⟩
end
end Ov
set_option Elab.async false
set_option linter.all false
set_option maxRecDepth 100000
namespace Ov
open PySem PySem.Spec PyProof.Rows
open L2 (V HO Hp Inv Cx VK XK TE TT TA TS TG TGs TI TO TSet Ends Vis Loc Gl Rd RelV Vals OpR UnR CallR IxR SlR MtR PSet R2 upd upd_same upd_ne SqL SqT Sp CXT It Same PlainIx Room Passes Cls NoAttr Meth Mk Binds FnOk Fun FnScope atI TyOf putF)
abbrev Spr := List PV → Hq → (PV → Hq → Prop) → (Addr → Hq → Prop) → Prop
def KnE (K : PySem.W.Frag) (J : Hq) (H : Hp) (E2 : Addr → Hq → Prop) (E : XK) : Prop := ∀ c J' H', Rep K J' H' → Ext K J H J' H' → E2 c J' → E (.ref c) none H'
def LSp (K : PySem.W.Frag) (sp : Spr) : Sp := fun vs H Q E => ∃ xs J Q2 E2, RepVs K J H xs vs ∧ Rep K J H ∧ sp xs J Q2 E2 ∧ Kn K J H Q2 Q ∧ KnE K J H E2 E
theorem KnE.ext {K : PySem.W.Frag} {J J' : Hq} {H H' : Hp} {E2 : Addr → Hq → Prop} {E : XK} (k : KnE K J H E2 E) (e : Ext K J H J' H') : KnE K J' H' E2 E := fun c J1 H1 r x q => k c J1 H1 r (e.trans x) q
theorem _root_.L2.FnOk.fly {P : Program} {w : World} {K : PySem.W.Frag} {mg : Str → Option Value} {base : Heap} {k : Nat} {f : Addr} {fd : FuncData} {ps : List Str} {sp : Sp} (F : FnOk P w K mg base L2.CX0 k f fd ps sp) : FnOk P w K mg base (Fly P w) k f fd ps sp :=
  ⟨F.len, fun A outer s H args us vs Q E hr he hb hv hs => codeAny_mono (F.run A outer s H args us vs Q E hr he hb hv hs) fun r s' q => by
    cases r with
    | error e => exact False.elim q
    | ok fl => cases fl <;> exact q⟩
theorem _root_.L2.FnOk.unfly {P : Program} {w : World} {K : PySem.W.Frag} {mg : Str → Option Value} {base : Heap} {k : Nat} {f : Addr} {fd : FuncData} {ps : List Str} {sp : Sp} (F : FnOk P w K mg base (Fly P w) k f fd ps sp) : FnOk P w K mg base L2.CX0 k f fd ps (fun vs H Q _ => sp vs H Q L2.E0) :=
  ⟨fun vs H Q E q => F.len vs H Q _ q, fun A outer s H args us vs Q E hr he hb hv hs => codeAny_mono (F.run A outer s H args us vs Q _ hr he hb hv hs) fun r s' q => by
    cases r with
    | error e => obtain ⟨_, _, _, _, _, z⟩ := q; exact z.elim
    | ok fl => cases fl <;> exact q⟩
def CanR (P : Program) (w : World) (K : PySem.W.Frag) (mg : Str → Option Value) (base : Heap) (k : Nat) (x : Str) (ps : List Str) (sp : Spr) : Prop := CanX P w K mg base k x ps (LSp K sp)
theorem CanR.imp {P : Program} {w : World} {K : PySem.W.Frag} {mg : Str → Option Value} {base : Heap} {k : Nat} {x : Str} {ps : List Str} {sp sp' : Spr} (C : CanR P w K mg base k x ps sp) (h : ∀ xs J Q E, sp' xs J Q E → sp xs J Q E) : CanR P w K mg base k x ps sp' := by
  obtain ⟨f, fd, F, r⟩ := C
  exact ⟨f, fd, F.imp fun vs H Q E ⟨xs, J, Q2, E2, a, b, c, d⟩ => ⟨xs, J, Q2, E2, a, b, h _ _ _ _ c, d⟩, r⟩
theorem _root_.Ov.Can.lift {P : Program} {w : World} {K : PySem.W.Frag} {mg : Str → Option Value} {base : Heap} {k : Nat} {x : Str} {ps : List Str} {sp : Sp} (C : Can P w K mg base k x ps sp) {sp' : Spr}
    (h : ∀ xs J vs H Q2 E2 Q E, RepVs K J H xs vs → Rep K J H → sp' xs J Q2 E2 → Kn K J H Q2 Q → sp vs H Q E) : CanR P w K mg base k x ps sp' := by
  obtain ⟨f, fd, F, r⟩ := C
  exact ⟨f, fd, (F.fly).imp fun vs H Q E ⟨xs, J, Q2, E2, a, b, c, d, _⟩ => h xs J vs H Q2 E2 Q E a b c d, r⟩
theorem CanX.lift {P : Program} {w : World} {K : PySem.W.Frag} {mg : Str → Option Value} {base : Heap} {k : Nat} {x : Str} {ps : List Str} {sp : Sp} (C : CanX P w K mg base k x ps sp) {sp' : Spr}
    (h : ∀ xs J vs H Q2 E2 Q E, RepVs K J H xs vs → Rep K J H → sp' xs J Q2 E2 → Kn K J H Q2 Q → KnE K J H E2 E → sp vs H Q E) : CanR P w K mg base k x ps sp' := by
  obtain ⟨f, fd, F, r⟩ := C
  exact ⟨f, fd, F.imp fun vs H Q E ⟨xs, J, Q2, E2, a, b, c, d, e⟩ => h xs J vs H Q2 E2 Q E a b c d e, r⟩
section
variable {X : Cx} {G : G2} {a b c e o value : Expr} {es rest : List Expr} {ta tb te tc to tv : TEr} {tA tB' : TTr} {t : TAr} {pos px p p2 apos cpos pos' : Pos} {x : Str} {i j : Nat} {E : XK} {E2 : Addr → Hq → Prop}
structure Ebd (X : Cx) (G : G2) (E2 : Addr → Hq → Prop) (E : XK) : Prop where
  pass : Passes (Fly X.prog X.w) X E
  kn : KnE X.K G.1 G.2 E2 E
def rCall (sp : Spr) (E2 : Addr → Hq → Prop) (t : TAr) : TEr := fun τ J Q => t τ J fun xs J1 => sp xs J1 Q E2
theorem re_fn {k k' : Nat} {ps : List Str} {sp : Spr} (C : CanR X.prog X.w X.K X.mg X.base k x ps sp) (B : Ebd X G E2 E) (hr : Room k' X.A) (hk : k ≤ k') (hg : Gl X x) (ha : RA X G (e :: es) t)
    (hdb : (x == ("__debug__" : Str)) = false := by decide) (he : starEach (e :: es) X.env = (false, eval e X.env) :: starEach es X.env := by rfl) (hpl : (backTo pos (starEach es X.env)).any (·.1) = false := by rfl) :
    RE X G (.Call (.Name x p) (e :: es) [] pos) (rCall sp E2 t) :=
  ⟨peW (pe_canX C B.pass hr hk hg ha.run hdb he hpl) fun σ H Q ⟨τ, J, Q2, a2, h, k⟩ => ⟨τ, J, _, a2, h, fun xs J1 vs H1 rs r1 e1 q1 => by
    simp only [List.append_nil]
    exact ⟨xs, J1, Q2, E2, rs, r1, q1, fun z J' u H' rz rr ee qq => k z J' u H' rz rr (e1.trans ee) qq, B.kn.ext (a2.ext.trans e1)⟩⟩⟩
def rFld (C : Addr) (ta : TEr) (f : Str) : TEr := fun τ J Q => ta τ J fun x J1 => ∃ a fs v, x = .ref a ∧ J1 a = some (.ins C fs) ∧ fs.lookup f = some v ∧ Q v J1
theorem re_fld {C : Addr} {f : Str} (cl : Cls X.K C) (na : NoAttr X.K C f) (he : RE X G e ta) (hb : attributeBase e f X.env (eval e X.env) = eval e X.env := by rfl) : RE X G (.Attribute e f pos) (rFld C ta f) :=
  ⟨peW (L2.pe_fld he.run hb) fun σ H Q ⟨τ, J, Q2, a2, h, k⟩ => ⟨τ, J, _, a2, h, fun x J1 v H1 rx r1 e1 ⟨a, fs, y, ex, ja, lk, q⟩ => by
    subst ex; cases rx
    obtain ⟨dx, gs, ha, rf⟩ := r1 _ _ ja
    obtain ⟨w, lw, rw'⟩ := rf.look lk
    exact ⟨a, C, dx, gs, w, rfl, ha, cl, na, lw, k y J1 w H1 rw' r1 e1 q⟩⟩⟩
structure MthR (P : Program) (w : World) (K : PySem.W.Frag) (mg : Str → Option Value) (base : Heap) (C : Addr) (k : Nat) (m : Str) (ps : List Str) (sp : Spr) : Prop where
  cl : Cls K C
  ex : ∃ f fd, Meth K C m f ∧ FnOk P w K mg base (Fly P w) k f fd ps (LSp K sp) ∧ Binds K fd ps []
theorem MthR.imp {P : Program} {w : World} {K : PySem.W.Frag} {mg : Str → Option Value} {base : Heap} {C : Addr} {k : Nat} {m : Str} {ps : List Str} {sp sp' : Spr} (M : MthR P w K mg base C k m ps sp) (h : ∀ xs J Q E, sp' xs J Q E → sp xs J Q E) : MthR P w K mg base C k m ps sp' := by
  obtain ⟨cl, f, fd, hm, F, r⟩ := M
  exact ⟨cl, f, fd, hm, F.imp fun vs H Q E ⟨xs, J, Q2, E2, a, b, c, d⟩ => ⟨xs, J, Q2, E2, a, b, h _ _ _ _ c, d⟩, r⟩
def rMth (C : Addr) (m : Str) (sp : Spr) (E2 : Addr → Hq → Prop) (ta : TEr) (t : TAr) : TEr := fun τ J Q => ta τ J fun x J1 => ∃ a fs, x = .ref a ∧ J1 a = some (.ins C fs) ∧ fs.lookup m = none ∧ t τ J1 fun xs J2 => sp (x :: xs) J2 Q E2
theorem mth_lift {C : Addr} {m : Str} {sp : Spr} (B : Ebd X G E2 E) : ∀ σ H Q, LE X.K G (rMth C m sp E2 to t) σ H Q → L2.tMeth C m (LSp X.K sp) [] E (LE X.K G to) (LA X.K G t) σ H Q := fun σ H Q ⟨τ, J, Q2, a2, h, k⟩ =>
  ⟨τ, J, _, a2, h, fun x J1 v H1 rx r1 e1 ⟨a, fs, ex, ja, lk, q⟩ => by
    subst ex; cases rx
    obtain ⟨dx, gs, ha, rf⟩ := r1 _ _ ja
    refine ⟨a, dx, gs, rfl, ha, rf.none lk, τ, J1, _, a2.go r1 e1, q, fun xs J2 vs H2 rs r2 e2 q2 => ?_⟩
    simp only [List.append_nil]
    exact ⟨.ref a :: xs, J2, Q2, E2, ⟨.ref a, vs, rfl, rfl, rs⟩, r2, q2, fun z J' u H' rz rr ee qq => k z J' u H' rz rr ((e1.trans e2).trans ee) qq, B.kn.ext ((a2.ext.trans e1).trans e2)⟩⟩
theorem re_meth {C : Addr} {m : Str} {k k' : Nat} {ps : List Str} {sp : Spr} {pl : Sem Bool} (M : MthR X.prog X.w X.K X.mg X.base C k m ps sp) (B : Ebd X G E2 E) (hr : Room k' X.A) (hk : k ≤ k') (ho : RE X G o to) (ha : RA X G (e :: es) t)
    (hst : starEach (e :: es) X.env = (false, eval e X.env) :: starEach es X.env := by rfl) (hpl : (backTo pos (starEach es X.env)).any (·.1) = false := by rfl)
    (ht : eval (.Call (.Attribute o m apos) (e :: es) [] pos) X.env = (do
      let ov ← eval o X.env
      standAt apos.atName
      let (f, first) ← holding [ov] (getMethod ov m pl)
      callWith pos f first (backTo pos (starEach (e :: es) X.env)) (backToKw pos (keywordEach [] X.env))) := by rfl) :
    RE X G (.Call (.Attribute o m apos) (e :: es) [] pos) (rMth C m sp E2 to t) := by
  obtain ⟨cl, f, fd, hm, F, b⟩ := M
  exact ⟨peW (L2.pe_meth (pl := pl) ho.run cl hm F (hr.mono hk) b .nil B.pass ha.run hst hpl ht) (mth_lift B)⟩
theorem re_meth0 {C : Addr} {m : Str} {k k' : Nat} {ps : List Str} {sp : Spr} {pl : Sem Bool} (M : MthR X.prog X.w X.K X.mg X.base C k m ps sp) (B : Ebd X G E2 E) (hr : Room k' X.A) (hk : k ≤ k') (ho : RE X G o to)
    (ht : eval (.Call (.Attribute o m apos) [] [] pos) X.env = (do
      let ov ← eval o X.env
      standAt apos.atName
      let (f, first) ← holding [ov] (getMethod ov m pl)
      callWith pos f first (backTo pos (starEach [] X.env)) (backToKw pos (keywordEach [] X.env))) := by rfl) :
    RE X G (.Call (.Attribute o m apos) [] [] pos) (rMth C m sp E2 to rNil) := by
  obtain ⟨cl, f, fd, hm, F, b⟩ := M
  refine ⟨peW (L2.pe_meth0 (pl := pl) ho.run cl hm F (hr.mono hk) b .nil B.pass ht) fun σ H Q h => ?_⟩
  have z := mth_lift B σ H Q h
  obtain ⟨τ, J, Q2, a2, h1, k1⟩ := z
  refine ⟨τ, J, Q2, a2, h1, fun x J1 v H1 rx r1 e1 q1 => ?_⟩
  obtain ⟨a, dx, fs, h2, h3, h4, τ', J', Q', a2', h5, k5⟩ := k1 x J1 v H1 rx r1 e1 q1
  exact ⟨a, dx, fs, h2, h3, h4, k5 [] J' [] H1 rfl a2'.hp .refl h5⟩
structure MakR (P : Program) (w : World) (K : PySem.W.Frag) (mg : Str → Option Value) (base : Heap) (C : Addr) (k : Nat) (x : Str) (ps : List Str) (sp : Spr) : Prop where
  m : mg x = some (.ref C)
  ex : ∃ f fd, Mk K C f ∧ FnOk P w K mg base (Fly P w) k f fd ps (LSp K sp) ∧ Binds K fd ps []
def rMak (C : Addr) (sp : Spr) (E2 : Addr → Hq → Prop) (t : TAr) : TEr := fun τ J Q => t τ J fun xs J1 => ∀ a, J1 a = none → sp (.ref a :: xs) (put J1 a (.ins C [])) (fun v J2 => v = .non ∧ Q (.ref a) J2) E2
theorem mak_lift {C : Addr} {sp : Spr} (B : Ebd X G E2 E) : ∀ σ H Q, LE X.K G (rMak C sp E2 t) σ H Q → L2.tMake C (LSp X.K sp) [] E (LA X.K G t) σ H Q := fun σ H Q ⟨τ, J, Q2, a2, h, k⟩ =>
  ⟨τ, J, _, a2, h, fun xs J1 vs H1 rs r1 e1 q1 x dx hx hdx ne => by
    have s1 := Same.new hdx (.own x)
    have hx' : upd H1 dx (.own x) x = none := by rw [upd_ne (Ne.symm ne)]; exact hx
    have r2 := r1.same s1
    have e2 : Ext X.K J1 H1 (put J1 x (.ins C [])) (upd (upd H1 dx (.own x)) x (.ins C dx [])) := (Ext.same s1).trans (.laid hx')
    have r3 : Rep X.K (put J1 x (.ins C [])) (upd (upd H1 dx (.own x)) x (.ins C dx [])) := r2.upto (.laid hx') x (fun a ne => put_ne ne) (fun a o ne _ z => by rw [upd_ne ne]; exact z) fun u z => by
      rw [put_same] at z; cases z
      exact ⟨dx, [], upd_same, rfl, rfl⟩
    simp only [List.append_nil]
    refine ⟨.ref x :: xs, _, _, E2, ⟨.ref x, vs, rfl, rfl, e2.reps rs⟩, r3, q1 x (r1.free hx), fun z J' u H' rz rr ee ⟨ez, qq⟩ => ?_, B.kn.ext ((a2.ext.trans e1).trans e2)⟩
    subst ez
    exact ⟨rz, k (.ref x) J' (.ref x) H' rfl rr ((e1.trans e2).trans ee) qq⟩⟩
theorem re_make {C : Addr} {k k' : Nat} {ps : List Str} {sp : Spr} (M : MakR X.prog X.w X.K X.mg X.base C k x ps sp) (B : Ebd X G E2 E) (hr : Room k' X.A) (hk : k + 1 ≤ k') (hg : Gl X x) (ha : RA X G (e :: es) t)
    (hdb : (x == ("__debug__" : Str)) = false := by decide) (he : starEach (e :: es) X.env = (false, eval e X.env) :: starEach es X.env := by rfl) (hpl : (backTo pos (starEach es X.env)).any (·.1) = false := by rfl) :
    RE X G (.Call (.Name x p) (e :: es) [] pos) (rMak C sp E2 t) := by
  obtain ⟨hm, f, fd, mk, F, b⟩ := M
  exact ⟨peW (L2.pe_make mk F (hr.mono hk) hg hm b .nil B.pass ha.run hdb he hpl) (mak_lift B)⟩
end
section
variable {X : Cx} {G : G2} {st : Stmt} {rest : List Stmt} {t u : TSr} {e tg o value : Expr} {es : List Expr} {te ta tv : TEr} {tc : TTr} {pos pos' : Pos}
def rNext : TSr := fun D τ J => D.nx τ J
def rSeq (t u : TSr) : TSr := fun D τ J => t { D with nx := u D } τ J
theorem rb_nil : RB X G [] rNext := ⟨pbW L2.pss_nil fun D σ H ⟨τ, J, D2, a2, h, g⟩ => g.nx τ J σ H a2.sl a2.hp .refl h⟩
theorem rb_cons (h1 : RS X G st t) (h2 : RB X G rest u) : RB X G (st :: rest) (rSeq t u) := ⟨pbW (L2.pss_cons h1.run h2.run) fun D σ H ⟨τ, J, D2, a2, h, g⟩ => ⟨τ, J, { D2 with nx := u D2 }, a2, h,
  { nx := fun τ' J' σ' H' rs rr ee q => ⟨τ', J', D2, ⟨rs, rr, a2.ext.trans ee⟩, q, g.ext ee⟩, rt := g.rt, bk := g.bk, ct := g.ct }⟩⟩
theorem rb_one (h1 : RS X G st t) : RB X G [st] t := ⟨L2.pss_one h1.run⟩
def rCut (t u : TSr) : TSr := fun D τ J => ∃ M : Sr → Hq → Prop, t { D with nx := M } τ J ∧ ∀ τ' J', M τ' J' → u D τ' J'
theorem rb_join (h1 : RS X G st t) (h2 : RB X G rest u) : RB X G (st :: rest) (rCut t u) := ⟨pbW (L2.pss_cons h1.run h2.run) fun D σ H ⟨τ, J, D2, a2, ⟨M, h, hm⟩, g⟩ => ⟨τ, J, { D2 with nx := M }, a2, h,
  { nx := fun τ' J' σ' H' rs rr ee q => ⟨τ', J', D2, ⟨rs, rr, a2.ext.trans ee⟩, hm _ _ q, g.ext ee⟩, rt := g.rt, bk := g.bk, ct := g.ct }⟩⟩
def rBrk : TSr := fun D τ J => D.bk τ J
def rCnt : TSr := fun D τ J => D.ct τ J
theorem rs_continue : RS X G (.Continue pos) rCnt := ⟨psW L2.ps_continue fun D σ H ⟨τ, J, D2, a2, h, g⟩ => g.ct τ J σ H a2.sl a2.hp .refl h⟩
def rDrop (te : TEr) : TSr := fun D τ J => te τ J fun _ J1 => D.nx τ J1
theorem rs_expr (he : RE X G e te) (hs : swapsWith e none pos.line X.env = pure false := by rfl) : RS X G (.Expr e pos) (rDrop te) := ⟨psW (L2.ps_expr he.run hs) fun D σ H ⟨τ, J, D2, a2, h, g⟩ =>
  ⟨τ, J, _, a2, h, fun x J' v H' rx rr ee q => g.nx τ J' σ H' (a2.sl.ext ee) rr ee q⟩⟩
def rRet (te : TEr) : TSr := fun D τ J => te τ J D.rt
theorem rs_ret (he : RE X G e te) : RS X G (.Return (some e) pos) (rRet te) := ⟨psW (L2.ps_ret he.run) fun D σ H ⟨τ, J, D2, a2, h, g⟩ => ⟨τ, J, _, a2, h, fun x J' v H' rx rr ee q => g.rt x J' v H' rx rr ee q⟩⟩
def rRetN : TSr := fun D _ J => D.rt .non J
theorem rs_retN : RS X G (.Return none pos) rRetN := ⟨psW L2.ps_retN fun D σ H ⟨τ, J, D2, a2, h, g⟩ => g.rt .non J .non H rfl a2.hp .refl h⟩
def rIfS (c : TTr) (t u : TSr) : TSr := fun D τ J => c τ J fun b J1 => if b = true then t D τ J1 else u D τ J1
theorem rs_if {c : Expr} {a b : List Stmt} (hc : RT X G c tc) (ha : RB X G a t) (hb : RB X G b u) : RS X G (.If c a b pos) (rIfS tc t u) := ⟨psW (L2.ps_if hc.run ha.run hb.run) fun D σ H ⟨τ, J, D2, a2, h, g⟩ =>
  ⟨τ, J, _, a2, h, fun c J' H' rr ee q => by
    cases c with
    | true => simp only [if_true] at q ⊢; exact ⟨τ, J', D2, a2.go rr ee, q, g.ext ee⟩
    | false => simp only [Bool.false_eq_true, if_false] at q ⊢; exact ⟨τ, J', D2, a2.go rr ee, q, g.ext ee⟩⟩⟩
abbrev TGr := PV → Sr → Hq → (Sr → Hq → Prop) → Prop
abbrev TGsr := List PV → Sr → Hq → (Sr → Hq → Prop) → Prop
def LG (K : PySem.W.Frag) (G : G2) (t : TGr) : TG := fun v σ H Q => ∃ x τ J Q2, RepV K J H x v ∧ At2 K G τ J σ H ∧ t x τ J Q2 ∧ ∀ τ' J' σ' H', RepS K J' H' τ' σ' → Rep K J' H' → Ext K J H J' H' → Q2 τ' J' → Q σ' H'
def LGs (K : PySem.W.Frag) (G : G2) (t : TGsr) : TGs := fun vs σ H Q => ∃ xs τ J Q2, RepVs K J H xs vs ∧ At2 K G τ J σ H ∧ t xs τ J Q2 ∧ ∀ τ' J' σ' H', RepS K J' H' τ' σ' → Rep K J' H' → Ext K J H J' H' → Q2 τ' J' → Q σ' H'
structure RG (X : Cx) (G : G2) (e : Expr) (t : TGr) : Prop where
  run : L2.PG X e (LG X.K G t)
structure RGs (X : Cx) (G : G2) (es : List Expr) (t : TGsr) : Prop where
  run : L2.PGs X es (LGs X.K G t)
theorem pgW {X : Cx} {e : Expr} {t t' : TG} (h : L2.PG X e t) (k : ∀ v σ H Q, t' v σ H Q → t v σ H Q) : L2.PG X e t' := fun pins s σ H v u Q I r q => h pins s σ H v u Q I r (k _ _ _ _ q)
theorem pgsW {X : Cx} {e : List Expr} {t t' : TGs} (h : L2.PGs X e t) (k : ∀ v σ H Q, t' v σ H Q → t v σ H Q) : L2.PGs X e t' := fun pins s σ H v u Q I r q => h pins s σ H v u Q I r (k _ _ _ _ q)
def gNm (i : Nat) : TGr := fun x τ J Q => Q (τ.set i (some x)) J
theorem rg_name {i : Nat} {x : Str} (hN : X.N.Nodup) (hi : X.N[i]? = some x) (hx : Loc X.env.scope x) (hf : X.fn x = true ∨ X.env.scope.names.lookup x = some .local := by first | exact .inl rfl | exact .inr rfl | assumption) : RG X G (.Name x pos) (gNm i) :=
  ⟨pgW (L2.pg_name hN hi hx hf) fun v σ H Q ⟨x, τ, J, Q2, rx, a2, q, k⟩ => k _ J _ H (a2.sl.set i rx) a2.hp .refl q⟩
def gNi : TGsr := fun vs τ J Q => vs = [] ∧ Q τ J
def gCo (t : TGr) (u : TGsr) : TGsr := fun vs τ J Q => ∃ v r, vs = v :: r ∧ t v τ J fun τ' J' => u r τ' J' Q
theorem rgs_nil : RGs X G [] gNi := ⟨pgsW L2.pgs_nil fun vs σ H Q ⟨xs, τ, J, Q2, rs, a2, ⟨e, q⟩, k⟩ => by subst e; exact ⟨rs, k τ J σ H a2.sl a2.hp .refl q⟩⟩
theorem rgs_cons {e : Expr} {es : List Expr} {t : TGr} {u : TGsr} (h1 : RG X G e t) (h2 : RGs X G es u)
    (hs : (assignEach (e :: es) X.env).map (·.2) = assign e X.env :: (assignEach es X.env).map (·.2) := by rfl) : RGs X G (e :: es) (gCo t u) := ⟨pgsW (L2.pgs_cons h1.run h2.run hs) fun vs σ H Q ⟨xs, τ, J, Q2, rs, a2, ⟨y, r, e, q⟩, k⟩ => by
  subst e
  obtain ⟨v, us, rfl, rv, ru⟩ := rs
  exact ⟨v, us, rfl, y, τ, J, _, rv, a2, q, fun τ' J' σ' H' rs' rr ee q' => ⟨r, τ', J', Q2, ee.reps ru, ⟨rs', rr, a2.ext.trans ee⟩, q', fun τ2 J2 σ2 H2 rs2 rr2 ee2 q2 => k τ2 J2 σ2 H2 rs2 rr2 (ee.trans ee2) q2⟩⟩⟩
def gTu (n : Nat) (t : TGsr) : TGr := fun x τ J Q => ∃ xs, x = .tup xs ∧ xs.length = n ∧ t xs τ J Q
theorem rg_tup {k : Nat} {t : TGsr} {n : Nat} (hc : X.calm = true) (h : RGs X G es t)
    (hn : (assignEach es X.env).length = n := by rfl) (hst : (assignEach es X.env).findIdx? (·.1) = none := by rfl) : RG X G (.Tuple es k pos) (gTu n t) := ⟨pgW (L2.pg_tup hc h.run hn hst) fun v σ H Q ⟨x, τ, J, Q2, rx, a2, ⟨xs, e, l, q⟩, k⟩ => by
  subst e
  obtain ⟨a, vs, rfl, h1, h2⟩ := rx
  exact ⟨a, vs, rfl, h1, by rw [← h2.length]; exact l, xs, τ, J, Q2, h2, a2, q, k⟩⟩
def rAsg (te : TEr) (g : TGr) : TSr := fun D τ J => te τ J fun x J1 => g x τ J1 D.nx
theorem rs_asg {tg e : Expr} {g : TGr} (he : RE X G e te) (hg : RG X G tg g) (hs : swapsWithSole [tg] e pos.line X.env = pure false := by rfl) (hw : swappedStores [tg] e X.env = pure none := by rfl)
    (h1 : (assignEach [tg] X.env).map (·.2) = [assign tg X.env] := by rfl) : RS X G (.Assign [tg] e pos) (rAsg te g) := ⟨psW (L2.ps_asg he.run hg.run hs hw h1) fun D σ H ⟨τ, J, D2, a2, h, g⟩ =>
  ⟨τ, J, _, a2, h, fun x J' v H' rx rr ee q => ⟨x, τ, J', _, rx, a2.go rr ee, q, fun τ' J2 σ' H2 rs r2 e2 q2 => g.nx τ' J2 σ' H2 rs r2 (ee.trans e2) q2⟩⟩⟩
theorem rs_set {i : Nat} {x : Str} {pos' : Pos} (hN : X.N.Nodup) (hi : X.N[i]? = some x) (hx : Loc X.env.scope x) (he : RE X G e te) (hs : swapsWith e (some (.Name x pos')) pos.line X.env = pure false := by rfl) (hf : X.fn x = true ∨ X.env.scope.names.lookup x = some .local := by first | exact .inl rfl | exact .inr rfl | assumption) :
    RS X G (.Assign [.Name x pos'] e pos) (rAsg te (gNm i)) := ⟨psW (L2.ps_set hN hi hx he.run hs hf) fun D σ H ⟨τ, J, D2, a2, h, g⟩ =>
  ⟨τ, J, _, a2, h, fun x J' v H' rx rr ee q => g.nx _ J' _ H' ((a2.sl.ext ee).set i rx) rr ee q⟩⟩
def rPar (i j : Nat) (ta : TAr) : TSr := fun D τ J => ta τ J fun vs J1 => ∃ v w, vs = [v, w] ∧ D.nx ((τ.set i (some v)).set j (some w)) J1
theorem rs_par {i j : Nat} {x y : Str} {a b : Expr} {ta : TAr} {px py pt : Pos} {kt k2 pt2} (hc : X.calm = true) (hN : X.N.Nodup) (hi : X.N[i]? = some x) (hj : X.N[j]? = some y) (hij : i ≠ j)
    (hx : X.env.scope.names.lookup x = some .local) (hy : X.env.scope.names.lookup y = some .local) (ha : RA X G [a, b] ta)
    (hw : swappedStores [.Tuple [.Name x px, .Name y py] kt pt] (.Tuple [a, b] k2 pt2) X.env = pure (some [x, y]))
    (hs : swapsWithSole [.Tuple [.Name x px, .Name y py] kt pt] (.Tuple [a, b] k2 pt2) pos.line X.env = pure false := by rfl) :
    RS X G (.Assign [.Tuple [.Name x px, .Name y py] kt pt] (.Tuple [a, b] k2 pt2) pos) (rPar i j ta) := ⟨psW (L2.ps_par hc hN hi hj hij hx hy ha.run hw hs) fun D σ H ⟨τ, J, D2, a2, h, g⟩ =>
  ⟨τ, J, _, a2, h, fun xs J' vs H' rs rr ee ⟨v, w, e, q⟩ => by
    subst e
    obtain ⟨v', us, rfl, rv, w', us', rfl, rw', e'⟩ := rs
    cases e'
    exact ⟨v', w', rfl, g.nx _ J' _ H' (((a2.sl.ext ee).set i rv).set j rw') rr ee q⟩⟩⟩
def putR (f : Str) (v : PV) : List (Str × PV) → List (Str × PV)
  | [] => [(f, v)]
  | (g, w) :: r => if g = f then (g, v) :: r else (g, w) :: putR f v r
theorem putR_rep {K : PySem.W.Frag} {J : Hq} {H : Hp} {f : Str} {y : PV} {v : V} (r : RepV K J H y v) : ∀ {fs : List (Str × PV)} {gs : List (Str × V)}, RepF K J H fs gs → RepF K J H (putR f y fs) (putF f v gs)
  | [], [], _ => ⟨rfl, v, [], rfl, r, rfl⟩
  | [], _ :: _, h => by cases h.1
  | _ :: _, [], h => by cases h.1
  | (k, y') :: fs, (k', w) :: gs, h => by
    obtain ⟨h1, v', us, h2, h3, h4⟩ := h
    simp only [List.map_cons, List.cons.injEq] at h1 h2
    obtain ⟨rfl, h1⟩ := h1
    obtain ⟨rfl, rfl⟩ := h2
    unfold putR L2.putF
    by_cases hk : k = f
    · rw [if_pos hk, if_pos hk]
      exact ⟨by simp only [List.map_cons, h1], v, _, rfl, r, h4⟩
    · rw [if_neg hk, if_neg hk]
      obtain ⟨z1, z2⟩ := putR_rep (f := f) r (⟨h1, h4⟩ : RepF K J H fs gs)
      exact ⟨by simp only [List.map_cons, z1], w, _, rfl, h3, z2⟩
def rFldS (C : Addr) (ta tv : TEr) (f : Str) : TSr := fun D τ J => tv τ J fun y J1 => ta τ J1 fun x J2 => ∃ a fs, x = .ref a ∧ J2 a = some (.ins C fs) ∧ fs.length < 1000 ∧ D.nx τ (put J2 a (.ins C (putR f y fs)))
theorem Ext.wroteI {K : PySem.W.Frag} {J : Hq} {H : Hp} {p C dx : Addr} {fs gs : List (Str × PV)} {fs' gs' : List (Str × V)} (h : J p = some (.ins C fs)) (k : H p = some (.ins C dx fs')) : Ext K J H (put J p (.ins C gs)) (upd H p (.ins C dx gs')) := by
  have sm : ∀ a u, a ≠ p → Rd H a u → Rd (upd H p (.ins C dx gs')) a u := fun a u ne z => by
    rcases z with z | ⟨o, z⟩
    · exact .inl (by rw [upd_ne ne]; exact z)
    · exact .inr ⟨o, by rw [upd_ne ne]; exact z⟩
  have nn : ∀ a u, (∀ c d l, u ≠ HO.ins c d l) → Rd H a u → a ≠ p := fun a u d z e => by
    subst e
    rcases z with z | ⟨o, z⟩
    · rw [k] at z; cases z; exact d _ _ _ rfl
    · rw [k] at z; cases z
  refine ⟨fun a vs' z => ?_, fun a o z q _ => ?_⟩
  · rcases z with z | z
    · exact .inl (sm a _ (nn a (.tup vs') (fun _ _ _ e => nomatch e) z) z)
    · exact .inr z
  · have ne : a ≠ p := by intro e; subst e; rw [h] at z; cases z
    exact ⟨by rw [put_ne ne]; exact z, by rw [upd_ne ne]; exact q⟩
theorem rs_fld {C : Addr} {f : Str} (cl : Cls X.K C) (na : NoAttr X.K C f) (ha : RE X G o ta) (hv : RE X G value tv) (hs : swapsWith value (some (.Attribute o f pos')) pos.line X.env = pure false := by rfl) : RS X G (.Assign [.Attribute o f pos'] value pos) (rFldS C ta tv f) :=
  ⟨psW (L2.ps_fld ha.run hv.run hs) fun D σ H ⟨τ, J, D2, a2, h, g⟩ => ⟨τ, J, _, a2, h, fun y J1 v H1 ry r1 e1 q1 => ⟨τ, J1, _, a2.go r1 e1, q1, fun x J2 w H2 rx r2 e2 ⟨a, fs, ex, ja, hl, q2⟩ => by
    subst ex; cases rx
    obtain ⟨dx, gs, h2, rf⟩ := r2 _ _ ja
    have ll : gs.length = fs.length := by have := congrArg List.length rf.1; simpa using this.symm
    have e3 := Ext.wroteI (K := X.K) (gs := putR f y fs) (gs' := putF f v gs) ja h2
    refine ⟨a, C, dx, gs, rfl, h2, cl, na, by omega, g.nx τ _ σ _ (((a2.sl.ext e1).ext e2).ext e3) ?_ ((e1.trans e2).trans e3) q2⟩
    refine r2.upto e3 a (fun b ne => put_ne ne) (fun b o ne _ z => by rw [upd_ne ne]; exact z) fun u z => ?_
    rw [put_same] at z; cases z
    exact ⟨dx, _, upd_same, e3.repF (putR_rep (e2.rep ry) rf)⟩⟩⟩⟩
def rWhile (c : TTr) (tb : TSr) : TSr := fun D τ J => ∃ W : Nat → Sr → Hq → Prop, (∃ m, W m τ J) ∧ ∀ m τ J, W m τ J →
  c τ J fun b J1 => if b = true then ∃ N : Sr → Hq → Prop, (∀ τ' J', N τ' J' → ∃ m', m' < m ∧ W m' τ' J') ∧ tb { D with nx := N, ct := N, bk := D.nx } τ J1 else D.nx τ J1
theorem rs_while {c : Expr} {body : List Stmt} {tb : TSr} (hp : PassesOwn (model X.prog X.w) X.A X.env X.xe) (hc : RT X G c tc) (hb : RB X G body tb) : RS X G (.While c body [] pos) (rWhile tc tb) := ⟨psW (L2.ps_while hp hc.run hb.run) fun D σ H ⟨τ, J, D2, a2, ⟨W, ⟨m0, w0⟩, h⟩, g⟩ => by
  refine ⟨fun m σ' H' => ∃ τ' J', At2 X.K G τ' J' σ' H' ∧ Ext X.K J H J' H' ∧ W m τ' J', ⟨m0, τ, J, a2, .refl, w0⟩, fun m σ1 H1 ⟨τ1, J1, a1, e1, w1⟩ => ?_⟩
  refine ⟨τ1, J1, _, a1, h m τ1 J1 w1, fun b J2 H2 r2 e2 q => ?_⟩
  cases b with
  | false => simp only [Bool.false_eq_true, if_false] at q ⊢; exact g.nx τ1 J2 σ1 H2 (a1.sl.ext e2) r2 (e1.trans e2) q
  | true =>
    simp only [if_true] at q ⊢
    obtain ⟨N, hN, q⟩ := q
    refine ⟨fun σ' H' => ∃ τ' J', At2 X.K G τ' J' σ' H' ∧ Ext X.K J H J' H' ∧ N τ' J', fun σ' H' ⟨τ', J', a', e', n'⟩ => let ⟨m', lt, w'⟩ := hN τ' J' n'; ⟨m', lt, τ', J', a', e', w'⟩, τ1, J2, { D2 with nx := N, ct := N, bk := D2.nx }, a1.go r2 e2, q, ?_⟩
    have ge := g.ext (e1.trans e2)
    exact { nx := fun τ' J' σ' H' rs rr ee q => ⟨τ', J', ⟨rs, rr, (a1.ext.trans e2).trans ee⟩, (e1.trans e2).trans ee, q⟩, rt := ge.rt, bk := ge.nx, ct := fun τ' J' σ' H' rs rr ee q => ⟨τ', J', ⟨rs, rr, (a1.ext.trans e2).trans ee⟩, (e1.trans e2).trans ee, q⟩ }⟩
structure Itr2 where
  xs : List PV
  ok : Hq → Prop
structure ItRel (K : PySem.W.Frag) (it : Itr2) (I : It) (J : Hq) (H : Hp) : Prop where
  go : ∀ J' H', Ext K J H J' H' → Rep K J' H' → it.ok J' → ∀ i, i < it.xs.length → I.go i H'
  yl : ∀ J' H', Ext K J H J' H' → Rep K J' H' → it.ok J' → ∀ i, i < it.xs.length → ∀ v H2, I.yld i H' v H2 → ∃ x, it.xs[i]? = some x ∧ RepV K J' H2 x v ∧ Rep K J' H2 ∧ Ext K J' H' J' H2
  stop : ∀ J' H', Ext K J H J' H' → Rep K J' H' → it.ok J' → I.stop it.xs.length H'
abbrev TIr := Sr → Hq → (Itr2 → Hq → Prop) → Prop
def LI (K : PySem.W.Frag) (G : G2) (t : TIr) : TI := fun σ H R => ∃ τ J R2, At2 K G τ J σ H ∧ t τ J R2 ∧ ∀ it J' I H', ItRel K it I J' H' → Rep K J' H' → Ext K J H J' H' → R2 it J' → R I H'
structure RI (X : Cx) (G : G2) (tg e : Expr) (t : TIr) : Prop where
  run : L2.PI X tg e (LI X.K G t)
theorem piW {X : Cx} {tg e : Expr} {t t' : TI} (h : L2.PI X tg e t) (k : ∀ σ H Q, t' σ H Q → t σ H Q) : L2.PI X tg e t' := fun pins s σ H Q I q => h pins s σ H Q I (k _ _ _ q)
def rFor (wi : TIr) (g : TGr) (tb : TSr) : TSr := fun D τ J => wi τ J fun it J1 => ∃ Pv : Nat → Sr → Hq → Prop, Pv 0 τ J1 ∧ (∀ i τ J, Pv i τ J → it.ok J) ∧
  (∀ i x τ J, it.xs[i]? = some x → Pv i τ J → g x τ J fun τ2 J2 => tb { D with nx := Pv (i + 1), ct := Pv (i + 1), bk := D.nx } τ2 J2) ∧ ∀ τ J, Pv it.xs.length τ J → D.nx τ J
theorem rs_for {iter : Expr} {body : List Stmt} {wi : TIr} {g : TGr} {tb : TSr} {pos : Pos} (hp : PassesOwn (model X.prog X.w) X.A X.env X.xe) (hc : X.calm = true) (hi : RI X G tg iter wi) (hg : RG X G tg g) (hb : RB X G body tb)
    (hs : ∀ x, foldedSetIterable iter X.env x = pure x := by intro _; rfl) : RS X G (.For tg iter body [] pos) (rFor wi g tb) := ⟨psW (L2.ps_for hp hc hi.run hg.run hb.run hs) fun D σ H ⟨τ, J, D2, a2, h, g⟩ => by
  refine ⟨τ, J, _, a2, h, fun it J1 I H1 ir r1 e1 ⟨Pv, p0, pok, step, fin⟩ => ?_⟩
  refine ⟨fun i m σ' H' => m = it.xs.length - i ∧ i ≤ it.xs.length ∧ ∃ τ' J', At2 X.K G τ' J' σ' H' ∧ Ext X.K J1 H1 J' H' ∧ Pv i τ' J', ⟨_, rfl, Nat.zero_le _, τ, J1, a2.go r1 e1, .refl, p0⟩, ?_⟩
  rintro i m σ2 H2 ⟨rfl, hil, τ2, J2, a3, e3, p3⟩
  by_cases hlt : i < it.xs.length
  · refine .inr ⟨ir.go J2 H2 e3 a3.hp (pok _ _ _ p3) i hlt, fun σ' H' => ∃ τ' J', At2 X.K G τ' J' σ' H' ∧ Ext X.K J1 H1 J' H' ∧ Pv (i + 1) τ' J', fun σ' H' z => ⟨_, by omega, rfl, hlt, z⟩, fun v H4 y => ?_⟩
    obtain ⟨x, ex, rx, r4, e4⟩ := ir.yl J2 H2 e3 a3.hp (pok _ _ _ p3) i hlt v H4 y
    refine ⟨x, τ2, J2, _, rx, a3.go r4 e4, step i x τ2 J2 ex p3, fun τ5 J5 σ5 H5 rs5 r5 e5 q5 => ?_⟩
    have ae := (a3.ext.trans e4).trans e5
    have ge := g.ext (((e1.trans e3).trans e4).trans e5)
    refine ⟨τ5, J5, { D2 with nx := Pv (i + 1), ct := Pv (i + 1), bk := D2.nx }, ⟨rs5, r5, ae⟩, q5, ?_⟩
    exact { nx := fun τ' J' σ' H' rs rr ee q => ⟨τ', J', ⟨rs, rr, ae.trans ee⟩, ((e3.trans e4).trans e5).trans ee, q⟩, rt := ge.rt, bk := ge.nx, ct := fun τ' J' σ' H' rs rr ee q => ⟨τ', J', ⟨rs, rr, ae.trans ee⟩, ((e3.trans e4).trans e5).trans ee, q⟩ }
  · have ei : i = it.xs.length := by omega
    subst ei
    exact .inl ⟨ir.stop J2 H2 e3 a3.hp (pok _ _ _ p3), g.nx τ2 J2 σ2 H2 a3.sl a3.hp (e1.trans e3) (fin _ _ p3)⟩⟩
def itQ (J : Hq) : PV → Option Itr2
  | .fl xs => some ⟨xs, fun _ => True⟩
  | .ref a => match J a with
    | some (.lst xs) => some ⟨xs, fun J' => J' a = some (.lst xs)⟩
    | _ => none
  | _ => none
def iLs (te : TEr) : TIr := fun τ J R => te τ J fun x J1 => ∃ it, itQ J1 x = some it ∧ R it J1
theorem ItRel.list {K : PySem.W.Frag} {it : Itr2} {a : Addr} {J : Hq} {H : Hp} (h : ∀ J' H', Ext K J H J' H' → Rep K J' H' → it.ok J' → ∃ vs, SqL K H' a vs ∧ RepVs K J' H' it.xs vs) : ItRel K it (L2.Itl K a) J H where
  go := fun J' H' e r o i hi => by
    obtain ⟨vs, s, rs⟩ := h J' H' e r o
    exact ⟨vs, vs[i]'(by rw [← rs.length]; exact hi), s, by simp⟩
  yl := fun J' H' e r o i hi v H2 y => by
    obtain ⟨vs, s, rs⟩ := h J' H' e r o
    obtain ⟨e1, y⟩ := y
    subst e1
    obtain ⟨x, ex, rx⟩ := rs.get' (y vs s)
    exact ⟨x, ex, rx, r, .refl⟩
  stop := fun J' H' e r o => by
    obtain ⟨vs, s, rs⟩ := h J' H' e r o
    exact ⟨vs, s, by rw [rs.length]; exact Nat.le_refl _⟩
theorem ri_list {l : Expr} {tl : TEr} (hl : RE X G l tl) : RI X G tg l (iLs tl) := ⟨piW (L2.pi_list hl.run) fun σ H R ⟨τ, J, R2, a2, h, k⟩ => ⟨τ, J, _, a2, h, fun x J1 v H1 rx r1 e1 ⟨it, ei, q⟩ => by
  cases x with
  | fl xs =>
    obtain ⟨a, vs, rfl, h1, h2⟩ := rx
    cases ei
    refine ⟨a, rfl, ⟨vs, h1.sq⟩, k _ J1 _ H1 (.list fun J' H' e r _ => ⟨vs, (e.flat h1).sq, e.reps h2⟩) r1 e1 q⟩
  | ref a =>
    cases rx
    unfold itQ at ei
    dsimp only at ei
    cases ej : J1 a with
    | none => rw [ej] at ei; cases ei
    | some o =>
      rw [ej] at ei
      cases o with
      | lst xs =>
        cases ei
        obtain ⟨vs, h1, h2⟩ := r1 _ _ ej
        refine ⟨a, rfl, ⟨vs, .inl (.inl h1)⟩, k _ J1 _ H1 (.list fun J' H' e r o => ?_) r1 e1 q⟩
        obtain ⟨vs', h1', h2'⟩ := r _ _ o
        exact ⟨vs', .inl (.inl h1'), h2'⟩
      | _ => cases ei
  | _ => cases ei⟩⟩
def iTu (te : TEr) : TIr := fun τ J R => te τ J fun x J1 => ∃ xs, x = .tup xs ∧ R ⟨xs, fun _ => True⟩ J1
def irow (lo : Int) (n : Nat) : List PV := (List.range n).map fun (i : Nat) => PV.int (lo + (i : Int))
theorem irow_len (lo : Int) (n : Nat) : (irow lo n).length = n := by simp [irow]
theorem irow_get (lo : Int) (n i : Nat) (x : PV) : (irow lo n)[i]? = some x ↔ i < n ∧ x = .int (lo + i) := by
  unfold irow
  rw [List.getElem?_map]
  by_cases h : i < n
  · rw [List.getElem?_range h]; simp [h, eq_comm]
  · rw [List.getElem?_eq_none (by simpa using h)]; simp [h]
theorem ItRel.rng {K : PySem.W.Frag} {J : Hq} {H : Hp} (lo : Int) (n : Nat) : ItRel K ⟨irow lo n, fun _ => True⟩ (L2.Itr lo n) J H where
  go := fun J' H' e r o i hi => by
    show i < n
    simpa [irow_len] using hi
  yl := fun J' H' e r o i hi v H2 y => by
    obtain ⟨e1, y⟩ := y
    subst e1 y
    exact ⟨.int (lo + i), (irow_get lo n i _).mpr ⟨by simpa [irow_len] using hi, rfl⟩, rfl, r, .refl⟩
  stop := fun J' H' e r o => by
    show n ≤ (irow lo n).length
    rw [irow_len]; exact Nat.le_refl _
def iR1 (ta : TAr) : TIr := fun τ J R => ta τ J fun vs J1 => ∃ j : Int, vs = [.int j] ∧ -(2 ^ 62) ≤ j ∧ j < 2 ^ 62 ∧ R ⟨irow 0 j.toNat, fun _ => True⟩ J1
def iR2 (ta : TAr) : TIr := fun τ J R => ta τ J fun vs J1 => ∃ i j : Int, vs = [.int i, .int j] ∧ (-(2 ^ 62) ≤ i ∧ i < 2 ^ 62 ∧ -(2 ^ 62) ≤ j ∧ j < 2 ^ 62) ∧ R ⟨irow i (j - i).toNat, fun _ => True⟩ J1
theorem ri_range1 {a : Expr} {ta : TAr} {p pos : Pos} (hg : Gl X "range") (hm : X.mg "range" = none) (ha : RA X G [a] ta) (hs : starEach [a] X.env = [(false, eval a X.env)] := by rfl) : RI X G tg (.Call (.Name "range" p) [a] [] pos) (iR1 ta) :=
  ⟨piW (L2.pi_range1 hg hm ha.run hs) fun σ H R ⟨τ, J, R2, a2, h, k⟩ => ⟨τ, J, _, a2, h, fun xs J1 vs H1 rs r1 e1 ⟨j, ej, l1, l2, q⟩ => by
    subst ej
    obtain ⟨v, us, rfl, rv, e'⟩ := rs
    cases rv; cases e'
    exact ⟨j, rfl, l1, l2, k _ J1 _ H1 (.rng 0 _) r1 e1 q⟩⟩⟩
end
section
variable {P : Program} {w : World} {K : PySem.W.Frag} {mg : Str → Option Value} {base : Heap}
def strt (N : List Str) (xs : List PV) : Sr := xs.map some ++ List.replicate (N.length - xs.length) none
theorem strt_rep {J : Hq} {H : Hp} {N : List Str} {xs : List PV} {vs : List V} (r : RepVs K J H xs vs) : RepS K J H (strt N xs) (L2.start N vs) := by
  refine ⟨by simp [strt, L2.start, r.length], fun i x e => ?_⟩
  unfold strt at e
  unfold L2.start
  by_cases hi : i < xs.length
  · rw [List.getElem?_append_left (by simpa using hi), List.getElem?_map] at e
    cases ex : xs[i]? with
    | none => rw [ex] at e; cases e
    | some y =>
      rw [ex] at e
      cases e
      obtain ⟨v, h1, h2⟩ := r.get ex
      exact ⟨v, by rw [List.getElem?_append_left (by rw [List.length_map, ← r.length]; exact hi), List.getElem?_map, h1]; rfl, h2⟩
  · rw [List.getElem?_append_right (by simpa using hi)] at e
    have := List.mem_of_getElem? e
    rw [List.mem_replicate] at this
    cases this.2
theorem okR {x qual : Str} {st : Stmt} {f : Addr} {fd : FuncData} {N ps : List Str} {k : Nat} {sp : Spr} (F : Fun K x qual st f fd) (S : FnScope N ps (L2.defScope st)) (len : ∀ xs J Q E, sp xs J Q E → xs.length = ps.length)
    (hbody : ∀ (cdv : Value) (A : Around) (outer : List Env) (s : Shared) (H : Hp) (E : XK) (G : G2) (xs : List PV) (J : Hq) (Q : PV → Hq → Prop) (E2 : Addr → Hq → Prop), Room k (A.deeper (envOfC qual (L2.defScope st) s.heap.objs.size f cdv)) → sp xs J Q E2 →
      Ebd (cxF P w K mg base N qual (L2.defScope st) f cdv A outer s H E) G E2 E →
      ∃ t, RB (cxF P w K mg base N qual (L2.defScope st) f cdv A outer s H E) G (L2.defBody st) t ∧ t { nx := fun _ J' => Q .non J', rt := Q } (strt N xs) J) : FnOk P w K mg base (Fly P w) (k + 1) f fd ps (LSp K sp) := by
  refine okX F S (fun vs H Q E ⟨xs, J, Q2, E2, a, _, b, _⟩ => by rw [← a.length]; exact len _ _ _ _ b) fun cdv A outer s H vs Q E hr ⟨xs, J, Q2, E2, rs, rr, hs, kn, ke⟩ => ?_
  obtain ⟨t, hb, q⟩ := hbody cdv A outer s H E (J, H) xs J Q2 E2 hr hs ⟨cxF_passes, ke⟩
  refine ⟨_, ⟨hb.run⟩, strt N xs, J, _, ⟨strt_rep rs, rr, .refl⟩, q, ?_⟩
  exact { nx := fun τ J' σ H' _ r e q => kn .non J' .non H' rfl r e q, rt := fun x J' v H' rx r e q => kn x J' v H' rx r e q, bk := fun _ _ _ _ _ _ _ q => q.elim, ct := fun _ _ _ _ _ _ _ q => q.elim }
theorem _root_.Ov.Def.canR {x : Str} {st : Stmt} {k : Nat} {ps : List Str} {sp : Spr} (D : Def K mg x st)
    (h : ∀ f fd, Fun K x x st f fd → FnOk P w K mg base (Fly P w) k f fd ps (LSp K sp))
    (hb : ∀ (kV doc pm : Value) (an : Option Addr) (cdv ct : Value) (us : List Value), us.length = ps.length → bindArgs (PySem.W.fnOf x x (L2.defArgs st) (L2.defBody st) (L2.defScope st) .none kV doc pm an cdv ct) ⟨us, []⟩ = pure (ps.zip us)) :
    CanR P w K mg base k x ps sp := D.canX h hb
end
end Ov
set_option Elab.async false
set_option linter.all false
set_option maxRecDepth 100000
namespace Ov
open PySem PySem.Spec PyProof.Rows
open L2 (V HO Hp Inv Cx VK XK TE TT TA TS TG TGs TI TO TSet Ends Vis Loc Gl Rd RelV Vals OpR UnR CallR IxR SlR MtR PSet R2 upd upd_same upd_ne SqL SqT Sp CXT It Same PlainIx Room Passes Cls NoAttr Meth Mk Binds FnOk Fun FnScope atI TyOf putF)
section
variable {X : Cx} {K : PySem.W.Frag}
def qI0 (g : Int → Int → PV) : R2r := fun x y J Q => ∃ i j, x = .int i ∧ y = .int j ∧ Q (g i j) J
def qI (C : Int → Int → Prop) (g : Int → Int → PV) : R2r := fun x y J Q => ∃ i j, x = .int i ∧ y = .int j ∧ C i j ∧ Q (g i j) J
theorem lr_I0 {g : Int → Int → V} {g' : Int → Int → PV} (hg : ∀ J H i j, RepV K J H (g' i j) (g i j)) : LR K (L2.rI0 g) (qI0 g') := fun J H x y v w Q2 Q rx ry r ⟨i, j, ex, ey, q⟩ k => by
  subst ex ey; exact ⟨i, j, rx, ry, k _ J _ H (hg _ _ _ _) r .refl q⟩
theorem lr_I {C : Int → Int → Prop} {g : Int → Int → V} {g' : Int → Int → PV} (hg : ∀ J H i j, RepV K J H (g' i j) (g i j)) : LR K (L2.rI C g) (qI C g') := fun J H x y v w Q2 Q rx ry r ⟨i, j, ex, ey, c, q⟩ k => by
  subst ex ey; exact ⟨i, j, rx, ry, c, k _ J _ H (hg _ _ _ _) r .refl q⟩
theorem oq_add : OpL X (binaryOp .Add) (qI0 fun i j => .int (i + j)) := ⟨_, L2.op_add, lr_I0 fun _ _ _ _ => rfl⟩
theorem oq_sub : OpL X (binaryOp .Sub) (qI0 fun i j => .int (i - j)) := ⟨_, L2.op_sub, lr_I0 fun _ _ _ _ => rfl⟩
theorem oq_mul : OpL X (binaryOp .Mult) (qI CM fun i j => .int (i * j)) := ⟨_, op_mulB, lr_I fun _ _ _ _ => rfl⟩
theorem oq_fdiv : OpL X (binaryOp .FloorDiv) (qI CQ fun i j => .int (i.fdiv j)) := ⟨_, op_fdivB, lr_I fun _ _ _ _ => rfl⟩
theorem oq_mod : OpL X (binaryOp .Mod) (qI (fun _ j => 0 < j) fun i j => .int (i % j)) := ⟨_, L2.op_mod, lr_I fun _ _ _ _ => rfl⟩
theorem oq_lt : OpL X (compareOp .Lt) (qI0 fun i j => .bl (decide (i < j))) := ⟨_, L2.op_lt, lr_I0 fun _ _ _ _ => rfl⟩
theorem oq_le : OpL X (compareOp .LtE) (qI0 fun i j => .bl (decide (i ≤ j))) := ⟨_, L2.op_le, lr_I0 fun _ _ _ _ => rfl⟩
theorem oq_gt : OpL X (compareOp .Gt) (qI0 fun i j => .bl (decide (j < i))) := ⟨_, L2.op_gt, lr_I0 fun _ _ _ _ => rfl⟩
theorem oq_ge : OpL X (compareOp .GtE) (qI0 fun i j => .bl (decide (j ≤ i))) := ⟨_, L2.op_ge, lr_I0 fun _ _ _ _ => rfl⟩
def qU (g : Int → PV) : R1r := fun x J Q => ∃ i, x = .int i ∧ Q (g i) J
theorem uq_neg : UnL X (unaryOp .USub) (qU fun i => .int (-i)) := ⟨_, L2.un_neg, fun J H x v Q2 Q rx r ⟨i, ex, q⟩ k => by subst ex; exact ⟨i, rx, k (.int (-i)) J _ H rfl r .refl q⟩⟩
def qLtS : R2r := fun x y J Q => ∃ i j, x = .str i ∧ y = .str j ∧ Q (.bl (decide (i.cps.toList < j.cps.toList))) J
def isN : PV → Bool
  | .non => true
  | _ => false
theorem isN_rep {J : Hq} {H : Hp} {x : PV} {v : V} (r : RepV K J H x v) : decide (v = .non) = isN x := by
  cases x with
  | non => cases r; rfl
  | tup xs => obtain ⟨a, vs, rfl, _⟩ := r; rfl
  | fl xs => obtain ⟨a, vs, rfl, _⟩ := r; rfl
  | _ => cases r; rfl
def qIs : R2r := fun x y J Q => y = .non ∧ Q (.bl (isN x)) J
def qIsNot : R2r := fun x y J Q => y = .non ∧ Q (.bl (!isN x)) J
theorem oq_is : OpL X (compareOp .Is) qIs := ⟨_, L2.op_isN, fun J H x y v w Q2 Q rx ry r ⟨ey, q⟩ k => by subst ey; cases ry; exact ⟨rfl, by rw [isN_rep rx]; exact k (.bl _) J _ H rfl r .refl q⟩⟩
theorem oq_isNot : OpL X (compareOp .IsNot) qIsNot := ⟨_, L2.op_notN, fun J H x y v w Q2 Q rx ry r ⟨ey, q⟩ k => by subst ey; cases ry; exact ⟨rfl, by rw [isN_rep rx]; exact k (.bl _) J _ H rfl r .refl q⟩⟩
mutual
def pyOf : PV → Py
  | .non => .non | .bl b => .bl b | .int i => .int i | .str x => .str x | .ref _ => .non | .ty _ => .non | .tup xs => .tup (pyOfs xs) | .fl xs => .lst (pyOfs xs)
def pyOfs : List PV → List Py
  | [] => []
  | x :: xs => pyOf x :: pyOfs xs
end
mutual
def pur : PV → Bool
  | .ref _ => false | .ty _ => false | .tup xs => purs xs | .fl xs => purs xs | _ => true
def purs : List PV → Bool
  | [] => true
  | x :: xs => pur x && purs xs
end
mutual
theorem at_pyOf {J : Hq} {H : Hp} : ∀ {x : PV} {v : V}, pur x = true → RepV K J H x v → At K H (pyOf x) v
  | .non, _, _, h => h
  | .bl _, _, _, h => h
  | .int _, _, _, h => h
  | .str _, _, _, h => h
  | .tup xs, _, p, ⟨a, vs, e, h, k⟩ => ⟨a, vs, e, h, ats_pyOf (by simpa [pur] using p) k⟩
  | .fl xs, _, p, ⟨a, vs, e, h, k⟩ => ⟨a, vs, e, h.sq, ats_pyOf (by simpa [pur] using p) k⟩
theorem ats_pyOf {J : Hq} {H : Hp} : ∀ {xs : List PV} {vs : List V}, purs xs = true → RepVs K J H xs vs → Ats K H (pyOfs xs) vs
  | [], _, _, h => h
  | x :: xs, _, p, ⟨v, us, e, h, k⟩ => by
    have p' : pur x = true ∧ purs xs = true := by simpa [purs] using p
    exact ⟨v, us, e, at_pyOf p'.1 h, ats_pyOf p'.2 k⟩
end
def eqQ (x y : PV) : Bool := eqP (pyOf x) (pyOf y)
def cmQ (x : PV) : Prop := pur x = true ∧ dep (pyOf x) ≤ 60
def qEq (f : Bool → Bool) : R2r := fun x y J Q => cmQ x ∧ pur y = true ∧ Q (.bl (f (eqQ x y))) J
theorem lr_eq (f : Bool → Bool) : LR K (rP K f) (qEq f) := fun J H x y v w Q2 Q rx ry r ⟨⟨px, d⟩, py, q⟩ k => ⟨pyOf x, pyOf y, at_pyOf px rx, at_pyOf py ry, d, k (.bl _) J _ H rfl r .refl q⟩
theorem oq_eq (hu : X.A.units + 61 < cLine) : OpL X (compareOp .Eq) (qEq id) := ⟨_, op_eqP hu, lr_eq id⟩
theorem oq_ne (hu : X.A.units + 61 < cLine) : OpL X (compareOp .NotEq) (qEq not) := ⟨_, op_neP hu, lr_eq not⟩
def ixQ (J : Hq) : PV → PV → Option PV
  | .tup xs, .int i => atI xs i
  | .fl xs, .int i => atI xs i
  | .ref a, .int i => match J a with
    | some (.lst xs) => atI xs i
    | _ => none
  | _, _ => none
theorem RepVs.atI {J : Hq} {H : Hp} {xs : List PV} {vs : List V} {i : Int} {x : PV} (r : RepVs K J H xs vs) (h : L2.atI xs i = some x) : ∃ v, L2.atI vs i = some v ∧ RepV K J H x v := by
  unfold L2.atI at h ⊢
  rw [← r.length]
  cases e : L2.ixN xs.length i with
  | none => rw [e] at h; cases h
  | some j =>
    rw [e] at h
    obtain ⟨v, h1, h2⟩ := r.get h
    exact ⟨v, h1, h2⟩
def qIx : R2r := fun x y J Q => ∃ v, ixQ J x y = some v ∧ Q v J
theorem iq_ix : IxL X qIx := ⟨_, L2.ix_list.or L2.ix_tup, fun J H x y v w Q2 Q rx ry r ⟨z, ez, q⟩ k => by
  cases y with
  | int i =>
    cases ry
    cases x with
    | tup xs =>
      obtain ⟨a, vs, rfl, h1, h2⟩ := rx
      obtain ⟨u, e1, e2⟩ := h2.atI (show L2.atI xs i = some z from ez)
      exact .inr ⟨a, vs, i, u, rfl, rfl, h1, e1, k z J u H e2 r .refl q⟩
    | fl xs =>
      obtain ⟨a, vs, rfl, h1, h2⟩ := rx
      obtain ⟨u, e1, e2⟩ := h2.atI (show L2.atI xs i = some z from ez)
      exact .inl ⟨a, vs, i, u, rfl, rfl, h1.sq, e1, k z J u H e2 r .refl q⟩
    | ref a =>
      cases rx
      unfold ixQ at ez
      dsimp only at ez
      cases ej : J a with
      | none => rw [ej] at ez; cases ez
      | some o =>
        rw [ej] at ez
        cases o with
        | lst xs =>
          obtain ⟨vs, h1, h2⟩ := r _ _ ej
          obtain ⟨u, e1, e2⟩ := h2.atI (show L2.atI xs i = some z from ez)
          exact .inl ⟨a, vs, i, u, rfl, rfl, .inl (.inl h1), e1, k z J u H e2 r .refl q⟩
        | _ => cases ez
    | _ => cases ez
  | _ => cases x <;> cases ez⟩
def cutQ (xs : List PV) (lo hi : Option Int) : List PV := (xs.drop (HT.sIx xs.length 0 lo)).take (HT.sIx xs.length xs.length hi - HT.sIx xs.length 0 lo)
theorem cut_rep {J : Hq} {H : Hp} {xs : List PV} {vs : List V} {lo hi : Option Int} (r : RepVs K J H xs vs) : RepVs K J H (cutQ xs lo hi) (L2.cutV vs lo hi) := by
  unfold cutQ L2.cutV
  rw [← r.length]
  exact (r.drop _).take _
def qSlT : RSlr := fun x lo hi J Q => ∃ xs, x = .tup xs ∧ ¬ (HT.sIx xs.length 0 lo = 0 ∧ HT.sIx xs.length xs.length hi = xs.length) ∧ Q (.tup (cutQ xs lo hi)) J
def lsQ (J : Hq) : PV → Option (List PV)
  | .fl xs => some xs
  | .ref a => match J a with
    | some (.lst xs) => some xs
    | _ => none
  | _ => none
theorem lsQ_rep {J : Hq} {H : Hp} {x : PV} {v : V} {xs : List PV} (rx : RepV K J H x v) (r : Rep K J H) (h : lsQ J x = some xs) : ∃ a vs, v = .ref a ∧ SqL K H a vs ∧ RepVs K J H xs vs := by
  cases x with
  | fl ys => obtain ⟨a, vs, rfl, h1, h2⟩ := rx; cases h; exact ⟨a, vs, rfl, h1.sq, h2⟩
  | ref a =>
    cases rx
    unfold lsQ at h
    dsimp only at h
    cases ej : J a with
    | none => rw [ej] at h; cases h
    | some o =>
      rw [ej] at h
      cases o with
      | lst ys => cases h; obtain ⟨vs, h1, h2⟩ := r _ _ ej; exact ⟨a, vs, rfl, .inl (.inl h1), h2⟩
      | _ => cases h
  | _ => cases h
def qSlF : RSlr := fun x lo hi J Q => ∃ xs, lsQ J x = some xs ∧ Q (.fl (cutQ xs lo hi)) J
theorem sq_fl : SlL X qSlF := ⟨_, L2.sl_list, fun J H x lo hi v Q2 Q rx r ⟨xs, ex, q⟩ k => by
  obtain ⟨a, vs, rfl, h1, h2⟩ := lsQ_rep rx r ex
  refine ⟨a, vs, rfl, h1, fun p hp => ?_⟩
  obtain ⟨x1, x2, x3⟩ := new_fl r (cut_rep (lo := lo) (hi := hi) h2) hp
  exact k _ J _ _ x1 x2 x3 q⟩
def qSlL : RSlr := fun x lo hi J Q => ∃ xs, lsQ J x = some xs ∧ ∀ p, J p = none → Q (.ref p) (put J p (.lst (cutQ xs lo hi)))
def qAbs : RLr := fun xs J Q => ∃ i, xs = [.int i] ∧ Q (.int (if i < 0 then -i else i)) J
theorem cq_abs : CaL X (.builtin "abs") qAbs := ⟨_, L2.call_abs, fun J H xs vs Q2 Q rs r ⟨i, ex, q⟩ k => by
  subst ex; obtain ⟨v, us, rfl, rv, e⟩ := rs; cases rv; cases e
  exact ⟨i, rfl, k (.int _) J _ H rfl r .refl q⟩⟩
def lenQ (J : Hq) : PV → Option Nat
  | .tup xs => some xs.length
  | x => (lsQ J x).map List.length
def qLen : RLr := fun xs J Q => ∃ x n, xs = [x] ∧ lenQ J x = some n ∧ Q (.int n) J
theorem cq_len : CaL X (.builtin "len") qLen := ⟨_, L2.call_len_seq, fun J H xs vs Q2 Q rs r ⟨x, n, ex, en, q⟩ k => by
  subst ex; obtain ⟨v, us, rfl, rv, e⟩ := rs; cases e
  have go : ∀ ys, lsQ J x = some ys → ys.length = n → ∃ p ws, ([v] : List V) = [.ref p] ∧ (SqL X.K H p ws ∨ SqT X.K H p ws) ∧ Q (.int ws.length) H := fun ys h1 h2 => by
    obtain ⟨a, ws, rfl, h3, h4⟩ := lsQ_rep rv r h1
    exact ⟨a, ws, rfl, .inl h3, by rw [← h4.length, h2]; exact k (.int _) J _ H rfl r .refl q⟩
  cases x with
  | tup ys =>
    obtain ⟨a, ws, rfl, h1, h2⟩ := rv
    cases en
    exact ⟨a, ws, rfl, .inr h1, by rw [← h2.length]; exact k (.int _) J _ H rfl r .refl q⟩
  | fl ys => cases en; exact go _ rfl rfl
  | ref a =>
    unfold lenQ at en
    cases el : lsQ J (.ref a) with
    | none => simp [el] at en
    | some ys => simp [el] at en; exact go _ el en
  | _ => cases en⟩
def tyN (J : Hq) : PV → Option String
  | .non => some "NoneType" | .bl _ => some "bool" | .int _ => some "int" | .str _ => some "str" | .tup _ => some "tuple" | .fl _ => some "list"
  | .ref a => match J a with
    | some (.lst _) => some "list"
    | some (.dct _ _) => some "dict"
    | _ => none
  | _ => none
def subT (t n : String) : Option Bool :=
  if n ∈ ["int", "bool", "str", "tuple", "list"] then some (t == n || (t == "bool" && n == "int")) else none
theorem kit_all (K : PySem.W.Frag) {t n : String} {b : Bool} (ht : t ∈ ["NoneType", "bool", "int", "str", "tuple", "list", "dict"]) (h : subT t n = some b) : PySem.W.kitOne K (.type t) (.type n) = some b := by
  unfold subT at h
  by_cases hn : n ∈ ["int", "bool", "str", "tuple", "list"]
  · rw [if_pos hn] at h
    simp only [List.mem_cons, List.not_mem_nil, or_false] at ht hn
    rcases ht with rfl | rfl | rfl | rfl | rfl | rfl | rfl <;> rcases hn with rfl | rfl | rfl | rfl | rfl <;> cases h <;> with_unfolding_all rfl
  · rw [if_neg hn] at h; cases h
theorem tyN_mem {J : Hq} {x : PV} {t : String} (h : tyN J x = some t) : t ∈ ["NoneType", "bool", "int", "str", "tuple", "list", "dict"] := by
  cases x with
  | ref a =>
    unfold tyN at h
    dsimp only at h
    cases ej : J a with
    | none => rw [ej] at h; cases h
    | some o => rw [ej] at h; cases o <;> cases h <;> simp
  | ty n => cases h
  | _ => cases h; simp
def qIsi : RLr := fun xs J Q => ∃ x n t b, xs = [x, .ty n] ∧ tyN J x = some t ∧ subT t n = some b ∧ Q (.bl b) J
theorem call_isiT : CallR X (.builtin "isinstance") (fun xs H Q => ∃ x n t b, xs = [x, .ty n] ∧ (TyOf X.K H x (.type t) ∨ (t = "tuple" ∧ ∃ a vs, x = .ref a ∧ SqT X.K H a vs) ∨ (t = "list" ∧ ∃ a vs, x = .ref a ∧ SqL X.K H a vs)) ∧ PySem.W.kitOne X.K (.type t) (.type n) = some b ∧ Q (.bl b) H) := by
  intro pins s σ H xs us Q I r h
  obtain ⟨x, n, t, b, rfl, ty, e, q⟩ := h
  obtain ⟨u, w', rfl, rx, ry⟩ := L2.vals2 r
  cases (show w' = Value.type n from ry)
  rcases ty with ty | ⟨rfl, a, vs, rfl, hs⟩ | ⟨rfl, a, vs, rfl, hs⟩
  · exact L2.isinst_ok I rx ty e fun tk => ⟨.bl b, H, I.tok _, rfl, q⟩
  · cases rx
    obtain ⟨its, _, ⟨o, h1, h2, _⟩, _⟩ := I.tuple hs
    exact PySem.W.kia_one PySem.W.kitx_tuple I.kIn ⟨o, h1, h2⟩ e (fun z => nomatch z) fun tk => ⟨.bl b, H, I.tok _, rfl, q⟩
  · cases rx
    obtain ⟨its, _, ⟨o, _, h1, h2, _⟩, _⟩ := I.list hs
    exact PySem.W.kia_one PySem.W.kitx_list I.kIn ⟨o, h1, h2⟩ e (fun z => nomatch z) fun tk => ⟨.bl b, H, I.tok _, rfl, q⟩
theorem cq_isi : CaL X (.builtin "isinstance") qIsi := ⟨_, call_isiT, fun J H xs vs Q2 Q rs r ⟨x, n, t, b, ex, et, es, q⟩ k => by
  subst ex
  obtain ⟨v, us, rfl, rv, w, us', rfl, rw', e⟩ := rs
  cases rw'; cases e
  refine ⟨v, n, t, b, rfl, ?_, kit_all X.K (tyN_mem et) es, k (.bl _) J _ H rfl r .refl q⟩
  cases x with
  | non => cases rv; cases et; exact .inl .non
  | bl i => cases rv; cases et; exact .inl (.bl i)
  | int i => cases rv; cases et; exact .inl (.int i)
  | str i => cases rv; cases et; exact .inl (.str i)
  | tup xs => obtain ⟨a, ws, rfl, h1, _⟩ := rv; cases et; exact .inr (.inl ⟨rfl, a, ws, rfl, h1⟩)
  | fl xs =>
    obtain ⟨a, ws, rfl, h1, _⟩ := rv; cases et
    exact .inr (.inr ⟨rfl, a, ws, rfl, h1.sq⟩)
  | ty n => cases et
  | ref a =>
    cases rv
    unfold tyN at et
    dsimp only at et
    cases ej : J a with
    | none => rw [ej] at et; cases et
    | some o =>
      rw [ej] at et
      have z := r _ _ ej
      cases o with
      | lst xs => obtain ⟨ws, h1, _⟩ := z; cases et; exact .inl (.lst h1)
      | dct kvs ep => obtain ⟨gs, h1, _⟩ := z; cases et; exact .inl (.dE h1)
      | tab => cases et
      | ins C fs => cases et⟩
def qCopyF : RLr := fun xs J Q => ∃ x ys, xs = [x] ∧ lsQ J x = some ys ∧ Q (.fl ys) J
def qCopyL : RLr := fun xs J Q => ∃ x ys, xs = [x] ∧ lsQ J x = some ys ∧ ∀ p, J p = none → Q (.ref p) (put J p (.lst ys))
theorem cq_copyL : CaL X (.type "list") qCopyL := ⟨_, L2.call_list_of, fun J H xs vs Q2 Q rs r ⟨x, ys, ex, el, q⟩ k => by
  subst ex; obtain ⟨v, us, rfl, rv, e⟩ := rs; cases e
  obtain ⟨a, ws, rfl, h3, h4⟩ := lsQ_rep rv r el
  exact ⟨a, ws, rfl, .inl h3, fun p hp => k (.ref p) _ _ _ rfl (r.laidL hp h4) (.laid hp) (q p (r.free hp))⟩⟩
def qMax : RLr := fun xs J Q => ∃ i j, xs = [.int i, .int j] ∧ Q (.int (if j > i then j else i)) J
def qAppend : RMr := fun x xs J Q => ∃ a ys y, x = .ref a ∧ xs = [y] ∧ J a = some (.lst ys) ∧ ys.length < sizeLine ∧ Q .non (put J a (.lst (ys ++ [y])))
theorem mq_append : MtL X "list" "list.append" qAppend := ⟨_, L2.mt_append, fun J H x xs v vs Q2 Q rx rs r ⟨a, ys, y, ex, exs, ja, hl, q⟩ k => by
  subst ex exs; cases rx; obtain ⟨w, us, rfl, rw', e⟩ := rs; cases e
  obtain ⟨ws, h1, h2⟩ := r _ _ ja
  exact ⟨a, ws, w, rfl, rfl, h1, by rw [← h2.length]; exact hl, k .non _ _ _ rfl (r.wrote (ys := ys ++ [y]) ja h1 (h2.append (show RepVs X.K J H [y] [w] from ⟨w, [], rfl, rw', rfl⟩))) (.wrote ja h1) q⟩⟩
def qPop : RMr := fun x xs J Q => ∃ a ys y, x = .ref a ∧ xs = [] ∧ J a = some (.lst ys) ∧ ys[ys.length - 1]? = some y ∧ Q y (put J a (.lst ys.dropLast))
theorem RepVs.dropLast {J : Hq} {H : Hp} {xs : List PV} {vs : List V} (r : RepVs K J H xs vs) : RepVs K J H xs.dropLast vs.dropLast := by
  rw [List.dropLast_eq_take, List.dropLast_eq_take, ← r.length]
  exact r.take _
theorem mq_pop : MtL X "list" "list.pop" qPop := ⟨_, L2.mt_pop, fun J H x xs v vs Q2 Q rx rs r ⟨a, ys, y, ex, exs, ja, hy, q⟩ k => by
  subst ex exs; cases rx; cases rs
  obtain ⟨ws, h1, h2⟩ := r _ _ ja
  obtain ⟨w, e1, e2⟩ := h2.get hy
  have ex := Ext.wrote (K := X.K) (ys := ys.dropLast) (vs := ws.dropLast) ja h1
  exact ⟨a, ws, w, rfl, rfl, h1, by rw [← h2.length]; exact e1, k y _ w _ (ex.rep e2) (r.wrote ja h1 h2.dropLast) ex q⟩⟩
def qClear : RMr := fun x xs J Q => ∃ a ys, x = .ref a ∧ xs = [] ∧ J a = some (.lst ys) ∧ Q .non (put J a (.lst []))
def rInsert : V → List V → Hp → VK → Prop := fun x vs H Q => ∃ l xs i y, x = .ref l ∧ vs = [.int (i : Nat), y] ∧ H l = some (.lst xs) ∧ i ≤ xs.length ∧ xs.length < sizeLine ∧ i < 2 ^ 62 ∧ Q .non (upd H l (.lst (xs.take i ++ y :: xs.drop i)))
theorem insert_arr (its : List Value) (i : Nat) (u : Value) (h : i ≤ its.length) : ((its.toArray.extract 0 (min ((i : Int)).toNat its.toArray.size)).push u ++ its.toArray.extract (min ((i : Int)).toNat its.toArray.size)) = (its.take i ++ u :: its.drop i).toArray := by
  have e : min ((i : Int)).toNat its.toArray.size = i := by simp; omega
  rw [e]
  apply Array.ext'
  simp
  exact List.take_of_length_le (by simp)
theorem mt_insert : MtR X "list.insert" rInsert := by
  intro pins s σ H x vs v us Q I rx rv h
  obtain ⟨l, xs, i, y, rfl, rfl, hH, hi, hz, hb, q⟩ := h
  cases rx
  obtain ⟨u, w, rfl, ru, rw'⟩ := L2.vals2 rv
  obtain ⟨t, rfl⟩ := ru
  obtain ⟨z, its, n, r, hl, e⟩ := I.lstM hH
  have h63 : ((i : Nat) : Int) < 2 ^ 63 := by
    have : ((i : Nat) : Int) < ((2 ^ 62 : Nat) : Int) := Int.ofNat_lt.mpr hb
    exact Int.lt_trans this (by decide)
  have hf : Builtin.List.listFitsIndex ((i : Nat) : Int) = true := fitsIndex_both (Int.le_trans (by decide) (Int.natCast_nonneg i)) h63
  have hs : its.toArray.size ≤ sizeLine := by rw [List.size_toArray, ← hl]; exact z
  have hn : ¬(!Builtin.List.listFitsIndex ((i : Nat) : Int)) = true := by rw [hf]; exact fun z => nomatch z
  have hneg : ¬ (((i : Nat) : Int) < 0) := by omega
  have hins := insert_arr its i w (by omega)
  clear hb h63 hf
  generalize ((i : Nat) : Int) = ii at *
  have mm := PySem.AutoSeq1.list_insert_list_int_val_1 l its.toArray n ii t w hn hs
  refine call_meets PySem.F.slot_list_insert ⟨_, e, rfl⟩ PySem.F.entry_list_insert (PySem.F.args_list_insert_3 _ _ _) mm ⟨e, ?_⟩
  refine ⟨.non, _, I.lset (its' := its.take i ++ w :: its.drop i) hH e ?_ ((r.take i).append (.cons rw' (r.drop i))) ?_, rfl, q⟩
  · simp only [if_neg hneg]
    exact hins
  · rw [List.length_append, List.length_cons, List.length_take, List.length_drop]; omega
def qInsert : RMr := fun x xs J Q => ∃ a ys i y, x = .ref a ∧ xs = [.int (i : Nat), y] ∧ J a = some (.lst ys) ∧ i ≤ ys.length ∧ ys.length < sizeLine ∧ i < 2 ^ 62 ∧ Q .non (put J a (.lst (ys.take i ++ y :: ys.drop i)))
theorem mq_insert : MtL X "list" "list.insert" qInsert := ⟨_, mt_insert, fun J H x xs v vs Q2 Q rx rs r ⟨a, ys, i, y, ex, exs, ja, hi, hl, hb, q⟩ k => by
  subst ex exs; cases rx; obtain ⟨w0, us, rfl, rw0, w, us', rfl, rw', e⟩ := rs; cases e; cases rw0
  obtain ⟨ws, h1, h2⟩ := r _ _ ja
  exact ⟨a, ws, i, w, rfl, rfl, h1, by rw [← h2.length]; exact hi, by rw [← h2.length]; exact hl, hb, k .non _ _ _ rfl (r.wrote (ys := ys.take i ++ y :: ys.drop i) ja h1 ((h2.take i).append (show RepVs X.K J H (y :: ys.drop i) (w :: ws.drop i) from ⟨w, _, rfl, rw', h2.drop i⟩))) (.wrote ja h1) q⟩⟩
end
end Ov
set_option Elab.async false
set_option linter.all false
set_option maxRecDepth 100000
namespace Ov
open PySem PySem.Spec PyProof.Rows
open L2 (V HO Hp Inv Cx VK XK TE TT TA TS TG TGs TI TO TSet Ends Vis Loc Gl Rd RelV Vals OpR UnR CallR IxR SlR MtR PSet R2 upd upd_same upd_ne SqL SqT Sp CXT It Same PlainIx Room Passes Cls NoAttr Meth Mk Binds FnOk Fun FnScope atI TyOf putF)
def selR (ks : List (Str × Nat)) (τ : Sr) : Sr := ks.map fun p => (τ[p.2]?).getD none
theorem sel_rep {K : PySem.W.Frag} {J : Hq} {H : Hp} {τ : Sr} {σ : L2.St} (r : RepS K J H τ σ) {x : PV} {v : V} (rx : RepV K J H x v) (ks : List (Str × Nat)) : RepS K J H (some x :: selR ks τ) (some v :: selC ks σ) := by
  refine ⟨by simp [selR, selC], fun i y e => ?_⟩
  cases i with
  | zero => rw [List.getElem?_cons_zero] at e ⊢; cases e; exact ⟨v, rfl, rx⟩
  | succ i =>
    rw [List.getElem?_cons_succ] at e ⊢
    unfold selR at e
    unfold selC
    rw [List.getElem?_map] at e ⊢
    cases ep : ks[i]? with
    | none => rw [ep] at e; cases e
    | some p =>
      rw [ep] at e
      have e' : (τ[p.2]?).getD none = some y := Option.some.inj e
      have e2 : τ[p.2]? = some (some y) := by
        cases q : τ[p.2]? with
        | none => rw [q] at e'; cases e'
        | some w => rw [q] at e'; exact congrArg some e'
      obtain ⟨v', h1, h2⟩ := r.get _ _ e2
      exact ⟨v', by show some ((σ[p.2]?).getD none) = _; rw [h1]; rfl, h2⟩
def Sub (J J' : Hq) : Prop := ∀ a o, J a = some o → J' a = some o
theorem Sub.refl (J : Hq) : Sub J J := fun _ _ h => h
theorem Sub.put {J : Hq} {D : Addr} {o : HQ} (h : J D = none) : Sub J (put J D o) := fun a u e => by
  have ne : a ≠ D := by intro z; subst z; rw [h] at e; cases e
  rw [put_ne ne]; exact e
def LCw (it : Itr2) (J1 : Hq) (ks : List (Str × Nat)) (τ : Sr) (tc : TTr) (te : TEr) (c : PV → Bool) (g : PV → PV) : Prop := it.xs.length < sizeLine ∧ ∀ J', Sub J1 J' → it.ok J' ∧
  ∀ x ∈ it.xs, tc (some x :: selR ks τ) J' (fun b J2 => b = c x ∧ J2 = J') ∧ (c x = true → te (some x :: selR ks τ) J' fun y J2 => y = g x ∧ J2 = J')
def rLCf (wi : TIr) (ks : List (Str × Nat)) (tc : TTr) (te : TEr) : TEr := fun τ J Q => wi τ J fun it J1 => ∃ (c : PV → Bool) (g : PV → PV), LCw it J1 ks τ tc te c g ∧ Q (.fl ((it.xs.filter c).map g)) J1
def rTrue : TTr := fun _ J Q => Q true J
section
variable {X : Cx} {G : G2}
theorem take_filter {α : Type} (c : α → Bool) {xs : List α} {i : Nat} {x : α} (h : xs[i]? = some x) : (xs.take (i + 1)).filter c = (xs.take i).filter c ++ (if c x = true then [x] else []) := by
  rw [List.take_add_one, h, List.filter_append]
  congr 1
  simp only [Option.toList_some, List.filter_cons, List.filter_nil]
theorem lc_lift {K : PySem.W.Frag} {ks : List (Str × Nat)} {tc : TTr} {te : TEr} {σ : L2.St} {H : Hp} {Q : VK} {τ : Sr} {J : Hq} (a2 : At2 K G τ J σ H) {it : Itr2} {J1 : Hq} {I : It} {H1 : Hp} (ir : ItRel K it I J1 H1) (r1 : Rep K J1 H1) (e1 : Ext K J H J1 H1) {c : PV → Bool} {g : PV → PV}
    (w : LCw it J1 ks τ tc te c g)
    (q : ∀ D H2, H1 D = none → J1 D = none → Rep K (put J1 D (.lst ((it.xs.filter c).map g))) H2 → Ext K J1 H1 (put J1 D (.lst ((it.xs.filter c).map g))) H2 → Q (.ref D) H2) :
    ∀ D, H1 D = none → ∃ W : Nat → Nat → Hp → Prop, (∃ m, W 0 m (upd H1 D (.lst []))) ∧ ∀ i m H2, W i m H2 → (I.stop i H2 ∧ Q (.ref D) H2) ∨
      (I.go i H2 ∧ ∀ v H3, I.yld i H2 v H3 → LT K G tc (some v :: selC ks σ) H3 fun b H4 => if b = true then LE K G te (some v :: selC ks σ) H4 fun y H5 => ∃ ys, H5 D = some (.lst ys) ∧ ys.length < sizeLine ∧ ∃ m', m' < m ∧ W (i + 1) m' (upd H5 D (.lst (ys ++ [y]))) else ∃ m', m' < m ∧ W (i + 1) m' H4) := by
  intro D hD
  obtain ⟨hlen, w⟩ := w
  have jD : J1 D = none := r1.free hD
  refine ⟨fun i m H2 => m = it.xs.length - i ∧ i ≤ it.xs.length ∧ Rep K (put J1 D (.lst (((it.xs.take i).filter c).map g))) H2 ∧ Ext K J1 H1 (put J1 D (.lst (((it.xs.take i).filter c).map g))) H2, ⟨_, rfl, Nat.zero_le _, r1.laidL (xs := []) (vs := []) hD rfl, .laid hD⟩, ?_⟩
  rintro i m H2 ⟨rfl, hi, r2, e2⟩
  obtain ⟨ok, ww⟩ := w _ (Sub.put (o := .lst (((it.xs.take i).filter c).map g)) jD)
  by_cases hlt : i < it.xs.length
  · refine .inr ⟨ir.go _ H2 e2 r2 ok i hlt, fun v H3 y => ?_⟩
    obtain ⟨x, ex, rx, r3, e3⟩ := ir.yl _ H2 e2 r2 ok i hlt v H3 y
    obtain ⟨hc, he⟩ := ww x (List.mem_of_getElem? ex)
    have a3 : At2 K G (some x :: selR ks τ) _ (some v :: selC ks σ) H3 := ⟨sel_rep (a2.sl.ext ((e1.trans e2).trans e3)) rx ks, r3, ((a2.ext.trans e1).trans e2).trans e3⟩
    refine ⟨_, _, _, a3, hc, fun b J4 H4 r4 e4 ⟨eb, ej⟩ => ?_⟩
    subst ej
    cases hb : c x with
    | false =>
      rw [eb, hb]
      simp only [Bool.false_eq_true, if_false]
      refine ⟨_, by omega, rfl, hlt, ?_⟩
      rw [take_filter c ex, hb]
      simp only [Bool.false_eq_true, if_false, List.append_nil]
      exact ⟨r4, (e2.trans e3).trans e4⟩
    | true =>
      rw [eb, hb]
      simp only [if_true]
      refine ⟨_, _, _, a3.go r4 e4, he hb, fun z J5 u H5 rz r5 e5 ⟨ez, ej⟩ => ?_⟩
      subst ej ez
      obtain ⟨ys, h5, ry⟩ := r5 D _ put_same
      have ll : ys.length ≤ i := by
        rw [← ry.length, List.length_map]
        exact Nat.le_trans (List.length_filter_le _ _) (by rw [List.length_take]; omega)
      have r6 := r5.wrote (ys := ((it.xs.take i).filter c).map g ++ [g x]) (vs := ys ++ [u]) put_same h5 (ry.append (show RepVs K _ H5 [g x] [u] from ⟨u, [], rfl, rz, rfl⟩))
      have e6 := Ext.wrote (K := K) (ys := ((it.xs.take i).filter c).map g ++ [g x]) (vs := ys ++ [u]) (J := put J1 D (.lst (((it.xs.take i).filter c).map g))) put_same h5
      rw [put_put] at r6 e6
      refine ⟨ys, h5, by omega, _, by omega, rfl, hlt, ?_⟩
      rw [take_filter c ex, hb, if_pos rfl, List.map_append]
      exact ⟨r6, (((e2.trans e3).trans e4).trans e5).trans e6⟩
  · have ei : i = it.xs.length := by omega
    subst ei
    rw [List.take_length] at r2 e2 ok
    exact .inl ⟨ir.stop _ H2 e2 r2 ok, q D H2 hD jD r2 e2⟩
theorem freeze {K : PySem.W.Frag} {J1 : Hq} {H2 : Hp} {D : Addr} {xs : List PV} (jD : J1 D = none) (r : Rep K (put J1 D (.lst xs)) H2) : RepV K J1 H2 (.fl xs) (.ref D) ∧ Rep K J1 H2 ∧ Ext K (put J1 D (.lst xs)) H2 J1 H2 := by
  obtain ⟨ys, h, ry⟩ := r D _ put_same
  have less : ∀ a, J1 a = put J1 D (.lst xs) a ∨ J1 a = none := fun a => by
    by_cases e : a = D
    · subst e; exact .inr jD
    · rw [put_ne e]; exact .inl rfl
  have e := Ext.less (K := K) (H := H2) less
  exact ⟨⟨D, ys, rfl, .inl ⟨jD, .inl h⟩, e.reps ry⟩, r.less less, e⟩
theorem lc1_lift {wi : TIr} {ks : List (Str × Nat)} {te : TEr} : ∀ σ H Q, LE X.K G (rLCf wi ks rTrue te) σ H Q → tLC (LI X.K G wi) ks (LE X.K G te) σ H Q := fun σ H Q ⟨τ, J, Q2, a2, h, k⟩ =>
  ⟨τ, J, _, a2, h, fun it J1 I H1 ir r1 e1 ⟨c, g, w, q⟩ D hD => by
    obtain ⟨W, w0, turn⟩ := lc_lift (Q := Q) a2 ir r1 e1 w (fun D H2 hD jD r2 e2 => let ⟨x1, x2, x3⟩ := freeze jD r2; k _ J1 _ H2 x1 x2 ((e1.trans e2).trans x3) q) D hD
    refine ⟨W, w0, fun i m H2 hw => ?_⟩
    rcases turn i m H2 hw with z | ⟨go, z⟩
    · exact .inl z
    · refine .inr ⟨go, fun v H3 y => ?_⟩
      obtain ⟨τ', J', Q', a', t', k'⟩ := z v H3 y
      have := k' true J' H3 a'.hp .refl t'
      simpa using this⟩
variable {elt iter cnd : Expr} {x y : Str} {px py : Pos} {sc : Scope} {pos spos : Pos} {wi : TIr} {te : TEr} {tc : TTr} {i : Nat}
theorem lcs_lift {t : TEr} {u : TE} (h : ∀ σ H Q, LE X.K G t σ H Q → u σ H Q) : ∀ D σ H, LS X.K G (rAsg t (gNm i)) D σ H → u σ H fun v H1 => D.nx (σ.set i (some v)) H1 := fun D σ H ⟨τ, J, D2, a2, q, g⟩ =>
  h σ H _ ⟨τ, J, _, a2, q, fun x J' v H' rx rr ee q => g.nx _ J' _ H' ((a2.sl.ext ee).set i rx) rr ee q⟩
theorem rs_lc (osc : Scope) (N : List Str) (ks : List (Str × Nat)) (hc : X.calm = true) (ho : X.env.scope = osc) (hN : X.N = N) (hnd : X.N.Nodup) (hy : X.N[i]? = some y) (hl : Loc X.env.scope y) (hi : RI X G (.Name x px) iter wi) (he : ∀ cl C s₀ H₀ fp pins, RE (cxC X sc cl C x ks s₀ H₀ fp pins) G elt te)
    (ok : CompOk sc osc N x ks := by decide +kernel) (hs : ∀ x, foldedSetIterable iter X.env x = pure x := by intro _; rfl) (hsw : swapsWith (.ListComp elt [⟨.Name x px, iter, [], 0⟩] sc pos) (some (.Name y py)) spos.line X.env = pure true := by rfl) (hf : X.fn y = true ∨ X.env.scope.names.lookup y = some .local := by first | exact .inl rfl | exact .inr rfl | assumption) :
    RS X G (.Assign [.Name y py] (.ListComp elt [⟨.Name x px, iter, [], 0⟩] sc pos) spos) (rAsg (rLCf wi ks rTrue te) (gNm i)) :=
  ⟨psW (ps_lc osc N ks hc ho hN hnd hy hl hi.run (fun cl C s₀ H₀ fp pins => (he cl C s₀ H₀ fp pins).run) ok hs hsw hf) (lcs_lift lc1_lift)⟩
end
end Ov
set_option Elab.async false
set_option linter.all false
set_option maxRecDepth 100000
namespace Ov
open PySem PySem.Spec PyProof.Rows
section
open HT (lexLt)
open PySem.SeqAt
open PySem.AutoSeq1 (wpAny_loadPart')
open PySem.MeetsSeq PySem.MeetsSeq2 PySem.MeetsSeq3
section
variable {prog : Program} {w : World} {A : Around} {E : Value → Shared → Prop} {s : Shared}
end
end
open L2 (V HO Hp Inv Cx VK XK TE TT TA TS TG TGs TI TO TSet Ends Vis Loc Gl Rd RelV Vals OpR UnR CallR IxR SlR MtR PSet R2 upd upd_same upd_ne SqL SqT Sp CXT It Same PlainIx Room Passes Cls NoAttr Meth Mk Binds FnOk Fun FnScope atI TyOf putF)
section
variable {X : Cx} {K : PySem.W.Frag}
theorem op_catS : OpR X (binaryOp .Add) (fun x y H Q => ∃ l b xs zs, x = .ref l ∧ y = .ref b ∧ SqL X.K H l xs ∧ SqL X.K H b zs ∧ xs.length + zs.length ≤ sizeLine ∧ ∀ p, H p = none → Q (.ref p) (upd H p (.lst (xs ++ zs)))) := by
  intro pins s σ H x y v u Q I rx ry h
  obtain ⟨l, b, xs, zs, rfl, rfl, hH, hB, hz, q⟩ := h
  cases rx; cases ry
  obtain ⟨its, r, pl, _⟩ := I.list hH
  obtain ⟨its2, r2, pl2, _⟩ := I.list hB
  have l1 := r.length
  have l2 := r2.length
  obtain ⟨⟨c1, d1, da1, sl1⟩, n, e, hc, hd, hda⟩ := pl
  obtain ⟨⟨c2, d2, da2, sl2⟩, n2, e2, hc2, hd2, hda2⟩ := pl2
  simp only at hc hd hda hc2 hd2 hda2
  subst hc hd hda hc2 hd2 hda2
  refine concat_meets ⟨_, e, rfl⟩ ⟨_, e2, rfl⟩ noFill_list_add seq_list_add PySem.F.slot_list_add PySem.F.entry_list_add (PySem.F.args_list_add_2 _ _) (list_addW l b its.toArray its2.toArray n n2 none none sl1 sl2 (by simp only [List.size_toArray]; omega)) ⟨e, e2, ?_⟩
  have ea : its.toArray ++ its2.toArray = (its ++ its2).toArray := by simp
  rw [ea]
  exact ⟨.ref _, _, I.lnew (t' := s.toks) (r.append r2) (by rw [List.length_append]; omega), rfl, q _ I.fresh⟩
def qCatF : R2r := fun x y J Q => ∃ xs ys, lsQ J x = some xs ∧ lsQ J y = some ys ∧ xs.length + ys.length ≤ sizeLine ∧ Q (.fl (xs ++ ys)) J
theorem oq_catF : OpL X (binaryOp .Add) qCatF := ⟨_, op_catS, fun J H x y v w Q2 Q rx ry r ⟨xs, ys, ex, ey, hl, q⟩ k => by
  obtain ⟨a, vs, rfl, h1, h2⟩ := lsQ_rep rx r ex
  obtain ⟨b, ws, rfl, h3, h4⟩ := lsQ_rep ry r ey
  refine ⟨a, b, vs, ws, rfl, rfl, h1, h3, by rw [← h2.length, ← h4.length]; exact hl, fun p hp => ?_⟩
  obtain ⟨x1, x2, x3⟩ := new_fl r (h2.append h4) hp
  exact k _ J _ _ x1 x2 x3 q⟩
end
def MDef (K : PySem.W.Frag) (C : Addr) (m qual : Str) (st : Stmt) : Prop := ∃ f fd, Meth K C m f ∧ Fun K m qual st f fd
structure KDef (K : PySem.W.Frag) (mg : Str → Option Value) (x : Str) (C : Addr) : Prop where
  cl : Cls K C
  m : mg x = some (.ref C)
  mkz : PySem.W.makesIn K C = true
  kp : PySem.W.keepIn K (.ref C) = true
theorem mdef_mk {K : PySem.W.Frag} {C f : Addr} {m qual : Str} {st : Stmt} {od an : Option Addr} {sl : Array (Option Value)} {oc kV dc pm cd ct : Value} (a : PySem.W.findIn K (.ref C) m = some (some (.ref f))) (i : PySem.W.isFn K (.ref f) = true)
    (l : K.lookup f = some ⟨oc, od, .func (PySem.W.fnOf m qual (L2.defArgs st) (L2.defBody st) (L2.defScope st) .none kV dc pm an cd ct), sl⟩) (c : PySem.W.codeIn K cd qual = true) (k : PySem.W.keepIn K (.ref f) = true) : MDef K C m qual st :=
  ⟨f, _, ⟨a, i, k⟩, L2.fun_mk l c k⟩
theorem kdef_mk {K : PySem.W.Frag} {h : Heap} {mg : Str → Option Value} {x : Str} {C : Addr} (X : K.In h) (G : h.Ns mainGlobals mg) (aC : PySem.W.nsIn K mainGlobals x = some (some (.ref C)))
    (pg : PySem.W.plainGet K C Str.empty = true) (hd : PySem.W.hasDictIn K C = true) (po : PySem.W.plainOver K C = true) (sa : PySem.W.findIn K (.ref C) "__setattr__" = some (some (.builtin "object.__setattr__"))) (mk : PySem.W.makesIn K C = true) (kc : PySem.W.keepIn K (.ref C) = true) : KDef K mg x C :=
  ⟨⟨pg, hd, po, sa⟩, PySem.W.mg_of X G aC, mk, kc⟩
section
variable {P : Program} {w : World} {K : PySem.W.Frag} {mg : Str → Option Value} {base : Heap}
theorem MDef.mth {C : Addr} {m qual : Str} {st : Stmt} {k : Nat} {ps : List Str} {sp : Spr} (D : MDef K C m qual st) (cl : Cls K C) (h : ∀ f fd, Fun K m qual st f fd → FnOk P w K mg base (Fly P w) k f fd ps (LSp K sp))
    (hb : ∀ (kV doc pm : Value) (an : Option Addr) (cdv ct : Value) (us : List Value), us.length = ps.length → bindArgs (PySem.W.fnOf m qual (L2.defArgs st) (L2.defBody st) (L2.defScope st) .none kV doc pm an cdv ct) ⟨us, []⟩ = pure (ps.zip us)) : MthR P w K mg base C k m ps sp := by
  obtain ⟨f, fd, hm, F⟩ := D
  exact ⟨cl, f, fd, hm, h f fd F, F.binds hb⟩
theorem MDef.mak {x : Str} {C : Addr} {qual : Str} {st : Stmt} {k : Nat} {ps : List Str} {sp : Spr} (D : MDef K C "__init__" qual st) (kd : KDef K mg x C) (h : ∀ f fd, Fun K "__init__" qual st f fd → FnOk P w K mg base (Fly P w) k f fd ps (LSp K sp))
    (hb : ∀ (kV doc pm : Value) (an : Option Addr) (cdv ct : Value) (us : List Value), us.length = ps.length → bindArgs (PySem.W.fnOf "__init__" qual (L2.defArgs st) (L2.defBody st) (L2.defScope st) .none kV doc pm an cdv ct) ⟨us, []⟩ = pure (ps.zip us)) : MakR P w K mg base C k x ps sp := by
  obtain ⟨f, fd, hm, F⟩ := D
  exact ⟨kd.m, f, fd, ⟨kd.mkz, hm.at_, hm.fn, kd.kp⟩, h f fd F, F.binds hb⟩
end
end Ov
set_option Elab.async false
set_option linter.all false
set_option maxRecDepth 100000
namespace Ov
open PySem PySem.Spec PyProof.Rows
open L2 (V HO Hp Inv Cx VK XK Rd SqL SqT Sp Same Room Passes FnOk Fun FnScope atI upd upd_same upd_ne)
def fr (q : Rat) : PV := .tup [.int q.num, .int (q.den : Int)]
theorem fr_inj (a b : Rat) : (fr a = fr b) = (a = b) := by
  apply propext
  constructor
  · intro h
    unfold fr at h
    simp only [PV.tup.injEq, List.cons.injEq, PV.int.injEq, and_true] at h
    exact Rat.ext h.1 (by have := h.2; omega)
  · intro h; rw [h]
theorem fr_eq (a : Rat) : fr a = .tup [.int a.num, .int (a.den : Int)] := rfl
theorem ix_fr0 (J : Hq) (q : Rat) : ixQ J (fr q) (.int 0) = some (.int q.num) := atI_0 _ _
theorem ix_fr1 (J : Hq) (q : Rat) : ixQ J (fr q) (.int 1) = some (.int (q.den : Int)) := atI_1 _ _ _
theorem ty_fr (J : Hq) (q : Rat) : tyN J (fr q) = some "tuple" := rfl
theorem len_fr (J : Hq) (q : Rat) : lenQ J (fr q) = some 2 := rfl
theorem pur_fr (q : Rat) : pur (fr q) = true := by simp [fr, pur, purs]
theorem isN_fr (q : Rat) : isN (fr q) = false := rfl
theorem dep_fr (q : Rat) : dep (pyOf (fr q)) = 1 := by simp [fr, pyOf, pyOfs, dep, deps]
theorem cm_fr (q : Rat) : cmQ (fr q) = True := eq_true ⟨pur_fr q, by rw [dep_fr]; decide⟩
theorem cm_int (i : Int) : cmQ (.int i) = True := eq_true ⟨by simp [pur], by simp [pyOf, dep]⟩
theorem cm_str (i : Str) : cmQ (.str i) = True := eq_true ⟨by simp [pur], by simp [pyOf, dep]⟩
theorem cm_bl (i : Bool) : cmQ (.bl i) = True := eq_true ⟨by simp [pur], by simp [pyOf, dep]⟩
theorem cm_non : cmQ .non = True := eq_true ⟨by simp [pur], by simp [pyOf, dep]⟩
theorem pur_int (i : Int) : pur (.int i) = true := by simp [pur]
theorem pur_str (i : Str) : pur (.str i) = true := by simp [pur]
theorem pur_bl (i : Bool) : pur (.bl i) = true := by simp [pur]
theorem pur_non : pur .non = true := by simp [pur]
theorem pur_tup (xs : List PV) : pur (.tup xs) = purs xs := by simp [pur]
theorem purs_cons (x : PV) (xs : List PV) : purs (x :: xs) = (pur x && purs xs) := by simp [purs]
theorem purs_nil : purs [] = true := by simp [purs]
theorem eq_int (a b : Int) : eqQ (.int a) (.int b) = decide (a = b) := by unfold eqQ pyOf eqP; rw [Bool.beq_eq_decide_eq]
theorem eq_str (a b : Str) : eqQ (.str a) (.str b) = decide (a = b) := by
  unfold eqQ pyOf eqP
  cases h : a == b with
  | true => simp at h; simp [h]
  | false => simp at h; simp [h]
theorem eq_bl (a b : Bool) : eqQ (.bl a) (.bl b) = decide (a = b) := by unfold eqQ pyOf eqP; rw [Bool.beq_eq_decide_eq]
def eqQs (xs ys : List PV) : Bool := eqPs (pyOfs xs) (pyOfs ys)
theorem eq_tup (xs ys : List PV) : eqQ (.tup xs) (.tup ys) = eqQs xs ys := by unfold eqQ pyOf eqP eqQs; rfl
theorem eqs_cons (x y : PV) (xs ys : List PV) : eqQs (x :: xs) (y :: ys) = (eqQ x y && eqQs xs ys) := by unfold eqQs eqQ; simp [pyOfs, eqPs]
theorem eqs_nil : eqQs [] [] = true := by unfold eqQs; simp [pyOfs, eqPs]
theorem eq_self (x : PV) : eqQ x x = true := eqP_self _
theorem eq_fr (a b : Rat) : eqQ (fr a) (fr b) = decide (a = b) := by
  rw [fr_eq, fr_eq, eq_tup, eqs_cons, eqs_cons, eqs_nil, eq_int, eq_int, Bool.and_true, ← Bool.decide_and]
  exact decide_eq_decide.mpr (by rw [rat_iff])
theorem sl3 (a b c : PV) : cutQ [a, b, c] (some 1) none = [b, c] := rfl
theorem ty_int (b : Bool) : (subT "int" "int" = some b) = (b = true) := by cases b <;> simp [subT]
theorem ty_bool (b : Bool) : (subT "int" "bool" = some b) = (b = false) := by cases b <;> simp [subT]
theorem ty_bb (b : Bool) : (subT "bool" "bool" = some b) = (b = true) := by cases b <;> simp [subT]
theorem ty_str (b : Bool) : (subT "str" "str" = some b) = (b = true) := by cases b <;> simp [subT]
theorem ty_tup (b : Bool) : (subT "tuple" "tuple" = some b) = (b = true) := by cases b <;> simp [subT]
theorem ty_list (b : Bool) : (subT "list" "list" = some b) = (b = true) := by cases b <;> simp [subT]
theorem le_line {n : Nat} (h : n ≤ 1000) : n ≤ sizeLine := Nat.le_of_lt (L2.small1000 h)
theorem line0 : (0 ≤ sizeLine) = True := eq_true (Nat.zero_le _)
theorem line1 : (1 ≤ sizeLine) = True := eq_true (le_line (by decide))
theorem line2 : (2 ≤ sizeLine) = True := eq_true (le_line (by decide))
theorem line3 : (3 ≤ sizeLine) = True := eq_true (le_line (by decide))
theorem line4 : (4 ≤ sizeLine) = True := eq_true (le_line (by decide))
section
variable (J : Hq) (xs : List PV) (a : Addr) (i : Int) (b : Bool) (z : Str) (T : String)
theorem ix_t : ixQ J (.tup xs) (.int i) = atI xs i := rfl
theorem ix_f : ixQ J (.fl xs) (.int i) = atI xs i := rfl
theorem ix_r : ixQ J (.ref a) (.int i) = (match J a with | some (.lst xs) => atI xs i | _ => none) := rfl
theorem ls_f : lsQ J (.fl xs) = some xs := rfl
theorem ls_r : lsQ J (.ref a) = (match J a with | some (.lst xs) => some xs | _ => none) := rfl
theorem len_t : lenQ J (.tup xs) = some xs.length := rfl
theorem len_f : lenQ J (.fl xs) = some xs.length := rfl
theorem len_r : lenQ J (.ref a) = (match J a with | some (.lst xs) => some xs | _ => none).map List.length := rfl
theorem ty_n : tyN J .non = some "NoneType" := rfl
theorem ty_b' : tyN J (.bl b) = some "bool" := rfl
theorem ty_i : tyN J (.int i) = some "int" := rfl
theorem ty_s : tyN J (.str z) = some "str" := rfl
theorem ty_t : tyN J (.tup xs) = some "tuple" := rfl
theorem ty_f : tyN J (.fl xs) = some "list" := rfl
theorem ty_r : tyN J (.ref a) = (match J a with | some (.lst _) => some "list" | some (.dct _ _) => some "dict" | _ => none) := rfl
theorem tru_n : truQ J .non = some false := rfl
theorem tru_b : truQ J (.bl b) = some b := rfl
theorem tru_i : truQ J (.int i) = some (i != 0) := rfl
theorem tru_t : truQ J (.tup xs) = some (!xs.isEmpty) := rfl
theorem tru_f : truQ J (.fl xs) = some (!xs.isEmpty) := rfl
theorem tru_r : truQ J (.ref a) = (match J a with | some (.lst xs) => some (!xs.isEmpty) | some (.dct kvs _) => some (!kvs.isEmpty) | _ => none) := rfl
theorem it_f : itQ J (.fl xs) = some ⟨xs, fun _ => True⟩ := rfl
theorem it_r : itQ J (.ref a) = (match J a with | some (.lst xs) => some ⟨xs, fun J' => J' a = some (.lst xs)⟩ | _ => none) := rfl
theorem is_n : isN .non = true := rfl
theorem is_b : isN (.bl b) = false := rfl
theorem is_i : isN (.int i) = false := rfl
theorem is_s : isN (.str z) = false := rfl
theorem is_t : isN (.tup xs) = false := rfl
theorem is_f : isN (.fl xs) = false := rfl
theorem is_r : isN (.ref a) = false := rfl
theorem tq_f : tyQ T J (.fl xs) = (T = "list") := rfl
theorem tq_s : tyQ T J (.str z) = (T = "str") := rfl
theorem tq_r : tyQ T J (.ref a) = ((T = "list" ∧ ∃ xs, J a = some (.lst xs)) ∨ (T = "dict" ∧ ∃ kvs ep, J a = some (.dct kvs ep))) := rfl
end
def Fo (it : Itr2) (g : TGr) (tb : TSr) (D : En) (τ : Sr) (J1 : Hq) : Prop := ∃ Pv : Nat → Sr → Hq → Prop, Pv 0 τ J1 ∧ (∀ i τ J, Pv i τ J → it.ok J) ∧
  (∀ i x τ J, it.xs[i]? = some x → Pv i τ J → g x τ J fun τ2 J2 => tb { D with nx := Pv (i + 1), ct := Pv (i + 1), bk := D.nx } τ2 J2) ∧ ∀ τ J, Pv it.xs.length τ J → D.nx τ J
theorem rFor_eq (wi : TIr) (g : TGr) (tb : TSr) (D : En) (τ : Sr) (J : Hq) : rFor wi g tb D τ J = wi τ J fun it J1 => Fo it g tb D τ J1 := rfl
theorem for_rng {lo : Int} {n : Nat} {g : TGr} {tb : TSr} {D : En} {τ : Sr} {J1 : Hq} (Pv : Nat → Sr → Hq → Prop) (h0 : Pv 0 τ J1)
    (hs : ∀ (i : Nat) τ J, i < n → Pv i τ J → g (.int (lo + (i : Int))) τ J fun τ2 J2 => tb { D with nx := Pv (i + 1), ct := Pv (i + 1), bk := D.nx } τ2 J2) (hd : ∀ τ J, Pv n τ J → D.nx τ J) : Fo ⟨irow lo n, fun _ => True⟩ g tb D τ J1 :=
  ⟨Pv, h0, fun _ _ _ _ => trivial, fun i x τ J e p => by obtain ⟨a, b⟩ := (irow_get lo n i x).mp e; subst b; exact hs i τ J a p, fun τ J p => hd τ J (by simpa [irow_len] using p)⟩
structure BltR (mg : Str → Option Value) : Prop extends Blt mg where
  str : mg "str" = none
  dict : mg "dict" = none
  max : mg "max" = none
  zip : mg "zip" = none
  enumerate : mg "enumerate" = none
def Less (J' J : Hq) : Prop := ∀ a, J' a = J a ∨ J' a = none
def Fg (Q : PV → Hq → Prop) (v : PV) (J : Hq) : Prop := ∃ x J', Less J' J ∧ (x = v ∨ ∃ a xs, v = .ref a ∧ x = .fl xs ∧ J a = some (.lst xs) ∧ J' a = none) ∧ Q x J'
theorem Fg.same {Q : PV → Hq → Prop} {v : PV} {J : Hq} (h : Q v J) : Fg Q v J := ⟨v, J, fun _ => .inl rfl, .inl rfl, h⟩
theorem Fg.less {Q : PV → Hq → Prop} {v : PV} {J J' : Hq} (l : Less J' J) (h : Q v J') : Fg Q v J := ⟨v, J', l, .inl rfl, h⟩
theorem Fg.frz {Q : PV → Hq → Prop} {a : Addr} {xs : List PV} {J J' : Hq} (l : Less J' J) (ha : J a = some (.lst xs)) (hn : J' a = none) (h : Q (.fl xs) J') : Fg Q (.ref a) J := ⟨.fl xs, J', l, .inr ⟨a, xs, rfl, rfl, ha, hn⟩, h⟩
section
variable {P : Program} {w : World} {K : PySem.W.Frag} {mg : Str → Option Value} {base : Heap}
theorem Fg.kn {J : Hq} {H : Hp} {Q2 : PV → Hq → Prop} {Q : VK} (k : Kn K J H Q2 Q) : Kn K J H (Fg Q2) Q := fun z J1 u H1 rz r1 e1 ⟨x, J', l, hx, q⟩ => by
  have el := Ext.less (K := K) (H := H1) l
  rcases hx with rfl | ⟨a, xs, rfl, rfl, ha, hn⟩
  · exact k x J' u H1 (el.rep rz) (r1.less l) (e1.trans el) q
  · cases rz
    obtain ⟨vs, h1, h2⟩ := r1 _ _ ha
    exact k (.fl xs) J' _ H1 ⟨a, vs, rfl, .inl ⟨hn, .inl h1⟩, el.reps h2⟩ (r1.less l) (e1.trans el) q
theorem okF {x qual : Str} {st : Stmt} {f : Addr} {fd : FuncData} {N ps : List Str} {k : Nat} {sp : Spr} (F : Fun K x qual st f fd) (S : FnScope N ps (L2.defScope st)) (len : ∀ xs J Q E, sp xs J Q E → xs.length = ps.length)
    (hbody : ∀ (cdv : Value) (A : Around) (outer : List Env) (s : Shared) (H : Hp) (E : XK) (G : G2) (xs : List PV) (J : Hq) (Q : PV → Hq → Prop) (E2 : Addr → Hq → Prop), Room k (A.deeper (envOfC qual (L2.defScope st) s.heap.objs.size f cdv)) → sp xs J Q E2 →
      Ebd (cxF P w K mg base N qual (L2.defScope st) f cdv A outer s H E) G E2 E →
      ∃ t, RB (cxF P w K mg base N qual (L2.defScope st) f cdv A outer s H E) G (L2.defBody st) t ∧ t { nx := fun _ J' => Fg Q .non J', rt := Fg Q } (strt N xs) J) : FnOk P w K mg base (Fly P w) (k + 1) f fd ps (LSp K sp) := by
  have := okR (sp := fun xs J Q E => ∃ Q0, Q = Fg Q0 ∧ sp xs J Q0 E) F S (fun xs J Q E ⟨Q0, _, h⟩ => len xs J Q0 E h) (fun cdv A outer s H E G xs J Q E2 hr ⟨Q0, eq, h⟩ B => by subst eq; exact hbody cdv A outer s H E G xs J Q0 E2 hr h B)
  exact this.imp fun vs H Q E ⟨xs, J, Q2, E2, a, b, c, d, e⟩ => ⟨xs, J, Fg Q2, E2, a, b, ⟨Q2, rfl, c⟩, Fg.kn d, e⟩
end
theorem ebd0 {X : Cx} {G : G2} : Ebd X G (fun _ _ => False) L2.E0 := ⟨fun _ _ _ _ _ _ _ ⟨_, _, _, _, _, z⟩ => z.elim, fun _ _ _ _ _ z => z.elim⟩
def spLawR : Spr := fun xs J Q _ => ∃ ns : List Int, xs = [.fl (ns.map .int)] ∧ ns.length ≤ 63 ∧ (∀ a, J a = none) ∧ ∀ J', Q (.bl true) J'
theorem reps_ints {K : PySem.W.Frag} {J : Hq} {H : Hp} : ∀ ns : List Int, RepVs K J H (ns.map PV.int) (ns.map V.int)
  | [] => rfl
  | n :: ns => ⟨_, _, rfl, rfl, reps_ints ns⟩
theorem law_down {P : Program} {w : World} {K : PySem.W.Frag} {mg : Str → Option Value} {base : Heap} {k : Nat} {f : Addr} {fd : FuncData} {ps : List Str} (F : FnOk P w K mg base (Fly P w) k f fd ps (LSp K spLawR)) :
    FnOk P w K mg base L2.CX0 k f fd ps (fun vs H Q _ => ∃ (a : Addr) (ns : List Int), vs = [.ref a] ∧ SqL K H a (ns.map V.int) ∧ ns.length ≤ 63 ∧ ∀ H', Q (.bl true) H') :=
  F.unfly.imp fun vs H Q E ⟨a, ns, e, hS, hl, q⟩ => by
    subst e
    refine ⟨[.fl (ns.map .int)], fun _ => none, fun x _ => x = .bl true, fun _ _ => False, ⟨.ref a, [], rfl, ⟨a, ns.map V.int, rfl, ?_, reps_ints ns⟩, rfl⟩, ?_, ⟨ns, rfl, hl, fun _ => rfl, fun _ => rfl⟩, ?_, ?_⟩
    · rcases hS with h | h
      · exact .inl ⟨rfl, h⟩
      · exact .inr h
    · intro b o z; cases z
    · intro z J' u H' rz _ _ ez
      subst ez; cases rz; exact q _
    · intro _ _ _ _ _ z; exact z.elim
end Ov
set_option Elab.async false
set_option linter.all false
set_option maxRecDepth 100000
namespace Ov
open PySem PySem.Spec PyProof.Rows L2
theorem atI_4 {α : Type} (a b c d e : α) (xs : List α) : atI (a :: b :: c :: d :: e :: xs) 4 = some e := atI_nat (j := 4) rfl
theorem atI_5 {α : Type} (a b c d e f : α) (xs : List α) : atI (a :: b :: c :: d :: e :: f :: xs) 5 = some f := atI_nat (j := 5) rfl
theorem atI_6 {α : Type} (a b c d e f g : α) (xs : List α) : atI (a :: b :: c :: d :: e :: f :: g :: xs) 6 = some g := atI_nat (j := 6) rfl
theorem atI_7 {α : Type} (a b c d e f g h : α) (xs : List α) : atI (a :: b :: c :: d :: e :: f :: g :: h :: xs) 7 = some h := atI_nat (j := 7) rfl
theorem atI_8 {α : Type} (a b c d e f g h i : α) (xs : List α) : atI (a :: b :: c :: d :: e :: f :: g :: h :: i :: xs) 8 = some i := atI_nat (j := 8) rfl
theorem atI_9 {α : Type} (a b c d e f g h i j : α) (xs : List α) : atI (a :: b :: c :: d :: e :: f :: g :: h :: i :: j :: xs) 9 = some j := atI_nat (j := 9) rfl
theorem atI_10 {α : Type} (a b c d e f g h i j k : α) (xs : List α) : atI (a :: b :: c :: d :: e :: f :: g :: h :: i :: j :: k :: xs) 10 = some k := atI_nat (j := 10) rfl
theorem atI_11 {α : Type} (a b c d e f g h i j k l : α) (xs : List α) : atI (a :: b :: c :: d :: e :: f :: g :: h :: i :: j :: k :: l :: xs) 11 = some l := atI_nat (j := 11) rfl
theorem line5 : (5 ≤ sizeLine) = True := eq_true (le_line (by decide))
theorem line6 : (6 ≤ sizeLine) = True := eq_true (le_line (by decide))
theorem line7 : (7 ≤ sizeLine) = True := eq_true (le_line (by decide))
theorem line8 : (8 ≤ sizeLine) = True := eq_true (le_line (by decide))
theorem line9 : (9 ≤ sizeLine) = True := eq_true (le_line (by decide))
theorem line10 : (10 ≤ sizeLine) = True := eq_true (le_line (by decide))
theorem line11 : (11 ≤ sizeLine) = True := eq_true (le_line (by decide))
theorem line12 : (12 ≤ sizeLine) = True := eq_true (le_line (by decide))
def spLawD (K : PySem.W.Frag) : Sp := fun vs H Q _ => ∃ (a : Addr) (ns : List Int), vs = [.ref a] ∧ SqL K H a (ns.map V.int) ∧ ns.length ≤ 63 ∧ ∀ H', Q (.bl true) H'
theorem sizes_ok {ss : List Int} (h : ss.all (fun s => decide (0 < s) && decide (s < 2 ^ 63)) = true) : ∀ s ∈ ss, 0 < s ∧ Bd 9000 s := fun s hs => by
  have := List.all_eq_true.mp h s hs
  rw [Bool.and_eq_true, decide_eq_true_eq, decide_eq_true_eq] at this
  exact ⟨this.1, (Bd.small (by omega) (by omega)).mono (by decide)⟩
theorem Sz.div {n : Nat} {t b : Int} (ht : Bd n t) (hb : Bd n b) (h : b ≠ 0) : Sz n (Rat.divInt t b) := ⟨ht.le (num_abs t b), hb.le (den_abs h)⟩
end Ov
set_option Elab.async false
set_option linter.all false
set_option maxRecDepth 100000
namespace Ov
open PySem PySem.Spec PyProof.Rows
open L2 (V HO Hp Inv Cx VK XK TE TT TA TS TG TGs TI TO TSet Ends Vis Loc Gl Rd RelV Vals OpR UnR CallR IxR SlR MtR PSet R2 upd upd_same upd_ne SqL SqT Sp CXT It Same PlainIx Room Passes Cls NoAttr Meth Mk Binds FnOk Fun FnScope atI TyOf putF)
section
variable {X : Cx} {G : G2}
abbrev TStr := PV → PV → PV → Hq → (Hq → Prop) → Prop
def gSb (to ti : TEr) (t : TStr) : TGr := fun y τ J R => to τ J fun o J1 => ti τ J1 fun i J2 => t o i y J2 fun J3 => R τ J3
def qSetL : TStr := fun o i y J R => ∃ p xs k j, o = .ref p ∧ i = .int k ∧ J p = some (.lst xs) ∧ L2.ixN xs.length k = some j ∧ R (put J p (.lst (xs.set j y)))
def rAug (i : Nat) (te : TEr) (q : R2r) : TSr := fun D τ J => ∃ x, τ[i]? = some (some x) ∧ te τ J fun y J1 => q x y J1 fun z J2 => D.nx (τ.set i (some z)) J2
end
theorem for_ls {xs : List PV} {ok : Hq → Prop} {g : TGr} {tb : TSr} {D : En} {τ : Sr} {J1 : Hq} (Pv : Nat → Sr → Hq → Prop) (h0 : Pv 0 τ J1) (hk : ∀ i τ J, Pv i τ J → ok J)
    (hs : ∀ (i : Nat) x τ J, xs[i]? = some x → Pv i τ J → g x τ J fun τ2 J2 => tb { D with nx := Pv (i + 1), ct := Pv (i + 1), bk := D.nx } τ2 J2) (hd : ∀ τ J, Pv xs.length τ J → D.nx τ J) : Fo ⟨xs, ok⟩ g tb D τ J1 := ⟨Pv, h0, hk, hs, hd⟩
theorem at_last {α : Type} (xs : List α) (x : α) : atI (xs ++ [x]) (-1) = some x := by
  unfold L2.atI L2.ixN
  rw [if_neg (by decide), if_pos (by simp; omega)]
  have e : (-1 + ((xs ++ [x]).length : Int)).toNat = xs.length := by simp only [List.length_append, List.length_cons, List.length_nil]; omega
  rw [e]
  simp
theorem at_neg1 {α : Type} {xs : List α} {x : α} (h : xs.getLast? = some x) : atI xs (-1) = some x := by
  obtain ⟨ys, rfl⟩ := List.getLast?_eq_some_iff.mp h
  exact at_last _ _
theorem ls_cases {J : Hq} {x : PV} {ys : List PV} (h : lsQ J x = some ys) : x = .fl ys ∨ ∃ a, x = .ref a ∧ J a = some (.lst ys) := by
  cases x with
  | fl xs => cases h; exact .inl rfl
  | ref a =>
    right
    refine ⟨a, rfl, ?_⟩
    unfold lsQ at h
    simp only at h
    split at h
    · rename_i e; cases h; exact e
    · cases h
  | _ => cases h
end Ov
set_option Elab.async false
set_option linter.all false
set_option maxRecDepth 100000
namespace Ov
open PySem PySem.Spec PyProof.Rows
open L2 (V HO Hp Inv Cx VK XK TE TT TA TS TG TGs TI TO TSet Ends Vis Loc Gl Rd RelV Vals OpR UnR CallR IxR SlR MtR PSet R2 upd upd_same upd_ne SqL SqT Sp CXT It Same PlainIx Room Passes Cls NoAttr Meth Mk Binds FnOk Fun FnScope atI TyOf putF)
def flagsP (j : Nat) : List PV := .bl true :: (List.range 10).map fun k => .bl (decide (j = k))
def rTry (c : Nat → Addr) (N n : Nat) (t : (Addr → Hq → Prop) → TSr) : TSr := fun D τ J =>
  t (fun a J' => ∃ j, j < 10 ∧ a = c j ∧ D.nx ((List.replicate N none).set n (some (.fl (flagsP j)))) J') D τ J
section
variable {X : Cx} {G : G2}
end
theorem seq_st {a b : TSr} {D : En} {τ : Sr} {J : Hq} (h : a { D with nx := fun τ' J' => b D τ' J' } τ J) : rSeq a b D τ J := h
end Ov
set_option Elab.async false
set_option linter.all false
set_option maxRecDepth 100000
namespace Ov
open PySem PySem.Spec PyProof.Rows
open L2 (V HO Hp Inv Cx VK XK TE TT TA TS TG TGs TI TO TSet Ends Vis Loc Gl Rd RelV Vals OpR UnR CallR IxR SlR MtR PSet R2 upd upd_same upd_ne SqL SqT Sp CXT It Same PlainIx Room Passes Cls NoAttr Meth Mk Binds FnOk Fun FnScope atI TyOf putF)
def sqQ (J : Hq) : PV → Option (List PV)
  | .tup xs => some xs
  | .fl xs => some xs
  | .ref a => match J a with
    | some (.lst xs) => some xs
    | _ => none
  | _ => none
theorem sq_rep {K : PySem.W.Frag} {J : Hq} {H : Hp} {y : PV} {u : V} {xs : List PV} (h : sqQ J y = some xs) (r : RepV K J H y u) (rr : Rep K J H) : ∃ p vs, u = .ref p ∧ (SqL K H p vs ∨ SqT K H p vs) ∧ RepVs K J H xs vs := by
  cases y with
  | tup ys => cases h; obtain ⟨a, vs, rfl, h1, h2⟩ := r; exact ⟨a, vs, rfl, .inr h1, h2⟩
  | fl ys => cases h; obtain ⟨a, vs, rfl, h1, h2⟩ := r; exact ⟨a, vs, rfl, .inl h1.sq, h2⟩
  | ref a =>
    cases r
    unfold sqQ at h
    simp only at h
    split at h
    · rename_i e; cases h
      obtain ⟨vs, h1, h2⟩ := rr _ _ e
      exact ⟨a, vs, rfl, .inl (SqL.of h1), h2⟩
    · cases h
  | _ => cases h
section
variable {X : Cx} {G : G2}
end
end Ov
set_option Elab.async false
set_option linter.all false
set_option maxRecDepth 100000
namespace L2
open PySem PySem.Spec PyProof.Rows
section
variable {X : Cx} {tg : Expr}
end
end L2
namespace Ov
open PySem PySem.Spec PyProof.Rows
open L2 (V HO Hp Inv Cx VK XK TE TT TA TS TG TGs TI TO TSet Ends Vis Loc Gl Rd RelV Vals OpR UnR CallR IxR SlR MtR PSet R2 upd upd_same upd_ne SqL SqT Sp CXT It Same PlainIx Room Passes Cls NoAttr Meth Mk Binds FnOk Fun FnScope atI TyOf putF)
section
variable {X : Cx} {G : G2} {tg : Expr}
theorem ls_rep {K : PySem.W.Frag} {J : Hq} {H : Hp} {y : PV} {u : V} {xs : List PV} (h : lsQ J y = some xs) (r : RepV K J H y u) (rr : Rep K J H) : ∃ p vs, u = .ref p ∧ SqL K H p vs ∧ RepVs K J H xs vs := by
  rcases ls_cases h with rfl | ⟨a, rfl, ha⟩
  · obtain ⟨a, vs, rfl, h1, h2⟩ := r; exact ⟨a, vs, rfl, h1.sq, h2⟩
  · cases r
    obtain ⟨vs, h1, h2⟩ := rr _ _ ha
    exact ⟨a, vs, rfl, SqL.of h1, h2⟩
theorem RepVs.flat {K : PySem.W.Frag} {J : Hq} {H : Hp} {xs : List PV} {vs : List V} (r : RepVs K J H xs vs) : ∀ k : Nat, RepVs K J H (List.replicate k xs).flatten (List.replicate k vs).flatten
  | 0 => rfl
  | k + 1 => by rw [List.replicate_succ, List.replicate_succ, List.flatten_cons, List.flatten_cons]; exact r.append (RepVs.flat r k)
end
end Ov
set_option Elab.async false
set_option linter.all false
set_option maxRecDepth 100000
namespace L2
open PySem PySem.Spec PyProof.Rows
section
variable {X : Cx} {pins : List (Addr × Obj)} {σ : St} {H : Hp} {s : Shared} {h' : Heap}
theorem Inv.turnedL {t' : Nat} {ch : List Addr} (I : Inv X pins σ H s) (k : ∀ b o, b ∉ ch → s.heap.get? b = some o → h'.get? b = some o) (hf : ∀ b ∈ ch, FpOk X pins H b) : Inv X pins σ H { s with heap := h', toks := t' } := by
  have nit : ∀ b u, H b = some u → b ∉ ch := fun b u e z => by rw [(hf b z).1] at e; cases e
  refine I.step (g' := s.gens) (d' := s.drawn) (ch := ch) (fun b hb => ?_) (fun b o _ _ hc e _ => k b o hc e) (fun b o _ _ hc e _ => ⟨o.slots, k b o hc e⟩) (fun _ _ _ _ n => n)
    (fun b o hc e => ⟨o, k b o hc e⟩) (fun _ _ e => e) (fun _ _ _ e => e) (fun b ps e => ⟨#[], by rw [e]; simp⟩) (fun m hm => ?_) (fun b u e => ?_) I.bare
  · obtain ⟨f0, f1, f2, f3, f4, f5⟩ := hf b hb
    exact ⟨f3, f1, f4, f5⟩
  · obtain ⟨o, es, ep, ho, r⟩ := hm
    exact ⟨o, es, ep, k _ o (fun z => (hf _ z).2.1 rfl) ho, r⟩
  · refine (I.hok b u e).stay (fun c v hc q => k c v ?_ q) (fun _ q => q) fun _ _ q => q
    rcases hc with z | z
    · rw [z]; exact nit b u e
    · exact nit c _ z
end
def Itz (K : PySem.W.Frag) (a b : Addr) : It :=
  ⟨fun i H => ∃ xs ys x y, SqL K H a xs ∧ SqL K H b ys ∧ xs[i]? = some x ∧ ys[i]? = some y,
   fun i H z H' => ∃ T x y, H T = none ∧ z = .ref T ∧ H' = upd H T (.tup [x, y]) ∧ (∀ xs, SqL K H a xs → xs[i]? = some x) ∧ ∀ ys, SqL K H b ys → ys[i]? = some y,
   fun i H => ∃ xs ys, SqL K H a xs ∧ SqL K H b ys ∧ (xs.length ≤ i ∨ ys.length ≤ i)⟩
theorem turn_zip {P : Program} {w : World} {K : PySem.W.Frag} {elts : List Expr} {x1} {pos : Pos} {z TI TO i1 i2 l1 l2 : Addr} (D : ZipApart z TI TO i1 i2 l1 l2) :
    Turn P w K (.Tuple elts x1 pos) (Itz K l1 l2) [z, TI, TO, i1, i2] z (fun i h => IsZip h z TI TO .none ∧ IsPair h TI (.ref i1) (.ref i2) ∧ (∃ a b, IsPair h TO a b) ∧ h.IsListIter i1 l1 i ∧ h.IsListIter i2 l2 i) where
  mem := by simp
  obj := fun i h ⟨hz, hTI, ⟨a, b, hTO⟩, h1, h2⟩ c hc => by
    simp only [List.mem_cons, List.not_mem_nil, or_false] at hc
    rcases hc with rfl | rfl | rfl | rfl | rfl
    · exact ⟨_, hz, fun v z => by cases z⟩
    · exact ⟨_, hTI, fun v z => by cases z⟩
    · exact ⟨_, hTO, fun v z => by cases z⟩
    · obtain ⟨o, e, c, d⟩ := h1; exact ⟨o, e, fun v z => by rw [d] at z; cases z⟩
    · obtain ⟨o, e, c, d⟩ := h2; exact ⟨o, e, fun v z => by rw [d] at z; cases z⟩
  keep := fun i h h' ⟨hz, hTI, ⟨a, b, hTO⟩, h1, h2⟩ k => ⟨k z (by simp) _ hz, k TI (by simp) _ hTI, ⟨a, b, k TO (by simp) _ hTO⟩, h1.at fun o e => k i1 (by simp) o e, h2.at fun o e => k i2 (by simp) o e⟩
  item := by
    intro X hP hw hK hc i pins s σ H E I hf st hg
    subst hP hw hK
    obtain ⟨hz, hTI, ⟨a, b, hTO⟩, h1, h2⟩ := st
    obtain ⟨xs, ys, x, y, hqx, hqy, hx, hy⟩ := hg
    obtain ⟨its, rv, p, hzx⟩ := I.list hqx
    obtain ⟨jts, ru, p', hzy⟩ := I.list hqy
    obtain ⟨u, hu, rx⟩ := rv.get hx
    obtain ⟨v, hv, ry⟩ := ru.get hy
    refine wpAny_pyNext_zip_item D hz hTI hTO h1 h2 p.isList p'.isList (x := u) (y := v) (by simpa using hu) (by simpa using hv) fun h' a1 a2 a3 a4 a5 a6 hk => ?_
    refine ⟨_, rfl, wpAny_letOwnedTupleGo_zip a1 fun h'' hz' hs' => ?_⟩
    have hT : H s.heap.objs.size = none := I.hok.fresh (Nat.le_refl _)
    have lt : ∀ {c o}, s.heap.get? c = some o → c ≠ s.heap.objs.size := fun e => Nat.ne_of_lt (Heap.lt_size e)
    have nz : s.heap.objs.size ≠ z := Ne.symm (lt hz)
    have I0 : Inv X pins σ (upd H s.heap.objs.size (.tup [x, y])) { s with heap := s.heap.push { cls := .type "tuple", data := .seq #[u, v] }, toks := s.toks } := I.laid (t' := s.toks) (fun b u e => Heap.get?_push_of_some _ e) (Nat.le_refl _) ⟨by simp [sizeLine], [u, v], .cons rx (.cons ry .nil), ⟨_, Heap.get?_push_size _ rfl, rfl, _, rfl⟩⟩
    have fpn : ∀ b ∈ [z, TI, TO, i1, i2], b ≠ s.heap.objs.size := fun b hb => by
      simp only [List.mem_cons, List.not_mem_nil, or_false] at hb
      rcases hb with rfl | rfl | rfl | rfl | rfl
      · exact lt hz
      · exact lt hTI
      · exact lt hTO
      · obtain ⟨o, e, _⟩ := h1; exact lt e
      · obtain ⟨o, e, _⟩ := h2; exact lt e
    have fpu : ∀ b ∈ [z, TI, TO, i1, i2], FpOk X pins (upd H s.heap.objs.size (.tup [x, y])) b := fun b hb => ⟨by rw [upd_ne (fpn b hb)]; exact (hf b hb).1, (hf b hb).2⟩
    have I1 : Inv X pins σ (upd H s.heap.objs.size (.tup [x, y])) { s with heap := h'' } := Inv.turnedL (s := { s with heap := s.heap.push { cls := .type "tuple", data := .seq #[u, v] }, toks := s.toks }) (t' := s.toks) (ch := [z, TI, TO, i1, i2]) I0 (fun b o hb e => by
      simp only [List.mem_cons, List.not_mem_nil, or_false, not_or] at hb
      rcases Heap.get?_push_cases e with ⟨rfl, rfl⟩ | e'
      · exact hs'.extBut _ _ hb.1 a5
      · exact hs'.extBut _ _ hb.1 (hk b o hb.1 hb.2.2.1 hb.2.2.2.1 hb.2.2.2.2 e')) fpu
    refine ⟨.ref s.heap.objs.size, _, I1, rfl, ⟨_, x, y, hT, rfl, rfl, fun zs hq => by rw [I.list_inj hq hqx]; exact hx, fun zs hq => by rw [I.list_inj hq hqy]; exact hy⟩, ⟨hz', hs'.extBut _ _ D.TIz (hk _ _ D.TIz D.TITO D.TIi1 D.TIi2 hTI), ⟨_, _, hs'.extBut _ _ D.TOz a2⟩, a3.extBut hs'.extBut D.i1z, a4.extBut hs'.extBut D.i2z⟩, fun b hb => (fpu b hb).1⟩
  done := by
    intro X hP hw hK hc i pins s σ H E I hf st hg
    subst hP hw hK
    obtain ⟨hz, hTI, ⟨a, b, hTO⟩, h1, h2⟩ := st
    obtain ⟨xs, ys, hqx, hqy, hl⟩ := hg
    obtain ⟨its, rv, p, hzx⟩ := I.list hqx
    obtain ⟨jts, ru, p', hzy⟩ := I.list hqy
    have e1 := rv.length
    have e2 := ru.length
    refine wpAny_pyNext_zip_end (I.ok.hd hc) D hz hTI hTO h1 h2 p.isList p'.isList ?_ fun h' hk => ⟨rfl, I.turnedL (t' := s.toks) (ch := [z, TI, TO, i1, i2]) (fun b o hb e => ?_) hf⟩
    · rcases hl with hl | hl
      · exact .inl (by simp; omega)
      · exact .inr (by simp; omega)
    · simp only [List.mem_cons, List.not_mem_nil, or_false, not_or] at hb
      exact hk b o hb.1 hb.2.2.1 hb.2.2.2.1 hb.2.2.2.2 e
  self := fun _ _ _ _ _ st h => wpAny_pyIter_zip st.1 h
def iZip (K : PySem.W.Frag) (ta : TA) : TI := fun σ H R => ta σ H fun vs H1 => ∃ a b xs ys, vs = [.ref a, .ref b] ∧ SqL K H1 a xs ∧ SqL K H1 b ys ∧ R (Itz K a b) H1
section
variable {X : Cx}
theorem pi_zip {l m : Expr} {elts : List Expr} {x1} {tp : Pos} {ta : TA} {p pos : Pos} (hg : Gl X "zip") (hm : X.mg "zip" = none) (ha : PA X [l, m] ta) (hs : starEach [l, m] X.env = (false, eval l X.env) :: starEach [m] X.env := by rfl) (hp : (backTo pos (starEach [m] X.env)).any (·.1) = false := by rfl) : PI X (.Tuple elts x1 tp) (.Call (.Name "zip" p) [l, m] [] pos) (iZip X.K ta) := by
  intro pins s σ H R I h
  refine Call_ (ld_blt I hg hm PyProof.Rows.Boot.«zip» (PyProof.Rows.callWith_type1 (thn (ha pos pins s σ H _ I h) fun us s1 ⟨vs, H1, I1, r1, q1⟩ => ?_) hs hp))
  obtain ⟨a, b, xs, ys, e, hqa, hqb, q⟩ := q1
  subst e
  cases r1 with
  | cons r rr =>
    cases rr with
    | cons r' rr' =>
      cases rr'
      cases r
      cases r'
      obtain ⟨its, rv, pl, hz⟩ := I1.list hqa
      obtain ⟨jts, ru, pl', hz'⟩ := I1.list hqb
      refine call_zip_2 pl.isList pl'.isList fun h' b1 b2 b3 b4 b5 b6 hk => ?_
      refine wpAny_pyIter_zip b1 ?_
      have la : a < s1.heap.objs.size := by obtain ⟨o, e, _⟩ := pl.isList; exact Heap.lt_size e
      have lb : b < s1.heap.objs.size := by obtain ⟨o, e, _⟩ := pl'.isList; exact Heap.lt_size e
      have D : ZipApart (s1.heap.objs.size + 4) (s1.heap.objs.size + 2) (s1.heap.objs.size + 3) s1.heap.objs.size (s1.heap.objs.size + 1) a b := by
        have la' : @LT.lt Nat _ a s1.heap.objs.size := la
        have lb' : @LT.lt Nat _ b s1.heap.objs.size := lb
        constructor <;> (show @Ne Nat _ _; omega)
      refine ⟨_, _, _, _, H1, rfl, I1.kept (t' := s1.toks) hk, turn_zip D, ⟨b1, b2, ⟨_, _, b3⟩, b4, b5⟩, fun c hc => ?_, q⟩
      have hc' : s1.heap.objs.size ≤ c := by
        simp only [List.mem_cons, List.not_mem_nil, or_false] at hc
        show @LE.le Nat _ _ _
        rcases hc with rfl | rfl | rfl | rfl | rfl
        · exact Nat.le_add_right _ _
        · exact Nat.le_add_right _ _
        · exact Nat.le_add_right _ _
        · exact Nat.le_refl _
        · exact Nat.le_add_right _ _
      exact I1.fpOk hc' (I1.hok.fresh hc')
end
end L2
namespace Ov
open PySem PySem.Spec PyProof.Rows
open L2 (V HO Hp Inv Cx VK XK TE TT TA TS TG TGs TI TO TSet Ends Vis Loc Gl Rd RelV Vals OpR UnR CallR IxR SlR MtR PSet R2 upd upd_same upd_ne SqL SqT Sp CXT It Same PlainIx Room Passes Cls NoAttr Meth Mk Binds FnOk Fun FnScope atI TyOf putF)
section
variable {X : Cx} {G : G2}
def iZp (ta : TAr) : TIr := fun τ J R => ta τ J fun vs J1 => ∃ x y xs ys, vs = [x, y] ∧ lsQ J1 x = some xs ∧ lsQ J1 y = some ys ∧ R ⟨(xs.zip ys).map fun p => .tup [p.1, p.2], fun J' => lsQ J' x = some xs ∧ lsQ J' y = some ys⟩ J1
theorem ri_zip {l m : Expr} {elts : List Expr} {x1} {tp : Pos} {ta : TAr} {p pos : Pos} (hg : Gl X "zip") (hm : X.mg "zip" = none) (ha : RA X G [l, m] ta) (hs : starEach [l, m] X.env = (false, eval l X.env) :: starEach [m] X.env := by rfl) (hp : (backTo pos (starEach [m] X.env)).any (·.1) = false := by rfl) :
    RI X G (.Tuple elts x1 tp) (.Call (.Name "zip" p) [l, m] [] pos) (iZp ta) := ⟨piW (L2.pi_zip hg hm ha.run hs hp) fun σ H R ⟨τ, J, R2, a2, h, k⟩ => ⟨τ, J, _, a2, h, fun vs J1 us H1 rs r1 e1 ⟨x, y, xs, ys, ev, hx, hy, q⟩ => by
  subst ev
  obtain ⟨v, us', rfl, rv, v', us'', rfl, rv', e'⟩ := rs
  cases e'
  obtain ⟨a, ws, rfl, h1, h2⟩ := ls_rep hx rv r1
  obtain ⟨b, ws', rfl, h1', h2'⟩ := ls_rep hy rv' r1
  refine ⟨a, b, ws, ws', rfl, h1, h1', k _ J1 _ H1 ?_ r1 e1 q⟩
  have at_ : ∀ J' H', Ext X.K J1 H1 J' H' → Rep X.K J' H' → lsQ J' x = some xs ∧ lsQ J' y = some ys → ∃ vs us, SqL X.K H' a vs ∧ RepVs X.K J' H' xs vs ∧ SqL X.K H' b us ∧ RepVs X.K J' H' ys us := fun J' H' e r o => by
    obtain ⟨c, vs, eb, g1, g2⟩ := ls_rep o.1 (e.rep rv) r
    cases eb
    obtain ⟨c', us, eb, g1', g2'⟩ := ls_rep o.2 (e.rep rv') r
    cases eb
    exact ⟨vs, us, g1, g2, g1', g2'⟩
  exact {
    go := fun J' H' e r o i hi => by
      obtain ⟨vs, us, s, rs, s', rs'⟩ := at_ J' H' e r o
      rw [List.length_map, List.length_zip] at hi
      have i1 : i < vs.length := by rw [← rs.length]; omega
      have i2 : i < us.length := by rw [← rs'.length]; omega
      exact ⟨vs, us, vs[i], us[i], s, s', List.getElem?_eq_getElem i1, List.getElem?_eq_getElem i2⟩
    yl := fun J' H' e r o i hi v H2 y => by
      obtain ⟨vs, us, s, rs, s', rs'⟩ := at_ J' H' e r o
      obtain ⟨T, z, z', hT, rfl, rfl, y1, y2⟩ := y
      obtain ⟨c, ec, rc⟩ := rs.get' (y1 vs s)
      obtain ⟨c', ec', rc'⟩ := rs'.get' (y2 us s')
      have sm := Same.new hT (.tup [z, z'])
      have e2 := Ext.same (K := X.K) (J := J') sm
      refine ⟨.tup [c, c'], ?_, ⟨T, [z, z'], rfl, .inl (.inl upd_same), e2.reps ⟨z, _, rfl, rc, z', _, rfl, rc', rfl⟩⟩, r.same sm, e2⟩
      rw [List.getElem?_map, (List.getElem?_zip_eq_some (z := (c, c'))).mpr ⟨ec, ec'⟩]; rfl
    stop := fun J' H' e r o => by
      obtain ⟨vs, us, s, rs, s', rs'⟩ := at_ J' H' e r o
      refine ⟨vs, us, s, s', ?_⟩
      rw [List.length_map, List.length_zip, ← rs.length, ← rs'.length]
      omega }⟩⟩
end
end Ov
set_option Elab.async false
set_option linter.all false
set_option maxRecDepth 100000
namespace L2
open PySem PySem.Spec PyProof.Rows
section
variable {α β : Type}
def vaL (kvs : List (Str × α)) (k : Str) : Option α := (kvs.find? fun kv => decide (kv.1 = k)).map (·.2)
def puL (kvs : List (Str × α)) (k : Str) (v : α) : List (Str × α) := if kvs.any (fun kv => decide (kv.1 = k)) then kvs.map (fun kv => if kv.1 = k then (kv.1, v) else kv) else kvs ++ [(k, v)]
def drL (kvs : List (Str × α)) (k : Str) : List (Str × α) := kvs.filter fun kv => decide (kv.1 ≠ k)
abbrev PrK (R : α → β → Prop) : List (Str × α) → List (Str × β) → Prop := Paired fun p q => p.1 = q.1 ∧ R p.2 q.2
variable {R : α → β → Prop}
theorem PrK.any {kvs : List (Str × α)} {vs : List (Str × β)} (h : PrK R kvs vs) (k : Str) : (kvs.any fun kv => decide (kv.1 = k)) = vs.any fun kv => decide (kv.1 = k) := by
  induction h with
  | nil => rfl
  | cons r _ ih => rw [List.any_cons, List.any_cons, ih, r.1]
theorem PrK.snoc {kvs : List (Str × α)} {vs : List (Str × β)} (h : PrK R kvs vs) {k : Str} {x : α} {y : β} (r : R x y) : PrK R (kvs ++ [(k, x)]) (vs ++ [(k, y)]) := by
  induction h with
  | nil => exact .cons ⟨rfl, r⟩ .nil
  | cons q _ ih => exact .cons q ih
theorem PrK.pu {kvs : List (Str × α)} {vs : List (Str × β)} (h : PrK R kvs vs) {k : Str} {x : α} {y : β} (r : R x y) : PrK R (puL kvs k x) (puL vs k y) := by
  unfold puL
  rw [h.any k]
  split
  · rename_i hany; clear hany
    induction h with
    | nil => exact .nil
    | @cons p q kvs vs z _ ih =>
      rw [List.map_cons, List.map_cons]
      refine .cons ?_ ih
      by_cases e : p.1 = k
      · rw [if_pos e, if_pos (z.1 ▸ e)]; exact ⟨z.1, r⟩
      · rw [if_neg e, if_neg (z.1 ▸ e)]; exact z
  · exact h.snoc r
theorem PrK.len {kvs : List (Str × α)} {vs : List (Str × β)} (h : PrK R kvs vs) : kvs.length = vs.length := Paired.length h
end
section
variable {X : Cx} {pins : List (Addr × Obj)} {σ : St} {H : Hp} {s : Shared} {a : Addr} {A : Around} {E : Value → Shared → Prop} {kvs : List (Str × V)} {ep : Nat}
end
section
variable {X : Cx}
end
end L2
namespace Ov
open PySem PySem.Spec PyProof.Rows L2
section
variable {prog : Program} {w : World} {A : Around} {R : Result → Shared → Prop} {s : Shared}
end
section
variable {X : Cx}
end
end Ov
set_option Elab.async false
set_option linter.all false
set_option maxRecDepth 100000
namespace Ov
open PySem PySem.Spec PyProof.Rows
open L2 (V HO Hp Inv Cx VK XK TE TT TA TS TG TGs TI TO TSet Ends Vis Loc Gl Rd RelV Vals OpR UnR CallR IxR SlR MtR PSet R2 upd upd_same upd_ne SqL SqT Sp CXT It Same PlainIx Room Passes Cls NoAttr Meth Mk Binds FnOk Fun FnScope atI TyOf putF vaL puL drL PrK)
section
variable {K : PySem.W.Frag} {J : Hq} {H : Hp}
end
section
variable {X : Cx} {G : G2}
variable {kx vx iter cnd : Expr} {x y : Str} {px py : Pos} {sc : Scope} {pos spos : Pos} {wi : TIr} {tk te : TEr} {tc : TTr} {i : Nat}
end
end Ov
set_option Elab.async false
set_option linter.all false
set_option maxRecDepth 100000
namespace L2
open PySem PySem.Spec PyProof.Rows
section
variable {X : Cx}
end
end L2
namespace Ov
open PySem PySem.Spec PyProof.Rows
open L2 (V HO Hp Inv Cx VK XK TE TT TA TS TG TGs TI TO TSet Ends Vis Loc Gl Rd RelV Vals OpR UnR CallR IxR SlR MtR PSet R2 upd upd_same upd_ne SqL SqT Sp CXT It Same PlainIx Room Passes Cls NoAttr Meth Mk Binds FnOk Fun FnScope atI TyOf putF)
section
variable {X : Cx} {G : G2}
variable {a b c : Expr} {ta tb tc : TEr} {pos : Pos}
end
end Ov
set_option Elab.async false
set_option linter.all false
set_option maxRecDepth 100000
namespace L2
open PySem PySem.Spec PyProof.Rows
section
variable {X : Cx}
end
end L2
namespace Ov
open PySem PySem.Spec PyProof.Rows
open L2 (V HO Hp Inv Cx VK XK TE TT TA TS TG TGs TI TO TSet Ends Vis Loc Gl Rd RelV Vals OpR UnR CallR IxR SlR MtR PSet R2 upd upd_same upd_ne SqL SqT Sp CXT It Same PlainIx Room Passes Cls NoAttr Meth Mk Binds FnOk Fun FnScope atI TyOf putF)
section
variable {X : Cx} {G : G2}
end
end Ov
set_option Elab.async false
set_option linter.all false
set_option maxRecDepth 100000
namespace Ov
open PySem PySem.Spec PyProof.Rows
open L2 (V HO Hp Inv Cx VK XK TE TT TA TS TG TGs TI TO TSet Ends Vis Loc Gl Rd RelV Vals OpR UnR CallR IxR SlR MtR PSet R2 upd upd_same upd_ne SqL SqT Sp CXT It Same PlainIx Room Passes Cls NoAttr Meth Mk Binds FnOk Fun FnScope atI TyOf putF)
theorem relV_inj {v v' : V} {u : Value} (h : RelV v u) (k : RelV v' u) : v = v' := by
  cases v <;> cases v' <;> simp only [L2.RelV] at h k <;> (first | (obtain ⟨t, rfl⟩ := h) | subst h) <;> (first | (obtain ⟨t', e⟩ := k; cases e; rfl) | (obtain ⟨t', e⟩ := k; cases e) | (cases k; rfl) | cases k)
section
variable {X : Cx} {pins : List (Addr × Obj)} {σ : L2.St} {H : Hp} {s : Shared}
open Classical in
noncomputable def eT (K : PySem.W.Frag) (H : Hp) (zs : List Py) (y : Py) (u : Value) : Bool := decide (∃ z ∈ zs, ∃ v, RelV v u ∧ At K H z v ∧ eqP z y = true)
theorem eT_eq (I : Inv X pins σ H s) {zs : List Py} {y z : Py} {v : V} {u : Value} (hz : z ∈ zs) (hc : ∀ z ∈ zs, ∀ z' ∈ zs, eqP z z' = true → eqP z y = eqP z' y) (h : At X.K H z v) (r : RelV v u) : eT X.K H zs y u = eqP z y := by
  unfold eT
  classical
  cases e : eqP z y with
  | true => exact decide_eq_true ⟨z, hz, v, r, h, e⟩
  | false =>
    refine decide_eq_false ?_
    rintro ⟨z', hz', v', r', h', e'⟩
    cases relV_inj r r'
    have := hc z' hz' z hz (At.one I h' h)
    rw [e', e] at this; cases this
theorem eT_all (I : Inv X pins σ H s) {y : Py} {v' : V} {u' : Value} {A : Around} (k : At X.K H y v') (r' : RelV v' u') (zs₀ : List Py) (hc : ∀ z ∈ zs₀, ∀ z' ∈ zs₀, eqP z z' = true → eqP z y = eqP z' y) :
    ∀ {zs : List Py} {vs : List V} {us : List Value}, (∀ z ∈ zs, z ∈ zs₀) → Ats X.K H zs vs → Vals vs us → (∀ z ∈ zs, A.units + dep z < cLine) → (∀ u ∈ us, SeqAt.EqAt A s u u' (eT X.K H zs₀ y u)) ∧ us.any (eT X.K H zs₀ y) = zs.any fun z => eqP z y
  | [], _, _, _, h, r, _ => by
    cases h
    cases r
    exact ⟨fun u hu => (by cases hu), rfl⟩
  | z :: zs, _, _, hs, ⟨v, ws, e, h, hh⟩, r, hd => by
    subst e
    cases r with
    | cons r1 r2 =>
      have ih := eT_all I k r' zs₀ hc (zs := zs) (fun z hz => hs z (List.mem_cons_of_mem _ hz)) hh r2 (fun z hz => hd z (List.mem_cons_of_mem _ hz))
      have e1 := eT_eq I (hs z (by simp)) hc h r1
      refine ⟨fun u hu => ?_, ?_⟩
      · rcases List.mem_cons.mp hu with rfl | hu
        · rw [e1]; exact eqAt I z y h k r1 r' (hd z (by simp))
        · exact ih.1 u hu
      · rw [List.any_cons, List.any_cons, e1, ih.2]
def rInP (K : PySem.W.Frag) : R2 := fun v v' H Q => ∃ (p : Addr) (vs : List V) (zs : List Py) (y : Py), v' = .ref p ∧ (SqL K H p vs ∨ SqT K H p vs) ∧ Ats K H zs vs ∧ At K H y v ∧ (∀ z ∈ zs, dep z ≤ 60) ∧ (∀ z ∈ zs, ∀ z' ∈ zs, eqP z z' = true → eqP z y = eqP z' y) ∧ Q (.bl (zs.any fun z => eqP z y)) H
theorem op_inP (hu : X.A.units + 61 < cLine) : OpR X (compareOp .In) (rInP X.K) := by
  intro pins s σ H x y v u Q I rx ry h
  obtain ⟨p, vs, zs, py, rfl, hq, ha, hy, hd, hc, q⟩ := h
  cases ry
  rcases hq with hq | hq
  · obtain ⟨its, r, pl, hz⟩ := I.list hq
    obtain ⟨h1, h2⟩ := eT_all (A := X.A.in1) I hy rx zs hc (fun _ h => h) ha r (fun z hz => by have := hd z hz; show X.A.units + 1 + dep z < cLine; omega)
    refine SeqAt.in_listAt (eT X.K H zs py) pl.isList (fun w hw => h1 w (by simpa using hw)) ⟨.bl _, H, I, rfl, ?_⟩
    rw [show its.toArray.any (eT X.K H zs py) = its.any (eT X.K H zs py) by simp, h2]
    exact q
  · obtain ⟨its, r, pl, hz⟩ := I.tuple hq
    obtain ⟨h1, h2⟩ := eT_all (A := X.A.in1) I hy rx zs hc (fun _ h => h) ha r (fun z hz => by have := hd z hz; show X.A.units + 1 + dep z < cLine; omega)
    refine SeqAt.in_tupleAt (eT X.K H zs py) pl (fun w hw => h1 w (by simpa using hw)) ⟨.bl _, H, I, rfl, ?_⟩
    rw [show its.toArray.any (eT X.K H zs py) = its.any (eT X.K H zs py) by simp, h2]
    exact q
end
theorem mem_pyOfs : ∀ {xs : List PV} {z : Py}, z ∈ pyOfs xs → ∃ x ∈ xs, z = pyOf x
  | [], _, h => by cases h
  | x :: xs, z, h => by
    rcases List.mem_cons.mp h with rfl | h
    · exact ⟨x, by simp, rfl⟩
    · obtain ⟨y, hy, e⟩ := mem_pyOfs h; exact ⟨y, List.mem_cons_of_mem _ hy, e⟩
theorem any_pyOfs (f : Py → Bool) : ∀ xs : List PV, (pyOfs xs).any f = xs.any fun x => f (pyOf x)
  | [] => rfl
  | x :: xs => by show (f (pyOf x) || (pyOfs xs).any f) = _; rw [any_pyOfs f xs]; rfl
section
variable {X : Cx} {G : G2}
def qInP : R2r := fun x y J Q => pur x = true ∧ ∃ ys, sqQ J y = some ys ∧ purs ys = true ∧ (∀ z ∈ ys, dep (pyOf z) ≤ 60) ∧ (∀ z ∈ ys, ∀ z' ∈ ys, eqQ z z' = true → eqQ z x = eqQ z' x) ∧ Q (.bl (ys.any fun z => eqQ z x)) J
theorem oq_inP (hu : X.A.units + 61 < cLine) : OpL X (compareOp .In) qInP := ⟨_, op_inP hu, fun J H x y v w Q2 Q rx ry r ⟨px, ys, hy, pys, hd, hc, q⟩ k => by
  obtain ⟨p, vs, rfl, hq, h2⟩ := sq_rep hy ry r
  refine ⟨p, vs, pyOfs ys, pyOf x, rfl, hq, ats_pyOf pys h2, at_pyOf px rx, fun z hz => ?_, fun z hz z' hz' => ?_, k (.bl _) J _ H ?_ r .refl q⟩
  · obtain ⟨a, ha, rfl⟩ := mem_pyOfs hz; exact hd a ha
  · obtain ⟨a, ha, rfl⟩ := mem_pyOfs hz; obtain ⟨b, hb, rfl⟩ := mem_pyOfs hz'; exact hc a ha b hb
  · rw [any_pyOfs]; rfl⟩
end
end Ov
set_option Elab.async false
set_option linter.all false
set_option maxRecDepth 100000
namespace Ov
open PySem
structure Bell where
  m : Rat
  h : Str
  f : Str
  deriving DecidableEq
def slt (a b : Str) : Prop := a.cps.toList < b.cps.toList
instance (a b : Str) : Decidable (slt a b) := inferInstanceAs (Decidable (a.cps.toList < b.cps.toList))
def Bell.lt (a b : Bell) : Bool := if a.m = b.m then (if a.h = b.h then decide (slt a.f b.f) else decide (slt a.h b.h)) else decide (a.m < b.m)
theorem slt_irr (a : Str) : ¬ slt a a := List.lt_irrefl _
theorem slt_trans {a b c : Str} (h : slt a b) (k : slt b c) : slt a c := List.lt_trans h k
theorem nl_tot : ∀ (a b : List Nat), a ≠ b → a < b ∨ b < a
  | [], [], h => absurd rfl h
  | [], _ :: _, _ => .inl (List.nil_lt_cons _ _)
  | _ :: _, [], _ => .inr (List.nil_lt_cons _ _)
  | x :: a, y :: b, h => by
    rcases Nat.lt_trichotomy x y with z | z | z
    · exact .inl (List.cons_lt_cons_iff.mpr (.inl z))
    · subst z
      rcases nl_tot a b (fun e => h (by rw [e])) with q | q
      · exact .inl (List.cons_lt_cons_iff.mpr (.inr ⟨rfl, q⟩))
      · exact .inr (List.cons_lt_cons_iff.mpr (.inr ⟨rfl, q⟩))
    · exact .inr (List.cons_lt_cons_iff.mpr (.inl z))
theorem slt_tot {a b : Str} (h : a ≠ b) : slt a b ∨ slt b a := by
  have ne : a.cps.toList ≠ b.cps.toList := fun e => h (by cases a; cases b; simp at e; rw [e])
  exact nl_tot _ _ ne
theorem slt_ne {a b : Str} (h : slt a b) : a ≠ b := fun e => by subst e; exact slt_irr _ h
theorem Bell.lt_iff (a b : Bell) : a.lt b = true ↔ a.m < b.m ∨ (a.m = b.m ∧ (slt a.h b.h ∨ (a.h = b.h ∧ slt a.f b.f))) := by
  unfold Bell.lt
  by_cases e : a.m = b.m
  · rw [if_pos e]
    have n : ¬ a.m < b.m := by rw [e]; exact Rat.lt_irrefl
    by_cases k : a.h = b.h
    · rw [if_pos k]
      have n2 : ¬ slt a.h b.h := fun z => slt_ne z k
      simp [e, k, n, n2]
      try (intro z; first | exact absurd z Rat.lt_irrefl | exact absurd z (slt_irr _))
    · rw [if_neg k]
      simp [e, k]
      try (intro z; exact absurd z Rat.lt_irrefl)
  · rw [if_neg e]
    simp [e]
theorem rlt_trans {a b c : Rat} (h : a < b) (k : b < c) : a < c := by grind
theorem Bell.lt_trans {a b c : Bell} (h : a.lt b = true) (k : b.lt c = true) : a.lt c = true := by
  rw [Bell.lt_iff] at *
  rcases h with h | ⟨e, h⟩ <;> rcases k with k | ⟨e', k⟩
  · exact .inl (rlt_trans h k)
  · exact .inl (e' ▸ h)
  · exact .inl (e ▸ k)
  · refine .inr ⟨e.trans e', ?_⟩
    rcases h with h | ⟨z, h⟩ <;> rcases k with k | ⟨z', k⟩
    · exact .inl (slt_trans h k)
    · exact .inl (z' ▸ h)
    · exact .inl (z ▸ k)
    · exact .inr ⟨z.trans z', slt_trans h k⟩
end Ov
set_option Elab.async false
set_option linter.all false
set_option maxRecDepth 100000
namespace Ov
open PySem
structure Leg where
  m : Rat
  p : Rat
  v : Int
  deriving DecidableEq
def Leg.at (l : Leg) (t : Rat) : Rat := l.p + (t - l.m) * l.v
def turned (rows : List Leg) (t : Rat) (v : Int) : List Leg :=
  match rows.getLast? with
  | none => []
  | some l =>
    let rest := if l.m = t then rows.dropLast else rows
    if rest.getLast?.map Leg.v = some v then rest else rest ++ [⟨t, l.at t, v⟩]
theorem turned_snoc (ls : List Leg) (l : Leg) (t : Rat) (v : Int) : turned (ls ++ [l]) t v =
    if l.m = t then (if ls.getLast?.map Leg.v = some v then ls else ls ++ [⟨t, l.at t, v⟩]) else (if l.v = v then ls ++ [l] else ls ++ [l] ++ [⟨t, l.at t, v⟩]) := by
  unfold turned
  simp only [List.getLast?_concat, List.dropLast_concat]
  split
  · rfl
  · simp only [List.getLast?_concat, Option.map_some, Option.some.injEq]
theorem turned_ne {rows : List Leg} {t : Rat} {v : Int} (h : rows ≠ []) : turned rows t v ≠ [] := by
  obtain ⟨ls, l, rfl⟩ : ∃ ls l, rows = ls ++ [l] := ⟨rows.dropLast, rows.getLast h, (List.dropLast_concat_getLast h).symm⟩
  rw [turned_snoc]
  split
  · split
    · rename_i e
      intro z; subst z; cases e
    · simp
  · split <;> simp
theorem turned_mem {rows : List Leg} {t : Rat} {v : Int} {x : Leg} (h : x ∈ turned rows t v) : x ∈ rows ∨ ∃ l ∈ rows, x = ⟨t, l.at t, v⟩ := by
  by_cases e : rows = []
  · subst e; cases h
  obtain ⟨ls, l, rfl⟩ : ∃ ls l, rows = ls ++ [l] := ⟨rows.dropLast, rows.getLast e, (List.dropLast_concat_getLast e).symm⟩
  rw [turned_snoc] at h
  have key : ∀ {y : List Leg}, (∀ z ∈ y, z ∈ ls ++ [l]) → x ∈ y ++ [⟨t, l.at t, v⟩] → x ∈ ls ++ [l] ∨ ∃ l' ∈ ls ++ [l], x = ⟨t, l'.at t, v⟩ := fun hy hx => by
    rcases List.mem_append.mp hx with h | h
    · exact .inl (hy _ h)
    · exact .inr ⟨l, by simp, by simpa using h⟩
  split at h
  · split at h
    · exact .inl (List.mem_append.mpr (.inl h))
    · exact key (fun z hz => List.mem_append.mpr (.inl hz)) h
  · split at h
    · exact .inl h
    · exact key (fun z hz => hz) h
theorem turned_len (rows : List Leg) (t : Rat) (v : Int) : (turned rows t v).length ≤ rows.length + 1 := by
  by_cases e : rows = []
  · subst e; simp [turned]
  obtain ⟨ls, l, rfl⟩ : ∃ ls l, rows = ls ++ [l] := ⟨rows.dropLast, rows.getLast e, (List.dropLast_concat_getLast e).symm⟩
  rw [turned_snoc]
  split <;> split <;> simp <;> omega
def legAt (rows : List Leg) (t : Rat) : Option Leg := (rows.filter fun l => decide (l.m ≤ t)).getLast?
def lb (ms : List Rat) (t : Rat) : Nat → Nat
  | 0 => 0
  | k + 1 => if ms.getD k 0 ≤ t then k + 1 else lb ms t k
def bef (g : Option Rat) (t : Rat) : Bool := match g with | none => true | some q => decide (t < q)
def there (rows : List Leg) (g : Option Rat) (t : Rat) : Bool :=
  match rows.head? with
  | none => false
  | some l => !decide (t < l.m) && bef g t
def Sc (D A : Nat) (q : Rat) : Prop := ∃ a : Int, q * (D : Rat) = (a : Rat) ∧ a.natAbs ≤ A
theorem Sc.mono {D A B : Nat} {q : Rat} (h : Sc D A q) (k : A ≤ B) : Sc D B q := let ⟨a, e, l⟩ := h; ⟨a, e, Nat.le_trans l k⟩
theorem natq {D : Nat} (h : 0 < D) : (D : Rat) ≠ 0 := by
  intro e
  have : D = 0 := by exact_mod_cast e
  omega
theorem Sc.sz {D A n : Nat} {q : Rat} (h : Sc D A q) (hD : 0 < D) (h1 : D < 2 ^ n) (h2 : A < 2 ^ n) : Sz n q := by
  obtain ⟨a, e, l⟩ := h
  have nz := natq hD
  have : q = Rat.divInt a (D : Int) := by
    rw [Rat.divInt_eq_div, ← e]
    have : ((D : Int) : Rat) = (D : Rat) := rfl
    rw [this]
    generalize (D : Rat) = d at nz ⊢
    grind
  rw [this]
  exact Sz.div ⟨Nat.lt_of_le_of_lt l h2⟩ ⟨by simpa using h1⟩ (by omega)
theorem Sc.add {D A B : Nat} {p q : Rat} (h : Sc D A p) (k : Sc D B q) : Sc D (A + B) (p + q) := by
  obtain ⟨a, e, l⟩ := h
  obtain ⟨b, f, m⟩ := k
  refine ⟨a + b, ?_, by omega⟩
  rw [Rat.intCast_add, ← e, ← f]
  grind
theorem Sc.sub {D A B : Nat} {p q : Rat} (h : Sc D A p) (k : Sc D B q) : Sc D (A + B) (p - q) := by
  obtain ⟨a, e, l⟩ := h
  obtain ⟨b, f, m⟩ := k
  refine ⟨a - b, ?_, by omega⟩
  rw [Rat.intCast_sub, ← e, ← f]
  grind
theorem Sc.mul {D A B : Nat} {p : Rat} {v : Int} (h : Sc D A p) (k : v.natAbs ≤ B) : Sc D (A * B) (p * v) := by
  obtain ⟨a, e, l⟩ := h
  refine ⟨a * v, ?_, ?_⟩
  · rw [Rat.intCast_mul, ← e]
    grind
  · rw [Int.natAbs_mul]; exact Nat.mul_le_mul l k
theorem Sc.scale {D A E : Nat} {p : Rat} (h : Sc D A p) : Sc (E * D) (E * A) p := by
  obtain ⟨a, e, l⟩ := h
  refine ⟨E * a, ?_, ?_⟩
  · rw [Rat.intCast_mul, ← e]
    have h1 : ((E * D : Nat) : Rat) = (E : Rat) * (D : Rat) := Rat.natCast_mul ..
    have h2 : ((E : Int) : Rat) = (E : Rat) := rfl
    rw [h1, h2]
    grind
  · rw [Int.natAbs_mul]; exact Nat.mul_le_mul (by simp) l
theorem Sc.of_sz {n : Nat} {q : Rat} (h : Sz n q) : Sc q.den (2 ^ n) q := ⟨q.num, by have := cast_eq q; rw [this]; rfl, Nat.le_of_lt h.num.lt⟩
theorem Sc.of_div {D A : Nat} {t : Int} {b : Nat} (hb : 0 < b) (hd : b ∣ D) (hA : t.natAbs * (D / b) ≤ A) : Sc D A (Rat.divInt t b) := by
  obtain ⟨c, rfl⟩ := hd
  rw [Nat.mul_div_cancel_left _ hb] at hA
  refine ⟨t * c, ?_, by rw [Int.natAbs_mul]; simpa using hA⟩
  have nb := natq hb
  have e1 : ((b : Int) : Rat) = (b : Rat) := rfl
  have e2 : ((c : Int) : Rat) = (c : Rat) := rfl
  rw [Rat.divInt_eq_div, Rat.intCast_mul, e1, e2, Rat.natCast_mul]
  generalize (b : Rat) = b at nb ⊢
  grind
def L60 : Nat := 9690712164777231700912800
theorem l60 : ∀ b : Nat, 1 ≤ b → b ≤ 60 → b ∣ L60 := by
  intro b h1 h2
  have : ∀ b : Fin 61, 1 ≤ b.val → b.val ∣ L60 := by decide
  exact this ⟨b, by omega⟩ h1
theorem l60_lt : L60 < 2 ^ 84 := by decide
theorem l60_pos : 0 < L60 := by decide
def MM : Nat := 2097152 * L60
structure LOk (D k : Nat) (l : Leg) : Prop where
  m : Sc L60 MM l.m
  p : Sc (D * L60) (L60 * 2 ^ 101 + k * (2000 * (D * MM))) l.p
  v : l.v.natAbs ≤ 1000
theorem LOk.mono {D k j : Nat} {l : Leg} (h : LOk D k l) (e : k ≤ j) : LOk D j l := ⟨h.m, h.p.mono (Nat.add_le_add_left (Nat.mul_le_mul_right _ e) _), h.v⟩
theorem LOk.at {D k : Nat} {l : Leg} {t : Rat} (h : LOk D k l) (ht : Sc L60 MM t) : Sc (D * L60) (L60 * 2 ^ 101 + (k + 1) * (2000 * (D * MM))) (l.at t) := by
  have h1 : Sc (D * L60) (D * (MM + MM)) (t - l.m) := (ht.sub h.m).scale
  have h2 := h1.mul h.v
  exact (h.p.add h2).mono (by
    have e : (k + 1) * (2000 * (D * MM)) = k * (2000 * (D * MM)) + 2000 * (D * MM) := Nat.succ_mul ..
    rw [e, Nat.mul_add D]
    generalize D * MM = x
    generalize k * (2000 * x) = y
    omega)
theorem LOk.turn {D k : Nat} {l : Leg} {t : Rat} {v : Int} (h : LOk D k l) (ht : Sc L60 MM t) (hv : v.natAbs ≤ 1000) : LOk D (k + 1) ⟨t, l.at t, v⟩ := ⟨ht, h.at ht, hv⟩
theorem mm_lt : MM < 2 ^ 106 := by decide
theorem mm_sz {q : Rat} (h : Sc L60 MM q) : Sz 106 q := h.sz l60_pos (by decide) mm_lt
theorem big_sz {D k : Nat} {q : Rat} (hD : D ≤ 2 ^ 101) (h0 : 0 < D) (hk : k ≤ 1024) (h : Sc (D * L60) (L60 * 2 ^ 101 + k * (2000 * (D * MM))) q) : Sz 240 q := by
  have e1 : D * L60 ≤ 2 ^ 101 * 2 ^ 84 := Nat.mul_le_mul hD (Nat.le_of_lt l60_lt)
  have e2 : D * MM ≤ 2 ^ 101 * 2 ^ 106 := Nat.mul_le_mul hD (Nat.le_of_lt mm_lt)
  have e3 : k * (2000 * (D * MM)) ≤ 1024 * (2000 * (2 ^ 101 * 2 ^ 106)) := Nat.mul_le_mul hk (Nat.mul_le_mul_left _ e2)
  have e4 : L60 * 2 ^ 101 ≤ 2 ^ 84 * 2 ^ 101 := Nat.mul_le_mul_right _ (Nat.le_of_lt l60_lt)
  refine h.sz (Nat.mul_pos h0 l60_pos) (Nat.lt_of_le_of_lt e1 (by decide)) (Nat.lt_of_le_of_lt (Nat.add_le_add e4 e3) (by decide))
structure Gd (D k : Nat) (rows : List Leg) : Prop where
  ne : rows ≠ []
  ok : ∀ l ∈ rows, LOk D k l
  len : rows.length ≤ k + 1
theorem Gd.turn {D k : Nat} {rows : List Leg} {t : Rat} {v : Int} (h : Gd D k rows) (ht : Sc L60 MM t) (hv : v.natAbs ≤ 1000) : Gd D (k + 1) (turned rows t v) :=
  ⟨turned_ne h.ne, fun x hx => by
    rcases turned_mem hx with h1 | ⟨l, h1, rfl⟩
    · exact (h.ok x h1).mono (Nat.le_succ _)
    · exact (h.ok l h1).turn ht hv, Nat.le_trans (turned_len _ _ _) (Nat.succ_le_succ h.len)⟩
def Later (c q : Rat) : Prop := q = c ∨ ∃ u s : Nat, 1 ≤ u ∧ u ≤ 60 ∧ 1 ≤ s ∧ s ≤ 500 * u ∧ q = Rat.divInt ((c.num * u).fdiv c.den + s) u
theorem Later.sc {c q : Rat} {A : Nat} (h : Later c q) (k : Sc L60 A c) : Sc L60 (A + 501 * L60) q := by
  rcases h with rfl | ⟨u, s, h1, h2, h3, h4, rfl⟩
  · exact k.mono (Nat.le_add_right _ _)
  obtain ⟨a, e, l⟩ := k
  obtain ⟨w, hw⟩ := l60 u h1 h2
  refine Sc.of_div (by omega) ⟨w, hw⟩ ?_
  have ew : L60 / u = w := by rw [hw, Nat.mul_div_cancel_left _ (by omega)]
  rw [ew]
  have hf : ((c.num * u).fdiv c.den) * c.den ≤ c.num * u ∧ c.num * u < ((c.num * u).fdiv c.den + 1) * c.den := by
    rw [Int.fdiv_eq_ediv_of_nonneg _ (by omega)]
    have := den_gt c
    constructor
    · exact Int.ediv_mul_le _ (by omega)
    · have := Int.lt_ediv_add_one_mul_self (c.num * u) this; exact this
  have ea : c.num * (L60 : Int) = a * c.den := by
    have h1 := cast_eq c
    have h2 := den_cast c
    have h3 : ((L60 : Nat) : Rat) = (((L60 : Nat) : Int) : Rat) := rfl
    have : ((c.num * (L60 : Int) : Int) : Rat) = ((a * c.den : Int) : Rat) := by
      rw [Rat.intCast_mul, Rat.intCast_mul, h1, ← e, h3]
      grind
    exact_mod_cast this
  have hL : (L60 : Int) = u * w := by rw [hw]; simp
  have hw0 : 0 < w := by
    rcases Nat.eq_zero_or_pos w with z | z
    · rw [z, Nat.mul_zero] at hw; exact absurd hw (by decide)
    · exact z
  rw [hL] at ea
  have hd := den_gt c
  generalize hF : (c.num * u).fdiv c.den = F at hf ⊢
  generalize hN : c.num = N at *
  generalize hDD : (c.den : Int) = d at *
  have g1 : F * w ≤ a := by
    have : F * w * d ≤ a * d := by
      rw [← ea]
      have := Int.mul_le_mul_of_nonneg_right hf.1 (show (0 : Int) ≤ w by omega)
      calc F * w * d = F * d * w := by rw [Int.mul_right_comm]
        _ ≤ N * u * w := this
        _ = N * (u * w) := Int.mul_assoc ..
    exact Int.le_of_mul_le_mul_right this hd
  have g2 : a ≤ (F + 1) * w := by
    have : a * d ≤ (F + 1) * w * d := by
      rw [← ea]
      have := Int.mul_le_mul_of_nonneg_right (Int.le_of_lt hf.2) (show (0 : Int) ≤ w by omega)
      calc N * (u * w) = N * u * w := (Int.mul_assoc ..).symm
        _ ≤ (F + 1) * d * w := this
        _ = (F + 1) * w * d := by rw [Int.mul_right_comm]
    exact Int.le_of_mul_le_mul_right this hd
  have hsw : s * w ≤ 500 * (u * w) := by
    calc s * w ≤ 500 * u * w := Nat.mul_le_mul_right _ h4
      _ = 500 * (u * w) := Nat.mul_assoc ..
  have huw : w ≤ u * w := Nat.le_mul_of_pos_left _ (by omega)
  rw [hw]
  have : (F + s).natAbs * w = ((F + s) * w).natAbs := by rw [Int.natAbs_mul]; simp
  rw [this, Int.add_mul]
  rw [Int.add_mul, Int.one_mul] at g2
  have hsw' : (s : Int) * w ≤ 500 * ((u * w : Nat) : Int) := by exact_mod_cast hsw
  generalize F * (w : Int) = x at *
  have hs0 : (0 : Int) ≤ (s : Int) * w := Int.mul_nonneg (by omega) (by omega)
  generalize (s : Int) * w = y at *
  generalize u * w = z at *
  omega
theorem Later.le {c q : Rat} (h : Later c q) : c ≤ q := by
  rcases h with rfl | ⟨u, s, h1, h2, h3, h4, rfl⟩
  · exact Rat.le_refl
  have hf : c.num * u < ((c.num * u).fdiv c.den + 1) * c.den := by
    rw [Int.fdiv_eq_ediv_of_nonneg _ (by omega)]
    exact Int.lt_ediv_add_one_mul_self (c.num * u) (den_gt c)
  generalize (c.num * u).fdiv c.den = F at hf ⊢
  have h5 : c.num * u ≤ (F + s) * c.den := by
    have : (F + 1) * c.den ≤ (F + s) * c.den := Int.mul_le_mul_of_nonneg_right (by omega) (by omega)
    omega
  have hu : (0 : Rat) < (u : Rat) := by exact_mod_cast (show 0 < u by omega)
  have hd : (0 : Rat) < ((c.den : Int) : Rat) := by exact_mod_cast den_gt c
  refine Rat.not_lt.mp fun hlt => ?_
  rw [Rat.divInt_eq_div] at hlt
  have e1 : ((u : Int) : Rat) = (u : Rat) := rfl
  rw [e1, Rat.div_lt_iff hu] at hlt
  have h6 := Rat.mul_lt_mul_of_pos_right hlt hd
  have e2 : c * (u : Rat) * ((c.den : Int) : Rat) = ((c.num * u : Int) : Rat) := by
    rw [Rat.intCast_mul, cast_eq c, e1]; grind
  rw [e2, ← Rat.intCast_mul] at h6
  have h7 : (F + s) * c.den < c.num * u := by exact_mod_cast h6
  omega
end Ov
set_option Elab.async false
set_option linter.all false
set_option maxRecDepth 100000
namespace Ov
open PySem
section
variable {α : Type} {lt : α → α → Bool}
def insG (lt : α → α → Bool) (b : α) (l : List α) : List α := l.filter (fun x => lt x b) ++ b :: l.filter (fun x => !lt x b)
def SrtG (lt : α → α → Bool) (l : List α) : Prop := l.Pairwise fun a b => lt a b = true
theorem part_g (p : α → Bool) : ∀ {l : List α} {i : Nat}, i ≤ l.length → (∀ (j : Nat) x, j < i → l[j]? = some x → p x = true) → (∀ (j : Nat) x, i ≤ j → l[j]? = some x → p x = false) → l.filter p = l.take i ∧ l.filter (fun x => !p x) = l.drop i
  | l, 0, _, _, h => by
    refine ⟨?_, ?_⟩
    · rw [List.take_zero]
      apply List.filter_eq_nil_iff.mpr
      intro x hx
      obtain ⟨j, hj⟩ := List.mem_iff_getElem?.mp hx
      rw [h j x (Nat.zero_le _) hj]; simp
    · rw [List.drop_zero]
      apply List.filter_eq_self.mpr
      intro x hx
      obtain ⟨j, hj⟩ := List.mem_iff_getElem?.mp hx
      rw [h j x (Nat.zero_le _) hj]; rfl
  | [], i + 1, hi, _, _ => by simp at hi
  | x :: l, i + 1, hi, h1, h2 => by
    obtain ⟨b, c⟩ := part_g p (l := l) (i := i) (by simpa using hi) (fun j y hj e => h1 (j + 1) y (by omega) (by simpa using e)) (fun j y hj e => h2 (j + 1) y (by omega) (by simpa using e))
    have hx : p x = true := h1 0 x (by omega) rfl
    refine ⟨?_, ?_⟩
    · rw [List.filter_cons, hx]; simp [b]
    · rw [List.filter_cons, hx]; simp [c]
theorem insG_at {b : α} {l : List α} {i : Nat} (hi : i ≤ l.length) (h1 : ∀ (j : Nat) x, j < i → l[j]? = some x → lt x b = true) (h2 : ∀ (j : Nat) x, i ≤ j → l[j]? = some x → lt x b = false) : l.take i ++ b :: l.drop i = insG lt b l := by
  obtain ⟨e1, e2⟩ := part_g (fun x => lt x b) hi h1 h2
  unfold insG
  rw [e1, e2]
theorem insG_mem {b x : α} {l : List α} : x ∈ insG lt b l ↔ x = b ∨ x ∈ l := by
  unfold insG
  rw [List.mem_append, List.mem_cons, List.mem_filter, List.mem_filter]
  constructor
  · rintro (h | h | h)
    · exact .inr h.1
    · exact .inl h
    · exact .inr h.1
  · rintro (h | h)
    · exact .inr (.inl h)
    · cases e : lt x b
      · exact .inr (.inr ⟨h, by simp⟩)
      · exact .inl ⟨h, rfl⟩
theorem insG_len (b : α) (l : List α) : (insG lt b l).length = l.length + 1 := by
  unfold insG
  rw [List.length_append, List.length_cons]
  have : ∀ l : List α, (l.filter fun x => lt x b).length + (l.filter fun x => !lt x b).length = l.length := by
    intro l
    induction l with
    | nil => rfl
    | cons x l ih => cases h : lt x b <;> simp [h] <;> omega
  have := this l
  omega
theorem insG_srt (tr : ∀ {a b c}, lt a b = true → lt b c = true → lt a c = true) {b : α} {l : List α} (s : SrtG lt l) (tot : ∀ x ∈ l, lt x b = true ∨ lt b x = true) : SrtG lt (insG lt b l) := by
  unfold insG SrtG
  rw [List.pairwise_append]
  refine ⟨s.filter _, ?_, ?_⟩
  · rw [List.pairwise_cons]
    refine ⟨fun y hy => ?_, s.filter _⟩
    rw [List.mem_filter] at hy
    rcases tot y hy.1 with q | q
    · simp [q] at hy
    · exact q
  · intro x hx y hy
    rw [List.mem_filter] at hx
    rcases List.mem_cons.mp hy with rfl | hy
    · exact hx.2
    · rw [List.mem_filter] at hy
      rcases tot y hy.1 with q | q
      · simp [q] at hy
      · exact tr hx.2 q
theorem srtG_ext (irr : ∀ a, lt a a = false) (tr : ∀ {a b c}, lt a b = true → lt b c = true → lt a c = true) : ∀ {l k : List α}, SrtG lt l → SrtG lt k → (∀ x, x ∈ l ↔ x ∈ k) → l = k
  | [], [], _, _, _ => rfl
  | [], y :: k, _, _, h => by have := (h y).mpr List.mem_cons_self; cases this
  | x :: l, [], _, _, h => by have := (h x).mp List.mem_cons_self; cases this
  | x :: l, y :: k, hl, hk, h => by
    obtain ⟨a1, a2⟩ := List.pairwise_cons.mp hl
    obtain ⟨b1, b2⟩ := List.pairwise_cons.mp hk
    have exy : x = y := by
      rcases List.mem_cons.mp ((h x).mp List.mem_cons_self) with e | e
      · exact e
      · rcases List.mem_cons.mp ((h y).mpr List.mem_cons_self) with e' | e'
        · exact e'.symm
        · have := tr (a1 y e') (b1 x e)
          rw [irr] at this; cases this
    subst exy
    rw [srtG_ext irr tr a2 b2 fun z => ?_]
    constructor
    · intro hz
      rcases List.mem_cons.mp ((h z).mp (List.mem_cons_of_mem _ hz)) with e | e
      · have := a1 z hz; rw [e, irr] at this; cases this
      · exact e
    · intro hz
      rcases List.mem_cons.mp ((h z).mpr (List.mem_cons_of_mem _ hz)) with e | e
      · have := b1 z hz; rw [e, irr] at this; cases this
      · exact e
end
structure Ky where
  p : Rat
  v : Int
  n : Str
  deriving DecidableEq
def Ky.lt (a b : Ky) : Bool := if a.p = b.p then (if a.v = b.v then decide (slt a.n b.n) else decide (a.v < b.v)) else decide (a.p < b.p)
theorem Ky.lt_iff (a b : Ky) : a.lt b = true ↔ a.p < b.p ∨ (a.p = b.p ∧ (a.v < b.v ∨ (a.v = b.v ∧ slt a.n b.n))) := by
  unfold Ky.lt
  by_cases e : a.p = b.p
  · rw [if_pos e]
    have n : ¬ a.p < b.p := by rw [e]; exact Rat.lt_irrefl
    by_cases k : a.v = b.v
    · rw [if_pos k, decide_eq_true_eq]
      have n2 : ¬ a.v < b.v := by omega
      exact ⟨fun h => .inr ⟨e, .inr ⟨k, h⟩⟩, fun h => by
        rcases h with h | ⟨_, h | h⟩
        · exact absurd h n
        · exact absurd h n2
        · exact h.2⟩
    · rw [if_neg k, decide_eq_true_eq]
      exact ⟨fun h => .inr ⟨e, .inl h⟩, fun h => by
        rcases h with h | ⟨_, h | h⟩
        · exact absurd h n
        · exact h
        · exact absurd h.1 k⟩
  · rw [if_neg e, decide_eq_true_eq]
    exact ⟨.inl, fun h => by
      rcases h with h | h
      · exact h
      · exact absurd h.1 e⟩
theorem Ky.irr (a : Ky) : a.lt a = false := by
  cases h : a.lt a with
  | false => rfl
  | true =>
    rcases (Ky.lt_iff a a).mp h with h | ⟨_, h | ⟨_, h⟩⟩
    · exact absurd h Rat.lt_irrefl
    · omega
    · exact absurd h (slt_irr _)
theorem Ky.tr {a b c : Ky} (h : a.lt b = true) (k : b.lt c = true) : a.lt c = true := by
  rw [Ky.lt_iff] at *
  rcases h with h | ⟨e, h⟩ <;> rcases k with k | ⟨e', k⟩
  · exact .inl (rlt_trans h k)
  · exact .inl (e' ▸ h)
  · exact .inl (e ▸ k)
  · refine .inr ⟨e.trans e', ?_⟩
    rcases h with h | ⟨z, h⟩ <;> rcases k with k | ⟨z', k⟩
    · exact .inl (by omega)
    · exact .inl (by omega)
    · exact .inl (by omega)
    · exact .inr ⟨z.trans z', slt_trans h k⟩
theorem Ky.tot {a b : Ky} (h : a.n ≠ b.n) : a.lt b = true ∨ b.lt a = true := by
  rw [Ky.lt_iff, Ky.lt_iff]
  by_cases e : a.p = b.p
  · by_cases z : a.v = b.v
    · rcases slt_tot h with q | q
      · exact .inl (.inr ⟨e, .inr ⟨z, q⟩⟩)
      · exact .inr (.inr ⟨e.symm, .inr ⟨z.symm, q⟩⟩)
    · rcases (by omega : a.v < b.v ∨ b.v < a.v) with q | q
      · exact .inl (.inr ⟨e, .inl q⟩)
      · exact .inr (.inr ⟨e.symm, .inl q⟩)
  · rcases (by grind : a.p < b.p ∨ b.p < a.p) with q | q
    · exact .inl (.inl q)
    · exact .inr (.inl q)
def key (t : Rat) (x : Str × Leg) : Ky := ⟨x.2.at t, x.2.v, x.1⟩
def PP : Nat := 1000000 * L60 + 1000 * MM
structure COk (l : Leg) : Prop where
  m0 : 0 ≤ l.m
  m : Sc L60 MM l.m
  p : ∃ a : Int, l.p * (L60 : Rat) = (a : Rat)
  b0 : -(1000000 + 1000 * l.m) ≤ l.p
  b1 : l.p ≤ 1000000 + 1000 * l.m
  v : l.v.natAbs ≤ 1000
theorem l60_q : (0 : Rat) < (L60 : Rat) := by
  have : ((0 : Nat) : Rat) < ((L60 : Nat) : Rat) := Rat.natCast_lt_natCast.mpr l60_pos
  simpa using this
theorem COk.sc {l : Leg} (h : COk l) : Sc L60 PP l.p := by
  obtain ⟨a, ha⟩ := h.p
  obtain ⟨k, hk, hk1⟩ := h.m
  have hL := l60_q
  have b0 := h.b0
  have b1 := h.b1
  have e1 : (a : Rat) ≤ (((1000000 * L60 + 1000 * k : Int)) : Rat) := by
    rw [← ha, Rat.intCast_add, Rat.intCast_mul, Rat.intCast_mul, ← hk]
    have : l.p * (L60 : Rat) ≤ (1000000 + 1000 * l.m) * (L60 : Rat) := Rat.mul_le_mul_of_nonneg_right b1 (Rat.le_of_lt hL)
    have e : (((L60 : Nat) : Int) : Rat) = (L60 : Rat) := rfl
    rw [e]
    grind
  have e2 : (((-(1000000 * L60 + 1000 * k) : Int)) : Rat) ≤ (a : Rat) := by
    rw [← ha, Rat.intCast_neg, Rat.intCast_add, Rat.intCast_mul, Rat.intCast_mul, ← hk]
    have : -(1000000 + 1000 * l.m) * (L60 : Rat) ≤ l.p * (L60 : Rat) := Rat.mul_le_mul_of_nonneg_right b0 (Rat.le_of_lt hL)
    have e : (((L60 : Nat) : Int) : Rat) = (L60 : Rat) := rfl
    rw [e]
    grind
  have e1 := Rat.intCast_le_intCast.mp e1
  have e2 := Rat.intCast_le_intCast.mp e2
  refine ⟨a, ha, ?_⟩
  unfold PP
  have : (k : Int) ≤ MM := by omega
  have : -(MM : Int) ≤ k := by omega
  omega
theorem COk.at {l : Leg} {t : Rat} {v : Int} (h : COk l) (h0 : l.m ≤ t) (ht : Sc L60 MM t) (hv : v.natAbs ≤ 1000) : COk ⟨t, l.at t, v⟩ := by
  have hm := h.m0
  have t0 : 0 ≤ t := Rat.le_trans hm h0
  have d0 : 0 ≤ t - l.m := by grind
  have v1 : (l.v : Rat) ≤ 1000 := by
    have : ((l.v : Int) : Rat) ≤ ((1000 : Int) : Rat) := Rat.intCast_le_intCast.mpr (by have := h.v; omega)
    exact this
  have v2 : -1000 ≤ (l.v : Rat) := by
    have : ((-1000 : Int) : Rat) ≤ ((l.v : Int) : Rat) := Rat.intCast_le_intCast.mpr (by have := h.v; omega)
    exact this
  have m1 : (t - l.m) * (l.v : Rat) ≤ (t - l.m) * 1000 := Rat.mul_le_mul_of_nonneg_left v1 d0
  have m2 : (t - l.m) * (-1000) ≤ (t - l.m) * (l.v : Rat) := Rat.mul_le_mul_of_nonneg_left v2 d0
  have b0 := h.b0
  have b1 := h.b1
  refine ⟨t0, ht, ?_, ?_, ?_, hv⟩
  · obtain ⟨a, ha⟩ := h.p
    obtain ⟨k, hk, _⟩ := h.m
    obtain ⟨j, hj, _⟩ := ht
    refine ⟨a + (j - k) * l.v, ?_⟩
    unfold Leg.at
    dsimp only
    rw [Rat.intCast_add, Rat.intCast_mul, Rat.intCast_sub, ← ha, ← hk, ← hj]
    grind
  · show -(1000000 + 1000 * t) ≤ l.p + (t - l.m) * (l.v : Rat)
    grind
  · show l.p + (t - l.m) * (l.v : Rat) ≤ 1000000 + 1000 * t
    grind
theorem COk.new {t : Rat} {p v : Int} (t0 : 0 ≤ t) (ht : Sc L60 MM t) (hp : p.natAbs ≤ 1000000) (hv : v.natAbs ≤ 1000) : COk ⟨t, (p : Rat), v⟩ := by
  have p1 : (p : Rat) ≤ 1000000 := by
    have : ((p : Int) : Rat) ≤ ((1000000 : Int) : Rat) := Rat.intCast_le_intCast.mpr (by omega)
    exact this
  have p2 : -1000000 ≤ (p : Rat) := by
    have : ((-1000000 : Int) : Rat) ≤ ((p : Int) : Rat) := Rat.intCast_le_intCast.mpr (by omega)
    exact this
  refine ⟨t0, ht, ⟨p * L60, by rw [Rat.intCast_mul]; rfl⟩, ?_, ?_, hv⟩
  · show -(1000000 + 1000 * t) ≤ (p : Rat)
    grind
  · show (p : Rat) ≤ 1000000 + 1000 * t
    grind
end Ov
set_option Elab.async false
set_option linter.all false
set_option maxRecDepth 100000
set_option maxHeartbeats 4000000
namespace Ov
open PySem PySem.Spec PyProof.Rows L2
def top (i : Nat) : Stmt := PySem.Challenge.pw_overhaul_k41_whole_goings_by.main.body.getD i (.Pass ⟨0, 0, 0, 0⟩)
local macro_rules | `(tactic| simp! only [$ls,*]) => `(tactic| repeat (first | refine seq_st ?_ | simp only [rFor_eq, rTry, gSb, qSetL, rAug, rVar, rC, rOp, rUn, rB, rTru, rAnd, rOr, rNot, rAndV, rOrV, rNotV, rIf, rNil, rCons, rTup, rLst, rFl, rNoPart, rPart, rSl, rCB, rBM, rBM0, rCall, rFld, rMth, rMak, rNext, rDrop, rRet, rRetN, rIfS, gNm, gNi, gCo, gTu, rAsg, rPar, rFldS, putR, rTrue, iLs, iTu, iR1, iR2, rBrk, rCnt, qI0, qI, qU, qLtS, qIs, qIsNot, qIx, qSlT, qSlF, qSlL, qAbs, qLen, qIsi, qCopyF, qCopyL, qMax, qAppend, qPop, qClear, qInsert, qCatF, ix_t, ix_f, ix_r, ls_f, ls_r, len_t, len_f, len_r, ty_n, ty_b', ty_i, ty_s, ty_t, ty_f, ty_r, tru_n, tru_b, tru_i, tru_t, tru_f, tru_r, it_f, it_r, is_n, is_b, is_i, is_s, is_t, is_f, is_r, tq_f, tq_s, tq_r, qEq, cm_int, cm_str, cm_bl, cm_non, cm_fr, pur_int, pur_str, pur_bl, pur_non, pur_fr, eq_int, eq_str, eq_bl, eq_fr, ix_fr0, ix_fr1, ty_fr, len_fr, isN_fr, fr_inj, strt, List.map_cons, List.map_nil, List.length_cons, List.length_nil, Nat.reduceAdd, Nat.reduceSub, Nat.reduceLeDiff, List.replicate, List.cons_append, List.nil_append, List.append_nil, List.getElem?_cons_zero, List.getElem?_cons_succ, List.set_cons_zero, List.set_cons_succ, Option.some.injEq, exists_eq_left', exists_eq_left, exists_and_left, exists_eq, exists_eq', PV.int.injEq, PV.bl.injEq, PV.ref.injEq, PV.str.injEq, PV.ty.injEq, PV.tup.injEq, PV.fl.injEq, HQ.lst.injEq, HQ.ins.injEq, HQ.dct.injEq, decide_eq_true_eq, true_and, and_true, List.cons.injEq, reduceCtorEq, Bool.not_eq_true', decide_eq_false_iff_not, and_assoc, ite_not, if_true, if_false, Bool.false_eq_true, decide_true, decide_false, false_and, and_false, exists_false, false_or, or_false, id, atI_0, atI_1, atI_2, atI_3, atI_4, atI_5, atI_6, atI_7, atI_8, atI_9, atI_10, atI_11, sl3, Bool.not_true, Bool.not_false, Option.map_some, put_same, Bool.and_true, Bool.true_and, Bool.and_false, Bool.false_and, line0, line1, line2, line3, line4, line5, line6, line7, line8, line9, line10, line11, line12, ty_bb, ty_int, ty_bool, ty_str, ty_tup, ty_list, String.reduceEq, List.isEmpty_cons, List.isEmpty_nil, selR, Option.getD_some, List.not_mem_nil, exists_const, $ls,*]))
local macro_rules | `(tactic| simp_all! only [$ls,*]) => `(tactic| simp only [rFor_eq, rTry, gSb, qSetL, rAug, rVar, rC, rOp, rUn, rB, rTru, rAnd, rOr, rNot, rAndV, rOrV, rNotV, rIf, rNil, rCons, rTup, rLst, rFl, rNoPart, rPart, rSl, rCB, rBM, rBM0, rCall, rFld, rMth, rMak, rNext, rSeq, rDrop, rRet, rRetN, rIfS, gNm, gNi, gCo, gTu, rAsg, rPar, rFldS, putR, rTrue, iLs, iTu, iR1, iR2, rBrk, rCnt, qI0, qI, qU, qLtS, qIs, qIsNot, qIx, qSlT, qSlF, qSlL, qAbs, qLen, qIsi, qCopyF, qCopyL, qMax, qAppend, qPop, qClear, qInsert, qCatF, ix_t, ix_f, ix_r, ls_f, ls_r, len_t, len_f, len_r, ty_n, ty_b', ty_i, ty_s, ty_t, ty_f, ty_r, tru_n, tru_b, tru_i, tru_t, tru_f, tru_r, it_f, it_r, is_n, is_b, is_i, is_s, is_t, is_f, is_r, tq_f, tq_s, tq_r, qEq, cm_int, cm_str, cm_bl, cm_non, cm_fr, pur_int, pur_str, pur_bl, pur_non, pur_fr, eq_int, eq_str, eq_bl, eq_fr, ix_fr0, ix_fr1, ty_fr, len_fr, isN_fr, fr_inj, strt, List.map_cons, List.map_nil, List.length_cons, List.length_nil, Nat.reduceAdd, Nat.reduceSub, Nat.reduceLeDiff, List.replicate, List.cons_append, List.nil_append, List.append_nil, List.getElem?_cons_zero, List.getElem?_cons_succ, List.set_cons_zero, List.set_cons_succ, Option.some.injEq, exists_eq_left', exists_eq_left, exists_and_left, exists_eq, exists_eq', PV.int.injEq, PV.bl.injEq, PV.ref.injEq, PV.str.injEq, PV.ty.injEq, PV.tup.injEq, PV.fl.injEq, HQ.lst.injEq, HQ.ins.injEq, HQ.dct.injEq, decide_eq_true_eq, true_and, and_true, List.cons.injEq, reduceCtorEq, Bool.not_eq_true', decide_eq_false_iff_not, and_assoc, ite_not, if_true, if_false, Bool.false_eq_true, decide_true, decide_false, false_and, and_false, exists_false, false_or, or_false, id, atI_0, atI_1, atI_2, atI_3, atI_4, atI_5, atI_6, atI_7, atI_8, atI_9, atI_10, atI_11, sl3, Bool.not_true, Bool.not_false, Option.map_some, put_same, Bool.and_true, Bool.true_and, Bool.and_false, Bool.false_and, line0, line1, line2, line3, line4, line5, line6, line7, line8, line9, line10, line11, line12, ty_bb, ty_int, ty_bool, ty_str, ty_tup, ty_list, String.reduceEq, List.isEmpty_cons, List.isEmpty_nil, selR, Option.getD_some, List.not_mem_nil, exists_const, $ls,*])
section
variable {P : Program} {w : World} {K : PySem.W.Frag} {mg : Str → Option Value} {base : Heap}
abbrev s_shared : Stmt := (top 6)
theorem sc_shared : L2.FnScope ["one", "two"] ["one", "two"] (L2.defScope s_shared) := ⟨rfl, rfl, rfl, by decide +kernel, rfl, by decide +kernel, by decide +kernel⟩
def spShared : Sp := fun vs H Q _ => ∃ a b : Int, vs = [.int a, .int b] ∧ Q (.int (Int.gcd a b : Nat)) H
theorem ok_shared {f : Addr} {fd : FuncData} (F : Fun K "shared" "shared" s_shared f fd) (Z : Blt mg) : FnOk P w K mg base CX0 1 f fd ["one", "two"] spShared := by
  refine F.ok sc_shared (fun vs H Q E h => ?_) (fun cdv A outer s H vs Q E hr h => ?_)
  · obtain ⟨a, b, rfl, _⟩ := h
    rfl
  obtain ⟨a, b, rfl, q⟩ := h
  refine ⟨_, (QB.run (pss_cons (ps_par (i := 0) (j := 1) rfl sc_shared.nd rfl rfl (by decide) rfl rfl (pa_cons (pe_callB call_abs rfl Z.abs boot_abs (pa_cons (pv 0) pa_nil)) (pa_cons (pe_callB call_abs rfl Z.abs boot_abs (pa_cons (pv 1) pa_nil)) pa_nil)) rfl)
      (pss_cons (ps_while PassesOwn.never (pt_cmpR op_ne (pv 1) pe_int (nomark _)) (pss_one (ps_par (i := 0) (j := 1) rfl sc_shared.nd rfl rfl (by decide) rfl rfl (pa_cons (pv 1) (pa_cons (pe_op op_mod (pv 0) (pv 1)) pa_nil)) rfl)))
      (pss_one (ps_ret (pv 0)))))), ?_⟩
  refine ⟨_, rfl, a, rfl, _, rfl, b, rfl, _, _, rfl, ?_⟩
  refine while_by (fun σ H' => ∃ x y : Int, σ = [some (.int x), some (.int y)] ∧ H = H' ∧ 0 ≤ x ∧ 0 ≤ y ∧ Int.gcd x y = Int.gcd a b) (fun σ _ => match σ with | [_, some (.int y)] => y.toNat | _ => 0)
    ⟨_, _, rfl, rfl, by split <;> omega, by split <;> omega, gcd_abs a b⟩ ?_ (fun σ H Q Q' m h => ?_)
  · rintro σ H' ⟨x, y, rfl, rfl, hx, hy, hg⟩
    simp only [tSeq, tNext, tAsg, gName, tRet, tRetN, tIfS, tTest, tOp, tUn, tVar, tC, rI, rI0, rU, rEq, rNe, scal_ii, scal_bb, scal_ss, Int.reduceLT, tPar, tCons, tNil, tCB, tCall, tTup, tLst, tNot, tNotV, tAndV, tOrV, tAnd, tOr, tB, tIf, tDrop, tBM, rAppend, gTup, gCons, gNil, iList, iRng1, iRng2, rIxL, rIxT, rIxLH, rIxTH, rT2, atI_0, atI_1, atI_2, atI_3, HO.lst.injEq, HO.tup.injEq, List.set_cons_zero, List.set_cons_succ, List.getElem?_cons_zero, List.getElem?_cons_succ, Option.some.injEq, exists_eq_left', exists_eq_left, exists_and_left, exists_eq, exists_eq', V.int.injEq, V.bl.injEq, V.ref.injEq, V.str.injEq, V.ty.injEq, decide_eq_true_eq, true_and, and_true, List.cons.injEq, List.append_nil, List.cons_append, List.nil_append, reduceCtorEq, Bool.not_eq_true', decide_eq_false_iff_not, and_assoc, ite_not, if_true, if_false, Bool.false_eq_true, decide_true, decide_false, L2.start, List.map_cons, List.map_nil, List.length_cons, List.length_nil, Nat.reduceAdd, Nat.reduceSub, List.replicate, cxOf, Cx.nox, Cx.wish, false_and, and_false, exists_false, false_or, or_false, id, selC, Option.getD_some, rIxS, tSl, tPart, tNoPart, rSlL, tLCs, gSub, rSetL, rJoin]
    split
    · rename_i hy0
      subst hy0
      rw [← hg, gcd_end hx] at q
      exact q
    · rename_i hy0
      have h1 := Int.emod_lt_of_pos x (show 0 < y by omega)
      have h2 := Int.emod_nonneg x hy0
      exact ⟨by omega, hy, h2, (gcd_step hy0).trans hg, by omega⟩
  · obtain ⟨v, e, hs, k, ek, hq⟩ := h
    exact ⟨v, e, hs, k, ek, m _ _ hq⟩
def Dig : List Int → List Int → Prop
  | [], [] => True
  | d :: ds, s :: ss => (0 ≤ d ∧ d < s) ∧ Dig ds ss
  | _, _ => False
theorem Dig.snoc : ∀ {ds ss : List Int} {d s : Int}, Dig ds ss → 0 ≤ d → d < s → Dig (ds ++ [d]) (ss ++ [s])
  | [], [], _, _, _, h0, h1 => ⟨⟨h0, h1⟩, trivial⟩
  | _ :: _, _ :: _, _, _, h, h0, h1 => ⟨h.1, Dig.snoc h.2 h0 h1⟩
  | [], _ :: _, _, _, h, _, _ => h.elim
  | _ :: _, [], _, _, h, _, _ => h.elim
theorem Dig.cons : ∀ {ds ss : List Int} {s : Int}, Dig ds (s :: ss) → ∃ d r, ds = d :: r ∧ 0 ≤ d ∧ d < s ∧ Dig r ss
  | [], _, _, h => h.elim
  | d :: r, _, _, h => ⟨d, r, rfl, h.1.1, h.1.2, h.2⟩
theorem Dig.nil : ∀ {ds : List Int}, Dig ds [] → ds = []
  | [], _ => rfl
  | _ :: _, h => h.elim
theorem Dig.len : ∀ {ds ss : List Int}, Dig ds ss → ds.length = ss.length
  | [], [], _ => rfl
  | _ :: _, _ :: _, h => congrArg Nat.succ (Dig.len h.2)
  | [], _ :: _, h => h.elim
  | _ :: _, [], h => h.elim
theorem take_snoc {xs : List Int} {i : Nat} {x : Int} (h : xs[i]? = some x) : xs.take (i + 1) = xs.take i ++ [x] := by
  rw [List.take_add_one, h]
  rfl
theorem int_of_map {ns : List Int} {i : Nat} {y : V} (h : (ns.map V.int)[i]? = some y) : ∃ z, y = V.int z ∧ ns[i]? = some z := by
  rw [List.getElem?_map] at h
  cases e : ns[i]? with
  | none => rw [e] at h; cases h
  | some z => rw [e] at h; exact ⟨z, (Option.some.inj h).symm, rfl⟩
abbrev s_cell : Stmt := (top 25)
theorem sc_cell : L2.FnScope ["_law_script", "_law_k"] ["_law_script", "_law_k"] (L2.defScope s_cell) := ⟨rfl, rfl, rfl, by decide +kernel, rfl, by decide +kernel, by decide +kernel⟩
abbrev s_digits : Stmt := (top 26)
theorem sc_digits : L2.FnScope ["_law_cell_here", "_law_sizes", "_law_out", "_law_rest", "_law_size", "_law_one", "_law_k", "_law_two"] ["_law_cell_here", "_law_sizes"] (L2.defScope s_digits) := ⟨rfl, rfl, rfl, by decide +kernel, rfl, by decide +kernel, by decide +kernel⟩
def spDigits (K : PySem.W.Frag) : Sp := fun vs H Q _ => ∃ (c : Int) (a : Addr) (ss : List Int), vs = [.int c, .ref a] ∧ SqL K H a (ss.map V.int) ∧ (∀ s ∈ ss, 0 < s ∧ Bd 9000 s) ∧ ss.length ≤ 1000 ∧
  ∀ (r : Addr) (H' : Hp) (ds : List Int), H r = none → Same H H' → H' r = some (.lst (ds.map V.int)) → Dig ds ss → Q (.ref r) H'
theorem ok_digits {f : Addr} {fd : FuncData} (F : Fun K "_law_digits" "_law_digits" s_digits f fd) (Z : Blt mg) : FnOk P w K mg base CX0 1 f fd ["_law_cell_here", "_law_sizes"] (spDigits K) := by
  refine F.ok sc_digits (fun vs H Q E h => ?_) (fun cdv A outer s H vs Q E hr h => ?_)
  · obtain ⟨c, a, ss, rfl, _⟩ := h
    rfl
  obtain ⟨c, a, ss, rfl, hS, hs, hl, q⟩ := h
  refine ⟨_, (QB.run (pss_cons (ps_set (i := 2) sc_digits.nd rfl (Or.inl rfl) (pe_lst pa_nil))
      (pss_cons (ps_if (pt_cmpR op_ge (pv 0) (pe_op op_pow pe_int pe_int) (nomark _)) (pss_cons (ps_set (i := 3) sc_digits.nd rfl (Or.inl rfl) (pe_op op_sub (pv 0) (pe_op op_pow pe_int pe_int)))
      (pss_cons (ps_for PassesOwn.never rfl (pi_list (pv 1)) (pg_name (i := 4) sc_digits.nd rfl (Or.inl rfl)) (pss_cons (ps_expr (pe_bm PySem.F.plainAttrs_list PySem.F.slot_list_append PySem.F.type_list_append mt_append (pv 2) (pa_cons (pe_op op_mod (pv 3) (pv 4)) pa_nil)))
      (pss_one (ps_set (i := 3) sc_digits.nd rfl (Or.inl rfl) (pe_op op_fdivB (pv 3) (pv 4))))))
      (pss_one (ps_ret (pv 2))))) pss_nil)
      (pss_cons (ps_set (i := 5) sc_digits.nd rfl (Or.inl rfl) (pe_op op_mod (pv 0) pe_int))
      (pss_cons (ps_for PassesOwn.never rfl (pi_range1 rfl Z.range (pa_cons (pe_callB call_len_seq rfl Z.len boot_len (pa_cons (pv 1) pa_nil)) pa_nil)) (pg_name (i := 6) sc_digits.nd rfl (Or.inl rfl)) (pss_cons (ps_set (i := 5) sc_digits.nd rfl (Or.inl rfl) (pe_op op_mod (pe_op op_add (pe_op op_mulB (pv 5) pe_int) (pe_op op_mulB pe_int (pe_op op_add (pv 6) pe_int))) pe_int))
      (pss_cons (ps_set (i := 7) sc_digits.nd rfl (Or.inl rfl) (pe_op op_mod (pe_op op_add (pe_op op_add (pe_op op_mulB (pv 5) (pv 5)) (pe_op op_mulB pe_int (pv 5))) (pv 6)) pe_int))
      (pss_one (ps_expr (pe_bm PySem.F.plainAttrs_list PySem.F.slot_list_append PySem.F.type_list_append mt_append (pv 2) (pa_cons (pe_op op_mod (pe_op op_fdivB (pv 7) pe_int) (pe_ix ix_list (pv 1) (pv 6) (fun _ _ => rfl))) pa_nil)))))))
      (pss_one (ps_ret (pv 2)))))))), ?_⟩
  refine ⟨Nat.zero_le _, fun r hr' => ?_⟩
  have g0 := Same.new hr' (.lst [])
  refine ⟨_, rfl, _, _, rfl, rfl, ⟨by decide, by decide, by decide⟩, _, _, rfl, rfl, _, rfl, ?_⟩
  refine ite2 (fun _ => ?_) (fun _ => ?_)
  · refine ⟨_, rfl, _, _, rfl, rfl, ⟨by decide, by decide, by decide⟩, _, _, rfl, rfl, ?_⟩
    refine ⟨_, rfl, a, rfl, ⟨_, g0.seq hS⟩, for_list (K := K) (a := a) (xs := ss.map V.int) (fun i σ H2 => ∃ (ds : List Int) (rest : Int) (u : Option V), σ = [some (.int c), some (.ref a), some (.ref r), some (.int rest), u, none, none, none] ∧
      Same H H2 ∧ H2 r = some (.lst (ds.map V.int)) ∧ Dig ds (ss.take i)) ⟨[], _, none, rfl, g0, upd_same, trivial⟩ (fun i σ H2 _ ⟨_, _, _, _, s2, _⟩ => s2.seq hS) ?_ ?_⟩
    · rintro i y σ H2 hi ⟨ds, rest, u, rfl, s2, hd, hD⟩
      obtain ⟨z, rfl, hz⟩ := int_of_map hi
      obtain ⟨z0, zb⟩ := hs z (List.mem_of_getElem? hz)
      have hil : i < ss.length := (List.getElem?_eq_some_iff.mp hz).1
      have dl := hD.len
      rw [List.length_take] at dl
      refine ⟨_, rfl, .inl ⟨rfl, _, SqL.of hd⟩, _, rfl, _, rfl, _, _, rfl, rfl, z0, r, _, _, rfl, rfl, hd, ?_, ?_⟩
      · rw [List.length_map]
        exact small1000 (by omega)
      refine ⟨_, rfl, _, rfl, _, _, rfl, rfl, ⟨by omega, zb⟩, ?_⟩
      refine ⟨ds ++ [rest % z], _, _, rfl, s2.rew hr' _, ?_, ?_⟩
      · rw [upd_same, List.map_append]
        rfl
      · rw [take_snoc hz]
        exact hD.snoc (Int.emod_nonneg _ (by omega)) (Int.emod_lt_of_pos _ z0)
    · rintro σ H2 ⟨ds, rest, u, rfl, s2, hd, hD⟩
      rw [List.length_map, List.take_length] at hD
      exact ⟨_, rfl, q r H2 ds hr' s2 hd hD⟩
  · refine ⟨_, rfl, _, _, rfl, rfl, (show (0 : Int) < 2147483647 by decide), ?_⟩
    refine ⟨_, rfl, a, _, rfl, .inl (g0.seq hS), _, rfl, ?_, ?_, for_range (lo := 0) (n := (ss.map V.int).length) (fun i σ H2 => ∃ (ds : List Int) (one : Int) (u v : Option V), σ = [some (.int c), some (.ref a), some (.ref r), none, none, some (.int one), u, v] ∧
      0 ≤ one ∧ one < 2147483647 ∧ Same H H2 ∧ H2 r = some (.lst (ds.map V.int)) ∧ Dig ds (ss.take i)) ⟨[], _, none, none, rfl, Int.emod_nonneg _ (by decide), Int.emod_lt_of_pos _ (by decide), g0, upd_same, trivial⟩ ?_ ?_⟩
    · omega
    · rw [List.length_map]; omega
    · rintro i σ H2 hi ⟨ds, one, u, v, rfl, o0, o1, s2, hd, hD⟩
      rw [List.length_map] at hi
      have hz : ss[i]? = some ss[i] := List.getElem?_eq_getElem hi
      obtain ⟨z0, zb⟩ := hs ss[i] (List.getElem_mem hi)
      have dl := hD.len
      rw [List.length_take] at dl
      have e1 : atI (ss.map V.int) (0 + (i : Int)) = some (.int ss[i]) := by
        rw [Int.zero_add]
        exact atI_nat (by rw [List.getElem?_map, hz]; rfl)
      simp only [tSeq, tNext, tAsg, gName, tRet, tRetN, tIfS, tTest, tOp, tUn, tVar, tC, rI, rI0, rU, rEq, rNe, scal_ii, scal_bb, scal_ss, Int.reduceLT, tPar, tCons, tNil, tCB, tCall, tTup, tLst, tNot, tNotV, tAndV, tOrV, tAnd, tOr, tB, tIf, tDrop, tBM, rAppend, gTup, gCons, gNil, iList, iRng1, iRng2, rIxL, rIxT, rIxLH, rIxTH, rT2, atI_0, atI_1, atI_2, atI_3, HO.lst.injEq, HO.tup.injEq, List.set_cons_zero, List.set_cons_succ, List.getElem?_cons_zero, List.getElem?_cons_succ, Option.some.injEq, exists_eq_left', exists_eq_left, exists_and_left, exists_eq, exists_eq', V.int.injEq, V.bl.injEq, V.ref.injEq, V.str.injEq, V.ty.injEq, decide_eq_true_eq, true_and, and_true, List.cons.injEq, List.append_nil, List.cons_append, List.nil_append, reduceCtorEq, Bool.not_eq_true', decide_eq_false_iff_not, and_assoc, ite_not, if_true, if_false, Bool.false_eq_true, decide_true, decide_false, L2.start, List.map_cons, List.map_nil, List.length_cons, List.length_nil, Nat.reduceAdd, Nat.reduceSub, List.replicate, cxOf, Cx.nox, Cx.wish, false_and, and_false, exists_false, false_or, or_false, id, selC, Option.getD_some, rIxS, tSl, tPart, tNoPart, rSlL, tLCs, gSub, rSetL, rJoin]
      have A0 : 0 ≤ (one * 48271 + 10007 * (0 + (i : Int) + 1)) % 2147483629 := Int.emod_nonneg _ (by decide)
      have A1 : (one * 48271 + 10007 * (0 + (i : Int) + 1)) % 2147483629 < 2147483629 := Int.emod_lt_of_pos _ (by decide)
      generalize (one * 48271 + 10007 * (0 + (i : Int) + 1)) % 2147483629 = A at A0 A1 ⊢
      generalize ((A * A + 69621 * A + (0 + (i : Int))) % 2147483563).fdiv 11 = B
      have small : ∀ x : Int, 0 ≤ x → x < 2147483648 → Bd 64 x := fun x h1 h2 => Bd.small (by omega) (by omega)
      refine ⟨.of (small _ o0 (by omega)) (small _ (by decide) (by decide)), .of (small _ (by decide) (by decide)) (small _ (by omega) (by omega)), .of (small _ A0 (by omega)) (small _ A0 (by omega)),
        .of (small _ (by decide) (by decide)) (small _ A0 (by omega)), .inl ⟨rfl, _, SqL.of hd⟩, ⟨by decide, (small _ (by decide) (by decide)).mono (by decide)⟩, _, s2.seq hS, _, e1, _, rfl, z0, _, hd, ?_, A0, by omega, s2.rew hr' _, ds ++ [B % ss[i]], ?_, ?_⟩
      · rw [List.length_map]
        exact small1000 (by omega)
      · rw [upd_same, List.map_append]
        rfl
      · rw [take_snoc hz]
        exact hD.snoc (Int.emod_nonneg _ (by omega)) (Int.emod_lt_of_pos _ z0)
    · rintro σ H2 ⟨ds, one, u, v, rfl, o0, o1, s2, hd, hD⟩
      rw [List.length_map, List.take_length] at hD
      exact ⟨_, rfl, q r H2 ds hr' s2 hd hD⟩
def Ret (H : Hp) (q : Rat) (Q : VK) : Prop := ∀ (r : Addr) (H' : Hp), Same H H' → H' r = some (.tup [.int q.num, .int q.den]) → Q (.ref r) H'
abbrev s_fraction : Stmt := (top 7)
theorem sc_fraction : L2.FnScope ["top", "bottom", "divisor"] ["top", "bottom"] (L2.defScope s_fraction) := ⟨rfl, rfl, rfl, by decide +kernel, rfl, by decide +kernel, by decide +kernel⟩
def spFraction : Sp := fun vs H Q _ => ∃ t b : Int, vs = [.int t, .int b] ∧ b ≠ 0 ∧ Bd 9000 b ∧ Ret H (Rat.divInt t b) Q
theorem gcd_bd {n : Nat} {t b : Int} (h : b ≠ 0) (hb : Bd n b) : Bd n ((Int.gcd t b : Nat) : Int) := hb.le (by have := gcd_le (t := t) h; omega)
theorem ok_fraction {f : Addr} {fd : FuncData} (F : Fun K "fraction" "fraction" s_fraction f fd) (Z : Blt mg) (C_shared : Can P w K mg base 1 "shared" ["one", "two"] spShared) : FnOk P w K mg base CX0 2 f fd ["top", "bottom"] spFraction := by
  refine F.ok sc_fraction (fun vs H Q E h => ?_) (fun cdv A outer s H vs Q E hr h => ?_)
  · obtain ⟨t, b, rfl, _⟩ := h
    rfl
  obtain ⟨t, b, rfl, hb, bb, q⟩ := h
  have hg := gcd_pos (t := t) hb
  have gb := gcd_bd (t := t) hb bb
  refine ⟨_, (QB.run (pss_cons (ps_if (pt_cmpR op_eq (pv 1) pe_int (nomark _)) pss_never pss_nil)
      (pss_cons (ps_set (i := 2) sc_fraction.nd rfl (Or.inl rfl) (pe_fn C_shared hr (by decide) rfl (pa_cons (pv 0) (pa_cons (pv 1) pa_nil))))
      (pss_join (ps_if (pt_cmpR op_lt (pv 1) pe_int (nomark _)) (pss_one (ps_set (i := 2) sc_fraction.nd rfl (Or.inl rfl) (pe_un un_neg (pv 2)))) pss_nil)
      (pss_one (ps_ret (pe_tup (pa_cons (pe_op op_fdivB (pv 0) (pv 2)) (pa_cons (pe_op op_fdivB (pv 1) (pv 2)) pa_nil))))))))), ?_⟩
  refine ⟨_, rfl, rfl, _, rfl, ?_⟩
  refine ite2 (fun c => absurd (V.int.inj (of_decide_eq_true c)) hb) (fun _ => ?_)
  refine ⟨_, rfl, _, rfl, t, b, rfl, ?_⟩
  refine ⟨fun σ' H' => ∃ d : Int, σ' = [some (.int t), some (.int b), some (.int d)] ∧ H = H' ∧ d ≠ 0 ∧ Bd 9000 d ∧ t.fdiv d = (Rat.divInt t b).num ∧ b.fdiv d = (Rat.divInt t b).den, ?_, ?_⟩
  · refine ⟨_, rfl, _, _, rfl, rfl, _, rfl, ite2 (fun c => ?_) (fun c => ?_)⟩
    · have c' : b < 0 := of_decide_eq_true c
      exact ⟨_, rfl, _, rfl, _, rfl, rfl, by omega, gb.neg, num_neg c', den_neg c'⟩
    · have c' : 0 < b := by
        have := of_decide_eq_false (Bool.eq_false_iff.mpr c)
        omega
      exact ⟨_, rfl, rfl, by omega, gb, num_pos c', den_pos c'⟩
  rintro _ _ ⟨d, rfl, rfl, hd, bd, e1, e2⟩
  refine ⟨_, rfl, _, rfl, _, _, rfl, rfl, ⟨hd, bd⟩, _, rfl, _, rfl, _, _, rfl, rfl, ⟨hd, bd⟩, (by show 2 ≤ sizeLine; decide), fun p hp => ?_⟩
  exact q p _ (Same.new hp _) (by rw [upd_same]; show some (HO.tup [V.int (t.fdiv d), V.int (b.fdiv d)]) = _; rw [e1, e2])
abbrev s_low : Stmt := (top 28)
theorem sc_low : L2.FnScope ["_law_top", "_law_bottom", "_law_one", "_law_two"] ["_law_top", "_law_bottom"] (L2.defScope s_low) := ⟨rfl, rfl, rfl, by decide +kernel, rfl, by decide +kernel, by decide +kernel⟩
def spLow : Sp := fun vs H Q _ => ∃ t b : Int, vs = [.int t, .int b] ∧ 0 < b ∧ Bd 9000 b ∧ Ret H (Rat.divInt t b) Q
theorem ok_low {f : Addr} {fd : FuncData} (F : Fun K "_law_low" "_law_low" s_low f fd) (Z : Blt mg) : FnOk P w K mg base CX0 1 f fd ["_law_top", "_law_bottom"] spLow := by
  refine F.ok sc_low (fun vs H Q E h => ?_) (fun cdv A outer s H vs Q E hr h => ?_)
  · obtain ⟨t, b, rfl, _⟩ := h
    rfl
  obtain ⟨t, b, rfl, hb, bb, q⟩ := h
  have hg := gcd_pos (t := t) (show b ≠ 0 by omega)
  have gb := gcd_bd (t := t) (show b ≠ 0 by omega) bb
  refine ⟨_, (QB.run (pss_cons (ps_set (i := 2) sc_low.nd rfl (Or.inl rfl) (pe_callB call_abs rfl Z.abs boot_abs (pa_cons (pv 0) pa_nil)))
      (pss_cons (ps_set (i := 3) sc_low.nd rfl (Or.inl rfl) (pv 1))
      (pss_cons (ps_while PassesOwn.never (pt_cmpR op_ne (pv 3) pe_int (nomark _)) (pss_one (ps_par (i := 2) (j := 3) rfl sc_low.nd rfl rfl (by decide) rfl rfl (pa_cons (pv 3) (pa_cons (pe_op op_mod (pv 2) (pv 3)) pa_nil)) rfl)))
      (pss_one (ps_ret (pe_tup (pa_cons (pe_op op_fdivB (pv 0) (pv 2)) (pa_cons (pe_op op_fdivB (pv 1) (pv 2)) pa_nil))))))))), ?_⟩
  refine ⟨_, rfl, t, rfl, _, rfl, ?_⟩
  refine while_by (fun σ H' => ∃ x y : Int, σ = [some (.int t), some (.int b), some (.int x), some (.int y)] ∧ H = H' ∧ 0 ≤ x ∧ 0 ≤ y ∧ Int.gcd x y = Int.gcd t b) (fun σ _ => match σ with | [_, _, _, some (.int y)] => y.toNat | _ => 0)
    ⟨_, _, rfl, rfl, by split <;> omega, by omega, gcd_abs1 t b⟩ ?_ (fun σ H Q Q' m h => ?_)
  · rintro σ H' ⟨x, y, rfl, rfl, hx, hy, hg'⟩
    simp only [tSeq, tNext, tAsg, gName, tRet, tRetN, tIfS, tTest, tOp, tUn, tVar, tC, rI, rI0, rU, rEq, rNe, scal_ii, scal_bb, scal_ss, Int.reduceLT, tPar, tCons, tNil, tCB, tCall, tTup, tLst, tNot, tNotV, tAndV, tOrV, tAnd, tOr, tB, tIf, tDrop, tBM, rAppend, gTup, gCons, gNil, iList, iRng1, iRng2, rIxL, rIxT, rIxLH, rIxTH, rT2, atI_0, atI_1, atI_2, atI_3, HO.lst.injEq, HO.tup.injEq, List.set_cons_zero, List.set_cons_succ, List.getElem?_cons_zero, List.getElem?_cons_succ, Option.some.injEq, exists_eq_left', exists_eq_left, exists_and_left, exists_eq, exists_eq', V.int.injEq, V.bl.injEq, V.ref.injEq, V.str.injEq, V.ty.injEq, decide_eq_true_eq, true_and, and_true, List.cons.injEq, List.append_nil, List.cons_append, List.nil_append, reduceCtorEq, Bool.not_eq_true', decide_eq_false_iff_not, and_assoc, ite_not, if_true, if_false, Bool.false_eq_true, decide_true, decide_false, L2.start, List.map_cons, List.map_nil, List.length_cons, List.length_nil, Nat.reduceAdd, Nat.reduceSub, List.replicate, cxOf, Cx.nox, Cx.wish, false_and, and_false, exists_false, false_or, or_false, id, selC, Option.getD_some, rIxS, tSl, tPart, tNoPart, rSlL, tLCs, gSub, rSetL, rJoin]
    split
    · rename_i hy0
      subst hy0
      have ex : x = ((Int.gcd t b : Nat) : Int) := by rw [← hg', gcd_end hx]
      subst ex
      refine ⟨⟨by omega, gb⟩, ⟨by omega, gb⟩, (by show 2 ≤ sizeLine; decide), fun p hp => ?_⟩
      exact q p _ (Same.new hp _) (by rw [upd_same, num_pos hb, den_pos hb])
    · rename_i hy0
      have h1 := Int.emod_lt_of_pos x (show 0 < y by omega)
      have h2 := Int.emod_nonneg x hy0
      exact ⟨by omega, hy, h2, (gcd_step hy0).trans hg', by omega⟩
  · obtain ⟨v, e, hs, k, ek, hq⟩ := h
    exact ⟨v, e, hs, k, ek, m _ _ hq⟩
theorem sz_of {m n : Nat} {t b : Int} (hb : b ≠ 0) (h1 : Bd m t) (h2 : Bd n b) (k : Nat) (hm : m ≤ k) (hn : n ≤ k) : Sz k (Rat.divInt t b) :=
  ⟨(h1.le (num_abs t b)).mono hm, (h2.le (den_abs hb)).mono hn⟩
theorem mul_ne (p q : Rat) : (p.den : Int) * (q.den : Int) ≠ 0 := Int.mul_ne_zero (den_ne p) (den_ne q)
theorem Sz.add {m n k : Nat} {p q : Rat} (h : Sz m p) (g : Sz n q) (hk : m + n + 1 ≤ k := by decide) : Sz k (p + q) := by
  rw [← add_eq]
  exact sz_of (mul_ne p q) (.add (.mul h.num g.den (Nat.le_refl _)) (.mul g.num h.den (Nat.le_refl _)) (Nat.le_refl _)) (.mul h.den g.den (Nat.le_refl _)) k (by omega) (by omega)
theorem Sz.sub {m n k : Nat} {p q : Rat} (h : Sz m p) (g : Sz n q) (hk : m + n + 1 ≤ k := by decide) : Sz k (p - q) := by
  rw [← sub_eq]
  exact sz_of (mul_ne p q) (.sub (.mul h.num g.den (Nat.le_refl _)) (.mul g.num h.den (Nat.le_refl _)) (Nat.le_refl _)) (.mul h.den g.den (Nat.le_refl _)) k (by omega) (by omega)
theorem Sz.mul {m n k : Nat} {p : Rat} {i : Int} (h : Sz m p) (g : Bd n i) (hk : m + n ≤ k := by decide) : Sz k (p * i) := by
  rw [← mul_eq]
  exact sz_of (den_ne p) (.mul h.num g (Nat.le_refl _)) h.den k hk (by omega)
def sp2 (K : PySem.W.Frag) (g : Rat → Rat → Rat) : Sp := fun vs H Q _ => ∃ (a b : Addr) (p q : Rat), vs = [.ref a, .ref b] ∧ Fra K H a p ∧ Fra K H b q ∧ Sz 4000 p ∧ Sz 4000 q ∧ Ret H (g p q) Q
abbrev s_plus : Stmt := (top 8)
theorem sc_plus : L2.FnScope ["one", "two"] ["one", "two"] (L2.defScope s_plus) := ⟨rfl, rfl, rfl, by decide +kernel, rfl, by decide +kernel, by decide +kernel⟩
theorem ok_plus {f : Addr} {fd : FuncData} (F : Fun K "plus" "plus" s_plus f fd) (Z : Blt mg) (C_fraction : Can P w K mg base 2 "fraction" ["top", "bottom"] spFraction) : FnOk P w K mg base CX0 3 f fd ["one", "two"] (sp2 K fun p q => p + q) := by
  refine F.ok sc_plus (fun vs H Q E h => ?_) (fun cdv A outer s H vs Q E hr h => ?_)
  · obtain ⟨a, b, p, q, rfl, _⟩ := h
    rfl
  obtain ⟨a, b, p, q, rfl, ha, hb, sp, sq, k⟩ := h
  refine ⟨_, (QB.run (pss_one (ps_ret (pe_fn C_fraction hr (by decide) rfl (pa_cons (pe_op op_add (pe_op op_mulB (pe_ix ix_tup (pv 0) pe_int (fun _ _ => rfl)) (pe_ix ix_tup (pv 1) pe_int (fun _ _ => rfl))) (pe_op op_mulB (pe_ix ix_tup (pv 1) pe_int (fun _ _ => rfl)) (pe_ix ix_tup (pv 0) pe_int (fun _ _ => rfl)))) (pa_cons (pe_op op_mulB (pe_ix ix_tup (pv 0) pe_int (fun _ _ => rfl)) (pe_ix ix_tup (pv 1) pe_int (fun _ _ => rfl))) pa_nil)))))), ?_⟩
  refine ⟨_, rfl, _, _, _, _, rfl, rfl, ha, rfl, _, rfl, _, _, _, _, rfl, rfl, hb, rfl, _, _, rfl, rfl, .of sp.num sq.den, _, rfl, _, _, _, _, rfl, rfl, hb, rfl, _, rfl, _, _, _, _, rfl, rfl, ha, rfl, _, _, rfl, rfl, .of sq.num sp.den, _, _, rfl, rfl, _, rfl, _, _, _, _, rfl, rfl, ha, rfl, _, rfl, _, _, _, _, rfl, rfl, hb, rfl, _, _, rfl, rfl, .of sp.den sq.den, _, _, rfl, mul_ne p q, .mul sp.den sq.den, ?_⟩
  rw [add_eq]
  exact k
abbrev s_minus : Stmt := (top 9)
theorem sc_minus : L2.FnScope ["one", "two"] ["one", "two"] (L2.defScope s_minus) := ⟨rfl, rfl, rfl, by decide +kernel, rfl, by decide +kernel, by decide +kernel⟩
theorem ok_minus {f : Addr} {fd : FuncData} (F : Fun K "minus" "minus" s_minus f fd) (Z : Blt mg) (C_fraction : Can P w K mg base 2 "fraction" ["top", "bottom"] spFraction) : FnOk P w K mg base CX0 3 f fd ["one", "two"] (sp2 K fun p q => p - q) := by
  refine F.ok sc_minus (fun vs H Q E h => ?_) (fun cdv A outer s H vs Q E hr h => ?_)
  · obtain ⟨a, b, p, q, rfl, _⟩ := h
    rfl
  obtain ⟨a, b, p, q, rfl, ha, hb, sp, sq, k⟩ := h
  refine ⟨_, (QB.run (pss_one (ps_ret (pe_fn C_fraction hr (by decide) rfl (pa_cons (pe_op op_sub (pe_op op_mulB (pe_ix ix_tup (pv 0) pe_int (fun _ _ => rfl)) (pe_ix ix_tup (pv 1) pe_int (fun _ _ => rfl))) (pe_op op_mulB (pe_ix ix_tup (pv 1) pe_int (fun _ _ => rfl)) (pe_ix ix_tup (pv 0) pe_int (fun _ _ => rfl)))) (pa_cons (pe_op op_mulB (pe_ix ix_tup (pv 0) pe_int (fun _ _ => rfl)) (pe_ix ix_tup (pv 1) pe_int (fun _ _ => rfl))) pa_nil)))))), ?_⟩
  refine ⟨_, rfl, _, _, _, _, rfl, rfl, ha, rfl, _, rfl, _, _, _, _, rfl, rfl, hb, rfl, _, _, rfl, rfl, .of sp.num sq.den, _, rfl, _, _, _, _, rfl, rfl, hb, rfl, _, rfl, _, _, _, _, rfl, rfl, ha, rfl, _, _, rfl, rfl, .of sq.num sp.den, _, _, rfl, rfl, _, rfl, _, _, _, _, rfl, rfl, ha, rfl, _, rfl, _, _, _, _, rfl, rfl, hb, rfl, _, _, rfl, rfl, .of sp.den sq.den, _, _, rfl, mul_ne p q, .mul sp.den sq.den, ?_⟩
  rw [sub_eq]
  exact k
abbrev s_times : Stmt := (top 10)
theorem sc_times : L2.FnScope ["one", "many"] ["one", "many"] (L2.defScope s_times) := ⟨rfl, rfl, rfl, by decide +kernel, rfl, by decide +kernel, by decide +kernel⟩
def spTimes (K : PySem.W.Frag) : Sp := fun vs H Q _ => ∃ (a : Addr) (p : Rat) (m : Int), vs = [.ref a, .int m] ∧ Fra K H a p ∧ Sz 9000 p ∧ Bd 9000 m ∧ Ret H (p * m) Q
theorem ok_times {f : Addr} {fd : FuncData} (F : Fun K "times" "times" s_times f fd) (Z : Blt mg) (C_fraction : Can P w K mg base 2 "fraction" ["top", "bottom"] spFraction) : FnOk P w K mg base CX0 3 f fd ["one", "many"] (spTimes K) := by
  refine F.ok sc_times (fun vs H Q E h => ?_) (fun cdv A outer s H vs Q E hr h => ?_)
  · obtain ⟨a, p, m, rfl, _⟩ := h
    rfl
  obtain ⟨a, p, m, rfl, ha, sp, bm, k⟩ := h
  refine ⟨_, (QB.run (pss_one (ps_ret (pe_fn C_fraction hr (by decide) rfl (pa_cons (pe_op op_mulB (pe_ix ix_tup (pv 0) pe_int (fun _ _ => rfl)) (pv 1)) (pa_cons (pe_ix ix_tup (pv 0) pe_int (fun _ _ => rfl)) pa_nil)))))), ?_⟩
  refine ⟨_, rfl, _, _, _, _, rfl, rfl, ha, rfl, _, rfl, _, _, rfl, rfl, .of sp.num bm, _, rfl, _, _, _, _, rfl, rfl, ha, rfl, _, _, rfl, den_ne p, sp.den, ?_⟩
  rw [mul_eq]
  exact k
abbrev s_less : Stmt := (top 11)
theorem sc_less : L2.FnScope ["one", "two"] ["one", "two"] (L2.defScope s_less) := ⟨rfl, rfl, rfl, by decide +kernel, rfl, by decide +kernel, by decide +kernel⟩
def spLess (K : PySem.W.Frag) : Sp := fun vs H Q _ => ∃ (a b : Addr) (p q : Rat), vs = [.ref a, .ref b] ∧ Fra K H a p ∧ Fra K H b q ∧ Sz 9000 p ∧ Sz 9000 q ∧ Q (.bl (decide (p < q))) H
theorem less_eq (p q : Rat) : decide (p.num * q.den < q.num * p.den) = decide (p < q) := decide_eq_decide.mpr (Rat.lt_iff p q).symm
theorem ok_less {f : Addr} {fd : FuncData} (F : Fun K "less" "less" s_less f fd) (Z : Blt mg) : FnOk P w K mg base CX0 1 f fd ["one", "two"] (spLess K) := by
  refine F.ok sc_less (fun vs H Q E h => ?_) (fun cdv A outer s H vs Q E hr h => ?_)
  · obtain ⟨a, b, p, q, rfl, _⟩ := h
    rfl
  obtain ⟨a, b, p, q, rfl, ha, hb, sp, sq, k⟩ := h
  refine ⟨_, (QB.run (pss_one (ps_ret (pe_cmpR op_lt (pe_op op_mulB (pe_ix ix_tup (pv 0) pe_int (fun _ _ => rfl)) (pe_ix ix_tup (pv 1) pe_int (fun _ _ => rfl))) (pe_op op_mulB (pe_ix ix_tup (pv 1) pe_int (fun _ _ => rfl)) (pe_ix ix_tup (pv 0) pe_int (fun _ _ => rfl))) (nomark _))))), ?_⟩
  refine ⟨_, rfl, _, _, _, _, rfl, rfl, ha, rfl, _, rfl, _, _, _, _, rfl, rfl, hb, rfl, _, _, rfl, rfl, .of sp.num sq.den, _, rfl, _, _, _, _, rfl, rfl, hb, rfl, _, rfl, _, _, _, _, rfl, rfl, ha, rfl, _, _, rfl, rfl, .of sq.num sp.den, _, _, rfl, rfl, ?_⟩
  show Q (.bl (decide (p.num * q.den < q.num * p.den))) H
  rw [less_eq]
  exact k
theorem ints_of {K : PySem.W.Frag} {J : Hq} {H : Hp} : ∀ {ns : List Int} {vs : List V}, RepVs K J H (ns.map PV.int) vs → vs = ns.map V.int
  | [], _, h => h
  | n :: ns, _, ⟨v, us, e, h, k⟩ => by subst e; cases h; rw [ints_of k]; rfl
theorem two_of {K : PySem.W.Frag} {J : Hq} {H : Hp} {x y : PV} {vs : List V} (h : RepVs K J H [x, y] vs) : ∃ v u, vs = [v, u] ∧ RepV K J H x v ∧ RepV K J H y u := by
  obtain ⟨v, us, rfl, h1, u, us', rfl, h2, h3⟩ := h; cases h3; exact ⟨v, u, rfl, h1, h2⟩
theorem fra_of {K : PySem.W.Frag} {J : Hq} {H : Hp} {q : Rat} {v : V} (h : RepV K J H (fr q) v) : ∃ a, v = .ref a ∧ Fra K H a q := by
  obtain ⟨a, vs, rfl, h1, h2⟩ := h
  obtain ⟨x, y, rfl, r1, r2⟩ := two_of h2
  cases r1; cases r2
  exact ⟨a, rfl, h1⟩
theorem ret_of {K : PySem.W.Frag} {J : Hq} {H : Hp} {q : Rat} {Q2 : PV → Hq → Prop} {Q : VK} (r : Rep K J H) (k : Kn K J H Q2 Q) (h : Q2 (fr q) J) : Ret H q Q := fun a H' s e =>
  k (fr q) J (.ref a) H' ⟨a, _, rfl, SqT.of e, ⟨_, _, rfl, rfl, _, _, rfl, rfl, rfl⟩⟩ (r.same s) (.same s) h
def spDigR : Spr := fun xs J Q _ => ∃ (c : Int) (ss : List Int), xs = [.int c, .fl (ss.map .int)] ∧ (∀ s ∈ ss, 0 < s ∧ Bd 9000 s) ∧ ss.length ≤ 1000 ∧ ∀ ds, Dig ds ss → Q (.fl (ds.map .int)) J
theorem lift_digits (C : Can P w K mg base 1 "_law_digits" ["_law_cell_here", "_law_sizes"] (spDigits K)) : CanR P w K mg base 1 "_law_digits" ["_law_cell_here", "_law_sizes"] spDigR := C.lift fun xs J vs H Q2 E2 Q E rs r ⟨c, ss, ex, h0, h1, q⟩ kn => by
  subst ex
  obtain ⟨v, u, rfl, r1, ⟨a, ws, rfl, h2, h3⟩⟩ := two_of rs
  cases r1; cases ints_of h3
  refine ⟨c, a, ss, rfl, h2.sq, h0, h1, fun p H' ds hp s e D => kn (.fl (ds.map .int)) J (.ref p) H' ⟨p, _, rfl, .inl ⟨r.free hp, .inl e⟩, reps_ints ds⟩ (r.same s) (.same s) (q ds D)⟩
def spLowR : Spr := fun xs J Q _ => ∃ t b : Int, xs = [.int t, .int b] ∧ 0 < b ∧ Bd 9000 b ∧ Q (fr (Rat.divInt t b)) J
theorem lift_low (C : Can P w K mg base 1 "_law_low" ["_law_top", "_law_bottom"] spLow) : CanR P w K mg base 1 "_law_low" ["_law_top", "_law_bottom"] spLowR := C.lift fun xs J vs H Q2 E2 Q E rs r ⟨t, b, ex, h0, h1, q⟩ kn => by
  subst ex
  obtain ⟨v, u, rfl, r1, r2⟩ := two_of rs
  cases r1; cases r2
  exact ⟨t, b, rfl, h0, h1, ret_of r kn q⟩
def spLessR : Spr := fun xs J Q _ => ∃ p q : Rat, xs = [fr p, fr q] ∧ Sz 9000 p ∧ Sz 9000 q ∧ Q (.bl (decide (p < q))) J
theorem lift_less (C : Can P w K mg base 1 "less" ["one", "two"] (spLess K)) : CanR P w K mg base 1 "less" ["one", "two"] spLessR := C.lift fun xs J vs H Q2 E2 Q E rs r ⟨p, q, ex, h0, h1, z⟩ kn => by
  subst ex
  obtain ⟨v, u, rfl, r1, r2⟩ := two_of rs
  obtain ⟨a, rfl, f1⟩ := fra_of r1
  obtain ⟨b, rfl, f2⟩ := fra_of r2
  exact ⟨a, b, p, q, rfl, f1, f2, h0, h1, kn (.bl _) J _ H rfl r .refl z⟩
def sp2R (g : Rat → Rat → Rat) : Spr := fun xs J Q _ => ∃ p q : Rat, xs = [fr p, fr q] ∧ Sz 4000 p ∧ Sz 4000 q ∧ Q (fr (g p q)) J
theorem lift2 {x : Str} {ps : List Str} {k : Nat} {g : Rat → Rat → Rat} (C : Can P w K mg base k x ps (sp2 K g)) : CanR P w K mg base k x ps (sp2R g) := C.lift fun xs J vs H Q2 E2 Q E rs r ⟨p, q, ex, h0, h1, z⟩ kn => by
  subst ex
  obtain ⟨v, u, rfl, r1, r2⟩ := two_of rs
  obtain ⟨a, rfl, f1⟩ := fra_of r1
  obtain ⟨b, rfl, f2⟩ := fra_of r2
  exact ⟨a, b, p, q, rfl, f1, f2, h0, h1, ret_of r kn z⟩
theorem lift_plus (C : Can P w K mg base 3 "plus" ["one", "two"] (sp2 K fun p q => p + q)) : CanR P w K mg base 3 "plus" ["one", "two"] (sp2R fun p q => p + q) := lift2 C
theorem lift_minus (C : Can P w K mg base 3 "minus" ["one", "two"] (sp2 K fun p q => p - q)) : CanR P w K mg base 3 "minus" ["one", "two"] (sp2R fun p q => p - q) := lift2 C
def spTimesR : Spr := fun xs J Q _ => ∃ (p : Rat) (m : Int), xs = [fr p, .int m] ∧ Sz 9000 p ∧ Bd 9000 m ∧ Q (fr (p * m)) J
theorem lift_times (C : Can P w K mg base 3 "times" ["one", "many"] (spTimes K)) : CanR P w K mg base 3 "times" ["one", "many"] spTimesR := C.lift fun xs J vs H Q2 E2 Q E rs r ⟨p, m, ex, h0, h1, z⟩ kn => by
  subst ex
  obtain ⟨v, u, rfl, r1, r2⟩ := two_of rs
  obtain ⟨a, rfl, f1⟩ := fra_of r1
  cases r2
  exact ⟨a, p, m, rfl, f1, h0, h1, ret_of r kn z⟩
def Leg.V (l : Leg) : PV := .tup [fr l.m, fr l.p, .int l.v]
theorem tup_l (m p : Rat) (v : Int) : PV.tup [fr m, fr p, .int v] = (Leg.mk m p v).V := rfl
theorem ix_l0 (J : Hq) (l : Leg) : ixQ J l.V (.int 0) = some (fr l.m) := atI_0 _ _
theorem ix_l1 (J : Hq) (l : Leg) : ixQ J l.V (.int 1) = some (fr l.p) := atI_1 _ _ _
theorem ix_l2 (J : Hq) (l : Leg) : ixQ J l.V (.int 2) = some (.int l.v) := atI_2 _ _ _ _
theorem pur_l (l : Leg) : pur l.V = true := by simp [Leg.V, pur_tup, purs_cons, purs_nil, pur_fr, pur_int]
def spPlR : Spr := fun xs J Q _ => ∃ (l : Leg) (t : Rat), xs = [l.V, fr t] ∧ Sz 900 l.m ∧ Sz 900 l.p ∧ Sz 900 t ∧ Bd 64 l.v ∧ Q (fr (l.at t)) J
abbrev s_place_on : Stmt := (top 15)
theorem sc_place_on : L2.FnScope ["leg", "moment", "begun", "place", "pace"] ["leg", "moment"] (L2.defScope s_place_on) := ⟨rfl, rfl, rfl, by decide +kernel, rfl, by decide +kernel, by decide +kernel⟩
theorem okr_place_on {f : Addr} {fd : FuncData} (F : Fun K "place_on" "place_on" s_place_on f fd) (Z : BltR mg) (C_plus : CanR P w K mg base 3 "plus" ["one", "two"] (sp2R fun p q => p + q)) (C_minus : CanR P w K mg base 3 "minus" ["one", "two"] (sp2R fun p q => p - q)) (C_times : CanR P w K mg base 3 "times" ["one", "many"] spTimesR) :
    FnOk P w K mg base (Fly P w) 4 f fd ["leg", "moment"] (LSp K spPlR) := by
  refine okR F sc_place_on (fun xs J Q E h => ?_) (fun cdv A outer s H E G xs J Q E2 hr h B => ?_)
  · obtain ⟨l, t, rfl, _⟩ := h; rfl
  obtain ⟨l, t, rfl, sb, sp, sm, bv, q⟩ := h
  have s1 : Sz 1801 (t - l.m) := sm.sub sb
  have s2 : Sz 1900 ((t - l.m) * (l.v : Rat)) := s1.mul bv
  refine ⟨_, (rb_cons (rs_asg (rv 0) (rg_tup rfl (rgs_cons (rg_name (i := 2) sc_place_on.nd rfl (Or.inl rfl)) (rgs_cons (rg_name (i := 3) sc_place_on.nd rfl (Or.inl rfl)) (rgs_cons (rg_name (i := 4) sc_place_on.nd rfl (Or.inl rfl)) rgs_nil)))))
      (rb_one (rs_ret (re_fn C_plus B hr (by decide) rfl (ra_cons (rv 3) (ra_cons (re_fn C_times B hr (by decide) rfl (ra_cons (re_fn C_minus B hr (by decide) rfl (ra_cons (rv 1) (ra_cons (rv 2) ra_nil))) (ra_cons (rv 4) ra_nil))) ra_nil)))))), ?_⟩
  simp_all! only [Leg.V, sp2R, spTimesR]
  exact ⟨rfl, sm.mono (by decide), sb.mono (by decide), s1.mono (by decide), bv.mono (by decide), sp.mono (by decide), s2.mono (by decide), q⟩
abbrev s_at : Stmt := (top 34)
theorem sc_at : L2.FnScope ["_law_leg", "_law_moment", "_law_begun", "_law_place", "_law_way", "_law_under"] ["_law_leg", "_law_moment"] (L2.defScope s_at) := ⟨rfl, rfl, rfl, by decide +kernel, rfl, by decide +kernel, by decide +kernel⟩
theorem okr_at {f : Addr} {fd : FuncData} (F : Fun K "_law_at" "_law_at" s_at f fd) (Z : BltR mg) (C_low : CanR P w K mg base 1 "_law_low" ["_law_top", "_law_bottom"] spLowR) : FnOk P w K mg base (Fly P w) 2 f fd ["_law_leg", "_law_moment"] (LSp K spPlR) := by
  refine okR F sc_at (fun xs J Q E h => ?_) (fun cdv A outer s H E G xs J Q E2 hr h B => ?_)
  · obtain ⟨l, t, rfl, _⟩ := h; rfl
  obtain ⟨l, m, rfl, sb, sp, sm, bv, q⟩ := h
  refine ⟨_, (rb_cons (rs_set (i := 2) sc_at.nd rfl (Or.inl rfl) (re_ix iq_ix (rv 0) re_int (fun _ _ => rfl)))
      (rb_cons (rs_set (i := 3) sc_at.nd rfl (Or.inl rfl) (re_ix iq_ix (rv 0) re_int (fun _ _ => rfl)))
      (rb_cons (rs_set (i := 4) sc_at.nd rfl (Or.inl rfl) (re_op oq_mul (re_ix iq_ix (rv 0) re_int (fun _ _ => rfl)) (re_op oq_sub (re_op oq_mul (re_ix iq_ix (rv 1) re_int (fun _ _ => rfl)) (re_ix iq_ix (rv 2) re_int (fun _ _ => rfl))) (re_op oq_mul (re_ix iq_ix (rv 2) re_int (fun _ _ => rfl)) (re_ix iq_ix (rv 1) re_int (fun _ _ => rfl))))))
      (rb_cons (rs_set (i := 5) sc_at.nd rfl (Or.inl rfl) (re_op oq_mul (re_ix iq_ix (rv 1) re_int (fun _ _ => rfl)) (re_ix iq_ix (rv 2) re_int (fun _ _ => rfl))))
      (rb_one (rs_ret (re_fn C_low B hr (by decide) rfl (ra_cons (re_op oq_add (re_op oq_mul (re_ix iq_ix (rv 3) re_int (fun _ _ => rfl)) (rv 5)) (re_op oq_mul (rv 4) (re_ix iq_ix (rv 3) re_int (fun _ _ => rfl)))) (ra_cons (re_op oq_mul (re_ix iq_ix (rv 3) re_int (fun _ _ => rfl)) (rv 5)) ra_nil))))))))), ?_⟩
  simp_all! only [ix_l0, ix_l1, ix_l2, spLowR]
  have bn : Bd 1801 (m.num * l.m.den - l.m.num * m.den) := .sub (.mul sm.num sb.den (Nat.le_refl _)) (.mul sb.num sm.den (Nat.le_refl _))
  have bu : Bd 1800 ((m.den : Int) * l.m.den) := .mul sm.den sb.den
  have bw : Bd 1900 (l.v * (m.num * l.m.den - l.m.num * m.den)) := .mul bv bn
  refine ⟨.of sm.num sb.den, .of sb.num sm.den, .of bv bn, .of sm.den sb.den, .of sp.num bu, .of bw sp.den, .of sp.den bu, Int.mul_pos (den_gt _) (Int.mul_pos (den_gt _) (den_gt _)), .mul sp.den bu, ?_⟩
  rw [at_eq]
  exact q
def gv : Option Rat → PV
  | none => .non
  | some q => fr q
structure LAt (cL : Addr) (J : Hq) (p r : Addr) (rows : List Leg) (g : Option Rat) : Prop where
  o : J p = some (.ins cL [("rows", .ref r), ("gone", gv g)])
  l : J r = some (.lst (rows.map Leg.V))
theorem LAt.ne {cL : Addr} {J : Hq} {p r : Addr} {rows : List Leg} {g : Option Rat} (h : LAt cL J p r rows g) : r ≠ p := by
  intro e; subst e; have := h.o; rw [h.l] at this; cases this
structure LSz (n : Nat) (l : Leg) : Prop where
  m : Sz n l.m
  p : Sz n l.p
  v : Bd 64 l.v
theorem LSz.mono {n k : Nat} {l : Leg} (h : LSz n l) (e : n ≤ k) : LSz k l := ⟨h.m.mono e, h.p.mono e, h.v⟩
theorem lkR (a b : PV) : ([("rows", a), ("gone", b)] : List (Str × PV)).lookup ("rows" : Str) = some a := rfl
theorem lkLn {m : Str} (a b : PV) (h : (m == ("rows" : Str)) = false) (k : (m == ("gone" : Str)) = false) : ([("rows", a), ("gone", b)] : List (Str × PV)).lookup m = none := by rw [List.lookup_cons, h]; simp only; rw [List.lookup_cons, k]; rfl
theorem lkL1 (a b : PV) : ([("rows", a), ("gone", b)] : List (Str × PV)).lookup ("turn" : Str) = none := lkLn a b (by decide +kernel) (by decide +kernel)
theorem lkL3 (a b : PV) : ([("rows", a), ("gone", b)] : List (Str × PV)).lookup ("legs" : Str) = none := lkLn a b (by decide +kernel) (by decide +kernel)
theorem ne_rg : (("rows" : Str) = ("gone" : Str)) = False := eq_false (by decide +kernel)
theorem less_put {J : Hq} {l : Addr} {o : HQ} (h : J l = none) : Less J (put J l o) := fun a => by
  by_cases e : a = l
  · subst e; exact .inr h
  · rw [put_ne e]; exact .inl rfl
theorem pr_init (x z : PV) : putR ("gone" : Str) z (putR ("rows" : Str) x []) = ([("rows", x), ("gone", z)] : List (Str × PV)) := by simp only [putR, ne_rg, if_false]
abbrev s_Log___init__ : Stmt := (L2.inClass (top 23) 0)
theorem sc_Log___init__ : L2.FnScope ["self", "moment", "place", "pace"] ["self", "moment", "place", "pace"] (L2.defScope s_Log___init__) := ⟨rfl, rfl, rfl, by decide +kernel, rfl, by decide +kernel, by decide +kernel⟩
def spLInit (cL : Addr) : Spr := fun xs J Q _ => ∃ (p : Addr) (l : Leg), xs = [.ref p, fr l.m, fr l.p, .int l.v] ∧ J p = some (.ins cL []) ∧ ∀ r, J r = none → Q .non (put (put J r (.lst [l.V])) p (.ins cL [("rows", .ref r), ("gone", .non)]))
theorem ok_Log_init {cL f : Addr} {fd : FuncData} (F : Fun K "__init__" "Log.__init__" s_Log___init__ f fd) (KD_Log : KDef K mg "Log" cL) (NA_Log_rows : NoAttr K cL "rows") (NA_Log_gone : NoAttr K cL "gone") : FnOk P w K mg base (Fly P w) 1 f fd ["self", "moment", "place", "pace"] (LSp K (spLInit cL)) := by
  refine okR F sc_Log___init__ (fun xs J Q E h => ?_) (fun cdv A outer s H E G xs J Q E2 hr h B => ?_)
  · obtain ⟨p, l, rfl, _⟩ := h; rfl
  obtain ⟨p, l, rfl, hp, q⟩ := h
  refine ⟨_, (rb_cons (rs_fld KD_Log.cl NA_Log_rows (rv 0) (re_lst (ra_cons (re_tup (ra_cons (rv 1) (ra_cons (rv 2) (ra_cons (rv 3) ra_nil)))) ra_nil)))
      (rb_one (rs_fld KD_Log.cl NA_Log_gone (rv 0) re_non))), ?_⟩
  simp_all! only [tup_l]
  intro r hr'
  have ne : p ≠ r := by intro e; subst e; rw [hp] at hr'; cases hr'
  refine ⟨[], by rw [put_ne ne]; exact hp, by decide, by show (1 : Nat) < 1000; decide, ?_⟩
  rw [put_put, pr_init]
  exact q r hr'
abbrev s_Log_turn : Stmt := (L2.inClass (top 23) 1)
theorem sc_Log_turn : L2.FnScope ["self", "moment", "pace", "place"] ["self", "moment", "pace"] (L2.defScope s_Log_turn) := ⟨rfl, rfl, rfl, by decide +kernel, rfl, by decide +kernel, by decide +kernel⟩
def spLTurn (cL : Addr) : Spr := fun xs J Q _ => ∃ p r rows g t v, xs = [.ref p, fr t, .int v] ∧ LAt cL J p r rows g ∧ rows ≠ [] ∧ rows.length ≤ 900 ∧ Sz 900 t ∧ (∀ l ∈ rows, LSz 900 l) ∧ Q .non (put J r (.lst ((turned rows t v).map Leg.V)))
theorem ok_Log_turn {cL f : Addr} {fd : FuncData} (F : Fun K "turn" "Log.turn" s_Log_turn f fd) (Z : BltR mg) (KD_Log : KDef K mg "Log" cL) (NA_Log_rows : NoAttr K cL "rows") (C_place_on : CanR P w K mg base 4 "place_on" ["leg", "moment"] spPlR) : FnOk P w K mg base (Fly P w) 5 f fd ["self", "moment", "pace"] (LSp K (spLTurn cL)) := by
  refine okR F sc_Log_turn (fun xs J Q E h => ?_) (fun cdv A outer s H E G xs J Q E2 hr h B => ?_)
  · obtain ⟨p, r, rows, g, t, v, rfl, _⟩ := h; rfl
  obtain ⟨p, r, rows, g, t, v, rfl, b, hne, hl, st, sl, q⟩ := h
  obtain ⟨ls, l, rfl⟩ : ∃ ls l, rows = ls ++ [l] := ⟨rows.dropLast, rows.getLast hne, (List.dropLast_concat_getLast hne).symm⟩
  have bo := b.o
  have bl := b.l
  have npr := b.ne
  have sl' := sl l (by simp)
  have hla : atI ((ls ++ [l]).map Leg.V) (-1) = some l.V := by rw [List.map_append]; exact at_last _ _
  refine ⟨_, (rb_cons (rs_set (i := 3) sc_Log_turn.nd rfl (Or.inl rfl) (re_fn C_place_on B hr (by decide) rfl (ra_cons (re_ix iq_ix (re_fld KD_Log.cl NA_Log_rows (rv 0)) (re_un uq_neg re_int) (fun _ _ => rfl)) (ra_cons (rv 1) ra_nil))))
      (rb_join (rs_if (rt_cmp (oq_eq hr.units61) (re_ix iq_ix (re_ix iq_ix (re_fld KD_Log.cl NA_Log_rows (rv 0)) (re_un uq_neg re_int) (fun _ _ => rfl)) re_int (fun _ _ => rfl)) (rv 1) (L2.nomark _)) (rb_one (rs_expr (re_bm0 PySem.F.plainAttrs_list PySem.F.slot_list_pop PySem.F.type_list_pop mq_pop (re_fld KD_Log.cl NA_Log_rows (rv 0))))) rb_nil)
      (rb_cons (rs_if (rw_rt (rw_and (rt_tru (re_fld KD_Log.cl NA_Log_rows (rv 0))) (rw_and1 (rt_cmp (oq_eq hr.units61) (re_ix iq_ix (re_ix iq_ix (re_fld KD_Log.cl NA_Log_rows (rv 0)) (re_un uq_neg re_int) (fun _ _ => rfl)) re_int (fun _ _ => rfl)) (rv 2) (L2.nomark _))))) (rb_one rs_retN) rb_nil)
      (rb_one (rs_expr (re_bm PySem.F.plainAttrs_list PySem.F.slot_list_append PySem.F.type_list_append mq_append (re_fld KD_Log.cl NA_Log_rows (rv 0)) (ra_cons (re_tup (ra_cons (rv 1) (ra_cons (rv 3) (ra_cons (rv 2) ra_nil)))) ra_nil))))))), ?_⟩
  simp_all! only [bo, bl, lkR]
  refine ⟨_, hla, l, t, rfl, sl'.m, sl'.p, st, sl'.v, ?_⟩
  obtain ⟨M, hM⟩ : ∃ M : Sr → Hq → Prop, ∀ τ' J', M τ' J' ↔ τ' = [some (.ref p), some (fr t), some (.int v), some (fr (l.at t))] ∧ J' = put J r (.lst ((if l.m = t then ls else ls ++ [l]).map Leg.V)) := ⟨_, fun _ _ => Iff.rfl⟩
  refine ⟨M, ?_, ?_⟩
  · simp_all! only [bo, bl, lkR, hla, ix_l0]
    split
    · rename_i e
      refine ⟨l.V, by simp, (hM _ _).mpr ⟨rfl, ?_⟩⟩
      rw [if_pos e, List.map_append, List.map_cons, List.map_nil, List.dropLast_concat]
    · rename_i e
      exact (hM _ _).mpr ⟨rfl, by rw [if_neg e, put_id bl]⟩
  · intro τ' J' hm
    obtain ⟨rfl, rfl⟩ := (hM _ _).mp hm
    clear hm hM M
    have et : turned (ls ++ [l]) t v = if (if l.m = t then ls else ls ++ [l]).getLast?.map Leg.v = some v then (if l.m = t then ls else ls ++ [l]) else (if l.m = t then ls else ls ++ [l]) ++ [⟨t, l.at t, v⟩] := by
      unfold turned
      simp only [List.getLast?_concat, List.dropLast_concat]
    have hrl : (if l.m = t then ls else ls ++ [l]).length ≤ 900 := by
      split
      · rw [List.length_append] at hl; omega
      · exact hl
    rw [et] at q
    generalize (if l.m = t then ls else ls ++ [l]) = rest at q hrl ⊢
    simp_all! only [put_ne (Ne.symm npr), bo, lkR, put_put, tup_l]
    rcases List.eq_nil_or_concat rest with rfl | ⟨ks, k, rfl⟩
    · simp only [List.getLast?_nil, Option.map_none, reduceCtorEq, if_false, List.nil_append] at q
      simpa [line0, sizeLine] using q
    · rw [List.concat_eq_append] at *
      rw [List.getLast?_concat, Option.map_some] at q
      have hk : atI ((ks ++ [k]).map Leg.V) (-1) = some k.V := by rw [List.map_append]; exact at_last _ _
      simp_all! only [hk, ix_l2, List.length_map]
      rw [if_pos (by simp)]
      by_cases e : k.v = v
      · rw [if_pos e]; rw [if_pos (congrArg some e)] at q; exact q
      · rw [if_neg e]; rw [if_neg (fun z => e (Option.some.inj z))] at q
        refine ⟨small1000 (by omega), ?_⟩
        rw [List.map_append] at q
        exact q
abbrev s_Log_legs : Stmt := (L2.inClass (top 23) 3)
theorem sc_Log_legs : L2.FnScope ["self"] ["self"] (L2.defScope s_Log_legs) := ⟨rfl, rfl, rfl, by decide +kernel, rfl, by decide +kernel, by decide +kernel⟩
def spLLegs (cL : Addr) : Spr := fun xs J Q _ => ∃ p r rows g, xs = [.ref p] ∧ LAt cL J p r rows g ∧ (Q (.fl (rows.map Leg.V)) J ∨ ∀ l, J l = none → Q (.ref l) (put J l (.lst (rows.map Leg.V))))
theorem ok_Log_legs {cL f : Addr} {fd : FuncData} (F : Fun K "legs" "Log.legs" s_Log_legs f fd) (Z : BltR mg) (KD_Log : KDef K mg "Log" cL) (NA_Log_rows : NoAttr K cL "rows") : FnOk P w K mg base (Fly P w) 1 f fd ["self"] (LSp K (spLLegs cL)) := by
  refine okF F sc_Log_legs (fun xs J Q E h => ?_) (fun cdv A outer s H E G xs J Q E2 hr h B => ?_)
  · obtain ⟨p, r, rows, g, rfl, _⟩ := h; rfl
  obtain ⟨p, r, rows, g, rfl, b, q⟩ := h
  have bo := b.o
  have bl := b.l
  refine ⟨_, (rb_one (rs_ret (re_callTy cq_copyL rfl Z.list boot_list (ra_cons (re_fld KD_Log.cl NA_Log_rows (rv 0)) ra_nil)))), ?_⟩
  simp_all! only [bo, bl, lkR]
  intro l hl
  rcases q with q | q
  · exact Fg.frz (less_put hl) put_same hl q
  · exact Fg.same (q l hl)
abbrev s_whole : Stmt := (top 27)
theorem sc_whole : L2.FnScope ["_law_found"] ["_law_found"] (L2.defScope s_whole) := ⟨rfl, rfl, rfl, by decide +kernel, rfl, by decide +kernel, by decide +kernel⟩
def spWholeR : Spr := fun xs J Q _ => ∃ i : Int, xs = [.int i] ∧ Q (.bl true) J
theorem okr_whole {f : Addr} {fd : FuncData} (F : Fun K "_law_whole" "_law_whole" s_whole f fd) (Z : BltR mg) : FnOk P w K mg base (Fly P w) 1 f fd ["_law_found"] (LSp K spWholeR) := by
  refine okR F sc_whole (fun xs J Q E h => ?_) (fun cdv A outer s H E G xs J Q E2 hr h B => ?_)
  · obtain ⟨i, rfl, _⟩ := h; rfl
  obtain ⟨i, rfl, q⟩ := h
  refine ⟨_, (rb_one (rs_ret (re_and (re_callB cq_isi rfl Z.isinstance boot_isinstance (ra_cons (rv 0) (ra_cons (re_ty rfl Z.int boot_int) ra_nil))) (re_one (re_not (re_callB cq_isi rfl Z.isinstance boot_isinstance (ra_cons (rv 0) (ra_cons (re_ty rfl Z.bool boot_bool) ra_nil)))))))), ?_⟩
  simp_all! only []
  exact q
abbrev s_part : Stmt := (top 29)
theorem sc_part : L2.FnScope ["_law_found", "_law_due"] ["_law_found", "_law_due"] (L2.defScope s_part) := ⟨rfl, rfl, rfl, by decide +kernel, rfl, by decide +kernel, by decide +kernel⟩
def spPartR : Spr := fun xs J Q _ => ∃ a : Rat, xs = [fr a, fr a] ∧ Q (.bl true) J
theorem okr_part {f : Addr} {fd : FuncData} (F : Fun K "_law_part" "_law_part" s_part f fd) (Z : BltR mg) (C_whole : CanR P w K mg base 1 "_law_whole" ["_law_found"] spWholeR) : FnOk P w K mg base (Fly P w) 2 f fd ["_law_found", "_law_due"] (LSp K spPartR) := by
  refine okR F sc_part (fun xs J Q E h => ?_) (fun cdv A outer s H E G xs J Q E2 hr h B => ?_)
  · obtain ⟨a, rfl, _⟩ := h; rfl
  obtain ⟨a, rfl, q⟩ := h
  refine ⟨_, (rb_cons (rs_if (rw_rt (rw_or (rt_not (rt_val (re_callB cq_isi rfl Z.isinstance boot_isinstance (ra_cons (rv 0) (ra_cons (re_ty rfl Z.tuple boot_tuple) ra_nil))))) (rw_or1 (rt_cmp (oq_ne hr.units61) (re_callB cq_len rfl Z.len boot_len (ra_cons (rv 0) ra_nil)) re_int (L2.nomark _))))) (rb_one (rs_ret re_bl)) rb_nil)
      (rb_cons (rs_if (rw_rt (rw_or (rt_not (rt_val (re_fn C_whole B hr (by decide) rfl (ra_cons (re_ix iq_ix (rv 0) re_int (fun _ _ => rfl)) ra_nil)))) (rw_or1 (rt_not (rt_val (re_fn C_whole B hr (by decide) rfl (ra_cons (re_ix iq_ix (rv 0) re_int (fun _ _ => rfl)) ra_nil))))))) (rb_one (rs_ret re_bl)) rb_nil)
      (rb_one (rs_ret (re_cmp (oq_eq hr.units61) (rv 0) (rv 1) (L2.nomark _)))))), ?_⟩
  simp_all! only [spWholeR]
  exact q
abbrev s_later : Stmt := (top 33)
theorem sc_later : L2.FnScope ["_law_clock", "_law_number", "_law_bottom", "_law_mode", "_law_under", "_law_steps"] ["_law_clock", "_law_number", "_law_bottom", "_law_mode"] (L2.defScope s_later) := ⟨rfl, rfl, rfl, by decide +kernel, rfl, by decide +kernel, by decide +kernel⟩
def spLater : Spr := fun xs J Q _ => ∃ (c : Rat) (n b m : Int), xs = [fr c, .int n, .int b, .int m] ∧ 0 ≤ n ∧ 0 ≤ b ∧ 0 ≤ m ∧ m < 4 ∧ n < 2 ^ 60 ∧ Sz 900 c ∧ ∀ q, Later c q → Q (fr q) J
theorem okr_later {f : Addr} {fd : FuncData} (F : Fun K "_law_later" "_law_later" s_later f fd) (Z : BltR mg) (C_low : CanR P w K mg base 1 "_law_low" ["_law_top", "_law_bottom"] spLowR) : FnOk P w K mg base (Fly P w) 2 f fd ["_law_clock", "_law_number", "_law_bottom", "_law_mode"] (LSp K spLater) := by
  refine okR F sc_later (fun xs J Q E h => ?_) (fun cdv A outer s H E G xs J Q E2 hr h B => ?_)
  · obtain ⟨c, n, b, m, rfl, _⟩ := h; rfl
  obtain ⟨c, n, b, m, rfl, n0, b0, m0, m1, n2, sc, q⟩ := h
  refine ⟨_, (rb_cons (rs_if (rt_cmp (oq_eq hr.units61) (re_op oq_mod (rv 1) re_int) re_int (L2.nomark _)) (rb_one (rs_ret (rv 0))) rb_nil)
      (rb_cons (rs_set (i := 4) sc_later.nd rfl (Or.inl rfl) (re_op oq_add re_int (re_op oq_mod (rv 2) (re_ix iq_ix (re_fl (ra_cst [.int 4, .int 6, .int 60, .int 60] rfl [.int 4, .int 6, .int 60, .int 60] rfl)) (rv 3) (fun _ _ => rfl)))))
      (rb_cons (rs_set (i := 5) sc_later.nd rfl (Or.inl rfl) (re_op oq_add re_int (re_op oq_mod (re_op oq_fdiv (rv 1) re_int) (re_op oq_mul re_int (rv 4)))))
      (rb_join (rs_if (rt_cmp (oq_eq hr.units61) (rv 3) re_int (L2.nomark _)) (rb_one (rs_set (i := 5) sc_later.nd rfl (Or.inl rfl) (re_op oq_add re_int (re_op oq_mod (re_op oq_fdiv (rv 1) re_int) (re_op oq_mul re_int (rv 4)))))) rb_nil)
      (rb_one (rs_ret (re_fn C_low B hr (by decide) rfl (ra_cons (re_op oq_add (re_op oq_fdiv (re_op oq_mul (re_ix iq_ix (rv 0) re_int (fun _ _ => rfl)) (rv 4)) (re_ix iq_ix (rv 0) re_int (fun _ _ => rfl))) (rv 5)) (ra_cons (rv 4) ra_nil))))))))), ?_⟩
  simp_all! only []
  refine ⟨by decide, ?_⟩
  split
  · exact q c (.inl rfl)
  obtain ⟨x, hx, x0, x1⟩ : ∃ x : Int, atI [PV.int 4, PV.int 6, PV.int 60, PV.int 60] m = some (.int x) ∧ 1 ≤ x ∧ x ≤ 60 := by
    rcases (by omega : m = 0 ∨ m = 1 ∨ m = 2 ∨ m = 3) with e | e | e | e <;> subst e
    · exact ⟨4, atI_0 _ _, by decide, by decide⟩
    · exact ⟨6, atI_1 _ _ _, by decide, by decide⟩
    · exact ⟨60, atI_2 _ _ _ _, by decide, by decide⟩
    · exact ⟨60, atI_3 _ _ _ _ _, by decide, by decide⟩
  have u0 : 0 ≤ b % x := Int.emod_nonneg _ (by omega)
  have u1 : b % x < x := Int.emod_lt_of_pos _ (by omega)
  have bu : Bd 64 (1 + b % x) := .small (by omega) (by omega)
  have b8 : Bd 9000 8 := (Bd.small (x := 8) (by decide) (by decide)).mono (by decide)
  refine ⟨_, hx, x, rfl, by omega, ⟨by decide, b8⟩, .of (.small (x := 2) (by decide) (by decide)) bu, by omega, ?_⟩
  generalize hu : 1 + b % x = u at *
  have k0 : 0 ≤ n.fdiv 8 := by rw [Int.fdiv_eq_ediv_of_nonneg _ (by decide)]; exact Int.ediv_nonneg n0 (by decide)
  obtain ⟨M, hM⟩ : ∃ M : Sr → Hq → Prop, ∀ τ' J', M τ' J' ↔ ∃ s : Int, τ' = [some (fr c), some (.int n), some (.int b), some (.int m), some (.int u), some (.int s)] ∧ J' = J ∧ 1 ≤ s ∧ s ≤ 500 * u := ⟨_, fun _ _ => Iff.rfl⟩
  refine ⟨M, ?_, ?_⟩
  · simp_all! only []
    have h2 : 0 ≤ n.fdiv 8 % (2 * u) := Int.emod_nonneg _ (by omega)
    have h3 : n.fdiv 8 % (2 * u) < 2 * u := Int.emod_lt_of_pos _ (by omega)
    have h4 : 0 ≤ n.fdiv 8 % (500 * u) := Int.emod_nonneg _ (by omega)
    have h5 : n.fdiv 8 % (500 * u) < 500 * u := Int.emod_lt_of_pos _ (by omega)
    split
    · refine ⟨⟨by decide, b8⟩, .of (.small (x := 500) (by decide) (by decide)) bu, by omega, (hM _ _).mpr ⟨_, rfl, rfl, by omega, by omega⟩⟩
    · exact (hM _ _).mpr ⟨_, rfl, rfl, by omega, by omega⟩
  · intro τ' J' hm
    obtain ⟨s, rfl, rfl, s0, s1⟩ := (hM _ _).mp hm
    clear hm hM M
    simp_all! only [spLowR]
    refine ⟨.of sc.num bu, ⟨den_ne c, sc.den.mono (by decide)⟩, by omega, bu.mono (by decide), ?_⟩
    obtain ⟨u', rfl⟩ := Int.eq_ofNat_of_zero_le (show 0 ≤ u by omega)
    obtain ⟨s', rfl⟩ := Int.eq_ofNat_of_zero_le (show 0 ≤ s by omega)
    exact q _ (.inr ⟨u', s', by omega, by omega, by omega, by omega, rfl⟩)
abbrev s_turned : Stmt := (top 35)
theorem sc_turned : L2.FnScope ["_law_rows", "_law_moment", "_law_pace", "_law_out", "_law_last", "_law_here"] ["_law_rows", "_law_moment", "_law_pace"] (L2.defScope s_turned) := ⟨rfl, rfl, rfl, by decide +kernel, rfl, by decide +kernel, by decide +kernel⟩
def spTurnedL : Spr := fun xs J Q _ => ∃ (rows : List Leg) (t : Rat) (v : Int), xs = [.fl (rows.map Leg.V), fr t, .int v] ∧ rows ≠ [] ∧ rows.length ≤ 900 ∧ Sz 900 t ∧ (∀ l ∈ rows, LSz 900 l) ∧ Q (.fl ((turned rows t v).map Leg.V)) J
theorem okr_turned {f : Addr} {fd : FuncData} (F : Fun K "_law_turned" "_law_turned" s_turned f fd) (Z : BltR mg) (C_at : CanR P w K mg base 2 "_law_at" ["_law_leg", "_law_moment"] spPlR) : FnOk P w K mg base (Fly P w) 3 f fd ["_law_rows", "_law_moment", "_law_pace"] (LSp K spTurnedL) := by
  refine okF F sc_turned (fun xs J Q E h => ?_) (fun cdv A outer s H E G xs J Q E2 hr h B => ?_)
  · obtain ⟨rows, t, v, rfl, _⟩ := h; rfl
  obtain ⟨rows, t, v, rfl, hne, hl, st, sl, q⟩ := h
  obtain ⟨ls, l, rfl⟩ : ∃ ls l, rows = ls ++ [l] := ⟨rows.dropLast, rows.getLast hne, (List.dropLast_concat_getLast hne).symm⟩
  have sl' := sl l (by simp)
  have hla : atI ((ls ++ [l]).map Leg.V) (-1) = some l.V := by rw [List.map_append]; exact at_last _ _
  refine ⟨_, (rb_cons (rs_set (i := 3) sc_turned.nd rfl (Or.inl rfl) (re_callTy cq_copyL rfl Z.list boot_list (ra_cons (rv 0) ra_nil)))
      (rb_cons (rs_set (i := 4) sc_turned.nd rfl (Or.inl rfl) (re_ix iq_ix (rv 3) (re_un uq_neg re_int) (fun _ _ => rfl)))
      (rb_cons (rs_set (i := 5) sc_turned.nd rfl (Or.inl rfl) (re_fn C_at B hr (by decide) rfl (ra_cons (rv 4) (ra_cons (rv 1) ra_nil))))
      (rb_join (rs_if (rt_cmp (oq_eq hr.units61) (re_ix iq_ix (rv 4) re_int (fun _ _ => rfl)) (rv 1) (L2.nomark _)) (rb_one (rs_expr (re_bm0 PySem.F.plainAttrs_list PySem.F.slot_list_pop PySem.F.type_list_pop mq_pop (rv 3)))) rb_nil)
      (rb_join (rs_if (rw_rt (rw_or (rt_cmp (oq_eq hr.units61) (re_callB cq_len rfl Z.len boot_len (ra_cons (rv 3) ra_nil)) re_int (L2.nomark _)) (rw_or1 (rt_cmp (oq_ne hr.units61) (re_ix iq_ix (re_ix iq_ix (rv 3) (re_un uq_neg re_int) (fun _ _ => rfl)) re_int (fun _ _ => rfl)) (rv 2) (L2.nomark _))))) (rb_one (rs_expr (re_bm PySem.F.plainAttrs_list PySem.F.slot_list_append PySem.F.type_list_append mq_append (rv 3) (ra_cons (re_tup (ra_cons (rv 1) (ra_cons (rv 5) (ra_cons (rv 2) ra_nil)))) ra_nil)))) rb_nil)
      (rb_one (rs_ret (rv 3)))))))), ?_⟩
  simp_all! only []
  intro o ho
  simp_all! only [hla]
  refine ⟨l, t, rfl, sl'.m, sl'.p, st, sl'.v, ?_⟩
  obtain ⟨M, hM⟩ : ∃ M : Sr → Hq → Prop, ∀ τ' J', M τ' J' ↔ τ' = [some (.fl ((ls ++ [l]).map Leg.V)), some (fr t), some (.int v), some (.ref o), some l.V, some (fr (l.at t))] ∧ J' = put J o (.lst ((if l.m = t then ls else ls ++ [l]).map Leg.V)) := ⟨_, fun _ _ => Iff.rfl⟩
  refine ⟨M, ?_, ?_⟩
  · simp_all! only [ix_l0]
    split
    · rename_i e
      refine ⟨l.V, by simp, (hM _ _).mpr ⟨rfl, ?_⟩⟩
      rw [if_pos e, List.map_append, List.map_cons, List.map_nil, List.dropLast_concat, put_put]
    · rename_i e
      exact (hM _ _).mpr ⟨rfl, by rw [if_neg e]⟩
  intro τ' J' hm
  obtain ⟨rfl, rfl⟩ := (hM _ _).mp hm
  clear hm hM M
  have et : turned (ls ++ [l]) t v = if (if l.m = t then ls else ls ++ [l]).getLast?.map Leg.v = some v then (if l.m = t then ls else ls ++ [l]) else (if l.m = t then ls else ls ++ [l]) ++ [⟨t, l.at t, v⟩] := by
    unfold turned
    simp only [List.getLast?_concat, List.dropLast_concat]
  have hrl : (if l.m = t then ls else ls ++ [l]).length ≤ 900 := by
    split
    · rw [List.length_append] at hl; omega
    · exact hl
  rw [et] at q
  generalize (if l.m = t then ls else ls ++ [l]) = rest at q hrl ⊢
  obtain ⟨M, hM⟩ : ∃ M : Sr → Hq → Prop, ∀ τ' J', M τ' J' ↔ τ' = [some (.fl ((ls ++ [l]).map Leg.V)), some (fr t), some (.int v), some (.ref o), some l.V, some (fr (l.at t))] ∧ J' = put J o (.lst ((if rest.getLast?.map Leg.v = some v then rest else rest ++ [⟨t, l.at t, v⟩]).map Leg.V)) := ⟨_, fun _ _ => Iff.rfl⟩
  refine ⟨M, ?_, ?_⟩
  · simp_all! only [put_put, tup_l, List.length_map]
    rcases List.eq_nil_or_concat rest with rfl | ⟨ks, k, rfl⟩
    · rw [if_pos (by rfl)]
      exact ⟨small1000 (by decide), (hM _ _).mpr ⟨rfl, rfl⟩⟩
    · rw [List.concat_eq_append] at *
      have hk : atI ((ks ++ [k]).map Leg.V) (-1) = some k.V := by rw [List.map_append]; exact at_last _ _
      rw [if_neg (by simp; omega)]
      simp_all! only [hk, ix_l2]
      rw [List.getLast?_concat, Option.map_some] at hM
      by_cases e : k.v = v
      · rw [if_pos e]; exact (hM _ _).mpr ⟨rfl, by rw [if_pos (congrArg some e)]⟩
      · rw [if_neg e]; exact ⟨small1000 (by omega), (hM _ _).mpr ⟨rfl, by rw [if_neg (fun z => e (Option.some.inj z))]; simp only [List.map_append, List.map_cons, List.map_nil]⟩⟩
  intro τ' J' hm
  obtain ⟨rfl, rfl⟩ := (hM _ _).mp hm
  clear hm hM M
  simp_all! only []
  exact Fg.frz (less_put ho) put_same ho q
theorem sc0 (A : Nat) : Sc L60 A 0 := ⟨0, by rw [Rat.zero_mul]; rfl, Nat.zero_le _⟩
theorem paced {m h : Int} (m0 : 0 ≤ m) (m1 : m < 4) (h0 : 0 ≤ h) (h1 : h < 2001) : ∃ v : Int, atI [PV.int (h % 3 - 1), PV.int (h % 3 - 1), PV.int (h % 25 - 12), PV.int (h - 1000)] m = some (.int v) ∧ v.natAbs ≤ 1000 := by
  rcases (by omega : m = 0 ∨ m = 1 ∨ m = 2 ∨ m = 3) with e | e | e | e <;> subst e
  · exact ⟨_, atI_0 _ _, by omega⟩
  · exact ⟨_, atI_1 _ _ _, by omega⟩
  · exact ⟨_, atI_2 _ _ _ _, by omega⟩
  · exact ⟨_, atI_3 _ _ _ _ _, by omega⟩
theorem lsz_of {D k : Nat} {l : Leg} (h : LOk D k l) (hD : D ≤ 2 ^ 101) (h0 : 0 < D) (hk : k ≤ 1024) : LSz 240 l := ⟨(mm_sz h.m).mono (by decide), big_sz hD h0 hk h.p, .small (by have := h.v; omega) (by have := h.v; omega)⟩
theorem cross_le {p q : Rat} : (p.num * (q.den : Int) ≤ q.num * (p.den : Int)) = (p ≤ q) := propext (Rat.le_iff p q).symm
theorem cross_lt' {p q : Rat} : (p.num * (q.den : Int) < q.num * (p.den : Int)) = (p < q) := propext (Rat.lt_iff p q).symm
def held (rows : List Leg) (t : Rat) : Option Leg := (legAt rows t).or rows.head?
abbrev s_held : Stmt := (top 36)
theorem sc_held : L2.FnScope ["_law_rows", "_law_moment", "_law_best", "_law_leg"] ["_law_rows", "_law_moment"] (L2.defScope s_held) := ⟨rfl, rfl, rfl, by decide +kernel, rfl, by decide +kernel, by decide +kernel⟩
def spHeld : Spr := fun xs J Q _ => ∃ (rows : List Leg) (t : Rat), xs = [.fl (rows.map Leg.V), fr t] ∧ rows ≠ [] ∧ Sz 9000 t ∧ (∀ l ∈ rows, LSz 900 l) ∧ ∀ l, held rows t = some l → Q l.V J
theorem legAt_snoc (ls : List Leg) (l : Leg) (t : Rat) : legAt (ls ++ [l]) t = if l.m ≤ t then some l else legAt ls t := by
  unfold legAt
  rw [List.filter_append, List.filter_cons]
  by_cases c : l.m ≤ t
  · rw [if_pos c, if_pos (decide_eq_true c), List.filter_nil, List.getLast?_concat]
  · rw [if_neg c, if_neg (by simp [c]), List.filter_nil, List.append_nil]
theorem okr_held {f : Addr} {fd : FuncData} (F : Fun K "_law_held" "_law_held" s_held f fd) (Z : BltR mg) : FnOk P w K mg base (Fly P w) 1 f fd ["_law_rows", "_law_moment"] (LSp K spHeld) := by
  refine okR F sc_held (fun xs J Q E h => ?_) (fun cdv A outer s H E G xs J Q E2 hr h B => ?_)
  · obtain ⟨rows, t, rfl, _⟩ := h; rfl
  obtain ⟨rows, t, rfl, hne, st, sl, q⟩ := h
  obtain ⟨l0, ls, e0⟩ : ∃ l ls, rows = l :: ls := List.exists_cons_of_ne_nil hne
  have h0 : atI (rows.map Leg.V) 0 = some l0.V := by rw [e0]; exact atI_0 _ _
  refine ⟨_, (rb_cons (rs_set (i := 2) sc_held.nd rfl (Or.inl rfl) (re_ix iq_ix (rv 0) re_int (fun _ _ => rfl)))
      (rb_cons (rs_for cxF_own rfl (ri_list (rv 0)) (rg_name (i := 3) sc_held.nd rfl (Or.inl rfl)) (rb_one (rs_if (rt_cmp oq_le (re_op oq_mul (re_ix iq_ix (re_ix iq_ix (rv 3) re_int (fun _ _ => rfl)) re_int (fun _ _ => rfl)) (re_ix iq_ix (rv 1) re_int (fun _ _ => rfl))) (re_op oq_mul (re_ix iq_ix (rv 1) re_int (fun _ _ => rfl)) (re_ix iq_ix (re_ix iq_ix (rv 3) re_int (fun _ _ => rfl)) re_int (fun _ _ => rfl))) (L2.nomark _)) (rb_one (rs_set (i := 2) sc_held.nd rfl (Or.inl rfl) (rv 3))) rb_nil)))
      (rb_one (rs_ret (rv 2))))), ?_⟩
  simp_all! only [h0]
  obtain ⟨Inv, hInv⟩ : ∃ Inv : Nat → Sr → Hq → Prop, ∀ i τ J', Inv i τ J' ↔ ∃ (l : Leg) (u : Option PV), τ = [some (.fl (rows.map Leg.V)), some (fr t), some l.V, u] ∧ J' = J ∧ (legAt (rows.take i) t).or (some l0) = some l := ⟨_, fun _ _ _ => Iff.rfl⟩
  refine for_ls Inv ((hInv _ _ _).mpr ⟨l0, _, rfl, rfl, rfl⟩) (fun _ _ _ _ => trivial) ?_ ?_
  · intro i x τ J' hx hv
    obtain ⟨l, u, rfl, rfl, hl⟩ := (hInv _ _ _).mp hv
    rw [List.getElem?_map] at hx
    cases e : rows[i]? with
    | none => rw [e] at hx; cases hx
    | some y =>
      rw [e] at hx; cases hx
      have sy := (sl y (List.mem_of_getElem? e)).m
      have et : rows.take (i + 1) = rows.take i ++ [y] := by rw [List.take_add_one, e]; rfl
      simp_all! only [ix_l0, cross_le]
      refine ⟨.of sy.num st.den, .of st.num sy.den, ?_⟩
      split
      · rename_i c
        exact (hInv _ _ _).mpr ⟨y, _, rfl, rfl, by rw [et, legAt_snoc, if_pos c]; rfl⟩
      · rename_i c
        exact (hInv _ _ _).mpr ⟨l, _, rfl, rfl, by rw [et, legAt_snoc, if_neg c]; exact hl⟩
  · intro τ J' hv
    obtain ⟨l, u, rfl, rfl, hl⟩ := (hInv _ _ _).mp hv
    simp_all! only []
    rw [List.length_map, List.take_length] at hl
    exact q l (by unfold held; rw [e0]; rw [e0] at hl; exact hl)
structure Ris (rows : List Leg) (m : Rat) : Prop where
  s : rows.Pairwise fun a b => a.m < b.m
  l : ∀ l ∈ rows, l.m ≤ m
theorem Ris.one (l : Leg) : Ris [l] l.m := ⟨by simp, by simp⟩
theorem Ris.turn {rows : List Leg} {m t : Rat} {v : Int} (h : Ris rows m) (ne : rows ≠ []) (hm : m ≤ t) : Ris (turned rows t v) t := by
  obtain ⟨ls, l, rfl⟩ : ∃ ls l, rows = ls ++ [l] := ⟨rows.dropLast, rows.getLast ne, (List.dropLast_concat_getLast ne).symm⟩
  have s1 := List.pairwise_append.mp h.s
  have hb : ∀ x ∈ ls, x.m < l.m := fun x hx => s1.2.2 x hx l (by simp)
  have hl : l.m ≤ t := Rat.le_trans (h.l l (by simp)) hm
  have hlt : ∀ x ∈ ls, x.m < t := fun x hx => by have := hb x hx; grind
  rw [turned_snoc]
  split
  · split
    · exact ⟨s1.1, fun x hx => Rat.le_of_lt (hlt x hx)⟩
    · refine ⟨List.pairwise_append.mpr ⟨s1.1, by simp, fun x hx y hy => ?_⟩, fun x hx => ?_⟩
      · simp only [List.mem_cons, List.not_mem_nil, or_false] at hy; subst hy; exact hlt x hx
      · rcases List.mem_append.mp hx with hx | hx
        · exact Rat.le_of_lt (hlt x hx)
        · simp only [List.mem_cons, List.not_mem_nil, or_false] at hx; subst hx; exact Rat.le_refl
  · rename_i ne'
    have hlt' : ∀ x ∈ ls ++ [l], x.m < t := fun x hx => by
      rcases List.mem_append.mp hx with hx | hx
      · exact hlt x hx
      · simp only [List.mem_cons, List.not_mem_nil, or_false] at hx; subst hx; grind
    split
    · exact ⟨h.s, fun x hx => Rat.le_of_lt (hlt' x hx)⟩
    · refine ⟨List.pairwise_append.mpr ⟨h.s, by simp, fun x hx y hy => ?_⟩, fun x hx => ?_⟩
      · simp only [List.mem_cons, List.not_mem_nil, or_false] at hy; subst hy; exact hlt' x hx
      · rcases List.mem_append.mp hx with hx | hx
        · exact Rat.le_of_lt (hlt' x hx)
        · simp only [List.mem_cons, List.not_mem_nil, or_false] at hx; subst hx; exact Rat.le_refl
abbrev s_logged : Stmt := (top 37)
theorem sc_logged : L2.FnScope ["_law_log", "_law_rows", "_law_cells", "_law_mode", "_law_moment", "_law_cell_here", "_law_row", "_law_pace"] ["_law_log", "_law_rows", "_law_cells", "_law_mode", "_law_moment"] (L2.defScope s_logged) := ⟨rfl, rfl, rfl, by decide +kernel, rfl, by decide +kernel, by decide +kernel⟩
def spLogged (cL : Addr) : Spr := fun xs J Q _ => ∃ (p r : Addr) (rows : List Leg) (g : Option Rat) (cs : List Int) (md : Int) (m : Rat) (D k B : Nat), xs = [.ref p, .fl (rows.map Leg.V), .fl (cs.map .int), .int md, fr m] ∧ LAt cL J p r rows g ∧ Gd D k rows ∧ 0 < D ∧ D ≤ 2 ^ 101 ∧ k + cs.length ≤ 800 ∧ 0 ≤ md ∧ md < 4 ∧ Sc L60 (B * L60) m ∧ Ris rows m ∧ B + 501 * cs.length ≤ 2000000 ∧
  ∀ J' rows' m', LAt cL J' p r rows' g → (∀ a, a ≠ r → J' a = J a) → Gd D (k + cs.length) rows' → Sc L60 ((B + 501 * cs.length) * L60) m' → m ≤ m' → Ris rows' m' → Q (.tup [.fl (rows'.map Leg.V), fr m']) J'
theorem okr_logged {cL f : Addr} {fd : FuncData} (F : Fun K "_law_logged" "_law_logged" s_logged f fd) (Z : BltR mg) (C_digits : CanR P w K mg base 1 "_law_digits" ["_law_cell_here", "_law_sizes"] spDigR) (C_later : CanR P w K mg base 2 "_law_later" ["_law_clock", "_law_number", "_law_bottom", "_law_mode"] spLater) (C_turned : CanR P w K mg base 3 "_law_turned" ["_law_rows", "_law_moment", "_law_pace"] spTurnedL)
    (m_Log_turn : MthR P w K mg base cL 5 "turn" ["self", "moment", "pace"] (spLTurn cL)) : FnOk P w K mg base (Fly P w) 6 f fd ["_law_log", "_law_rows", "_law_cells", "_law_mode", "_law_moment"] (LSp K (spLogged cL)) := by
  refine okR F sc_logged (fun xs J Q E h => ?_) (fun cdv A outer s H E G xs J Q E2 hr h B => ?_)
  · obtain ⟨p, r, rows, g, cs, md, m, D, k, B', rfl, _⟩ := h; rfl
  obtain ⟨p, r, rows, g, cs, md, m, D, k, B', rfl, b, gd, D0, D1, hk, md0, md1, S, hR, hB, q⟩ := h
  refine ⟨_, (rb_cons (rs_for cxF_own rfl (ri_list (rv 2)) (rg_name (i := 5) sc_logged.nd rfl (Or.inl rfl)) (rb_cons (rs_set (i := 6) sc_logged.nd rfl (Or.inl rfl) (re_fn C_digits B hr (by decide) rfl (ra_cons (rv 5) (ra_cons (re_fl (ra_cons re_int (ra_cons re_int (ra_cons re_int ra_nil)))) ra_nil))))
      (rb_cons (rs_set (i := 4) sc_logged.nd rfl (Or.inl rfl) (re_fn C_later B hr (by decide) rfl (ra_cons (rv 4) (ra_cons (re_ix iq_ix (rv 6) re_int (fun _ _ => rfl)) (ra_cons (re_ix iq_ix (rv 6) re_int (fun _ _ => rfl)) (ra_cons (rv 3) ra_nil))))))
      (rb_cons (rs_set (i := 7) sc_logged.nd rfl (Or.inl rfl) (re_ix iq_ix (re_fl (ra_cons (re_op oq_sub (re_op oq_mod (re_ix iq_ix (rv 6) re_int (fun _ _ => rfl)) re_int) re_int) (ra_cons (re_op oq_sub (re_op oq_mod (re_ix iq_ix (rv 6) re_int (fun _ _ => rfl)) re_int) re_int) (ra_cons (re_op oq_sub (re_op oq_mod (re_ix iq_ix (rv 6) re_int (fun _ _ => rfl)) re_int) re_int) (ra_cons (re_op oq_sub (re_ix iq_ix (rv 6) re_int (fun _ _ => rfl)) re_int) ra_nil))))) (rv 3) (fun _ _ => rfl)))
      (rb_cons (rs_if (rt_cmp oq_isNot (re_meth (pl := _) m_Log_turn B hr (by decide) (rv 0) (ra_cons (rv 4) (ra_cons (rv 7) ra_nil))) re_non (L2.nomark _)) (rb_one (rs_ret re_non)) rb_nil)
      (rb_one (rs_set (i := 1) sc_logged.nd rfl (Or.inl rfl) (re_fn C_turned B hr (by decide) rfl (ra_cons (rv 1) (ra_cons (rv 4) (ra_cons (rv 7) ra_nil)))))))))))
      (rb_one (rs_ret (re_tup (ra_cons (rv 1) (ra_cons (rv 4) ra_nil)))))), ?_⟩
  simp_all! only []
  obtain ⟨Inv, hInv⟩ : ∃ Inv : Nat → Sr → Hq → Prop, ∀ i τ J', Inv i τ J' ↔ ∃ (rows' : List Leg) (m' : Rat) (u1 u2 u3 : Option PV), τ = [some (.ref p), some (.fl (rows'.map Leg.V)), some (.fl (cs.map .int)), some (.int md), some (fr m'), u1, u2, u3] ∧ LAt cL J' p r rows' g ∧ (∀ a, a ≠ r → J' a = J a) ∧ Gd D (k + i) rows' ∧ Sc L60 ((B' + 501 * i) * L60) m' ∧ m ≤ m' ∧ Ris rows' m' := ⟨_, fun _ _ _ => Iff.rfl⟩
  refine for_ls Inv ((hInv _ _ _).mpr ⟨rows, m, _, _, _, rfl, b, fun _ _ => rfl, gd, S, Rat.le_refl, hR⟩) (fun _ _ _ _ => trivial) ?_ ?_
  · intro i x τ J' hx hv
    obtain ⟨rows', m', u1, u2, u3, rfl, b, fr', gd, S, hle, hR'⟩ := (hInv _ _ _).mp hv
    rw [List.getElem?_map] at hx
    have hi : i < cs.length := by
      rcases Nat.lt_or_ge i cs.length with e | e
      · exact e
      · rw [List.getElem?_eq_none e] at hx; cases hx
    obtain ⟨c, hc⟩ : ∃ c, cs[i]? = some c := ⟨_, List.getElem?_eq_getElem hi⟩
    rw [hc] at hx; cases hx
    simp_all! only []
    refine ⟨c, [400000, 60, 2001], rfl, sizes_ok (by decide), by decide, fun ds hD => ?_⟩
    obtain ⟨e0, ds, rfl, e00, e01, hD⟩ := hD.cons
    obtain ⟨e1, ds, rfl, e10, e11, hD⟩ := hD.cons
    obtain ⟨e2, ds, rfl, e20, e21, hD⟩ := hD.cons
    cases hD.nil
    simp_all! only []
    have SM : Sc L60 MM m' := S.mono (by unfold MM; exact Nat.mul_le_mul_right _ (by omega))
    refine ⟨m', e0, e1, md, rfl, e00, e10, md0, md1, by omega, (mm_sz SM).mono (by decide), fun m2 hm2 => ?_⟩
    obtain ⟨v, hv, bv⟩ := paced md0 md1 e20 e21
    have S' : Sc L60 ((B' + 501 * (i + 1)) * L60) m2 := (hm2.sc S).mono (by rw [← Nat.add_mul]; exact Nat.mul_le_mul_right _ (by omega))
    have SM' : Sc L60 MM m2 := S'.mono (by unfold MM; exact Nat.mul_le_mul_right _ (by omega))
    have g' := gd.turn SM' bv
    have sl : ∀ l ∈ rows', LSz 900 l := fun l hl' => (lsz_of (gd.ok l hl') D1 D0 (by omega)).mono (by decide)
    have gl := gd.len
    have gl' := g'.len
    simp_all! only [hv, b.o]
    refine ⟨by decide, by decide, by decide, lkL1 _ _, p, r, rows', g, m2, v, rfl, b, gd.ne, by omega, (mm_sz SM').mono (by decide), sl, ?_⟩
    have b1 : LAt cL (put J' r (.lst ((turned rows' m2 v).map Leg.V))) p r (turned rows' m2 v) g := ⟨by rw [put_ne (Ne.symm b.ne)]; exact b.o, put_same⟩
    have fr2 : ∀ a, a ≠ r → (put J' r (.lst ((turned rows' m2 v).map Leg.V))) a = J a := fun a ha => by rw [put_ne ha]; exact fr' a ha
    generalize put J' r (.lst ((turned rows' m2 v).map Leg.V)) = J2 at b1 fr2 ⊢
    simp_all! only []
    refine ⟨rows', m2, v, rfl, gd.ne, by omega, (mm_sz SM').mono (by decide), sl, ?_⟩
    exact (hInv _ _ _).mpr ⟨_, m2, _, _, _, rfl, b1, fr2, g', S', Rat.le_trans hle hm2.le, hR'.turn gd.ne hm2.le⟩
  · intro τ J' hv
    obtain ⟨rows', m', u1, u2, u3, rfl, b, fr', gd, S, hle, hR'⟩ := (hInv _ _ _).mp hv
    simp_all! only []
    rw [List.length_map] at gd S
    exact q J' rows' m' b fr' gd S hle hR'
def cellF (ns : List Int) (k : Int) : Int := if k < (ns.length : Int) then ns.getD k.toNat 0 else 5 + 17 * k
def spCellF : Spr := fun xs J Q _ => ∃ (ns : List Int) (k : Int), xs = [.fl (ns.map .int), .int k] ∧ 0 ≤ k ∧ k < 1000 ∧ Q (.int (cellF ns k)) J
theorem okr_cell {f : Addr} {fd : FuncData} (F : Fun K "_law_cell" "_law_cell" s_cell f fd) (Z : BltR mg) : FnOk P w K mg base (Fly P w) 1 f fd ["_law_script", "_law_k"] (LSp K spCellF) := by
  refine okR F sc_cell (fun xs J Q E h => ?_) (fun cdv A outer s H E G xs J Q E2 hr h B => ?_)
  · obtain ⟨ns, k, rfl, _⟩ := h; rfl
  obtain ⟨ns, k, rfl, h0, h1, q⟩ := h
  unfold cellF at q
  refine ⟨_, (rb_cons (rs_if (rt_cmp oq_lt (rv 1) (re_callB cq_len rfl Z.len boot_len (ra_cons (rv 0) ra_nil)) (L2.nomark _)) (rb_one (rs_ret (re_ix iq_ix (rv 0) (rv 1) (fun _ _ => rfl)))) rb_nil)
      (rb_one (rs_ret (re_op oq_add re_int (re_op oq_mul re_int (rv 1)))))), ?_⟩
  simp_all! only [List.length_map]
  split
  · rename_i c
    rw [if_pos c] at q
    obtain ⟨j, rfl⟩ := Int.eq_ofNat_of_zero_le h0
    have hj : j < ns.length := by omega
    refine ⟨.int ns[j], atI_nat (by rw [List.getElem?_map, List.getElem?_eq_getElem hj]; rfl), ?_⟩
    simpa [List.getD, hj] using q
  · rename_i c
    rw [if_neg c] at q
    exact ⟨.of (.small (x := 17) (by decide) (by decide)) (.small (x := k) (by omega) (by omega)), q⟩
theorem fr_int (n : Int) : PV.tup [.int n, .int 1] = fr (n : Rat) := rfl
theorem cross_eq' (p q : Rat) : p.num * (q.den : Int) = q.num * (p.den : Int) ↔ p = q := by
  have a := cast_eq p
  have b := cast_eq q
  have c := den_cast p
  have d := den_cast q
  constructor
  · intro h
    have h' : ((p.num * (q.den : Int) : Int) : Rat) = ((q.num * (p.den : Int) : Int) : Rat) := by rw [h]
    rw [Rat.intCast_mul, Rat.intCast_mul, a, b] at h'
    grind
  · intro h; rw [h]
def aboveB (l : Leg) (t : Rat) (post : Int) : Bool := if l.at t = (post : Rat) then decide (0 ≤ l.v) else decide ((post : Rat) < l.at t)
theorem eq_whole (q : Rat) (n : Int) : (q.num = n * (q.den : Int)) = (q = (n : Rat)) := by
  have h : (q.num = n * (q.den : Int)) = (q.num * (((n : Rat).den : Nat) : Int) = (n : Rat).num * (q.den : Int)) := by
    show _ = (q.num * 1 = n * (q.den : Int)); rw [Int.mul_one]
  rw [h]
  exact propext ⟨fun e => (cross_eq' q n).mp e, fun e => (cross_eq' q n).mpr e⟩
theorem lt_whole (q : Rat) (n : Int) : (n * (q.den : Int) < q.num) = ((n : Rat) < q) := by
  have h : (n * (q.den : Int) < q.num) = ((n : Rat).num * (q.den : Int) < q.num * (((n : Rat).den : Nat) : Int)) := by
    show _ = (n * (q.den : Int) < q.num * 1); rw [Int.mul_one]
  rw [h]
  exact propext (Rat.lt_iff _ _).symm
theorem sz_whole {n : Int} (h : Bd 250 n) : Sz 250 (n : Rat) := ⟨h, (Bd.small (x := ((n : Rat).den : Int)) (show -(2 ^ 64) < (1 : Int) by decide) (show (1 : Int) < 2 ^ 64 by decide)).mono (by decide)⟩
abbrev s_above : Stmt := (top 18)
theorem sc_above : L2.FnScope ["leg", "moment", "post", "place"] ["leg", "moment", "post"] (L2.defScope s_above) := ⟨rfl, rfl, rfl, by decide +kernel, rfl, by decide +kernel, by decide +kernel⟩
def spAbove : Spr := fun xs J Q _ => ∃ (l : Leg) (t : Rat) (post : Int), xs = [l.V, fr t, .int post] ∧ Sz 900 l.m ∧ Sz 900 l.p ∧ Sz 900 t ∧ Bd 64 l.v ∧ Bd 250 post ∧ Q (.bl (aboveB l t post)) J
theorem at_sz {l : Leg} {t : Rat} (sb : Sz 900 l.m) (sp : Sz 900 l.p) (sm : Sz 900 t) (bv : Bd 64 l.v) : Sz 3000 (l.at t) := by
  have s1 : Sz 1801 (t - l.m) := sm.sub sb
  have s2 : Sz 1900 ((t - l.m) * (l.v : Rat)) := s1.mul bv
  exact sp.add s2
theorem okr_above {f : Addr} {fd : FuncData} (F : Fun K "above" "above" s_above f fd) (Z : BltR mg) (C_place_on : CanR P w K mg base 4 "place_on" ["leg", "moment"] spPlR) (C_less : CanR P w K mg base 1 "less" ["one", "two"] spLessR) : FnOk P w K mg base (Fly P w) 5 f fd ["leg", "moment", "post"] (LSp K spAbove) := by
  refine okR F sc_above (fun xs J Q E h => ?_) (fun cdv A outer s H E G xs J Q E2 hr h B => ?_)
  · obtain ⟨l, t, post, rfl, _⟩ := h; rfl
  obtain ⟨l, t, post, rfl, sb, sp, sm, bv, bp, q⟩ := h
  refine ⟨_, (rb_cons (rs_set (i := 3) sc_above.nd rfl (Or.inl rfl) (re_fn C_place_on B hr (by decide) rfl (ra_cons (rv 0) (ra_cons (rv 1) ra_nil))))
      (rb_cons (rs_if (rt_cmp (oq_eq hr.units61) (rv 3) (re_tup (ra_cons (rv 2) (ra_cons re_int ra_nil))) (L2.nomark _)) (rb_one (rs_ret (re_cmp oq_ge (re_ix iq_ix (rv 0) re_int (fun _ _ => rfl)) re_int (L2.nomark _)))) rb_nil)
      (rb_one (rs_ret (re_fn C_less B hr (by decide) rfl (ra_cons (re_tup (ra_cons (rv 2) (ra_cons re_int ra_nil))) (ra_cons (rv 3) ra_nil))))))), ?_⟩
  unfold aboveB at q
  simp! only []
  refine ⟨l, t, rfl, sb, sp, sm, bv, ?_⟩
  simp! only [fr_int, ix_l2, spLessR]
  split
  · rename_i e; rw [if_pos e] at q; exact q
  · rename_i e; rw [if_neg e] at q
    simp! only [fr_int, spLessR]
    exact ⟨(sz_whole bp).mono (by decide), (at_sz sb sp sm bv).mono (by decide), q⟩
def Nought (K : PySem.W.Frag) (mg : Str → Option Value) : Prop := ∃ a : Addr, mg "NOUGHT" = some (.ref a) ∧ ∀ H : Hp, SqT K H a [.int 0, .int 1]
theorem nought_mk {K : PySem.W.Frag} {h : Heap} {mg : Str → Option Value} (X : K.In h) (G : h.Ns mainGlobals mg) {a : Addr} {od : Option Addr} {n : Nat} {sl : Array (Option Value)} {t u : Tok}
    (e : PySem.W.nsIn K mainGlobals "NOUGHT" = some (some (.ref a))) (l : K.lookup a = some ⟨.type "tuple", od, .seq #[.int 0 t, .int 1 u] n, sl⟩) : Nought K mg :=
  ⟨a, PySem.W.mg_of X G e, fun _ => .inr ⟨_, _, _, l, rfl, rfl, (by show 2 ≤ sizeLine; decide), .cons ⟨t, rfl⟩ (.cons ⟨u, rfl⟩ .nil)⟩⟩
def spFracR : Spr := fun xs J Q _ => ∃ t b : Int, xs = [.int t, .int b] ∧ b ≠ 0 ∧ Bd 9000 b ∧ Q (fr (Rat.divInt t b)) J
theorem lift_fraction (C : Can P w K mg base 2 "fraction" ["top", "bottom"] spFraction) : CanR P w K mg base 2 "fraction" ["top", "bottom"] spFracR := C.lift fun xs J vs H Q2 E2 Q E rs r ⟨t, b, ex, h0, h1, q⟩ kn => by
  subst ex
  obtain ⟨v, u, rfl, r1, r2⟩ := two_of rs
  cases r1; cases r2
  exact ⟨t, b, rfl, h0, h1, ret_of r kn q⟩
structure GLeg (l : Leg) : Prop where
  m : Sz 240 l.m
  p : Sz 240 l.p
  v0 : -1000 ≤ l.v
  v1 : l.v ≤ 1000
theorem GLeg.bv {l : Leg} (h : GLeg l) : Bd 64 l.v := .small (by have := h.v0; omega) (by have := h.v1; omega)
theorem GLeg.at {l : Leg} (h : GLeg l) {t : Rat} (st : Sz 240 t) : Sz 790 (l.at t) := by
  have s1 : Sz 481 (t - l.m) := st.sub h.m
  have s2 : Sz 545 ((t - l.m) * (l.v : Rat)) := s1.mul h.bv
  exact h.p.add s2
def hitQ (l : Leg) (post : Int) : Rat := l.m + ((post : Rat) - l.p) / (l.v : Rat)
theorem meet_hit (l : Leg) (post : Int) (h : l.v ≠ 0) : Rat.divInt (((post : Rat) - l.at 0).num) ((((post : Rat) - l.at 0).den : Int) * l.v) = hitQ l post := by
  rw [quo_eq _ _ h]
  unfold hitQ Leg.at
  have k : (l.v : Rat) ≠ 0 := int_cast_ne h
  generalize (l.v : Rat) = x at k ⊢
  grind
theorem int_small {n : Int} (h : Bd 250 n) : Sz 250 (n : Rat) := sz_whole h
theorem hit_sz {l : Leg} (h : GLeg l) {post : Int} (bp : Bd 250 post) (hv : l.v ≠ 0) : Sz 880 (hitQ l post) := by
  rw [← meet_hit l post hv]
  have z1 : Sz 10 (0 : Rat) := ⟨⟨by decide⟩, ⟨by decide⟩⟩
  have s1 : Sz 251 (0 - l.m) := z1.sub h.m
  have s2 : Sz 315 ((0 - l.m) * (l.v : Rat)) := s1.mul h.bv
  have s3 : Sz 556 (l.at 0) := h.p.add s2
  have s4 : Sz 810 ((post : Rat) - l.at 0) := (int_small bp).sub s3
  exact Sz.div (n := 880) (s4.num.mono (by decide)) (.mul s4.den h.bv) (Int.mul_ne_zero (den_ne _) hv)
abbrev s_meeting : Stmt := (top 16)
theorem sc_meeting : L2.FnScope ["one", "other", "gain", "gap"] ["one", "other"] (L2.defScope s_meeting) := ⟨rfl, rfl, rfl, by decide +kernel, rfl, by decide +kernel, by decide +kernel⟩
def postLeg (post : Int) : Leg := ⟨0, (post : Rat), 0⟩
def spMeetP : Spr := fun xs J Q _ => ∃ (l : Leg) (post : Int), xs = [l.V, (postLeg post).V] ∧ GLeg l ∧ Bd 250 post ∧ ∀ re, (l.v = 0 ∧ re = .non ∨ l.v ≠ 0 ∧ re = fr (hitQ l post)) → Q re J
theorem okr_meeting {f : Addr} {fd : FuncData} (F : Fun K "meeting" "meeting" s_meeting f fd) (Z : BltR mg) (N : Nought K mg) (C_place_on : CanR P w K mg base 4 "place_on" ["leg", "moment"] spPlR) (C_minus : CanR P w K mg base 3 "minus" ["one", "two"] (sp2R fun p q => p - q)) (C_fraction : CanR P w K mg base 2 "fraction" ["top", "bottom"] spFracR) :
    FnOk P w K mg base (Fly P w) 5 f fd ["one", "other"] (LSp K spMeetP) := by
  refine okR F sc_meeting (fun xs J Q E h => ?_) (fun cdv A outer s H E G xs J Q E2 hr h B => ?_)
  · obtain ⟨l, post, rfl, _⟩ := h; rfl
  obtain ⟨l, post, rfl, gl, bp, q⟩ := h
  obtain ⟨aN, gN, sN⟩ := N
  have rN : ∀ (J : Hq) (H : Hp), RepV K J H (fr 0) (.ref aN) := fun J H => ⟨aN, _, rfl, sN H, ⟨_, _, rfl, rfl, _, _, rfl, rfl, rfl⟩⟩
  refine ⟨_, (rb_cons (rs_set (i := 2) sc_meeting.nd rfl (Or.inl rfl) (re_op oq_sub (re_ix iq_ix (rv 0) re_int (fun _ _ => rfl)) (re_ix iq_ix (rv 1) re_int (fun _ _ => rfl))))
      (rb_cons (rs_if (rt_cmp (oq_eq hr.units61) (rv 2) re_int (L2.nomark _)) (rb_one (rs_ret re_non)) rb_nil)
      (rb_cons (rs_set (i := 3) sc_meeting.nd rfl (Or.inl rfl) (re_fn C_minus B hr (by decide) rfl (ra_cons (re_fn C_place_on B hr (by decide) rfl (ra_cons (rv 1) (ra_cons (re_glob (v := .ref aN) (fr 0) rfl gN rfl rN) ra_nil))) (ra_cons (re_fn C_place_on B hr (by decide) rfl (ra_cons (rv 0) (ra_cons (re_glob (v := .ref aN) (fr 0) rfl gN rfl rN) ra_nil))) ra_nil))))
      (rb_one (rs_ret (re_fn C_fraction B hr (by decide) rfl (ra_cons (re_ix iq_ix (rv 3) re_int (fun _ _ => rfl)) (ra_cons (re_op oq_mul (re_ix iq_ix (rv 3) re_int (fun _ _ => rfl)) (rv 2)) ra_nil)))))))), ?_⟩
  have z1 : Sz 10 (0 : Rat) := ⟨⟨by decide⟩, ⟨by decide⟩⟩
  have zp : Sz 250 (post : Rat) := int_small bp
  have e0 : (postLeg post).at 0 = (post : Rat) := by unfold Leg.at postLeg; grind
  have ev : (postLeg post).v = 0 := rfl
  have s1 : Sz 251 (0 - l.m) := z1.sub gl.m
  have s2 : Sz 315 ((0 - l.m) * (l.v : Rat)) := s1.mul gl.bv
  have s3 : Sz 556 (l.at 0) := gl.p.add s2
  have s4 : Sz 810 ((post : Rat) - l.at 0) := zp.sub s3
  simp! only [ix_l2, ev]
  split
  · rename_i e; exact q _ (.inl ⟨by omega, rfl⟩)
  rename_i e
  have hv : l.v ≠ 0 := by omega
  simp! only []
  refine ⟨postLeg post, 0, rfl, z1.mono (by decide), zp.mono (by decide), z1.mono (by decide), .small (show -(2 ^ 64) < (0 : Int) by decide) (show (0 : Int) < 2 ^ 64 by decide), ?_⟩
  refine ⟨l, 0, rfl, gl.m.mono (by decide), gl.p.mono (by decide), z1.mono (by decide), gl.bv, ?_⟩
  rw [e0]
  refine ⟨(post : Rat), l.at 0, rfl, zp.mono (by decide), s3.mono (by decide), ?_⟩
  simp! only []
  rw [Int.sub_zero]
  refine ⟨.of s4.den gl.bv, _, _, rfl, Int.mul_ne_zero (den_ne _) hv, .mul s4.den gl.bv, ?_⟩
  rw [meet_hit l post hv]
  exact q _ (.inr ⟨hv, rfl⟩)
abbrev s_came_from_above : Stmt := (top 19)
theorem sc_came_from_above : L2.FnScope ["leg", "moment", "post", "back"] ["leg", "moment", "post"] (L2.defScope s_came_from_above) := ⟨rfl, rfl, rfl, by decide +kernel, rfl, by decide +kernel, by decide +kernel⟩
structure ALeg (l : Leg) : Prop where
  m : Sz 240 l.m
  p : Sz 800 l.p
  v0 : -1000 ≤ l.v
  v1 : l.v ≤ 1000
theorem GLeg.a {l : Leg} (h : GLeg l) : ALeg l := ⟨h.m, h.p.mono (by decide), h.v0, h.v1⟩
theorem ALeg.bv {l : Leg} (h : ALeg l) : Bd 64 l.v := .small (by have := h.v0; omega) (by have := h.v1; omega)
def backB (l : Leg) (t : Rat) (post : Int) : Bool := if l.at t = (post : Rat) then decide (0 ≤ -l.v) else decide ((post : Rat) < l.at t)
def spCame : Spr := fun xs J Q _ => ∃ (l : Leg) (t : Rat) (post : Int), xs = [l.V, fr t, .int post] ∧ GLeg l ∧ Sz 240 t ∧ Bd 250 post ∧ Q (.bl (backB l t post)) J
theorem okr_came_from_above {f : Addr} {fd : FuncData} (F : Fun K "came_from_above" "came_from_above" s_came_from_above f fd) (Z : BltR mg) (C_place_on : CanR P w K mg base 4 "place_on" ["leg", "moment"] spPlR) (C_above : CanR P w K mg base 5 "above" ["leg", "moment", "post"] spAbove) : FnOk P w K mg base (Fly P w) 6 f fd ["leg", "moment", "post"] (LSp K spCame) := by
  refine okR F sc_came_from_above (fun xs J Q E h => ?_) (fun cdv A outer s H E G xs J Q E2 hr h B => ?_)
  · obtain ⟨l, t, post, rfl, _⟩ := h; rfl
  obtain ⟨l, t, post, rfl, gl, st, bp, q⟩ := h
  refine ⟨_, (rb_cons (rs_set (i := 3) sc_came_from_above.nd rfl (Or.inl rfl) (re_tup (ra_cons (rv 1) (ra_cons (re_fn C_place_on B hr (by decide) rfl (ra_cons (rv 0) (ra_cons (rv 1) ra_nil))) (ra_cons (re_un uq_neg (re_ix iq_ix (rv 0) re_int (fun _ _ => rfl))) ra_nil)))))
      (rb_one (rs_ret (re_fn C_above B hr (by decide) rfl (ra_cons (rv 3) (ra_cons (rv 1) (ra_cons (rv 2) ra_nil))))))), ?_⟩
  simp! only []
  refine ⟨l, t, rfl, gl.m.mono (by decide), gl.p.mono (by decide), st.mono (by decide), gl.bv, ?_⟩
  simp! only [ix_l2, tup_l]
  refine ⟨⟨t, l.at t, -l.v⟩, t, post, rfl, st.mono (by decide), (gl.at st).mono (by decide), st.mono (by decide), gl.bv.neg, bp, ?_⟩
  have e : aboveB ⟨t, l.at t, -l.v⟩ t post = backB l t post := by
    have ea : (Leg.mk t (l.at t) (-l.v)).at t = l.at t := by show l.at t + (t - t) * _ = _; grind
    unfold aboveB backB
    rw [ea]
  rw [e]; exact q
def updn (b : Bool) : Str := if b then "up" else "down"
structure Go where
  m : Rat
  u : Bool
  deriving DecidableEq
def Go.V (g : Go) : PV := .tup [fr g.m, .str (updn g.u)]
abbrev s_going : Stmt := (top 20)
theorem sc_going : L2.FnScope ["leg", "moment", "post"] ["leg", "moment", "post"] (L2.defScope s_going) := ⟨rfl, rfl, rfl, by decide +kernel, rfl, by decide +kernel, by decide +kernel⟩
def spGoing : Spr := fun xs J Q _ => ∃ (l : Leg) (t : Rat) (post : Int), xs = [l.V, fr t, .int post] ∧ Sz 900 l.m ∧ Sz 900 l.p ∧ Sz 900 t ∧ Bd 64 l.v ∧ Bd 250 post ∧ Q (Go.mk t (aboveB l t post)).V J
theorem okr_going {f : Addr} {fd : FuncData} (F : Fun K "going" "going" s_going f fd) (Z : BltR mg) (C_above : CanR P w K mg base 5 "above" ["leg", "moment", "post"] spAbove) : FnOk P w K mg base (Fly P w) 6 f fd ["leg", "moment", "post"] (LSp K spGoing) := by
  refine okR F sc_going (fun xs J Q E h => ?_) (fun cdv A outer s H E G xs J Q E2 hr h B => ?_)
  · obtain ⟨l, t, post, rfl, _⟩ := h; rfl
  obtain ⟨l, t, post, rfl, sm, sp, st, bv, bp, q⟩ := h
  refine ⟨_, (rb_one (rs_ret (re_tup (ra_cons (rv 1) (ra_cons (re_if (rt_val (re_fn C_above B hr (by decide) rfl (ra_cons (rv 0) (ra_cons (rv 1) (ra_cons (rv 2) ra_nil))))) re_str re_str) ra_nil))))), ?_⟩
  simp! only []
  refine ⟨l, t, post, rfl, sm, sp, st, bv, bp, ?_⟩
  cases e : aboveB l t post <;> rw [e] at q
  · simp! only []; exact q
  · simp! only []; exact q
def goings1 (l n : Leg) (post : Int) : List Go :=
  (if l.v ≠ 0 ∧ l.m < hitQ l post ∧ hitQ l post < n.m then [⟨hitQ l post, aboveB l (hitQ l post) post⟩] else []) ++
  (if l.m < n.m ∧ backB l n.m post ≠ aboveB n n.m post then [⟨n.m, aboveB n n.m post⟩] else [])
def followed (ls : List Leg) (last : Leg) (t : Rat) : List Leg := ls.tail ++ [⟨t, last.at t, last.v⟩]
def goingsQ (ls : List Leg) (last : Leg) (t : Rat) (post : Int) : List Go := (ls.zip (followed ls last t)).flatMap fun x => goings1 x.1 x.2 post
abbrev s_goings_by : Stmt := (top 21)
theorem sc_goings_by : L2.FnScope ["legs", "until", "post", "last", "following", "goings", "leg", "next_leg", "begins", "ends", "reached"] ["legs", "until", "post"] (L2.defScope s_goings_by) := ⟨rfl, rfl, rfl, by decide +kernel, rfl, by decide +kernel, by decide +kernel⟩
def spGoings : Spr := fun xs J Q _ => ∃ (ls : List Leg) (last : Leg) (t : Rat) (post : Int), xs = [.fl (ls.map Leg.V), fr t, .int post] ∧ ls.getLast? = some last ∧ (∀ l ∈ ls, GLeg l) ∧ Sz 240 t ∧ Bd 250 post ∧ ls.length ≤ 400 ∧ Q (.fl ((goingsQ ls last t post).map Go.V)) J
theorem g1_len (l n : Leg) (post : Int) : (goings1 l n post).length ≤ 2 := by unfold goings1; rw [List.length_append]; split <;> split <;> simp
theorem gs_len : ∀ (ps : List (Leg × Leg)) (post : Int), (ps.flatMap fun x => goings1 x.1 x.2 post).length ≤ 2 * ps.length
  | [], _ => by simp
  | p :: ps, post => by
    rw [List.flatMap_cons, List.length_append, List.length_cons]
    have := gs_len ps post
    have := g1_len p.1 p.2 post
    omega
theorem cutT (xs : List PV) : cutQ xs (some 1) none = xs.tail := by
  unfold cutQ HT.sIx
  cases xs with
  | nil => rfl
  | cons x xs => simp
theorem cutL1 (ls : List Leg) : cutQ (ls.map Leg.V) (some 1) none = ls.tail.map Leg.V := by rw [List.map_tail]; exact cutT _
theorem last_l {ls : List Leg} {l : Leg} (h : ls.getLast? = some l) : atI (ls.map Leg.V) (-1) = some l.V := at_neg1 (by rw [List.getLast?_map, h]; rfl)
theorem okr_goings_by {f : Addr} {fd : FuncData} (F : Fun K "goings_by" "goings_by" s_goings_by f fd) (Z : BltR mg) (N : Nought K mg) (C_place_on : CanR P w K mg base 4 "place_on" ["leg", "moment"] spPlR) (C_meeting : CanR P w K mg base 5 "meeting" ["one", "other"] spMeetP) (C_less : CanR P w K mg base 1 "less" ["one", "two"] spLessR) (C_going : CanR P w K mg base 6 "going" ["leg", "moment", "post"] spGoing)
    (C_came_from_above : CanR P w K mg base 6 "came_from_above" ["leg", "moment", "post"] spCame) (C_above : CanR P w K mg base 5 "above" ["leg", "moment", "post"] spAbove) : FnOk P w K mg base (Fly P w) 7 f fd ["legs", "until", "post"] (LSp K spGoings) := by
  refine okF F sc_goings_by (fun xs J Q E h => ?_) (fun cdv A outer s H E G xs J Q E2 hr h B => ?_)
  · obtain ⟨ls, last, t, post, rfl, _⟩ := h; rfl
  obtain ⟨ls, last, t, post, rfl, hlast, hls, st, bp, hlen, q⟩ := h
  obtain ⟨aN, gN, sN⟩ := N
  have rN : ∀ (J : Hq) (H : Hp), RepV K J H (fr 0) (.ref aN) := fun J H => ⟨aN, _, rfl, sN H, ⟨_, _, rfl, rfl, _, _, rfl, rfl, rfl⟩⟩
  refine ⟨_, (rb_cons (rs_set (i := 3) sc_goings_by.nd rfl (Or.inl rfl) (re_ix iq_ix (rv 0) (re_un uq_neg re_int) (fun _ _ => rfl)))
      (rb_cons (rs_set (i := 4) sc_goings_by.nd rfl (Or.inl rfl) (re_op oq_catF (re_slice sq_fl (rv 0) (ro_some re_int) ro_none) (re_fl (ra_cons (re_tup (ra_cons (rv 1) (ra_cons (re_fn C_place_on B hr (by decide) rfl (ra_cons (rv 3) (ra_cons (rv 1) ra_nil))) (ra_cons (re_ix iq_ix (rv 3) re_int (fun _ _ => rfl)) ra_nil)))) ra_nil))))
      (rb_cons (rs_set (i := 5) sc_goings_by.nd rfl (Or.inl rfl) (re_lst ra_nil))
      (rb_cons (rs_for cxF_own rfl (ri_zip rfl Z.zip (ra_cons (rv 0) (ra_cons (rv 4) ra_nil))) (rg_tup (n := 2) rfl (rgs_cons (rg_name (i := 6) sc_goings_by.nd rfl (Or.inl rfl)) (rgs_cons (rg_name (i := 7) sc_goings_by.nd rfl (Or.inl rfl)) rgs_nil))) (rb_cons (rs_par (i := 8) (j := 9) rfl sc_goings_by.nd rfl rfl (by decide) rfl rfl (ra_cons (re_ix iq_ix (rv 6) re_int (fun _ _ => rfl)) (ra_cons (re_ix iq_ix (rv 7) re_int (fun _ _ => rfl)) ra_nil)) rfl)
      (rb_cons (rs_set (i := 10) sc_goings_by.nd rfl (Or.inl rfl) (re_fn C_meeting B hr (by decide) rfl (ra_cons (rv 6) (ra_cons (re_tup (ra_cons (re_glob (v := .ref aN) (fr 0) rfl gN rfl rN) (ra_cons (re_tup (ra_cons (rv 2) (ra_cons re_int ra_nil))) (ra_cons re_int ra_nil)))) ra_nil))))
      (rb_join (rs_if (rw_rt (rw_and (rt_cmp oq_isNot (rv 10) re_non (L2.nomark _)) (rw_and (rt_val (re_fn C_less B hr (by decide) rfl (ra_cons (rv 8) (ra_cons (rv 10) ra_nil)))) (rw_and1 (rt_val (re_fn C_less B hr (by decide) rfl (ra_cons (rv 10) (ra_cons (rv 9) ra_nil)))))))) (rb_one (rs_expr (re_bm PySem.F.plainAttrs_list PySem.F.slot_list_append PySem.F.type_list_append mq_append (rv 5) (ra_cons (re_fn C_going B hr (by decide) rfl (ra_cons (rv 6) (ra_cons (rv 10) (ra_cons (rv 2) ra_nil)))) ra_nil)))) rb_nil)
      (rb_one (rs_if (rw_rt (rw_and (rt_val (re_fn C_less B hr (by decide) rfl (ra_cons (rv 8) (ra_cons (rv 9) ra_nil)))) (rw_and1 (rt_cmp (oq_ne hr.units61) (re_fn C_came_from_above B hr (by decide) rfl (ra_cons (rv 6) (ra_cons (rv 9) (ra_cons (rv 2) ra_nil)))) (re_fn C_above B hr (by decide) rfl (ra_cons (rv 7) (ra_cons (rv 9) (ra_cons (rv 2) ra_nil)))) (L2.nomark _))))) (rb_one (rs_expr (re_bm PySem.F.plainAttrs_list PySem.F.slot_list_append PySem.F.type_list_append mq_append (rv 5) (ra_cons (re_fn C_going B hr (by decide) rfl (ra_cons (rv 7) (ra_cons (rv 9) (ra_cons (rv 2) ra_nil)))) ra_nil)))) rb_nil))))))
      (rb_one (rs_ret (rv 5))))))), ?_⟩
  have gla := hls last (List.mem_of_getLast? hlast)
  simp! only [last_l hlast, cutL1, ix_l2]
  refine ⟨last, t, rfl, gla.m.mono (by decide), gla.p.mono (by decide), st.mono (by decide), gla.bv, ?_⟩
  have hfl : (followed ls last t).length = ls.length := by
    unfold followed
    have : ls ≠ [] := by intro e; subst e; cases hlast
    rw [List.length_append, List.length_tail]
    have := List.length_pos_iff.mpr this
    simp only [List.length_cons, List.length_nil]; omega
  have hfa : ∀ l ∈ followed ls last t, ALeg l := fun l hl => by
    unfold followed at hl
    rcases List.mem_append.mp hl with h | h
    · exact (hls l (List.mem_of_mem_tail h)).a
    · simp only [List.mem_cons, List.not_mem_nil, or_false] at h
      subst h
      exact ⟨st, (gla.at st).mono (by decide), gla.v0, gla.v1⟩
  have ef : ls.tail.map Leg.V ++ [PV.tup [fr t, fr (last.at t), .int last.v]] = (followed ls last t).map Leg.V := by unfold followed; rw [List.map_append]; rfl
  simp! only [ef]
  refine ⟨le_line (by rw [List.length_map, List.length_tail]; omega), ?_⟩
  simp! only []
  intro g hg
  simp! only [iZp]
  have ez : ((ls.map Leg.V).zip ((followed ls last t).map Leg.V)).map (fun p => PV.tup [p.1, p.2]) = (ls.zip (followed ls last t)).map fun p => PV.tup [p.1.V, p.2.V] := by rw [List.zip_map, List.map_map]; rfl
  rw [ez]
  generalize hps : ls.zip (followed ls last t) = ps
  have hpl : ps.length ≤ 400 := by rw [← hps, List.length_zip, hfl]; omega
  have hpm : ∀ x ∈ ps, GLeg x.1 ∧ ALeg x.2 := fun x hx => by
    rw [← hps] at hx
    have := List.of_mem_zip (a := x.1) (b := x.2) hx
    exact ⟨hls _ this.1, hfa _ this.2⟩
  unfold goingsQ at q
  rw [hps] at q
  obtain ⟨Inv, hInv⟩ : ∃ Inv : Nat → Sr → Hq → Prop, ∀ i τ J', Inv i τ J' ↔ ∃ (u1 u2 u3 u4 u5 : Option PV), τ = [some (.fl (ls.map Leg.V)), some (fr t), some (.int post), some last.V, some (.fl ((followed ls last t).map Leg.V)), some (.ref g), u1, u2, u3, u4, u5] ∧ J' = put J g (.lst (((ps.take i).flatMap fun x => goings1 x.1 x.2 post).map Go.V)) := ⟨_, fun _ _ _ => Iff.rfl⟩
  refine for_ls Inv ((hInv _ _ _).mpr ⟨_, _, _, _, _, rfl, rfl⟩) (fun _ _ _ _ => trivial) ?_ ?_
  · intro i x τ J' hx hv
    obtain ⟨u1, u2, u3, u4, u5, rfl, rfl⟩ := (hInv _ _ _).mp hv
    clear hv
    have hi : i < ps.length := by have := (List.getElem?_eq_some_iff.mp hx).1; simpa using this
    rw [List.getElem?_map, List.getElem?_eq_getElem hi] at hx
    cases hx
    obtain ⟨ga, gn⟩ := hpm _ (List.getElem_mem hi)
    have et : ((ps.take (i + 1)).flatMap fun x => goings1 x.1 x.2 post) = ((ps.take i).flatMap fun x => goings1 x.1 x.2 post) ++ goings1 (ps[i]).1 (ps[i]).2 post := by
      rw [List.take_add_one, List.getElem?_eq_getElem hi, List.flatMap_append]
      simp
    have ol := gs_len (ps.take i) post
    rw [List.length_take] at ol
    generalize ((ps.take i).flatMap fun x => goings1 x.1 x.2 post) = out at et ol ⊢
    rcases hpi : ps[i] with ⟨l, n⟩
    rw [hpi] at ga gn et
    dsimp only at ga gn et ⊢
    have nm := gn.m
    simp! only [ix_l0, fr_int]
    refine ⟨l, post, rfl, ga, bp, fun re hre => ?_⟩
    obtain ⟨M, hM⟩ : ∃ M : Sr → Hq → Prop, ∀ τ' J', M τ' J' ↔ τ' = [some (.fl (ls.map Leg.V)), some (fr t), some (.int post), some last.V, some (.fl ((followed ls last t).map Leg.V)), some (.ref g), some l.V, some n.V, some (fr l.m), some (fr n.m), some re] ∧ J' = put J g (.lst ((out ++ if l.v ≠ 0 ∧ l.m < hitQ l post ∧ hitQ l post < n.m then [Go.mk (hitQ l post) (aboveB l (hitQ l post) post)] else []).map Go.V)) := ⟨_, fun _ _ => Iff.rfl⟩
    simp! only []
    refine ⟨M, ?_, ?_⟩
    · rcases hre with ⟨v0, rfl⟩ | ⟨v0, rfl⟩
      · simp! only [is_n]
        exact (hM _ _).mpr ⟨rfl, by rw [if_neg (fun h => h.1 v0), List.append_nil]⟩
      · have hs := hit_sz ga bp v0
        simp! only [isN_fr, spLessR]
        refine ⟨ga.m.mono (by decide), hs.mono (by decide), ?_⟩
        split
        · rename_i c1
          refine ⟨hs.mono (by decide), nm.mono (by decide), ?_⟩
          split
          · rename_i c2
            refine ⟨l, _, post, rfl, ga.m.mono (by decide), ga.p.mono (by decide), hs.mono (by decide), ga.bv, bp, _, put_same, small1000 (by rw [List.length_map]; omega), (hM _ _).mpr ⟨rfl, ?_⟩⟩
            rw [if_pos ⟨v0, c1, c2⟩, put_put, List.map_append]; rfl
          · rename_i c2
            exact (hM _ _).mpr ⟨rfl, by rw [if_neg (fun h => c2 h.2.2), List.append_nil]⟩
        · rename_i c1
          exact (hM _ _).mpr ⟨rfl, by rw [if_neg (fun h => c1 h.2.1), List.append_nil]⟩
    intro τ' J' hm
    obtain ⟨rfl, rfl⟩ := (hM _ _).mp hm
    clear hm hM M hre
    have em : goings1 l n post = (if l.v ≠ 0 ∧ l.m < hitQ l post ∧ hitQ l post < n.m then [Go.mk (hitQ l post) (aboveB l (hitQ l post) post)] else []) ++ (if l.m < n.m ∧ backB l n.m post ≠ aboveB n n.m post then [⟨n.m, aboveB n n.m post⟩] else []) := rfl
    rw [em, ← List.append_assoc] at et
    generalize hout : out ++ (if l.v ≠ 0 ∧ l.m < hitQ l post ∧ hitQ l post < n.m then [Go.mk (hitQ l post) (aboveB l (hitQ l post) post)] else []) = out2 at et ⊢
    have ol2 : out2.length ≤ out.length + 1 := by rw [← hout, List.length_append]; split <;> simp
    simp! only [spLessR]
    refine ⟨ga.m.mono (by decide), nm.mono (by decide), ?_⟩
    split
    · rename_i c1
      simp! only []
      refine ⟨l, n.m, post, rfl, ga, nm, bp, ?_⟩
      simp! only []
      refine ⟨n, n.m, post, rfl, nm.mono (by decide), gn.p.mono (by decide), nm.mono (by decide), gn.bv, bp, ?_⟩
      simp! only []
      split
      · rename_i c2
        exact (hInv _ _ _).mpr ⟨_, _, _, _, _, rfl, by rw [et, if_neg (fun h => h.2 c2), List.append_nil]⟩
      · rename_i c2
        simp! only []
        refine ⟨n, n.m, post, rfl, nm.mono (by decide), gn.p.mono (by decide), nm.mono (by decide), gn.bv, bp, ?_⟩
        refine ⟨_, put_same, small1000 (by rw [List.length_map]; omega), (hInv _ _ _).mpr ⟨_, _, _, _, _, rfl, ?_⟩⟩
        rw [et, if_pos ⟨c1, c2⟩, put_put, List.map_append]; rfl
    · rename_i c1
      exact (hInv _ _ _).mpr ⟨_, _, _, _, _, rfl, by rw [et, if_neg (fun h => c1 h.1), List.append_nil]⟩
  · intro τ J' hv
    obtain ⟨u1, u2, u3, u4, u5, rfl, rfl⟩ := (hInv _ _ _).mp hv
    rw [List.length_map, List.take_length]
    simp! only []
    exact Fg.frz (less_put hg) put_same hg q
abbrev s_placed : Stmt := (top 31)
theorem sc_placed : L2.FnScope ["_law_number", "_law_mode"] ["_law_number", "_law_mode"] (L2.defScope s_placed) := ⟨rfl, rfl, rfl, by decide +kernel, rfl, by decide +kernel, by decide +kernel⟩
def spPlacedR : Spr := fun xs J Q _ => ∃ n m : Int, xs = [.int n, .int m] ∧ 0 ≤ n ∧ ∀ v : Int, v.natAbs ≤ 1000000 → Q (.int v) J
theorem okr_placed {f : Addr} {fd : FuncData} (F : Fun K "_law_placed" "_law_placed" s_placed f fd) (Z : BltR mg) : FnOk P w K mg base (Fly P w) 1 f fd ["_law_number", "_law_mode"] (LSp K spPlacedR) := by
  refine okR F sc_placed (fun xs J Q E h => ?_) (fun cdv A outer s H E G xs J Q E2 hr h B => ?_)
  · obtain ⟨n, m, rfl, _⟩ := h; rfl
  obtain ⟨n, m, rfl, n0, q⟩ := h
  refine ⟨_, (rb_cons (rs_if (rt_cmp oq_lt (rv 1) re_int (L2.nomark _)) (rb_one (rs_ret (re_op oq_sub (re_op oq_mod (rv 0) re_int) re_int))) rb_nil)
      (rb_cons (rs_if (rt_cmp (oq_eq hr.units61) (rv 1) re_int (L2.nomark _)) (rb_one (rs_ret (re_op oq_sub (re_op oq_mod (rv 0) re_int) re_int))) rb_nil)
      (rb_one (rs_ret (re_op oq_sub (re_op oq_mod (rv 0) re_int) re_int))))), ?_⟩
  simp! only []
  split
  · simp! only []; exact ⟨by decide, q _ (by omega)⟩
  simp! only []
  split
  · simp! only []; exact ⟨by decide, q _ (by omega)⟩
  · simp! only []; exact ⟨by decide, q _ (by omega)⟩
abbrev s_paced : Stmt := (top 32)
theorem sc_paced : L2.FnScope ["_law_number", "_law_mode"] ["_law_number", "_law_mode"] (L2.defScope s_paced) := ⟨rfl, rfl, rfl, by decide +kernel, rfl, by decide +kernel, by decide +kernel⟩
def spPacedR : Spr := fun xs J Q _ => ∃ n m : Int, xs = [.int n, .int m] ∧ 0 ≤ n ∧ n < 2001 ∧ ∀ v : Int, v.natAbs ≤ 1000 → Q (.int v) J
theorem okr_paced {f : Addr} {fd : FuncData} (F : Fun K "_law_paced" "_law_paced" s_paced f fd) (Z : BltR mg) : FnOk P w K mg base (Fly P w) 1 f fd ["_law_number", "_law_mode"] (LSp K spPacedR) := by
  refine okR F sc_paced (fun xs J Q E h => ?_) (fun cdv A outer s H E G xs J Q E2 hr h B => ?_)
  · obtain ⟨n, m, rfl, _⟩ := h; rfl
  obtain ⟨n, m, rfl, n0, n1, q⟩ := h
  refine ⟨_, (rb_cons (rs_if (rt_cmp oq_lt (rv 1) re_int (L2.nomark _)) (rb_one (rs_ret (re_op oq_sub (re_op oq_mod (rv 0) re_int) re_int))) rb_nil)
      (rb_cons (rs_if (rt_cmp (oq_eq hr.units61) (rv 1) re_int (L2.nomark _)) (rb_one (rs_ret (re_op oq_sub (re_op oq_mod (rv 0) re_int) re_int))) rb_nil)
      (rb_one (rs_ret (re_op oq_sub (re_op oq_mod (rv 0) re_int) re_int))))), ?_⟩
  simp! only []
  split
  · simp! only []; exact ⟨by decide, q _ (by omega)⟩
  simp! only []
  split
  · simp! only []; exact ⟨by decide, q _ (by omega)⟩
  · simp! only []; exact ⟨by decide, q _ (by omega)⟩
def hitL (l : Leg) (post : Int) : Rat := if l.v = 0 then l.m else hitQ l post
theorem hit_div (l : Leg) (post : Int) (w : Int) (hv : l.v ≠ 0) (hw : w = (if l.v < 0 then -((post * (l.p.den : Int) - l.p.num) * (l.m.den : Int)) else (post * (l.p.den : Int) - l.p.num) * (l.m.den : Int))) :
    Rat.divInt (l.m.num * (l.p.den : Int) * (if l.v < 0 then -l.v else l.v) + w) ((l.p.den : Int) * (l.m.den : Int) * (if l.v < 0 then -l.v else l.v)) = hitQ l post := by
  have a := cast_eq l.m
  have b := cast_eq l.p
  have c := den_cast l.m
  have d := den_cast l.p
  have k : (l.v : Rat) ≠ 0 := int_cast_ne hv
  unfold hitQ
  rw [Rat.divInt_eq_div, hw]
  by_cases h : l.v < 0
  · rw [if_pos h, if_pos h]
    simp only [Rat.intCast_mul, Rat.intCast_add, Rat.intCast_sub, Rat.intCast_neg, a, b]
    grind
  · rw [if_neg h, if_neg h]
    simp only [Rat.intCast_mul, Rat.intCast_add, Rat.intCast_sub, Rat.intCast_neg, a, b]
    grind
abbrev s_hit : Stmt := (top 39)
theorem sc_hit : L2.FnScope ["_law_leg", "_law_post", "_law_way", "_law_under", "_law_top"] ["_law_leg", "_law_post"] (L2.defScope s_hit) := ⟨rfl, rfl, rfl, by decide +kernel, rfl, by decide +kernel, by decide +kernel⟩
def spHit : Spr := fun xs J Q _ => ∃ (l : Leg) (post : Int), xs = [l.V, .int post] ∧ Sz 240 l.m ∧ Sz 800 l.p ∧ Bd 64 l.v ∧ Bd 250 post ∧ Q (fr (hitL l post)) J
theorem okr_hit {f : Addr} {fd : FuncData} (F : Fun K "_law_hit" "_law_hit" s_hit f fd) (Z : BltR mg) (C_low : CanR P w K mg base 1 "_law_low" ["_law_top", "_law_bottom"] spLowR) : FnOk P w K mg base (Fly P w) 2 f fd ["_law_leg", "_law_post"] (LSp K spHit) := by
  refine okR F sc_hit (fun xs J Q E h => ?_) (fun cdv A outer s H E G xs J Q E2 hr h B => ?_)
  · obtain ⟨l, post, rfl, _⟩ := h; rfl
  obtain ⟨l, post, rfl, sm, sp, bv, bp, q⟩ := h
  refine ⟨_, (rb_cons (rs_if (rt_cmp (oq_eq hr.units61) (re_ix iq_ix (rv 0) re_int (fun _ _ => rfl)) re_int (L2.nomark _)) (rb_one (rs_ret (re_ix iq_ix (rv 0) re_int (fun _ _ => rfl)))) rb_nil)
      (rb_cons (rs_set (i := 2) sc_hit.nd rfl (Or.inl rfl) (re_op oq_mul (re_op oq_sub (re_op oq_mul (rv 1) (re_ix iq_ix (re_ix iq_ix (rv 0) re_int (fun _ _ => rfl)) re_int (fun _ _ => rfl))) (re_ix iq_ix (re_ix iq_ix (rv 0) re_int (fun _ _ => rfl)) re_int (fun _ _ => rfl))) (re_ix iq_ix (re_ix iq_ix (rv 0) re_int (fun _ _ => rfl)) re_int (fun _ _ => rfl))))
      (rb_cons (rs_set (i := 3) sc_hit.nd rfl (Or.inl rfl) (re_op oq_mul (re_ix iq_ix (re_ix iq_ix (rv 0) re_int (fun _ _ => rfl)) re_int (fun _ _ => rfl)) (re_ix iq_ix (re_ix iq_ix (rv 0) re_int (fun _ _ => rfl)) re_int (fun _ _ => rfl))))
      (rb_cons (rs_set (i := 4) sc_hit.nd rfl (Or.inl rfl) (re_op oq_mul (re_op oq_mul (re_ix iq_ix (re_ix iq_ix (rv 0) re_int (fun _ _ => rfl)) re_int (fun _ _ => rfl)) (re_ix iq_ix (re_ix iq_ix (rv 0) re_int (fun _ _ => rfl)) re_int (fun _ _ => rfl))) (re_callB cq_abs rfl Z.abs boot_abs (ra_cons (re_ix iq_ix (rv 0) re_int (fun _ _ => rfl)) ra_nil))))
      (rb_join (rs_if (rt_cmp oq_lt (re_ix iq_ix (rv 0) re_int (fun _ _ => rfl)) re_int (L2.nomark _)) (rb_one (rs_set (i := 2) sc_hit.nd rfl (Or.inl rfl) (re_un uq_neg (rv 2)))) rb_nil)
      (rb_one (rs_ret (re_fn C_low B hr (by decide) rfl (ra_cons (re_op oq_add (rv 4) (rv 2)) (ra_cons (re_op oq_mul (rv 3) (re_callB cq_abs rfl Z.abs boot_abs (ra_cons (re_ix iq_ix (rv 0) re_int (fun _ _ => rfl)) ra_nil))) ra_nil)))))))))), ?_⟩
  unfold hitL at q
  simp! only [ix_l2]
  split
  · rename_i e
    rw [if_pos e] at q
    simp! only [ix_l0]; exact q
  rename_i hv
  rw [if_neg hv] at q
  have ba : Bd 64 (if l.v < 0 then -l.v else l.v) := by split; exact bv.neg; exact bv
  have b1 : Bd 1060 (post * (l.p.den : Int) - l.p.num) := (Bd.mul bp sp.den (k := 1050)).sub (k := 1060) sp.num
  simp_all! only [ix_l0, ix_l1, ix_l2]
  refine ⟨.of bp sp.den, .of b1 sm.den, .of sp.den sm.den, .of sm.num sp.den, .of (Bd.mul sm.num sp.den (k := 1040)) ba, ?_⟩
  obtain ⟨M, hM⟩ : ∃ M : Sr → Hq → Prop, ∀ τ' J', M τ' J' ↔ τ' = [some l.V, some (.int post), some (.int (if l.v < 0 then -((post * (l.p.den : Int) - l.p.num) * (l.m.den : Int)) else (post * (l.p.den : Int) - l.p.num) * (l.m.den : Int))), some (.int ((l.p.den : Int) * (l.m.den : Int))), some (.int (l.m.num * (l.p.den : Int) * (if l.v < 0 then -l.v else l.v)))] ∧ J' = J := ⟨_, fun _ _ => Iff.rfl⟩
  refine ⟨M, ?_, ?_⟩
  · simp! only [ix_l2]
    split
    · rename_i e
      simp! only []
      exact (hM _ _).mpr ⟨by simp only [if_pos e], rfl⟩
    · rename_i e
      exact (hM _ _).mpr ⟨by simp only [if_neg e], rfl⟩
  intro τ' J' hm
  obtain ⟨rfl, rfl⟩ := (hM _ _).mp hm
  clear hm hM M
  have hpos : 0 < (if l.v < 0 then -l.v else l.v) := by split <;> omega
  have hd : 0 < (l.p.den : Int) * (l.m.den : Int) := Int.mul_pos (by have := l.p.den_pos; omega) (by have := l.m.den_pos; omega)
  simp! only [ix_l2, spLowR]
  refine ⟨.of (Bd.mul sp.den sm.den (k := 1040)) ba, Int.mul_pos hd hpos, (Bd.mul (Bd.mul sp.den sm.den (k := 1040)) ba (k := 1104)).mono (by decide), ?_⟩
  rw [hit_div l post _ hv rfl]
  exact q
theorem ty_g (J : Hq) (g : Go) : tyN J g.V = some "tuple" := rfl
theorem len_g (J : Hq) (g : Go) : lenQ J g.V = some 2 := rfl
theorem ix_g0 (J : Hq) (g : Go) : ixQ J g.V (.int 0) = some (fr g.m) := atI_0 _ _
theorem ix_g1 (J : Hq) (g : Go) : ixQ J g.V (.int 1) = some (.str (updn g.u)) := atI_1 _ _ _
theorem pur_g (g : Go) : pur g.V = true := by simp [Go.V, pur_tup, purs_cons, purs_nil, pur_fr, pur_str]
theorem cm_g (g : Go) : cmQ g.V = True := eq_true ⟨pur_g g, by simp [Go.V, fr, pyOf, pyOfs, dep, deps]⟩
theorem updn_inj (a b : Bool) : (updn a = updn b) = (a = b) := by
  cases a <;> cases b <;> simp [updn] <;> decide +kernel
theorem eq_g (a b : Go) : eqQ a.V b.V = decide (a = b) := by
  unfold Go.V
  rw [eq_tup, eqs_cons, eqs_cons, eqs_nil, eq_fr, eq_str, Bool.and_true, ← Bool.decide_and]
  apply decide_eq_decide.mpr
  rw [updn_inj]
  cases a; cases b
  simp [Go.mk.injEq]
abbrev s_goingrows : Stmt := (top 30)
theorem sc_goingrows : L2.FnScope ["_law_found", "_law_due", "_law_k", "_law_row"] ["_law_found", "_law_due"] (L2.defScope s_goingrows) := ⟨rfl, rfl, rfl, by decide +kernel, rfl, by decide +kernel, by decide +kernel⟩
def spGRows : Spr := fun xs J Q _ => ∃ gs : List Go, xs = [.fl (gs.map Go.V), .fl (gs.map Go.V)] ∧ gs.length ≤ 1000 ∧ Q (.bl true) J
theorem okr_goingrows {f : Addr} {fd : FuncData} (F : Fun K "_law_goingrows" "_law_goingrows" s_goingrows f fd) (Z : BltR mg) (C_part : CanR P w K mg base 2 "_law_part" ["_law_found", "_law_due"] spPartR) : FnOk P w K mg base (Fly P w) 3 f fd ["_law_found", "_law_due"] (LSp K spGRows) := by
  refine okR F sc_goingrows (fun xs J Q E h => ?_) (fun cdv A outer s H E G xs J Q E2 hr h B => ?_)
  · obtain ⟨gs, rfl, _⟩ := h; rfl
  obtain ⟨gs, rfl, hl, q⟩ := h
  refine ⟨_, (rb_cons (rs_if (rw_rt (rw_or (rt_not (rt_val (re_callB cq_isi rfl Z.isinstance boot_isinstance (ra_cons (rv 0) (ra_cons (re_ty rfl Z.list boot_list) ra_nil))))) (rw_or1 (rt_cmp (oq_ne hr.units61) (re_callB cq_len rfl Z.len boot_len (ra_cons (rv 0) ra_nil)) (re_callB cq_len rfl Z.len boot_len (ra_cons (rv 1) ra_nil)) (L2.nomark _))))) (rb_one (rs_ret re_bl)) rb_nil)
      (rb_cons (rs_for cxF_own rfl (ri_range1 rfl Z.range (ra_cons (re_callB cq_len rfl Z.len boot_len (ra_cons (rv 1) ra_nil)) ra_nil)) (rg_name (i := 2) sc_goingrows.nd rfl (Or.inl rfl)) (rb_cons (rs_set (i := 3) sc_goingrows.nd rfl (Or.inl rfl) (re_ix iq_ix (rv 0) (rv 2) (fun _ _ => rfl)))
      (rb_cons (rs_if (rw_rt (rw_or (rt_not (rt_val (re_callB cq_isi rfl Z.isinstance boot_isinstance (ra_cons (rv 3) (ra_cons (re_ty rfl Z.tuple boot_tuple) ra_nil))))) (rw_or (rt_cmp (oq_ne hr.units61) (re_callB cq_len rfl Z.len boot_len (ra_cons (rv 3) ra_nil)) re_int (L2.nomark _)) (rw_or1 (rt_not (rt_val (re_callB cq_isi rfl Z.isinstance boot_isinstance (ra_cons (re_ix iq_ix (rv 3) re_int (fun _ _ => rfl)) (ra_cons (re_ty rfl Z.str boot_str) ra_nil))))))))) (rb_one (rs_ret re_bl)) rb_nil)
      (rb_one (rs_if (rw_rt (rw_or (rt_not (rt_val (re_fn C_part B hr (by decide) rfl (ra_cons (re_ix iq_ix (rv 3) re_int (fun _ _ => rfl)) (ra_cons (re_ix iq_ix (re_ix iq_ix (rv 1) (rv 2) (fun _ _ => rfl)) re_int (fun _ _ => rfl)) ra_nil))))) (rw_or1 (rt_cmp (oq_ne hr.units61) (rv 3) (re_ix iq_ix (rv 1) (rv 2) (fun _ _ => rfl)) (L2.nomark _))))) (rb_one (rs_ret re_bl)) rb_nil)))))
      (rb_one (rs_ret re_bl)))), ?_⟩
  simp_all! only [List.length_map]
  refine ⟨by omega, by omega, for_rng (fun i τ J' => ∃ u u' : Option PV, τ = [some (.fl (gs.map Go.V)), some (.fl (gs.map Go.V)), u, u'] ∧ J' = J) ⟨none, none, rfl, rfl⟩ ?_ ?_⟩
  · rintro i τ J' hi ⟨u, u', rfl, rfl⟩
    have hi : i < gs.length := by omega
    have ha : atI (gs.map Go.V) (0 + (i : Int)) = some (gs[i].V) := by rw [Int.zero_add]; exact atI_nat (by rw [List.getElem?_map, List.getElem?_eq_getElem hi]; rfl)
    simp_all! only [ha, spPartR, ty_g, len_g, ix_g0, ix_g1, cm_g, pur_g, eq_g]
    trivial
  · rintro τ J' ⟨u, u', rfl, rfl⟩
    simp_all! only []
    exact q
theorem at_diff {l : Leg} {t : Rat} {post : Int} (hv : l.v ≠ 0) : l.at t - (post : Rat) = (l.v : Rat) * (t - hitQ l post) := by
  have k : (l.v : Rat) ≠ 0 := int_cast_ne hv
  unfold Leg.at hitQ
  grind
theorem vpos {v : Int} (h : 0 < v) : (0 : Rat) < (v : Rat) := by exact_mod_cast h
theorem at_pos {l : Leg} {t : Rat} {post : Int} (hv : 0 < l.v) : (l.at t = (post : Rat) ↔ t = hitQ l post) ∧ ((post : Rat) < l.at t ↔ hitQ l post < t) := by
  have d := at_diff (l := l) (t := t) (post := post) (by omega)
  have k := vpos hv
  generalize (l.v : Rat) = x at d k
  generalize hitQ l post = y at d ⊢
  generalize l.at t = z at d ⊢
  constructor
  · constructor
    · intro e
      have e0 : x * (t - y) = 0 := by rw [← d, e]; grind
      rcases Rat.mul_eq_zero.mp e0 with e1 | e1 <;> grind
    · intro e
      have e0 : x * (t - y) = 0 := by rw [e]; grind
      grind
  · constructor
    · intro e
      have e0 : 0 < x * (t - y) := by rw [← d]; grind
      have := (Rat.mul_pos_iff_of_pos_left k).mp e0
      grind
    · intro e
      have e0 : 0 < x * (t - y) := Rat.mul_pos k (by grind)
      grind
theorem at_neg {l : Leg} {t : Rat} {post : Int} (hv : l.v < 0) : (l.at t = (post : Rat) ↔ t = hitQ l post) ∧ ((post : Rat) < l.at t ↔ t < hitQ l post) := by
  have d := at_diff (l := l) (t := t) (post := post) (by omega)
  have k : (0 : Rat) < -(l.v : Rat) := by have := vpos (v := -l.v) (by omega); rwa [Rat.intCast_neg] at this
  generalize (l.v : Rat) = x at d k
  generalize hitQ l post = y at d ⊢
  generalize l.at t = z at d ⊢
  have d' : z - (post : Rat) = (-x) * (y - t) := by grind
  generalize -x = x' at d' k
  constructor
  · constructor
    · intro e
      have e0 : x' * (y - t) = 0 := by rw [← d', e]; grind
      rcases Rat.mul_eq_zero.mp e0 with e1 | e1 <;> grind
    · intro e
      have e0 : x' * (y - t) = 0 := by rw [e]; grind
      grind
  · constructor
    · intro e
      have e0 : 0 < x' * (y - t) := by rw [← d']; grind
      have := (Rat.mul_pos_iff_of_pos_left k).mp e0
      grind
    · intro e
      have e0 : 0 < x' * (y - t) := Rat.mul_pos k (by grind)
      grind
theorem ab_pos {l : Leg} {t : Rat} {post : Int} (hv : 0 < l.v) : aboveB l t post = decide (hitQ l post ≤ t) ∧ backB l t post = decide (hitQ l post < t) := by
  obtain ⟨h1, h2⟩ := at_pos (t := t) (post := post) hv
  unfold aboveB backB
  by_cases e : l.at t = (post : Rat)
  · rw [if_pos e, if_pos e]
    have e' := h1.mp e
    exact ⟨decide_eq_decide.mpr ⟨fun _ => by grind, fun _ => by omega⟩, decide_eq_decide.mpr ⟨fun _ => by omega, fun _ => by grind⟩⟩
  · rw [if_neg e, if_neg e]
    have e' : t ≠ hitQ l post := fun z => e (h1.mpr z)
    exact ⟨decide_eq_decide.mpr ⟨fun z => by have := h2.mp z; grind, fun z => h2.mpr (by grind)⟩, decide_eq_decide.mpr h2⟩
theorem ab_neg {l : Leg} {t : Rat} {post : Int} (hv : l.v < 0) : aboveB l t post = decide (t < hitQ l post) ∧ backB l t post = decide (t ≤ hitQ l post) := by
  obtain ⟨h1, h2⟩ := at_neg (t := t) (post := post) hv
  unfold aboveB backB
  by_cases e : l.at t = (post : Rat)
  · rw [if_pos e, if_pos e]
    have e' := h1.mp e
    exact ⟨decide_eq_decide.mpr ⟨fun _ => by omega, fun _ => by grind⟩, decide_eq_decide.mpr ⟨fun _ => by grind, fun _ => by omega⟩⟩
  · rw [if_neg e, if_neg e]
    have e' : t ≠ hitQ l post := fun z => e (h1.mpr z)
    exact ⟨decide_eq_decide.mpr h2, decide_eq_decide.mpr ⟨fun z => by have := h2.mp z; grind, fun z => h2.mpr (by grind)⟩⟩
theorem ab_zero {l : Leg} {t s : Rat} {post : Int} (hv : l.v = 0) : aboveB l t post = aboveB l s post ∧ backB l t post = aboveB l s post := by
  have e : ∀ t, l.at t = l.p := fun t => by unfold Leg.at; rw [hv]; grind
  unfold aboveB backB
  rw [e, e, hv]
  exact ⟨rfl, rfl⟩
theorem side_iff {l : Leg} {t : Rat} {post : Int} : backB l t post ≠ aboveB l t post ↔ l.v ≠ 0 ∧ t = hitQ l post := by
  rcases Int.lt_trichotomy l.v 0 with hv | hv | hv
  · rw [(ab_neg hv).1, (ab_neg hv).2]
    constructor
    · intro h
      refine ⟨by omega, ?_⟩
      by_cases e : t = hitQ l post
      · exact e
      · exact absurd (decide_eq_decide.mpr ⟨fun z => by grind, fun z => by grind⟩) h
    · rintro ⟨_, e⟩ h
      have := decide_eq_decide.mp h
      grind
  · constructor
    · intro h; exact absurd (ab_zero (s := t) hv).2 h
    · rintro ⟨h, _⟩; exact absurd hv h
  · rw [(ab_pos hv).1, (ab_pos hv).2]
    constructor
    · intro h
      refine ⟨by omega, ?_⟩
      by_cases e : t = hitQ l post
      · exact e
      · exact absurd (decide_eq_decide.mpr ⟨fun z => by grind, fun z => by grind⟩) h
    · rintro ⟨_, e⟩ h
      have := decide_eq_decide.mp h
      grind
def nxt (l : Leg) (t : Rat) : Leg := ⟨t, l.at t, l.v⟩
theorem nxt_above (l : Leg) (t : Rat) (post : Int) : aboveB (nxt l t) t post = aboveB l t post := by
  have ea : (nxt l t).at t = l.at t := by show l.at t + (t - t) * _ = _; grind
  unfold aboveB; rw [ea]; rfl
def gq (t : Rat) (post : Int) : List Leg → List Go
  | [] => []
  | [l] => goings1 l (nxt l t) post
  | l :: l' :: ls => goings1 l l' post ++ gq t post (l' :: ls)
theorem goings_gq (t : Rat) (post : Int) (last : Leg) : ∀ ls : List Leg, ls.getLast? = some last → goingsQ ls last t post = gq t post ls
  | [], h => by cases h
  | [l], h => by cases h; simp [goingsQ, followed, gq, nxt]
  | l :: l' :: ls, h => by
    have ih := goings_gq t post last (l' :: ls) (by rw [List.getLast?_cons_cons] at h; exact h)
    unfold goingsQ followed at ih ⊢
    unfold gq
    rw [← ih]
    simp
def legBf (rows : List Leg) (t : Rat) : Option Leg := (rows.filter fun l => decide (l.m < t)).getLast?
theorem legAt_cons {l l' : Leg} {ls : List Leg} {t : Rat} (s : (l :: l' :: ls).Pairwise fun a b => a.m < b.m) : legAt (l :: l' :: ls) t = if l'.m ≤ t then legAt (l' :: ls) t else if l.m ≤ t then some l else none := by
  have h1 : l.m < l'.m := (List.pairwise_cons.mp s).1 l' (by simp)
  have h2 : ∀ x ∈ ls, l'.m < x.m := (List.pairwise_cons.mp (List.pairwise_cons.mp s).2).1
  unfold legAt
  by_cases c : l'.m ≤ t
  · rw [if_pos c, List.filter_cons, if_pos (by simp; grind), List.filter_cons, if_pos (by simpa using c), List.getLast?_cons_cons]
  · rw [if_neg c]
    have e : (l' :: ls).filter (fun l => decide (l.m ≤ t)) = [] := List.filter_eq_nil_iff.mpr fun x hx => by
      rcases List.mem_cons.mp hx with rfl | hx
      · simpa using c
      · have := h2 x hx; simp; grind
    rw [List.filter_cons, e]
    by_cases d : l.m ≤ t
    · rw [if_pos (by simpa using d), if_pos d]; rfl
    · rw [if_neg (by simpa using d), if_neg d]; rfl
theorem legBf_cons {l l' : Leg} {ls : List Leg} {t : Rat} (s : (l :: l' :: ls).Pairwise fun a b => a.m < b.m) : legBf (l :: l' :: ls) t = if l'.m < t then legBf (l' :: ls) t else if l.m < t then some l else none := by
  have h1 : l.m < l'.m := (List.pairwise_cons.mp s).1 l' (by simp)
  have h2 : ∀ x ∈ ls, l'.m < x.m := (List.pairwise_cons.mp (List.pairwise_cons.mp s).2).1
  unfold legBf
  by_cases c : l'.m < t
  · rw [if_pos c, List.filter_cons, if_pos (by simp; grind), List.filter_cons, if_pos (by simpa using c), List.getLast?_cons_cons]
  · rw [if_neg c]
    have e : (l' :: ls).filter (fun l => decide (l.m < t)) = [] := List.filter_eq_nil_iff.mpr fun x hx => by
      rcases List.mem_cons.mp hx with rfl | hx
      · simpa using c
      · have := h2 x hx; simp; grind
    rw [List.filter_cons, e]
    by_cases d : l.m < t
    · rw [if_pos (by simpa using d), if_pos d]; rfl
    · rw [if_neg (by simpa using d), if_neg d]; rfl
theorem legAt_one (l : Leg) (t : Rat) : legAt [l] t = if l.m ≤ t then some l else none := by
  unfold legAt
  rw [List.filter_cons]
  by_cases d : l.m ≤ t
  · rw [if_pos (by simpa using d), if_pos d]; rfl
  · rw [if_neg (by simpa using d), if_neg d]; rfl
theorem legBf_one (l : Leg) (t : Rat) : legBf [l] t = if l.m < t then some l else none := by
  unfold legBf
  rw [List.filter_cons]
  by_cases d : l.m < t
  · rw [if_pos (by simpa using d), if_pos d]; rfl
  · rw [if_neg (by simpa using d), if_neg d]; rfl
theorem legAt_head {l : Leg} {ls : List Leg} (s : (l :: ls).Pairwise fun a b => a.m < b.m) : legAt (l :: ls) l.m = some l := by
  cases ls with
  | nil => rw [legAt_one, if_pos Rat.le_refl]
  | cons l' ls =>
    have h1 : l.m < l'.m := (List.pairwise_cons.mp s).1 l' (by simp)
    rw [legAt_cons s, if_neg (by grind), if_pos Rat.le_refl]
def GoP (rows : List Leg) (T : Rat) (post : Int) (g : Go) : Prop := ∃ la lb, (∀ l, rows.head? = some l → l.m < g.m) ∧ g.m ≤ T ∧ legBf rows g.m = some la ∧ legAt rows g.m = some lb ∧ backB la g.m post ≠ aboveB lb g.m post ∧ g.u = aboveB lb g.m post
theorem g1_mem {l n : Leg} {post : Int} {g : Go} : g ∈ goings1 l n post ↔ l.m < g.m ∧ ((g.m < n.m ∧ backB l g.m post ≠ aboveB l g.m post ∧ g.u = aboveB l g.m post) ∨ (g.m = n.m ∧ backB l n.m post ≠ aboveB n n.m post ∧ g.u = aboveB n n.m post)) := by
  unfold goings1
  rw [List.mem_append]
  constructor
  · rintro (h | h)
    · split at h
      · rename_i c
        simp only [List.mem_cons, List.not_mem_nil, or_false] at h
        subst h
        exact ⟨c.2.1, .inl ⟨c.2.2, side_iff.mpr ⟨c.1, rfl⟩, rfl⟩⟩
      · cases h
    · split at h
      · rename_i c
        simp only [List.mem_cons, List.not_mem_nil, or_false] at h
        subst h
        exact ⟨c.1, .inr ⟨rfl, c.2, rfl⟩⟩
      · cases h
  · rintro ⟨h0, ⟨h1, h2, h3⟩ | ⟨h1, h2, h3⟩⟩
    · obtain ⟨hv, e⟩ := side_iff.mp h2
      left
      rw [if_pos ⟨hv, by rw [← e]; exact h0, by rw [← e]; exact h1⟩, ← e, ← h3]
      simp
    · right
      rw [if_pos ⟨by rw [← h1]; exact h0, h2⟩, ← h1, List.mem_singleton]
      cases g with | mk m u => simp only at h1 h3; subst h1; rw [h3]
theorem gq_mem {T : Rat} {post : Int} {g : Go} : ∀ {rows : List Leg}, rows ≠ [] → (rows.Pairwise fun a b => a.m < b.m) → (∀ l ∈ rows, l.m ≤ T) → (g ∈ gq T post rows ↔ GoP rows T post g)
  | [], h, _, _ => absurd rfl h
  | [l], _, _, _ => by
    show g ∈ goings1 l (nxt l T) post ↔ _
    rw [g1_mem]
    have en : (nxt l T).m = T := rfl
    rw [en, nxt_above]
    unfold GoP
    rw [legAt_one, legBf_one]
    constructor
    · rintro ⟨h0, ⟨h1, h2, h3⟩ | ⟨h1, h2, h3⟩⟩
      · exact ⟨l, l, fun x hx => by cases hx; exact h0, Rat.le_of_lt h1, by rw [if_pos h0], by rw [if_pos (Rat.le_of_lt h0)], h2, h3⟩
      · exact ⟨l, l, fun x hx => by cases hx; exact h0, by rw [h1]; exact Rat.le_refl, by rw [if_pos h0], by rw [if_pos (Rat.le_of_lt h0)], by rw [h1]; exact h2, by rw [h1]; exact h3⟩
    · rintro ⟨la, lb, h0, h1, ha, hb, h2, h3⟩
      have h0 := h0 l rfl
      rw [if_pos h0] at ha
      rw [if_pos (Rat.le_of_lt h0)] at hb
      cases ha; cases hb
      refine ⟨h0, ?_⟩
      by_cases e : g.m = T
      · exact .inr ⟨e, by rw [← e]; exact h2, by rw [← e]; exact h3⟩
      · exact .inl ⟨by grind, h2, h3⟩
  | l :: l' :: ls, _, s, hT => by
    have s' := (List.pairwise_cons.mp s).2
    have h1 : l.m < l'.m := (List.pairwise_cons.mp s).1 l' (by simp)
    have ih := gq_mem (T := T) (post := post) (g := g) (rows := l' :: ls) (by simp) s' (fun x hx => hT x (List.mem_cons_of_mem _ hx))
    have hT' := hT l' (by simp)
    show g ∈ goings1 l l' post ++ gq T post (l' :: ls) ↔ _
    rw [List.mem_append, ih, g1_mem]
    unfold GoP
    rw [legAt_cons s, legBf_cons s]
    constructor
    · rintro (⟨h0, ⟨h2, h3, h4⟩ | ⟨h2, h3, h4⟩⟩ | ⟨la, lb, h0, h2, ha, hb, h3, h4⟩)
      · exact ⟨l, l, fun x hx => by cases hx; exact h0, by grind, by rw [if_neg (by grind), if_pos h0], by rw [if_neg (by grind), if_pos (Rat.le_of_lt h0)], h3, h4⟩
      · exact ⟨l, l', fun x hx => by cases hx; exact h0, by grind, by rw [if_neg (by grind), if_pos h0], by rw [if_pos (by grind), h2]; exact legAt_head s', by rw [h2]; exact h3, by rw [h2]; exact h4⟩
      · have h0 := h0 l' rfl
        exact ⟨la, lb, fun x hx => by cases hx; grind, h2, by rw [if_pos h0]; exact ha, by rw [if_pos (Rat.le_of_lt h0)]; exact hb, h3, h4⟩
    · rintro ⟨la, lb, h0, h2, ha, hb, h3, h4⟩
      have h0 := h0 l rfl
      by_cases c : l'.m < g.m
      · right
        rw [if_pos c] at ha
        rw [if_pos (Rat.le_of_lt c)] at hb
        exact ⟨la, lb, fun x hx => by cases hx; exact c, h2, ha, hb, h3, h4⟩
      · left
        rw [if_neg c, if_pos h0] at ha
        cases ha
        refine ⟨h0, ?_⟩
        by_cases e : g.m = l'.m
        · right
          rw [if_pos (by rw [e]; exact Rat.le_refl), e, legAt_head s'] at hb
          cases hb
          rw [e] at h3 h4
          exact ⟨e, h3, h4⟩
        · left
          rw [if_neg (by grind), if_pos (Rat.le_of_lt h0)] at hb
          cases hb
          exact ⟨by grind, h3, h4⟩
def Go.lt (a b : Go) : Bool := decide (a.m < b.m)
theorem Go.irr (a : Go) : a.lt a = false := by unfold Go.lt; simp [Rat.lt_irrefl]
theorem Go.tr {a b c : Go} (h : a.lt b = true) (k : b.lt c = true) : a.lt c = true := by
  unfold Go.lt at *
  have := of_decide_eq_true h
  have := of_decide_eq_true k
  exact decide_eq_true (by grind)
theorem g1_srt (l n : Leg) (post : Int) : SrtG Go.lt (goings1 l n post) := by
  unfold SrtG goings1
  refine List.pairwise_append.mpr ⟨by split <;> simp, by split <;> simp, fun a ha b hb => ?_⟩
  split at ha
  · rename_i c
    split at hb
    · simp only [List.mem_cons, List.not_mem_nil, or_false] at ha hb
      subst ha; subst hb
      exact decide_eq_true c.2.2
    · cases hb
  · cases ha
theorem gq_srt {T : Rat} {post : Int} : ∀ {rows : List Leg}, rows ≠ [] → (rows.Pairwise fun a b => a.m < b.m) → (∀ l ∈ rows, l.m ≤ T) → SrtG Go.lt (gq T post rows)
  | [], h, _, _ => absurd rfl h
  | [l], _, _, _ => g1_srt _ _ _
  | l :: l' :: ls, _, s, hT => by
    have s' := (List.pairwise_cons.mp s).2
    have hT' : ∀ x ∈ l' :: ls, x.m ≤ T := fun x hx => hT x (List.mem_cons_of_mem _ hx)
    have ih := gq_srt (T := T) (post := post) (rows := l' :: ls) (by simp) s' hT'
    show SrtG Go.lt (goings1 l l' post ++ gq T post (l' :: ls))
    refine List.pairwise_append.mpr ⟨g1_srt _ _ _, ih, fun a ha b hb => ?_⟩
    have h1 := g1_mem.mp ha
    obtain ⟨la, lb, h0, _⟩ := (gq_mem (by simp) s' hT').mp hb
    have h0 := h0 l' rfl
    refine decide_eq_true ?_
    rcases h1.2 with h | h
    · have := h.1; grind
    · have := h.1; grind
def AltTo (s : Bool) : List Go → Bool → Prop
  | [], z => s = z
  | g :: gs, z => g.u ≠ s ∧ AltTo g.u gs z
theorem AltTo.app {gs : List Go} : ∀ {as : List Go} {s y z : Bool}, AltTo s as y → AltTo y gs z → AltTo s (as ++ gs) z
  | [], _, _, _, h, k => by cases h; exact k
  | _ :: _, _, _, _, h, k => ⟨h.1, h.2.app k⟩
theorem AltTo.get {z : Bool} : ∀ {gs : List Go} {s : Bool} {i : Nat} {a b : Go}, AltTo s gs z → gs[i]? = some a → gs[i + 1]? = some b → a.u ≠ b.u
  | [], _, _, _, _, _, h, _ => by cases h
  | [_], _, 0, _, _, _, _, k => by cases k
  | _ :: _ :: _, _, 0, _, _, h, ha, hb => by cases ha; cases hb; exact Ne.symm h.2.1
  | _ :: gs, _, i + 1, a, b, h, ha, hb => AltTo.get (gs := gs) h.2 (by simpa using ha) (by simpa using hb)
theorem g1_alt {l n : Leg} {post : Int} (h : l.m < n.m) : AltTo (aboveB l l.m post) (goings1 l n post) (aboveB n n.m post) := by
  have e2 : AltTo (backB l n.m post) (if l.m < n.m ∧ backB l n.m post ≠ aboveB n n.m post then [⟨n.m, aboveB n n.m post⟩] else []) (aboveB n n.m post) := by
    by_cases c : backB l n.m post = aboveB n n.m post
    · rw [if_neg (fun z => z.2 c)]; exact c
    · rw [if_pos ⟨h, c⟩]; exact ⟨Ne.symm c, rfl⟩
  unfold goings1
  refine AltTo.app (y := backB l n.m post) ?_ e2
  rcases Int.lt_trichotomy l.v 0 with hv | hv | hv
  · by_cases c : l.v ≠ 0 ∧ l.m < hitQ l post ∧ hitQ l post < n.m
    · rw [if_pos c, (ab_neg hv).2, (ab_neg hv).1, (ab_neg hv).1]
      refine ⟨fun z => ?_, decide_eq_decide.mpr ?_⟩
      · have := decide_eq_decide.mp z
        have := c.2.1
        grind
      · have := c.2.2
        exact ⟨fun z => absurd z Rat.lt_irrefl, fun z => by grind⟩
    · rw [if_neg c, (ab_neg hv).2, (ab_neg hv).1]
      refine decide_eq_decide.mpr ⟨fun z => ?_, fun z => by grind⟩
      by_cases d : hitQ l post < n.m
      · exact absurd ⟨by omega, z, d⟩ c
      · grind
  · rw [if_neg (fun z => z.1 hv)]
    exact (ab_zero hv).2.symm
  · by_cases c : l.v ≠ 0 ∧ l.m < hitQ l post ∧ hitQ l post < n.m
    · rw [if_pos c, (ab_pos hv).2, (ab_pos hv).1, (ab_pos hv).1]
      refine ⟨fun z => ?_, decide_eq_decide.mpr ?_⟩
      · have := decide_eq_decide.mp z
        have := c.2.1
        grind
      · have := c.2.2
        exact ⟨fun z => this, fun z => Rat.le_refl⟩
    · rw [if_neg c, (ab_pos hv).2, (ab_pos hv).1]
      refine decide_eq_decide.mpr ⟨fun z => by grind, fun z => ?_⟩
      by_cases d : l.m < hitQ l post
      · exact absurd ⟨by omega, d, z⟩ c
      · grind
theorem gq_alt {T : Rat} {post : Int} : ∀ {rows : List Leg} {l : Leg}, rows.head? = some l → (rows.Pairwise fun a b => a.m < b.m) → (∀ l ∈ rows, l.m ≤ T) → ∃ z, AltTo (aboveB l l.m post) (gq T post rows) z
  | [], _, h, _, _ => by cases h
  | [l], _, h, _, hT => by
    cases h
    by_cases c : l.m < T
    · exact ⟨_, g1_alt (n := nxt l T) c⟩
    · have e : gq T post [l] = [] := by
        show goings1 l (nxt l T) post = []
        unfold goings1
        have en : (nxt l T).m = T := rfl
        rw [en, if_neg (fun z => by have := z.2.1; have := z.2.2; grind), if_neg (fun z => c z.1)]; rfl
      rw [e]; exact ⟨_, rfl⟩
  | l :: l' :: ls, _, h, s, hT => by
    cases h
    have h1 : l.m < l'.m := (List.pairwise_cons.mp s).1 l' (by simp)
    obtain ⟨z, hz⟩ := gq_alt (T := T) (post := post) (rows := l' :: ls) (l := l') rfl (List.pairwise_cons.mp s).2 (fun x hx => hT x (List.mem_cons_of_mem _ hx))
    exact ⟨z, (g1_alt h1).app hz⟩
theorem go_cand {rows : List Leg} {T : Rat} {post : Int} {g : Go} (s : rows.Pairwise fun a b => a.m < b.m) (h : GoP rows T post g) : g.m = T ∨ ∃ l ∈ rows, g.m = l.m ∨ (l.v ≠ 0 ∧ g.m = hitQ l post) := by
  obtain ⟨la, lb, h0, h1, ha, hb, h2, h3⟩ := h
  have ma : la ∈ rows := (List.mem_filter.mp (List.mem_of_getLast? ha)).1
  have mb := List.mem_filter.mp (List.mem_of_getLast? hb)
  by_cases e : la = lb
  · subst e
    exact .inr ⟨la, ma, .inr (side_iff.mp h2)⟩
  · refine .inr ⟨lb, mb.1, .inl ?_⟩
    have hle : lb.m ≤ g.m := of_decide_eq_true mb.2
    by_cases c : lb.m < g.m
    · exfalso
      apply e
      have k1 : lb ∈ rows.filter fun l => decide (l.m < g.m) := List.mem_filter.mpr ⟨mb.1, decide_eq_true c⟩
      have k2 : la ∈ rows.filter fun l => decide (l.m ≤ g.m) := List.mem_filter.mpr ⟨ma, decide_eq_true (Rat.le_of_lt (of_decide_eq_true (List.mem_filter.mp (List.mem_of_getLast? ha)).2))⟩
      have last_le : ∀ {q : List Leg} {x y : Leg}, (q.Pairwise fun a b => a.m < b.m) → q.getLast? = some y → x ∈ q → x = y ∨ x.m < y.m := fun {q x y} sq hq hx => by
        obtain ⟨ks, rfl⟩ := List.getLast?_eq_some_iff.mp hq
        rcases List.mem_append.mp hx with hx | hx
        · exact .inr ((List.pairwise_append.mp sq).2.2 x hx y (by simp))
        · exact .inl (by simpa using hx)
      have j1 := last_le (s.filter _) ha k1
      have j2 := last_le (s.filter _) hb k2
      rcases j1 with j1 | j1
      · exact j1.symm
      · rcases j2 with j2 | j2
        · exact j2
        · exfalso; grind
    · grind
abbrev s_side : Stmt := (top 38)
theorem sc_side : L2.FnScope ["_law_leg", "_law_moment", "_law_post", "_law_ahead", "_law_here"] ["_law_leg", "_law_moment", "_law_post", "_law_ahead"] (L2.defScope s_side) := ⟨rfl, rfl, rfl, by decide +kernel, rfl, by decide +kernel, by decide +kernel⟩
def spSide : Spr := fun xs J Q _ => ∃ (l : Leg) (t : Rat) (post : Int) (b : Bool), xs = [l.V, fr t, .int post, .bl b] ∧ Sz 900 l.m ∧ Sz 900 l.p ∧ Sz 900 t ∧ Bd 64 l.v ∧ Bd 250 post ∧ Q (.bl (if b then backB l t post else aboveB l t post)) J
theorem okr_side {f : Addr} {fd : FuncData} (F : Fun K "_law_side" "_law_side" s_side f fd) (Z : BltR mg) (C_at : CanR P w K mg base 2 "_law_at" ["_law_leg", "_law_moment"] spPlR) : FnOk P w K mg base (Fly P w) 3 f fd ["_law_leg", "_law_moment", "_law_post", "_law_ahead"] (LSp K spSide) := by
  refine okR F sc_side (fun xs J Q E h => ?_) (fun cdv A outer s H E G xs J Q E2 hr h B => ?_)
  · obtain ⟨l, t, post, b, rfl, _⟩ := h; rfl
  obtain ⟨l, t, post, b, rfl, sm, sp, st, bv, bp, q⟩ := h
  refine ⟨_, (rb_cons (rs_set (i := 4) sc_side.nd rfl (Or.inl rfl) (re_fn C_at B hr (by decide) rfl (ra_cons (rv 0) (ra_cons (rv 1) ra_nil))))
      (rb_cons (rs_if (rt_cmp (oq_ne hr.units61) (re_ix iq_ix (rv 4) re_int (fun _ _ => rfl)) (re_op oq_mul (rv 2) (re_ix iq_ix (rv 4) re_int (fun _ _ => rfl))) (L2.nomark _)) (rb_one (rs_ret (re_cmp oq_gt (re_ix iq_ix (rv 4) re_int (fun _ _ => rfl)) (re_op oq_mul (rv 2) (re_ix iq_ix (rv 4) re_int (fun _ _ => rfl))) (L2.nomark _)))) rb_nil)
      (rb_cons (rs_if (rt_tru (rv 3)) (rb_one (rs_ret (re_cmp oq_le (re_ix iq_ix (rv 0) re_int (fun _ _ => rfl)) re_int (L2.nomark _)))) rb_nil)
      (rb_one (rs_ret (re_cmp oq_ge (re_ix iq_ix (rv 0) re_int (fun _ _ => rfl)) re_int (L2.nomark _))))))), ?_⟩
  simp! only []
  refine ⟨l, t, rfl, sm, sp, st, bv, ?_⟩
  have sa := at_sz sm sp st bv
  simp! only [eq_whole]
  refine ⟨.of bp sa.den, ?_⟩
  by_cases e : l.at t = (post : Rat)
  · rw [if_pos e]
    unfold backB aboveB at q
    rw [if_pos e, if_pos e] at q
    cases b with
    | true =>
      simp! only [ix_l2]
      have : decide (l.v ≤ 0) = decide (0 ≤ -l.v) := decide_eq_decide.mpr (by omega)
      rw [this]
      exact q
    | false =>
      simp! only [ix_l2]
      exact q
  · rw [if_neg e]
    have q : Q (.bl (decide ((post : Rat) < l.at t))) J := by
      unfold backB aboveB at q
      rw [if_neg e, if_neg e] at q
      cases b <;> exact q
    simp! only [lt_whole]
    exact ⟨.of bp sa.den, q⟩
theorem less_two {J : Hq} {p o : Addr} {a b : HQ} (hp : J p = none) (ho : J o = none) : Less J (put (put J p a) o b) := fun x => by
  by_cases e : x = o
  · exact .inr (by rw [e]; exact ho)
  · by_cases e2 : x = p
    · exact .inr (by rw [e2]; exact hp)
    · exact .inl (by rw [put_ne e, put_ne e2])
theorem legBf_snoc (ls : List Leg) (l : Leg) (t : Rat) : legBf (ls ++ [l]) t = if l.m < t then some l else legBf ls t := by
  unfold legBf
  rw [List.filter_append, List.filter_cons]
  by_cases c : l.m < t
  · rw [if_pos c, if_pos (decide_eq_true c), List.filter_nil, List.getLast?_concat]
  · rw [if_neg c, if_neg (by simp [c]), List.filter_nil, List.append_nil]
theorem dep_g (x : Go) : dep (pyOf x.V) ≤ 60 := by simp [Go.V, fr, pyOf, pyOfs, dep, deps]
theorem purs_g : ∀ gs : List Go, purs (gs.map Go.V) = true
  | [] => rfl
  | g :: gs => by rw [List.map_cons, purs_cons, pur_g, purs_g gs]; rfl
theorem any_g (row : Go) : ∀ gs : List Go, ((gs.map Go.V).any fun z => eqQ z row.V) = decide (row ∈ gs)
  | [] => rfl
  | g :: gs => by
    rw [List.map_cons, List.any_cons, any_g row gs, eq_g]
    by_cases e : g = row
    · subst e; simp
    · simp [e, show ¬ row = g from fun z => e z.symm]
abbrev s_goings : Stmt := (top 40)
theorem sc_goings : L2.FnScope ["_law_rows", "_law_until", "_law_post", "_law_first", "_law_some", "_law_leg", "_law_out", "_law_moment", "_law_early", "_law_behind", "_law_ahead", "_law_side_here", "_law_row", "_law_at_here"] ["_law_rows", "_law_until", "_law_post"] (L2.defScope s_goings) := ⟨rfl, rfl, rfl, by decide +kernel, rfl, by decide +kernel, by decide +kernel⟩
def spGoingsL : Spr := fun xs J Q _ => ∃ (ls : List Leg) (last : Leg) (t : Rat) (post : Int), xs = [.fl (ls.map Leg.V), fr t, .int post] ∧ ls.getLast? = some last ∧ Ris ls t ∧ (∀ l ∈ ls, GLeg l) ∧ Sz 240 t ∧ Bd 250 post ∧ ls.length ≤ 100 ∧ Q (.fl ((goingsQ ls last t post).map Go.V)) J
theorem okr_goings {f : Addr} {fd : FuncData} (F : Fun K "_law_goings" "_law_goings" s_goings f fd) (Z : BltR mg) (C_hit : CanR P w K mg base 2 "_law_hit" ["_law_leg", "_law_post"] spHit) (C_held : CanR P w K mg base 1 "_law_held" ["_law_rows", "_law_moment"] spHeld) (C_side : CanR P w K mg base 3 "_law_side" ["_law_leg", "_law_moment", "_law_post", "_law_ahead"] spSide) : FnOk P w K mg base (Fly P w) 4 f fd ["_law_rows", "_law_until", "_law_post"] (LSp K spGoingsL) := by
  refine okF F sc_goings (fun xs J Q E h => ?_) (fun cdv A outer s H E G xs J Q E2 hr h B => ?_)
  · obtain ⟨ls, last, t, post, rfl, _⟩ := h; rfl
  obtain ⟨ls, last, t, post, rfl, hlast, hris, hls, st, bp, hlen, q⟩ := h
  refine ⟨_, (rb_cons (rs_set (i := 3) sc_goings.nd rfl (Or.inl rfl) (re_ix iq_ix (re_ix iq_ix (rv 0) re_int (fun _ _ => rfl)) re_int (fun _ _ => rfl)))
      (rb_cons (rs_set (i := 4) sc_goings.nd rfl (Or.inl rfl) (re_lst (ra_cons (rv 1) ra_nil)))
      (rb_cons (rs_for cxF_own rfl (ri_list (rv 0)) (rg_name (i := 5) sc_goings.nd rfl (Or.inl rfl)) (rb_cons (rs_expr (re_bm PySem.F.plainAttrs_list PySem.F.slot_list_append PySem.F.type_list_append mq_append (rv 4) (ra_cons (re_ix iq_ix (rv 5) re_int (fun _ _ => rfl)) ra_nil)))
      (rb_one (rs_expr (re_bm PySem.F.plainAttrs_list PySem.F.slot_list_append PySem.F.type_list_append mq_append (rv 4) (ra_cons (re_fn C_hit B hr (by decide) rfl (ra_cons (rv 5) (ra_cons (rv 2) ra_nil))) ra_nil))))))
      (rb_cons (rs_set (i := 6) sc_goings.nd rfl (Or.inl rfl) (re_lst ra_nil))
      (rb_cons (rs_for cxF_own rfl (ri_list (rv 4)) (rg_name (i := 7) sc_goings.nd rfl (Or.inl rfl)) (rb_cons (rs_set (i := 8) sc_goings.nd rfl (Or.inl rfl) (re_cmp oq_le (re_op oq_mul (re_ix iq_ix (rv 7) re_int (fun _ _ => rfl)) (re_ix iq_ix (rv 3) re_int (fun _ _ => rfl))) (re_op oq_mul (re_ix iq_ix (rv 3) re_int (fun _ _ => rfl)) (re_ix iq_ix (rv 7) re_int (fun _ _ => rfl))) (L2.nomark _)))
      (rb_cons (rs_if (rw_rt (rw_or (rt_tru (rv 8)) (rw_or1 (rt_cmp oq_lt (re_op oq_mul (re_ix iq_ix (rv 1) re_int (fun _ _ => rfl)) (re_ix iq_ix (rv 7) re_int (fun _ _ => rfl))) (re_op oq_mul (re_ix iq_ix (rv 7) re_int (fun _ _ => rfl)) (re_ix iq_ix (rv 1) re_int (fun _ _ => rfl))) (L2.nomark _))))) (rb_one rs_continue) rb_nil)
      (rb_cons (rs_set (i := 9) sc_goings.nd rfl (Or.inl rfl) (re_fn C_held B hr (by decide) rfl (ra_cons (rv 0) (ra_cons (rv 7) ra_nil))))
      (rb_cons (rs_set (i := 10) sc_goings.nd rfl (Or.inl rfl) (re_ix iq_ix (rv 0) re_int (fun _ _ => rfl)))
      (rb_cons (rs_for cxF_own rfl (ri_list (rv 0)) (rg_name (i := 5) sc_goings.nd rfl (Or.inl rfl)) (rb_one (rs_if (rt_cmp oq_lt (re_op oq_mul (re_ix iq_ix (re_ix iq_ix (rv 5) re_int (fun _ _ => rfl)) re_int (fun _ _ => rfl)) (re_ix iq_ix (rv 7) re_int (fun _ _ => rfl))) (re_op oq_mul (re_ix iq_ix (rv 7) re_int (fun _ _ => rfl)) (re_ix iq_ix (re_ix iq_ix (rv 5) re_int (fun _ _ => rfl)) re_int (fun _ _ => rfl))) (L2.nomark _)) (rb_one (rs_set (i := 10) sc_goings.nd rfl (Or.inl rfl) (rv 5))) rb_nil)))
      (rb_cons (rs_set (i := 11) sc_goings.nd rfl (Or.inl rfl) (re_fn C_side B hr (by decide) rfl (ra_cons (rv 9) (ra_cons (rv 7) (ra_cons (rv 2) (ra_cons re_bl ra_nil))))))
      (rb_cons (rs_if (rt_cmp (oq_eq hr.units61) (re_fn C_side B hr (by decide) rfl (ra_cons (rv 10) (ra_cons (rv 7) (ra_cons (rv 2) (ra_cons re_bl ra_nil))))) (rv 11) (L2.nomark _)) (rb_one rs_continue) rb_nil)
      (rb_cons (rs_set (i := 12) sc_goings.nd rfl (Or.inl rfl) (re_tup (ra_cons (rv 7) (ra_cons (re_if (rt_tru (rv 11)) re_str re_str) ra_nil))))
      (rb_cons (rs_if (rt_cmp (oq_inP hr.units61) (rv 12) (rv 6) (by with_unfolding_all rfl)) (rb_one rs_continue) rb_nil)
      (rb_cons (rs_set (i := 13) sc_goings.nd rfl (Or.inl rfl) re_int)
      (rb_cons (rs_while cxF_own (rw_rt (rw_and (rt_cmp oq_lt (rv 13) (re_callB cq_len rfl Z.len boot_len (ra_cons (rv 6) ra_nil)) (L2.nomark _)) (rw_and1 (rt_cmp oq_lt (re_op oq_mul (re_ix iq_ix (re_ix iq_ix (re_ix iq_ix (rv 6) (rv 13) (fun _ _ => rfl)) re_int (fun _ _ => rfl)) re_int (fun _ _ => rfl)) (re_ix iq_ix (rv 7) re_int (fun _ _ => rfl))) (re_op oq_mul (re_ix iq_ix (rv 7) re_int (fun _ _ => rfl)) (re_ix iq_ix (re_ix iq_ix (re_ix iq_ix (rv 6) (rv 13) (fun _ _ => rfl)) re_int (fun _ _ => rfl)) re_int (fun _ _ => rfl))) (L2.nomark _))))) (rb_one (rs_set (i := 13) sc_goings.nd rfl (Or.inl rfl) (re_op oq_add (rv 13) re_int))))
      (rb_one (rs_expr (re_bm PySem.F.plainAttrs_list PySem.F.slot_list_insert PySem.F.type_list_insert mq_insert (rv 6) (ra_cons (rv 13) (ra_cons (rv 12) ra_nil)))))))))))))))))
      (rb_one (rs_ret (rv 6)))))))), ?_⟩
  obtain ⟨l0, ls', e0⟩ : ∃ l ls', ls = l :: ls' := List.exists_cons_of_ne_nil (fun z => by subst z; cases hlast)
  have h0 : atI (ls.map Leg.V) 0 = some l0.V := by rw [e0]; exact atI_0 _ _
  have hm0 : l0 ∈ ls := by rw [e0]; simp
  have hhd : ls.head? = some l0 := by rw [e0]; rfl
  have hne : ls ≠ [] := by rw [e0]; simp
  have s0 := (hls l0 hm0).m
  simp! only [h0, ix_l0]
  intro g hg
  simp! only []
  obtain ⟨Inv, hInv⟩ : ∃ Inv : Nat → Sr → Hq → Prop, ∀ i τ J', Inv i τ J' ↔ ∃ (u : Option PV), τ = [some (.fl (ls.map Leg.V)), some (fr t), some (.int post), some (fr l0.m), some (.ref g), u, none, none, none, none, none, none, none, none] ∧ J' = put J g (.lst ((t :: (ls.take i).flatMap fun l => [l.m, hitL l post]).map fr)) := ⟨_, fun _ _ _ => Iff.rfl⟩
  refine for_ls Inv ((hInv _ _ _).mpr ⟨_, rfl, rfl⟩) (fun _ _ _ _ => trivial) ?_ ?_
  · intro i x τ J' hx hv
    obtain ⟨u, rfl, rfl⟩ := (hInv _ _ _).mp hv
    clear hv
    have hi : i < ls.length := by have := (List.getElem?_eq_some_iff.mp hx).1; simpa using this
    rw [List.getElem?_map, List.getElem?_eq_getElem hi] at hx
    cases hx
    have gl := hls _ (List.getElem_mem hi)
    have et : ((ls.take (i + 1)).flatMap fun l => [l.m, hitL l post]) = ((ls.take i).flatMap fun l => [l.m, hitL l post]) ++ [(ls[i]).m, hitL (ls[i]) post] := by
      rw [List.take_add_one, List.getElem?_eq_getElem hi, List.flatMap_append]
      simp
    have el : ((ls.take i).flatMap fun l => [l.m, hitL l post]).length = 2 * i := by
      rw [List.length_flatMap]
      have : ((ls.take i).map fun l => ([l.m, hitL l post] : List Rat).length) = List.replicate i 2 := by
        rw [List.eq_replicate_iff]
        refine ⟨by rw [List.length_map, List.length_take]; omega, fun b hb => ?_⟩
        obtain ⟨_, _, rfl⟩ := List.mem_map.mp hb
        rfl
      rw [this, List.sum_replicate_nat]; omega
    generalize ((ls.take i).flatMap fun l => [l.m, hitL l post]) = out at et el ⊢
    generalize ls[i] = l at gl et ⊢
    simp! only [ix_l0, put_same]
    refine ⟨small1000 (by simp; omega), l, post, rfl, gl.m, gl.p.mono (by decide), gl.bv, bp, ?_⟩
    simp! only [put_same]
    refine ⟨small1000 (by simp; omega), (hInv _ _ _).mpr ⟨_, rfl, ?_⟩⟩
    rw [et]
    simp [put_put]
  intro τ J1 hv
  obtain ⟨u, rfl, rfl⟩ := (hInv _ _ _).mp hv
  clear hv hInv Inv
  rw [List.length_map, List.take_length]
  obtain ⟨cs, hcs⟩ : ∃ cs, (t :: ls.flatMap fun l => [l.m, hitL l post]) = cs := ⟨_, rfl⟩
  rw [hcs]
  have scs : ∀ m ∈ cs, Sz 880 m := fun m hm => by
    rw [← hcs] at hm
    rcases List.mem_cons.mp hm with rfl | hm
    · exact st.mono (by decide)
    · obtain ⟨l, hl, hm⟩ := List.mem_flatMap.mp hm
      simp only [List.mem_cons, List.not_mem_nil, or_false] at hm
      rcases hm with rfl | rfl
      · exact (hls l hl).m.mono (by decide)
      · unfold hitL
        split
        · exact (hls l hl).m.mono (by decide)
        · rename_i c; exact hit_sz (hls l hl) bp c
  have lcs : cs.length ≤ 201 := by
    rw [← hcs, List.length_cons, List.length_flatMap]
    have : (ls.map fun l => ([l.m, hitL l post] : List Rat).length) = List.replicate ls.length 2 := by
      rw [List.eq_replicate_iff]
      refine ⟨by rw [List.length_map], fun b hb => ?_⟩
      obtain ⟨_, _, rfl⟩ := List.mem_map.mp hb
      rfl
    rw [this, List.sum_replicate_nat]; omega
  have hcand : ∀ x, GoP ls t post x → x.m ∈ cs := fun x hx => by
    rw [← hcs]
    rcases go_cand hris.s hx with e | ⟨l, hl, e | ⟨hv, e⟩⟩
    · rw [e]; simp
    · exact List.mem_cons_of_mem _ (List.mem_flatMap.mpr ⟨l, hl, by rw [e]; simp⟩)
    · exact List.mem_cons_of_mem _ (List.mem_flatMap.mpr ⟨l, hl, by rw [e]; unfold hitL; rw [if_neg hv]; simp⟩)
  simp! only []
  intro o ho
  have ngo : g ≠ o := by intro e; subst e; rw [put_same] at ho; cases ho
  have hoJ : J o = none := by rw [put_ne (Ne.symm ngo)] at ho; exact ho
  simp! only [put_ne ngo, put_same]
  obtain ⟨Inv, hInv⟩ : ∃ Inv : Nat → Sr → Hq → Prop, ∀ i τ J', Inv i τ J' ↔ ∃ (gs : List Go) (u5 u7 u8 u9 u10 u11 u12 u13 : Option PV), τ = [some (.fl (ls.map Leg.V)), some (fr t), some (.int post), some (fr l0.m), some (.ref g), u5, some (.ref o), u7, u8, u9, u10, u11, u12, u13] ∧ J' = put (put J g (.lst (cs.map fr))) o (.lst (gs.map Go.V)) ∧ SrtG Go.lt gs ∧ gs.length ≤ i ∧ ∀ x, x ∈ gs ↔ x.m ∈ cs.take i ∧ GoP ls t post x := ⟨_, fun _ _ _ => Iff.rfl⟩
  refine for_ls Inv ((hInv _ _ _).mpr ⟨[], _, _, _, _, _, _, _, _, rfl, rfl, List.Pairwise.nil, Nat.le_refl _, fun x => by simp⟩) (fun i τ J' h => ?_) ?_ ?_
  · obtain ⟨_, _, _, _, _, _, _, _, _, _, rfl, _⟩ := (hInv _ _ _).mp h
    rw [put_ne ngo]; exact put_same
  · intro i x τ J' hx hv
    obtain ⟨gs, u5, u7, u8, u9, u10, u11, u12, u13, rfl, rfl, srt, lgs, mgs⟩ := (hInv _ _ _).mp hv
    clear hv
    have hi : i < cs.length := by have := (List.getElem?_eq_some_iff.mp hx).1; simpa using this
    rw [List.getElem?_map, List.getElem?_eq_getElem hi] at hx
    cases hx
    have sm := scs _ (List.getElem_mem hi)
    have et : cs.take (i + 1) = cs.take i ++ [cs[i]] := by rw [List.take_add_one, List.getElem?_eq_getElem hi]; rfl
    generalize cs[i] = m at sm et ⊢
    have stay : ∀ {v5 v7 v8 v9 v10 v11 v12 v13 : Option PV}, (∀ x, x.m = m → GoP ls t post x → x ∈ gs) → Inv (i + 1) [some (.fl (ls.map Leg.V)), some (fr t), some (.int post), some (fr l0.m), some (.ref g), v5, some (.ref o), v7, v8, v9, v10, v11, v12, v13] (put (put J g (.lst (cs.map fr))) o (.lst (gs.map Go.V))) := fun hno =>
      (hInv _ _ _).mpr ⟨gs, _, _, _, _, _, _, _, _, rfl, rfl, srt, by omega, fun x => by
        rw [et, List.mem_append, List.mem_singleton]
        constructor
        · intro h; have := (mgs x).mp h; exact ⟨.inl this.1, this.2⟩
        · rintro ⟨h | h, k⟩
          · exact (mgs x).mpr ⟨h, k⟩
          · exact hno x h k⟩
    simp! only [cross_le, cross_lt']
    refine ⟨.of sm.num s0.den, .of s0.num sm.den, ?_⟩
    by_cases c1 : m ≤ l0.m
    · rw [decide_eq_true c1]
      simp! only []
      exact stay fun x hx hp => by
        obtain ⟨la, lb, k0, _⟩ := hp
        have := k0 l0 hhd
        rw [hx] at this
        grind
    rw [decide_eq_false c1]
    have c1' : l0.m < m := by grind
    simp! only [cross_lt']
    refine ⟨.of st.num sm.den, .of sm.num st.den, ?_⟩
    by_cases c2 : t < m
    · rw [if_pos c2]
      exact stay fun x hx hp => by
        obtain ⟨la, lb, _, k1, _⟩ := hp
        rw [hx] at k1
        grind
    rw [if_neg c2]
    have c2' : m ≤ t := by grind
    simp! only []
    refine ⟨ls, m, rfl, hne, sm.mono (by decide), fun l hl => ⟨(hls l hl).m.mono (by decide), (hls l hl).p.mono (by decide), (hls l hl).bv⟩, fun lb hlb => ?_⟩
    have hlb : legAt ls m = some lb := by
      unfold held at hlb
      cases e : legAt ls m with
      | some y => rw [e] at hlb; exact hlb
      | none =>
        exfalso
        have := List.getLast?_eq_none_iff.mp e
        have h1 : l0 ∈ ls.filter fun l => decide (l.m ≤ m) := List.mem_filter.mpr ⟨hm0, decide_eq_true (Rat.le_of_lt c1')⟩
        rw [this] at h1; cases h1
    have mlb : lb ∈ ls := (List.mem_filter.mp (List.mem_of_getLast? hlb)).1
    simp! only [h0]
    obtain ⟨In2, hIn2⟩ : ∃ In2 : Nat → Sr → Hq → Prop, ∀ j τ J', In2 j τ J' ↔ ∃ (la : Leg) (u5 : Option PV), τ = [some (.fl (ls.map Leg.V)), some (fr t), some (.int post), some (fr l0.m), some (.ref g), u5, some (.ref o), some (fr m), some (.bl false), some lb.V, some la.V, u11, u12, u13] ∧ J' = put (put J g (.lst (cs.map fr))) o (.lst (gs.map Go.V)) ∧ (legBf (ls.take j) m).or (some l0) = some la := ⟨_, fun _ _ _ => Iff.rfl⟩
    refine for_ls In2 ((hIn2 _ _ _).mpr ⟨l0, _, rfl, rfl, rfl⟩) (fun _ _ _ _ => trivial) ?_ ?_
    · intro j x τ J' hx hv
      obtain ⟨la, u5, rfl, rfl, hla⟩ := (hIn2 _ _ _).mp hv
      clear hv
      have hj : j < ls.length := by have := (List.getElem?_eq_some_iff.mp hx).1; simpa using this
      rw [List.getElem?_map, List.getElem?_eq_getElem hj] at hx
      cases hx
      have sj := (hls _ (List.getElem_mem hj)).m
      have ej : ls.take (j + 1) = ls.take j ++ [ls[j]] := by rw [List.take_add_one, List.getElem?_eq_getElem hj]; rfl
      generalize ls[j] = y at sj ej ⊢
      simp! only [ix_l0, cross_lt']
      refine ⟨.of sj.num sm.den, .of sm.num sj.den, ?_⟩
      by_cases c : y.m < m
      · rw [if_pos c]
        exact (hIn2 _ _ _).mpr ⟨y, _, rfl, rfl, by rw [ej, legBf_snoc, if_pos c]; rfl⟩
      · rw [if_neg c]
        exact (hIn2 _ _ _).mpr ⟨la, _, rfl, rfl, by rw [ej, legBf_snoc, if_neg c]; exact hla⟩
    intro τ J' hv
    obtain ⟨la, u5, rfl, rfl, hla⟩ := (hIn2 _ _ _).mp hv
    clear hv hIn2 In2
    rw [List.length_map, List.take_length] at hla
    have hla : legBf ls m = some la := by
      cases e : legBf ls m with
      | some y => rw [e] at hla; exact hla
      | none =>
        exfalso
        have := List.getLast?_eq_none_iff.mp e
        have h1 : l0 ∈ ls.filter fun l => decide (l.m < m) := List.mem_filter.mpr ⟨hm0, decide_eq_true c1'⟩
        rw [this] at h1; cases h1
    have mla : la ∈ ls := (List.mem_filter.mp (List.mem_of_getLast? hla)).1
    have ga := hls la mla
    have gb := hls lb mlb
    have hgo : ∀ x, x.m = m → (GoP ls t post x ↔ backB la m post ≠ aboveB lb m post ∧ x.u = aboveB lb m post) := fun x hx => by
      unfold GoP
      rw [hx]
      constructor
      · rintro ⟨la', lb', _, _, ha', hb', k3, k4⟩
        rw [hla] at ha'; rw [hlb] at hb'
        cases ha'; cases hb'
        exact ⟨k3, k4⟩
      · rintro ⟨k3, k4⟩
        exact ⟨la, lb, fun l hl => by rw [hhd] at hl; cases hl; exact c1', c2', hla, hlb, k3, k4⟩
    simp! only []
    refine ⟨lb, m, post, false, rfl, gb.m.mono (by decide), gb.p.mono (by decide), sm.mono (by decide), gb.bv, bp, ?_⟩
    simp! only []
    refine ⟨la, m, post, true, rfl, ga.m.mono (by decide), ga.p.mono (by decide), sm.mono (by decide), ga.bv, bp, ?_⟩
    simp! only []
    by_cases c3 : backB la m post = aboveB lb m post
    · rw [if_pos c3]
      exact stay fun x hx hp => absurd c3 ((hgo x hx).mp hp).1
    rw [if_neg c3]
    have hup : PV.tup [fr m, .str (Str.ofString "up")] = (Go.mk m true).V := rfl
    have hdn : PV.tup [fr m, .str (Str.ofString "down")] = (Go.mk m false).V := rfl
    obtain ⟨row, hrow⟩ : ∃ row : Go, Go.mk m (aboveB lb m post) = row := ⟨_, rfl⟩
    have erm : row.m = m := by rw [← hrow]
    have eru : row.u = aboveB lb m post := by rw [← hrow]
    have hgr : GoP ls t post row := (hgo row erm).mpr ⟨c3, eru⟩
    have hru : ∀ x, x.m = m → GoP ls t post x → x = row := fun x hx hp => by
      have := ((hgo x hx).mp hp).2
      cases x with | mk a b => cases row with | mk a' b' => simp only at hx this erm eru; subst hx; subst erm; rw [this, eru]
    have hdep : ∀ z ∈ gs.map Go.V, dep (pyOf z) ≤ 60 := fun z hz => by obtain ⟨x, _, rfl⟩ := List.mem_map.mp hz; exact dep_g x
    have hcons : ∀ z ∈ gs.map Go.V, ∀ z' ∈ gs.map Go.V, eqQ z z' = true → eqQ z row.V = eqQ z' row.V := fun z hz z' hz' e => by
      obtain ⟨x, _, rfl⟩ := List.mem_map.mp hz
      obtain ⟨y, _, rfl⟩ := List.mem_map.mp hz'
      rw [eq_g] at e
      rw [of_decide_eq_true e]
    have fin : ∀ {v13 : Option PV} (j : Nat), row ∉ gs → j ≤ gs.length → (∀ (k : Nat) y, k < j → gs[k]? = some y → y.m < m) → (∀ (k : Nat) y, j ≤ k → gs[k]? = some y → ¬ y.m < m) → Inv (i + 1) [some (.fl (ls.map Leg.V)), some (fr t), some (.int post), some (fr l0.m), some (.ref g), u5, some (.ref o), some (fr m), some (.bl false), some lb.V, some la.V, some (.bl (aboveB lb m post)), some row.V, v13] (put (put J g (.lst (cs.map fr))) o (.lst ((gs.map Go.V).take j ++ row.V :: (gs.map Go.V).drop j))) := fun j hni hj k1 k2 => by
      have ei := insG_at (lt := Go.lt) (b := row) hj (fun k y hk e => decide_eq_true (by rw [erm]; exact k1 k y hk e)) (fun k y hk e => decide_eq_false (by rw [erm]; exact k2 k y hk e))
      have em : (gs.map Go.V).take j ++ row.V :: (gs.map Go.V).drop j = (insG Go.lt row gs).map Go.V := by rw [← ei, List.map_append, List.map_cons, List.map_take, List.map_drop]
      rw [em]
      refine (hInv _ _ _).mpr ⟨insG Go.lt row gs, _, _, _, _, _, _, _, _, rfl, rfl, insG_srt (lt := Go.lt) Go.tr srt fun x hx => ?_, by rw [insG_len]; omega, fun x => ?_⟩
      · have hx' := ((mgs x).mp hx).2
        have : x.m ≠ m := fun e => hni (by rw [← hru x e hx']; exact hx)
        unfold Go.lt
        rw [erm]
        by_cases c : x.m < m
        · exact .inl (decide_eq_true c)
        · exact .inr (decide_eq_true (by grind))
      · rw [insG_mem, mgs, et, List.mem_append, List.mem_singleton]
        constructor
        · rintro (rfl | h)
          · exact ⟨.inr erm, hgr⟩
          · exact ⟨.inl h.1, h.2⟩
        · rintro ⟨h | h, k⟩
          · exact .inr ⟨h, k⟩
          · exact .inl (hru x h k)
    obtain ⟨R, hR⟩ : ∃ R : TSr, (rSeq (rIfS (rB (rOp qInP (rVar 12) (rVar 6))) rCnt rNext)
      (rSeq (rAsg (rC (PV.int 0)) (gNm 13))
        (rSeq
          (rWhile
            (rAnd (rB (rOp (qI0 fun i j => PV.bl (decide (i < j))) (rVar 13) (rCB qLen (rCons (rVar 6) rNil))))
              (rB
                (rOp (qI0 fun i j => PV.bl (decide (i < j)))
                  (rOp (qI CM fun i j => PV.int (i * j))
                    (rOp qIx (rOp qIx (rOp qIx (rVar 6) (rVar 13)) (rC (PV.int 0))) (rC (PV.int 0)))
                    (rOp qIx (rVar 7) (rC (PV.int 1))))
                  (rOp (qI CM fun i j => PV.int (i * j)) (rOp qIx (rVar 7) (rC (PV.int 0)))
                    (rOp qIx (rOp qIx (rOp qIx (rVar 6) (rVar 13)) (rC (PV.int 0))) (rC (PV.int 1)))))))
            (rAsg (rOp (qI0 fun i j => PV.int (i + j)) (rVar 13) (rC (PV.int 1))) (gNm 13)))
          (rDrop (rBM "list" qInsert (rVar 6) (rCons (rVar 13) (rCons (rVar 12) rNil))))))) = R := ⟨_, rfl⟩
    rw [hR]
    have goes : R
      { nx := Inv (i + 1), rt := Fg Q, bk := fun τ' J' => ∃ x, τ'[6]? = some (some x) ∧ Fg Q x J', ct := Inv (i + 1) }
      [some (PV.fl (List.map Leg.V ls)), some (fr t), some (PV.int post), some (fr l0.m), some (PV.ref g), u5, some (PV.ref o), some (fr m), some (PV.bl false), some lb.V, some la.V, some (PV.bl (aboveB lb m post)), some row.V, u13]
      (put (put J g (HQ.lst (List.map fr cs))) o (HQ.lst (List.map Go.V gs))) := by
      rw [← hR]
      simp! only [qInP, sqQ, put_same]
      refine ⟨pur_g _, purs_g gs, hdep, hcons, ?_⟩
      rw [any_g]
      by_cases c4 : row ∈ gs
      · rw [decide_eq_true c4]
        simp! only []
        exact stay fun x hx hp => by rw [hru x hx hp]; exact c4
      rw [decide_eq_false c4]
      simp! only [put_same]
      refine ⟨fun k τ' J' => ∃ j : Nat, j + k = gs.length ∧ τ' = [some (.fl (ls.map Leg.V)), some (fr t), some (.int post), some (fr l0.m), some (.ref g), u5, some (.ref o), some (fr m), some (.bl false), some lb.V, some la.V, some (.bl (aboveB lb m post)), some row.V, some (.int (j : Nat))] ∧ J' = put (put J g (.lst (cs.map fr))) o (.lst (gs.map Go.V)) ∧ ∀ (k : Nat) y, k < j → gs[k]? = some y → y.m < m, ⟨gs.length, 0, by omega, rfl, rfl, fun k y hk => by omega⟩, ?_⟩
      rintro k τ' J' ⟨j, hjk, rfl, rfl, hlow⟩
      simp! only [put_same, List.length_map]
      by_cases c5 : j < gs.length
      · rw [if_pos (by omega)]
        have ha : atI (gs.map Go.V) (j : Int) = some (gs[j]).V := atI_nat (by rw [List.getElem?_map, List.getElem?_eq_getElem c5]; rfl)
        have sj := scs _ (List.mem_of_mem_take ((mgs _).mp (List.getElem_mem c5)).1)
        have hget : gs[j]? = some gs[j] := List.getElem?_eq_getElem c5
        generalize gs[j] = y at ha sj hget ⊢
        simp! only [ha, ix_g0, cross_lt']
        refine ⟨.of sj.num sm.den, .of sm.num sj.den, ?_⟩
        by_cases c6 : y.m < m
        · rw [if_pos c6]
          refine ⟨_, fun τ'' J'' h => ⟨k - 1, by omega, h⟩, j + 1, by omega, by rw [Int.natCast_succ], rfl, fun k' y' hk' e => ?_⟩
          rcases Nat.lt_or_eq_of_le (Nat.le_of_lt_succ hk') with h | h
          · exact hlow k' y' h e
          · subst h; rw [hget] at e; cases e; exact c6
        · rw [if_neg c6]
          refine ⟨_, j, rfl, rfl, by rw [List.length_map]; omega, small1000 (by rw [List.length_map]; omega), by omega, ?_⟩
          rw [put_put]
          refine fin j c4 (by omega) hlow fun k' y' hk' e => ?_
          rcases Nat.lt_or_eq_of_le hk' with h | h
          · have hlt : y.lt y' = true := List.pairwise_iff_getElem.mp srt j k' c5 (List.getElem?_eq_some_iff.mp e).1 h |> fun z => by
              have e1 := (List.getElem?_eq_some_iff.mp hget).2
              have e2 := (List.getElem?_eq_some_iff.mp e).2
              rw [e1, e2] at z; exact z
            have := of_decide_eq_true hlt
            grind
          · subst h; rw [hget] at e; cases e; exact c6
      · rw [if_neg (by omega)]
        simp! only [put_same]
        refine ⟨_, j, rfl, rfl, by rw [List.length_map]; omega, small1000 (by rw [List.length_map]; omega), by omega, ?_⟩
        rw [put_put]
        exact fin j c4 (by omega) hlow fun k' y' hk' e => by
          have := (List.getElem?_eq_some_iff.mp e).1
          omega
    cases hb : aboveB lb m post with
    | true =>
      rw [hb] at hrow goes
      simp! only [hup, hrow]
      exact goes
    | false =>
      rw [hb] at hrow goes
      simp! only [hdn, hrow]
      exact goes
  · intro τ J' hv
    obtain ⟨gs, u5, u7, u8, u9, u10, u11, u12, u13, rfl, rfl, srt, lgs, mgs⟩ := (hInv _ _ _).mp hv
    rw [List.length_map, List.take_length] at mgs
    simp! only []
    have eg : gs = goingsQ ls last t post := by
      rw [goings_gq t post last ls hlast]
      refine srtG_ext (lt := Go.lt) Go.irr Go.tr srt (gq_srt hne hris.s hris.l) fun x => ?_
      rw [gq_mem hne hris.s hris.l, mgs]
      exact ⟨fun h => h.2, fun h => ⟨hcand x h, h⟩⟩
    rw [eg]
    exact Fg.frz (less_two hg hoJ) put_same hoJ q
theorem LAt.sub {cL : Addr} {J J' : Hq} {p r : Addr} {rows : List Leg} {g : Option Rat} (h : LAt cL J p r rows g) (s : Sub J J') : LAt cL J' p r rows g := ⟨s _ _ h.o, s _ _ h.l⟩
theorem gd_one {m p : Rat} {v : Int} (S : Sc L60 MM m) (sp : Sz 101 p) (bv : v.natAbs ≤ 1000) : Gd p.den 0 [⟨m, p, v⟩] := by
  refine ⟨by simp, fun l hl' => ?_, Nat.le_refl 1⟩
  simp only [List.mem_cons, List.not_mem_nil, or_false] at hl'
  subst hl'
  refine ⟨S, ?_, bv⟩
  have := (Sc.of_sz sp).scale (E := L60)
  rw [Nat.mul_comm] at this
  exact this.mono (Nat.le_add_right _ _)
theorem den_le {n : Nat} {p : Rat} (h : Sz n p) : p.den ≤ 2 ^ n := by have := h.den.lt; simpa using Nat.le_of_lt this
theorem mm_of {B : Nat} {m : Rat} (S : Sc L60 (B * L60) m) (h : B ≤ 2000000) : Sc L60 MM m := S.mono (by unfold MM; exact Nat.mul_le_mul_right _ (by omega))
theorem LAt.but {cL : Addr} {J J' : Hq} {p r z : Addr} {rows : List Leg} {g : Option Rat} (h : LAt cL J p r rows g) (k : ∀ a, a ≠ z → J' a = J a) (h1 : p ≠ z) (h2 : r ≠ z) : LAt cL J' p r rows g := ⟨by rw [k p h1]; exact h.o, by rw [k r h2]; exact h.l⟩
def asI : PV → Int
  | .int i => i
  | _ => 0
theorem fdiv_abs {a b : Int} (hb : 0 < b) : (a.fdiv b).natAbs ≤ a.natAbs := by
  rw [Int.fdiv_eq_ediv_of_nonneg _ (by omega)]
  rcases Int.lt_or_le a 0 with h | h
  · have h1 : a ≤ a / b := by
      have h2 : a / b * b ≤ a := Int.ediv_mul_le a (by omega)
      have h3 := Int.le_ediv_of_mul_le (a := a) (b := a) (c := b) hb (by
        have : a * b ≤ a * 1 := Int.mul_le_mul_of_nonpos_left (by omega) (by omega)
        omega)
      exact h3
    have h4 : a / b < 0 := Int.ediv_neg_of_neg_of_pos h hb
    omega
  · have h1 : 0 ≤ a / b := Int.ediv_nonneg h (by omega)
    have h2 : a / b ≤ a := Int.ediv_le_self _ h
    omega
theorem c00 : (((0 : Int)) : Rat) = 0 := rfl
theorem purs_ls : ∀ ls : List Leg, purs (ls.map Leg.V) = true
  | [] => rfl
  | l :: ls => by rw [List.map_cons, purs_cons, pur_l, purs_ls ls]; rfl
theorem deps_ls : ∀ ls : List Leg, deps (pyOfs (ls.map Leg.V)) ≤ 2
  | [] => by simp [pyOfs, deps]
  | l :: ls => by
    have := deps_ls ls
    rw [List.map_cons]
    simp only [pyOfs, deps]
    have h1 : dep (pyOf l.V) ≤ 2 := by simp [Leg.V, fr, pyOf, pyOfs, dep, deps]
    omega
theorem cm_ls (ls : List Leg) : cmQ (.fl (ls.map Leg.V)) := ⟨by simpa [pur] using purs_ls ls, by have := deps_ls ls; simp only [pyOf, dep]; omega⟩
abbrev s_law : Stmt := (top 41)
theorem sc_law : L2.FnScope ["_law_script", "_law_head", "_law_mode", "_law_place", "_law_pace", "_law_log", "_law_cells", "_law_made", "_law_rows", "_law_until", "_law_k", "_law_row", "_law_leg", "_law_post", "_law_due", "_law_legs", "_law_found", "_law_j"] ["_law_script"] (L2.defScope s_law) := ⟨rfl, rfl, rfl, by decide +kernel, rfl, by decide +kernel, by decide +kernel⟩
theorem okr_law {cL f : Addr} {fd : FuncData} (F : Fun K "law" "law" s_law f fd) (Z : BltR mg) (C_cell : CanR P w K mg base 1 "_law_cell" ["_law_script", "_law_k"] spCellF) (C_digits : CanR P w K mg base 1 "_law_digits" ["_law_cell_here", "_law_sizes"] spDigR) (C_later : CanR P w K mg base 2 "_law_later" ["_law_clock", "_law_number", "_law_bottom", "_law_mode"] spLater) (C_placed : CanR P w K mg base 1 "_law_placed" ["_law_number", "_law_mode"] spPlacedR) (C_paced : CanR P w K mg base 1 "_law_paced" ["_law_number", "_law_mode"] spPacedR)
    (C_logged : CanR P w K mg base 6 "_law_logged" ["_law_log", "_law_rows", "_law_cells", "_law_mode", "_law_moment"] (spLogged cL)) (C_goings : CanR P w K mg base 4 "_law_goings" ["_law_rows", "_law_until", "_law_post"] spGoingsL) (C_goings_by : CanR P w K mg base 7 "goings_by" ["legs", "until", "post"] spGoings) (C_goingrows : CanR P w K mg base 3 "_law_goingrows" ["_law_found", "_law_due"] spGRows)
    (M_Log : MakR P w K mg base cL 1 "Log" ["self", "moment", "place", "pace"] (spLInit cL)) (m_Log_legs : MthR P w K mg base cL 1 "legs" ["self"] (spLLegs cL)) : FnOk P w K mg base (Fly P w) 8 f fd ["_law_script"] (LSp K spLawR) := by
  refine okR F sc_law (fun xs J Q E h => ?_) (fun cdv A outer s H E G xs J Q E2 hr h B => ?_)
  · obtain ⟨ns, rfl, _⟩ := h; rfl
  obtain ⟨ns, rfl, hl, hJ, q⟩ := h
  refine ⟨_, (rb_cons (rs_set (i := 1) sc_law.nd rfl (Or.inl rfl) (re_fn C_digits B hr (by decide) rfl (ra_cons (re_fn C_cell B hr (by decide) rfl (ra_cons (rv 0) (ra_cons re_int ra_nil))) (ra_cons (re_fl (ra_cst [.int 4, .int 16, .int 2000001, .int 2001, .int 400000, .int 60, .int 8] rfl [.int 4, .int 16, .int 2000001, .int 2001, .int 400000, .int 60, .int 8] rfl)) ra_nil))))
      (rb_cons (rs_set (i := 2) sc_law.nd rfl (Or.inl rfl) (re_ix iq_ix (rv 1) re_int (fun _ _ => rfl)))
      (rb_cons (rs_set (i := 3) sc_law.nd rfl (Or.inl rfl) (re_fn C_placed B hr (by decide) rfl (ra_cons (re_ix iq_ix (rv 1) re_int (fun _ _ => rfl)) (ra_cons (rv 2) ra_nil))))
      (rb_cons (rs_set (i := 4) sc_law.nd rfl (Or.inl rfl) (re_fn C_paced B hr (by decide) rfl (ra_cons (re_ix iq_ix (rv 1) re_int (fun _ _ => rfl)) (ra_cons (rv 2) ra_nil))))
      (rb_cons (rs_set (i := 5) sc_law.nd rfl (Or.inl rfl) (re_make M_Log B hr (by decide) rfl (ra_cons (re_tup (ra_cons re_int (ra_cons re_int ra_nil))) (ra_cons (re_tup (ra_cons (rv 3) (ra_cons re_int ra_nil))) (ra_cons (rv 4) ra_nil)))))
      (rb_cons (rs_lc (i := 6) (L2.defScope s_law) ["_law_script", "_law_head", "_law_mode", "_law_place", "_law_pace", "_law_log", "_law_cells", "_law_made", "_law_rows", "_law_until", "_law_k", "_law_row", "_law_leg", "_law_post", "_law_due", "_law_legs", "_law_found", "_law_j"] [("_law_script", 0)] rfl rfl rfl sc_law.nd rfl (Or.inl rfl) (ri_range1 rfl Z.range (ra_cons (re_op oq_add (re_ix iq_ix (rv 1) re_int (fun _ _ => rfl)) (re_op oq_mul re_int (re_op oq_fdiv (re_ix iq_ix (rv 1) re_int (fun _ _ => rfl)) re_int))) ra_nil)) (fun _ _ _ _ _ _ => (re_fn C_cell ebd0 hr (by decide) rfl (ra_cons (rv 1) (ra_cons (re_op oq_add re_int (rv 0)) ra_nil)))))
      (rb_cons (rs_set (i := 7) sc_law.nd rfl (Or.inl rfl) (re_fn C_logged B hr (by decide) rfl (ra_cons (rv 5) (ra_cons (re_fl (ra_cons (re_tup (ra_cons (re_tup (ra_cons re_int (ra_cons re_int ra_nil))) (ra_cons (re_tup (ra_cons (rv 3) (ra_cons re_int ra_nil))) (ra_cons (rv 4) ra_nil)))) ra_nil)) (ra_cons (rv 6) (ra_cons (rv 2) (ra_cons (re_tup (ra_cons re_int (ra_cons re_int ra_nil))) ra_nil)))))))
      (rb_cons (rs_if (rt_cmp oq_is (rv 7) re_non (L2.nomark _)) (rb_one (rs_ret re_bl)) rb_nil)
      (rb_cons (rs_set (i := 8) sc_law.nd rfl (Or.inl rfl) (re_ix iq_ix (rv 7) re_int (fun _ _ => rfl)))
      (rb_cons (rs_set (i := 9) sc_law.nd rfl (Or.inl rfl) (re_fn C_later B hr (by decide) rfl (ra_cons (re_ix iq_ix (rv 7) re_int (fun _ _ => rfl)) (ra_cons (re_ix iq_ix (rv 1) re_int (fun _ _ => rfl)) (ra_cons (re_ix iq_ix (rv 1) re_int (fun _ _ => rfl)) (ra_cons (rv 2) ra_nil))))))
      (rb_cons (rs_for cxF_own rfl (ri_range1 rfl Z.range (ra_cons re_int ra_nil)) (rg_name (i := 10) sc_law.nd rfl (Or.inl rfl)) (rb_cons (rs_set (i := 11) sc_law.nd rfl (Or.inl rfl) (re_fn C_digits B hr (by decide) rfl (ra_cons (re_fn C_cell B hr (by decide) rfl (ra_cons (rv 0) (ra_cons (re_op oq_add re_int (rv 10)) ra_nil))) (ra_cons (re_fl (ra_cst [.int 4, .int 97, .int 2000001, .int 3] rfl [.int 4, .int 97, .int 2000001, .int 3] rfl)) ra_nil))))
      (rb_cons (rs_set (i := 12) sc_law.nd rfl (Or.inl rfl) (re_ix iq_ix (rv 8) (re_op oq_mod (re_ix iq_ix (rv 11) re_int (fun _ _ => rfl)) (re_callB cq_len rfl Z.len boot_len (ra_cons (rv 8) ra_nil))) (fun _ _ => rfl)))
      (rb_cons (rs_set (i := 13) sc_law.nd rfl (Or.inl rfl) (re_op oq_add (re_op oq_fdiv (re_ix iq_ix (re_ix iq_ix (rv 12) re_int (fun _ _ => rfl)) re_int (fun _ _ => rfl)) (re_ix iq_ix (re_ix iq_ix (rv 12) re_int (fun _ _ => rfl)) re_int (fun _ _ => rfl))) (re_op oq_fdiv (re_ix iq_ix (rv 11) re_int (fun _ _ => rfl)) re_int)))
      (rb_join (rs_if (rt_cmp (oq_eq hr.units61) (re_ix iq_ix (rv 11) re_int (fun _ _ => rfl)) re_int (L2.nomark _)) (rb_one (rs_set (i := 13) sc_law.nd rfl (Or.inl rfl) (re_fn C_placed B hr (by decide) rfl (ra_cons (re_ix iq_ix (rv 11) re_int (fun _ _ => rfl)) (ra_cons (rv 2) ra_nil))))) rb_nil)
      (rb_cons (rs_set (i := 14) sc_law.nd rfl (Or.inl rfl) (re_fn C_goings B hr (by decide) rfl (ra_cons (rv 8) (ra_cons (rv 9) (ra_cons (rv 13) ra_nil)))))
      (rb_cons (rs_set (i := 15) sc_law.nd rfl (Or.inl rfl) (re_meth0 (pl := _) m_Log_legs B hr (by decide) (rv 5)))
      (rb_cons (rs_set (i := 16) sc_law.nd rfl (Or.inl rfl) (re_fn C_goings_by B hr (by decide) rfl (ra_cons (rv 15) (ra_cons (rv 9) (ra_cons (rv 13) ra_nil)))))
      (rb_cons (rs_if (rw_rt (rw_or (rt_not (rt_val (re_fn C_goingrows B hr (by decide) rfl (ra_cons (rv 16) (ra_cons (rv 14) ra_nil))))) (rw_or1 (rt_cmp (oq_ne hr.units61) (rv 15) (rv 8) (L2.nomark _))))) (rb_one (rs_ret re_bl)) rb_nil)
      (rb_one (rs_for cxF_own rfl (ri_range1 rfl Z.range (ra_cons (re_op oq_sub (re_callB cq_len rfl Z.len boot_len (ra_cons (rv 16) ra_nil)) re_int) ra_nil)) (rg_name (i := 17) sc_law.nd rfl (Or.inl rfl)) (rb_one (rs_if (rt_cmp (oq_eq hr.units61) (re_ix iq_ix (re_ix iq_ix (rv 16) (rv 17) (fun _ _ => rfl)) re_int (fun _ _ => rfl)) (re_ix iq_ix (re_ix iq_ix (rv 16) (re_op oq_add (rv 17) re_int) (fun _ _ => rfl)) re_int (fun _ _ => rfl)) (L2.nomark _)) (rb_one (rs_ret re_bl)) rb_nil)))))))))))))
      (rb_one (rs_ret re_bl))))))))))))), ?_⟩
  simp! only []
  refine ⟨ns, 0, rfl, by decide, by decide, ?_⟩
  refine ⟨_, [4, 16, 2000001, 2001, 400000, 60, 8], rfl, sizes_ok (by decide), by decide, fun ds hD => ?_⟩
  obtain ⟨d0, ds, rfl, d00, d01, hD⟩ := hD.cons
  obtain ⟨d1, ds, rfl, d10, d11, hD⟩ := hD.cons
  obtain ⟨d2, ds, rfl, d20, d21, hD⟩ := hD.cons
  obtain ⟨d3, ds, rfl, d30, d31, hD⟩ := hD.cons
  obtain ⟨d4, ds, rfl, d40, d41, hD⟩ := hD.cons
  obtain ⟨d5, ds, rfl, d50, d51, hD⟩ := hD.cons
  obtain ⟨d6, ds, rfl, d60, d61, hD⟩ := hD.cons
  cases hD.nil
  simp! only []
  refine ⟨d2, d0, rfl, d20, fun pl hpl => ?_⟩
  simp! only []
  refine ⟨d3, d0, rfl, d30, d31, fun pv hpv => ?_⟩
  simp! only [fr_int, c00]
  refine fun a ha => ⟨a, ⟨0, (pl : Rat), pv⟩, rfl, put_same, fun r hr' => ⟨rfl, ?_⟩⟩
  have nra : r ≠ a := by intro e; subst e; rw [put_same] at hr'; cases hr'
  have b0 : LAt cL (put (put (put J a (.ins cL [])) r (.lst [(Leg.mk 0 (pl : Rat) pv).V])) a (.ins cL [("rows", .ref r), ("gone", .non)])) a r [⟨0, (pl : Rat), pv⟩] none := ⟨put_same, by rw [put_ne nra]; exact put_same⟩
  generalize (put (put (put J a (.ins cL [])) r (.lst [(Leg.mk 0 (pl : Rat) pv).V])) a (.ins cL [("rows", .ref r), ("gone", .non)])) = J1 at b0 ⊢
  have q6 : 0 ≤ d6.fdiv 7 ∧ d6.fdiv 7 ≤ 1 := by rw [Int.fdiv_eq_ediv_of_nonneg _ (by decide)]; omega
  simp! only [rLCf]
  generalize d6.fdiv 7 = k6 at q6 ⊢
  refine ⟨⟨by decide, (Bd.small (x := 7) (by decide) (by decide)).mono (by decide)⟩, .of (.small (x := 40) (by decide) (by decide)) (.small (x := k6) (by omega) (by omega)), by omega, by omega, fun _ => true, fun x => .int (cellF ns (6 + asI x)), ⟨by rw [irow_len]; exact small1000 (by omega), fun J' _ => ⟨trivial, fun x hx => ⟨⟨rfl, rfl⟩, fun _ => ?_⟩⟩⟩, ?_⟩
  · obtain ⟨i, hi⟩ := List.mem_iff_getElem?.mp hx
    obtain ⟨i1, rfl⟩ := (irow_get _ _ _ _).mp hi
    simp! only []
    exact ⟨ns, _, rfl, by omega, by omega, rfl, rfl⟩
  obtain ⟨cs, hcs, hcl⟩ : ∃ cs : List Int, ((irow 0 (d1 + 40 * k6).toNat).filter fun _ => true).map (fun x => PV.int (cellF ns (6 + asI x))) = cs.map .int ∧ cs.length ≤ 55 := ⟨((irow 0 (d1 + 40 * k6).toNat).filter fun _ => true).map (fun x => cellF ns (6 + asI x)), by rw [List.map_map]; rfl, by
    rw [List.length_map]
    exact Nat.le_trans (List.length_filter_le _ _) (by rw [irow_len]; omega)⟩
  rw [hcs]
  have spl : Sz 101 (pl : Rat) := ⟨(Bd.small (x := pl) (by omega) (by omega)).mono (by decide), (Bd.small (x := 1) (by decide) (by decide)).mono (by decide)⟩
  simp! only [fr_int, c00, tup_l]
  refine ⟨a, r, [⟨0, (pl : Rat), pv⟩], none, cs, d0, 0, (pl : Rat).den, 0, 501, rfl, b0, gd_one (sc0 _) spl (by omega), (pl : Rat).den_pos, den_le spl, by omega, d00, d01, sc0 _, Ris.one _, by omega, fun J2 rows m1 b1 fr1 g1 S1 hle1 ris1 => ?_⟩
  have gl := g1.len
  have hne := g1.ne
  have gls : ∀ l ∈ rows, GLeg l := fun l hl' => by
    have h1 := lsz_of (g1.ok l hl') (den_le spl) (pl : Rat).den_pos (by omega)
    have h2 := (g1.ok l hl').v
    exact ⟨h1.m, h1.p, by omega, by omega⟩
  simp! only []
  have SM1 := mm_of S1 (by omega)
  refine ⟨m1, d4, d5, d0, rfl, d40, d50, d00, d01, by omega, (mm_sz SM1).mono (by decide), fun m2 hm2 => ?_⟩
  have S2 : Sc L60 ((501 + 501 * cs.length + 501) * L60) m2 := (hm2.sc S1).mono (by rw [← Nat.add_mul]; exact Nat.le_refl _)
  have s2 : Sz 240 m2 := (mm_sz (mm_of S2 (by omega))).mono (by decide)
  have ris2 : Ris rows m2 := ⟨ris1.s, fun l hl' => Rat.le_trans (ris1.l l hl') hm2.le⟩
  obtain ⟨last, hlast⟩ : ∃ l, rows.getLast? = some l := ⟨_, List.getLast?_eq_some_getLast hne⟩
  have hlen0 : 0 < rows.length := List.length_pos_iff.mpr hne
  simp! only []
  refine ⟨by decide, by decide, for_rng (fun i τ J' => ∃ u10 u11 u12 u13 u14 u15 u16 u17 : Option PV, τ = [some (PV.fl (List.map PV.int ns)), some (PV.fl [PV.int d0, PV.int d1, PV.int d2, PV.int d3, PV.int d4, PV.int d5, PV.int d6]), some (PV.int d0), some (PV.int pl), some (PV.int pv), some (PV.ref a), some (PV.fl (List.map PV.int cs)), some (PV.tup [PV.fl (List.map Leg.V rows), fr m1]), some (PV.fl (List.map Leg.V rows)), some (fr m2), u10, u11, u12, u13, u14, u15, u16, u17] ∧ J' = J2) ⟨_, _, _, _, _, _, _, _, rfl, rfl⟩ ?_ ?_⟩
  · rintro i τ J' hi ⟨u10, u11, u12, u13, u14, u15, u16, u17, rfl, rfl⟩
    have hi : i < 5 := hi
    simp! only []
    refine ⟨ns, _, rfl, by omega, by omega, ?_⟩
    refine ⟨_, [4, 97, 2000001, 3], rfl, sizes_ok (by decide), by decide, fun ds hD => ?_⟩
    obtain ⟨e0, ds, rfl, e00, e01, hD⟩ := hD.cons
    obtain ⟨e1, ds, rfl, e10, e11, hD⟩ := hD.cons
    obtain ⟨e2, ds, rfl, e20, e21, hD⟩ := hD.cons
    obtain ⟨e3, ds, rfl, e30, e31, hD⟩ := hD.cons
    cases hD.nil
    obtain ⟨j, hj⟩ : ∃ j : Nat, e1 % (rows.length : Int) = j := ⟨(e1 % (rows.length : Int)).toNat, by have := Int.emod_nonneg e1 (b := (rows.length : Int)) (by omega); omega⟩
    have hjl : j < rows.length := by have := Int.emod_lt_of_pos e1 (b := (rows.length : Int)) (by omega); omega
    have ha' : atI (rows.map Leg.V) (j : Int) = some (rows[j]).V := atI_nat (by rw [List.getElem?_map, List.getElem?_eq_getElem hjl]; rfl)
    have gj := gls _ (List.getElem_mem hjl)
    simp! only [List.length_map, hj, ha', ix_l1]
    generalize rows[j] = lg at gj ⊢
    have q3 : 0 ≤ e3.fdiv 2 ∧ e3.fdiv 2 ≤ 1 := by rw [Int.fdiv_eq_ediv_of_nonneg _ (by decide)]; omega
    have hdg := den_gt lg.p
    have bpp : Bd 250 (lg.p.num.fdiv (lg.p.den : Int) + e3.fdiv 2) := by
      have h1 : Bd 240 (lg.p.num.fdiv (lg.p.den : Int)) := ⟨Nat.lt_of_le_of_lt (fdiv_abs (by omega)) gj.p.num.lt⟩
      exact (h1.add (k := 245) ((Bd.small (x := e3.fdiv 2) (by omega) (by omega)).mono (by decide : 64 ≤ 240))).mono (by decide)
    refine ⟨by omega, ?_⟩
    simp! only [ix_l1]
    refine ⟨⟨by omega, gj.p.den.mono (by decide)⟩, ⟨by decide, (Bd.small (x := 2) (by decide) (by decide)).mono (by decide)⟩, ?_⟩
    generalize lg.p.num.fdiv (lg.p.den : Int) + e3.fdiv 2 = po at bpp ⊢
    obtain ⟨M, hM⟩ : ∃ M : Sr → Hq → Prop, ∀ τ' J'', M τ' J'' ↔ ∃ post : Int, Bd 250 post ∧ τ' = [some (PV.fl (List.map PV.int ns)), some (PV.fl [PV.int d0, PV.int d1, PV.int d2, PV.int d3, PV.int d4, PV.int d5, PV.int d6]), some (PV.int d0), some (PV.int pl), some (PV.int pv), some (PV.ref a), some (PV.fl (List.map PV.int cs)), some (PV.tup [PV.fl (List.map Leg.V rows), fr m1]), some (PV.fl (List.map Leg.V rows)), some (fr m2), some (.int (0 + (i : Int))), some (.fl [.int e0, .int e1, .int e2, .int e3]), some lg.V, some (.int post), u14, u15, u16, u17] ∧ J'' = J' := ⟨_, fun _ _ => Iff.rfl⟩
    refine ⟨M, ?_, ?_⟩
    · simp! only []
      split
      · refine ⟨e2, d0, rfl, e20, fun v hv => (hM _ _).mpr ⟨v, (Bd.small (x := v) (by omega) (by omega)).mono (by decide), rfl, rfl⟩⟩
      · exact (hM _ _).mpr ⟨po, bpp, rfl, rfl⟩
    intro τ' J'' hm
    obtain ⟨post, bp, rfl, rfl⟩ := (hM _ _).mp hm
    clear hm hM M
    simp! only []
    refine ⟨rows, last, m2, post, rfl, hlast, ris2, gls, s2, bp, by omega, ?_⟩
    simp! only [b1.o]
    refine ⟨lkL3 _ _, a, r, rows, none, rfl, b1, .inl ?_⟩
    simp! only []
    refine ⟨rows, last, m2, post, rfl, hlast, gls, s2, bp, by omega, ?_⟩
    have hgl : (goingsQ rows last m2 post).length ≤ 1000 := by
      unfold goingsQ
      have h1 := gs_len (rows.zip (followed rows last m2)) post
      have h2 : (rows.zip (followed rows last m2)).length ≤ rows.length := by rw [List.length_zip]; exact Nat.min_le_left _ _
      omega
    obtain ⟨l0, hl0⟩ : ∃ l, rows.head? = some l := by
      cases rows with
      | nil => exact absurd rfl hne
      | cons l ls => exact ⟨l, rfl⟩
    obtain ⟨z, halt⟩ := gq_alt (T := m2) (post := post) hl0 ris2.s ris2.l
    rw [← goings_gq m2 post last rows hlast] at halt
    generalize goingsQ rows last m2 post = gs at hgl halt ⊢
    simp! only []
    refine ⟨gs, rfl, hgl, ?_⟩
    simp! only []
    refine ⟨cm_ls rows, purs_ls rows, ?_⟩
    rw [eq_self]
    simp! only [List.length_map]
    refine ⟨by omega, by omega, for_rng (fun k τ J3 => ∃ u17 : Option PV, τ = [some (PV.fl (List.map PV.int ns)), some (PV.fl [PV.int d0, PV.int d1, PV.int d2, PV.int d3, PV.int d4, PV.int d5, PV.int d6]), some (PV.int d0), some (PV.int pl), some (PV.int pv), some (PV.ref a), some (PV.fl (List.map PV.int cs)), some (PV.tup [PV.fl (List.map Leg.V rows), fr m1]), some (PV.fl (List.map Leg.V rows)), some (fr m2), some (PV.int (0 + (i : Int))), some (PV.fl [PV.int e0, PV.int e1, PV.int e2, PV.int e3]), some lg.V, some (PV.int post), some (PV.fl (List.map Go.V gs)), some (PV.fl (List.map Leg.V rows)), some (PV.fl (List.map Go.V gs)), u17] ∧ J3 = J'') ⟨_, rfl, rfl⟩ ?_ ?_⟩
    · rintro k τ J3 hk ⟨u17, rfl, rfl⟩
      have hk1 : k + 1 < gs.length := by omega
      have ea : gs[k]? = some gs[k] := List.getElem?_eq_getElem (by omega)
      have eb : gs[k + 1]? = some gs[k + 1] := List.getElem?_eq_getElem hk1
      have h1 : atI (gs.map Go.V) (0 + (k : Int)) = some (gs[k]).V := by rw [Int.zero_add]; exact atI_nat (by rw [List.getElem?_map, ea]; rfl)
      have h2 : atI (gs.map Go.V) (0 + (k : Int) + 1) = some (gs[k + 1]).V := by rw [Int.zero_add, show (k : Int) + 1 = ((k + 1 : Nat) : Int) by omega]; exact atI_nat (by rw [List.getElem?_map, eb]; rfl)
      have hne' := halt.get ea eb
      generalize gs[k] = x at h1 hne'
      generalize gs[k + 1] = y at h2 hne'
      have hs : ¬ updn x.u = updn y.u := by rw [updn_inj]; exact hne'
      simp! only [h1, h2, ix_g1, if_neg hs]
    · rintro τ J3 ⟨u17, rfl, rfl⟩
      exact ⟨_, _, _, _, _, _, _, _, rfl, rfl⟩
  · rintro τ J' ⟨u10, u11, u12, u13, u14, u15, u16, u17, rfl, rfl⟩
    exact q _
end
theorem all_ok {P : Program} {w : World} {K : PySem.W.Frag} {mg : Str → Option Value} (Z : BltR mg) (N : Nought K mg) {c_Log : Addr} (KD_Log : KDef K mg "Log" c_Log) (NA_Log_rows : NoAttr K c_Log "rows") (NA_Log_gone : NoAttr K c_Log "gone") (D_digits : Def K mg "_law_digits" s_digits) (D_shared : Def K mg "shared" s_shared) (D_fraction : Def K mg "fraction" s_fraction) (D_low : Def K mg "_law_low" s_low) (D_less : Def K mg "less" s_less) (D_plus : Def K mg "plus" s_plus) (D_minus : Def K mg "minus" s_minus) (D_times : Def K mg "times" s_times) (D_cell : Def K mg "_law_cell" s_cell) (D_place_on : Def K mg "place_on" s_place_on) (D_at : Def K mg "_law_at" s_at) (D_above : Def K mg "above" s_above) (D_meeting : Def K mg "meeting" s_meeting) (D_came_from_above : Def K mg "came_from_above" s_came_from_above) (D_going : Def K mg "going" s_going) (D_goings_by : Def K mg "goings_by" s_goings_by) (D_whole : Def K mg "_law_whole" s_whole) (D_part : Def K mg "_law_part" s_part) (D_later : Def K mg "_law_later" s_later) (D_turned : Def K mg "_law_turned" s_turned) (D_held : Def K mg "_law_held" s_held) (D_logged : Def K mg "_law_logged" s_logged) (D_placed : Def K mg "_law_placed" s_placed) (D_paced : Def K mg "_law_paced" s_paced) (D_hit : Def K mg "_law_hit" s_hit) (D_side : Def K mg "_law_side" s_side) (D_goings : Def K mg "_law_goings" s_goings) (D_goingrows : Def K mg "_law_goingrows" s_goingrows) (MD_Log___init__ : MDef K c_Log "__init__" "Log.__init__" s_Log___init__) (MD_Log_turn : MDef K c_Log "turn" "Log.turn" s_Log_turn) (MD_Log_legs : MDef K c_Log "legs" "Log.legs" s_Log_legs) {f : Addr} {fd : FuncData} (F : Fun K "law" "law" s_law f fd) (base : Heap) :
    FnOk P w K mg base (Fly P w) 8 f fd ["_law_script"] (LSp K spLawR) := by
  have C_digits := D_digits.can (P := P) (w := w) (base := base) (fun _ _ F => ok_digits F Z.toBlt) fun _ _ _ _ _ _ us hl => match us, hl with | [_, _], _ => rfl
  have L_digits := lift_digits C_digits
  have C_shared := D_shared.can (P := P) (w := w) (base := base) (fun _ _ F => ok_shared F Z.toBlt) fun _ _ _ _ _ _ us hl => match us, hl with | [_, _], _ => rfl
  have C_fraction := D_fraction.can (P := P) (w := w) (base := base) (fun _ _ F => ok_fraction F Z.toBlt C_shared) fun _ _ _ _ _ _ us hl => match us, hl with | [_, _], _ => rfl
  have L_fraction := lift_fraction C_fraction
  have C_low := D_low.can (P := P) (w := w) (base := base) (fun _ _ F => ok_low F Z.toBlt) fun _ _ _ _ _ _ us hl => match us, hl with | [_, _], _ => rfl
  have L_low := lift_low C_low
  have C_less := D_less.can (P := P) (w := w) (base := base) (fun _ _ F => ok_less F Z.toBlt) fun _ _ _ _ _ _ us hl => match us, hl with | [_, _], _ => rfl
  have L_less := lift_less C_less
  have C_plus := D_plus.can (P := P) (w := w) (base := base) (fun _ _ F => ok_plus F Z.toBlt C_fraction) fun _ _ _ _ _ _ us hl => match us, hl with | [_, _], _ => rfl
  have C_minus := D_minus.can (P := P) (w := w) (base := base) (fun _ _ F => ok_minus F Z.toBlt C_fraction) fun _ _ _ _ _ _ us hl => match us, hl with | [_, _], _ => rfl
  have C_times := D_times.can (P := P) (w := w) (base := base) (fun _ _ F => ok_times F Z.toBlt C_fraction) fun _ _ _ _ _ _ us hl => match us, hl with | [_, _], _ => rfl
  have L_plus := lift_plus C_plus
  have L_minus := lift_minus C_minus
  have L_times := lift_times C_times
  have L_cell := D_cell.canR (P := P) (w := w) (base := base) (fun _ _ F => okr_cell F Z) fun _ _ _ _ _ _ us hl => match us, hl with | [_, _], _ => rfl
  have L_place_on := D_place_on.canR (P := P) (w := w) (base := base) (fun _ _ F => okr_place_on F Z L_plus L_minus L_times) fun _ _ _ _ _ _ us hl => match us, hl with | [_, _], _ => rfl
  have L_at := D_at.canR (P := P) (w := w) (base := base) (fun _ _ F => okr_at F Z L_low) fun _ _ _ _ _ _ us hl => match us, hl with | [_, _], _ => rfl
  have M_Log := MD_Log___init__.mak (P := P) (w := w) (base := base) KD_Log (fun _ _ F => ok_Log_init F KD_Log NA_Log_rows NA_Log_gone) fun _ _ _ _ _ _ us hl => match us, hl with | [_, _, _, _], _ => rfl
  have m_Log_turn := MD_Log_turn.mth (P := P) (w := w) (base := base) (mg := mg) KD_Log.cl (fun _ _ F => ok_Log_turn F Z KD_Log NA_Log_rows L_place_on) fun _ _ _ _ _ _ us hl => match us, hl with | [_, _, _], _ => rfl
  have m_Log_legs := MD_Log_legs.mth (P := P) (w := w) (base := base) (mg := mg) KD_Log.cl (fun _ _ F => ok_Log_legs F Z KD_Log NA_Log_rows) fun _ _ _ _ _ _ us hl => match us, hl with | [_], _ => rfl
  have L_above := D_above.canR (P := P) (w := w) (base := base) (fun _ _ F => okr_above F Z L_place_on L_less) fun _ _ _ _ _ _ us hl => match us, hl with | [_, _, _], _ => rfl
  have L_meeting := D_meeting.canR (P := P) (w := w) (base := base) (fun _ _ F => okr_meeting F Z N L_place_on L_minus L_fraction) fun _ _ _ _ _ _ us hl => match us, hl with | [_, _], _ => rfl
  have L_came_from_above := D_came_from_above.canR (P := P) (w := w) (base := base) (fun _ _ F => okr_came_from_above F Z L_place_on L_above) fun _ _ _ _ _ _ us hl => match us, hl with | [_, _, _], _ => rfl
  have L_going := D_going.canR (P := P) (w := w) (base := base) (fun _ _ F => okr_going F Z L_above) fun _ _ _ _ _ _ us hl => match us, hl with | [_, _, _], _ => rfl
  have L_goings_by := D_goings_by.canR (P := P) (w := w) (base := base) (fun _ _ F => okr_goings_by F Z N L_place_on L_meeting L_less L_going L_came_from_above L_above) fun _ _ _ _ _ _ us hl => match us, hl with | [_, _, _], _ => rfl
  have L_whole := D_whole.canR (P := P) (w := w) (base := base) (fun _ _ F => okr_whole F Z) fun _ _ _ _ _ _ us hl => match us, hl with | [_], _ => rfl
  have L_part := D_part.canR (P := P) (w := w) (base := base) (fun _ _ F => okr_part F Z L_whole) fun _ _ _ _ _ _ us hl => match us, hl with | [_, _], _ => rfl
  have L_later := D_later.canR (P := P) (w := w) (base := base) (fun _ _ F => okr_later F Z L_low) fun _ _ _ _ _ _ us hl => match us, hl with | [_, _, _, _], _ => rfl
  have L_turned := D_turned.canR (P := P) (w := w) (base := base) (fun _ _ F => okr_turned F Z L_at) fun _ _ _ _ _ _ us hl => match us, hl with | [_, _, _], _ => rfl
  have L_held := D_held.canR (P := P) (w := w) (base := base) (fun _ _ F => okr_held F Z) fun _ _ _ _ _ _ us hl => match us, hl with | [_, _], _ => rfl
  have L_logged := D_logged.canR (P := P) (w := w) (base := base) (fun _ _ F => okr_logged F Z L_digits L_later L_turned m_Log_turn) fun _ _ _ _ _ _ us hl => match us, hl with | [_, _, _, _, _], _ => rfl
  have L_placed := D_placed.canR (P := P) (w := w) (base := base) (fun _ _ F => okr_placed F Z) fun _ _ _ _ _ _ us hl => match us, hl with | [_, _], _ => rfl
  have L_paced := D_paced.canR (P := P) (w := w) (base := base) (fun _ _ F => okr_paced F Z) fun _ _ _ _ _ _ us hl => match us, hl with | [_, _], _ => rfl
  have L_hit := D_hit.canR (P := P) (w := w) (base := base) (fun _ _ F => okr_hit F Z L_low) fun _ _ _ _ _ _ us hl => match us, hl with | [_, _], _ => rfl
  have L_side := D_side.canR (P := P) (w := w) (base := base) (fun _ _ F => okr_side F Z L_at) fun _ _ _ _ _ _ us hl => match us, hl with | [_, _, _, _], _ => rfl
  have L_goings := D_goings.canR (P := P) (w := w) (base := base) (fun _ _ F => okr_goings F Z L_hit L_held L_side) fun _ _ _ _ _ _ us hl => match us, hl with | [_, _, _], _ => rfl
  have L_goingrows := D_goingrows.canR (P := P) (w := w) (base := base) (fun _ _ F => okr_goingrows F Z L_part) fun _ _ _ _ _ _ us hl => match us, hl with | [_, _], _ => rfl
  exact okr_law F Z L_cell L_digits L_later L_placed L_paced L_logged L_goings L_goings_by L_goingrows M_Log m_Log_legs
end Ov
def PySem.W.Fast.tw5530712298764549591 : Unit := ()
def PySem.W.Fast.tw5744292688584599167 : Unit := ()
def PySem.W.Fast.tw13233939997249939408 : Unit := ()
def PySem.W.Fast.tw873264907392687047 : Unit := ()
def PySem.W.Fast.tw14468310692117555162 : Unit := ()
def PySem.W.Fast.tw9995441009255892455 : Unit := ()
def PySem.W.Fast.tw7380453199634908120 : Unit := ()
def PySem.W.Fast.tw13053085004441991933 : Unit := ()
def PySem.W.Fast.tw8302705417219835914 : Unit := ()
def PySem.W.Fast.tw2291906292609343427 : Unit := ()
def PySem.W.Fast.tw8914946654977281971 : Unit := ()
def PySem.W.Fast.tw8695748213247035910 : Unit := ()
def PySem.W.Fast.tw14543089091801520406 : Unit := ()
def PySem.W.Fast.tw10842349419214689571 : Unit := ()
def PySem.W.Fast.tw18198802688338376471 : Unit := ()
def PySem.W.Fast.tw16149631222486523945 : Unit := ()
def PySem.W.Fast.tw18199228452527123542 : Unit := ()
def PySem.W.Fast.tw12944509460801607416 : Unit := ()
def PySem.W.Fast.tw11255364441591196703 : Unit := ()
def PySem.W.Fast.tw6357144148046924777 : Unit := ()
def PySem.W.Fast.tw12333717872624305667 : Unit := ()
def PySem.W.Fast.tw12745740501419221040 : Unit := ()
def PySem.W.Fast.tw4109236776497515850 : Unit := ()
def PySem.W.Fast.tw13239054167718369673 : Unit := ()
def PySem.W.Fast.tw9938931718677116607 : Unit := ()
def PySem.W.Fast.tw73506183696848223 : Unit := ()
def PySem.W.Fast.tw14858873326549292052 : Unit := ()
def PySem.W.Fast.tw3866553510050161974 : Unit := ()
def PySem.W.Fast.tw9092331894274911294 : Unit := ()
def PySem.W.Fast.tw16983001356714417777 : Unit := ()
def PySem.W.Fast.tw5761562644568220876 : Unit := ()
def PySem.W.Fast.tw6182218006854063523 : Unit := ()
def PySem.W.Fast.tw18048279075175624467 : Unit := ()
def PySem.W.Fast.tw9820473222677746751 : Unit := ()
def PySem.W.Fast.tw3531085772939531518 : Unit := ()
def PySem.W.Fast.tw15718292615880829628 : Unit := ()
def PySem.W.Fast.tw17328946785978828374 : Unit := ()
def PySem.W.Fast.tw12438560045752525947 : Unit := ()
def PySem.W.Fast.tw9837681279216928584 : Unit := ()
def PySem.W.Fast.tw10082628326142542285 : Unit := ()
def PySem.W.Fast.tw14119964984056090906 : Unit := ()
def PySem.W.Fast.tw667155721158852793 : Unit := ()
open PySem PySem.W PyProof.Rows
set_option maxRecDepth 100000 in
set_option maxHeartbeats 0 in
theorem PySem.Challenge.cw_overhaul_k41_whole_goings_by_holds : PySem.Challenge.rw_overhaul_k41_whole_goings_by.Holds := by
  w_on; o_law; k_head; (case hw => w_witness2)
  k_fill
  refine L2.walk_ofK (l := PySem.Challenge.rw_overhaul_k41_whole_goings_by) (n := 63) (k := 8) (x := "_law_script") (CX := L2.CX0) (sp := Ov.spLawD) rfl (by decide) rfl ⟨rfl, by decide, by decide⟩ (fun w h Y => PySem.W.kIn_of Y) ?F (fun K H a ns hl _ hS => ⟨a, ns, rfl, hS, hl, fun _ => rfl⟩) (fun _ _ _ _ z => z)
  case F =>
    intro w mg fa h KX G hmg
    have D_digits : Ov.Def (L2.KOf KX) mg "_law_digits" Ov.s_digits := by
      dsimp only [L2.KOf]
      refine' Ov.def_mk KX G ?a ?l ?c ?k
      (case a => k_is); (case l => k_is); (case c => k_is); (case k => k_is)
    have D_shared : Ov.Def (L2.KOf KX) mg "shared" Ov.s_shared := by
      dsimp only [L2.KOf]
      refine' Ov.def_mk KX G ?a ?l ?c ?k
      (case a => k_is); (case l => k_is); (case c => k_is); (case k => k_is)
    have D_fraction : Ov.Def (L2.KOf KX) mg "fraction" Ov.s_fraction := by
      dsimp only [L2.KOf]
      refine' Ov.def_mk KX G ?a ?l ?c ?k
      (case a => k_is); (case l => k_is); (case c => k_is); (case k => k_is)
    have D_low : Ov.Def (L2.KOf KX) mg "_law_low" Ov.s_low := by
      dsimp only [L2.KOf]
      refine' Ov.def_mk KX G ?a ?l ?c ?k
      (case a => k_is); (case l => k_is); (case c => k_is); (case k => k_is)
    have D_less : Ov.Def (L2.KOf KX) mg "less" Ov.s_less := by
      dsimp only [L2.KOf]
      refine' Ov.def_mk KX G ?a ?l ?c ?k
      (case a => k_is); (case l => k_is); (case c => k_is); (case k => k_is)
    have D_plus : Ov.Def (L2.KOf KX) mg "plus" Ov.s_plus := by
      dsimp only [L2.KOf]
      refine' Ov.def_mk KX G ?a ?l ?c ?k
      (case a => k_is); (case l => k_is); (case c => k_is); (case k => k_is)
    have D_minus : Ov.Def (L2.KOf KX) mg "minus" Ov.s_minus := by
      dsimp only [L2.KOf]
      refine' Ov.def_mk KX G ?a ?l ?c ?k
      (case a => k_is); (case l => k_is); (case c => k_is); (case k => k_is)
    have D_times : Ov.Def (L2.KOf KX) mg "times" Ov.s_times := by
      dsimp only [L2.KOf]
      refine' Ov.def_mk KX G ?a ?l ?c ?k
      (case a => k_is); (case l => k_is); (case c => k_is); (case k => k_is)
    have D_cell : Ov.Def (L2.KOf KX) mg "_law_cell" Ov.s_cell := by
      dsimp only [L2.KOf]
      refine' Ov.def_mk KX G ?a ?l ?c ?k
      (case a => k_is); (case l => k_is); (case c => k_is); (case k => k_is)
    have D_place_on : Ov.Def (L2.KOf KX) mg "place_on" Ov.s_place_on := by
      dsimp only [L2.KOf]
      refine' Ov.def_mk KX G ?a ?l ?c ?k
      (case a => k_is); (case l => k_is); (case c => k_is); (case k => k_is)
    have D_at : Ov.Def (L2.KOf KX) mg "_law_at" Ov.s_at := by
      dsimp only [L2.KOf]
      refine' Ov.def_mk KX G ?a ?l ?c ?k
      (case a => k_is); (case l => k_is); (case c => k_is); (case k => k_is)
    have D_above : Ov.Def (L2.KOf KX) mg "above" Ov.s_above := by
      dsimp only [L2.KOf]
      refine' Ov.def_mk KX G ?a ?l ?c ?k
      (case a => k_is); (case l => k_is); (case c => k_is); (case k => k_is)
    have D_meeting : Ov.Def (L2.KOf KX) mg "meeting" Ov.s_meeting := by
      dsimp only [L2.KOf]
      refine' Ov.def_mk KX G ?a ?l ?c ?k
      (case a => k_is); (case l => k_is); (case c => k_is); (case k => k_is)
    have D_came_from_above : Ov.Def (L2.KOf KX) mg "came_from_above" Ov.s_came_from_above := by
      dsimp only [L2.KOf]
      refine' Ov.def_mk KX G ?a ?l ?c ?k
      (case a => k_is); (case l => k_is); (case c => k_is); (case k => k_is)
    have D_going : Ov.Def (L2.KOf KX) mg "going" Ov.s_going := by
      dsimp only [L2.KOf]
      refine' Ov.def_mk KX G ?a ?l ?c ?k
      (case a => k_is); (case l => k_is); (case c => k_is); (case k => k_is)
    have D_goings_by : Ov.Def (L2.KOf KX) mg "goings_by" Ov.s_goings_by := by
      dsimp only [L2.KOf]
      refine' Ov.def_mk KX G ?a ?l ?c ?k
      (case a => k_is); (case l => k_is); (case c => k_is); (case k => k_is)
    have D_whole : Ov.Def (L2.KOf KX) mg "_law_whole" Ov.s_whole := by
      dsimp only [L2.KOf]
      refine' Ov.def_mk KX G ?a ?l ?c ?k
      (case a => k_is); (case l => k_is); (case c => k_is); (case k => k_is)
    have D_part : Ov.Def (L2.KOf KX) mg "_law_part" Ov.s_part := by
      dsimp only [L2.KOf]
      refine' Ov.def_mk KX G ?a ?l ?c ?k
      (case a => k_is); (case l => k_is); (case c => k_is); (case k => k_is)
    have D_later : Ov.Def (L2.KOf KX) mg "_law_later" Ov.s_later := by
      dsimp only [L2.KOf]
      refine' Ov.def_mk KX G ?a ?l ?c ?k
      (case a => k_is); (case l => k_is); (case c => k_is); (case k => k_is)
    have D_turned : Ov.Def (L2.KOf KX) mg "_law_turned" Ov.s_turned := by
      dsimp only [L2.KOf]
      refine' Ov.def_mk KX G ?a ?l ?c ?k
      (case a => k_is); (case l => k_is); (case c => k_is); (case k => k_is)
    have D_held : Ov.Def (L2.KOf KX) mg "_law_held" Ov.s_held := by
      dsimp only [L2.KOf]
      refine' Ov.def_mk KX G ?a ?l ?c ?k
      (case a => k_is); (case l => k_is); (case c => k_is); (case k => k_is)
    have D_logged : Ov.Def (L2.KOf KX) mg "_law_logged" Ov.s_logged := by
      dsimp only [L2.KOf]
      refine' Ov.def_mk KX G ?a ?l ?c ?k
      (case a => k_is); (case l => k_is); (case c => k_is); (case k => k_is)
    have D_placed : Ov.Def (L2.KOf KX) mg "_law_placed" Ov.s_placed := by
      dsimp only [L2.KOf]
      refine' Ov.def_mk KX G ?a ?l ?c ?k
      (case a => k_is); (case l => k_is); (case c => k_is); (case k => k_is)
    have D_paced : Ov.Def (L2.KOf KX) mg "_law_paced" Ov.s_paced := by
      dsimp only [L2.KOf]
      refine' Ov.def_mk KX G ?a ?l ?c ?k
      (case a => k_is); (case l => k_is); (case c => k_is); (case k => k_is)
    have D_hit : Ov.Def (L2.KOf KX) mg "_law_hit" Ov.s_hit := by
      dsimp only [L2.KOf]
      refine' Ov.def_mk KX G ?a ?l ?c ?k
      (case a => k_is); (case l => k_is); (case c => k_is); (case k => k_is)
    have D_side : Ov.Def (L2.KOf KX) mg "_law_side" Ov.s_side := by
      dsimp only [L2.KOf]
      refine' Ov.def_mk KX G ?a ?l ?c ?k
      (case a => k_is); (case l => k_is); (case c => k_is); (case k => k_is)
    have D_goings : Ov.Def (L2.KOf KX) mg "_law_goings" Ov.s_goings := by
      dsimp only [L2.KOf]
      refine' Ov.def_mk KX G ?a ?l ?c ?k
      (case a => k_is); (case l => k_is); (case c => k_is); (case k => k_is)
    have D_goingrows : Ov.Def (L2.KOf KX) mg "_law_goingrows" Ov.s_goingrows := by
      dsimp only [L2.KOf]
      refine' Ov.def_mk KX G ?a ?l ?c ?k
      (case a => k_is); (case l => k_is); (case c => k_is); (case k => k_is)
    have D_law : Ov.Def (L2.KOf KX) mg "law" Ov.s_law := by
      dsimp only [L2.KOf]
      refine' Ov.def_mk KX G ?a ?l ?c ?k
      (case a => k_is); (case l => k_is); (case c => k_is); (case k => k_is)
    obtain ⟨c_Log, KD_Log, NA_Log_rows, NA_Log_gone, MD_Log___init__, MD_Log_turn, MD_Log_legs⟩ : ∃ C, Ov.KDef (L2.KOf KX) mg "Log" C ∧ L2.NoAttr (L2.KOf KX) C "rows" ∧ L2.NoAttr (L2.KOf KX) C "gone" ∧ Ov.MDef (L2.KOf KX) C "__init__" "Log.__init__" Ov.s_Log___init__ ∧ Ov.MDef (L2.KOf KX) C "turn" "Log.turn" Ov.s_Log_turn ∧ Ov.MDef (L2.KOf KX) C "legs" "Log.legs" Ov.s_Log_legs := by
      dsimp only [L2.KOf]
      refine' ⟨_, Ov.kdef_mk KX G ?a ?pg ?hd ?po ?sa ?mk ?kc, ?n0, ?n1, Ov.mdef_mk ?m0a ?m0i ?m0l ?m0c ?m0k, Ov.mdef_mk ?m1a ?m1i ?m1l ?m1c ?m1k, Ov.mdef_mk ?m2a ?m2i ?m2l ?m2c ?m2k⟩
      (case a => k_is); (case pg => k_is); (case hd => k_is); (case po => k_is); (case sa => k_is); (case mk => k_is); (case kc => k_is)
      (case n0 => (show PySem.W.findIn _ _ _ = _; k_is))
      (case n1 => (show PySem.W.findIn _ _ _ = _; k_is))
      (case m0a => k_is); (case m0i => k_is); (case m0l => k_is); (case m0c => k_is); (case m0k => k_is)
      (case m1a => k_is); (case m1i => k_is); (case m1l => k_is); (case m1c => k_is); (case m1k => k_is)
      (case m2a => k_is); (case m2i => k_is); (case m2l => k_is); (case m2c => k_is); (case m2k => k_is)
    have Z : Ov.BltR mg := by
      refine' ⟨Ov.Blt.mk (PySem.W.mg_none_of KX G ?z0) (PySem.W.mg_none_of KX G ?z1) (PySem.W.mg_none_of KX G ?z2) (PySem.W.mg_none_of KX G ?z3) (PySem.W.mg_none_of KX G ?z4) (PySem.W.mg_none_of KX G ?z5) (PySem.W.mg_none_of KX G ?z6) (PySem.W.mg_none_of KX G ?z7) (PySem.W.mg_none_of KX G ?z8) (PySem.W.mg_none_of KX G ?z9), PySem.W.mg_none_of KX G ?w0, PySem.W.mg_none_of KX G ?w1, PySem.W.mg_none_of KX G ?w2, PySem.W.mg_none_of KX G ?w3, PySem.W.mg_none_of KX G ?w4⟩
      (case z0 => k_is); (case z1 => k_is); (case z2 => k_is); (case z3 => k_is); (case z4 => k_is); (case z5 => k_is); (case z6 => k_is); (case z7 => k_is); (case z8 => k_is); (case z9 => k_is); (case w0 => k_is); (case w1 => k_is); (case w2 => k_is); (case w3 => k_is); (case w4 => k_is)
    have N : Ov.Nought (L2.KOf KX) mg := by
      dsimp only [L2.KOf]
      refine' Ov.nought_mk KX G ?a ?l
      (case a => k_is); (case l => k_is)
    obtain ⟨fd, F, hb⟩ := Ov.law_fd D_law hmg (fun _ _ _ _ _ _ _ => rfl)
    exact ⟨fd, hb, fun base _ _ => Ov.law_down (Ov.all_ok Z N KD_Log NA_Log_rows NA_Log_gone D_digits D_shared D_fraction D_low D_less D_plus D_minus D_times D_cell D_place_on D_at D_above D_meeting D_came_from_above D_going D_goings_by D_whole D_part D_later D_turned D_held D_logged D_placed D_paced D_hit D_side D_goings D_goingrows MD_Log___init__ MD_Log_turn MD_Log_legs F base)⟩
